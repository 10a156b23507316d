import Derived.Test.YtcjdbhcpcigmdaaDoorWb
namespace Go.Proofs.YtcjdbhcpcigmdaaDoor
open Go.RowKit Go.Proofs.YtcjdbhcpcigmdaaDoor.Flt

structure FirstInv (w : World) (B j i : Nat) (wr : World) : Prop where
  h6 : wr.heap[B]? = some (.cells #[.int .i64 (dAt (10 - j) i).1, .int .i64 (dAt (10 - j) i).2] 51 (0, 0))
  h7 : wr.heap[B + 1]? = some (.cells #[.int .i64 (dAt (10 - j) (i + 1)).1, .int .i64 (dAt (10 - j) (i + 1)).2] 51 (0, 0))
  hb : Below w.heap.size w wr
  hlt : w.heap.size ≤ B

set_option maxRecDepth 100000 in
set_option maxHeartbeats 2000000 in
/-- THE REFERENCE's PHASE OF THE FIRST EIGHTH, off the diagonal -/
theorem first_off (x y : Nat) (hx : x ≤ 100000000000) (hy : y < x) (w : World) :
    Calls Tryd.prog 116 #[.int .i64 x, .int .i64 y] w fun e w' => e = .returned (.int .i64 (ph0 x y)) ∧ Below w.heap.size w w' := by
  have CD := Lib.hid ends_any
  have hd1 : Hid (dAt (10 - 10) (0 + 1) = (diag, diag)) := rfl
  have hd0 : Hid (dAt (10 - 10) 0 = (16777216, 0)) := rfl
  generalize diag = d at *
  obtain ⟨R, hR⟩ : ∃ R, R = hv (fun _ d => decide (d.2 * x ≤ d.1 * y)) 10 0 := ⟨_, rfl⟩
  have hph : Hid (ph0 x y = ((R + 1) / 2 : Nat)) := by
    unfold Hid ph0 halv
    rw [if_neg (by omega), hR]
  have HR : Hid (hv (fun _ d => decide (d.2 * x ≤ d.1 * y)) 10 0 = R) := hR.symm
  have hRb : R ≤ 1024 := by rw [hR]; have := hv_lt (fun _ d => decide (d.2 * x ≤ d.1 * y)) 10 0; omega
  clear hR
  have h0 : ((x : Int) == y) = false := by rw [beq_eq_false_iff_ne]; omega
  generalize ph0 x y = P at *
  go_enter Tryd.func116, Tryd.ntmps116
  go_wp2_with fail
  refine (CD.out _).mono ?_
  rintro e w1 ⟨rfl, hb1⟩
  have I0 : Hid (FirstInv w w1.heap.size 10 0 ((w1.alloc (.cells #[.int .i64 16777216, .int .i64 0] 51)).alloc (.cells #[.int .i64 d, .int .i64 d] 51))) := by
    refine ⟨?_, ?_, (hb1.alloc hb1.size _).alloc (by have := hb1.size; simp; omega) _, hb1.size⟩
    · rw [Below.heap_alloc _ _ _ (by simp), hd0.out]; exact heap_alloc_new _ _
    · have := heap_alloc_new (w1.alloc (.cells #[.int .i64 16777216, .int .i64 0] 51)) (.cells #[.int .i64 d, .int .i64 d] 51)
      rw [World.size_alloc] at this
      rw [hd1.out]; exact this
  clear hb1 hd0 hd1
  go_wp2_with fail
  go_loopw [7, 8] (fun a b wr => ∃ j i : Nat, j ≤ 10 ∧ (i + 1) * 2 ^ j ≤ 1024 ∧ a = .int .i64 ((i * 2 ^ j : Nat) : Int) ∧ b = .int .i64 (((i + 1) * 2 ^ j : Nat) : Int) ∧ Hid (hv (fun _ d => decide (d.2 * x ≤ d.1 * y)) j i = R) ∧ Hid (FirstInv w w1.heap.size j i wr)) (fun a b _ => (intOf b - intOf a).toNat)
  case atStart => exact ⟨10, 0, by omega, by decide, rfl, rfl, HR, I0⟩
  case round =>
    obtain ⟨j, i, hj, hi, rfl, rfl, HV, IK⟩ := hrel
    clear I0 HR
    obtain ⟨wz, rfl⟩ : ∃ wz : World, wz = wr := ⟨_, rfl⟩
    obtain ⟨c0, c1, f0, f1, l6⟩ := two_cells IK.out.h6
    obtain ⟨c2, c3, f2, f3, l7⟩ := two_cells IK.out.h7
    have ne := IK.out.hlt
    cases j with
    | zero =>
      have e1 : Hid (i = R) := HV.out
      have hi' : i ≤ 1024 := by rw [e1.out]; exact hRb
      have HB := Lib.hid IK.out.hb
      simp only [Nat.pow_zero, Nat.mul_one] at hi ⊢
      clear HV IK c0 c1 f0 f1 c2 c3 f2 f3 hj
      go_wp2_with fail
      go_ret
      exact ⟨by rw [hph.out, ← e1.out]; rfl, HB.out⟩
    | succ j =>
      have e10 : 10 - j = (10 - (j + 1)) + 1 := by omega
      have D1e : dAt (10 - j) (2 * i) = dAt (10 - (j + 1)) i := by rw [e10]; exact dAt_even _ _
      have D2e : dAt (10 - j) (2 * i + 1 + 1) = dAt (10 - (j + 1)) (i + 1) := by rw [e10, show 2 * i + 1 + 1 = 2 * (i + 1) from by omega]; exact dAt_even _ _
      have D3e : dAt (10 - j) (2 * i + 1) = btw (dAt (10 - (j + 1)) i) (dAt (10 - (j + 1)) (i + 1)) := by rw [e10]; exact dAt_odd _ _
      have HV1 := HV.out
      rw [hv, D3e] at HV1
      have G1 := dAt_good (10 - (j + 1)) i
      have G2 := dAt_good (10 - (j + 1)) (i + 1)
      have G3 := (btw_facts G1 G2).2.2.2
      have IK2 := IK
      have HI3 := Lib.hid (And.intro IK.out.h6 IK.out.h7)
      generalize dAt (10 - (j + 1)) i = D1 at *
      generalize dAt (10 - (j + 1)) (i + 1) = D2 at *
      have CB := Lib.hid (Half_any D1 D2 G1 G2)
      generalize btw D1 D2 = D3 at *
      -- the numbers
      have hP := Nat.two_pow_pos j
      have p1 : i * 2 ^ (j + 1) + 2 * 2 ^ j = (i + 1) * 2 ^ (j + 1) := by rw [Nat.add_mul, Nat.one_mul, Nat.pow_succ]; omega
      have p2 : (2 * i + 1) * 2 ^ j = i * 2 ^ (j + 1) + 2 ^ j := by rw [Nat.add_mul, Nat.one_mul, Nat.pow_succ, Nat.mul_comm 2 i, Nat.mul_assoc, Nat.mul_comm 2 (2 ^ j)]
      have p3 : 2 * i * 2 ^ j = i * 2 ^ (j + 1) := by rw [Nat.pow_succ, Nat.mul_comm 2 i, Nat.mul_assoc, Nat.mul_comm 2 (2 ^ j)]
      have p4 : (2 * i + 1 + 1) * 2 ^ j = (i + 1) * 2 ^ (j + 1) := by rw [← p1, ← p3, show 2 * i + 1 + 1 = 2 * i + 2 from rfl, Nat.add_mul]
      obtain ⟨M, hM⟩ : ∃ M, M = (2 * i + 1) * 2 ^ j := ⟨_, rfl⟩
      obtain ⟨A, hA⟩ : ∃ A, A = i * 2 ^ (j + 1) := ⟨_, rfl⟩
      obtain ⟨S, hS⟩ : ∃ S, S = (i + 1) * 2 ^ (j + 1) := ⟨_, rfl⟩
      rw [← hA, ← hS]
      have q1 : A + 2 ≤ S := by omega
      have q2 : S ≤ 1024 := by omega
      have q3 : M ≤ 1024 := by omega
      have qm : ((A : Int) + S) / 2 = (M : Int) := by omega
      have q4 : A < M := by omega
      have q5 : M < S := by omega
      have HN1 : Hid (2 * i * 2 ^ j = A ∧ (2 * i + 1) * 2 ^ j = M ∧ (2 * i + 1 + 1) * 2 ^ j = S) := ⟨by omega, hM.symm, by omega⟩
      have HD := Lib.hid (And.intro D1e (And.intro D3e D2e))
      have g1 := G3.le
      have g2 := G3.low
      clear p1 p2 p3 p4 hM hA hS hP D1e D2e D3e HV hi G1 G2 G3 e10
      have tail : Hid (∀ w2, Below wz.heap.size wz w2 → w2.heap[w1.heap.size]? = some (.cells #[.int .i64 D1.1, .int .i64 D1.2] 51 (0, 0)) ∧ w2.heap[w1.heap.size + 1]? = some (.cells #[.int .i64 D2.1, .int .i64 D2.2] 51 (0, 0)) ∧ Below w.heap.size w w2) := fun w2 hb2 =>
        ⟨(hb2.block _ l6).trans HI3.out.1, (hb2.block _ l7).trans HI3.out.2, IK2.out.hb.trans (hb2.mono IK2.out.hb.size)⟩
      -- the products
      have u1 : D3.1 * y ≤ 16777216 * 100000000000 := Nat.mul_le_mul g1 (by omega)
      have u2 : D3.2 * x ≤ 16777216 * 100000000000 := Nat.mul_le_mul (by omega) hx
      have v1 : 0 ≤ (D3.1 : Int) * y := by rw [← Int.natCast_mul]; omega
      have v2 : (D3.1 : Int) * y ≤ 1677721600000000000 := by rw [← Int.natCast_mul]; omega
      have v3 : 0 ≤ (D3.2 : Int) * x := by rw [← Int.natCast_mul]; omega
      have v4 : (D3.2 : Int) * x ≤ 1677721600000000000 := by rw [← Int.natCast_mul]; omega
      have v5 : (D3.2 * x ≤ D3.1 * y) ↔ ((D3.2 : Int) * x ≤ (D3.1 : Int) * y) := by rw [← Int.natCast_mul, ← Int.natCast_mul]; omega
      by_cases hc : D3.2 * x ≤ D3.1 * y
      · have hc' := v5.1 hc
        have HVn : Hid (hv (fun _ d => decide (d.2 * x ≤ d.1 * y)) j (2 * i + 1) = R) := by
          rw [decide_eq_true hc, if_pos rfl] at HV1; exact HV1
        clear hc HV1 u1 u2 v5
        go_wp2_with fail
        refine (CB.out _).mono ?_
        rintro e w2 ⟨rfl, hb2⟩
        have HO2 := Lib.hid (tail.out w2 hb2)
        clear hb2 tail c0 c1 c2 c3 f0 f1 f2 f3 CB
        have HO3 : Hid (∀ w3, w3 = w2.alloc (.cells #[.int .i64 D3.1, .int .i64 D3.2] 51) → w3.heap[w1.heap.size]? = some (.cells #[.int .i64 D1.1, .int .i64 D1.2] 51 (0, 0)) ∧ w3.heap[w1.heap.size + 1]? = some (.cells #[.int .i64 D2.1, .int .i64 D2.2] 51 (0, 0)) ∧
            w3.heap[w2.heap.size]? = some (.cells #[.int .i64 D3.1, .int .i64 D3.2] 51 (0, 0)) ∧ Below w.heap.size w w3) := by
          rintro w3 rfl
          obtain ⟨x2, x3, x4⟩ := HO2.out
          exact ⟨(Below.heap_alloc _ _ _ (lt_of_block x2)).trans x2, (Below.heap_alloc _ _ _ (lt_of_block x3)).trans x3, heap_alloc_new _ _, x4.alloc x4.size _⟩
        have l7'' := lt_of_block HO2.out.2.1
        go_wp2_with fail
        obtain ⟨w3, hw3⟩ : ∃ w3, w3 = w2.alloc (.cells #[.int .i64 D3.1, .int .i64 D3.2] 51) := ⟨_, rfl⟩
        have HO4 := Lib.hid (HO3.out w3 hw3)
        rw [← hw3]
        clear hw3 HO2 HO3
        obtain ⟨k0, k1, -, -, lk⟩ := two_cells HO4.out.2.2.1
        obtain ⟨z0, z1, x0, x1, -⟩ := two_cells HO4.out.1
        go_region
        go_wp2_with fail
        go_roundw
        case rel =>
          refine ⟨j, 2 * i + 1, by omega, ?_, ?_, ?_, HVn, ?_⟩
          · rw [HN1.out.2.2]; exact q2
          · rw [HN1.out.2.1]
          · rw [HN1.out.2.2]
          · have ho := HO4.out
            have hd := HD.out
            refine ⟨?_, ?_, ?_, ne⟩
            · rw [hd.2.1, heap_drew, heap_setCell_same _ _ _ _ _ _ (heap_setCell_same _ _ _ _ _ _ (by exact ho.1))]; rfl
            · rw [hd.2.2, heap_drew]
              exact (Below.heap_setCell _ _ _ _ (by show w1.heap.size + 1 ≠ w1.heap.size; omega)).trans ((Below.heap_setCell _ _ _ _ (by show w1.heap.size + 1 ≠ w1.heap.size; omega)).trans ho.2.1)
            · exact ((ho.2.2.2.setCell (p := ⟨w1.heap.size, 0, none⟩) (by show w.heap.size ≤ w1.heap.size; omega) _).setCell (p := ⟨w1.heap.size, 1, none⟩) (by show w.heap.size ≤ w1.heap.size; omega) _).drew
        case measure => simp [intOf]; omega
      · have hc' : ¬ (D3.2 : Int) * x ≤ (D3.1 : Int) * y := fun h => hc (v5.2 h)
        have HVn : Hid (hv (fun _ d => decide (d.2 * x ≤ d.1 * y)) j (2 * i) = R) := by
          rw [decide_eq_false hc, if_neg (by decide)] at HV1; exact HV1
        clear hc HV1 u1 u2 v5
        go_wp2_with fail
        refine (CB.out _).mono ?_
        rintro e w2 ⟨rfl, hb2⟩
        have HO2 := Lib.hid (tail.out w2 hb2)
        clear hb2 tail c0 c1 c2 c3 f0 f1 f2 f3 CB
        have HO3 : Hid (∀ w3, w3 = w2.alloc (.cells #[.int .i64 D3.1, .int .i64 D3.2] 51) → w3.heap[w1.heap.size]? = some (.cells #[.int .i64 D1.1, .int .i64 D1.2] 51 (0, 0)) ∧ w3.heap[w1.heap.size + 1]? = some (.cells #[.int .i64 D2.1, .int .i64 D2.2] 51 (0, 0)) ∧
            w3.heap[w2.heap.size]? = some (.cells #[.int .i64 D3.1, .int .i64 D3.2] 51 (0, 0)) ∧ Below w.heap.size w w3) := by
          rintro w3 rfl
          obtain ⟨x2, x3, x4⟩ := HO2.out
          exact ⟨(Below.heap_alloc _ _ _ (lt_of_block x2)).trans x2, (Below.heap_alloc _ _ _ (lt_of_block x3)).trans x3, heap_alloc_new _ _, x4.alloc x4.size _⟩
        have l7'' := lt_of_block HO2.out.2.1
        go_wp2_with fail
        obtain ⟨w3, hw3⟩ : ∃ w3, w3 = w2.alloc (.cells #[.int .i64 D3.1, .int .i64 D3.2] 51) := ⟨_, rfl⟩
        have HO4 := Lib.hid (HO3.out w3 hw3)
        rw [← hw3]
        clear hw3 HO2 HO3
        obtain ⟨k0, k1, -, -, lk⟩ := two_cells HO4.out.2.2.1
        obtain ⟨z0, z1, x0, x1, -⟩ := two_cells HO4.out.2.1
        go_region
        go_wp2_with fail
        go_roundw
        case rel =>
          refine ⟨j, 2 * i, by omega, ?_, ?_, ?_, HVn, ?_⟩
          · rw [HN1.out.2.1]; exact q3
          · rw [HN1.out.1]
          · rw [HN1.out.2.1]
          · have ho := HO4.out
            have hd := HD.out
            refine ⟨?_, ?_, ?_, ne⟩
            · rw [hd.1, heap_drew]
              exact (Below.heap_setCell _ _ _ _ (by show w1.heap.size ≠ w1.heap.size + 1; omega)).trans ((Below.heap_setCell _ _ _ _ (by show w1.heap.size ≠ w1.heap.size + 1; omega)).trans ho.1)
            · rw [hd.2.1, heap_drew, heap_setCell_same _ _ _ _ _ _ (heap_setCell_same _ _ _ _ _ _ (by exact ho.2.1))]; rfl
            · exact ((ho.2.2.2.setCell (p := ⟨w1.heap.size + 1, 0, none⟩) (by show w.heap.size ≤ w1.heap.size + 1; omega) _).setCell (p := ⟨w1.heap.size + 1, 1, none⟩) (by show w.heap.size ≤ w1.heap.size + 1; omega) _).drew
        case measure => simp [intOf]; omega
end Go.Proofs.YtcjdbhcpcigmdaaDoor
