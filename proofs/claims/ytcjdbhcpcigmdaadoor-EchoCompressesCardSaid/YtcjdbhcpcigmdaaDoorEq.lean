import Derived.Test.YtcjdbhcpcigmdaaDoorEp
namespace Go.Proofs.YtcjdbhcpcigmdaaDoor
open Go.RowKit Go.Proofs.YtcjdbhcpcigmdaaDoor.Flt

theorem isqrt_unique {n k : Nat} (hn : n < 2 ^ 54) (h1 : k * k ≤ n) (h2 : n < (k + 1) * (k + 1)) : isqrt n = k := by
  obtain ⟨s1, s2⟩ := isqrt_spec n hn
  have a := lt_of_sq (Nat.lt_of_le_of_lt h1 s2)
  have b := lt_of_sq (Nat.lt_of_le_of_lt s1 h2)
  omega

set_option maxRecDepth 100000 in
/-- THE REFERENCE's ROOT -/
theorem Root_any (n : Nat) (hn : n < 2 ^ 52) (w : World) :
    Calls Tryd.prog 125 #[.int .i64 n] w fun e w' => e = .returned (.int .i64 (isqrt n)) ∧ w = w' := by
  have HQ : Hid (∀ k, k * k ≤ n → n < (k + 1) * (k + 1) → isqrt n = k) := fun k h1 h2 => isqrt_unique (Nat.lt_trans hn (by decide)) h1 h2
  have hn2 : n < 4503599627370496 := hn
  generalize isqrt n = R at *
  clear hn
  go_enter Tryd.func125, Tryd.ntmps125
  go_wp2_with fail
  go_loop [3, 4] (fun rv bv => ∃ r j : Nat, rv = .int .i64 r ∧ bv = .int .i64 (2 ^ j / 2 : Nat) ∧ j ≤ 31 ∧ Hid (r * r ≤ n ∧ n < (r + 2 ^ j) * (r + 2 ^ j))) (fun _ bv => (intOf bv).toNat)
  case atStart => exact ⟨0, 31, rfl, rfl, by omega, by show 0 * 0 ≤ n ∧ n < _; constructor <;> omega⟩
  case round =>
    obtain ⟨r, j, rfl, rfl, hj, HK⟩ := hrel
    cases j with
    | zero =>
      have HF : Hid (R = r) := HQ.out r HK.out.1 HK.out.2
      have e0 : ((2 ^ 0 / 2 : Nat) : Int) = 0 := rfl
      rw [e0]
      clear HK e0
      go_wp2_with fail
      go_ret
      exact ⟨by rw [HF.out]; rfl, rfl⟩
    | succ i =>
      have e1 : 2 ^ (i + 1) / 2 = 2 ^ i := by rw [Nat.pow_succ]; omega
      have e2 : 2 ^ (i + 1) = 2 ^ i + 2 ^ i := by rw [Nat.pow_succ]; omega
      rw [e1]
      have HK1 := HK.out.1
      have HK2 := HK.out.2
      rw [e2] at HK2
      have b1 : 1 ≤ 2 ^ i := Nat.one_le_two_pow
      have b2 : 2 ^ i ≤ 1073741824 := Nat.le_trans (Nat.pow_le_pow_right (by decide) (show i ≤ 30 by omega)) (by decide)
      have HI : Hid (∀ r' : Nat, r' * r' ≤ n → n < (r' + 2 ^ i) * (r' + 2 ^ i) → ∃ r j : Nat, (Value.int .i64 (r' : Int)) = .int .i64 r ∧ (Value.int .i64 ((2 ^ i / 2 : Nat) : Int)) = .int .i64 (2 ^ j / 2 : Nat) ∧ j ≤ 31 ∧ Hid (r * r ≤ n ∧ n < (r + 2 ^ j) * (r + 2 ^ j))) := fun r' h1 h2 => ⟨r', i, rfl, rfl, by omega, ⟨h1, h2⟩⟩
      generalize 2 ^ i = b at *
      have r1 : r < 67108864 := by
        apply lt_of_sq
        exact Nat.lt_of_le_of_lt HK1 hn2
      have p1 : (r + b) * (r + b) ≤ 1140850688 * 1140850688 := Nat.mul_le_mul (by omega) (by omega)
      have ec : ((r : Int) + b) * ((r : Int) + b) = (((r + b) * (r + b) : Nat) : Int) := by rw [Int.natCast_mul, Int.natCast_add]
      have HE2 := Lib.hid e2
      clear e1 e2 hj HK
      by_cases hc : (r + b) * (r + b) ≤ n
      · have HN := Lib.hid (HI.out (r + b) hc (by rw [Nat.add_assoc]; exact HK2))
        have q1 : ((r : Int) + b) * ((r : Int) + b) ≤ n := by rw [ec]; exact_mod_cast hc
        have q0 : 0 ≤ ((r : Int) + b) * ((r : Int) + b) := by rw [ec]; omega
        have q2 : ((r : Int) + b) * ((r : Int) + b) ≤ 1301540292310073344 := by rw [ec]; omega
        clear HK1 HK2 HI ec p1 hc
        go_wp2_with fail
        go_round
        case rel => have h := HN.out; rw [Int.natCast_add, Int.natCast_ediv] at h; exact h
        case measure => show ((b : Int) / 2).toNat < ((b : Nat) : Int).toNat; omega
      · have HN := Lib.hid (HI.out r HK1 (by omega))
        have q1 : ¬ ((r : Int) + b) * ((r : Int) + b) ≤ n := by rw [ec]; exact_mod_cast hc
        have q0 : 0 ≤ ((r : Int) + b) * ((r : Int) + b) := by rw [ec]; omega
        have q2 : ((r : Int) + b) * ((r : Int) + b) ≤ 1301540292310073344 := by rw [ec]; omega
        clear HK1 HK2 HI ec p1 hc
        go_wp2_with fail
        go_round
        case rel => have h := HN.out; rw [Int.natCast_ediv] at h; exact h
        case measure => show ((b : Int) / 2).toNat < ((b : Nat) : Int).toNat; omega
set_option maxRecDepth 100000 in
set_option maxHeartbeats 1000000 in
theorem Half_any (a b : Nat × Nat) (ha : GoodD a) (hb : GoodD b) (w : World) :
    Calls Tryd.prog 104 #[.agg #[.int .i64 a.1, .int .i64 a.2], .agg #[.int .i64 b.1, .int .i64 b.2]] w (PairOk (btw a b).1 (btw a b).2 w) := by
  obtain ⟨n1, n2, n3, g3⟩ := btw_facts ha hb
  have C := Lib.hid (Root_any _ n2)
  have h2 := ha.le; have h3 := ha.low
  have h5 := hb.le; have h6 := hb.low
  have t1 : (btw a b).1 = (a.1 + b.1) * 16777216 / isqrt ((a.1 + b.1) * (a.1 + b.1) + (a.2 + b.2) * (a.2 + b.2)) := rfl
  have t2 : (btw a b).2 = (a.2 + b.2) * 16777216 / isqrt ((a.1 + b.1) * (a.1 + b.1) + (a.2 + b.2) * (a.2 + b.2)) := rfl
  rw [t1, t2]
  obtain ⟨a1, a2⟩ := a
  obtain ⟨b1, b2⟩ := b
  dsimp only at *
  have u1 : IntKind.i64.wrap ((a1 : Int) + b1) = ((a1 + b1 : Nat) : Int) := by rw [← Int.natCast_add]; exact IntWalk.i64_in _ ⟨by omega, by omega⟩
  have u2 : IntKind.i64.wrap ((a2 : Int) + b2) = ((a2 + b2 : Nat) : Int) := by rw [← Int.natCast_add]; exact IntWalk.i64_in _ ⟨by omega, by omega⟩
  generalize hx : a1 + b1 = x at *
  generalize hy : a2 + b2 = y at *
  have x2 : x ≤ 33554432 := by omega
  have y2 : y ≤ 33554432 := by omega
  have hxx : x * x ≤ 33554432 * 33554432 := Nat.mul_le_mul x2 x2
  have hyy : y * y ≤ 33554432 * 33554432 := Nat.mul_le_mul y2 y2
  have hcast : ((x : Int) * x + (y : Int) * y) = ((x * x + y * y : Nat) : Int) := by rw [Int.natCast_add, Int.natCast_mul, Int.natCast_mul]
  have hc1 : (0 : Int) ≤ (x : Int) * x := by rw [← Int.natCast_mul]; omega
  have hc2 : (x : Int) * x ≤ 1125899906842624 := by rw [← Int.natCast_mul]; omega
  have hc3 : (0 : Int) ≤ (y : Int) * y := by rw [← Int.natCast_mul]; omega
  have hc4 : (y : Int) * y ≤ 1125899906842624 := by rw [← Int.natCast_mul]; omega
  have HC := Lib.hid hcast
  generalize isqrt (x * x + y * y) = r at *
  have HT : Hid ((((x : Int) * 16777216) / (r : Int) = ((x * 16777216 / r : Nat) : Int)) ∧ (((y : Int) * 16777216) / (r : Int) = ((y * 16777216 / r : Nat) : Int))) := ⟨by rw [Int.natCast_ediv, Int.natCast_mul]; rfl, by rw [Int.natCast_ediv, Int.natCast_mul]; rfl⟩
  clear hcast t1 t2 g3 n1 n2 h3 h6 h2 h5 ha hb hxx hyy hx hy
  go_enter Tryd.func104, Tryd.ntmps104
  go_wp2_with fail
  go_quiet (fail)
  go_wp2_with fail
  rw [HC.out]
  refine (C.out _).mono ?_
  rintro e w' ⟨rfl, rfl⟩
  have m1 : IntKind.i64.wrap ((x : Int) * 16777216) = (x : Int) * 16777216 := IntWalk.i64_in _ ⟨by omega, by omega⟩
  have m2 : IntKind.i64.wrap ((y : Int) * 16777216) = (y : Int) * 16777216 := IntWalk.i64_in _ ⟨by omega, by omega⟩
  go_wp2_with fail
  go_region
  go_wp2_with fail
  refine bodyPost_ret (v := .agg #[.int .i64 ((x : Int) * 16777216 / r), .int .i64 ((y : Int) * 16777216 / r)]) (by simp [results, Tryd.results104, go_sem]) rfl ⟨by rw [HT.out.1, HT.out.2], ?_⟩
  exact ((((((Below.refl _ _).alloc (Nat.le_refl _) _).alloc (by simp) _).alloc (by simp; omega) _).trans (below_drewN' _ _ _)).setCell (p := ⟨w.heap.size + 1 + 1, 0, none⟩) (by show w.heap.size ≤ w.heap.size + 1 + 1; omega) _).setCell (p := ⟨w.heap.size + 1 + 1, 1, none⟩) (by show w.heap.size ≤ w.heap.size + 1 + 1; omega) _


theorem ends_any (w : World) : Calls Tryd.prog 103 #[] w fun e w' => e = .returned (.tuple #[.agg #[.int .i64 16777216, .int .i64 0], .agg #[.int .i64 diag, .int .i64 diag]]) ∧ Below w.heap.size w w' := by
  have C := Root_any 140737488355328 (by decide)
  rw [diag_isqrt] at C
  generalize diag = d at *
  have C' := Lib.hid C
  clear C
  go_enter Tryd.func103, Tryd.ntmps103
  go_wp2_with fail
  refine (C'.out _).mono ?_
  rintro e w' ⟨rfl, rfl⟩
  go_wp2_with fail
  exact bodyPost_ret (v := .tuple #[.agg #[.int .i64 16777216, .int .i64 0], .agg #[.int .i64 d, .int .i64 d]]) (by simp [results, Tryd.results103, go_sem]) rfl ⟨rfl, ((Below.refl _ _).alloc (Nat.le_refl _) _).alloc (by simp) _⟩

theorem dAt_scale (t i : Nat) : ∀ s, dAt (t + s) (i * 2 ^ s) = dAt t i
  | 0 => by simp
  | s + 1 => by
    rw [show t + (s + 1) = (t + s) + 1 from by omega, show i * 2 ^ (s + 1) = 2 * (i * 2 ^ s) from by rw [Nat.pow_succ]; rw [← Nat.mul_assoc, Nat.mul_comm], dAt_even]
    exact dAt_scale t i s

set_option maxRecDepth 100000 in
set_option maxHeartbeats 2000000 in
/-- THE REFERENCE's DIRECTION -/
theorem refDirection_any (m : Nat) (h1 : 1 ≤ m) (h2 : m ≤ 1024) (w : World) :
    Calls Tryd.prog 54 #[.int .i64 m] w fun e w' => e = .returned (.agg #[.int .i64 (dAt 10 m).1, .int .i64 (dAt 10 m).2]) ∧ Below w.heap.size w w' := by
  have CD := Lib.hid ends_any
  have hd1 : Hid (dAt (10 - 10) (0 + 1) = (diag, diag)) := rfl
  have hd0 : Hid (dAt (10 - 10) 0 = (16777216, 0)) := rfl
  generalize diag = d at *
  obtain ⟨DM, hDM⟩ : ∃ DM, DM = dAt 10 m := ⟨_, rfl⟩
  rw [← hDM]
  have HDM := Lib.hid hDM
  clear hDM
  have h0 : ((m : Int) == 0) = false := by rw [beq_eq_false_iff_ne]; omega
  go_enter Tryd.func54, Tryd.ntmps54
  go_wp2_with fail
  refine (CD.out _).mono ?_
  rintro e w1 ⟨rfl, hb1⟩
  have hs1 := hb1.size
  simp at hs1
  have hB1 : Below w.heap.size w w1 := ((Below.refl _ _).alloc (Nat.le_refl _) _).trans (hb1.mono (by simp))
  have hN : w1.heap[w.heap.size]? = some (.cells #[.int .i64 0, .int .i64 0] 51 (0, 0)) := (hb1.block _ (by simp)).trans (heap_alloc_new _ _)
  have I0 : Hid (HalveInv w w1.heap.size 10 0 ((w1.alloc (.cells #[.int .i64 16777216, .int .i64 0] 51)).alloc (.cells #[.int .i64 d, .int .i64 d] 51))) := by
    refine ⟨?_, ?_, ?_, (hB1.alloc hB1.size _).alloc (by simp; omega) _, by omega⟩
    · rw [Below.heap_alloc _ _ _ (by simp; omega), Below.heap_alloc _ _ _ (by omega)]; exact hN
    · rw [Below.heap_alloc _ _ _ (by simp), hd0.out]; exact heap_alloc_new _ _
    · have := heap_alloc_new (w1.alloc (.cells #[.int .i64 16777216, .int .i64 0] 51)) (.cells #[.int .i64 d, .int .i64 d] 51)
      rw [World.size_alloc] at this
      rw [hd1.out]; exact this
  clear hb1 hB1 hN hs1 hd0 hd1
  go_wp2_with fail
  go_loopw [5, 6] (fun a b wr => ∃ j i : Nat, j ≤ 10 ∧ (i + 1) * 2 ^ j ≤ 1024 ∧ a = .int .i64 ((i * 2 ^ j : Nat) : Int) ∧ b = .int .i64 (((i + 1) * 2 ^ j : Nat) : Int) ∧ Hid (i * 2 ^ j < m ∧ m ≤ (i + 1) * 2 ^ j) ∧ Hid (HalveInv w w1.heap.size j i wr)) (fun a b _ => (intOf b - intOf a).toNat)
  case atStart => exact ⟨10, 0, by omega, by decide, rfl, rfl, by show 0 * 2 ^ 10 < m ∧ m ≤ (0 + 1) * 2 ^ 10; omega, I0⟩
  case round =>
    obtain ⟨j, i, hj, hi, rfl, rfl, HV, IK⟩ := hrel
    clear I0
    obtain ⟨wz, rfl⟩ : ∃ wz : World, wz = wr := ⟨_, rfl⟩
    obtain ⟨c0, c1, f0, f1, l6⟩ := two_cells IK.out.h6
    obtain ⟨c2, c3, f2, f3, l7⟩ := two_cells IK.out.h7
    obtain ⟨z0, z1, y0, y1, l3⟩ := two_cells IK.out.h3
    have ne := IK.out.hlt
    cases j with
    | zero =>
      have e1 : Hid (m = i + 1) := by have := HV.out; unfold Hid; simp at this; omega
      have HB := Lib.hid IK.out.hb
      simp only [Nat.pow_zero, Nat.mul_one] at hi ⊢
      rw [show 10 - 0 = 10 from rfl, ← e1.out, ← HDM.out] at c2 c3
      clear HV IK c0 c1 f0 f1 hj
      go_wp2_with fail
      refine bodyPost_ret (v := .agg #[.int .i64 DM.1, .int .i64 DM.2]) (by simp [results, Tryd.results54, go_sem, z0, z1]) rfl ⟨rfl, ?_⟩
      exact ((HB.out.setCell (p := ⟨w.heap.size, 0, none⟩) (Nat.le_refl _) _).setCell (p := ⟨w.heap.size, 1, none⟩) (Nat.le_refl _) _)
    | succ j =>
      have e10 : 10 - j = (10 - (j + 1)) + 1 := by omega
      have D1e : dAt (10 - j) (2 * i) = dAt (10 - (j + 1)) i := by rw [e10]; exact dAt_even _ _
      have D2e : dAt (10 - j) (2 * i + 1 + 1) = dAt (10 - (j + 1)) (i + 1) := by rw [e10, show 2 * i + 1 + 1 = 2 * (i + 1) from by omega]; exact dAt_even _ _
      have D3e : dAt (10 - j) (2 * i + 1) = btw (dAt (10 - (j + 1)) i) (dAt (10 - (j + 1)) (i + 1)) := by rw [e10]; exact dAt_odd _ _
      have D4e : Hid (dAt 10 ((2 * i + 1) * 2 ^ j) = dAt (10 - j) (2 * i + 1)) := by
        have := dAt_scale (10 - j) (2 * i + 1) j
        rw [show 10 - j + j = 10 from by omega] at this
        exact this
      have G1 := dAt_good (10 - (j + 1)) i
      have G2 := dAt_good (10 - (j + 1)) (i + 1)
      have IK2 := IK
      have HI3 := Lib.hid (And.intro IK.out.h3 (And.intro IK.out.h6 IK.out.h7))
      have HV1 := HV.out
      generalize dAt (10 - (j + 1)) i = D1 at *
      generalize dAt (10 - (j + 1)) (i + 1) = D2 at *
      have CB := Lib.hid (Half_any D1 D2 G1 G2)
      generalize btw D1 D2 = D3 at *
      -- the numbers
      have hP := Nat.two_pow_pos j
      have p1 : i * 2 ^ (j + 1) + 2 * 2 ^ j = (i + 1) * 2 ^ (j + 1) := by rw [Nat.add_mul, Nat.one_mul, Nat.pow_succ]; omega
      have p2 : (2 * i + 1) * 2 ^ j = i * 2 ^ (j + 1) + 2 ^ j := by rw [Nat.add_mul, Nat.one_mul, Nat.pow_succ, Nat.mul_comm 2 i, Nat.mul_assoc, Nat.mul_comm 2 (2 ^ j)]
      have p3 : 2 * i * 2 ^ j = i * 2 ^ (j + 1) := by rw [Nat.pow_succ, Nat.mul_comm 2 i, Nat.mul_assoc, Nat.mul_comm 2 (2 ^ j)]
      have p4 : (2 * i + 1 + 1) * 2 ^ j = (i + 1) * 2 ^ (j + 1) := by rw [← p1, ← p3, show 2 * i + 1 + 1 = 2 * i + 2 from rfl, Nat.add_mul]
      obtain ⟨M, hM⟩ : ∃ M, M = (2 * i + 1) * 2 ^ j := ⟨_, rfl⟩
      obtain ⟨A, hA⟩ : ∃ A, A = i * 2 ^ (j + 1) := ⟨_, rfl⟩
      obtain ⟨S, hS⟩ : ∃ S, S = (i + 1) * 2 ^ (j + 1) := ⟨_, rfl⟩
      rw [← hM] at D4e
      rw [← hA, ← hS] at HV1
      rw [← hA, ← hS]
      obtain ⟨v1, v2⟩ := HV1
      have q1 : A + 2 ≤ S := by omega
      have q2 : S ≤ 1024 := by omega
      have q3 : M ≤ 1024 := by omega
      have qm : ((A : Int) + S) / 2 = (M : Int) := by omega
      have q4 : A < M := by omega
      have q5 : M < S := by omega
      have HN1 : Hid (2 * i * 2 ^ j = A ∧ (2 * i + 1) * 2 ^ j = M ∧ (2 * i + 1 + 1) * 2 ^ j = S) := ⟨by omega, hM.symm, by omega⟩
      have HD := Lib.hid (And.intro D1e (And.intro D3e D2e))
      clear p1 p2 p3 p4 hM hA hS hP D1e D2e D3e HV hi G1 G2 e10
      have tail : Hid (∀ w2, Below wz.heap.size wz w2 → w2.heap[w.heap.size]? = some (.cells #[.int .i64 0, .int .i64 0] 51 (0, 0)) ∧ w2.heap[w1.heap.size]? = some (.cells #[.int .i64 D1.1, .int .i64 D1.2] 51 (0, 0)) ∧ w2.heap[w1.heap.size + 1]? = some (.cells #[.int .i64 D2.1, .int .i64 D2.2] 51 (0, 0)) ∧ Below w.heap.size w w2) := fun w2 hb2 =>
        ⟨(hb2.block _ l3).trans HI3.out.1, (hb2.block _ l6).trans HI3.out.2.1, (hb2.block _ l7).trans HI3.out.2.2, IK2.out.hb.trans (hb2.mono IK2.out.hb.size)⟩
      rcases Nat.lt_trichotomy M m with hc | hc | hc
      · have hc' : (M : Int) < m := by omega
        have hc2 : ((M : Int) == m) = false := by rw [beq_eq_false_iff_ne]; omega
        clear D4e HDM
        go_wp2_with fail
        refine (CB.out _).mono ?_
        rintro e w2 ⟨rfl, hb2⟩
        have HO2 := Lib.hid (tail.out w2 hb2)
        clear hb2 tail c0 c1 c2 c3 f0 f1 f2 f3 z0 z1 y0 y1
        go_wp2_with fail
        have HO3 : Hid (∀ w3, w3 = w2.alloc (.cells #[.int .i64 D3.1, .int .i64 D3.2] 51) → w3.heap[w.heap.size]? = some (.cells #[.int .i64 0, .int .i64 0] 51 (0, 0)) ∧ w3.heap[w1.heap.size]? = some (.cells #[.int .i64 D1.1, .int .i64 D1.2] 51 (0, 0)) ∧ w3.heap[w1.heap.size + 1]? = some (.cells #[.int .i64 D2.1, .int .i64 D2.2] 51 (0, 0)) ∧
            w3.heap[w2.heap.size]? = some (.cells #[.int .i64 D3.1, .int .i64 D3.2] 51 (0, 0)) ∧ Below w.heap.size w w3) := by
          rintro w3 rfl
          obtain ⟨x1, x2, x3, x4⟩ := HO2.out
          exact ⟨(Below.heap_alloc _ _ _ (lt_of_block x1)).trans x1, (Below.heap_alloc _ _ _ (lt_of_block x2)).trans x2, (Below.heap_alloc _ _ _ (lt_of_block x3)).trans x3, heap_alloc_new _ _, x4.alloc x4.size _⟩
        have l7'' := lt_of_block HO2.out.2.2.1
        obtain ⟨w3, hw3⟩ : ∃ w3, w3 = w2.alloc (.cells #[.int .i64 D3.1, .int .i64 D3.2] 51) := ⟨_, rfl⟩
        have HO3 := Lib.hid (HO3.out w3 hw3)
        rw [← hw3]
        clear hw3 HO2
        obtain ⟨k0, k1, -, -, lk⟩ := two_cells HO3.out.2.2.2.1
        obtain ⟨v0, v1', x0, x1, -⟩ := two_cells HO3.out.2.1
        go_region
        go_wp2_with fail
        go_roundw
        case rel =>
          refine ⟨j, 2 * i + 1, by omega, ?_, ?_, ?_, ?_, ?_⟩
          · rw [HN1.out.2.2]; exact q2
          · rw [HN1.out.2.1]
          · rw [HN1.out.2.2]
          · rw [HN1.out.2.1, HN1.out.2.2]; exact ⟨hc, v2⟩
          · have ho := HO3.out
            have hd := HD.out
            refine ⟨?_, ?_, ?_, ?_, ne⟩
            · rw [heap_drew]; exact (Below.heap_setCell _ _ _ _ (by show w.heap.size ≠ w1.heap.size; omega)).trans ((Below.heap_setCell _ _ _ _ (by show w.heap.size ≠ w1.heap.size; omega)).trans ho.1)
            · rw [hd.2.1, heap_drew, heap_setCell_same _ _ _ _ _ _ (heap_setCell_same _ _ _ _ _ _ (by exact ho.2.1))]; rfl
            · rw [hd.2.2, heap_drew]
              exact (Below.heap_setCell _ _ _ _ (by show w1.heap.size + 1 ≠ w1.heap.size; omega)).trans ((Below.heap_setCell _ _ _ _ (by show w1.heap.size + 1 ≠ w1.heap.size; omega)).trans ho.2.2.1)
            · exact ((ho.2.2.2.2.setCell (p := ⟨w1.heap.size, 0, none⟩) (by show w.heap.size ≤ w1.heap.size; omega) _).setCell (p := ⟨w1.heap.size, 1, none⟩) (by show w.heap.size ≤ w1.heap.size; omega) _).drew
        case measure => simp [intOf]; omega
      · subst hc
        have HE : Hid (D3 = DM) := (D4e.out.trans HD.out.2.1).symm.trans HDM.out.symm
        clear HDM D4e
        go_wp2_with fail
        refine (CB.out _).mono ?_
        rintro e w2 ⟨rfl, hb2⟩
        have HO2 := Lib.hid (tail.out w2 hb2)
        clear hb2 tail c0 c1 c2 c3 f0 f1 f2 f3 z0 z1 y0 y1
        obtain ⟨z0, z1, y0, y1, l3'⟩ := two_cells HO2.out.1
        go_wp2_with fail
        refine bodyPost_ret (v := .agg #[.int .i64 D3.1, .int .i64 D3.2]) (by simp [results, Tryd.results54, go_sem, z0, z1, l3']) rfl ⟨by rw [HE.out], ?_⟩
        have ho := HO2.out.2.2.2
        exact ((ho.setCell (p := ⟨w.heap.size, 0, none⟩) (Nat.le_refl _) _).setCell (p := ⟨w.heap.size, 1, none⟩) (Nat.le_refl _) _).alloc (by simp; exact ho.size) _
      · have hc' : ¬ (M : Int) < m := by omega
        have hc2 : ((M : Int) == m) = false := by rw [beq_eq_false_iff_ne]; omega
        clear D4e HDM
        go_wp2_with fail
        refine (CB.out _).mono ?_
        rintro e w2 ⟨rfl, hb2⟩
        have HO2 := Lib.hid (tail.out w2 hb2)
        clear hb2 tail c0 c1 c2 c3 f0 f1 f2 f3 z0 z1 y0 y1
        go_wp2_with fail
        have HO3 : Hid (∀ w3, w3 = w2.alloc (.cells #[.int .i64 D3.1, .int .i64 D3.2] 51) → w3.heap[w.heap.size]? = some (.cells #[.int .i64 0, .int .i64 0] 51 (0, 0)) ∧ w3.heap[w1.heap.size]? = some (.cells #[.int .i64 D1.1, .int .i64 D1.2] 51 (0, 0)) ∧ w3.heap[w1.heap.size + 1]? = some (.cells #[.int .i64 D2.1, .int .i64 D2.2] 51 (0, 0)) ∧
            w3.heap[w2.heap.size]? = some (.cells #[.int .i64 D3.1, .int .i64 D3.2] 51 (0, 0)) ∧ Below w.heap.size w w3) := by
          rintro w3 rfl
          obtain ⟨x1, x2, x3, x4⟩ := HO2.out
          exact ⟨(Below.heap_alloc _ _ _ (lt_of_block x1)).trans x1, (Below.heap_alloc _ _ _ (lt_of_block x2)).trans x2, (Below.heap_alloc _ _ _ (lt_of_block x3)).trans x3, heap_alloc_new _ _, x4.alloc x4.size _⟩
        have l7'' := lt_of_block HO2.out.2.2.1
        obtain ⟨w3, hw3⟩ : ∃ w3, w3 = w2.alloc (.cells #[.int .i64 D3.1, .int .i64 D3.2] 51) := ⟨_, rfl⟩
        have HO3 := Lib.hid (HO3.out w3 hw3)
        rw [← hw3]
        clear hw3 HO2
        obtain ⟨k0, k1, -, -, lk⟩ := two_cells HO3.out.2.2.2.1
        obtain ⟨v0, v1', x0, x1, -⟩ := two_cells HO3.out.2.2.1
        go_region
        go_wp2_with fail
        go_roundw
        case rel =>
          refine ⟨j, 2 * i, by omega, ?_, ?_, ?_, ?_, ?_⟩
          · rw [HN1.out.2.1]; exact q3
          · rw [HN1.out.1]
          · rw [HN1.out.2.1]
          · rw [HN1.out.1, HN1.out.2.1]; exact ⟨v1, by omega⟩
          · have ho := HO3.out
            have hd := HD.out
            refine ⟨?_, ?_, ?_, ?_, ne⟩
            · rw [heap_drew]; exact (Below.heap_setCell _ _ _ _ (by show w.heap.size ≠ w1.heap.size + 1; omega)).trans ((Below.heap_setCell _ _ _ _ (by show w.heap.size ≠ w1.heap.size + 1; omega)).trans ho.1)
            · rw [hd.1, heap_drew]
              exact (Below.heap_setCell _ _ _ _ (by show w1.heap.size ≠ w1.heap.size + 1; omega)).trans ((Below.heap_setCell _ _ _ _ (by show w1.heap.size ≠ w1.heap.size + 1; omega)).trans ho.2.1)
            · rw [hd.2.1, heap_drew, heap_setCell_same _ _ _ _ _ _ (heap_setCell_same _ _ _ _ _ _ (by exact ho.2.2.1))]; rfl
            · exact ((ho.2.2.2.2.setCell (p := ⟨w1.heap.size + 1, 0, none⟩) (by show w.heap.size ≤ w1.heap.size + 1; omega) _).setCell (p := ⟨w1.heap.size + 1, 1, none⟩) (by show w.heap.size ≤ w1.heap.size + 1; omega) _).drew
        case measure => simp [intOf]; omega
end Go.Proofs.YtcjdbhcpcigmdaaDoor
