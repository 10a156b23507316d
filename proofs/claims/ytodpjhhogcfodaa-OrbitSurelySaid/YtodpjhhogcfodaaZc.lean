import Derived.Test.YtodpjhhogcfodaaZb
import Derived.Test.YtodpjhhogcfodaaYb
import Derived.Outline
namespace Go.Proofs.Ytodpjhhogcfodaa.Orb
open Go.RowKit Lib

theorem cell_ne {W : World} {b o c i : Nat} {x v : Value} (hne : b ≠ c) (h : W.cell? ⟨b, o, none⟩ = some x) : (W.setCell ⟨c, i, none⟩ v).cell? ⟨b, o, none⟩ = some x :=
  (World.cell?_of_block (Below.heap_setCell _ _ _ _ hne)).trans h
theorem tri_readC {w : World} {b k : Nat} {N : Nat → Int} {t : TypeId} (hk : k < 3) (h : w.heap[b]? = some (.cells #[.int .i64 (N 0), .int .i64 (N 1), .int .i64 (N 2)] t (0, 0))) :
    w.cell? ⟨b, k, none⟩ = some (.int .i64 (N k)) := by
  rw [cell_of_row _ _ _ _ _ _ h]
  match k, hk with
  | 0, _ => rfl
  | 1, _ => rfl
  | 2, _ => rfl
theorem five_tail {W : World} {b : Nat} {t x y z u : Value} {ty : TypeId} (h : W.heap[b]? = some (.cells #[t, x, y, z, u] ty (0, 0))) :
    W.cell? ⟨b, 0, none⟩ = some t ∧ W.cell? ⟨b, 1, none⟩ = some x ∧ W.cell? ⟨b, 2, none⟩ = some y ∧ W.cell? ⟨b, 3, none⟩ = some z := by
  obtain ⟨a, b, c, d, -⟩ := cells5 h
  exact ⟨a, b, c, d⟩

set_option maxRecDepth 100000 in
set_option maxHeartbeats 4000000 in
/-- THE REFERENCE'S SPEED -/
theorem refSpeedOf_any (v : Value) (nm : ByteArray) (bend : Int) (L : List St) (hR : Rt bend L) (k : Nat) (hk : k + 1 < L.length) (w : World) (hv : OV w v nm bend L) :
    Calls Try.prog 36 #[v, .int .i64 k] w fun e w' => e = .returned (.agg #[.int .i64 (spN (gt L k) (gt L (k + 1)) 0), .int .i64 (spD (gt L k) (gt L (k + 1)) 0), .int .i64 (spN (gt L k) (gt L (k + 1)) 1), .int .i64 (spD (gt L k) (gt L (k + 1)) 1), .int .i64 (spN (gt L k) (gt L (k + 1)) 2), .int .i64 (spD (gt L k) (gt L (k + 1)) 2)]) ∧ Below w.heap.size w w' := by
  have hn := hR.n1
  have hA := hR.st k (by omega)
  have hB := hR.st (k + 1) hk
  obtain ⟨ht0, ht1⟩ := rt_tick hR k hk
  obtain ⟨sp, cap, rfl, -, -, hS⟩ := hv.form
  obtain ⟨b, o, rfl, hT⟩ := hS (by omega)
  have TA := hT k (by omega)
  have TB := hT (k + 1) hk
  clear hS hT hv hR
  obtain ⟨n, hnn⟩ : ∃ n, n = L.length := ⟨_, rfl⟩
  rw [← hnn] at hk hn ⊢
  clear hnn
  obtain ⟨P, hP⟩ : ∃ P : Nat → Int, P = spN (gt L k) (gt L (k + 1)) := ⟨_, rfl⟩
  obtain ⟨Q, hQ⟩ : ∃ Q : Nat → Int, Q = spD (gt L k) (gt L (k + 1)) := ⟨_, rfl⟩
  rw [← hP, ← hQ]
  have SA := Lib.hid (fun i => cOf_bd hA i)
  have SB := Lib.hid (fun i => cOf_bd hB i)
  generalize gt L k = A at *
  generalize gt L (k + 1) = B at *
  have CLO : Hid (∀ j : Nat, j < 3 → ∀ W, Calls Try.prog 100 #[.int .i64 (cOf B j - cOf A j), .int .i64 (B.t - A.t)] W fun e w' => e = .returned (.agg #[.int .i64 (P j), .int .i64 (Q j)]) ∧ Below W.heap.size W w') := fun j hj W => by
    have s1 := SA.out j
    have s2 := SB.out j
    rw [hP, hQ]
    exact refLowest_any (cOf B j - cOf A j) (B.t - A.t) (by omega) (by omega) (by omega) (by omega) W
  obtain ⟨D, hD⟩ : ∃ D : Nat → Int, D = fun j => cOf B j - cOf A j := ⟨_, rfl⟩
  have HD : Hid (B.x - A.x = D 0 ∧ B.y - A.y = D 1 ∧ B.z - A.z = D 2) := by rw [hD]; exact ⟨rfl, rfl, rfl⟩
  have CL2 : Hid (∀ j : Nat, j < 3 → ∀ W, Calls Try.prog 100 #[.int .i64 (D j), .int .i64 (B.t - A.t)] W fun e w' => e = .returned (.agg #[.int .i64 (P j), .int .i64 (Q j)]) ∧ Below W.heap.size W w') := by rw [hD]; exact CLO.out
  have b0 := SA.out 0; have b1 := SA.out 1; have b2 := SA.out 2; have b3 := SB.out 0; have b4 := SB.out 1; have b5 := SB.out 2
  obtain ⟨x0, x1, x2, x3, x4, x5⟩ : cOf A 0 = A.x ∧ cOf A 1 = A.y ∧ cOf A 2 = A.z ∧ cOf B 0 = B.x ∧ cOf B 1 = B.y ∧ cOf B 2 = B.z := ⟨rfl, rfl, rfl, rfl, rfl, rfl⟩
  rw [x0] at b0; rw [x1] at b1; rw [x2] at b2; rw [x3] at b3; rw [x4] at b4; rw [x5] at b5
  have C1 := Lib.hid (fun W => refCoordinates_any A.x A.y A.z W)
  have C2 := Lib.hid (fun W => refCoordinates_any B.x B.y B.z W)
  have CS := Lib.hid (fun W => refLess_any B.x B.y B.z A.x A.y A.z (by omega) (by omega) (by omega) (by omega) (by omega) (by omega) W)
  rw [HD.out.1, HD.out.2.1, HD.out.2.2] at CS
  have at0 := hA.t0; have at1 := hA.t1
  have HWT := Lib.hid (show IntKind.i64.wrap (B.t - A.t) = B.t - A.t from IntWalk.i64_in _ (by omega))
  have i0 : (0 : Int) ≤ (k : Int) := by omega
  have i1 : (k : Int) < (n : Int) := by omega
  have i2 : IntKind.i64.wrap ((k : Int) + 1) = (k : Int) + 1 := IntWalk.i64_in _ (by omega)
  have i3 : ((k : Int) + 1).toNat = k + 1 := by omega
  have i4 : (0 : Int) ≤ (k : Int) + 1 := by omega
  have i5 : (k : Int) + 1 < (n : Int) := by omega
  obtain ⟨ta0, ta1, ta2, ta3, ta4⟩ := TA
  obtain ⟨tb0, tb1, tb2, tb3, tb4⟩ := TB
  clear hP hQ hD CLO HD SA SB b0 b1 b2 b3 b4 b5 x0 x1 x2 x3 x4 x5 hA hB ht0 ht1 at0 at1
  obtain ⟨At, Ax, Ay, Az, Ae⟩ := A
  obtain ⟨Bt, Bx, By, Bz, Be⟩ := B
  dsimp only at *
  go_enter Try.func36, Try.ntmps36
  go_upto_region 1 with fail
  obtain ⟨W0, hW0⟩ : ∃ W0, W0 = (w.alloc (.cells #[.string nm, .int .i64 bend, .slice (some ⟨b, o, none⟩) n cap] 24)).alloc (.cells #[.int .i64 0, .int .i64 0, .int .i64 0, .int .i64 0, .int .i64 0, .int .i64 0] 57) := ⟨_, rfl⟩
  rw [← hW0]
  have hb0 : Below w.heap.size w W0 := by rw [hW0]; (repeat (first | with_reducible exact Below.refl _ _ | with_reducible refine alloc1 ?_ _ | with_reducible refine Below.drew ?_ | with_reducible refine drewN1 ?_ _ | with_reducible refine setC ?_ (by omega) _))
  have HB0 := Lib.hid hb0
  have HP0 := Lib.hid (show W0.heap[w.heap.size]? = some (.cells #[.string nm, .int .i64 bend, .slice (some ⟨b, o, none⟩) n cap] 24 (0, 0)) by rw [hW0]; (repeat (first | ((with_reducible refine hnew ?_); (simp; done)) | with_reducible refine hdrew ?_ | with_reducible refine hold ?_)))
  have HQ0 := Lib.hid (show W0.heap[w.heap.size + 1]? = some (.cells #[.int .i64 0, .int .i64 0, .int .i64 0, .int .i64 0, .int .i64 0, .int .i64 0] 57 (0, 0)) by rw [hW0]; (repeat (first | ((with_reducible refine hnew ?_); (simp; done)) | with_reducible refine hdrew ?_ | with_reducible refine hold ?_)))
  have ta0 := keepc hb0 ta0
  have ta1 := keepc hb0 ta1
  have ta2 := keepc hb0 ta2
  have ta3 := keepc hb0 ta3
  have ta4 := keepc hb0 ta4
  have tb0 := keepc hb0 tb0
  have tb1 := keepc hb0 tb1
  have tb2 := keepc hb0 tb2
  have tb3 := keepc hb0 tb3
  have tb4 := keepc hb0 tb4
  obtain ⟨-, -, k2⟩ := cells3 HP0.out
  clear hW0 hb0
  go_cut [5, 6] from 10 to 20 (fun s5 s6 wx => ∃ b5 b6, s5 = .pointer (some ⟨b5, 0, none⟩) ∧ s6 = .pointer (some ⟨b6, 0, none⟩) ∧ Hid (Below W0.heap.size W0 wx) ∧ Hid (wx.heap[b5]? = some (.cells #[.int .i64 At, .int .i64 Ax, .int .i64 Ay, .int .i64 Az, .int .i64 Ae] 101 (0, 0))) ∧ Hid (wx.heap[b6]? = some (.cells #[.int .i64 Bt, .int .i64 Bx, .int .i64 By, .int .i64 Bz, .int .i64 Be] 101 (0, 0))))
  case first =>
    go_region_held3 (fun W => W.cell? ⟨w.heap.size, 2, none⟩ = some (.slice (some ⟨b, o, none⟩) n cap) ∧ W.cell? ⟨b, o + k * 5, none⟩ = some (.int .i64 At) ∧ W.cell? ⟨b, o + k * 5 + 1, none⟩ = some (.int .i64 Ax) ∧ W.cell? ⟨b, o + k * 5 + 2, none⟩ = some (.int .i64 Ay) ∧ W.cell? ⟨b, o + k * 5 + 3, none⟩ = some (.int .i64 Az) ∧ W.cell? ⟨b, o + k * 5 + 4, none⟩ = some (.int .i64 Ae) ∧ W.cell? ⟨b, o + (k + 1) * 5, none⟩ = some (.int .i64 Bt) ∧ W.cell? ⟨b, o + (k + 1) * 5 + 1, none⟩ = some (.int .i64 Bx) ∧ W.cell? ⟨b, o + (k + 1) * 5 + 2, none⟩ = some (.int .i64 By) ∧ W.cell? ⟨b, o + (k + 1) * 5 + 3, none⟩ = some (.int .i64 Bz) ∧ W.cell? ⟨b, o + (k + 1) * 5 + 4, none⟩ = some (.int .i64 Be)) (with_reducible refine ⟨keepc ?_ k2, keepc ?_ ta0, keepc ?_ ta1, keepc ?_ ta2, keepc ?_ ta3, keepc ?_ ta4, keepc ?_ tb0, keepc ?_ tb1, keepc ?_ tb2, keepc ?_ tb3, keepc ?_ tb4⟩ <;> (repeat (first | with_reducible exact Below.refl _ _ | with_reducible refine alloc1 ?_ _ | with_reducible refine Below.drew ?_ | with_reducible refine drewN1 ?_ _ | with_reducible refine setC ?_ (by omega) _)) <;> done)
      (fail)
    all_goals
      go_wp2_with fail
      go_meet
      case rel => exact ⟨_, _, rfl, rfl, Lib.hid (by (repeat (first | with_reducible exact Below.refl _ _ | with_reducible refine alloc1 ?_ _ | with_reducible refine Below.drew ?_ | with_reducible refine drewN1 ?_ _ | with_reducible refine setC ?_ (by omega) _))), Lib.hid (by (repeat (first | ((with_reducible refine hnew ?_); (simp; done)) | with_reducible refine hdrew ?_ | with_reducible refine hold ?_))), Lib.hid (by (repeat (first | ((with_reducible refine hnew ?_); (simp; done)) | with_reducible refine hdrew ?_ | with_reducible refine hold ?_)))⟩
  obtain ⟨b5, b6, rfl, rfl, HBX, H5, H6⟩ := hcut
  obtain ⟨w1, rfl⟩ : ∃ w1 : World, w1 = wc := ⟨_, rfl⟩
  have HB1 := Lib.hid (trans' HB0.out HBX.out)
  have HQ1 := Lib.hid (keepb HBX.out HQ0.out)
  have HE1 := Lib.hid H5.out
  have HF1 := Lib.hid H6.out
  clear HBX H5 H6 HP0 HB0 HQ0 k2 ta0 ta1 ta2 ta3 ta4 tb0 tb1 tb2 tb3 tb4 i0 i1 i2 i3 i4 i5
  obtain ⟨p0, p1, p2, p3⟩ := five_tail HE1.out
  obtain ⟨q0, q1, q2, q3⟩ := five_tail HF1.out
  go_upto_region 2 with fail
  go_cut [7] from 21 to 27 (fun s7 wx => ∃ b7, s7 = .pointer (some ⟨b7, 0, none⟩) ∧ Hid (Below w1.heap.size w1 wx) ∧ Hid (wx.heap[b7]? = some (.cells #[.int .i64 (D 0), .int .i64 (D 1), .int .i64 (D 2)] 82 (0, 0))))
  case first =>
    go_region_held3 (fun W => W.cell? ⟨b5, 1, none⟩ = some (.int .i64 Ax) ∧ W.cell? ⟨b5, 2, none⟩ = some (.int .i64 Ay) ∧ W.cell? ⟨b5, 3, none⟩ = some (.int .i64 Az) ∧ W.cell? ⟨b6, 1, none⟩ = some (.int .i64 Bx) ∧ W.cell? ⟨b6, 2, none⟩ = some (.int .i64 By) ∧ W.cell? ⟨b6, 3, none⟩ = some (.int .i64 Bz))
      (with_reducible refine ⟨keepc ?_ p1, keepc ?_ p2, keepc ?_ p3, keepc ?_ q1, keepc ?_ q2, keepc ?_ q3⟩ <;> (repeat (first | with_reducible exact Below.refl _ _ | with_reducible refine andThen ?_ hbL | with_reducible refine andThen ?_ hb1 | with_reducible refine andThen ?_ hb2 | with_reducible refine alloc1 ?_ _ | with_reducible refine Below.drew ?_ | with_reducible refine setC ?_ (by first | exact hbL.size | exact hb1.size | exact hb2.size | exact Nat.le_refl _ | (have := hbL.size; have := hb1.size; have := hb2.size; simp at *; omega)) _)) <;> done)
      (first
        | (go_at_call 80; (with_reducible refine (C1.out _).mono ?_); rintro e wA ⟨rfl, hb1⟩; first | (have QB := Lib.hid (keepb hb1 QB.out); obtain ⟨r0, r1, r2⟩ := cells3 QB.out; obtain ⟨f0, f1, f2⟩ := free3 QB.out) | (have QB := Lib.hid (keepb hb1 (heap_alloc_new _ _)); obtain ⟨r0, r1, r2⟩ := cells3 QB.out; obtain ⟨f0, f1, f2⟩ := free3 QB.out) | skip)
        | (go_at_call 80; (with_reducible refine (C2.out _).mono ?_); rintro e wB ⟨rfl, hb2⟩; first | (have QB := Lib.hid (keepb hb2 QB.out); obtain ⟨r0, r1, r2⟩ := cells3 QB.out; obtain ⟨f0, f1, f2⟩ := free3 QB.out) | (have QB := Lib.hid (keepb hb2 (heap_alloc_new _ _)); obtain ⟨r0, r1, r2⟩ := cells3 QB.out; obtain ⟨f0, f1, f2⟩ := free3 QB.out) | skip)
        | (go_at_call 79; (with_reducible refine (CS.out _).mono ?_); rintro e wL ⟨rfl, hbL⟩; first | (have QB := Lib.hid (keepb hbL QB.out); obtain ⟨r0, r1, r2⟩ := cells3 QB.out; obtain ⟨f0, f1, f2⟩ := free3 QB.out) | (have QB := Lib.hid (keepb hbL (heap_alloc_new _ _)); obtain ⟨r0, r1, r2⟩ := cells3 QB.out; obtain ⟨f0, f1, f2⟩ := free3 QB.out) | skip))
    all_goals
      go_wp2_with fail
      go_meet
      case rel =>
        first
          | exact ⟨_, rfl, Lib.hid (by (repeat (first | with_reducible exact Below.refl _ _ | with_reducible refine andThen ?_ hbL | with_reducible refine andThen ?_ hb1 | with_reducible refine andThen ?_ hb2 | with_reducible refine alloc1 ?_ _ | with_reducible refine Below.drew ?_ | with_reducible refine setC ?_ (by first | exact hbL.size | exact hb1.size | exact hb2.size | exact Nat.le_refl _ | (have := hbL.size; have := hb1.size; have := hb2.size; simp at *; omega)) _))), Lib.hid (set_block (set_block (set_block QB.out)))⟩
          | exact ⟨_, rfl, Lib.hid (by (repeat (first | with_reducible exact Below.refl _ _ | with_reducible refine andThen ?_ hbL | with_reducible refine andThen ?_ hb1 | with_reducible refine andThen ?_ hb2 | with_reducible refine alloc1 ?_ _ | with_reducible refine Below.drew ?_ | with_reducible refine setC ?_ (by first | exact hbL.size | exact hb1.size | exact hb2.size | exact Nat.le_refl _ | (have := hbL.size; have := hb1.size; have := hb2.size; simp at *; omega)) _))), Lib.hid (by (repeat (first | ((with_reducible refine hnew ?_); (simp; done)) | with_reducible refine hdrew ?_ | with_reducible refine hold ?_)))⟩
  obtain ⟨b7, rfl, HBX, H7⟩ := hcut
  obtain ⟨w2, rfl⟩ : ∃ w2 : World, w2 = wc := ⟨_, rfl⟩
  have HB2 := Lib.hid (trans' HB1.out HBX.out)
  have HQ2 := Lib.hid (keepb HBX.out HQ1.out)
  have HE2 := Lib.hid (keepb HBX.out HE1.out)
  have HF2 := Lib.hid (keepb HBX.out HF1.out)
  have HD2 := Lib.hid H7.out
  clear HBX H7 HB1 HQ1 HE1 HF1 p0 p1 p2 p3 q0 q1 q2 q3 C1 C2 CS
  go_upto_region 4 with fail
  have HS5 := Lib.hid (lt_of_block HE2.out)
  have HS6 := Lib.hid (lt_of_block HF2.out)
  have HS7 := Lib.hid (lt_of_block HD2.out)
  have HSQ := Lib.hid (lt_of_block HQ2.out)
  obtain ⟨w3, hW⟩ : ∃ w3, w3 = w2.alloc (.cells #[.int .i64 0, .int .i64 0, .int .i64 0, .int .i64 0, .int .i64 0, .int .i64 0] 57) := ⟨_, rfl⟩
  rw [← hW]
  have hb := new_below w2 (.cells #[.int .i64 0, .int .i64 0, .int .i64 0, .int .i64 0, .int .i64 0, .int .i64 0] 57)
  rw [← hW] at hb
  have HV3 := Lib.hid (show w3.heap[w2.heap.size]? = some (.cells #[.int .i64 0, .int .i64 0, .int .i64 0, .int .i64 0, .int .i64 0, .int .i64 0] 57 (0, 0)) by rw [hW]; exact heap_alloc_new _ _)
  have HB3 := Lib.hid (trans' HB2.out hb)
  have HQ3 := Lib.hid (keepb hb HQ2.out)
  have HE3 := Lib.hid (keepb hb HE2.out)
  have HF3 := Lib.hid (keepb hb HF2.out)
  have HD3 := Lib.hid (keepb hb HD2.out)
  clear hW hb HB2 HQ2 HE2 HF2 HD2
  go_wp2_with fail
  go_loopw [9] (fun i wr => ∃ j : Nat, j ≤ 3 ∧ i = .int .i64 j ∧ Hid (Below w.heap.size w wr) ∧ Hid (wr.heap[w.heap.size + 1]? = some (.cells #[.int .i64 0, .int .i64 0, .int .i64 0, .int .i64 0, .int .i64 0, .int .i64 0] 57 (0, 0))) ∧ Hid (wr.heap[b5]? = some (.cells #[.int .i64 At, .int .i64 Ax, .int .i64 Ay, .int .i64 Az, .int .i64 Ae] 101 (0, 0))) ∧ Hid (wr.heap[b6]? = some (.cells #[.int .i64 Bt, .int .i64 Bx, .int .i64 By, .int .i64 Bz, .int .i64 Be] 101 (0, 0))) ∧ Hid (wr.heap[b7]? = some (.cells #[.int .i64 (D 0), .int .i64 (D 1), .int .i64 (D 2)] 82 (0, 0))) ∧ Hid (wr.heap[w2.heap.size]? = some (.cells (boxCells P Q j) 57 (0, 0)))) (fun i _ => 3 - (intV i).toNat)
  case atStart => exact ⟨0, Nat.zero_le _, rfl, HB3, HQ3, HE3, HF3, HD3, HV3⟩
  case round =>
    obtain ⟨j, hj, rfl, HBZ, HQZ, HEZ, HFZ, HDZ, HVZ⟩ := hrel
    obtain ⟨wz, rfl⟩ : ∃ wz : World, wz = wr := ⟨_, rfl⟩
    clear HB3 HQ3 HE3 HF3 HD3 HV3
    by_cases hlt : j < 3
    · obtain ⟨p0, -, -, -⟩ := five_tail HEZ.out
      obtain ⟨q0, -, -, -⟩ := five_tail HFZ.out
      have d0 := tri_readC hlt HDZ.out
      have CL := Lib.hid (CL2.out j hlt)
      have j0 : (0 : Int) ≤ (j : Int) := by omega
      have j1 : (j : Int) < 3 := by omega
      have hwt := HWT.out
      have n5 : b5 ≠ w2.heap.size := by have := HS5.out; omega
      have n6 : b6 ≠ w2.heap.size := by have := HS6.out; omega
      have n7 : b7 ≠ w2.heap.size := by have := HS7.out; omega
      have HLV := Lib.hid (fun (W : World) (h : W.heap[w2.heap.size]? = some (.cells (boxCells P Q j) 57 (0, 0))) => box_cell hlt h)
      go_upto_region 7 with fail
      generalize D j = dj at *
      go_region_held3 (fun W => W.cell? ⟨b5, 0, none⟩ = some (.int .i64 At) ∧ W.cell? ⟨b6, 0, none⟩ = some (.int .i64 Bt) ∧ W.cell? ⟨b7, j, none⟩ = some (.int .i64 dj))
        (first
          | (with_reducible refine ⟨keepc ?_ p0, keepc ?_ q0, keepc ?_ d0⟩ <;> (repeat (first | with_reducible exact Below.refl _ _ | with_reducible refine andThen ?_ hbL | with_reducible refine alloc1 ?_ _ | with_reducible refine Below.drew ?_ | with_reducible refine drewN1 ?_ _ | with_reducible refine setC ?_ (by omega) _)) <;> done)
          | (refine ⟨cell_ne n5 (cell_ne n5 (keepc ?_ p0)), cell_ne n6 (cell_ne n6 (keepc ?_ q0)), cell_ne n7 (cell_ne n7 (keepc ?_ d0))⟩ <;> (repeat (first | with_reducible exact Below.refl _ _ | with_reducible refine andThen ?_ hbL | with_reducible refine alloc1 ?_ _ | with_reducible refine Below.drew ?_ | with_reducible refine drewN1 ?_ _ | with_reducible refine setC ?_ (by omega) _)) <;> done))
        (first
          | (go_at_call 100; (with_reducible refine (CL.out _).mono ?_); rintro e wL ⟨rfl, hbL⟩; have QV := Lib.hid (keepb (show Below wz.heap.size wz wL from andThen (Below.refl _ wz).drew hbL) HVZ.out); obtain ⟨v0, v1, v2, v3⟩ := HLV.out wL QV.out))
      all_goals
        have hb := (show Below wz.heap.size wz wL from andThen (Below.refl _ wz).drew hbL)
        have HBL := Lib.hid (trans' HBZ.out hb)
        have HQL := Lib.hid (keepb hb HQZ.out)
        have HEL := Lib.hid (keepb hb HEZ.out)
        have HFL := Lib.hid (keepb hb HFZ.out)
        have HDL := Lib.hid (keepb hb HDZ.out)
        have hsq := HSQ.out
        go_wp2_with fail
        go_roundw
        case rel => exact ⟨j + 1, by omega, by go_num, Lib.hid (setC (setC HBL.out (by omega) _) (by omega) _), Lib.hid (heap_ne (by omega) (heap_ne (by omega) HQL.out)), Lib.hid (heap_ne n5 (heap_ne n5 HEL.out)), Lib.hid (heap_ne n6 (heap_ne n6 HFL.out)), Lib.hid (heap_ne n7 (heap_ne n7 HDL.out)), Lib.hid (box_step hlt QV.out)⟩
        case measure => simp [intV]; omega
    · have e : j = 3 := by omega
      subst e
      have HYE := Lib.hid (show wz.heap[w2.heap.size]? = some (.cells #[.int .i64 (P 0), .int .i64 (Q 0), .int .i64 (P 1), .int .i64 (Q 1), .int .i64 (P 2), .int .i64 (Q 2)] 57 (0, 0)) from HVZ.out)
      obtain ⟨y0, y1, y2, y3, y4, y5⟩ := cells6 HYE.out
      obtain ⟨z0, z1, z2, z3, z4, z5⟩ := cells6 HQZ.out
      obtain ⟨g0, g1, g2, g3, g4, g5⟩ := free6 HQZ.out
      have hls := lt_of_block HQZ.out
      clear HVZ
      go_wp2_with fail
      refine bodyPost_ret (v := .agg #[.int .i64 (P 0), .int .i64 (Q 0), .int .i64 (P 1), .int .i64 (Q 1), .int .i64 (P 2), .int .i64 (Q 2)]) (by simp [results, Try.results36, go_sem, z0, z1, z2, z3, z4, z5]) rfl ⟨rfl, ?_⟩
      exact setC (setC (setC (setC (setC (setC HBZ.out (by omega) _) (by omega) _) (by omega) _) (by omega) _) (by omega) _) (by omega) _
end Go.Proofs.Ytodpjhhogcfodaa.Orb
