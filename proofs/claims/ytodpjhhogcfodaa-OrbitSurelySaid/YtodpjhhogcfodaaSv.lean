import Derived.Test.YtodpjhhogcfodaaSs
import Derived.Outline
namespace Go.Proofs.Ytodpjhhogcfodaa.Orb
open Go.RowKit Lib

set_option maxRecDepth 100000 in
set_option maxHeartbeats 4000000 in
theorem refSideOf_any (v : Value) (nm : ByteArray) (bend : Int) (L : List St) (k : Nat) (hk : k + 1 < L.length) (hn : L.length ≤ 1000) (hA : StOk (gt L k)) (hB : StOk (gt L (k + 1))) (x y z : Int) (hp : placeE x y z = 0) (w : World) (hv : OV w v nm bend L) :
    Calls Try.prog 62 #[v, .int .i64 k, .agg #[.int .i64 x, .int .i64 y, .int .i64 z]] w fun e w' => e = .returned (.int .i64 (sideI (turnI (gt L k) (gt L (k + 1)) x y))) ∧ Below w.heap.size w w' := by
  obtain ⟨sp, cap, rfl, -, -, hS⟩ := hv.form
  obtain ⟨b, o, rfl, hT⟩ := hS (by omega)
  obtain ⟨⟨p0, p1⟩, ⟨p2, p3⟩, p4, p5⟩ := (placeE_zero x y z).1 hp
  have TT := hT.two hk
  clear hS hT hv hp
  obtain ⟨n, hnn⟩ : ∃ n, n = L.length := ⟨_, rfl⟩
  rw [← hnn] at hk hn ⊢
  clear hnn
  generalize hr : sideI (turnI (gt L k) (gt L (k + 1)) x y) = r at *
  unfold turnI at hr
  generalize gt L k = A at *
  generalize gt L (k + 1) = B at *
  obtain ⟨At, Ax, Ay, Az, Ae⟩ := A
  obtain ⟨Bt, Bx, By, Bz, Be⟩ := B
  obtain ⟨-, -, A0, A1, A2, A3, A4, A5, -, -⟩ := hA
  obtain ⟨-, -, B0, B1, B2, B3, B4, B5, -, -⟩ := hB
  dsimp only at *
  have HRV := Lib.hid hr
  clear hr
  have BM := Lib.hid (And.intro (mul_bd (Bx - Ax) (y - Ay) 200000000 (by omega) (by omega) (by omega) (by omega)) (mul_bd (By - Ay) (x - Ax) 200000000 (by omega) (by omega) (by omega) (by omega)))
  have i1 := Lib.hid (IntWalk.i64_in (Bx - Ax) (by omega))
  have i2 := Lib.hid (IntWalk.i64_in (y - Ay) (by omega))
  have i3 := Lib.hid (IntWalk.i64_in (By - Ay) (by omega))
  have i4 := Lib.hid (IntWalk.i64_in (x - Ax) (by omega))
  obtain ⟨⟨a1, a2, a3⟩, c1, c2, c3⟩ := TT
  have hk2 : k < n := by omega
  have i0 : (0 : Int) ≤ (k : Int) := by omega
  have k1 : (k : Int) < (n : Int) := by omega
  have k3 : ((k : Int) + 1).toNat = k + 1 := by omega
  have k4 : (0 : Int) ≤ (k : Int) + 1 := by omega
  have k5 : (k : Int) + 1 < (n : Int) := by omega
  have iw : IntKind.i64.wrap ((k : Int) + 1) = (k : Int) + 1 := IntWalk.i64_in _ (by omega)
  clear A0 A1 A2 A3 A4 A5 B0 B1 B2 B3 B4 B5 p0 p1 p2 p3 p4 p5
  go_enter Try.func62, Try.ntmps62
  go_upto_region 1 with fail
  obtain ⟨W0, hW0⟩ : ∃ W0, W0 = (w.alloc (.cells #[.string nm, .int .i64 bend, .slice (some ⟨b, o, none⟩) n cap] 24)).alloc (.cells #[.int .i64 x, .int .i64 y, .int .i64 z] 26) := ⟨_, rfl⟩
  rw [← hW0]
  have hb0 : Below w.heap.size w W0 := by rw [hW0]; (repeat (first | with_reducible exact Below.refl _ _ | with_reducible refine alloc1 ?_ _ | with_reducible refine Below.drew ?_ | with_reducible refine drewN1 ?_ _ | with_reducible refine setC ?_ (by omega) _))
  have HB0 := Lib.hid hb0
  have HP0 := Lib.hid (show W0.heap[w.heap.size]? = some (.cells #[.string nm, .int .i64 bend, .slice (some ⟨b, o, none⟩) n cap] 24 (0, 0)) by rw [hW0]; (repeat (first | ((with_reducible refine hnew ?_); (simp; done)) | with_reducible refine hdrew ?_ | with_reducible refine hold ?_)))
  have HY0 := Lib.hid (show W0.heap[w.heap.size + 1]? = some (.cells #[.int .i64 x, .int .i64 y, .int .i64 z] 26 (0, 0)) by rw [hW0]; (repeat (first | ((with_reducible refine hnew ?_); (simp; done)) | with_reducible refine hdrew ?_ | with_reducible refine hold ?_)))
  have a1 := keepc hb0 a1
  have a2 := keepc hb0 a2
  have a3 := keepc hb0 a3
  have c1 := keepc hb0 c1
  have c2 := keepc hb0 c2
  have c3 := keepc hb0 c3
  obtain ⟨-, -, k2⟩ := cells3 HP0.out
  clear hW0 hb0
  go_cut [7, 8] from 10 to 22 (fun s7 s8 wx => ∃ b7 b8, s7 = .pointer (some ⟨b7, 0, none⟩) ∧ s8 = .pointer (some ⟨b8, 0, none⟩) ∧ Hid (Below W0.heap.size W0 wx) ∧ Hid (wx.heap[b7]? = some (.cells #[.int .i64 Ax, .int .i64 Ay, .int .i64 Az] 26 (0, 0))) ∧ Hid (wx.heap[b8]? = some (.cells #[.int .i64 Bx, .int .i64 By, .int .i64 Bz] 26 (0, 0))))
  case first =>
    go_region_held3 (fun W => W.cell? ⟨w.heap.size, 2, none⟩ = some (.slice (some ⟨b, o, none⟩) n cap) ∧ W.cell? ⟨b, o + k * 5 + 1, none⟩ = some (.int .i64 Ax) ∧ W.cell? ⟨b, o + k * 5 + 2, none⟩ = some (.int .i64 Ay) ∧ W.cell? ⟨b, o + k * 5 + 3, none⟩ = some (.int .i64 Az) ∧ W.cell? ⟨b, o + (k + 1) * 5 + 1, none⟩ = some (.int .i64 Bx) ∧ W.cell? ⟨b, o + (k + 1) * 5 + 2, none⟩ = some (.int .i64 By) ∧ W.cell? ⟨b, o + (k + 1) * 5 + 3, none⟩ = some (.int .i64 Bz)) (with_reducible refine ⟨keepc ?_ k2, keepc ?_ a1, keepc ?_ a2, keepc ?_ a3, keepc ?_ c1, keepc ?_ c2, keepc ?_ c3⟩ <;> (repeat (first | with_reducible exact Below.refl _ _ | with_reducible refine alloc1 ?_ _ | with_reducible refine Below.drew ?_ | with_reducible refine drewN1 ?_ _ | with_reducible refine setC ?_ (by omega) _)) <;> done)
      (fail)
    all_goals
      go_wp2_with fail
      go_meet
      case rel => exact ⟨_, _, rfl, rfl, Lib.hid (by (repeat (first | with_reducible exact Below.refl _ _ | with_reducible refine alloc1 ?_ _ | with_reducible refine Below.drew ?_ | with_reducible refine drewN1 ?_ _ | with_reducible refine setC ?_ (by omega) _))), Lib.hid (by (repeat (first | ((with_reducible refine hnew ?_); (simp; done)) | with_reducible refine hdrew ?_ | with_reducible refine hold ?_))), Lib.hid (by (repeat (first | ((with_reducible refine hnew ?_); (simp; done)) | with_reducible refine hdrew ?_ | with_reducible refine hold ?_)))⟩
  obtain ⟨b7, b8, rfl, rfl, HBX, H7, H8⟩ := hcut
  obtain ⟨w6, rfl⟩ : ∃ w6 : World, w6 = wc := ⟨_, rfl⟩
  have HBW := Lib.hid (trans' HB0.out HBX.out)
  obtain ⟨g0, g1, g2⟩ := cells3 H7.out
  obtain ⟨q0, q1, q2⟩ := cells3 H8.out
  obtain ⟨y0, y1, y2⟩ := cells3 (keepb HBX.out HY0.out)
  have j1 := i1.out
  have j2 := i2.out
  have j3 := i3.out
  have j4 := i4.out
  clear k1 k3 k4 k5 k2 a1 a2 a3 c1 c2 c3 HBX H7 H8 HY0 HP0 HB0 hk hk2 i0 hn iw i1 i2 i3 i4
  obtain ⟨⟨bm1, bm2⟩, bm3, bm4⟩ := BM.out
  have hw1 : IntKind.i64.wrap ((Bx - Ax) * (y - Ay)) = (Bx - Ax) * (y - Ay) := IntWalk.i64_in _ (by omega)
  have hw2 : IntKind.i64.wrap ((By - Ay) * (x - Ax)) = (By - Ay) * (x - Ax) := IntWalk.i64_in _ (by omega)
  have hw3 : IntKind.i64.wrap ((Bx - Ax) * (y - Ay) - (By - Ay) * (x - Ax)) = (Bx - Ax) * (y - Ay) - (By - Ay) * (x - Ax) := IntWalk.i64_in _ (by omega)
  clear bm1 bm2 bm3 bm4 BM
  go_upto_region 3 with fail
  clear hw1 hw2 hw3 g0 g1 g2 q0 q1 q2 y0 y1 y2 j1 j2 j3 j4
  generalize (Bx - Ax) * (y - Ay) - (By - Ay) * (x - Ax) = tu at *
  by_cases h1 : 0 < tu
  · have HR1 := Lib.hid (show r = 1 by rw [← HRV.out]; exact if_pos h1)
    go_wp2_with fail
    go_ret
    exact ⟨by rw [HR1.out]; rfl, HBW.out⟩
  · by_cases h2 : tu < 0
    · have HR1 := Lib.hid (show r = 2 by rw [← HRV.out]; exact (if_neg h1).trans (if_pos h2))
      go_wp2_with fail
      go_ret
      exact ⟨by rw [HR1.out]; rfl, HBW.out⟩
    · have HR1 := Lib.hid (show r = 0 by rw [← HRV.out]; exact (if_neg h1).trans (if_neg h2))
      go_wp2_with fail
      go_ret
      exact ⟨by rw [HR1.out]; rfl, HBW.out⟩

set_option maxRecDepth 100000 in
theorem refErr_any (v : Value) (nm : ByteArray) (hs : nm.size ≤ 1000) (bend : Int) (L : List St) (w : World) (hv : OV w v nm bend L) :
    Calls Try.prog 18 #[v] w fun e w' => e = .returned (.int .i64 (orbE (nameE nm) bend L).2) ∧ Below w.heap.size w w' := by
  have CC := Lib.hid (fun W (h : Below w.heap.size w W) => refCheckOrbit_any v nm hs bend L W (hv.next h))
  obtain ⟨p, cap, rfl, -, -, -⟩ := hv.form
  clear hv
  generalize orbE (nameE nm) bend L = R at *
  obtain ⟨R1, R2⟩ := R
  generalize L.length = n at *
  go_enter Try.func18, Try.ntmps18
  go_wp2_with fail
  refine (CC.out _ (new_below _ _)).mono ?_
  rintro e w1 ⟨rfl, hb⟩
  have HB := Lib.hid (trans' (new_below _ _) hb)
  clear hb
  go_wp2_with fail
  go_ret
  exact ⟨rfl, HB.out⟩

/-- few states, or too many -/
def fewB (s n : Nat) : Bool := decide (s ≤ 30) && (decide (n ≤ 6) || (decide (40 < n) && decide (n ≤ 42)))
theorem fewB_true {s n : Nat} (h : fewB s n = true) : s ≤ 30 ∧ n ≤ 42 := by
  unfold fewB at h
  simp at h
  omega

set_option maxRecDepth 100000 in
set_option maxHeartbeats 2000000 in
theorem Few_any (v : Value) (nm : ByteArray) (bend : Int) (L : List St) (w : World) (hv : OV w v nm bend L) :
    Calls Try.prog 24 #[v] w fun e w' => e = .returned (.bool (fewB nm.size L.length)) ∧ Below w.heap.size w w' := by
  obtain ⟨p, cap, rfl, -, -, -⟩ := hv.form
  clear hv
  generalize L.length = n at *
  have hw : (nm.size ≤ 30 ∧ n ≤ 6 ∧ Hid (fewB nm.size n = true)) ∨ (nm.size ≤ 30 ∧ ¬ n ≤ 6 ∧ 40 < n ∧ n ≤ 42 ∧ Hid (fewB nm.size n = true)) ∨ (nm.size ≤ 30 ∧ ¬ n ≤ 6 ∧ 40 < n ∧ ¬ n ≤ 42 ∧ Hid (fewB nm.size n = false)) ∨ (nm.size ≤ 30 ∧ ¬ n ≤ 6 ∧ ¬ 40 < n ∧ Hid (fewB nm.size n = false)) ∨ (¬ nm.size ≤ 30 ∧ Hid (fewB nm.size n = false)) := by
    unfold Hid fewB
    by_cases h1 : nm.size ≤ 30 <;> by_cases h2 : n ≤ 6 <;> by_cases h3 : 40 < n <;> by_cases h4 : n ≤ 42 <;> simp [h1, h2, h3, h4] <;> omega
  rcases hw with ⟨h1, h2, HR⟩ | ⟨h1, h2, h3, h4, HR⟩ | ⟨h1, h2, h3, h4, HR⟩ | ⟨h1, h2, h3, HR⟩ | ⟨h1, HR⟩
  all_goals
    rw [HR.out]
    clear HR
    try (have e1 : (nm.size : Int) ≤ 30 := by omega)
    try (have e1 : ¬ (nm.size : Int) ≤ 30 := by omega)
    try (have e2 : (n : Int) ≤ 6 := by omega)
    try (have e2 : ¬ (n : Int) ≤ 6 := by omega)
    try (have e3 : (40 : Int) < n := by omega)
    try (have e3 : ¬ (40 : Int) < n := by omega)
    try (have e4 : (n : Int) ≤ 42 := by omega)
    try (have e4 : ¬ (n : Int) ≤ 42 := by omega)
    go_enter Try.func24, Try.ntmps24
    go_wp2_with fail
    try (go_region; go_wp2_with fail)
    go_ret
    exact ⟨rfl, by (repeat (first | with_reducible exact Below.refl _ _ | with_reducible refine alloc1 ?_ _ | with_reducible refine Below.drew ?_ | with_reducible refine drewN1 ?_ _ | with_reducible refine setC ?_ (by omega) _))⟩
end Go.Proofs.Ytodpjhhogcfodaa.Orb
