import Derived.Test.YtodpjhhogcfodaaVh
import Derived.Test.YtodpjhhogcfodaaYa
import Derived.Deep.RegionHeld3
import Derived.Outline
namespace Go.Proofs.Ytodpjhhogcfodaa.Orb
open Go.RowKit Lib

theorem refCoordinates_any (x y z : Int) (w : World) :
    Calls Try.prog 80 #[.agg #[.int .i64 x, .int .i64 y, .int .i64 z]] w fun e w' => e = .returned (.agg #[.int .i64 x, .int .i64 y, .int .i64 z]) ∧ Below w.heap.size w w' :=
  (refCoordinates_exact x y z w).mono fun e w' ⟨h1, h2⟩ => ⟨h1, by rw [← h2]; (repeat (first | with_reducible exact Below.refl _ _ | with_reducible refine alloc1 ?_ _ | with_reducible refine Below.drew ?_ | with_reducible refine drewN1 ?_ _ | with_reducible refine setC ?_ (by omega) _))⟩

set_option maxRecDepth 100000 in
theorem refLess_any (x y z x' y' z' : Int) (h1 : -1000000000 ≤ x ∧ x ≤ 1000000000) (h2 : -1000000000 ≤ y ∧ y ≤ 1000000000) (h3 : -1000000000 ≤ z ∧ z ≤ 1000000000) (h4 : -1000000000 ≤ x' ∧ x' ≤ 1000000000) (h5 : -1000000000 ≤ y' ∧ y' ≤ 1000000000) (h6 : -1000000000 ≤ z' ∧ z' ≤ 1000000000) (w : World) :
    Calls Try.prog 79 #[.agg #[.int .i64 x, .int .i64 y, .int .i64 z], .agg #[.int .i64 x', .int .i64 y', .int .i64 z']] w fun e w' => e = .returned (.agg #[.int .i64 (x - x'), .int .i64 (y - y'), .int .i64 (z - z')]) ∧ Below w.heap.size w w' := by
  go_enter Try.func79, Try.ntmps79
  go_wp2_with fail
  refine bodyPost_ret (v := .agg #[.int .i64 (x - x'), .int .i64 (y - y'), .int .i64 (z - z')]) (by simp [results, Try.results79, go_sem]) rfl ⟨rfl, ?_⟩
  (repeat (first | with_reducible exact Below.refl _ _ | with_reducible refine alloc1 ?_ _ | with_reducible refine Below.drew ?_ | with_reducible refine drewN1 ?_ _ | with_reducible refine setC ?_ (by omega) _))

set_option maxRecDepth 100000 in
theorem refProduct_any (x y z x' y' z' : Int) (h1 : -1000000000 ≤ x ∧ x ≤ 1000000000) (h2 : -1000000000 ≤ y ∧ y ≤ 1000000000) (h3 : -1000000000 ≤ z ∧ z ≤ 1000000000) (h4 : -1000000000 ≤ x' ∧ x' ≤ 1000000000) (h5 : -1000000000 ≤ y' ∧ y' ≤ 1000000000) (h6 : -1000000000 ≤ z' ∧ z' ≤ 1000000000) (w : World) :
    Calls Try.prog 82 #[.agg #[.int .i64 x, .int .i64 y, .int .i64 z], .agg #[.int .i64 x', .int .i64 y', .int .i64 z']] w fun e w' => e = .returned (.agg #[.int .i64 (x * x'), .int .i64 (y * y'), .int .i64 (z * z')]) ∧ Below w.heap.size w w' := by
  have b1 := mul_bd9 x x' h1 h4
  have b2 := mul_bd9 y y' h2 h5
  have b3 := mul_bd9 z z' h3 h6
  go_enter Try.func82, Try.ntmps82
  go_wp2_with fail
  refine bodyPost_ret (v := .agg #[.int .i64 (x * x'), .int .i64 (y * y'), .int .i64 (z * z')]) (by simp [results, Try.results82, go_sem]) rfl ⟨rfl, ?_⟩
  (repeat (first | with_reducible exact Below.refl _ _ | with_reducible refine alloc1 ?_ _ | with_reducible refine Below.drew ?_ | with_reducible refine drewN1 ?_ _ | with_reducible refine setC ?_ (by omega) _))

set_option maxRecDepth 100000 in
theorem refSum_any (x y z : Int) (h1 : -1000000000000000000 ≤ x ∧ x ≤ 1000000000000000000) (h2 : -1000000000000000000 ≤ y ∧ y ≤ 1000000000000000000) (h3 : -1000000000000000000 ≤ z ∧ z ≤ 1000000000000000000) (w : World) :
    Calls Try.prog 81 #[.agg #[.int .i64 x, .int .i64 y, .int .i64 z]] w fun e w' => e = .returned (.int .i64 (x + y + z)) ∧ Below w.heap.size w w' := by
  go_enter Try.func81, Try.ntmps81
  go_wp2_with fail
  go_ret
  exact ⟨rfl, by (repeat (first | with_reducible exact Below.refl _ _ | with_reducible refine alloc1 ?_ _ | with_reducible refine Below.drew ?_ | with_reducible refine drewN1 ?_ _ | with_reducible refine setC ?_ (by omega) _))⟩

set_option maxRecDepth 100000 in
set_option maxHeartbeats 2000000 in
/-- THE SQUARE OF THE DISTANCE OF TWO PLACES -/
theorem refSquare_any (x y z x' y' z' : Int) (h1 : -400000000 ≤ x ∧ x ≤ 400000000) (h2 : -400000000 ≤ y ∧ y ≤ 400000000) (h3 : -400000000 ≤ z ∧ z ≤ 400000000) (h4 : -400000000 ≤ x' ∧ x' ≤ 400000000) (h5 : -400000000 ≤ y' ∧ y' ≤ 400000000) (h6 : -400000000 ≤ z' ∧ z' ≤ 400000000) (w : World) :
    Calls Try.prog 28 #[.agg #[.int .i64 x, .int .i64 y, .int .i64 z], .agg #[.int .i64 x', .int .i64 y', .int .i64 z']] w fun e w' => e = .returned (.int .i64 ((x - x') * (x - x') + (y - y') * (y - y') + (z - z') * (z - z'))) ∧ Below w.heap.size w w' := by
  have C1 := Lib.hid (fun W => refCoordinates_any x y z W)
  have C2 := Lib.hid (fun W => refCoordinates_any x' y' z' W)
  have CL := Lib.hid (fun W => refLess_any x y z x' y' z' (by omega) (by omega) (by omega) (by omega) (by omega) (by omega) W)
  have CP := Lib.hid (fun W => refProduct_any (x - x') (y - y') (z - z') (x - x') (y - y') (z - z') (by omega) (by omega) (by omega) (by omega) (by omega) (by omega) W)
  have CS := Lib.hid (fun W => refSum_any ((x - x') * (x - x')) ((y - y') * (y - y')) ((z - z') * (z - z')) (mul_bd9 (x - x') (x - x') (by omega) (by omega)) (mul_bd9 (y - y') (y - y') (by omega) (by omega)) (mul_bd9 (z - z') (z - z') (by omega) (by omega)) W)
  generalize x - x' = dx at *
  generalize y - y' = dy at *
  generalize z - z' = dz at *
  clear h1 h2 h3 h4 h5 h6
  go_enter Try.func28, Try.ntmps28
  go_wp2_with fail
  obtain ⟨W0, hW0⟩ : ∃ W0, W0 = (w.alloc (.cells #[.int .i64 x, .int .i64 y, .int .i64 z] 26)).alloc (.cells #[.int .i64 x', .int .i64 y', .int .i64 z'] 26) := ⟨_, rfl⟩
  rw [← hW0]
  have HB0 := Lib.hid (show Below w.heap.size w W0 by rw [hW0]; (repeat (first | with_reducible exact Below.refl _ _ | with_reducible refine alloc1 ?_ _ | with_reducible refine Below.drew ?_ | with_reducible refine drewN1 ?_ _ | with_reducible refine setC ?_ (by omega) _)))
  obtain ⟨k0, k1, k2⟩ := cells3 (show W0.heap[w.heap.size]? = some (.cells #[.int .i64 x, .int .i64 y, .int .i64 z] 26 (0, 0)) by rw [hW0]; (repeat (first | ((with_reducible refine hnew ?_); (simp; done)) | with_reducible refine hdrew ?_ | with_reducible refine hold ?_)))
  obtain ⟨m0, m1, m2⟩ := cells3 (show W0.heap[w.heap.size + 1]? = some (.cells #[.int .i64 x', .int .i64 y', .int .i64 z'] 26 (0, 0)) by rw [hW0]; (repeat (first | ((with_reducible refine hnew ?_); (simp; done)) | with_reducible refine hdrew ?_ | with_reducible refine hold ?_)))
  clear hW0
  go_cut [5] from 6 to 10 (fun s5 wx => ∃ b5, s5 = .pointer (some ⟨b5, 0, none⟩) ∧ Hid (Below W0.heap.size W0 wx) ∧ Hid (wx.heap[b5]? = some (.cells #[.int .i64 dx, .int .i64 dy, .int .i64 dz] 82 (0, 0))))
  case first =>
    go_region_held3 (fun W => W.cell? ⟨w.heap.size, 0, none⟩ = some (.int .i64 x) ∧ W.cell? ⟨w.heap.size, 1, none⟩ = some (.int .i64 y) ∧ W.cell? ⟨w.heap.size, 2, none⟩ = some (.int .i64 z) ∧ W.cell? ⟨w.heap.size + 1, 0, none⟩ = some (.int .i64 x') ∧ W.cell? ⟨w.heap.size + 1, 1, none⟩ = some (.int .i64 y') ∧ W.cell? ⟨w.heap.size + 1, 2, none⟩ = some (.int .i64 z'))
      (with_reducible refine ⟨keepc ?_ k0, keepc ?_ k1, keepc ?_ k2, keepc ?_ m0, keepc ?_ m1, keepc ?_ m2⟩ <;> (repeat (first | with_reducible exact Below.refl _ _ | with_reducible refine andThen ?_ hbL | with_reducible refine andThen ?_ hb1 | with_reducible refine andThen ?_ hb2 | with_reducible refine alloc1 ?_ _ | with_reducible refine Below.drew ?_ | with_reducible refine setC ?_ (by first | exact hbL.size | exact hb1.size | exact hb2.size | exact Nat.le_refl _ | (have := hbL.size; have := hb1.size; have := hb2.size; simp at *; omega)) _)) <;> done)
      (first
        | (go_at_call 80; (with_reducible refine (C1.out _).mono ?_); rintro e wA ⟨rfl, hb1⟩; first | (have QB := Lib.hid (keepb hb1 QB.out); obtain ⟨q0, q1, q2⟩ := cells3 QB.out; obtain ⟨f0, f1, f2⟩ := free3 QB.out) | (have QB := Lib.hid (keepb hb1 (heap_alloc_new _ _)); obtain ⟨q0, q1, q2⟩ := cells3 QB.out; obtain ⟨f0, f1, f2⟩ := free3 QB.out) | skip)
        | (go_at_call 80; (with_reducible refine (C2.out _).mono ?_); rintro e wB ⟨rfl, hb2⟩; first | (have QB := Lib.hid (keepb hb2 QB.out); obtain ⟨q0, q1, q2⟩ := cells3 QB.out; obtain ⟨f0, f1, f2⟩ := free3 QB.out) | (have QB := Lib.hid (keepb hb2 (heap_alloc_new _ _)); obtain ⟨q0, q1, q2⟩ := cells3 QB.out; obtain ⟨f0, f1, f2⟩ := free3 QB.out) | skip)
        | (go_at_call 79; (with_reducible refine (CL.out _).mono ?_); rintro e wL ⟨rfl, hbL⟩; first | (have QB := Lib.hid (keepb hbL QB.out); obtain ⟨q0, q1, q2⟩ := cells3 QB.out; obtain ⟨f0, f1, f2⟩ := free3 QB.out) | (have QB := Lib.hid (keepb hbL (heap_alloc_new _ _)); obtain ⟨q0, q1, q2⟩ := cells3 QB.out; obtain ⟨f0, f1, f2⟩ := free3 QB.out) | skip))
    all_goals
      go_wp2_with fail
      go_meet
      case rel =>
        first
          | exact ⟨_, rfl, Lib.hid (by (repeat (first | with_reducible exact Below.refl _ _ | with_reducible refine andThen ?_ hbL | with_reducible refine andThen ?_ hb1 | with_reducible refine andThen ?_ hb2 | with_reducible refine alloc1 ?_ _ | with_reducible refine Below.drew ?_ | with_reducible refine setC ?_ (by first | exact hbL.size | exact hb1.size | exact hb2.size | exact Nat.le_refl _ | (have := hbL.size; have := hb1.size; have := hb2.size; simp at *; omega)) _))), Lib.hid (set_block (set_block (set_block QB.out)))⟩
          | exact ⟨_, rfl, Lib.hid (by (repeat (first | with_reducible exact Below.refl _ _ | with_reducible refine andThen ?_ hbL | with_reducible refine andThen ?_ hb1 | with_reducible refine andThen ?_ hb2 | with_reducible refine alloc1 ?_ _ | with_reducible refine Below.drew ?_ | with_reducible refine drewN1 ?_ _ | with_reducible refine setC ?_ (by omega) _))), Lib.hid (by (repeat (first | ((with_reducible refine hnew ?_); (simp; done)) | with_reducible refine hdrew ?_ | with_reducible refine hold ?_)))⟩
  obtain ⟨b5, rfl, HBX, H5⟩ := hcut
  obtain ⟨w5, rfl⟩ : ∃ w5 : World, w5 = wc := ⟨_, rfl⟩
  have HB5 := Lib.hid (trans' HB0.out HBX.out)
  obtain ⟨n0, n1, n2⟩ := cells3 H5.out
  clear k0 k1 k2 m0 m1 m2
  go_wp2_with fail
  refine (CP.out _).mono ?_
  rintro e w6 ⟨rfl, hb⟩
  have HB6 := Lib.hid (trans' HB5.out hb)
  clear hb
  go_wp2_with fail
  refine (CS.out _).mono ?_
  rintro e w7 ⟨rfl, hb⟩
  have HB7 := Lib.hid (trans' HB6.out hb)
  clear hb
  go_wp2_with fail
  go_ret
  exact ⟨rfl, HB7.out⟩
end Go.Proofs.Ytodpjhhogcfodaa.Orb
