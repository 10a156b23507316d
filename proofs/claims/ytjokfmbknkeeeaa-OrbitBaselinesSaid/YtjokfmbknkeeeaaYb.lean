import Derived.Test.YtjokfmbknkeeeaaVh
import Derived.Test.YtjokfmbknkeeeaaYa
import Derived.Deep.RegionHeld3
import Derived.Outline
namespace Go.Proofs.Ytjokfmbknkeeeaa.Orb
open Go.RowKit Lib

theorem refCoordinates_any (x y z : Int) (w : World) :
    Calls Try.prog 61 #[.agg #[.int .i64 x, .int .i64 y, .int .i64 z]] w fun e w' => e = .returned (.agg #[.int .i64 x, .int .i64 y, .int .i64 z]) ∧ Below w.heap.size w w' :=
  (refCoordinates_exact x y z w).mono fun e w' ⟨h1, h2⟩ => ⟨h1, by rw [← h2]; (repeat (first | with_reducible exact Below.refl _ _ | with_reducible refine alloc1 ?_ _ | with_reducible refine Below.drew ?_ | with_reducible refine drewN1 ?_ _ | with_reducible refine setC ?_ (by omega) _))⟩

set_option maxRecDepth 100000 in
theorem refLess_any (x y z x' y' z' : Int) (h1 : -1000000000 ≤ x ∧ x ≤ 1000000000) (h2 : -1000000000 ≤ y ∧ y ≤ 1000000000) (h3 : -1000000000 ≤ z ∧ z ≤ 1000000000) (h4 : -1000000000 ≤ x' ∧ x' ≤ 1000000000) (h5 : -1000000000 ≤ y' ∧ y' ≤ 1000000000) (h6 : -1000000000 ≤ z' ∧ z' ≤ 1000000000) (w : World) :
    Calls Try.prog 63 #[.agg #[.int .i64 x, .int .i64 y, .int .i64 z], .agg #[.int .i64 x', .int .i64 y', .int .i64 z']] w fun e w' => e = .returned (.agg #[.int .i64 (x - x'), .int .i64 (y - y'), .int .i64 (z - z')]) ∧ Below w.heap.size w w' := by
  go_enter Try.func63, Try.ntmps63
  go_wp2_with fail
  refine bodyPost_ret (v := .agg #[.int .i64 (x - x'), .int .i64 (y - y'), .int .i64 (z - z')]) (by simp [results, Try.results63, go_sem]) rfl ⟨rfl, ?_⟩
  (repeat (first | with_reducible exact Below.refl _ _ | with_reducible refine alloc1 ?_ _ | with_reducible refine Below.drew ?_ | with_reducible refine drewN1 ?_ _ | with_reducible refine setC ?_ (by omega) _))

set_option maxRecDepth 100000 in
theorem refProduct_any (x y z x' y' z' : Int) (h1 : -1000000000 ≤ x ∧ x ≤ 1000000000) (h2 : -1000000000 ≤ y ∧ y ≤ 1000000000) (h3 : -1000000000 ≤ z ∧ z ≤ 1000000000) (h4 : -1000000000 ≤ x' ∧ x' ≤ 1000000000) (h5 : -1000000000 ≤ y' ∧ y' ≤ 1000000000) (h6 : -1000000000 ≤ z' ∧ z' ≤ 1000000000) (w : World) :
    Calls Try.prog 66 #[.agg #[.int .i64 x, .int .i64 y, .int .i64 z], .agg #[.int .i64 x', .int .i64 y', .int .i64 z']] w fun e w' => e = .returned (.agg #[.int .i64 (x * x'), .int .i64 (y * y'), .int .i64 (z * z')]) ∧ Below w.heap.size w w' := by
  have b1 := mul_bd9 x x' h1 h4
  have b2 := mul_bd9 y y' h2 h5
  have b3 := mul_bd9 z z' h3 h6
  go_enter Try.func66, Try.ntmps66
  go_wp2_with fail
  refine bodyPost_ret (v := .agg #[.int .i64 (x * x'), .int .i64 (y * y'), .int .i64 (z * z')]) (by simp [results, Try.results66, go_sem]) rfl ⟨rfl, ?_⟩
  (repeat (first | with_reducible exact Below.refl _ _ | with_reducible refine alloc1 ?_ _ | with_reducible refine Below.drew ?_ | with_reducible refine drewN1 ?_ _ | with_reducible refine setC ?_ (by omega) _))

set_option maxRecDepth 100000 in
theorem refSum_any (x y z : Int) (h1 : -1000000000000000000 ≤ x ∧ x ≤ 1000000000000000000) (h2 : -1000000000000000000 ≤ y ∧ y ≤ 1000000000000000000) (h3 : -1000000000000000000 ≤ z ∧ z ≤ 1000000000000000000) (w : World) :
    Calls Try.prog 65 #[.agg #[.int .i64 x, .int .i64 y, .int .i64 z]] w fun e w' => e = .returned (.int .i64 (x + y + z)) ∧ Below w.heap.size w w' := by
  go_enter Try.func65, Try.ntmps65
  go_wp2_with fail
  go_ret
  exact ⟨rfl, by (repeat (first | with_reducible exact Below.refl _ _ | with_reducible refine alloc1 ?_ _ | with_reducible refine Below.drew ?_ | with_reducible refine drewN1 ?_ _ | with_reducible refine setC ?_ (by omega) _))⟩

end Go.Proofs.Ytjokfmbknkeeeaa.Orb
