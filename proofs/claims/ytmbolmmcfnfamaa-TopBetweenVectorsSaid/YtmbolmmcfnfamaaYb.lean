import Derived.Test.YtmbolmmcfnfamaaVh
import Derived.Test.YtmbolmmcfnfamaaYa
import Derived.Deep.RegionHeld3
import Derived.Outline
namespace Go.Proofs.Ytmbolmmcfnfamaa.Orb
open Go.RowKit Lib

theorem refCoordinates_any (x y z : Int) (w : World) :
    Calls Try.prog 98 #[.agg #[.int .i64 x, .int .i64 y, .int .i64 z]] w fun e w' => e = .returned (.agg #[.int .i64 x, .int .i64 y, .int .i64 z]) ∧ Below w.heap.size w w' :=
  (refCoordinates_exact x y z w).mono fun e w' ⟨h1, h2⟩ => ⟨h1, by rw [← h2]; (repeat (first | with_reducible exact Below.refl _ _ | with_reducible refine alloc1 ?_ _ | with_reducible refine Below.drew ?_ | with_reducible refine drewN1 ?_ _ | with_reducible refine setC ?_ (by omega) _))⟩

end Go.Proofs.Ytmbolmmcfnfamaa.Orb
