import Derived.Test.YtmbolmmcfnfamaaYb
import Derived.Test.YtmbolmmcfnfamaaYh
import Derived.Test.YtmbolmmcfnfamaaRl
import Derived.BigQuiet
import Derived.StillTailTactics
import Derived.IntWalk
import Derived.Deep.RegionHeld3
import Derived.Outline
namespace Go.Proofs.Ytmbolmmcfnfamaa.Orb
open Go.RowKit Lib

theorem tri_read {w : World} {b k : Nat} {N : Nat → Int} {t : TypeId} (hk : k < 3) (h : w.heap[b]? = some (.cells #[.int .i64 (N 0), .int .i64 (N 1), .int .i64 (N 2)] t (0, 0))) :
    w.cell? ⟨b, k, none⟩ = some (.int .i64 (N k)) := by
  rw [cell_of_row _ _ _ _ _ _ h]
  match k, hk with
  | 0, _ => rfl
  | 1, _ => rfl
  | 2, _ => rfl

end Go.Proofs.Ytmbolmmcfnfamaa.Orb
