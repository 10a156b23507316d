import Derived.Test.YtmbolmmcfnfamaaVf
import Derived.StillTailTactics
import Derived.IntWalk
import Derived.Outline
namespace Go.Proofs.Ytmbolmmcfnfamaa.Orb
open Go.RowKit Lib

/-- three numbers, the first k of them in place -/
def arrCells (N : Nat → Int) (k : Nat) : Array Value := #[.int .i64 (if 0 < k then N 0 else 0), .int .i64 (if 1 < k then N 1 else 0), .int .i64 (if 2 < k then N 2 else 0)]
theorem arr_step {w : World} {b k : Nat} {N : Nat → Int} {t : TypeId} (hk : k < 3) (h : w.heap[b]? = some (.cells (arrCells N k) t (0, 0))) :
    (w.setCell ⟨b, k, none⟩ (.int .i64 (N k))).heap[b]? = some (.cells (arrCells N (k + 1)) t (0, 0)) := by
  rw [set_block h]
  match k, hk with
  | 0, _ => rfl
  | 1, _ => rfl
  | 2, _ => rfl
theorem arr_cell {w : World} {b k : Nat} {N : Nat → Int} {t : TypeId} (hk : k < 3) (h : w.heap[b]? = some (.cells (arrCells N k) t (0, 0))) :
    w.cell? ⟨b, k, none⟩ = some (.int .i64 0) ∧ w.frozen? ⟨b, k, none⟩ = false := by
  rw [cell_of_row _ _ _ _ _ _ h, frozen_of_row w b _ _ t h]
  match k, hk with
  | 0, _ => exact ⟨rfl, rfl⟩
  | 1, _ => exact ⟨rfl, rfl⟩
  | 2, _ => exact ⟨rfl, rfl⟩
theorem pt_read {w : World} {b k : Nat} {P : Nat → Int} {wr bn den : Int} {t : TypeId} (hk : k < 3) (h : w.heap[b]? = some (.cells (ptCells P 3 wr bn den) t (0, 0))) :
    w.cell? ⟨b, k, none⟩ = some (.int .i64 (P k)) ∧ w.cell? ⟨b, 3, none⟩ = some (.int .i64 wr) ∧ w.cell? ⟨b, 4, none⟩ = some (.int .i64 bn) ∧ w.cell? ⟨b, 5, none⟩ = some (.int .i64 den) := by
  rw [cell_of_row _ _ _ _ _ _ h, cell_of_row _ _ _ _ _ _ h, cell_of_row _ _ _ _ _ _ h, cell_of_row _ _ _ _ _ _ h]
  match k, hk with
  | 0, _ => exact ⟨rfl, rfl, rfl, rfl⟩
  | 1, _ => exact ⟨rfl, rfl, rfl, rfl⟩
  | 2, _ => exact ⟨rfl, rfl, rfl, rfl⟩

end Go.Proofs.Ytmbolmmcfnfamaa.Orb
