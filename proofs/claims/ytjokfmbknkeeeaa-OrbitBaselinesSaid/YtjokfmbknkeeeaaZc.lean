import Derived.Test.YtjokfmbknkeeeaaZb
import Derived.Test.YtjokfmbknkeeeaaYb
import Derived.Outline
namespace Go.Proofs.Ytjokfmbknkeeeaa.Orb
open Go.RowKit Lib

theorem cell_ne {W : World} {b o c i : Nat} {x v : Value} (hne : b ≠ c) (h : W.cell? ⟨b, o, none⟩ = some x) : (W.setCell ⟨c, i, none⟩ v).cell? ⟨b, o, none⟩ = some x :=
  (World.cell?_of_block (Below.heap_setCell _ _ _ _ hne)).trans h
theorem tri_readC {w : World} {b k : Nat} {N : Nat → Int} {t : TypeId} (hk : k < 3) (h : w.heap[b]? = some (.cells #[.int .i64 (N 0), .int .i64 (N 1), .int .i64 (N 2)] t (0, 0))) :
    w.cell? ⟨b, k, none⟩ = some (.int .i64 (N k)) := by
  rw [cell_of_row _ _ _ _ _ _ h]
  match k, hk with
  | 0, _ => rfl
  | 1, _ => rfl
  | 2, _ => rfl
theorem five_tail {W : World} {b : Nat} {t x y z u : Value} {ty : TypeId} (h : W.heap[b]? = some (.cells #[t, x, y, z, u] ty (0, 0))) :
    W.cell? ⟨b, 0, none⟩ = some t ∧ W.cell? ⟨b, 1, none⟩ = some x ∧ W.cell? ⟨b, 2, none⟩ = some y ∧ W.cell? ⟨b, 3, none⟩ = some z := by
  obtain ⟨a, b, c, d, -⟩ := cells5 h
  exact ⟨a, b, c, d⟩

end Go.Proofs.Ytjokfmbknkeeeaa.Orb
