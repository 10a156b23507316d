import Derived.Test.YtadajelonekpmaaSb
import Derived.Test.YtadajelonekpmaaDd
namespace Go.Proofs.Ytadajelonekpmaa
open Go.RowKit Go.Proofs.Ytadajelonekpmaa.Flt

/-- what a law's own field is -/
def FldR (l s : Int) (zs : List (Nat × Nat)) (w : World) (e : Ending) (w' : World) : Prop :=
  ∃ v, e = .returned (.agg #[.int .i64 l, .int .i64 s, v]) ∧ Below w.heap.size w w' ∧ Smp .f64 zs w' v

theorem cap_owns {W : World} {v : Value} {B n k : Nat} {e : TypeId} {xs : List Value} (ho : W.ownsRow B e k v n xs) : ∀ a m c, v = .slice a m c → m ≤ c ∧ c ≤ 9223372036854775807 := by
  intro a m c hv
  rcases ho.2 with ⟨h, -⟩ | ⟨g, cap, cur, h, -, -, h1, h2, -⟩
  · rw [h] at hv; cases hv; exact ⟨Nat.le_refl _, by decide⟩
  · rw [h] at hv; cases hv; exact ⟨h1, by unfold maxLen at h2; omega⟩
/-- the same, with the cap of its slice -/
def FldRC (l s : Int) (zs : List (Nat × Nat)) (w : World) (e : Ending) (w' : World) : Prop :=
  ∃ v, e = .returned (.agg #[.int .i64 l, .int .i64 s, v]) ∧ Below w.heap.size w w' ∧ Smp .f64 zs w' v ∧ ∀ a m c, v = .slice a m c → m ≤ c ∧ c ≤ 9223372036854775807

def slightB (np nc : Nat) : Bool := decide (np ≤ 400) && decide (nc ≤ 70)

end Go.Proofs.Ytadajelonekpmaa
