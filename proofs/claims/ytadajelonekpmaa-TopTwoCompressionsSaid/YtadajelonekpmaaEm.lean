import Derived.Test.YtadajelonekpmaaEl
import Derived.Test.YtadajelonekpmaaShelf
namespace Go.Proofs.Ytadajelonekpmaa
open Go.RowKit Go.Proofs.Ytadajelonekpmaa.Flt

theorem floatToInt_of32 {x : Nat} {n : Int} (h : (Ieee.single.read x).toInt .zero = some n) (h1 : -9223372036854775808 ≤ n) (h2 : n ≤ 9223372036854775807) : floatToIntVal .f32 x .i64 = some n := by
  unfold floatToIntVal
  have : (FloatKind.f32.decode x).toInt .zero = some n := h
  rw [this]
  dsimp only
  rw [if_pos ⟨h1, h2⟩]

/-- a step of the check -/
def chkW (c k : Int) : Int := (31 * c + k + 2048) % 65521
theorem chkW_b (c k : Int) : 0 ≤ chkW c k ∧ chkW c k < 65521 := ⟨Int.emod_nonneg _ (by decide), Int.emod_lt_of_pos _ (by decide)⟩

/-- the check of the first samples -/
def chkTo (zs : List (Nat × Nat)) : Nat → Int
  | 0 => 0
  | i + 1 => chkW (chkW (chkTo zs i) (re .f32 zs i)) (im .f32 zs i)
theorem chkTo_b (zs : List (Nat × Nat)) (i : Nat) : 0 ≤ chkTo zs i ∧ chkTo zs i < 65521 := by
  cases i with
  | zero => unfold chkTo; decide
  | succ i => exact chkW_b _ _

theorem Try.infoStr : (Try.prog.info? 9).map (fun i => (i.zero, i.size, i.bytes)) = some (some (.string ⟨#[]⟩), 1, 16) := by kernel_rfl
theorem below_grows (w : World) (k : Nat) (os : Array Obj) : Below w.heap.size w (Go.Sort.grow (w.drewN k) os) := by
  refine ⟨rfl, rfl, rfl, ?_, fun b hb => ?_⟩
  · show w.heap.size ≤ (w.heap ++ os).size
    simp
  · show (w.heap ++ os)[b]? = w.heap[b]?
    exact Array.getElem?_append_left hb

theorem own_kept {w w' : World} {B e size n : Nat} {v : Value} {xs : List Value} (h : w.ownsRow B e size v n xs) (hb : Below w.heap.size w w') : w'.ownsRow B e size v n xs := by
  obtain ⟨h1, h2⟩ := h
  refine ⟨h1, ?_⟩
  rcases h2 with h2 | ⟨g, cap, cur, p1, p2, p3, p4⟩
  · exact .inl h2
  · exact .inr ⟨g, cap, cur, p1, p2, (hb.block g (Array.getElem?_eq_some_iff.1 p3).1).trans p3, p4⟩

end Go.Proofs.Ytadajelonekpmaa
