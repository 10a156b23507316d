import Derived.Test.YtadajelonekpmaaIb
namespace Go.Proofs.Ytadajelonekpmaa
open Go.RowKit Go.Proofs.Ytadajelonekpmaa.Flt

/-- the first s samples of the line l are zeros -/
def emptyTo (zs : List (Nat × Nat)) (S l s : Nat) : Bool := ((zs.drop (l * S)).take s).all (isZ .f32)
theorem emptyTo_step (zs : List (Nat × Nat)) (S l s : Nat) (h : l * S + s < zs.length) : emptyTo zs S l (s + 1) = (emptyTo zs S l s && isZ .f32 (zs.getD (l * S + s) (0, 0))) := by
  unfold emptyTo
  rw [List.take_succ_eq_append_getElem (by simp; omega), List.all_append]
  simp [List.getD_eq_getElem?_getD, List.getElem?_eq_getElem h]

end Go.Proofs.Ytadajelonekpmaa
