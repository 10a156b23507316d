import Derived.Test.YtadajelonekpmaaWa
namespace Go.Proofs.Ytadajelonekpmaa
open Go.RowKit Go.Proofs.Ytadajelonekpmaa.Flt

theorem smpErrs_get {k : FloatKind} {M : Int} {zs : List (Nat × Nat)} {i : Nat} (h : i < zs.length) : (smpErrs k M zs)[i]? = some (smpErr (wv k.format (zs.getD i (0, 0)).1) (wv k.format (zs.getD i (0, 0)).2) M) := by
  simp [smpErrs, List.getElem?_eq_getElem h, List.getD_eq_getElem?_getD]

end Go.Proofs.Ytadajelonekpmaa
