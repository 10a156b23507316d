import Derived.Test.YtadajelonekpmaaGd
namespace Go.Proofs.Ytadajelonekpmaa
open Go.RowKit Go.Proofs.Ytadajelonekpmaa.Flt

def mostAt (zs : List (Nat × Nat)) (t : Nat) : Int := if t = 0 then -1 else enAt zs (bestI (enAt zs) t)

end Go.Proofs.Ytadajelonekpmaa
