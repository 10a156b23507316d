import Derived.Test.YtadajelonekpmaaGc
import Derived.Test.YtadajelonekpmaaOa
namespace Go.Proofs.Ytadajelonekpmaa
open Go.RowKit Go.Proofs.Ytadajelonekpmaa.Flt

end Go.Proofs.Ytadajelonekpmaa
