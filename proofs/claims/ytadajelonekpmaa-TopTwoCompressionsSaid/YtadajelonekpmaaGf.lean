import Derived.Test.YtadajelonekpmaaGe
namespace Go.Proofs.Ytadajelonekpmaa
open Go.RowKit Go.Proofs.Ytadajelonekpmaa.Flt

/-- a block as it was made -/
structure BoxIn (b : Nat) (cs : Array Value) (t : TypeId) (W : World) : Prop where
  blk : W.heap[b]? = some (.cells cs t (0, 0))
theorem BoxIn.next {b : Nat} {cs : Array Value} {t : TypeId} {W W' : World} (h : BoxIn b cs t W) (hb : Below W.heap.size W W') : BoxIn b cs t W' := ⟨(hb.block _ (lt_of_block h.blk)).trans h.blk⟩

end Go.Proofs.Ytadajelonekpmaa
