import Derived.Test.YtmiaglkkjncfnaaDoorGe
namespace Go.Proofs.YtmiaglkkjncfnaaDoor
open Go.RowKit Go.Proofs.YtmiaglkkjncfnaaDoor.Flt

/-- a law's field in its box, in a later world -/
structure FldIn (l s : Int) (pv cv : Value) (xs cs : List Nat) (w W : World) : Prop where
  blk : W.heap[w.heap.size]? = some (.cells #[.int .i64 l, .int .i64 s, pv, cv] 25 (0, 0))
  hb : Below w.heap.size w W
  p : Fls .f64 xs W pv
  c : Fls .f32 cs W cv
theorem FldIn.start {l s : Int} {pv cv : Value} {xs cs : List Nat} {w : World} (hp : Fls .f64 xs w pv) (hc : Fls .f32 cs w cv) : FldIn l s pv cv xs cs w (w.alloc (.cells #[.int .i64 l, .int .i64 s, pv, cv] 25)) := by
  have hb : Below w.heap.size w (w.alloc (.cells #[.int .i64 l, .int .i64 s, pv, cv] 25)) := (Below.refl _ _).alloc (Nat.le_refl _) _
  exact ⟨heap_alloc_new _ _, hb, hp.below hb, hc.below hb⟩
theorem FldIn.next {l s : Int} {pv cv : Value} {xs cs : List Nat} {w W W' : World} (h : FldIn l s pv cv xs cs w W) (hb : Below W.heap.size W W') : FldIn l s pv cv xs cs w W' :=
  ⟨(hb.block _ (lt_of_block h.blk)).trans h.blk, h.hb.trans (hb.mono h.hb.size), h.p.below hb, h.c.below hb⟩
/-- a block as it was made -/
structure BoxIn (b : Nat) (cs : Array Value) (t : TypeId) (W : World) : Prop where
  blk : W.heap[b]? = some (.cells cs t (0, 0))
theorem BoxIn.next {b : Nat} {cs : Array Value} {t : TypeId} {W W' : World} (h : BoxIn b cs t W) (hb : Below W.heap.size W W') : BoxIn b cs t W' := ⟨(hb.block _ (lt_of_block h.blk)).trans h.blk⟩

end Go.Proofs.YtmiaglkkjncfnaaDoor
