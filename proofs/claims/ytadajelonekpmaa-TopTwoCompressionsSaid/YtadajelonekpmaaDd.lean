import Derived.Test.YtadajelonekpmaaDa
namespace Go.Proofs.Ytadajelonekpmaa
open Go.RowKit Go.Proofs.Ytadajelonekpmaa.Flt

theorem four_cells {w : World} {N : Nat} {a b c d : Value} {t : TypeId} (h : w.heap[N]? = some (.cells #[a, b, c, d] t (0, 0))) :
    w.cell? ⟨N, 0, none⟩ = some a ∧ w.cell? ⟨N, 1, none⟩ = some b ∧ w.cell? ⟨N, 2, none⟩ = some c ∧ w.cell? ⟨N, 3, none⟩ = some d ∧ N < w.heap.size :=
  ⟨cell_of_row w N 0 _ t _ h, cell_of_row w N 1 _ t _ h, cell_of_row w N 2 _ t _ h, cell_of_row w N 3 _ t _ h, lt_of_block h⟩

/-- a scene that a law was handed, in its box -/
structure ScIn (l s : Int) (pv cv : Value) (xs cs : List Nat) (w W : World) : Prop where
  blk : W.heap[w.heap.size]? = some (.cells #[.int .i64 l, .int .i64 s, pv, cv] 24 (0, 0))
  hb : Below w.heap.size w W
  p : Fls .f32 xs W pv
  c : Fls .f32 cs W cv
theorem ScIn.start {l s : Int} {pv cv : Value} {xs cs : List Nat} {w : World} (hp : Fls .f32 xs w pv) (hc : Fls .f32 cs w cv) : ScIn l s pv cv xs cs w (w.alloc (.cells #[.int .i64 l, .int .i64 s, pv, cv] 24)) := by
  have hb : Below w.heap.size w (w.alloc (.cells #[.int .i64 l, .int .i64 s, pv, cv] 24)) := (Below.refl _ _).alloc (Nat.le_refl _) _
  exact ⟨heap_alloc_new _ _, hb, hp.below hb, hc.below hb⟩
theorem ScIn.next {l s : Int} {pv cv : Value} {xs cs : List Nat} {w W W' : World} (h : ScIn l s pv cv xs cs w W) (hb : Below W.heap.size W W') : ScIn l s pv cv xs cs w W' :=
  ⟨(hb.block _ (lt_of_block h.blk)).trans h.blk, h.hb.trans (hb.mono h.hb.size), h.p.below hb, h.c.below hb⟩

end Go.Proofs.Ytadajelonekpmaa
