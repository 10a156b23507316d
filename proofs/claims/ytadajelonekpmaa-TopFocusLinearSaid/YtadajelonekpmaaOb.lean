import Derived.Test.YtadajelonekpmaaOa
import Derived.Test.YtadajelonekpmaaKb
namespace Go.Proofs.Ytadajelonekpmaa
open Go.RowKit Go.Proofs.Ytadajelonekpmaa.Flt

/-- two scenes that a law was handed, in their boxes -/
structure Sc2 (l s : Int) (pv cv : Value) (l' s' : Int) (pv' cv' : Value) (xs cs xs2 cs2 : List Nat) (w W : World) : Prop where
  b0 : W.heap[w.heap.size]? = some (.cells #[.int .i64 l, .int .i64 s, pv, cv] 24 (0, 0))
  b1 : W.heap[w.heap.size + 1]? = some (.cells #[.int .i64 l', .int .i64 s', pv', cv'] 24 (0, 0))
  hb : Below w.heap.size w W
  p : Fls .f32 xs W pv
  c : Fls .f32 cs W cv
  p' : Fls .f32 xs2 W pv'
  c' : Fls .f32 cs2 W cv'
theorem Sc2.next {l s : Int} {pv cv : Value} {l' s' : Int} {pv' cv' : Value} {xs cs xs2 cs2 : List Nat} {w W W' : World} (h : Sc2 l s pv cv l' s' pv' cv' xs cs xs2 cs2 w W) (hb : Below W.heap.size W W') : Sc2 l s pv cv l' s' pv' cv' xs cs xs2 cs2 w W' :=
  ⟨(hb.block _ (lt_of_block h.b0)).trans h.b0, (hb.block _ (lt_of_block h.b1)).trans h.b1, h.hb.trans (hb.mono h.hb.size), h.p.below hb, h.c.below hb, h.p'.below hb, h.c'.below hb⟩
theorem Sc2.start {l s : Int} {pv cv : Value} {l' s' : Int} {pv' cv' : Value} {xs cs xs2 cs2 : List Nat} {w : World} (hp : Fls .f32 xs w pv) (hc : Fls .f32 cs w cv) (hp' : Fls .f32 xs2 w pv') (hc' : Fls .f32 cs2 w cv') :
    Sc2 l s pv cv l' s' pv' cv' xs cs xs2 cs2 w ((w.alloc (.cells #[.int .i64 l, .int .i64 s, pv, cv] 24)).alloc (.cells #[.int .i64 l', .int .i64 s', pv', cv'] 24)) := by
  obtain ⟨a1, a2⟩ := alloc2_blocks w (.cells #[.int .i64 l, .int .i64 s, pv, cv] 24) (.cells #[.int .i64 l', .int .i64 s', pv', cv'] 24)
  have hb := below_new2 w (.cells #[.int .i64 l, .int .i64 s, pv, cv] 24) (.cells #[.int .i64 l', .int .i64 s', pv', cv'] 24)
  exact ⟨a1, a2, hb, hp.below hb, hc.below hb, hp'.below hb, hc'.below hb⟩

/-- an image in its box -/
structure IBox (l s : Int) (v : Value) (C : List (Nat × Nat)) (b : Nat) (W : World) : Prop where
  blk : W.heap[b]? = some (.cells #[.int .i64 l, .int .i64 s, v] 29 (0, 0))
  smp : Smp .f32 C W v
theorem IBox.next {l s : Int} {v : Value} {C : List (Nat × Nat)} {b : Nat} {W W' : World} (h : IBox l s v C b W) (hb : Below W.heap.size W W') : IBox l s v C b W' :=
  ⟨(hb.block _ (lt_of_block h.blk)).trans h.blk, h.smp.below hb⟩
theorem IBox.born {l s : Int} {v : Value} {C : List (Nat × Nat)} {W : World} (h : Smp .f32 C W v) : IBox l s v C W.heap.size (W.alloc (.cells #[.int .i64 l, .int .i64 s, v] 29)) :=
  ⟨heap_alloc_new _ _, h.alloc _⟩
theorem Smp.set3k {k : FloatKind} {C : List (Nat × Nat)} {W : World} {v : Value} {b : Nat} {a c : Int} {t : TypeId} (h : Smp k C W v) (q : W.heap[b]? = some (.cells #[.int .i64 a, .int .i64 c, .slice none 0 0] t (0, 0))) (u0 u1 u2 : Value) :
    Smp k C (((W.setCell ⟨b, 0, none⟩ u0).setCell ⟨b, 1, none⟩ u1).setCell ⟨b, 2, none⟩ u2) v := by
  obtain ⟨ad, cap, hv, hl, hx⟩ := h.sl.form
  refine ⟨ad, cap, hv, hl, ?_⟩
  rcases hx with hx | ⟨b', off, h1, h2, h3⟩
  · exact .inl hx
  · by_cases hb : b' = b
    · refine .inl ?_
      cases C with
      | nil => rfl
      | cons z C =>
        exfalso
        have h4 := h3 0 (.complex k z.1 z.2) rfl
        rw [hb, cell_of_row W b _ _ t _ q, Nat.add_zero] at h4
        match off, h4 with
        | 0, h4 => cases h4
        | 1, h4 => cases h4
        | 2, h4 => cases h4
        | _ + 3, h4 => simp at h4
    · exact .inr ⟨b', off, h1, by simp only [World.setCell, Array.size_modify]; exact h2, fun j x hx => Go.Proofs.Ytadajelonekpmaa.set3 (h3 j x hx) hb⟩
theorem IBox.made {l s : Int} {v : Value} {C : List (Nat × Nat)} {b : Nat} {W : World} {x0 x1 : Int} (q : W.heap[b]? = some (.cells #[.int .i64 x0, .int .i64 x1, .slice none 0 0] 29 (0, 0))) (h : Smp .f32 C W v) :
    IBox l s v C b (((W.setCell ⟨b, 0, none⟩ (.int .i64 l)).setCell ⟨b, 1, none⟩ (.int .i64 s)).setCell ⟨b, 2, none⟩ v) := ⟨blk_set3 _ _ _ q, h.set3k q _ _ _⟩


/-- an image that is none -/
theorem Smp.none32 {W : World} {v : Value} (h : Smp .f32 [] W v) : ∃ a c, v = .slice a 0 c := by
  obtain ⟨a, c, h, -⟩ := h.sl.form
  exact ⟨a, c, h⟩
end Go.Proofs.Ytadajelonekpmaa
