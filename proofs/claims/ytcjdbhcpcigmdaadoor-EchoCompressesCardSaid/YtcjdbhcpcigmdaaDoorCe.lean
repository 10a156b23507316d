import Derived.Test.YtcjdbhcpcigmdaaDoorCc
namespace Go.Proofs.YtcjdbhcpcigmdaaDoor
open Go.RowKit Go.Proofs.YtcjdbhcpcigmdaaDoor.Flt

theorem Smp.drew {k : FloatKind} {zs : List (Nat × Nat)} {W : World} {v : Value} (h : Smp k zs W v) : Smp k zs W.drew v := ⟨⟨h.sl.form⟩⟩
theorem ScIn.alloc {l s : Int} {pv cv : Value} {xs cs : List Nat} {w W : World} (h : ScIn l s pv cv xs cs w W) (o : Obj) : ScIn l s pv cv xs cs w (W.alloc o) := h.next ((Below.refl _ _).alloc (Nat.le_refl _) _)
theorem Smp.alloc {k : FloatKind} {zs : List (Nat × Nat)} {W : World} {v : Value} (h : Smp k zs W v) (o : Obj) : Smp k zs (W.alloc o) v := h.below ((Below.refl _ _).alloc (Nat.le_refl _) _)
theorem box_after {W W' : World} {a b c : Value} {t : TypeId} (hb : Below (W.alloc (.cells #[a, b, c] t)).heap.size (W.alloc (.cells #[a, b, c] t)) W') : W'.heap[W.heap.size]? = some (.cells #[a, b, c] t (0, 0)) :=
  (hb.block _ (lt_of_block (heap_alloc_new _ _))).trans (heap_alloc_new _ _)
theorem box_after_drew {W W' : World} {a b c : Value} {t : TypeId} (hb : Below (W.alloc (.cells #[a, b, c] t)).drew.heap.size (W.alloc (.cells #[a, b, c] t)).drew W') : W'.heap[W.heap.size]? = some (.cells #[a, b, c] t (0, 0)) :=
  (hb.block _ (lt_of_block (heap_alloc_new _ _))).trans (heap_alloc_new _ _)
theorem set3 {W : World} {b : Nat} {p : Addr} {u0 u1 u2 : Value} {v : Option Value} (h : W.cell? p = v) (hb : p.block ≠ b) : (((W.setCell ⟨b, 0, none⟩ u0).setCell ⟨b, 1, none⟩ u1).setCell ⟨b, 2, none⟩ u2).cell? p = v := by
  rw [← h]
  exact World.cell?_of_block ((Below.heap_setCell _ _ _ _ hb).trans ((Below.heap_setCell _ _ _ _ hb).trans (Below.heap_setCell _ _ _ _ hb)))

theorem blk_setCell (W : World) (b i : Nat) (u : Value) (cs : Array Value) (t : TypeId) (h : W.heap[b]? = some (.cells cs t (0, 0))) : (W.setCell ⟨b, i, none⟩ u).heap[b]? = some (.cells (cs.setIfInBounds i u) t (0, 0)) := by
  simp [World.setCell, Array.getElem?_modify, h]
theorem blk_set3 {W : World} {b : Nat} {x0 x1 x2 : Value} {t : TypeId} (u0 u1 u2 : Value) (h : W.heap[b]? = some (.cells #[x0, x1, x2] t (0, 0))) :
    (((W.setCell ⟨b, 0, none⟩ u0).setCell ⟨b, 1, none⟩ u1).setCell ⟨b, 2, none⟩ u2).heap[b]? = some (.cells #[u0, u1, u2] t (0, 0)) :=
  blk_setCell _ _ _ _ _ _ (blk_setCell _ _ _ _ _ _ (blk_setCell _ _ _ _ _ _ h))

/-- a field in its box -/
structure FBox (l s : Int) (v : Value) (C : List (Nat × Nat)) (b : Nat) (W : World) : Prop where
  blk : W.heap[b]? = some (.cells #[.int .i64 l, .int .i64 s, v] 49 (0, 0))
  smp : Smp .f64 C W v
theorem FBox.next {l s : Int} {v : Value} {C : List (Nat × Nat)} {b : Nat} {W W' : World} (h : FBox l s v C b W) (hb : Below W.heap.size W W') : FBox l s v C b W' :=
  ⟨(hb.block _ (lt_of_block h.blk)).trans h.blk, h.smp.below hb⟩
theorem FBox.born {l s : Int} {v : Value} {C : List (Nat × Nat)} {W : World} (h : Smp .f64 C W v) : FBox l s v C W.heap.size (W.alloc (.cells #[.int .i64 l, .int .i64 s, v] 49)) :=
  ⟨heap_alloc_new _ _, h.alloc _⟩

theorem Smp.set3 {C : List (Nat × Nat)} {W : World} {v : Value} {b : Nat} {a c : Int} {t : TypeId} (h : Smp .f64 C W v) (q : W.heap[b]? = some (.cells #[.int .i64 a, .int .i64 c, .slice none 0 0] t (0, 0))) (u0 u1 u2 : Value) :
    Smp .f64 C (((W.setCell ⟨b, 0, none⟩ u0).setCell ⟨b, 1, none⟩ u1).setCell ⟨b, 2, none⟩ u2) v := by
  obtain ⟨ad, cap, hv, hl, hx⟩ := h.sl.form
  refine ⟨ad, cap, hv, hl, ?_⟩
  rcases hx with hx | ⟨b', off, h1, h2, h3⟩
  · exact .inl hx
  · by_cases hb : b' = b
    · refine .inl ?_
      cases C with
      | nil => rfl
      | cons z C =>
        exfalso
        have h4 := h3 0 (.complex .f64 z.1 z.2) rfl
        rw [hb, cell_of_row W b _ _ t _ q, Nat.add_zero] at h4
        match off, h4 with
        | 0, h4 => cases h4
        | 1, h4 => cases h4
        | 2, h4 => cases h4
        | _ + 3, h4 => simp at h4
    · exact .inr ⟨b', off, h1, by simp only [World.setCell, Array.size_modify]; exact h2, fun j x hx => Go.Proofs.YtcjdbhcpcigmdaaDoor.set3 (h3 j x hx) hb⟩

theorem ScIn.set3 {l s : Int} {pv cv : Value} {xs cs : List Nat} {w W : World} {b : Nat} (h : ScIn l s pv cv xs cs w W) (hp : Fls .f32 xs w pv) (hc : Fls .f32 cs w cv) (hb : w.heap.size < b) (u0 u1 u2 : Value) :
    ScIn l s pv cv xs cs w (((W.setCell ⟨b, 0, none⟩ u0).setCell ⟨b, 1, none⟩ u1).setCell ⟨b, 2, none⟩ u2) := by
  have hB : Below w.heap.size w (((W.setCell ⟨b, 0, none⟩ u0).setCell ⟨b, 1, none⟩ u1).setCell ⟨b, 2, none⟩ u2) := ((h.hb.setCell (p := ⟨b, 0, none⟩) (Nat.le_of_lt hb) _).setCell (p := ⟨b, 1, none⟩) (Nat.le_of_lt hb) _).setCell (p := ⟨b, 2, none⟩) (Nat.le_of_lt hb) _
  have hn : w.heap.size ≠ b := by omega
  exact ⟨(Below.heap_setCell _ _ _ _ hn).trans ((Below.heap_setCell _ _ _ _ hn).trans ((Below.heap_setCell _ _ _ _ hn).trans h.blk)), hB, hp.below hB, hc.below hB⟩
theorem FBox.alloc {l s : Int} {v : Value} {C : List (Nat × Nat)} {b : Nat} {W : World} (h : FBox l s v C b W) (o : Obj) : FBox l s v C b (W.alloc o) := h.next ((Below.refl _ _).alloc (Nat.le_refl _) _)
theorem FBox.drew {l s : Int} {v : Value} {C : List (Nat × Nat)} {b : Nat} {W : World} (h : FBox l s v C b W) : FBox l s v C b W.drew := h.next (Below.refl _ _).drew
theorem FBox.set3 {l s : Int} {v : Value} {C : List (Nat × Nat)} {b b2 : Nat} {W : World} {a c : Int} {t : TypeId} (h : FBox l s v C b W) (hn : b < b2) (q : W.heap[b2]? = some (.cells #[.int .i64 a, .int .i64 c, .slice none 0 0] t (0, 0))) (u0 u1 u2 : Value) :
    FBox l s v C b (((W.setCell ⟨b2, 0, none⟩ u0).setCell ⟨b2, 1, none⟩ u1).setCell ⟨b2, 2, none⟩ u2) := by
  have hne : b ≠ b2 := by omega
  exact ⟨(Below.heap_setCell _ _ _ _ hne).trans ((Below.heap_setCell _ _ _ _ hne).trans ((Below.heap_setCell _ _ _ _ hne).trans h.blk)), h.smp.set3 q _ _ _⟩
theorem FBox.made {l s : Int} {v : Value} {C : List (Nat × Nat)} {b : Nat} {W : World} {x0 x1 : Int} (q : W.heap[b]? = some (.cells #[.int .i64 x0, .int .i64 x1, .slice none 0 0] 49 (0, 0))) (h : Smp .f64 C W v) :
    FBox l s v C b (((W.setCell ⟨b, 0, none⟩ (.int .i64 l)).setCell ⟨b, 1, none⟩ (.int .i64 s)).setCell ⟨b, 2, none⟩ v) := ⟨blk_set3 _ _ _ q, h.set3 q _ _ _⟩
end Go.Proofs.YtcjdbhcpcigmdaaDoor
