import Derived.Test.YtadajelonekpmaaDd
namespace Go.Proofs.Ytadajelonekpmaa
open Go.RowKit Go.Proofs.Ytadajelonekpmaa.Flt

theorem below_new2 (w : World) (A B : Obj) : Below w.heap.size w ((w.alloc A).alloc B) := ((Below.refl _ _).alloc (Nat.le_refl _) _).alloc (by simp) _
theorem alloc2_blocks (w : World) (A B : Obj) : ((w.alloc A).alloc B).heap[w.heap.size]? = some A ∧ ((w.alloc A).alloc B).heap[w.heap.size + 1]? = some B := by
  refine ⟨?_, ?_⟩
  · rw [Below.heap_alloc _ _ _ (by simp), heap_alloc_new]
  · have := heap_alloc_new (w.alloc A) B
    rwa [World.size_alloc] at this
theorem Below.andThen {B : Nat} {w W W' : World} (h : Below B w W) (hb : Below W.heap.size W W') (hB : w.heap.size = B) : Below B w W' := by
  subst hB
  exact h.trans (hb.mono h.size)
theorem Below.alloc1 {B : Nat} {w W : World} (h : Below B w W) (o : Obj) (hB : w.heap.size = B) : Below B w (W.alloc o) := by
  subst hB
  exact h.alloc h.size o
theorem Below.keepc {w W : World} (h : Below w.heap.size w W) {b o : Nat} {v : Value} (hc : w.cell? ⟨b, o, none⟩ = some v) : W.cell? ⟨b, o, none⟩ = some v :=
  (h.cell (p := ⟨b, o, none⟩) (lt_of_block' hc)).trans hc
theorem Below.set3 {B b : Nat} {w W : World} (h : Below B w W) (hb : B ≤ b) (u0 u1 u2 : Value) : Below B w (((W.setCell ⟨b, 0, none⟩ u0).setCell ⟨b, 1, none⟩ u1).setCell ⟨b, 2, none⟩ u2) :=
  ((h.setCell (p := ⟨b, 0, none⟩) hb _).setCell (p := ⟨b, 1, none⟩) hb _).setCell (p := ⟨b, 2, none⟩) hb _
end Go.Proofs.Ytadajelonekpmaa
