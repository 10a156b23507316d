import Derived.Test.YtmiaglkkjncfnaaDoorGc
namespace Go.Proofs.YtmiaglkkjncfnaaDoor
open Go.RowKit Go.Proofs.YtmiaglkkjncfnaaDoor.Flt

theorem below_new2 (w : World) (A B : Obj) : Below w.heap.size w ((w.alloc A).alloc B) := ((Below.refl _ _).alloc (Nat.le_refl _) _).alloc (by simp) _
theorem alloc2_blocks (w : World) (A B : Obj) : ((w.alloc A).alloc B).heap[w.heap.size]? = some A ∧ ((w.alloc A).alloc B).heap[w.heap.size + 1]? = some B := by
  refine ⟨?_, ?_⟩
  · rw [Below.heap_alloc _ _ _ (by simp), heap_alloc_new]
  · have := heap_alloc_new (w.alloc A) B
    rwa [World.size_alloc] at this
end Go.Proofs.YtmiaglkkjncfnaaDoor
