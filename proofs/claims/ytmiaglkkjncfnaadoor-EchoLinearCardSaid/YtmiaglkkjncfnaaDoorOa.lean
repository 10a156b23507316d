import Derived.Test.YtmiaglkkjncfnaaDoorGd
namespace Go.Proofs.YtmiaglkkjncfnaaDoor
open Go.RowKit Go.Proofs.YtmiaglkkjncfnaaDoor.Flt

theorem Below.andThen {B : Nat} {w W W' : World} (h : Below B w W) (hb : Below W.heap.size W W') (hB : w.heap.size = B) : Below B w W' := by
  subst hB
  exact h.trans (hb.mono h.size)
theorem Below.alloc1 {B : Nat} {w W : World} (h : Below B w W) (o : Obj) (hB : w.heap.size = B) : Below B w (W.alloc o) := by
  subst hB
  exact h.alloc h.size o
theorem Below.keepc {w W : World} (h : Below w.heap.size w W) {b o : Nat} {v : Value} (hc : w.cell? ⟨b, o, none⟩ = some v) : W.cell? ⟨b, o, none⟩ = some v :=
  (h.cell (p := ⟨b, o, none⟩) (lt_of_block' hc)).trans hc
theorem Below.set3 {B b : Nat} {w W : World} (h : Below B w W) (hb : B ≤ b) (u0 u1 u2 : Value) : Below B w (((W.setCell ⟨b, 0, none⟩ u0).setCell ⟨b, 1, none⟩ u1).setCell ⟨b, 2, none⟩ u2) :=
  ((h.setCell (p := ⟨b, 0, none⟩) hb _).setCell (p := ⟨b, 1, none⟩) hb _).setCell (p := ⟨b, 2, none⟩) hb _
end Go.Proofs.YtmiaglkkjncfnaaDoor
