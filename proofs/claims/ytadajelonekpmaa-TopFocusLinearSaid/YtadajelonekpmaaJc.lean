import Derived.Test.YtadajelonekpmaaJb
import Derived.Test.YtadajelonekpmaaWc
namespace Go.Proofs.Ytadajelonekpmaa
open Go.RowKit Go.Proofs.Ytadajelonekpmaa.Flt

structure RfInv (L S L' : Nat) (iad : Option Addr) (icap n : Nat) (C : List (Nat × Nat)) (w : World) (t : Nat) (v : Value) (wr : World) : Prop where
  h0 : wr.heap[w.heap.size]? = some (.cells #[.int .i64 L, .int .i64 S, .slice iad n icap] 34 (0, 0))
  h1 : wr.heap[w.heap.size + 1]? = some (.cells #[.int .i64 0, .int .i64 0, .slice none 0 0] 34 (0, 0))
  h2 : wr.heap[w.heap.size + 1 + 1]? = some (.cells #[.int .i64 L', .int .i64 S, v] 34 (0, 0))
  hb : Below w.heap.size w wr
  ho : wr.ownsRow (w.heap.size + 3) 43 1 v t (cvals .f64 (C.take t))

theorem RfInv.own_ne {L S L' : Nat} {iad : Option Addr} {icap n : Nat} {C : List (Nat × Nat)} {w wz : World} {t : Nat} {v : Value} (h : RfInv L S L' iad icap n C w t v wz) (i : Nat) (hi : i < w.heap.size + 3) : v.ownBlock ≠ some i := by
  intro e
  have := (h.ho.lt i e).1
  omega

/-- the three boxes behind an append -/
def RfBox (L S L' : Nat) (iad : Option Addr) (icap n : Nat) (w : World) (v : Value) (w' : World) : Prop :=
  w'.heap[w.heap.size]? = some (.cells #[.int .i64 L, .int .i64 S, .slice iad n icap] 34 (0, 0)) ∧
  w'.heap[w.heap.size + 1]? = some (.cells #[.int .i64 0, .int .i64 0, .slice none 0 0] 34 (0, 0)) ∧
  w'.heap[w.heap.size + 1 + 1]? = some (.cells #[.int .i64 L', .int .i64 S, v] 34 (0, 0)) ∧ Below w.heap.size w w'

theorem RfInv.after {L S L' : Nat} {iad : Option Addr} {icap n : Nat} {C : List (Nat × Nat)} {w wz W w' : World} {t : Nat} {v : Value} (h : RfInv L S L' iad icap n C w t v wz) (o : Obj) (hW : W.heap = (wz.alloc o).heap) (e1 : W.os = wz.os) (e2 : W.tape = wz.tape) (e3 : W.output = wz.output) (hg : W.grownBy w' v.ownBlock) :
    RfBox L S L' iad icap n w v w' := by
  have b0 := lt_of_block h.h0
  have b1 := lt_of_block h.h1
  have b2 := lt_of_block h.h2
  have hsz : W.heap.size = wz.heap.size + 1 := by rw [hW]; simp
  have old : ∀ i, i < w.heap.size + 3 → i < wz.heap.size → w'.heap[i]? = wz.heap[i]? := by
    intro i hi hi'
    rw [hg.block i (by omega) (fun e => h.own_ne i hi e.symm), hW]
    exact Below.heap_alloc _ _ _ hi'
  refine ⟨(old _ (by omega) b0).trans h.h0, (old _ (by omega) b1).trans h.h1, (old _ (by omega) b2).trans h.h2, ?_⟩
  have hb : Below w.heap.size w W := ⟨e1.trans h.hb.os, e2.trans h.hb.tape, e3.trans h.hb.output, by have := h.hb.size; omega, fun i hi => by rw [hW]; exact (Below.heap_alloc _ _ _ (Nat.lt_of_lt_of_le hi h.hb.size)).trans (h.hb.block i hi)⟩
  exact hb.grown hg hb.size (fun i e => by have := (h.ho.lt i e).1; omega)

theorem RfInv.next {L S L' : Nat} {iad : Option Addr} {icap n : Nat} {C : List (Nat × Nat)} {w w' : World} {t g cap' X Y : Nat} {v : Value} (h : RfBox L S L' iad icap n w v w')
    (ho : w'.ownsRow (w.heap.size + 3) 43 1 (.slice (some ⟨g, 0, none⟩) (t + 1) cap') (t + 1) (cvals .f64 (C.take t) ++ [.complex .f64 X Y])) (hk : t < C.length) (hXY : C.getD t (0, 0) = (X, Y)) :
    RfInv L S L' iad icap n C w (t + 1) (.slice (some ⟨g, 0, none⟩) (t + 1) cap') (w'.setCell ⟨w.heap.size + 1 + 1, 2, none⟩ (.slice (some ⟨g, 0, none⟩) (t + 1) cap')) := by
  obtain ⟨h0, h1, h2, hb⟩ := h
  refine ⟨(Below.heap_setCell _ _ _ _ (by show w.heap.size ≠ w.heap.size + 1 + 1; omega)).trans h0, (Below.heap_setCell _ _ _ _ (by show w.heap.size + 1 ≠ w.heap.size + 1 + 1; omega)).trans h1, ?_, hb.setCell (p := ⟨w.heap.size + 1 + 1, 2, none⟩) (by show w.heap.size ≤ w.heap.size + 1 + 1; omega) _, ?_⟩
  · rw [heap_setCell_same _ _ _ _ _ _ h2]; rfl
  · have e : cvals .f64 (C.take (t + 1)) = cvals .f64 (C.take t) ++ [.complex .f64 X Y] := by
      rw [List.take_succ_eq_append_getElem hk]
      rw [List.getD_eq_getElem?_getD, List.getElem?_eq_getElem hk, Option.getD_some] at hXY
      rw [hXY]; simp [cvals]
    rw [e]
    have hg := (ho.lt g rfl).1
    exact ownsRow_setCell_other ho (by simp [Value.ownBlock]; omega) _


theorem foc_get (zs us : List (Nat × Nat)) (S n t : Nat) (h : t < n) : (focList zs us S n).getD t (0, 0) = (enc Ieee.double (fRe zs us S t us.length), enc Ieee.double (fIm zs us S t us.length)) := by
  simp only [focList, List.getD_eq_getElem?_getD, List.getElem?_map, List.getElem?_range h, Option.map_some, Option.getD_some]
  rfl

end Go.Proofs.Ytadajelonekpmaa
