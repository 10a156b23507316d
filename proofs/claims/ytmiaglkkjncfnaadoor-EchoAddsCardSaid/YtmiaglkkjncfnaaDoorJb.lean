import Derived.Test.YtmiaglkkjncfnaaDoorJa
namespace Go.Proofs.YtmiaglkkjncfnaaDoor
open Go.RowKit Go.Proofs.YtmiaglkkjncfnaaDoor.Flt

def listF (F : Nat → Nat × Nat) (n : Nat) : List (Nat × Nat) := (List.range n).map F
/-- the values of F written so far, and zeros -/
def partF (F : Nat → Nat × Nat) (n k : Nat) : List Value :=
  (List.range n).map fun i => if i < k then .complex .f64 (F i).1 (F i).2 else .complex .f64 0 0

theorem partF_zero (F : Nat → Nat × Nat) (n : Nat) : partF F n 0 = List.replicate n (.complex .f64 0 0) := by
  unfold partF
  simp
  exact (List.eq_replicate_iff.2 ⟨by simp, by simp⟩)

theorem partF_length (F : Nat → Nat × Nat) (n k : Nat) : (partF F n k).length = n := by simp [partF]

theorem partF_step (F : Nat → Nat × Nat) (n k : Nat) : (partF F n k).set k (.complex .f64 (F k).1 (F k).2) = partF F n (k + 1) := by
  apply List.ext_getElem
  · simp [partF]
  · intro i h1 h2
    rw [List.getElem_set]
    simp only [partF, List.getElem_map, List.getElem_range]
    by_cases h : k = i
    · subst h; simp
    · rw [if_neg h]
      by_cases h3 : i < k
      · rw [if_pos h3, if_pos (by omega)]
      · rw [if_neg h3, if_neg (by omega)]

theorem partF_at (F : Nat → Nat × Nat) (n k : Nat) (h : k < n) : (partF F n k)[k]? = some (.complex .f64 0 0) := by
  simp [partF, List.getElem?_map, List.getElem?_range h]

theorem partF_end (F : Nat → Nat × Nat) (n : Nat) : partF F n n = cvals .f64 (listF F n) := by
  unfold partF cvals listF
  rw [List.map_map]
  apply List.map_congr_left
  intro i hi
  rw [if_pos (List.mem_range.1 hi)]
  rfl

/-- what holds at the head of Focus's loop -/
structure FocInv (F : Nat → Nat × Nat) (L S L' n n' m : Nat) (iad cad : Option Addr) (icap ccap G g : Nat) (w : World) (k : Nat) (wr : World) : Prop where
  h0 : wr.heap[w.heap.size]? = some (.cells #[.int .i64 L, .int .i64 S, .slice iad n icap] 37 (0, 0))
  h1 : wr.heap[w.heap.size + 1]? = some (.cells #[.slice cad m ccap] 48 (0, 0))
  h2 : wr.heap[w.heap.size + 1 + 1]? = some (.cells #[.int .i64 0, .int .i64 0, .slice none 0 0] 37 (0, 0))
  h3 : wr.heap[G]? = some (.cells #[.int .i64 L', .int .i64 S, .slice (some ⟨g, 0, none⟩) n' n'] 37 (0, 0))
  hb : Below w.heap.size w wr
  ho : wr.ownsRow w.heap.size 57 1 (.slice (some ⟨g, 0, none⟩) n' n') n' (partF F n' k)

theorem FocInv.ne {F : Nat → Nat × Nat} {L S L' n n' m : Nat} {iad cad : Option Addr} {icap ccap G g : Nat} {w wr : World} {k : Nat} (h : FocInv F L S L' n n' m iad cad icap ccap G g w k wr) : G ≠ g := by
  intro e
  have h1 := h.h3
  rcases h.ho.2 with ⟨h2, -⟩ | ⟨g', cap, cur, h2, -, h3, -⟩
  · cases h2
  · cases h2
    rw [e, h3] at h1
    injection h1 with h1
    injection h1 with _ h1 _
    exact absurd h1 (by decide)

/-- the loop's invariant a round later -/
theorem FocInv.next {F : Nat → Nat × Nat} {L S L' n n' m : Nat} {iad cad : Option Addr} {icap ccap G g : Nat} {w wr : World} {k q : Nat} (h : FocInv F L S L' n n' m iad cad icap ccap G g w k wr) (hG : G ≠ g) (hg : w.heap.size + 1 + 1 < g) (f : Nat) (v : Value) (hv : v = .complex .f64 (F k).1 (F k).2) :
    FocInv F L S L' n n' m iad cad icap ccap G g w (k + 1) (((wr.alloc (.cells #[.int .i64 f] 3)).drewN q).setCell ⟨g, k, none⟩ v) := by
  have hgl := (h.ho.lt g rfl).2
  have old : ∀ i, i < wr.heap.size → i ≠ g → (((wr.alloc (.cells #[.int .i64 f] 3)).drewN q).setCell ⟨g, k, none⟩ v).heap[i]? = wr.heap[i]? := fun i hi hne =>
    (Below.heap_setCell _ _ _ _ hne).trans (Below.heap_alloc _ _ _ hi)
  refine ⟨(old _ (lt_of_block h.h0) (by omega)).trans h.h0, (old _ (lt_of_block h.h1) (by omega)).trans h.h1, (old _ (lt_of_block h.h2) (by omega)).trans h.h2, (old _ (lt_of_block h.h3) hG).trans h.h3, ?_, ?_⟩
  · exact (((h.hb.alloc h.hb.size _).trans (below_drewN' _ _ q)).setCell (p := ⟨g, k, none⟩) (by show w.heap.size ≤ g; omega) _)
  · have h1 := (h.ho.alloc (.cells #[.int .i64 f] 3))
    have h2 : ((wr.alloc (.cells #[.int .i64 f] 3)).drewN q).ownsRow w.heap.size 57 1 (.slice (some ⟨g, 0, none⟩) n' n') n' (partF F n' k) := h1
    have h3 := (h2.stored k v).1
    rw [hv, partF_step] at h3
    rw [hv]
    exact h3


/-- what Focus answers where all is right but, maybe, the size of a sum -/
def FocR (zs us : List (Nat × Nat)) (L' S n' : Nat) (w : World) : Ending → World → Prop :=
  FieldE (if focBad zs us S n' then 0 else L') (if focBad zs us S n' then 0 else S) (if focBad zs us S n' then [] else focList zs us S n') (if focBad zs us S n' then 8 else 0) w
theorem FocR.bad {zs us : List (Nat × Nat)} {L' S n' : Nat} {w w' : World} (h : focBad zs us S n' = true) (hb : Below w.heap.size w w') : FocR zs us L' S n' w (.returned (.tuple #[.agg #[.int .i64 0, .int .i64 0, .slice none 0 0], .int .i64 8])) w' := by
  unfold FocR
  rw [h]
  exact ⟨.slice none 0 0, rfl, hb, smp_nil _⟩
theorem FocR.good {zs us : List (Nat × Nat)} {L' S n' : Nat} {w w' : World} {v : Value} (h : focBad zs us S n' = false) (hb : Below w.heap.size w w') (hv : Smp .f64 (focList zs us S n') w' v) : FocR zs us L' S n' w (.returned (.tuple #[.agg #[.int .i64 L', .int .i64 S, v], .int .i64 0])) w' := by
  unfold FocR
  rw [h]
  exact ⟨v, rfl, hb, hv⟩

end Go.Proofs.YtmiaglkkjncfnaaDoor
