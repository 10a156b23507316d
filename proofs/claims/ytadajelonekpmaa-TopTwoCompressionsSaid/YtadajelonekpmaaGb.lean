import Derived.Test.YtadajelonekpmaaGa
namespace Go.Proofs.Ytadajelonekpmaa
open Go.RowKit Go.Proofs.Ytadajelonekpmaa.Flt

/-- the energy of the sample i -/
def enAt (zs : List (Nat × Nat)) (i : Nat) : Int := re .f64 zs i * re .f64 zs i + im .f64 zs i * im .f64 zs i
def enList (zs : List (Nat × Nat)) : List Int := (List.range zs.length).map (enAt zs)
theorem enList_length (zs : List (Nat × Nat)) : (enList zs).length = zs.length := by simp [enList]
theorem enList_get (zs : List (Nat × Nat)) (i : Nat) (h : i < zs.length) : (enList zs).getD i 0 = enAt zs i := by
  simp [enList, List.getD_eq_getElem?_getD, List.getElem?_range h]

theorem sq_b {a : Int} {B : Nat} (h : a.natAbs ≤ B) : 0 ≤ a * a ∧ a * a ≤ ((B * B : Nat) : Int) := by
  rw [← Int.natAbs_mul_self]
  have := Nat.mul_le_mul h h
  omega

theorem en_b {zs : List (Nat × Nat)} (R : Right .f64 1000000000 zs) (i : Nat) (h : i < zs.length) : 0 ≤ enAt zs i ∧ enAt zs i ≤ 2000000000000000000 := by
  obtain ⟨-, -, a3, a4⟩ := R i h
  obtain ⟨m1, m2⟩ := sq_b a3
  obtain ⟨m3, m4⟩ := sq_b a4
  unfold enAt
  omega

/-- the first k values of f, and zeros, n in all -/
def fPart (f : Nat → Int) (n k : Nat) : List Value := (List.range n).map fun i => .int .i64 (if i < k then f i else 0)
theorem fPart_zero (f : Nat → Int) (n : Nat) : fPart f n 0 = List.replicate n (.int .i64 0) := by
  unfold fPart
  exact List.eq_replicate_iff.2 ⟨by simp, by simp⟩
theorem fPart_step (f : Nat → Int) (n k : Nat) : (fPart f n k).set k (.int .i64 (f k)) = fPart f n (k + 1) := by
  apply List.ext_getElem
  · simp [fPart]
  · intro i h1 h2
    rw [List.getElem_set]
    simp only [fPart, List.getElem_map, List.getElem_range]
    by_cases h : k = i
    · subst h; rw [if_pos rfl, if_pos (by omega)]
    · rw [if_neg h]
      by_cases h3 : i < k
      · rw [if_pos h3, if_pos (by omega)]
      · rw [if_neg h3, if_neg (by omega)]
theorem fPart_end (zs : List (Nat × Nat)) (n : Nat) (h : zs.length = n) : fPart (enAt zs) n n = ivals (enList zs) := by
  unfold fPart enList ivals
  rw [h, List.map_map]
  apply List.map_congr_left
  intro i hi
  have := List.mem_range.1 hi
  simp [this]
structure FInv (f : Nat → Int) (n : Nat) (w : World) (k : Nat) (wr : World) : Prop where
  hb : Below w.heap.size w wr
  ho : wr.ownsRow w.heap.size 3 1 (.slice (some ⟨w.heap.size, 0, none⟩) n n) n (fPart f n k)
theorem FInv.next {f : Nat → Int} {n k : Nat} {w wr : World} (h : FInv f n w k wr) :
    FInv f n w (k + 1) (wr.setCell ⟨w.heap.size, k, none⟩ (.int .i64 (f k))) := by
  refine ⟨h.hb.setCell (p := ⟨w.heap.size, k, none⟩) (Nat.le_refl _) _, ?_⟩
  have := (h.ho.stored k (.int .i64 (f k))).1
  rw [fPart_step] at this
  exact this

/-- the first place with the greatest value, of the first n -/
def bestI (f : Nat → Int) : Nat → Nat
  | 0 => 0
  | n + 1 => if f (bestI f n) < f n then n else bestI f n
theorem bestI_le (f : Nat → Int) : ∀ n, bestI f n ≤ n
  | 0 => Nat.le_refl _
  | n + 1 => by
    have := bestI_le f n
    rw [bestI]; split <;> omega
theorem bestI_lt (f : Nat → Int) : ∀ n, 1 ≤ n → bestI f n < n
  | 0, h => by omega
  | n + 1, _ => by
    have := bestI_le f n
    rw [bestI]; split <;> omega
theorem bestI_ge (f : Nat → Int) : ∀ n i, i < n → f i ≤ f (bestI f n)
  | 0, i, h => by omega
  | n + 1, i, h => by
    rw [bestI]
    by_cases hi : i = n
    · subst hi; split <;> omega
    · have := bestI_ge f n i (by omega)
      split <;> omega
theorem bestI_congr {f g : Nat → Int} : ∀ n, (∀ i, i < n → f i = g i) → bestI f n = bestI g n
  | 0, _ => rfl
  | n + 1, h => by
    have := bestI_congr n (fun i hi => h i (by omega))
    have hb := bestI_le g n
    rw [bestI, bestI, this, h _ (show bestI g n < n + 1 by omega), h n (by omega)]

end Go.Proofs.Ytadajelonekpmaa
