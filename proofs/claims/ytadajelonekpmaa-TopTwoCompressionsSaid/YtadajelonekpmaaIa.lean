import Derived.Test.YtadajelonekpmaaSb
import Derived.Test.YtadajelonekpmaaDd
namespace Go.Proofs.Ytadajelonekpmaa
open Go.RowKit Go.Proofs.Ytadajelonekpmaa.Flt

/-- ranges as cells, two for each -/
def rvals (L : List (Nat × Nat)) : List Value := (List.range (2 * L.length)).map fun j => .int .i64 ((if j % 2 = 0 then (L.getD (j / 2) (0, 0)).1 else (L.getD (j / 2) (0, 0)).2 : Nat) : Int)
theorem rvals_length (L : List (Nat × Nat)) : (rvals L).length = 2 * L.length := by simp [rvals]
theorem rvals_get (L : List (Nat × Nat)) (j : Nat) (h : j < 2 * L.length) : (rvals L)[j]? = some (.int .i64 ((if j % 2 = 0 then (L.getD (j / 2) (0, 0)).1 else (L.getD (j / 2) (0, 0)).2 : Nat) : Int)) := by
  simp [rvals, List.getElem?_range h]
theorem rvals_none (L : List (Nat × Nat)) (j : Nat) (h : 2 * L.length ≤ j) : (rvals L)[j]? = none := List.getElem?_eq_none (by rw [rvals_length]; exact h)
theorem rvals_lo (L : List (Nat × Nat)) (i : Nat) (h : i < L.length) : (rvals L)[2 * i]? = some (.int .i64 ((L.getD i (0, 0)).1 : Nat)) := by
  rw [rvals_get L _ (by omega), if_pos (by omega), show 2 * i / 2 = i from by omega]
theorem rvals_hi (L : List (Nat × Nat)) (i : Nat) (h : i < L.length) : (rvals L)[2 * i + 1]? = some (.int .i64 ((L.getD i (0, 0)).2 : Nat)) := by
  rw [rvals_get L _ (by omega), if_neg (by omega), show (2 * i + 1) / 2 = i from by omega]

theorem getD_append (L : List (Nat × Nat)) (p : Nat × Nat) (i : Nat) : (L ++ [p]).getD i (0, 0) = if i = L.length then p else L.getD i (0, 0) := by
  simp only [List.getD_eq_getElem?_getD]
  by_cases h : i < L.length
  · rw [List.getElem?_append_left h, if_neg (by omega)]
  · by_cases h2 : i = L.length
    · subst h2; simp
    · rw [if_neg h2, List.getElem?_eq_none (by simp; omega), List.getElem?_eq_none (by omega)]

theorem rvals_append (L : List (Nat × Nat)) (p : Nat × Nat) : rvals (L ++ [p]) = rvals L ++ [.int .i64 (p.1 : Nat), .int .i64 (p.2 : Nat)] := by
  apply List.ext_getElem?
  intro j
  by_cases h : j < 2 * L.length
  · rw [List.getElem?_append_left (by rw [rvals_length]; exact h), rvals_get L j h, rvals_get _ j (by simp; omega), getD_append, if_neg (show ¬ j / 2 = L.length by omega)]
  · by_cases h2 : j = 2 * L.length
    · subst h2
      rw [List.getElem?_append_right (by rw [rvals_length]; exact Nat.le_refl _), rvals_length, Nat.sub_self, rvals_get _ _ (by simp), getD_append, if_pos (by omega), if_pos (by omega)]
      rfl
    · by_cases h3 : j = 2 * L.length + 1
      · subst h3
        rw [List.getElem?_append_right (by rw [rvals_length]; omega), rvals_length, show 2 * L.length + 1 - 2 * L.length = 1 from by omega, rvals_get _ _ (by simp; omega), getD_append, if_neg (by omega), if_pos (by omega)]
        rfl
      · rw [rvals_none _ _ (by simp; omega), List.getElem?_eq_none (by simp [rvals_length]; omega)]

/-- ranges with one more number behind them -/
def growR (L : List (Nat × Nat)) (l : Nat) : List (Nat × Nat) :=
  if 0 < L.length ∧ (L.getD (L.length - 1) (0, 0)).2 + 1 = l then L.set (L.length - 1) ((L.getD (L.length - 1) (0, 0)).1, l) else L ++ [(l, l)]
theorem growR_length (L : List (Nat × Nat)) (l : Nat) : (growR L l).length ≤ L.length + 1 := by
  unfold growR
  split <;> simp
theorem rvals_set (L : List (Nat × Nat)) (i l : Nat) (h : i < L.length) : rvals (L.set i ((L.getD i (0, 0)).1, l)) = (rvals L).set (2 * i + 1) (.int .i64 (l : Nat)) := by
  have hg : ∀ k, (L.set i ((L.getD i (0, 0)).1, l)).getD k (0, 0) = if k = i then ((L.getD i (0, 0)).1, l) else L.getD k (0, 0) := by
    intro k
    simp only [List.getD_eq_getElem?_getD, List.getElem?_set]
    by_cases hk : i = k
    · subst hk; rw [if_pos rfl, if_pos h, if_pos rfl]; rfl
    · rw [if_neg hk, if_neg (fun e => hk e.symm)]
  apply List.ext_getElem?
  intro j
  rw [List.getElem?_set]
  by_cases hj : j < 2 * L.length
  · rw [rvals_get _ j (by simpa using hj), hg, rvals_length]
    by_cases e : 2 * i + 1 = j
    · subst e
      rw [if_pos rfl, if_pos hj, if_neg (by omega), if_pos (by omega)]
    · rw [if_neg e, rvals_get L j hj]
      by_cases e2 : j / 2 = i
      · rw [if_pos e2, if_pos (by omega), if_pos (by omega), e2]
      · rw [if_neg e2]
  · rw [rvals_none _ j (by simp; omega), rvals_length]
    by_cases e : 2 * i + 1 = j
    · omega
    · rw [if_neg e, rvals_none L j (by omega)]

/-- the ranges of those of the first k numbers that are chosen -/
def rangesTo (p : Nat → Bool) : Nat → List (Nat × Nat)
  | 0 => []
  | k + 1 => if p k then growR (rangesTo p k) k else rangesTo p k
theorem rangesTo_length (p : Nat → Bool) : ∀ k, (rangesTo p k).length ≤ k
  | 0 => Nat.le_refl _
  | k + 1 => by
    have h1 := rangesTo_length p k
    have h2 := growR_length (rangesTo p k) k
    rw [rangesTo]
    split <;> omega
theorem growR_bound {L : List (Nat × Nat)} {l : Nat} (h : ∀ i, (L.getD i (0, 0)).2 ≤ l) : ∀ i, ((growR L l).getD i (0, 0)).2 ≤ l + 1 := by
  intro i
  unfold growR
  split
  · simp only [List.getD_eq_getElem?_getD, List.getElem?_set]
    split
    · split
      · simp
      · simp
    · have := h i
      rw [List.getD_eq_getElem?_getD] at this
      omega
  · rw [getD_append]
    split
    · simp
    · have := h i; omega
theorem rangesTo_bound (p : Nat → Bool) : ∀ k i, ((rangesTo p k).getD i (0, 0)).2 ≤ k
  | 0, i => by simp [rangesTo]
  | k + 1, i => by
    have h1 := rangesTo_bound p k
    rw [rangesTo]
    split
    · exact growR_bound h1 i
    · have := h1 i; omega

/-- the line l of an image is empty -/
def emptyL (zs : List (Nat × Nat)) (S l : Nat) : Bool := ((zs.drop (l * S)).take S).all (isZ .f32)

end Go.Proofs.Ytadajelonekpmaa
