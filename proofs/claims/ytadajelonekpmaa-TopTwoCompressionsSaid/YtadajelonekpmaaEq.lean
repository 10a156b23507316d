import Derived.Test.YtadajelonekpmaaEo
import Derived.Laws.StructEq
namespace Go.Proofs.Ytadajelonekpmaa
open Go.RowKit Go.Proofs.Ytadajelonekpmaa.Flt

theorem isqrt_unique {n k : Nat} (hn : n < 2 ^ 54) (h1 : k * k ≤ n) (h2 : n < (k + 1) * (k + 1)) : isqrt n = k := by
  obtain ⟨s1, s2⟩ := isqrt_spec n hn
  have a := lt_of_sq (Nat.lt_of_le_of_lt h1 s2)
  have b := lt_of_sq (Nat.lt_of_le_of_lt s1 h2)
  omega

theorem dAt_scale (t i : Nat) : ∀ s, dAt (t + s) (i * 2 ^ s) = dAt t i
  | 0 => by simp
  | s + 1 => by
    rw [show t + (s + 1) = (t + s) + 1 from by omega, show i * 2 ^ (s + 1) = 2 * (i * 2 ^ s) from by rw [Nat.pow_succ]; rw [← Nat.mul_assoc, Nat.mul_comm], dAt_even]
    exact dAt_scale t i s

end Go.Proofs.Ytadajelonekpmaa

namespace Go.Proofs.Ytadajelonekpmaa
open Go.RowKit Go.Proofs.Ytadajelonekpmaa.Flt

theorem hv_le (m : Nat) : ∀ j i, i * 2 ^ j ≤ m → m < (i + 1) * 2 ^ j → hv (fun h _ => decide (h ≤ m)) j i = m := by
  intro j
  induction j with
  | zero => intro i h1 h2; simp at h1 h2; rw [hv]; omega
  | succ j ih =>
    intro i h1 h2
    have p1 : i * 2 ^ (j + 1) = 2 * i * 2 ^ j := by rw [Nat.pow_succ, Nat.mul_comm 2 i, Nat.mul_assoc, Nat.mul_comm 2 (2 ^ j)]
    have p2 : (i + 1) * 2 ^ (j + 1) = (2 * i + 1 + 1) * 2 ^ j := by
      rw [Nat.pow_succ, Nat.mul_comm (2 ^ j) 2, ← Nat.mul_assoc, Nat.add_mul i 1 2]
      congr 1; omega
    rw [hv]
    by_cases hc : (2 * i + 1) * 2 ^ j ≤ m
    · simp only [decide_eq_true hc, if_true]
      exact ih _ hc (by rw [← p2]; exact h2)
    · simp only [decide_eq_false hc]
      exact ih _ (by rw [← p1]; exact h1) (by omega)

end Go.Proofs.Ytadajelonekpmaa

namespace Go.Proofs.Ytadajelonekpmaa
open Go.RowKit Go.Proofs.Ytadajelonekpmaa.Flt

/-- the next level of directions -/
def weave : List (Nat × Nat) → List (Nat × Nat)
  | a :: b :: r => a :: btw a b :: weave (b :: r)
  | [a] => [a]
  | [] => []
def lvl : Nat → List (Nat × Nat)
  | 0 => [(16777216, 0), (diag, diag)]
  | t + 1 => weave (lvl t)

theorem weave_cons (a b : Nat × Nat) (r : List (Nat × Nat)) : ∃ c, c = btw a b ∧ weave (a :: b :: r) = a :: c :: weave (b :: r) := ⟨_, rfl, by rw [weave]⟩
theorem weave_even (l : List (Nat × Nat)) : ∀ i, (weave l)[2 * i]? = l[i]? := by
  induction l with
  | nil => intro i; simp [weave]
  | cons a r ih =>
    cases r with
    | nil =>
      intro i
      cases i with
      | zero => simp [weave]
      | succ i => simp [weave]
    | cons b r =>
      intro i
      obtain ⟨c, -, hc⟩ := weave_cons a b r
      rw [hc]
      cases i with
      | zero => simp
      | succ i =>
        rw [show 2 * (i + 1) = 2 * i + 1 + 1 from by omega]
        simp only [List.getElem?_cons_succ]
        exact ih i
theorem weave_odd (l : List (Nat × Nat)) : ∀ (i : Nat) (a b : Nat × Nat), l[i]? = some a → l[i + 1]? = some b → (weave l)[2 * i + 1]? = some (btw a b) := by
  induction l with
  | nil => intro i a b h; simp at h
  | cons x r ih =>
    cases r with
    | nil => intro i a b _ h; simp at h
    | cons y r =>
      intro i a b h1 h2
      obtain ⟨c, hc0, hc⟩ := weave_cons x y r
      rw [hc]
      cases i with
      | zero =>
        simp at h1 h2
        subst h1 h2
        rw [hc0]
        simp
      | succ i =>
        rw [show 2 * (i + 1) + 1 = 2 * i + 1 + 1 + 1 from by omega]
        simp only [List.getElem?_cons_succ] at h1 h2 ⊢
        exact ih i a b h1 h2

theorem lvl_get : ∀ t i, i ≤ 2 ^ t → (lvl t)[i]? = some (dAt t i) := by
  intro t
  induction t with
  | zero =>
    intro i hi
    have : i = 0 ∨ i = 1 := by simp at hi; omega
    rcases this with rfl | rfl <;> rfl
  | succ t ih =>
    intro i hi
    rw [Nat.pow_succ] at hi
    rcases Nat.mod_two_eq_zero_or_one i with h | h
    · obtain ⟨k, rfl⟩ : ∃ k, i = 2 * k := ⟨i / 2, by omega⟩
      rw [dAt_even, lvl, weave_even]
      exact ih k (by omega)
    · obtain ⟨k, rfl⟩ : ∃ k, i = 2 * k + 1 := ⟨i / 2, by omega⟩
      rw [dAt_odd, lvl]
      exact weave_odd _ _ _ _ (ih k (by omega)) (ih (k + 1) (by omega))

/-- is a direction as long as it must be? -/
def sizeOk (a : Nat × Nat) : Bool := decide (16777212 * 16777212 ≤ a.1 * a.1 + a.2 * a.2) && decide (a.1 * a.1 + a.2 * a.2 ≤ 16777217 * 16777217)
def chain : List (Nat × Nat) → Bool
  | a :: b :: r => sizeOk a && (decide (a.2 * b.1 < a.1 * b.2) && chain (b :: r))
  | [a] => sizeOk a
  | [] => true
theorem chain_ok : chain (lvl 10) = true := by decide +kernel

theorem chain_size : ∀ (l : List (Nat × Nat)) (i : Nat) (a : Nat × Nat), chain l = true → l[i]? = some a → sizeOk a = true
  | [], i, a, _, h => by simp at h
  | [x], i, a, hc, h => by
    cases i with
    | zero => simp at h; subst h; exact hc
    | succ i => simp at h
  | x :: y :: r, 0, a, hc, h => by
    simp at h
    subst h
    rw [chain, Bool.and_eq_true] at hc
    exact hc.1
  | x :: y :: r, i + 1, a, hc, h => by
    rw [chain, Bool.and_eq_true, Bool.and_eq_true] at hc
    exact chain_size (y :: r) i a hc.2.2 (by simpa using h)
theorem chain_turn : ∀ (l : List (Nat × Nat)) (i : Nat) (a b : Nat × Nat), chain l = true → l[i]? = some a → l[i + 1]? = some b → a.2 * b.1 < a.1 * b.2
  | [], i, a, b, _, h, _ => by simp at h
  | [x], i, a, b, _, _, h => by simp at h
  | x :: y :: r, 0, a, b, hc, h1, h2 => by
    simp at h1 h2
    subst h1 h2
    rw [chain, Bool.and_eq_true, Bool.and_eq_true, decide_eq_true_eq] at hc
    exact hc.2.1
  | x :: y :: r, i + 1, a, b, hc, h1, h2 => by
    rw [chain, Bool.and_eq_true, Bool.and_eq_true] at hc
    exact chain_turn (y :: r) i a b hc.2.2 (by simpa using h1) (by simpa using h2)

theorem dAt_size (m : Nat) (h : m ≤ 1024) : 281474842492944 ≤ (dAt 10 m).1 * (dAt 10 m).1 + (dAt 10 m).2 * (dAt 10 m).2 ∧ (dAt 10 m).1 * (dAt 10 m).1 + (dAt 10 m).2 * (dAt 10 m).2 ≤ 281475010265089 := by
  have := chain_size (lvl 10) m _ chain_ok (lvl_get 10 m h)
  unfold sizeOk at this
  rw [Bool.and_eq_true, decide_eq_true_eq, decide_eq_true_eq] at this
  exact this
theorem dAt_turn (m : Nat) (h : m < 1024) : (dAt 10 m).2 * (dAt 10 (m + 1)).1 < (dAt 10 m).1 * (dAt 10 (m + 1)).2 :=
  chain_turn (lvl 10) m _ _ chain_ok (lvl_get 10 m (by show m ≤ 1024; omega)) (lvl_get 10 (m + 1) (by show m + 1 ≤ 1024; omega))

end Go.Proofs.Ytadajelonekpmaa

namespace Go.Proofs.Ytadajelonekpmaa
open Go.RowKit Go.Proofs.Ytadajelonekpmaa.Flt

end Go.Proofs.Ytadajelonekpmaa
