import Derived.Test.YtmmmaanflmgblaaDoorTa
import Derived.Test.YtmmmaanflmgblaaDoorBa
namespace Go.Proofs.YtmmmaanflmgblaaDoor
open Go.RowKit Go.Proofs.YtmmmaanflmgblaaDoor.Flt

/-- a number turned by quarter turns -/
def trn : Nat → Int × Int → Int × Int
  | 0, p => p
  | k + 1, p => (-(trn k p).2, (trn k p).1)
def sq2 (p : Int × Int) : Int := p.1 * p.1 + p.2 * p.2
def cosq (q : Nat) : Int := if q = 0 then 1 else if q = 2 then -1 else 0
def sinq (q : Nat) : Int := if q = 1 then 1 else if q = 3 then -1 else 0

theorem trn_pair (q r : Nat) (hq : q < 4) (hr : r < 4) (p : Int × Int) :
    (trn ((r + q) % 4) p).1 * (trn r p).1 + (trn ((r + q) % 4) p).2 * (trn r p).2 = cosq q * sq2 p ∧
      (trn ((r + q) % 4) p).2 * (trn r p).1 - (trn ((r + q) % 4) p).1 * (trn r p).2 = sinq q * sq2 p := by
  obtain ⟨x, y⟩ := p
  have hxy : y * x = x * y := Int.mul_comm _ _
  have hq' : q = 0 ∨ q = 1 ∨ q = 2 ∨ q = 3 := by omega
  have hr' : r = 0 ∨ r = 1 ∨ r = 2 ∨ r = 3 := by omega
  rcases hq' with rfl | rfl | rfl | rfl <;> rcases hr' with rfl | rfl | rfl | rfl <;>
    simp only [trn, cosq, sinq, sq2, Int.neg_mul, Int.mul_neg, Int.neg_neg, hxy] <;> simp <;> omega

theorem trn_b (k : Nat) (p : Int × Int) (B : Nat) (h1 : p.1.natAbs ≤ B) (h2 : p.2.natAbs ≤ B) : (trn k p).1.natAbs ≤ B ∧ (trn k p).2.natAbs ≤ B := by
  induction k with
  | zero => exact ⟨h1, h2⟩
  | succ k ih => exact ⟨by simp only [trn]; omega, ih.1⟩

def partAt (xs : List Int) (s : Nat) : Int × Int := (xs.getD (2 * s) 0, xs.getD (2 * s + 1) 0)
def turnAt (xs : List Int) (S q i : Nat) : Int × Int := trn (q * (i / S) % 4) (partAt xs (i % S))
/-- an image whose lines turn by quarter turns from the first one -/
def turnS (xs : List Int) (S q n : Nat) : List (Nat × Nat) := (List.range n).map fun i => (enc Ieee.single (turnAt xs S q i).1, enc Ieee.single (turnAt xs S q i).2)
theorem turnS_length (xs : List Int) (S q n : Nat) : (turnS xs S q n).length = n := by simp [turnS]
theorem turnS_get (xs : List Int) (S q n i : Nat) (h : i < n) : (turnS xs S q n).getD i (0, 0) = (enc Ieee.single (turnAt xs S q i).1, enc Ieee.single (turnAt xs S q i).2) := by
  simp [turnS, List.getD_eq_getElem?_getD, List.getElem?_range h]

theorem turnAt_b (xs : List Int) (S q i : Nat) (hx : ∀ x ∈ xs, x.natAbs ≤ 2047) : (turnAt xs S q i).1.natAbs ≤ 2047 ∧ (turnAt xs S q i).2.natAbs ≤ 2047 :=
  trn_b _ _ _ (getD_bd hx _) (getD_bd hx _)

theorem re_turnS (xs : List Int) (S q n i : Nat) (h : i < n) (hx : ∀ x ∈ xs, x.natAbs ≤ 2047) : re .f32 (turnS xs S q n) i = (turnAt xs S q i).1 ∧ im .f32 (turnS xs S q n) i = (turnAt xs S q i).2 := by
  obtain ⟨b1, b2⟩ := turnAt_b xs S q i hx
  unfold re im ival
  rw [turnS_get xs S q n i h]
  have w1 : wv FloatKind.f32.format (enc Ieee.single (turnAt xs S q i).1) = some (turnAt xs S q i).1 := wv_enc24 (by omega)
  have w2 : wv FloatKind.f32.format (enc Ieee.single (turnAt xs S q i).2) = some (turnAt xs S q i).2 := wv_enc24 (by omega)
  dsimp only
  rw [w1, w2]
  exact ⟨rfl, rfl⟩

theorem turn_right (xs : List Int) (S q n : Nat) (hx : ∀ x ∈ xs, x.natAbs ≤ 2047) : Right .f32 2047 (turnS xs S q n) := by
  intro i hi
  rw [turnS_length] at hi
  obtain ⟨e1, e2⟩ := re_turnS xs S q n i hi hx
  obtain ⟨b1, b2⟩ := turnAt_b xs S q i hx
  rw [e1, e2, turnS_get xs S q n i hi]
  exact ⟨.inl rfl, .inl rfl, b1, b2⟩

theorem turn_errs (xs : List Int) (S q : Nat) (hx : ∀ x ∈ xs, x.natAbs ≤ 2047) (is : List Nat) : ∀ k, firstErr k (smpErrs .f32 2047 (is.map fun i => (enc Ieee.single (turnAt xs S q i).1, enc Ieee.single (turnAt xs S q i).2))) = (0, 0) := by
  induction is with
  | nil => intro k; rfl
  | cons i r ih =>
    intro k
    obtain ⟨b1, b2⟩ := turnAt_b xs S q i hx
    have w1 : wv FloatKind.f32.format (enc Ieee.single (turnAt xs S q i).1) = some (turnAt xs S q i).1 := wv_enc24 (by omega)
    have w2 : wv FloatKind.f32.format (enc Ieee.single (turnAt xs S q i).2) = some (turnAt xs S q i).2 := wv_enc24 (by omega)
    have he : smpErr (wv FloatKind.f32.format (enc Ieee.single (turnAt xs S q i).1)) (wv FloatKind.f32.format (enc Ieee.single (turnAt xs S q i).2)) 2047 = 0 := by
      rw [w1, w2]; unfold smpErr; dsimp only; rw [if_neg (by omega)]
    show firstErr k (smpErr (wv FloatKind.f32.format (enc Ieee.single (turnAt xs S q i).1)) (wv FloatKind.f32.format (enc Ieee.single (turnAt xs S q i).2)) 2047 :: smpErrs .f32 2047 (r.map fun i => (enc Ieee.single (turnAt xs S q i).1, enc Ieee.single (turnAt xs S q i).2))) = (0, 0)
    rw [he]
    exact ih _

theorem turn_image (xs : List Int) (L S q : Nat) (hx : ∀ x ∈ xs, x.natAbs ≤ 2047) (h1 : 1 ≤ L) (h2 : L ≤ 64) (h3 : 1 ≤ S) (h4 : S ≤ 64) : (dataErr .f32 2047 L S (turnS xs S q (L * S))).2 = 0 := by
  unfold dataErr
  have : sizeErr L S (turnS xs S q (L * S)).length = 0 := by unfold sizeErr; rw [turnS_length, if_neg (by omega), if_pos (by rw [Int.natCast_mul])]
  rw [this, if_neg (by simp)]
  unfold turnS
  rw [turn_errs xs S q hx]

/-- the sum of the squares of the samples, line by line -/
def totSq (xs : List Int) (S n : Nat) : Int := sumTo (fun i => sq2 (partAt xs (i % S))) n

theorem turn_sums (xs : List Int) (L S q : Nat) (hx : ∀ x ∈ xs, x.natAbs ≤ 2047) (hS : 1 ≤ S) (hq : q < 4) :
    pairRe (turnS xs S q (L * S)) S ((L - 1) * S) = cosq q * totSq xs S ((L - 1) * S) ∧ pairIm (turnS xs S q (L * S)) S ((L - 1) * S) = sinq q * totSq xs S ((L - 1) * S) := by
  have key : ∀ i, i < (L - 1) * S → pRe (turnS xs S q (L * S)) S i = cosq q * sq2 (partAt xs (i % S)) ∧ pIm (turnS xs S q (L * S)) S i = sinq q * sq2 (partAt xs (i % S)) := by
    intro i hi
    have hiS : i + S < L * S := by
      cases L with
      | zero => simp at hi
      | succ m => rw [Nat.succ_mul]; rw [Nat.add_sub_cancel] at hi; omega
    obtain ⟨e1, e2⟩ := re_turnS xs S q (L * S) i (by omega) hx
    obtain ⟨f1, f2⟩ := re_turnS xs S q (L * S) (i + S) hiS hx
    unfold pRe pIm
    rw [e1, e2, f1, f2]
    have g1 : (i + S) / S = i / S + 1 := by rw [Nat.add_div_right _ (by omega)]
    have g2 : (i + S) % S = i % S := Nat.add_mod_right _ _
    have g3 : q * ((i + S) / S) % 4 = (q * (i / S) % 4 + q) % 4 := by rw [g1, Nat.mul_add, Nat.mul_one]; omega
    unfold turnAt
    rw [g2, g3]
    exact trn_pair q _ hq (Nat.mod_lt _ (by decide)) _
  unfold pairRe pairIm totSq
  rw [← sum_mul, ← sum_mul]
  exact ⟨sum_eq _ fun i hi => (key i hi).1, sum_eq _ fun i hi => (key i hi).2⟩

theorem sq2_nn (p : Int × Int) : 0 ≤ sq2 p := by
  unfold sq2
  have h : ∀ a : Int, 0 ≤ a * a := fun a => by rw [← Int.natAbs_mul_self]; omega
  have := h p.1
  have := h p.2
  omega
theorem sq2_pos (p : Int × Int) (h : p.1 ≠ 0 ∨ p.2 ≠ 0) : 0 < sq2 p := by
  unfold sq2
  have h0 : ∀ a : Int, 0 ≤ a * a := fun a => by rw [← Int.natAbs_mul_self]; omega
  have h1 : ∀ a : Int, a ≠ 0 → 0 < a * a := fun a ha => by
    rw [← Int.natAbs_mul_self]
    have := Nat.mul_pos (Int.natAbs_pos.2 ha) (Int.natAbs_pos.2 ha)
    omega
  rcases h with h | h
  · have := h1 _ h; have := h0 p.2; omega
  · have := h1 _ h; have := h0 p.1; omega

theorem sum_nn (f : Nat → Int) (h : ∀ k, 0 ≤ f k) : ∀ n, 0 ≤ sumTo f n
  | 0 => Int.le_refl _
  | n + 1 => by rw [sumTo]; have := sum_nn f h n; have := h n; omega
theorem sum_pos (f : Nat → Int) (h : ∀ k, 0 ≤ f k) (i : Nat) (hi : 0 < f i) : ∀ n, i < n → 0 < sumTo f n
  | 0, hn => by omega
  | n + 1, hn => by
    rw [sumTo]
    by_cases e : i = n
    · subst e; have := sum_nn f h i; omega
    · have := sum_pos f h i hi n (by omega); have := h n; omega

theorem tot_pos (xs : List Int) (L S j : Nat) (hL : 2 ≤ L) (hj : j < 2 * S) (h0 : xs.getD j 0 ≠ 0) : 0 < totSq xs S ((L - 1) * S) := by
  have hS : j / 2 < S := by omega
  refine sum_pos _ (fun k => sq2_nn _) (j / 2) ?_ _ ?_
  · rw [Nat.mod_eq_of_lt hS]
    refine sq2_pos _ ?_
    unfold partAt
    rcases Nat.mod_two_eq_zero_or_one j with h | h
    · left; rw [show 2 * (j / 2) = j from by omega]; exact h0
    · right; rw [show 2 * (j / 2) + 1 = j from by omega]; exact h0
  · exact Nat.lt_of_lt_of_le hS (Nat.le_mul_of_pos_left _ (by omega))

theorem tot_le (xs : List Int) (S n : Nat) (hx : ∀ x ∈ xs, x.natAbs ≤ 2047) (hn : n ≤ 1000) : (totSq xs S n).natAbs ≤ 100000000000 := by
  have := sum_bd (fun i => sq2 (partAt xs (i % S))) 8380418 n (fun k _ => by
    have h1 := getD_bd hx (2 * (k % S))
    have h2 := getD_bd hx (2 * (k % S) + 1)
    have m : ∀ a : Int, a.natAbs ≤ 2047 → (a * a).natAbs ≤ 4190209 := fun a h => by rw [Int.natAbs_mul]; exact Nat.le_trans (Nat.mul_le_mul h h) (by decide)
    have := m _ h1
    have := m _ h2
    unfold sq2 partAt
    dsimp only
    omega)
  have h2 := Nat.mul_le_mul_right 8380418 hn
  unfold totSq
  omega

/-- the phases of quarter turns -/
theorem phS_turn (q : Nat) (hq : q < 4) (T : Int) (hT : 0 < T) : phS (cosq q * T) (sinq q * T) = (wrapI (1024 * q), 0) := by
  obtain ⟨t, rfl⟩ : ∃ t : Nat, T = t := ⟨T.toNat, by omega⟩
  have ht : 1 ≤ t := by omega
  have h0 : ph0 t 0 = 0 := by unfold ph0; rw [halv_zero t ht]; rfl
  have hA : phA t 0 = 0 := by unfold phA; rw [if_neg (by omega)]; exact h0
  have hB : phA 0 t = 1024 := by unfold phA; rw [if_pos (by omega), h0]; rfl
  have hq' : q = 0 ∨ q = 1 ∨ q = 2 ∨ q = 3 := by omega
  rcases hq' with rfl | rfl | rfl | rfl
  · have e1 : cosq 0 * (t : Int) = t := by unfold cosq; rw [if_pos rfl]; omega
    have e2 : sinq 0 * (t : Int) = 0 := by unfold sinq; simp
    rw [e1, e2]
    unfold phS phC phB
    rw [if_neg (by omega), if_neg (by omega), if_neg (by omega)]
    show (wrapI (phA (t : Int).natAbs 0), (0 : Int)) = _
    rw [Int.natAbs_natCast, hA]; rfl
  · have e1 : cosq 1 * (t : Int) = 0 := by unfold cosq; simp
    have e2 : sinq 1 * (t : Int) = t := by unfold sinq; rw [if_pos rfl]; omega
    rw [e1, e2]
    unfold phS phC phB
    rw [if_neg (by omega), if_neg (by omega), if_neg (by omega)]
    show (wrapI (phA 0 (t : Int).natAbs), (0 : Int)) = _
    rw [Int.natAbs_natCast, hB]; rfl
  · have e1 : cosq 2 * (t : Int) = -t := by unfold cosq; rw [if_neg (by decide), if_pos rfl]; omega
    have e2 : sinq 2 * (t : Int) = 0 := by unfold sinq; simp
    rw [e1, e2]
    unfold phS phC phB
    rw [if_neg (by omega), if_neg (by omega), if_pos (by omega)]
    show (wrapI (2048 - phA (-(t : Int)).natAbs 0), (0 : Int)) = _
    rw [Int.natAbs_neg, Int.natAbs_natCast, hA]; rfl
  · have e1 : cosq 3 * (t : Int) = 0 := by unfold cosq; simp
    have e2 : sinq 3 * (t : Int) = -t := by unfold sinq; rw [if_neg (by decide), if_pos rfl]; omega
    rw [e1, e2]
    unfold phS phC phB
    rw [if_neg (by omega), if_pos (by omega), if_neg (by omega)]
    show (wrapI (-phA 0 (-(t : Int)).natAbs), (0 : Int)) = _
    rw [Int.natAbs_neg, Int.natAbs_natCast, hB]; rfl
end Go.Proofs.YtmmmaanflmgblaaDoor
