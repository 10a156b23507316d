import Derived.Test.YtadajelonekpmaaEq
namespace Go.Proofs.Ytadajelonekpmaa
open Go.RowKit Go.Proofs.Ytadajelonekpmaa.Flt

/-- the test of a direction: is it not beyond x + y i? -/
def notBeyond (x y k : Nat) : Prop := (dAt 10 k).2 * x ≤ (dAt 10 k).1 * y
instance (x y k : Nat) : Decidable (notBeyond x y k) := inferInstanceAs (Decidable (_ ≤ _))

theorem nb_down (x y k : Nat) (hk : k < 1024) (h : notBeyond x y (k + 1)) : notBeyond x y k := by
  unfold notBeyond at *
  have t := dAt_turn k hk
  have g := (dAt_good 10 (k + 1)).pos
  generalize dAt 10 (k + 1) = E at *
  generalize dAt 10 k = D at *
  obtain ⟨d1, d2⟩ := D
  obtain ⟨e1, e2⟩ := E
  dsimp only at *
  have a : d2 * x * e1 ≤ d1 * y * e1 := by
    calc d2 * x * e1 = (d2 * e1) * x := by rw [Nat.mul_assoc, Nat.mul_comm x e1, ← Nat.mul_assoc]
      _ ≤ (d1 * e2) * x := Nat.mul_le_mul_right _ (Nat.le_of_lt t)
      _ = d1 * (e2 * x) := Nat.mul_assoc _ _ _
      _ ≤ d1 * (e1 * y) := Nat.mul_le_mul_left _ h
      _ = d1 * y * e1 := by rw [Nat.mul_comm e1 y, Nat.mul_assoc]
  exact Nat.le_of_mul_le_mul_right a g

theorem dAt_pos2 (k : Nat) (h : 1 ≤ k) (hk : k ≤ 1024) : 1 ≤ (dAt 10 k).2 := by
  obtain ⟨m, rfl⟩ : ∃ m, k = m + 1 := ⟨k - 1, by omega⟩
  have t := dAt_turn m (by omega)
  rcases Nat.eq_zero_or_pos (dAt 10 (m + 1)).2 with h0 | h0
  · rw [h0] at t; omega
  · exact h0

/-- where the halving ends -/
theorem hv_spec (x y : Nat) : ∀ j i, j ≤ 10 → (i + 1) * 2 ^ j ≤ 1024 → (i * 2 ^ j = 0 ∨ notBeyond x y (i * 2 ^ j)) → ((i + 1) * 2 ^ j = 1024 ∨ ¬ notBeyond x y ((i + 1) * 2 ^ j)) →
    ∀ m, m = hv (fun _ d => decide (d.2 * x ≤ d.1 * y)) j i → (m = 0 ∨ notBeyond x y m) ∧ (m + 1 = 1024 ∨ ¬ notBeyond x y (m + 1)) ∧ m + 1 ≤ 1024 := by
  intro j
  induction j with
  | zero =>
    intro i hj h2 h3 h4 m hm
    simp only [Nat.pow_zero, Nat.mul_one] at *
    rw [hv] at hm
    subst hm
    exact ⟨h3, h4, h2⟩
  | succ j ih =>
    intro i hj h2 h3 h4 m hm
    have e1 : i * 2 ^ (j + 1) = 2 * i * 2 ^ j := by rw [Nat.pow_succ, Nat.mul_comm 2 i, Nat.mul_assoc, Nat.mul_comm 2 (2 ^ j)]
    have e2 : (i + 1) * 2 ^ (j + 1) = (2 * i + 1 + 1) * 2 ^ j := by
      rw [Nat.pow_succ, Nat.mul_comm (2 ^ j) 2, ← Nat.mul_assoc]; congr 1; omega
    rw [e1] at h3
    rw [e2] at h2 h4
    have e3 : (2 * i + 1) * 2 ^ j + 2 ^ j = (2 * i + 1 + 1) * 2 ^ j := by rw [Nat.add_mul (2 * i + 1) 1, Nat.one_mul]
    have hp := Nat.two_pow_pos j
    have D : dAt 10 ((2 * i + 1) * 2 ^ j) = dAt (10 - j) (2 * i + 1) := by
      have := dAt_scale (10 - j) (2 * i + 1) j
      rw [show 10 - j + j = 10 from by omega] at this
      exact this
    rw [hv] at hm
    by_cases hc : notBeyond x y ((2 * i + 1) * 2 ^ j)
    · have hc' : decide ((dAt (10 - j) (2 * i + 1)).2 * x ≤ (dAt (10 - j) (2 * i + 1)).1 * y) = true := by
        rw [decide_eq_true_eq, ← D]; exact hc
      rw [hc', if_pos rfl] at hm
      exact ih _ (by omega) (by omega) (.inr hc) h4 m hm
    · have hc' : decide ((dAt (10 - j) (2 * i + 1)).2 * x ≤ (dAt (10 - j) (2 * i + 1)).1 * y) = false := by
        rw [decide_eq_false_iff_not, ← D]; exact hc
      rw [hc', if_neg (by decide)] at hm
      exact ih _ (by omega) (by omega) h3 (.inr hc) m hm

theorem halv_spec (x y : Nat) (h : x ≠ y) : (halv x y = 0 ∨ notBeyond x y (halv x y)) ∧ (halv x y + 1 = 1024 ∨ ¬ notBeyond x y (halv x y + 1)) ∧ halv x y + 1 ≤ 1024 :=
  hv_spec x y 10 0 (by omega) (by omega) (.inl (by omega)) (.inl (by decide)) _ (by unfold halv; rw [if_neg h])

theorem halv_zero (x : Nat) (h : 1 ≤ x) : halv x 0 = 0 := by
  obtain ⟨h1, -, h3⟩ := halv_spec x 0 (by omega)
  rcases h1 with h1 | h1
  · exact h1
  · rcases Nat.eq_zero_or_pos (halv x 0) with h0 | h0
    · exact h0
    · have := dAt_pos2 _ h0 (by omega)
      unfold notBeyond at h1
      have h2 := Nat.mul_le_mul this h
      omega

theorem halv_double (x y : Nat) : halv (2 * x) (2 * y) = halv x y := by
  unfold halv
  by_cases h : x = y
  · rw [if_pos h, if_pos (by omega)]
  · rw [if_neg h, if_neg (by omega)]
    congr 1
    funext _ d
    congr 1
    rw [Nat.mul_left_comm d.2 2 x, Nat.mul_left_comm d.1 2 y]
    exact propext ⟨fun h => Nat.le_of_mul_le_mul_left h (by decide), fun h => Nat.mul_le_mul_left 2 h⟩

theorem ph0_double (x y : Nat) : ph0 (2 * x) (2 * y) = ph0 x y := by unfold ph0; rw [halv_double]
theorem phC_double (x y : Int) : phC (2 * x) (2 * y) = phC x y := by
  unfold phC phB phA
  rw [show (2 * y).natAbs = 2 * y.natAbs from by omega, show (2 * x).natAbs = 2 * x.natAbs from by omega, ph0_double, ph0_double]
  by_cases hy : y < 0 <;> by_cases hx : x < 0 <;> by_cases hc : x.natAbs < y.natAbs
  all_goals
    first | rw [if_pos (show 2 * y < 0 by omega), if_pos hy] | rw [if_neg (show ¬ 2 * y < 0 by omega), if_neg hy]
    first | rw [if_pos (show 2 * x < 0 by omega), if_pos hx] | rw [if_neg (show ¬ 2 * x < 0 by omega), if_neg hx]
    first | rw [if_pos (show 2 * x.natAbs < 2 * y.natAbs by omega), if_pos hc] | rw [if_neg (show ¬ 2 * x.natAbs < 2 * y.natAbs by omega), if_neg hc]

theorem ph0_same (x : Nat) : ph0 x x = 512 := by unfold ph0 halv; rw [if_pos rfl]; rfl
theorem phA_swap (x y : Nat) : phA y x = 1024 - phA x y := by
  unfold phA
  rcases Nat.lt_trichotomy x y with h | h | h
  · rw [if_pos h, if_neg (by omega)]; omega
  · subst h; rw [if_neg (by omega), ph0_same]; rfl
  · rw [if_pos h, if_neg (by omega)]
theorem phA_zero (x : Nat) (h : 1 ≤ x) : phA x 0 = 0 := by
  unfold phA ph0
  rw [if_neg (by omega), halv_zero x h]; rfl

theorem wrapI_b (p : Int) : -2048 ≤ wrapI p ∧ wrapI p ≤ 2047 := by unfold wrapI; omega

theorem turn_conj (x y : Int) (h : ¬ (x = 0 ∧ y = 0)) : wrapI (phC x (-y)) = wrapI (-(wrapI (phC x y))) := by
  by_cases h0 : y = 0
  · subst h0
    have e : phC x (-0) = phC x 0 := rfl
    rw [e]
    have hz := phA_zero x.natAbs (by omega)
    unfold phC phB
    rw [if_neg (by decide), show (0 : Int).natAbs = 0 from rfl, hz]
    unfold wrapI
    split <;> omega
  · have e : phC x (-y) = - phC x y := by
      unfold phC
      rw [show (-y).natAbs = y.natAbs from by omega]
      by_cases hy : y < 0
      · rw [if_pos hy, if_neg (by omega)]; omega
      · rw [if_neg hy, if_pos (by omega)]
    rw [e]
    unfold wrapI
    omega

theorem turn_quarter (x y : Int) (h : ¬ (x = 0 ∧ y = 0)) : wrapI (phC (-y) x) = wrapI (wrapI (phC x y) + 1024) := by
  have hs := phA_swap x.natAbs y.natAbs
  have hz : y = 0 → phA x.natAbs y.natAbs = 0 := by
    rintro rfl
    exact phA_zero x.natAbs (by omega)
  unfold phC phB
  rw [show (-y).natAbs = y.natAbs from by omega, hs]
  generalize phA x.natAbs y.natAbs = A at *
  unfold wrapI
  by_cases hx : x < 0
  · rw [if_pos hx]
    by_cases hy : y < 0
    · rw [if_pos hy, if_neg (show ¬ -y < 0 by omega)]; omega
    · rw [if_neg hy]
      by_cases h0 : y = 0
      · rw [if_neg (show ¬ -y < 0 by omega)]; have := hz h0; omega
      · rw [if_pos (show -y < 0 by omega)]; omega
  · rw [if_neg hx]
    by_cases hy : y < 0
    · rw [if_pos hy, if_neg (show ¬ -y < 0 by omega)]; omega
    · rw [if_neg hy]
      by_cases h0 : y = 0
      · rw [if_neg (show ¬ -y < 0 by omega)]; have := hz h0; omega
      · rw [if_pos (show -y < 0 by omega)]; omega

/-- the directions beside the phase that is told -/
theorem turn_beside (x y : Nat) (hx : 1 ≤ x) (hy : y ≤ x) : ∃ n : Nat, wrapI (phC x y) = n ∧ n ≤ 512 ∧ (0 < n → notBeyond x y (2 * n - 1)) ∧ (n < 512 → ¬ notBeyond x y (2 * n + 1)) := by
  have hle := halv_le x y
  refine ⟨(halv x y + 1) / 2, ?_, by omega, ?_, ?_⟩
  · unfold phC phB phA
    rw [if_neg (by omega), if_neg (by omega), if_neg (by simpa using hy)]
    unfold ph0 wrapI
    simp only [Int.natAbs_natCast]
    omega
  · intro hn
    by_cases h : x = y
    · subst h
      have e : halv x x = 1024 := by unfold halv; rw [if_pos rfl]
      rw [e]
      unfold notBeyond
      have := (dAt_good 10 (2 * ((1024 + 1) / 2) - 1)).low
      exact Nat.mul_le_mul_right _ this
    · obtain ⟨h1, h2, h3⟩ := halv_spec x y h
      generalize halv x y = m at *
      have h1' : notBeyond x y m := by
        rcases h1 with h1 | h1
        · omega
        · exact h1
      rcases Nat.mod_two_eq_zero_or_one m with hm | hm
      · obtain ⟨k, rfl⟩ : ∃ k, m = k + 1 := ⟨m - 1, by omega⟩
        rw [show 2 * ((k + 1 + 1) / 2) - 1 = k from by omega]
        exact nb_down x y k (by omega) h1'
      · rw [show 2 * ((m + 1) / 2) - 1 = m from by omega]; exact h1'
  · intro hn
    by_cases h : x = y
    · subst h
      have e : halv x x = 1024 := by unfold halv; rw [if_pos rfl]
      rw [e] at hn
      omega
    · obtain ⟨h1, h2, h3⟩ := halv_spec x y h
      generalize halv x y = m at *
      have h2' : ¬ notBeyond x y (m + 1) := by
        rcases h2 with h2 | h2
        · omega
        · exact h2
      rcases Nat.mod_two_eq_zero_or_one m with hm | hm
      · rw [show 2 * ((m + 1) / 2) + 1 = m + 1 from by omega]; exact h2'
      · rw [show 2 * ((m + 1) / 2) + 1 = m + 1 + 1 from by omega]
        exact fun hc => h2' (nb_down x y (m + 1) (by omega) hc)
end Go.Proofs.Ytadajelonekpmaa

namespace Go.Proofs.Ytadajelonekpmaa
open Go.RowKit Go.Proofs.Ytadajelonekpmaa.Flt

theorem tmod_lt_zero (n k : Int) (hk : 0 < k) (h : n.tmod k < 0) : n.tmod k + k = n % k := by
  have e := Int.emod_nonneg n (Int.ne_of_gt hk)
  have e2 := Int.emod_lt_of_pos n hk
  rw [Int.tmod_eq_emod] at h ⊢
  split at h <;> split <;> omega
theorem tmod_nonneg (n k : Int) (hk : 0 < k) (h : ¬ n.tmod k < 0) : n.tmod k = n % k := by
  have e := Int.emod_nonneg n (Int.ne_of_gt hk)
  have e2 := Int.emod_lt_of_pos n hk
  rw [Int.tmod_eq_emod] at h ⊢
  split at h <;> split <;> omega
theorem tmod_abs (n k : Int) (hk : 0 < k) : -k < n.tmod k ∧ n.tmod k < k := by
  have e := Int.emod_nonneg n (Int.ne_of_gt hk)
  have e2 := Int.emod_lt_of_pos n hk
  rw [Int.tmod_eq_emod]
  split <;> omega

/-- THE REFERENCE's REMAINDER -/
theorem Mod_any (n k : Int) (hk : 0 < k) (hk2 : k ≤ 4611686018427387904) (w : World) :
    Calls Try.prog 28 #[.int .i64 n, .int .i64 k] w fun e w' => e = .returned (.int .i64 (n % k)) ∧ w = w' := by
  have h0 : ¬ k = 0 := by omega
  obtain ⟨b1, b2⟩ := tmod_abs n k hk
  by_cases h : n.tmod k < 0
  · have HR := Lib.hid (tmod_lt_zero n k hk h)
    generalize n % k = R at *
    go_enter Try.func28, Try.ntmps28
    go_wp2_with fail
    go_ret
    exact ⟨by rw [← HR.out] <;> rfl, rfl⟩
  · have HR := Lib.hid (tmod_nonneg n k hk h)
    generalize n % k = R at *
    go_enter Try.func28, Try.ntmps28
    go_wp2_with fail
    go_ret
    exact ⟨by rw [← HR.out] <;> rfl, rfl⟩

theorem Sum_any (a b : Int) (w : World) :
    Calls Try.prog 13 #[.int .i64 a, .int .i64 b] w fun e w' => e = .returned (.complex .f64 (enc Ieee.double a) (enc Ieee.double b)) ∧ w = w' := by
  have c1 := fun w => run_convert_int_float (P := Try.prog) w 3 69 .i64 .f64 a (by kernel_rfl) (by kernel_rfl)
  have c2 := fun w => run_convert_int_float (P := Try.prog) w 3 69 .i64 .f64 b (by kernel_rfl) (by kernel_rfl)
  have ea : Hid (floatOfInt .f64 a = enc Ieee.double a) := rfl
  have eb : Hid (floatOfInt .f64 b = enc Ieee.double b) := rfl
  generalize floatOfInt .f64 a = X at *
  generalize floatOfInt .f64 b = Y at *
  generalize enc Ieee.double a = X' at *
  generalize enc Ieee.double b = Y' at *
  go_enter Try.func13, Try.ntmps13
  go_wp2_with fail
  go_ret
  exact ⟨by rw [ea.out, eb.out] <;> rfl, rfl⟩

theorem phaPart_int (a b : Int) (ha : a.natAbs ≤ 100000000000) (hb : b.natAbs ≤ 100000000000) (h : ¬ (a = 0 ∧ b = 0)) : phaPart (some a) (some b) = (wrapI (phC a b), 0) := by
  have h0 : smpErr (some a) (some b) 100000000000 = 0 := by
    unfold smpErr
    dsimp only
    rw [if_neg (by omega)]
  unfold phaPart
  rw [if_pos h0]
  dsimp only
  rw [if_neg h]

end Go.Proofs.Ytadajelonekpmaa
