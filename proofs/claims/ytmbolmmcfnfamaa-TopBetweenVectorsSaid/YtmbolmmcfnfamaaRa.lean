import Derived.Test.YtmbolmmcfnfamaaChecked
import Derived.Test.YtmbolmmcfnfamaaRm
import Derived.WalkKit
import Derived.WalkLawsBesides
import Derived.WalkSpells
import Derived.Deep.QuietTactic
import Derived.BigQuiet
import Derived.Lib.Hide
import Derived.Carry
namespace Go.Proofs.Ytmbolmmcfnfamaa.Orb
open Go.RowKit Lib

/-! Orbit: numbers, errors of numbers, letters. No floats. -/

theorem tdiv_low (n k : Int) (hk : 0 < k) (h : n.tmod k < 0) : n.tdiv k - 1 = n / k := by
  have e := Int.emod_nonneg n (Int.ne_of_gt hk)
  have e2 := Int.emod_lt_of_pos n hk
  have h1 := Int.tmod_eq_emod (a := n) (b := k)
  have h2 := Int.tdiv_eq_ediv (a := n) (b := k)
  have h3 : k.sign = 1 := Int.sign_eq_one_of_pos hk
  by_cases hc : 0 ≤ n ∨ k ∣ n
  · rw [if_pos hc] at h1 h2; omega
  · rw [if_neg hc] at h1 h2; omega
theorem tdiv_high (n k : Int) (hk : 0 < k) (h : ¬ n.tmod k < 0) : n.tdiv k = n / k := by
  have e := Int.emod_nonneg n (Int.ne_of_gt hk)
  have e2 := Int.emod_lt_of_pos n hk
  have h1 := Int.tmod_eq_emod (a := n) (b := k)
  have h2 := Int.tdiv_eq_ediv (a := n) (b := k)
  by_cases hc : 0 ≤ n ∨ k ∣ n
  · rw [if_pos hc] at h1 h2; omega
  · rw [if_neg hc] at h1 h2; omega
theorem tdiv_size (n k : Int) (M : Int) (h1 : -M ≤ n) (h2 : n ≤ M) : -M ≤ n.tdiv k ∧ n.tdiv k ≤ M := by
  have h3 : (n.tdiv k).natAbs = n.natAbs / k.natAbs := Int.natAbs_tdiv n k
  have h4 := Nat.div_le_self n.natAbs k.natAbs
  omega

/-- THE REFERENCE's DIVISION, ROUNDED DOWN -/
theorem Floor_any (n k : Int) (hk : 0 < k) (hk2 : k ≤ 4611686018427387904) (hn : -4611686018427387904 ≤ n) (hn2 : n ≤ 4611686018427387904) (w : World) :
    Calls Try.prog 73 #[.int .i64 n, .int .i64 k] w fun e w' => e = .returned (.int .i64 (n / k)) ∧ w = w' := by
  have h0 : ¬ k = 0 := by omega
  obtain ⟨b1, b2⟩ := tdiv_size n k 4611686018427387904 hn hn2
  by_cases h : n.tmod k < 0
  · have HR := Lib.hid (tdiv_low n k hk h)
    generalize n / k = R at *
    go_enter Try.func73, Try.ntmps73
    go_wp2_with fail
    go_ret
    exact ⟨by rw [← HR.out] <;> rfl, rfl⟩
  · have HR := Lib.hid (tdiv_high n k hk h)
    generalize n / k = R at *
    go_enter Try.func73, Try.ntmps73
    go_wp2_with fail
    go_ret
    exact ⟨by rw [← HR.out] <;> rfl, rfl⟩

/-- THE PROGRAM's -/
theorem floorOf_any (n k : Int) (hk : 0 < k) (hk2 : k ≤ 4611686018427387904) (hn : -4611686018427387904 ≤ n) (hn2 : n ≤ 4611686018427387904) (w : World) :
    Calls Try.prog 64 #[.int .i64 n, .int .i64 k] w fun e w' => e = .returned (.int .i64 (n / k)) ∧ w = w' := by
  have h0 : ¬ k = 0 := by omega
  obtain ⟨b1, b2⟩ := tdiv_size n k 4611686018427387904 hn hn2
  by_cases h : n.tmod k < 0
  · have HR := Lib.hid (tdiv_low n k hk h)
    generalize n / k = R at *
    go_enter Try.func64, Try.ntmps64
    go_wp2_with fail
    go_ret
    exact ⟨by rw [← HR.out] <;> rfl, rfl⟩
  · have HR := Lib.hid (tdiv_high n k hk h)
    generalize n / k = R at *
    go_enter Try.func64, Try.ntmps64
    go_wp2_with fail
    go_ret
    exact ⟨by rw [← HR.out] <;> rfl, rfl⟩

theorem ediv_size (n k M : Int) (hM : 0 ≤ M) (hk : 0 < k) (h1 : -M ≤ n) (h2 : n ≤ M) : -M ≤ n / k ∧ n / k ≤ M := by
  constructor
  · have := Int.le_ediv_of_mul_le hk (a := -M) (b := n) (by have := Int.mul_le_mul_of_nonneg_left (show 1 ≤ k by omega) hM; rw [Int.mul_one] at this; rw [Int.neg_mul]; omega)
    exact this
  · have h3 : n / k ≤ M / k := Int.ediv_le_ediv hk h2
    have h4 : M / k ≤ M := Int.ediv_le_self k hM
    omega

set_option maxRecDepth 100000 in
theorem Ceil_any (n k : Int) (hk : 0 < k) (hk2 : k ≤ 4611686018427387904) (hn : -4611686018427387904 ≤ n) (hn2 : n ≤ 4611686018427387904) (w : World) :
    Calls Try.prog 74 #[.int .i64 n, .int .i64 k] w fun e w' => e = .returned (.int .i64 (ceilI n k)) ∧ w = w' := by
  obtain ⟨b1, b2⟩ := ediv_size (-n) k 4611686018427387904 (by omega) hk (by omega) (by omega)
  have C : Hid (∀ W, Calls Try.prog 73 #[.int .i64 (-n), .int .i64 k] W fun e w' => e = .returned (.int .i64 (-n / k)) ∧ W = w') := fun W => Floor_any (-n) k hk hk2 (by omega) (by omega) W
  unfold ceilI
  generalize -n / k = R at *
  go_enter Try.func74, Try.ntmps74
  go_wp2_with fail
  refine (C.out _).mono ?_
  rintro e w1 ⟨rfl, rfl⟩
  go_wp2_with fail
  go_ret
  exact ⟨rfl, rfl⟩

set_option maxRecDepth 100000 in
theorem ceilOf_any (n k : Int) (hk : 0 < k) (hk2 : k ≤ 4611686018427387904) (hn : -4611686018427387904 ≤ n) (hn2 : n ≤ 4611686018427387904) (w : World) :
    Calls Try.prog 65 #[.int .i64 n, .int .i64 k] w fun e w' => e = .returned (.int .i64 (ceilI n k)) ∧ w = w' := by
  obtain ⟨b1, b2⟩ := ediv_size (-n) k 4611686018427387904 (by omega) hk (by omega) (by omega)
  have C : Hid (∀ W, Calls Try.prog 64 #[.int .i64 (-n), .int .i64 k] W fun e w' => e = .returned (.int .i64 (-n / k)) ∧ W = w') := fun W => floorOf_any (-n) k hk hk2 (by omega) (by omega) W
  unfold ceilI
  generalize -n / k = R at *
  go_enter Try.func65, Try.ntmps65
  go_wp2_with fail
  refine (C.out _).mono ?_
  rintro e w1 ⟨rfl, rfl⟩
  go_wp2_with fail
  go_ret
  exact ⟨rfl, rfl⟩

set_option maxRecDepth 100000 in
theorem nearestTo_any (n k : Int) (hk : 0 < k) (hk2 : k ≤ 1152921504606846976) (hn : -1152921504606846976 ≤ n) (hn2 : n ≤ 1152921504606846976) (w : World) :
    Calls Try.prog 99 #[.int .i64 n, .int .i64 k] w fun e w' => e = .returned (.int .i64 (nearI n k)) ∧ w = w' := by
  have C : Hid (∀ W, Calls Try.prog 64 #[.int .i64 (2 * n + k), .int .i64 (2 * k)] W fun e w' => e = .returned (.int .i64 (nearI n k)) ∧ W = w') := fun W => floorOf_any (2 * n + k) (2 * k) (by omega) (by omega) (by omega) (by omega) W
  generalize nearI n k = R at *
  go_enter Try.func99, Try.ntmps99
  go_wp2_with fail
  refine (C.out _).mono ?_
  rintro e w1 ⟨rfl, rfl⟩
  go_wp2_with fail
  go_ret
  exact ⟨rfl, rfl⟩

theorem Within_any (n lo hi : Int) (w : World) :
    Calls Try.prog 18 #[.int .i64 n, .int .i64 lo, .int .i64 hi] w fun e w' => e = .returned (.bool (decide (lo ≤ n ∧ n ≤ hi))) ∧ w = w' := by
  by_cases h : lo ≤ n
  · have e : decide (lo ≤ n ∧ n ≤ hi) = decide (n ≤ hi) := by simp [h]
    rw [e]
    go_enter Try.func18, Try.ntmps18
    go_wp2_with fail
    go_ret
    exact ⟨rfl, rfl⟩
  · have e : decide (lo ≤ n ∧ n ≤ hi) = false := by simp [h]
    rw [e]
    go_enter Try.func18, Try.ntmps18
    go_wp2_with fail
    go_ret
    exact ⟨rfl, rfl⟩

theorem rangeError_any (n lo hi : Int) (w : World) :
    Calls Try.prog 58 #[.int .i64 n, .int .i64 lo, .int .i64 hi] w fun e w' => e = .returned (.int .i64 (rangeE n lo hi)) ∧ w = w' := by
  have hw : (n < lo ∧ Hid (rangeE n lo hi = 2)) ∨ (¬ n < lo ∧ hi < n ∧ Hid (rangeE n lo hi = 2)) ∨ (¬ n < lo ∧ ¬ hi < n ∧ Hid (rangeE n lo hi = 0)) := by
    unfold Hid rangeE
    by_cases h1 : n < lo
    · left; exact ⟨h1, if_neg (by omega)⟩
    · right
      by_cases h2 : hi < n
      · left; exact ⟨h1, h2, if_neg (by omega)⟩
      · right; exact ⟨h1, h2, if_pos (by omega)⟩
  generalize rangeE n lo hi = R at *
  rcases hw with ⟨h1, HR⟩ | ⟨h1, h2, HR⟩ | ⟨h1, h2, HR⟩
  all_goals
    go_enter Try.func58, Try.ntmps58
    go_wp2_with fail
    go_ret
    exact ⟨by rw [HR.out]; rfl, rfl⟩

end Go.Proofs.Ytmbolmmcfnfamaa.Orb
