import Derived.Test.YtmbolmmcfnfamaaRg
import Derived.Test.YtmbolmmcfnfamaaYa
import Derived.IntWalk
import Derived.Outline
namespace Go.Proofs.Ytmbolmmcfnfamaa.Orb
open Go.RowKit Lib

/-- powers of two, and their halves -/
def pw : Nat → Int
  | 0 => 1
  | j + 1 => 2 * pw j
def bt : Nat → Int
  | 0 => 0
  | j + 1 => pw j
theorem pw_pos : ∀ j, 1 ≤ pw j
  | 0 => by decide
  | j + 1 => by have := pw_pos j; unfold pw; omega
theorem pw_half (j : Nat) : pw j / 2 = bt j ∧ (pw j).tdiv 2 = bt j := by
  have h1 : pw j / 2 = bt j := by
    cases j with
    | zero => decide
    | succ j => show (2 * pw j) / 2 = pw j; omega
  exact ⟨h1, by rw [Int.tdiv_eq_ediv_of_nonneg (by have := pw_pos j; omega)]; exact h1⟩
theorem pw_mono (i : Nat) : ∀ d, pw i ≤ pw (i + d)
  | 0 => Int.le_refl _
  | d + 1 => by have := pw_mono i d; have := pw_pos (i + d); rw [← Nat.add_assoc, pw]; omega
theorem bt_bd (j : Nat) : 0 ≤ bt j ∧ bt j < pw j := by
  cases j with
  | zero => decide
  | succ j => have := pw_pos j; show 0 ≤ pw j ∧ pw j < 2 * pw j; omega
/-- the root, found bit by bit -/
def rootG : Nat → Int → Int → Int
  | 0, _, r => r
  | j + 1, n, r => if (r + pw j) * (r + pw j) ≤ n then rootG j n (r + pw j) else rootG j n r
theorem rootG_is : ∀ j n r, 0 ≤ r → r * r ≤ n → n < (r + pw j) * (r + pw j) → IsRoot n (rootG j n r)
  | 0, n, r, h0, h1, h2 => ⟨h0, h1, h2⟩
  | j + 1, n, r, h0, h1, h2 => by
    have hp := pw_pos j
    unfold rootG
    by_cases hc : (r + pw j) * (r + pw j) ≤ n
    · rw [if_pos hc]
      obtain ⟨a, b, c⟩ := root_step (b := pw j) h0 (by omega) h2 hc
      exact rootG_is j n _ a b c
    · rw [if_neg hc]
      exact rootG_is j n r h0 h1 (by omega)
def rootI (n : Int) : Int := rootG 31 n 0
theorem rootI_is (n : Int) (h0 : 0 ≤ n) (h1 : n < 4611686018427387904) : IsRoot n (rootI n) :=
  rootG_is 31 n 0 (Int.le_refl _) (by omega) (by rw [show (0 + pw 31) * (0 + pw 31) = 4611686018427387904 from by decide +kernel]; exact h1)

end Go.Proofs.Ytmbolmmcfnfamaa.Orb
