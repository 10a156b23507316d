import Derived.Test.YtjokfmbknkeeeaaRg
import Derived.Test.YtjokfmbknkeeeaaYa
import Derived.IntWalk
import Derived.Outline
namespace Go.Proofs.Ytjokfmbknkeeeaa.Orb
open Go.RowKit Lib

/-- powers of two, and their halves -/
def pw : Nat → Int
  | 0 => 1
  | j + 1 => 2 * pw j
def bt : Nat → Int
  | 0 => 0
  | j + 1 => pw j
theorem pw_pos : ∀ j, 1 ≤ pw j
  | 0 => by decide
  | j + 1 => by have := pw_pos j; unfold pw; omega
theorem pw_half (j : Nat) : pw j / 2 = bt j ∧ (pw j).tdiv 2 = bt j := by
  have h1 : pw j / 2 = bt j := by
    cases j with
    | zero => decide
    | succ j => show (2 * pw j) / 2 = pw j; omega
  exact ⟨h1, by rw [Int.tdiv_eq_ediv_of_nonneg (by have := pw_pos j; omega)]; exact h1⟩
theorem pw_mono (i : Nat) : ∀ d, pw i ≤ pw (i + d)
  | 0 => Int.le_refl _
  | d + 1 => by have := pw_mono i d; have := pw_pos (i + d); rw [← Nat.add_assoc, pw]; omega
theorem bt_bd (j : Nat) : 0 ≤ bt j ∧ bt j < pw j := by
  cases j with
  | zero => decide
  | succ j => have := pw_pos j; show 0 ≤ pw j ∧ pw j < 2 * pw j; omega
/-- the root, found bit by bit -/
def rootG : Nat → Int → Int → Int
  | 0, _, r => r
  | j + 1, n, r => if (r + pw j) * (r + pw j) ≤ n then rootG j n (r + pw j) else rootG j n r
theorem rootG_is : ∀ j n r, 0 ≤ r → r * r ≤ n → n < (r + pw j) * (r + pw j) → IsRoot n (rootG j n r)
  | 0, n, r, h0, h1, h2 => ⟨h0, h1, h2⟩
  | j + 1, n, r, h0, h1, h2 => by
    have hp := pw_pos j
    unfold rootG
    by_cases hc : (r + pw j) * (r + pw j) ≤ n
    · rw [if_pos hc]
      obtain ⟨a, b, c⟩ := root_step (b := pw j) h0 (by omega) h2 hc
      exact rootG_is j n _ a b c
    · rw [if_neg hc]
      exact rootG_is j n r h0 h1 (by omega)
def rootI (n : Int) : Int := rootG 31 n 0
theorem rootI_is (n : Int) (h0 : 0 ≤ n) (h1 : n < 4611686018427387904) : IsRoot n (rootI n) :=
  rootG_is 31 n 0 (Int.le_refl _) (by omega) (by rw [show (0 + pw 31) * (0 + pw 31) = 4611686018427387904 from by decide +kernel]; exact h1)

set_option maxRecDepth 100000 in
set_option maxHeartbeats 2000000 in
theorem rootDown_any (n : Int) (h0 : 0 ≤ n) (h1 : n < 288230376151711744) (w : World) :
    Calls Try.prog 112 #[.int .i64 n] w fun e w' => e = .returned (.int .i64 (rootI n)) ∧ w = w' := by
  have HU := Lib.hid (fun r (h : IsRoot n r) => h.unique (rootI_is n h0 (by omega)))
  generalize rootI n = T at *
  go_enter Try.func112, Try.ntmps112
  go_wp2_with fail
  go_loopw [3, 4] (fun r b wr => ∃ (R : Int) (j : Nat), j ≤ 29 ∧ r = .int .i64 R ∧ b = .int .i64 (bt j) ∧ 0 ≤ R ∧ Hid (R * R ≤ n) ∧ Hid (n < (R + pw j) * (R + pw j)) ∧ wr = w) (fun _ b _ => (intV b).toNat)
  case atStart => exact ⟨0, 29, by decide, rfl, rfl, Int.le_refl _, Lib.hid h0, Lib.hid (by rw [show (0 + pw 29) * (0 + pw 29) = 288230376151711744 from by decide +kernel]; exact h1), rfl⟩
  case round =>
    obtain ⟨R, j, hj, rfl, rfl, hR, H1, H2, rfl⟩ := hrel
    cases j with
    | zero =>
      have hb : bt 0 = 0 := rfl
      rw [hb]
      have HE := Lib.hid (HU.out R ⟨hR, H1.out, H2.out⟩)
      clear hb H1 H2
      go_wp2_with fail
      go_ret
      exact ⟨by rw [HE.out]; rfl, rfl⟩
    | succ j =>
      have hb : bt (j + 1) = pw j := rfl
      rw [hb]
      have hp := pw_pos j
      have hm := pw_mono j (28 - j)
      rw [show j + (28 - j) = 28 from by omega, show pw 28 = 268435456 from by decide +kernel] at hm
      obtain ⟨d1, d2⟩ := pw_half j
      obtain ⟨b1, b2⟩ := bt_bd j
      have hr := root_bd H1.out (show (0 : Int) ≤ 536870912 by decide) (show n < 536870912 * 536870912 by omega)
      have HS := Lib.hid (fun hc => root_step (b := pw j) hR (by omega) H2.out hc)
      have HP := Lib.hid (show bt j = bt j from rfl)
      clear hb H2
      have HPJ := Lib.hid (show pw j = pw j from rfl)
      obtain ⟨B, hB⟩ : ∃ B, B = pw j := ⟨_, rfl⟩
      obtain ⟨C, hC⟩ : ∃ C, C = bt j := ⟨_, rfl⟩
      have HB := Lib.hid hB
      have HC := Lib.hid hC
      rw [← hB] at hp hm d1 d2 b2 HS ⊢
      rw [← hC] at d1 d2 b1 b2
      clear hB hC
      have hsq := mul_bd (R + B) (R + B) 1000000000 (by omega) (by omega) (by omega) (by omega)
      have e1 : IntKind.i64.wrap (R + B) = R + B := IntWalk.i64_in _ (by omega)
      have e2 : IntKind.i64.wrap ((R + B) * (R + B)) = (R + B) * (R + B) := IntWalk.i64_in _ (by omega)
      have e3 : IntKind.i64.wrap C = C := IntWalk.i64_in _ (by omega)
      clear hsq
      have hpos : 0 < B := by omega
      by_cases hc : (R + B) * (R + B) ≤ n
      · obtain ⟨s1, s2, s3⟩ := HS.out hc
        have S2 := Lib.hid s2
        have S3 := Lib.hid s3
        clear s2 s3
        go_wp2_with fail
        go_roundw
        case rel => exact ⟨R + B, j, by omega, rfl, by rw [← HC.out], s1, S2, Lib.hid (by rw [← HB.out]; exact S3.out), by first | rfl | trivial⟩
        case measure => simp [intV]; omega
      · have S3 := Lib.hid (show n < (R + B) * (R + B) by omega)
        go_wp2_with fail
        go_roundw
        case rel => exact ⟨R, j, by omega, rfl, by rw [← HC.out], hR, H1, Lib.hid (by rw [← HB.out]; exact S3.out), by first | rfl | trivial⟩
        case measure => simp [intV]; omega

set_option maxRecDepth 100000 in
set_option maxHeartbeats 2000000 in
theorem rootUp_any (n : Int) (h0 : 0 ≤ n) (h1 : n < 288230376151711744) (w : World) :
    Calls Try.prog 113 #[.int .i64 n] w fun e w' => e = .returned (.int .i64 (upOf n (rootI n))) ∧ w = w' := by
  have CD := Lib.hid (fun W => rootDown_any n h0 h1 W)
  have hI := rootI_is n h0 (by omega)
  unfold upOf
  generalize rootI n = r at *
  obtain ⟨r0, r1, -⟩ := hI
  have hr := root_bd r1 (show (0 : Int) ≤ 536870912 by decide) (show n < 536870912 * 536870912 by omega)
  have e2 : IntKind.i64.wrap (r * r) = r * r := IntWalk.i64_in _ (by have := mul_bd r r 1000000000 (by omega) (by omega) (by omega) (by omega); omega)
  have e3 : IntKind.i64.wrap (r + 1) = r + 1 := IntWalk.i64_in _ (by omega)
  by_cases hc : r * r < n
  all_goals
    first | rw [if_pos hc] | rw [if_neg hc]
    clear r1
    go_enter Try.func113, Try.ntmps113
    go_wp2_with fail
    refine (CD.out _).mono ?_
    rintro e w1 ⟨rfl, rfl⟩
    go_wp2_with fail
    go_ret
    exact ⟨rfl, rfl⟩

set_option maxRecDepth 100000 in
set_option maxHeartbeats 2000000 in
theorem refRoot_any (n : Int) (h0 : 0 ≤ n) (h1 : n < 288230376151711744) (w : World) :
    Calls Try.prog 67 #[.int .i64 n] w fun e w' => e = .returned (.int .i64 (rootI n)) ∧ w = w' := by
  have HU := Lib.hid (fun r (h : IsRoot n r) => h.unique (rootI_is n h0 (by omega)))
  generalize rootI n = T at *
  go_enter Try.func67, Try.ntmps67
  go_wp2_with fail
  go_loopw [3, 4] (fun r b wr => ∃ (R : Int) (j : Nat), j ≤ 31 ∧ r = .int .i64 R ∧ b = .int .i64 (bt j) ∧ 0 ≤ R ∧ Hid (R * R ≤ n) ∧ Hid (n < (R + pw j) * (R + pw j)) ∧ wr = w) (fun _ b _ => (intV b).toNat)
  case atStart => exact ⟨0, 31, by decide, rfl, rfl, Int.le_refl _, Lib.hid h0, Lib.hid (by rw [show (0 + pw 31) * (0 + pw 31) = 4611686018427387904 from by decide +kernel]; omega), rfl⟩
  case round =>
    obtain ⟨R, j, hj, rfl, rfl, hR, H1, H2, rfl⟩ := hrel
    cases j with
    | zero =>
      have hb : bt 0 = 0 := rfl
      rw [hb]
      have HE := Lib.hid (HU.out R ⟨hR, H1.out, H2.out⟩)
      clear hb H1 H2
      go_wp2_with fail
      go_ret
      exact ⟨by rw [HE.out]; rfl, rfl⟩
    | succ j =>
      have hb : bt (j + 1) = pw j := rfl
      rw [hb]
      have hp := pw_pos j
      have hm := pw_mono j (30 - j)
      rw [show j + (30 - j) = 30 from by omega, show pw 30 = 1073741824 from by decide +kernel] at hm
      obtain ⟨d1, d2⟩ := pw_half j
      obtain ⟨b1, b2⟩ := bt_bd j
      have hr := root_bd H1.out (show (0 : Int) ≤ 536870912 by decide) (show n < 536870912 * 536870912 by omega)
      have HS := Lib.hid (fun hc => root_step (b := pw j) hR (by omega) H2.out hc)
      clear hb H2
      obtain ⟨B, hB⟩ : ∃ B, B = pw j := ⟨_, rfl⟩
      obtain ⟨C, hC⟩ : ∃ C, C = bt j := ⟨_, rfl⟩
      have HB := Lib.hid hB
      have HC := Lib.hid hC
      rw [← hB] at hp hm d1 d2 b2 HS ⊢
      rw [← hC] at d1 d2 b1 b2
      clear hB hC
      have hsq := mul_bd (R + B) (R + B) 2000000000 (by omega) (by omega) (by omega) (by omega)
      have e1 : IntKind.i64.wrap (R + B) = R + B := IntWalk.i64_in _ (by omega)
      have e2 : IntKind.i64.wrap ((R + B) * (R + B)) = (R + B) * (R + B) := IntWalk.i64_in _ (by omega)
      have e3 : IntKind.i64.wrap C = C := IntWalk.i64_in _ (by omega)
      clear hsq
      have hpos : 0 < B := by omega
      by_cases hc : (R + B) * (R + B) ≤ n
      · obtain ⟨s1, s2, s3⟩ := HS.out hc
        have S2 := Lib.hid s2
        have S3 := Lib.hid s3
        clear s2 s3
        go_wp2_with fail
        go_roundw
        case rel => exact ⟨R + B, j, by omega, rfl, by rw [← HC.out], s1, S2, Lib.hid (by rw [← HB.out]; exact S3.out), by first | rfl | trivial⟩
        case measure => simp [intV]; omega
      · have S3 := Lib.hid (show n < (R + B) * (R + B) by omega)
        go_wp2_with fail
        go_roundw
        case rel => exact ⟨R, j, by omega, rfl, by rw [← HC.out], hR, H1, Lib.hid (by rw [← HB.out]; exact S3.out), by first | rfl | trivial⟩
        case measure => simp [intV]; omega

set_option maxRecDepth 100000 in
set_option maxHeartbeats 2000000 in
theorem refRootUp_any (n : Int) (h0 : 0 ≤ n) (h1 : n < 288230376151711744) (w : World) :
    Calls Try.prog 68 #[.int .i64 n] w fun e w' => e = .returned (.int .i64 (upOf n (rootI n))) ∧ w = w' := by
  have CD := Lib.hid (fun W => refRoot_any n h0 h1 W)
  have hI := rootI_is n h0 (by omega)
  unfold upOf
  generalize rootI n = r at *
  obtain ⟨r0, r1, -⟩ := hI
  have hr := root_bd r1 (show (0 : Int) ≤ 536870912 by decide) (show n < 536870912 * 536870912 by omega)
  have e2 : IntKind.i64.wrap (r * r) = r * r := IntWalk.i64_in _ (by have := mul_bd r r 1000000000 (by omega) (by omega) (by omega) (by omega); omega)
  have e3 : IntKind.i64.wrap (r + 1) = r + 1 := IntWalk.i64_in _ (by omega)
  by_cases hc : r * r < n
  all_goals
    first | rw [if_pos hc] | rw [if_neg hc]
    clear r1
    go_enter Try.func68, Try.ntmps68
    go_wp2_with fail
    refine (CD.out _).mono ?_
    rintro e w1 ⟨rfl, rfl⟩
    go_wp2_with fail
    go_ret
    exact ⟨rfl, rfl⟩
end Go.Proofs.Ytjokfmbknkeeeaa.Orb
