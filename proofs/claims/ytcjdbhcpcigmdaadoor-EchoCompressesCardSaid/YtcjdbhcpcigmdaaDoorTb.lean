import Derived.Test.YtcjdbhcpcigmdaaDoorTa
import Derived.Test.YtcjdbhcpcigmdaaDoorEt
namespace Go.Proofs.YtcjdbhcpcigmdaaDoor
open Go.RowKit Go.Proofs.YtcjdbhcpcigmdaaDoor.Flt

theorem tmod_lt_zero (n k : Int) (hk : 0 < k) (h : n.tmod k < 0) : n.tmod k + k = n % k := by
  have e := Int.emod_nonneg n (Int.ne_of_gt hk)
  have e2 := Int.emod_lt_of_pos n hk
  rw [Int.tmod_eq_emod] at h ⊢
  split at h <;> split <;> omega
theorem tmod_nonneg (n k : Int) (hk : 0 < k) (h : ¬ n.tmod k < 0) : n.tmod k = n % k := by
  have e := Int.emod_nonneg n (Int.ne_of_gt hk)
  have e2 := Int.emod_lt_of_pos n hk
  rw [Int.tmod_eq_emod] at h ⊢
  split at h <;> split <;> omega
theorem tmod_abs (n k : Int) (hk : 0 < k) : -k < n.tmod k ∧ n.tmod k < k := by
  have e := Int.emod_nonneg n (Int.ne_of_gt hk)
  have e2 := Int.emod_lt_of_pos n hk
  rw [Int.tmod_eq_emod]
  split <;> omega

/-- THE REFERENCE's REMAINDER -/
theorem Mod_any (n k : Int) (hk : 0 < k) (hk2 : k ≤ 4611686018427387904) (w : World) :
    Calls Tryd.prog 63 #[.int .i64 n, .int .i64 k] w fun e w' => e = .returned (.int .i64 (n % k)) ∧ w = w' := by
  have h0 : ¬ k = 0 := by omega
  obtain ⟨b1, b2⟩ := tmod_abs n k hk
  by_cases h : n.tmod k < 0
  · have HR := Lib.hid (tmod_lt_zero n k hk h)
    generalize n % k = R at *
    go_enter Tryd.func63, Tryd.ntmps63
    go_wp2_with fail
    go_ret
    exact ⟨by rw [← HR.out] <;> rfl, rfl⟩
  · have HR := Lib.hid (tmod_nonneg n k hk h)
    generalize n % k = R at *
    go_enter Tryd.func63, Tryd.ntmps63
    go_wp2_with fail
    go_ret
    exact ⟨by rw [← HR.out] <;> rfl, rfl⟩

theorem Wrap_any (p : Int) (w : World) :
    Calls Tryd.prog 58 #[.int .i64 p] w fun e w' => e = .returned (.int .i64 (wrapI p)) ∧ w = w' := by
  have C1 := Lib.hid (fun w => Mod_any p 4096 (by decide) (by decide) w)
  have C2 := Lib.hid (fun w => Mod_any (p % 4096 + 2048) 4096 (by decide) (by decide) w)
  have HR : Hid (wrapI p = (p % 4096 + 2048) % 4096 - 2048) := by unfold Hid wrapI; omega
  have b1 : 0 ≤ p % 4096 := by omega
  have b2 : p % 4096 < 4096 := by omega
  generalize p % 4096 = q at *
  have b3 : 0 ≤ (q + 2048) % 4096 := by omega
  have b4 : (q + 2048) % 4096 < 4096 := by omega
  generalize wrapI p = R at *
  go_enter Tryd.func58, Tryd.ntmps58
  go_wp2_with fail
  refine (C1.out _).mono ?_
  rintro e w' ⟨rfl, rfl⟩
  go_wp2_with fail
  refine (C2.out _).mono ?_
  rintro e w' ⟨rfl, rfl⟩
  generalize (q + 2048) % 4096 = r at *
  go_wp2_with fail
  go_ret
  exact ⟨by rw [HR.out] <;> rfl, rfl⟩

theorem Sum_any (a b : Int) (w : World) :
    Calls Tryd.prog 57 #[.int .i64 a, .int .i64 b] w fun e w' => e = .returned (.complex .f64 (enc Ieee.double a) (enc Ieee.double b)) ∧ w = w' := by
  have c1 := fun w => run_convert_int_float (P := Tryd.prog) w 3 86 .i64 .f64 a (by kernel_rfl) (by kernel_rfl)
  have c2 := fun w => run_convert_int_float (P := Tryd.prog) w 3 86 .i64 .f64 b (by kernel_rfl) (by kernel_rfl)
  have ea : Hid (floatOfInt .f64 a = enc Ieee.double a) := rfl
  have eb : Hid (floatOfInt .f64 b = enc Ieee.double b) := rfl
  generalize floatOfInt .f64 a = X at *
  generalize floatOfInt .f64 b = Y at *
  generalize enc Ieee.double a = X' at *
  generalize enc Ieee.double b = Y' at *
  go_enter Tryd.func57, Tryd.ntmps57
  go_wp2_with fail
  go_ret
  exact ⟨by rw [ea.out, eb.out] <;> rfl, rfl⟩

theorem phaPart_int (a b : Int) (ha : a.natAbs ≤ 100000000000) (hb : b.natAbs ≤ 100000000000) (h : ¬ (a = 0 ∧ b = 0)) : phaPart (some a) (some b) = (wrapI (phC a b), 0) := by
  have h0 : smpErr (some a) (some b) 100000000000 = 0 := by
    unfold smpErr
    dsimp only
    rw [if_neg (by omega)]
  unfold phaPart
  rw [if_pos h0]
  dsimp only
  rw [if_neg h]

theorem PhaseInt_any (a b : Int) (ha : a.natAbs ≤ 100000000000) (hb : b.natAbs ≤ 100000000000) (h : ¬ (a = 0 ∧ b = 0)) (w : World) :
    Calls Tryd.prog 55 #[.complex .f64 (enc Ieee.double a) (enc Ieee.double b)] w fun e w' => e = .returned (.tuple #[.int .i64 (wrapI (phC a b)), .int .i64 0]) ∧ Below w.heap.size w w' := by
  have := PhaseOf_any (enc Ieee.double a) (enc Ieee.double b) (rep_lt (Rep.enc _ _)) (rep_lt (Rep.enc _ _)) w
  rw [rep_wv good_double (Rep.enc _ _) (by show a.natAbs ≤ 2 ^ 53; omega), rep_wv good_double (Rep.enc _ _) (by show b.natAbs ≤ 2 ^ 53; omega), phaPart_int a b ha hb h] at this
  exact this
end Go.Proofs.YtcjdbhcpcigmdaaDoor
