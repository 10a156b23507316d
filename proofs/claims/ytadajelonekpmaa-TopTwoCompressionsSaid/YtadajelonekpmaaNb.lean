import Derived.Test.YtadajelonekpmaaNa
namespace Go.Proofs.Ytadajelonekpmaa
open Go.RowKit Go.Proofs.Ytadajelonekpmaa.Flt

theorem cast_mm (a b : Nat) : ((a * b % 998244353 : Nat) : Int) = (a : Int) * b % 998244353 := by rw [Int.natCast_emod, Int.natCast_mul]; rfl
theorem prod_b {a b : Nat} (ha : a < 998244353) (hb : b < 998244353) : 0 ≤ (a : Int) * b ∧ (a : Int) * b ≤ 996491788296388609 := by
  have h : a * b ≤ 998244353 * 998244353 := Nat.mul_le_mul (Nat.le_of_lt ha) (Nat.le_of_lt hb)
  rw [← Int.natCast_mul]
  omega

set_option maxRecDepth 100000 in
set_option maxHeartbeats 1000000 in
theorem power_any (x e : Nat) (hx : x < 998244353) (he : e < 2 ^ 31) (w : World) :
    Calls Try.prog 45 #[.int .i64 x, .int .i64 e] w fun en w' => en = .returned (.int .i64 (pmF 31 e x 1 : Nat)) ∧ w = w' := by
  obtain ⟨R, hR⟩ : ∃ R, R = pmF 31 e x 1 := ⟨_, rfl⟩
  rw [← hR]
  have HR : Hid (pmF 31 e x 1 = R ∧ e < 2 ^ 31) := ⟨hR.symm, he⟩
  clear hR
  have he' : e < 2147483648 := he
  clear he
  go_enter Try.func45, Try.ntmps45
  go_wp2_with fail
  go_loop [0, 1, 5] (fun xv ev rv => ∃ t e x r : Nat, xv = .int .i64 x ∧ ev = .int .i64 e ∧ rv = .int .i64 r ∧ x < 998244353 ∧ r < 998244353 ∧ e < 2147483648 ∧ Hid (pmF t e x r = R ∧ e < 2 ^ t)) (fun _ ev _ => (intOf ev).toNat)
  case atStart => exact ⟨31, e, x, 1, rfl, rfl, rfl, hx, by decide, he', HR⟩
  case round =>
    clear HR hx he'
    obtain ⟨t, e, x, r, rfl, rfl, rfl, hx, hr, he, HK⟩ := hrel
    rcases Nat.eq_zero_or_pos e with h0 | h0
    · have HF : Hid (r = R) := by have := HK.out.1; rw [h0, pmF_zero] at this; exact this
      have hp : ¬ (0 : Int) < e := by omega
      clear HK h0
      go_wp2_with fail
      go_ret
      exact ⟨by rw [HF.out] <;> rfl, rfl⟩
    · cases t with
      | zero => have := HK.out.2; simp at this; omega
      | succ t =>
        have h1 := HK.out.1
        have h2 := HK.out.2
        rw [pmF, if_neg (by omega)] at h1
        rw [Nat.pow_succ] at h2
        obtain ⟨p1, p2⟩ := prod_b hx hx
        obtain ⟨q1, q2⟩ := prod_b hr hx
        have m1 : x * x % 998244353 < 998244353 := Nat.mod_lt _ (by decide)
        have m2 : r * x % 998244353 < 998244353 := Nat.mod_lt _ (by decide)
        by_cases hodd : e % 2 = 1
        · rw [if_pos hodd] at h1
          have HN : Hid (pmF t (e / 2) (x * x % 998244353) (r * x % 998244353) = R ∧ e / 2 < 2 ^ t) := ⟨h1, by omega⟩
          have ho : ((e : Int) % 2 == 1) = true := by rw [beq_iff_eq]; omega
          have hp : (0 : Int) < e := by omega
          clear h1 h2 HK
          have HM := Lib.hid (And.intro m1 m2)
          have HC := Lib.hid (And.intro (cast_mm x x) (cast_mm r x))
          clear m1 m2 hodd
          go_wp2_with fail
          go_round
          case rel => exact ⟨t, e / 2, x * x % 998244353, r * x % 998244353, by rw [HC.out.1], by rw [Int.natCast_ediv]; rfl, by rw [HC.out.2], HM.out.1, HM.out.2, by omega, HN⟩
          case measure => simp [intOf]; omega
        · rw [if_neg hodd] at h1
          have HN : Hid (pmF t (e / 2) (x * x % 998244353) r = R ∧ e / 2 < 2 ^ t) := ⟨h1, by omega⟩
          have ho : ((e : Int) % 2 == 1) = false := by rw [beq_eq_false_iff_ne]; omega
          have hp : (0 : Int) < e := by omega
          clear h1 h2 HK
          have HM := Lib.hid (And.intro m1 m2)
          have HC := Lib.hid (And.intro (cast_mm x x) (cast_mm r x))
          clear m1 m2 hodd
          go_wp2_with fail
          go_round
          case rel => exact ⟨t, e / 2, x * x % 998244353, r, by rw [HC.out.1], by rw [Int.natCast_ediv]; rfl, rfl, HM.out.1, hr, by omega, HN⟩
          case measure => simp [intOf]; omega

theorem rootOf_any (n : Nat) (h1 : 1 ≤ n) (w : World) :
    Calls Try.prog 36 #[.int .i64 n] w fun en w' => en = .returned (.int .i64 (rootN n : Nat)) ∧ w = w' := by
  have hq : 998244352 / n ≤ 998244352 := Nat.div_le_self _ _
  have C := Lib.hid (power_any 3 (998244352 / n) (by decide) (by omega))
  have HE : Hid ((998244352 : Int) / (n : Int) = ((998244352 / n : Nat) : Int)) := by unfold Hid; rw [Int.natCast_ediv]; rfl
  have HR : Hid (rootN n = pmF 31 (998244352 / n) 3 1) := rfl
  generalize pmF 31 (998244352 / n) 3 1 = P at *
  generalize 998244352 / n = q at *
  generalize rootN n = R at *
  have h0 : ¬ (n : Int) = 0 := by omega
  go_enter Try.func36, Try.ntmps36
  go_wp2_with fail
  rw [HE.out]
  refine (C.out _).mono ?_
  rintro e w' ⟨rfl, rfl⟩
  go_wp2_with fail
  go_ret
  exact ⟨by rw [HR.out] <;> rfl, rfl⟩

end Go.Proofs.Ytadajelonekpmaa
