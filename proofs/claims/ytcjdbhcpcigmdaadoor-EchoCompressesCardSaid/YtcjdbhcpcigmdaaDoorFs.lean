import Derived.Test.YtcjdbhcpcigmdaaDoorFlt
namespace Go.Proofs.YtcjdbhcpcigmdaaDoor.Flt
open Go Ieee

theorem rootFrom_spec (n : Nat) : ∀ (todo root : Nat), root * root ≤ n → n < (root + 2 ^ todo) * (root + 2 ^ todo) →
    Datum.rootFrom n todo root * Datum.rootFrom n todo root ≤ n ∧ n < (Datum.rootFrom n todo root + 1) * (Datum.rootFrom n todo root + 1) := by
  intro todo
  induction todo with
  | zero => intro root h1 h2; exact ⟨h1, by simpa [Datum.rootFrom] using h2⟩
  | succ todo ih =>
    intro root h1 h2
    unfold Datum.rootFrom
    have e : root + 1 <<< todo = root + 2 ^ todo := by rw [Nat.shiftLeft_eq, Nat.one_mul]
    simp only [e]
    by_cases hle : (root + 2 ^ todo) * (root + 2 ^ todo) ≤ n
    · rw [if_pos hle]
      refine ih _ hle ?_
      rw [Nat.pow_succ] at h2
      rw [show root + 2 ^ todo + 2 ^ todo = root + 2 ^ todo * 2 from by omega]
      exact h2
    · rw [if_neg hle]
      exact ih _ h1 (by omega)

theorem sq_lt {a b : Nat} (h : a < b) : a * a < b * b := Nat.mul_self_lt_mul_self h
theorem lt_of_sq {a b : Nat} (h : a * a < b * b) : a < b := Nat.mul_self_lt_mul_self_iff.1 h
theorem le_of_sq {a b : Nat} (h : a * a ≤ b * b) : a ≤ b := Nat.mul_self_le_mul_self_iff.1 h

/-- THE SQUARE ROOT OF A WHOLE NUMBER, AND ITS WHOLE PART -/
theorem sqrt_int (n k : Nat) (h0 : 1 ≤ n) (hn : n < 2 ^ 52) (hk : k * k ≤ n) (hk' : n < (k + 1) * (k + 1)) :
    ∃ r, double.sqrt (enc double (n : Int)) = some r ∧ (double.read r).toInt .zero = some (k : Int) ∧ r < 2 ^ 64 := by
  have hnn : ((n : Int)).natAbs = n := rfl
  have hne : (n : Int) ≠ 0 := by omega
  have hread := read_enc good_double (n : Int) (by rw [hnn]; exact Nat.le_of_lt (Nat.lt_trans hn (by decide))) hne
  rw [hnn, show decide ((n : Int) < 0) = false from by rw [decide_eq_false_iff_not]; omega] at hread
  have hb := sig_bounds double n (by omega) (Nat.le_of_lt (Nat.lt_trans hn (by decide)))
  have hx := sig_exact double n (by omega) (Nat.le_of_lt (Nat.lt_trans hn (by decide)))
  rw [show double.binade = 2 ^ 52 from rfl] at hb
  rw [show double.fractionBits = 52 from rfl] at hx
  obtain ⟨L, hL⟩ : ∃ L, L = n.log2 := ⟨_, rfl⟩
  have hL51 : L ≤ 51 := by
    have := (Nat.log2_lt (by omega : n ≠ 0)).2 hn
    omega
  obtain ⟨m, hm⟩ : ∃ m, m = sig double n := ⟨_, rfl⟩
  have hlast : last double n = (L : Int) - 52 := by unfold last; rw [← hL]; rfl
  rw [hlast, ← hm] at hread
  rw [← hm] at hb
  rw [← hm, ← hL] at hx
  have hmlog : m.log2 = 52 := by
    rw [Nat.log2_eq_iff (by omega)]
    exact ⟨hb.1, by omega⟩
  -- the exponent that makes the place even
  obtain ⟨p, hp⟩ : ∃ p : Nat, p = (((L : Int) - 52 - (56 : Nat)) % 2).toNat := ⟨_, rfl⟩
  have hp2 : p ≤ 1 := by omega
  obtain ⟨g, hg⟩ : ∃ g : Nat, 2 * g = 108 - L + p := ⟨(108 - L + p) / 2, by omega⟩
  have hg29 : 28 < g := by omega
  obtain ⟨N, hN⟩ : ∃ N, N = m <<< (56 + p) := ⟨_, rfl⟩
  have hNval : N = n * (2 ^ g * 2 ^ g) := by
    have : N * 2 ^ L = n * (2 ^ g * 2 ^ g) * 2 ^ L := by
      rw [hN, Nat.shiftLeft_eq, Nat.mul_right_comm, hx, ← Nat.pow_add, Nat.mul_assoc, ← Nat.pow_add, Nat.mul_assoc, ← Nat.pow_add]
      congr 2; omega
    exact Nat.eq_of_mul_eq_mul_right (Nat.two_pow_pos _) this
  obtain ⟨whole, hwhole⟩ : ∃ whole, whole = Datum.rootFrom N (N.log2 / 2 + 1) 0 := ⟨_, rfl⟩
  have hN0 : N ≠ 0 := by
    rw [hNval]; exact Nat.mul_ne_zero (by omega) (Nat.mul_ne_zero (Nat.ne_of_gt (Nat.two_pow_pos _)) (Nat.ne_of_gt (Nat.two_pow_pos _)))
  have hspec : whole * whole ≤ N ∧ N < (whole + 1) * (whole + 1) := by
    rw [hwhole]
    refine rootFrom_spec N _ 0 (by simp) ?_
    rw [Nat.zero_add, ← Nat.pow_add]
    have h1 := @Nat.lt_log2_self N
    exact Nat.lt_of_lt_of_le h1 (Nat.pow_le_pow_right (by decide) (by omega))
  have hsqrt : double.sqrt (enc double (n : Int)) = some (double.write (.number false (2 * whole + (whole * whole != N).toNat) (-(g : Int) - 1))) := by
    unfold Format.sqrt Datum.root
    rw [hread]
    simp only [Bool.false_eq_true, if_false]
    rw [if_neg (by omega)]
    have e1 : 2 * (double.fractionBits + 2) - m.log2 = 56 := by rw [hmlog]; rfl
    simp only [e1]
    have e2 : 56 + (((L : Int) - 52 - ((56 : Nat) : Int)) % 2).toNat = 56 + p := by rw [hp]
    simp only [e2, ← hN, ← hwhole, Option.map_some]
    congr 3
    omega
  refine ⟨_, hsqrt, ?_, by have := double.write_lt (.number false (2 * whole + (whole * whole != N).toNat) (-(g : Int) - 1)); exact this⟩
  -- bounds
  have hG : 0 < 2 ^ g := Nat.two_pow_pos g
  have hkup : k < 2 ^ 26 := by
    apply lt_of_sq
    rw [← Nat.pow_add]
    omega
  have hgbig : 4 * (k + 1) ≤ 2 ^ g := by
    have : 2 ^ 28 ≤ 2 ^ g := Nat.pow_le_pow_right (by decide) (by omega)
    omega
  generalize hGG : 2 ^ g = G at *
  obtain ⟨A, hA⟩ : ∃ A, A = (k + 1) * G := ⟨_, rfl⟩
  have hlow : k * G ≤ whole := by
    have h1 : k * G * (k * G) ≤ N := by
      rw [hNval, Nat.mul_mul_mul_comm k G k G]
      exact Nat.mul_le_mul_right _ hk
    have h2 := lt_of_sq (Nat.lt_of_le_of_lt h1 hspec.2)
    omega
  have hup : whole + 3 ≤ A := by
    rcases Nat.lt_or_ge whole (A - 2) with h | h
    · omega
    · exfalso
      have hA4 : 4 ≤ A := by rw [hA]; exact Nat.le_trans (by omega : 4 ≤ G) (Nat.le_mul_of_pos_left _ (by omega))
      have h1 : (A - 2) * (A - 2) ≤ N := Nat.le_trans (Nat.mul_self_le_mul_self h) hspec.1
      have h2 : N + G * G ≤ A * A := by
        have : (n + 1) * (G * G) ≤ (k + 1) * (k + 1) * (G * G) := Nat.mul_le_mul_right _ (by omega)
        rw [Nat.add_mul, Nat.one_mul, ← hNval] at this
        rw [hA, Nat.mul_mul_mul_comm (k + 1) G (k + 1) G]
        exact this
      have h3 : 4 * A ≤ G * G := by
        rw [hA, ← Nat.mul_assoc]
        exact Nat.mul_le_mul_right _ hgbig
      have h4 : A * A = (A - 2) * (A - 2) + 4 * A - 4 := by
        obtain ⟨B, rfl⟩ : ∃ B, A = B + 2 := ⟨A - 2, by omega⟩
        rw [show B + 2 - 2 = B from by omega]
        have : (B + 2) * (B + 2) = B * B + 4 * B + 4 := by
          simp only [Nat.add_mul, Nat.mul_add]; omega
        omega
      omega
  have hw1 : 2 ^ 54 ≤ whole := by
    have h1 : 2 ^ 108 ≤ N := by
      rw [hN, Nat.shiftLeft_eq]
      have : 2 ^ 52 * 2 ^ 56 ≤ m * 2 ^ (56 + p) := Nat.mul_le_mul hb.1 (Nat.pow_le_pow_right (by decide) (by omega))
      omega
    have h2 : 2 ^ 54 * 2 ^ 54 < (whole + 1) * (whole + 1) := Nat.lt_of_le_of_lt (by rw [← Nat.pow_add]; exact h1) hspec.2
    have := lt_of_sq h2
    omega
  have hw2 : whole < 2 ^ 55 := by
    have h1 : N < 2 ^ 110 := by
      rw [hN, Nat.shiftLeft_eq]
      have h3 : 2 ^ (56 + p) ≤ 2 ^ 57 := Nat.pow_le_pow_right (by decide) (by omega)
      have h4 := Nat.mul_lt_mul_of_lt_of_le hb.2 h3 (by decide)
      omega
    apply lt_of_sq
    rw [← Nat.pow_add]
    exact Nat.lt_of_le_of_lt hspec.1 h1
  generalize hbit : (whole * whole != N).toNat = bit
  have hbit1 : bit ≤ 1 := by rw [← hbit]; cases (whole * whole != N) <;> decide
  obtain ⟨mag, hmag⟩ : ∃ mag, mag = 2 * whole + bit := ⟨_, rfl⟩
  rw [← hmag]
  have hmag1 : 2 ^ 55 ≤ mag ∧ mag < 2 ^ 56 := by omega
  have hmlog : mag.log2 = 55 := by rw [Nat.log2_eq_iff (by omega)]; exact hmag1
  -- what is kept
  obtain ⟨Q, hQ⟩ : ∃ Q, G = 4 * Q := by
    refine ⟨2 ^ (g - 2), ?_⟩
    rw [← hGG, show (4 : Nat) = 2 ^ 2 from rfl, ← Nat.pow_add]
    congr 1; omega
  obtain ⟨C, hC⟩ : ∃ C, C = (k + 1) * Q := ⟨_, rfl⟩
  have hAC : A = 4 * C := by rw [hA, hC, hQ]; simp only [Nat.mul_left_comm]
  have hkQ : k * G = 4 * (k * Q) := by rw [hQ]; simp only [Nat.mul_left_comm]
  obtain ⟨kept, hkept⟩ : ∃ kept, kept = Toward.even.cut false mag 3 := ⟨_, rfl⟩
  have hcut : kept = mag / 8 ∨ (kept = mag / 8 + 1 ∧ 4 ≤ mag % 8) := by
    rw [hkept]
    unfold Toward.cut
    have : (1 : Nat) <<< min 3 (mag.log2 + 2) = 8 := by rw [hmlog]; rfl
    simp only [this]
    by_cases h : 8 < 2 * (mag % 8)
    · right; simp [h]; omega
    · by_cases h2 : 8 = 2 * (mag % 8)
      · by_cases h3 : mag / 8 % 2 = 1
        · right; simp [← h2, h3]; omega
        · left; simp [← h2, h3]
      · left
        have : (8 == 2 * (mag % 8)) = false := by rw [beq_eq_false_iff_ne]; exact h2
        simp [h, this]
  have hk1 : k * Q ≤ kept := by
    have : k * Q ≤ mag / 8 := by rw [Nat.le_div_iff_mul_le (by decide)]; omega
    omega
  have hk2 : kept < C := by omega
  have hk3 : 2 ^ 52 ≤ kept := by omega
  have hC2 : C ≤ 2 ^ 53 := by
    -- (k + 1) ≤ 2 ^ (55 - g), as k * k ≤ n and n * G * G < 2 ^ 110
    have h1 : k * G < 2 ^ 55 := Nat.lt_of_le_of_lt hlow hw2
    have hg55 : g ≤ 55 := by omega
    have h2 : k < 2 ^ (55 - g) := by
      have : k * G < 2 ^ (55 - g) * G := by
        rw [← hGG, ← Nat.pow_add, show 55 - g + g = 55 from by omega, hGG]; exact h1
      exact Nat.lt_of_mul_lt_mul_right this
    have h3 : A ≤ 2 ^ 55 := by
      rw [hA]
      have : (k + 1) * G ≤ 2 ^ (55 - g) * G := Nat.mul_le_mul_right _ h2
      rw [← hGG, ← Nat.pow_add, show 55 - g + g = 55 from by omega, hGG] at this
      exact this
    omega
  have hlp : double.leastPlace = -1074 := by decide
  have hneed : double.nearest false mag (-(g : Int) - 1) = double.word false (min ((2 - (g : Int) - double.leastPlace).toNat * double.binade + kept) double.infRung) := by
    unfold Format.nearest
    rw [if_neg (by omega)]
    have e1 : max (-(g : Int) - 1 + ((mag.log2 : Nat) : Int) - ((double.fractionBits : Nat) : Int)) double.leastPlace = 2 - (g : Int) := by
      rw [hmlog, hlp, show ((double.fractionBits : Nat) : Int) = 52 from rfl]; omega
    simp only [e1]
    have e2 : (-(g : Int) - 1 - (2 - (g : Int))).toNat = 0 := by omega
    have e3 : (2 - (g : Int) - (-(g : Int) - 1)).toNat = 3 := by omega
    rw [e2, e3, Nat.shiftLeft_eq, Nat.pow_zero, Nat.mul_one, hkept]
  have hwr : double.write (.number false mag (-(g : Int) - 1)) = double.nearest false mag (-(g : Int) - 1) := rfl
  rw [hwr, hneed]
  have hg55 : g ≤ 55 := by omega
  have hrung : (2 - (g : Int) - double.leastPlace).toNat * double.binade + kept < double.infRung := by
    rw [hlp, show double.binade = 2 ^ 52 from rfl, show double.infRung = 2046 * 2 ^ 52 + 2 ^ 52 from by decide]
    have : (2 - (g : Int) - -1074).toNat ≤ 1100 := by omega
    have := Nat.mul_le_mul_right (2 ^ 52) this
    omega
  rw [Nat.min_eq_left (Nat.le_of_lt hrung), read_word_normal double false _ kept hk3 (by rw [show double.binade = 2 ^ 52 from rfl]; omega) hrung]
  have hplace : double.leastPlace + ((2 - (g : Int) - double.leastPlace).toNat : Int) = 2 - (g : Int) := by rw [hlp]; omega
  rw [hplace]
  simp only [Datum.toInt, Datum.integral]
  have e4 : (2 - (g : Int)).toNat = 0 := by omega
  have e5 : (-(2 - (g : Int))).toNat = g - 2 := by omega
  rw [e4, e5, Nat.shiftLeft_eq, Nat.pow_zero, Nat.mul_one]
  have hQ2 : 2 ^ (g - 2) = Q := by
    have : 4 * 2 ^ (g - 2) = 4 * Q := by
      rw [← hQ, ← hGG, show (4 : Nat) = 2 ^ 2 from rfl, ← Nat.pow_add]
      congr 1; omega
    omega
  have hQpos : 0 < Q := by rw [← hQ2]; exact Nat.two_pow_pos _
  have hcut2 : Toward.zero.cut false kept (g - 2) = k := by
    unfold Toward.cut
    have hkl : 52 ≤ kept.log2 := (Nat.le_log2 (by omega)).2 hk3
    have : (1 : Nat) <<< min (g - 2) (kept.log2 + 2) = Q := by
      rw [Nat.min_eq_left (by omega), Nat.shiftLeft_eq, Nat.one_mul, hQ2]
    simp only [this]
    have : kept / Q = k := by
      rw [Nat.div_eq_iff hQpos]
      rw [hC, Nat.add_mul, Nat.one_mul] at hk2
      constructor <;> omega
    simp [this]
  rw [hcut2]
  simp [signed, Nat.shiftLeft_eq]
end Go.Proofs.YtcjdbhcpcigmdaaDoor.Flt
