import Derived.Laws.FloatArith
namespace Go.Proofs.Ytadajelonekpmaa.Flt
open Go Ieee

/-- the two formats that are spoken of -/
structure Good (f : Format) : Prop where
  p : 2 ≤ f.fractionBits
  lp : f.leastPlace + f.fractionBits ≤ -2
  room : (f.fractionBits : Int) + 3 - f.fractionBits - f.leastPlace + 2 < 2 ^ f.exponentBits - 1

theorem good_single : Good single := ⟨by decide, by decide, by decide⟩
theorem good_double : Good double := ⟨by decide, by decide, by decide⟩

/-- the word of a whole number -/
def enc (f : Format) (n : Int) : Nat := f.write (.number (decide (n < 0)) n.natAbs 0)

theorem log2_mul_pow (m k : Nat) (h : m ≠ 0) : (m * 2 ^ k).log2 = m.log2 + k := by
  have h2 : m * 2 ^ k ≠ 0 := Nat.mul_ne_zero h (Nat.ne_of_gt (Nat.two_pow_pos k))
  rw [Nat.log2_eq_iff h2]
  have a := Nat.log2_self_le h
  have b := @Nat.lt_log2_self m
  constructor
  · rw [Nat.pow_add]; exact Nat.mul_le_mul_right _ a
  · rw [show m.log2 + k + 1 = (m.log2 + 1) + k from by omega, Nat.pow_add]
    exact Nat.mul_lt_mul_of_pos_right b (Nat.two_pow_pos k)

/-- a cut that loses nothing -/
theorem cut_exact (way : Toward) (neg : Bool) (k d : Nat) (hd : k ≠ 0 ∨ d = 0) : way.cut neg (k * 2 ^ d) d = k := by
  unfold Toward.cut
  have hmin : min d ((k * 2 ^ d).log2 + 2) = d := by
    rcases hd with h | h
    · rw [log2_mul_pow k d h]; omega
    · subst h; omega
  have hp : 0 < 2 ^ d := Nat.two_pow_pos d
  have hg : (1 : Nat) <<< min d ((k * 2 ^ d).log2 + 2) = 2 ^ d := by rw [hmin, Nat.shiftLeft_eq, Nat.one_mul]
  simp only [hg]
  rw [Nat.mul_div_cancel _ hp, Nat.mul_mod_left]
  have h2 : (2 ^ d == 2 * 0) = false := by rw [beq_eq_false_iff_ne]; omega
  cases way <;> simp [h2]

/-- what 'nearest' makes of a number that the format has: the significand is 'k', its last digit's place 'last' -/
theorem nearest_of (f : Format) (neg : Bool) (m k : Nat) (e last : Int) (hm : m ≠ 0)
    (hlast : max (e + m.log2 - f.fractionBits) f.leastPlace = last)
    (hk : (last ≤ e ∧ k = m * 2 ^ (e - last).toNat) ∨ (e < last ∧ m = k * 2 ^ (last - e).toNat)) :
    f.nearest neg m e = f.word neg (min ((last - f.leastPlace).toNat * f.binade + k) f.infRung) := by
  unfold Format.nearest
  rw [if_neg hm]
  simp only [hlast]
  have : Toward.even.cut neg (m <<< (e - last).toNat) (last - e).toNat = k := by
    rcases hk with ⟨h1, h2⟩ | ⟨h1, h2⟩
    · have h0 : (last - e).toNat = 0 := by omega
      rw [h0, Nat.shiftLeft_eq, ← h2]
      have := cut_exact .even neg k 0 (.inr rfl)
      simpa using this
    · have h0 : (e - last).toNat = 0 := by omega
      rw [h0, Nat.shiftLeft_eq, h2]
      have hk0 : k ≠ 0 := by intro h; subst h; simp at h2; exact hm h2
      have := cut_exact .even neg k (last - e).toNat (.inl hk0)
      simpa using this
  rw [this]

/-- the significand of a whole number other than 0: its digits moved so that the first one stands at place 'fractionBits' -/
def sig (f : Format) (n : Nat) : Nat := n * 2 ^ f.fractionBits / 2 ^ n.log2
/-- the place of its last digit -/
def last (f : Format) (n : Nat) : Int := (n.log2 : Int) - f.fractionBits

theorem log2_le_of (f : Format) (n : Nat) (h0 : n ≠ 0) (h : n ≤ 2 ^ (f.fractionBits + 1)) : n.log2 ≤ f.fractionBits + 1 := by
  have a := Nat.log2_self_le h0
  have : 2 ^ n.log2 ≤ 2 ^ (f.fractionBits + 1) := Nat.le_trans a h
  exact (Nat.pow_le_pow_iff_right (by decide)).1 this

/-- a number of at most 2 ^ (fractionBits + 1) is written without loss -/
theorem sig_exact (f : Format) (n : Nat) (h0 : n ≠ 0) (h : n ≤ 2 ^ (f.fractionBits + 1)) : sig f n * 2 ^ n.log2 = n * 2 ^ f.fractionBits := by
  have hl := log2_le_of f n h0 h
  unfold sig
  refine Nat.div_mul_cancel ?_
  rcases Nat.lt_or_ge n.log2 (f.fractionBits + 1) with hlt | hge
  · exact Nat.dvd_trans (Nat.pow_dvd_pow 2 (by omega : n.log2 ≤ f.fractionBits)) (Nat.dvd_mul_left _ _)
  · have hL : n.log2 = f.fractionBits + 1 := by omega
    have a := Nat.log2_self_le h0
    rw [hL] at a
    have hn : n = 2 ^ (f.fractionBits + 1) := Nat.le_antisymm h a
    rw [hL, ← hn]
    exact Nat.dvd_mul_right _ _

theorem sig_bounds (f : Format) (n : Nat) (h0 : n ≠ 0) (h : n ≤ 2 ^ (f.fractionBits + 1)) : f.binade ≤ sig f n ∧ sig f n < 2 * f.binade := by
  have he := sig_exact f n h0 h
  have a := Nat.log2_self_le h0
  have b := @Nat.lt_log2_self n
  have hp : 0 < 2 ^ n.log2 := Nat.two_pow_pos _
  have hq : 0 < 2 ^ f.fractionBits := Nat.two_pow_pos _
  unfold Format.binade
  constructor
  · have : 2 ^ f.fractionBits * 2 ^ n.log2 ≤ sig f n * 2 ^ n.log2 := by
      rw [he, Nat.mul_comm]
      exact Nat.mul_le_mul_right _ a
    exact Nat.le_of_mul_le_mul_right this hp
  · refine Nat.lt_of_mul_lt_mul_right (a := 2 ^ n.log2) ?_
    rw [he]
    have : n * 2 ^ f.fractionBits < 2 ^ (n.log2 + 1) * 2 ^ f.fractionBits := Nat.mul_lt_mul_of_pos_right b hq
    refine Nat.lt_of_lt_of_eq this ?_
    rw [Nat.pow_succ, Nat.mul_comm 2 (2 ^ f.fractionBits), Nat.mul_assoc, Nat.mul_comm (2 ^ n.log2), Nat.mul_comm 2 (2 ^ f.fractionBits)]

/-- THE WORD OF A NUMBER THAT IS WHOLE, HOWEVER IT IS TOLD: m * 2 ^ e = n. -/
theorem nearest_whole {f : Format} (g : Good f) (neg : Bool) (m n : Nat) (e : Int) (B : Nat) (hB : 0 ≤ e + B) (hn : n ≤ 2 ^ (f.fractionBits + 1)) (h0 : n ≠ 0)
    (hv : m * 2 ^ (e + B).toNat = n * 2 ^ B) : f.nearest neg m e = f.word neg (min ((last f n - f.leastPlace).toNat * f.binade + sig f n) f.infRung) := by
  have hm : m ≠ 0 := by
    intro h; subst h
    have : n * 2 ^ B ≠ 0 := Nat.mul_ne_zero h0 (Nat.ne_of_gt (Nat.two_pow_pos B))
    omega
  have hL : (m.log2 : Int) + e = n.log2 := by
    have h1 := log2_mul_pow m (e + B).toNat hm
    have h2 := log2_mul_pow n B h0
    rw [hv] at h1
    omega
  have hx := sig_exact f n h0 hn
  have hlp := g.lp
  refine nearest_of f neg m (sig f n) e (last f n) hm ?_ ?_
  · unfold last; omega
  · -- both sides times 2 ^ (what makes all places positive)
    by_cases hle : last f n ≤ e
    · left
      refine ⟨hle, ?_⟩
      have key : sig f n * 2 ^ (n.log2 + B) = (m * 2 ^ (e - last f n).toNat) * 2 ^ (n.log2 + B) := by
        rw [Nat.pow_add, ← Nat.mul_assoc, hx, Nat.mul_assoc, Nat.mul_comm (2 ^ f.fractionBits), ← Nat.mul_assoc, ← hv]
        rw [Nat.mul_assoc, ← Nat.pow_add, Nat.mul_assoc, ← Nat.pow_add, ← Nat.pow_add]
        congr 2
        unfold last at *
        omega
      exact Nat.eq_of_mul_eq_mul_right (Nat.two_pow_pos _) key
    · right
      refine ⟨by omega, ?_⟩
      have key : m * 2 ^ (f.fractionBits + (e + B).toNat) = (sig f n * 2 ^ (last f n - e).toNat) * 2 ^ (f.fractionBits + (e + B).toNat) := by
        have : m * 2 ^ (f.fractionBits + (e + B).toNat) = sig f n * 2 ^ (n.log2 + B) := by
          rw [Nat.pow_add, Nat.mul_comm (2 ^ f.fractionBits), ← Nat.mul_assoc, hv, Nat.mul_assoc, Nat.mul_comm (2 ^ B), ← Nat.mul_assoc, ← hx, Nat.mul_assoc, ← Nat.pow_add]
        rw [this, Nat.mul_assoc, ← Nat.pow_add]
        congr 2
        unfold last at *
        omega
      exact Nat.eq_of_mul_eq_mul_right (Nat.two_pow_pos _) key

theorem enc_eq {f : Format} (g : Good f) (n : Int) (hn : n.natAbs ≤ 2 ^ (f.fractionBits + 1)) (h0 : n ≠ 0) :
    enc f n = f.word (decide (n < 0)) (min ((last f n.natAbs - f.leastPlace).toNat * f.binade + sig f n.natAbs) f.infRung) := by
  unfold enc Format.write
  exact nearest_whole g _ _ _ 0 0 (by omega) hn (by omega) (by simp)

/-- THE SAME WORD. -/
theorem write_whole {f : Format} (g : Good f) (m : Nat) (n : Int) (e : Int) (B : Nat) (hB : 0 ≤ e + B) (hn : n.natAbs ≤ 2 ^ (f.fractionBits + 1))
    (hv : m * 2 ^ (e + B).toNat = n.natAbs * 2 ^ B) : f.write (.number (decide (n < 0)) m e) = enc f n := by
  by_cases h0 : n = 0
  · subst h0
    have hm : m = 0 := by
      have : m * 2 ^ (e + B).toNat = 0 := by simpa using hv
      rcases Nat.mul_eq_zero.1 this with h | h
      · exact h
      · exact absurd h (Nat.ne_of_gt (Nat.two_pow_pos _))
    subst hm
    simp [enc, Format.write, Format.nearest]
  · rw [enc_eq g n hn h0]
    exact nearest_whole g _ _ _ e B hB hn (by omega) hv


/-- the word of the other zero -/
def negZero (f : Format) : Nat := f.signWeight

/-- 'x' IS A WORD OF THE WHOLE NUMBER n (of 0: either zero) -/
def Rep (f : Format) (x : Nat) (n : Int) : Prop := x = enc f n ∨ (n = 0 ∧ x = negZero f)

theorem Rep.enc (f : Format) (n : Int) : Rep f (enc f n) n := .inl rfl

theorem rung_lt {f : Format} (g : Good f) (n : Nat) (h0 : n ≠ 0) (hn : n ≤ 2 ^ (f.fractionBits + 1)) :
    (last f n - f.leastPlace).toNat * f.binade + sig f n < f.infRung ∧ f.binade ≤ (last f n - f.leastPlace).toNat * f.binade + sig f n := by
  obtain ⟨s1, s2⟩ := sig_bounds f n h0 hn
  have hl := log2_le_of f n h0 hn
  have hlp := g.lp
  have hr := g.room
  constructor
  · unfold Format.infRung
    have hk : (last f n - f.leastPlace).toNat + 2 ≤ 2 ^ f.exponentBits - 1 := by
      have h1 : ((2 ^ f.exponentBits : Nat) : Int) = 2 ^ f.exponentBits := by norm_cast
      unfold last
      omega
    have := Nat.mul_le_mul_right f.binade hk
    rw [Nat.add_mul] at this
    omega
  · omega

theorem word_read (f : Format) (neg : Bool) (r : Nat) (h : r < f.signWeight) : (f.word neg r / f.signWeight % 2 == 1) = neg ∧ f.word neg r % f.signWeight = r := by
  unfold Format.word
  cases neg
  · simp [Nat.div_eq_of_lt h, Nat.mod_eq_of_lt h]
  · have hp : 0 < f.signWeight := Nat.lt_of_le_of_lt (Nat.zero_le _) h
    simp [Nat.add_div_left _ hp, Nat.div_eq_of_lt h, Nat.mod_eq_of_lt h]

theorem read_word_normal (f : Format) (neg : Bool) (k s : Nat) (hs1 : f.binade ≤ s) (hs2 : s < 2 * f.binade) (h : k * f.binade + s < f.infRung) :
    f.read (f.word neg (k * f.binade + s)) = .number neg s (f.leastPlace + k) := by
  have hw := word_read f neg (k * f.binade + s) (Nat.lt_trans h f.infRung_lt)
  unfold Format.read
  simp only [hw.1, hw.2]
  rw [if_neg (by omega), if_pos h]
  have hb : 0 < f.binade := Nat.two_pow_pos _
  have e1 : k * f.binade + s = (s - f.binade) + f.binade * (k + 1) := by
    rw [Nat.mul_add, Nat.mul_comm f.binade k]; omega
  have e2 : (k * f.binade + s) % f.binade = s - f.binade := by
    rw [e1, Nat.add_mul_mod_self_left, Nat.mod_eq_of_lt (by omega)]
  have e3 : (k * f.binade + s) / f.binade = k + 1 := by
    rw [e1, Nat.add_mul_div_left _ _ hb, Nat.div_eq_of_lt (by omega)]; omega
  rw [e2, e3]
  congr 1
  · omega

/-- WHAT THE WORD OF A WHOLE NUMBER READS AS -/
theorem read_enc {f : Format} (g : Good f) (n : Int) (hn : n.natAbs ≤ 2 ^ (f.fractionBits + 1)) (h0 : n ≠ 0) :
    f.read (enc f n) = .number (decide (n < 0)) (sig f n.natAbs) (last f n.natAbs) := by
  have h0' : n.natAbs ≠ 0 := by omega
  obtain ⟨h1, h2⟩ := rung_lt g n.natAbs h0' hn
  obtain ⟨s1, s2⟩ := sig_bounds f n.natAbs h0' hn
  rw [enc_eq g n hn h0, Nat.min_eq_left (Nat.le_of_lt h1), read_word_normal f _ _ _ s1 s2 h1]
  have hlp := g.lp
  congr 1
  unfold last
  omega

theorem signWeight_pos (f : Format) : 0 < f.signWeight := Nat.two_pow_pos _
theorem binade_pos (f : Format) : 0 < f.binade := Nat.two_pow_pos _

theorem enc_zero (f : Format) : enc f 0 = 0 := by
  simp [enc, Format.write, Format.nearest, Format.word]

theorem read_zero (f : Format) : f.read (enc f 0) = .number false 0 f.leastPlace := by
  rw [enc_zero]
  unfold Format.read
  simp [Nat.zero_mod, Nat.zero_div, binade_pos]

theorem read_negZero (f : Format) : f.read (negZero f) = .number true 0 f.leastPlace := by
  have h := word_read f true 0 (signWeight_pos f)
  have e : f.word true 0 = negZero f := by simp [Format.word, negZero]
  rw [e] at h
  unfold Format.read
  simp only [h.1, h.2]
  rw [if_pos (binade_pos f)]

/-- A WORD OF n READS AS SOME (s, m, e) WITH m * 2 ^ e = n, in the least place's terms. -/
structure Reads (f : Format) (d : Datum) (n : Int) (s : Bool) (m : Nat) (e : Int) : Prop where
  eq : d = .number s m e
  val : m * 2 ^ (e - f.leastPlace).toNat = n.natAbs * 2 ^ (- f.leastPlace).toNat
  place : f.leastPlace ≤ e
  sign : n ≠ 0 → s = decide (n < 0)

theorem rep_reads {f : Format} (g : Good f) {x : Nat} {n : Int} (h : Rep f x n) (hn : n.natAbs ≤ 2 ^ (f.fractionBits + 1)) :
    ∃ s m e, Reads f (f.read x) n s m e ∧ (x = enc f n → s = decide (n < 0)) := by
  by_cases h0 : n = 0
  · subst h0
    rcases h with h | ⟨-, h⟩
    · subst h
      exact ⟨false, 0, f.leastPlace, ⟨read_zero f, by simp, Int.le_refl _, fun h => absurd rfl h⟩, fun _ => rfl⟩
    · subst h
      refine ⟨true, 0, f.leastPlace, ⟨read_negZero f, by simp, Int.le_refl _, fun h => absurd rfl h⟩, fun h => ?_⟩
      rw [enc_zero] at h
      have := signWeight_pos f
      unfold negZero at h
      omega
  · rcases h with h | ⟨h, -⟩
    · subst h
      refine ⟨_, _, _, ⟨read_enc g n hn h0, ?_, ?_, fun _ => rfl⟩, fun _ => rfl⟩
      · have hx := sig_exact f n.natAbs (by omega) hn
        have hlp := g.lp
        have : sig f n.natAbs * 2 ^ (last f n.natAbs - f.leastPlace).toNat * 2 ^ f.fractionBits = n.natAbs * 2 ^ (-f.leastPlace).toNat * 2 ^ f.fractionBits := by
          rw [Nat.mul_assoc, ← Nat.pow_add, Nat.mul_assoc, Nat.mul_comm (2 ^ (-f.leastPlace).toNat), ← Nat.mul_assoc, ← hx, Nat.mul_assoc, ← Nat.pow_add]
          congr 2
          unfold last
          omega
        exact Nat.eq_of_mul_eq_mul_right (Nat.two_pow_pos _) this
      · have hlp := g.lp
        unfold last; omega
    · exact absurd h h0


theorem signed_val (s : Bool) (m up : Nat) : signed s m up = (if s then -1 else 1) * ((m * 2 ^ up : Nat) : Int) := by
  unfold signed
  rw [Nat.shiftLeft_eq]
  cases s <;> simp

/-- a number's digits, from a common last place 'base' on -/
theorem signed_reads {f : Format} {d : Datum} {n : Int} {s : Bool} {m : Nat} {e base : Int} (h : Reads f d n s m e) (hb : base ≤ e) (hl : f.leastPlace ≤ base) :
    signed s m (e - base).toNat * ((2 ^ (base - f.leastPlace).toNat : Nat) : Int) = n * ((2 ^ (- f.leastPlace).toNat : Nat) : Int) := by
  rw [signed_val, Int.mul_assoc, ← Int.natCast_mul, Nat.mul_assoc, ← Nat.pow_add]
  have : (e - base).toNat + (base - f.leastPlace).toNat = (e - f.leastPlace).toNat := by omega
  rw [this, h.val, Int.natCast_mul, ← Int.mul_assoc]
  congr 1
  by_cases h0 : n = 0
  · subst h0; simp
  · rw [h.sign h0]
    by_cases hn : n < 0
    · simp only [hn, decide_true, if_true]; omega
    · simp only [hn, decide_false, Bool.false_eq_true, if_false]; omega

theorem pow_cast_pos (k : Nat) : (0 : Int) < ((2 ^ k : Nat) : Int) := by
  have := Nat.two_pow_pos k
  omega

theorem write_zero (f : Format) (s : Bool) (e : Int) : f.write (.number s 0 e) = f.word s 0 := by
  simp [Format.write, Format.nearest]
theorem word_true (f : Format) : f.word true 0 = negZero f := by simp [Format.word, negZero]
theorem word_false (f : Format) : f.word false 0 = enc f 0 := by rw [enc_zero]; simp [Format.word]
theorem rep_zero (f : Format) (s : Bool) (e : Int) : Rep f (f.write (.number s 0 e)) 0 := by
  rw [write_zero]
  cases s
  · exact .inl (word_false f)
  · exact .inr ⟨rfl, word_true f⟩

theorem natAbs_of_scaled {t n : Int} {p q : Nat} (h : t * ((2 ^ p : Nat) : Int) = n * ((2 ^ q : Nat) : Int)) : t.natAbs * 2 ^ p = n.natAbs * 2 ^ q ∧ (t < 0 ↔ n < 0) ∧ (t = 0 ↔ n = 0) := by
  have hp := pow_cast_pos p
  have hq := pow_cast_pos q
  refine ⟨?_, ?_, ?_⟩
  · have := congrArg Int.natAbs h
    rw [Int.natAbs_mul, Int.natAbs_mul] at this
    simpa only [Int.natAbs_natCast] using this
  · constructor
    · intro h1
      have h2 := Int.mul_neg_of_neg_of_pos h1 hp
      rw [h] at h2
      exact Int.neg_of_mul_neg_left h2 (by omega)
    · intro h1
      have h2 := Int.mul_neg_of_neg_of_pos h1 hq
      rw [← h] at h2
      exact Int.neg_of_mul_neg_left h2 (by omega)
  · constructor
    · intro h1; subst h1
      rw [Int.zero_mul] at h
      rcases Int.mul_eq_zero.1 h.symm with h | h
      · exact h
      · omega
    · intro h1; subst h1
      rw [Int.zero_mul] at h
      rcases Int.mul_eq_zero.1 h with h | h
      · exact h
      · omega

/-- the sum of two data that stand for whole numbers, written -/
theorem sum_reads {f : Format} (g : Good f) {d1 d2 : Datum} {a b : Int} {s t : Bool} {m n : Nat} {i j : Int} (h1 : Reads f d1 a s m i) (h2 : Reads f d2 b t n j)
    (hab : (a + b).natAbs ≤ 2 ^ (f.fractionBits + 1)) :
    ∃ d, d1.sum d2 = some d ∧ Rep f (f.write d) (a + b) ∧ ((s = false ∨ t = false) → f.write d = enc f (a + b)) := by
  have e1 := h1.eq; have e2 := h2.eq
  subst e1 e2
  have hmin : f.leastPlace ≤ min i j := by have := h1.place; have := h2.place; omega
  have k1 := signed_reads h1 (base := min i j) (by omega) hmin
  have k2 := signed_reads h2 (base := min i j) (by omega) hmin
  refine ⟨_, rfl, ?_⟩
  obtain ⟨total, htot⟩ : ∃ total, total = signed s m (i - min i j).toNat + signed t n (j - min i j).toNat := ⟨_, rfl⟩
  have hsc : total * ((2 ^ (min i j - f.leastPlace).toNat : Nat) : Int) = (a + b) * ((2 ^ (- f.leastPlace).toNat : Nat) : Int) := by
    rw [htot, Int.add_mul, k1, k2, Int.add_mul]
  obtain ⟨v1, v2, v3⟩ := natAbs_of_scaled hsc
  rw [← htot]
  by_cases hz : a + b = 0
  · have ht := v3.2 hz
    rw [ht, hz]
    refine ⟨rep_zero f _ _, fun hs => ?_⟩
    simp only [if_true, Int.natAbs_zero, write_zero]
    have : (s && t) = false := by rcases hs with h | h <;> simp [h]
    rw [this]; exact word_false f
  · have ht : total ≠ 0 := fun h => hz (v3.1 h)
    have hsign : decide (total < 0) = decide (a + b < 0) := by simp only [v2]
    have hlp := g.lp
    have : f.write (.number (decide (a + b < 0)) total.natAbs (min i j)) = enc f (a + b) := by
      refine write_whole g total.natAbs (a + b) (min i j) (- f.leastPlace).toNat (by omega) hab ?_
      rw [show (min i j + ((- f.leastPlace).toNat : Int)).toNat = (min i j - f.leastPlace).toNat from by omega]
      exact v1
    rw [if_neg ht, hsign, this]
    exact ⟨.inl rfl, fun _ => rfl⟩

/-- '+' -/
theorem add_rep {f : Format} (g : Good f) {x y : Nat} {a b : Int} (hx : Rep f x a) (hy : Rep f y b) (ha : a.natAbs ≤ 2 ^ (f.fractionBits + 1)) (hb : b.natAbs ≤ 2 ^ (f.fractionBits + 1))
    (hab : (a + b).natAbs ≤ 2 ^ (f.fractionBits + 1)) : ∃ r, f.add x y = some r ∧ Rep f r (a + b) ∧ ((x = enc f a ∧ 0 ≤ a ∨ y = enc f b ∧ 0 ≤ b) → r = enc f (a + b)) := by
  obtain ⟨s, m, i, r1, q1⟩ := rep_reads g hx ha
  obtain ⟨t, n, j, r2, q2⟩ := rep_reads g hy hb
  obtain ⟨d, h1, h2, h3⟩ := sum_reads g r1 r2 hab
  refine ⟨f.write d, by simp [Format.add, h1], h2, fun h => h3 ?_⟩
  rcases h with ⟨h, h'⟩ | ⟨h, h'⟩
  · left; rw [q1 h]; simp; omega
  · right; rw [q2 h]; simp; omega

theorem opposite_reads {f : Format} {d : Datum} {n : Int} {s : Bool} {m : Nat} {e : Int} (h : Reads f d n s m e) : Reads f d.opposite (-n) (!s) m e := by
  have he := h.eq
  subst he
  refine ⟨rfl, ?_, h.place, fun h0 => ?_⟩
  · rw [Int.natAbs_neg]; exact h.val
  · have : n ≠ 0 := by omega
    rw [h.sign this]
    by_cases hn : n < 0
    · simp [hn]; omega
    · simp [hn]; omega

/-- '-' -/
theorem sub_rep {f : Format} (g : Good f) {x y : Nat} {a b : Int} (hx : Rep f x a) (hy : Rep f y b) (ha : a.natAbs ≤ 2 ^ (f.fractionBits + 1)) (hb : b.natAbs ≤ 2 ^ (f.fractionBits + 1))
    (hab : (a - b).natAbs ≤ 2 ^ (f.fractionBits + 1)) : ∃ r, f.sub x y = some r ∧ Rep f r (a - b) ∧ ((x = enc f a ∧ 0 ≤ a) → r = enc f (a - b)) := by
  obtain ⟨s, m, i, r1, q1⟩ := rep_reads g hx ha
  obtain ⟨t, n, j, r2, q2⟩ := rep_reads g hy hb
  obtain ⟨d, h1, h2, h3⟩ := sum_reads g r1 (opposite_reads r2) (by rw [← Int.sub_eq_add_neg]; exact hab)
  rw [← Int.sub_eq_add_neg] at h2 h3
  refine ⟨f.write d, by simp [Format.sub, h1], h2, fun h => h3 ?_⟩
  left; rw [q1 h.1]; simp; omega

/-- '*' -/
theorem mul_rep {f : Format} (g : Good f) {x y : Nat} {a b : Int} (hx : Rep f x a) (hy : Rep f y b) (ha : a.natAbs ≤ 2 ^ (f.fractionBits + 1)) (hb : b.natAbs ≤ 2 ^ (f.fractionBits + 1))
    (hab : (a * b).natAbs ≤ 2 ^ (f.fractionBits + 1)) : ∃ r, f.mul x y = some r ∧ Rep f r (a * b) := by
  obtain ⟨s, m, i, r1, q1⟩ := rep_reads g hx ha
  obtain ⟨t, n, j, r2, q2⟩ := rep_reads g hy hb
  have hlp := g.lp
  refine ⟨f.write (.number (s ^^ t) (m * n) (i + j)), by simp only [Format.mul, r1.eq, r2.eq, Datum.product, Option.map_some], ?_⟩
  have hval : (m * n) * 2 ^ (i + j + (((- f.leastPlace).toNat + (- f.leastPlace).toNat : Nat) : Int)).toNat = (a * b).natAbs * 2 ^ ((- f.leastPlace).toNat + (- f.leastPlace).toNat) := by
    have p1 := r1.place; have p2 := r2.place
    rw [show (i + j + (((- f.leastPlace).toNat + (- f.leastPlace).toNat : Nat) : Int)).toNat = (i - f.leastPlace).toNat + (j - f.leastPlace).toNat from by omega]
    rw [Nat.pow_add, Int.natAbs_mul, Nat.pow_add]
    have := congr (congrArg HMul.hMul r1.val) r2.val
    simp only [Nat.mul_assoc, Nat.mul_comm, Nat.mul_left_comm] at this ⊢
    exact this
  by_cases h0 : a * b = 0
  · rw [h0] at hval ⊢
    have hm : m * n = 0 := by
      simp only [Int.natAbs_zero, Nat.zero_mul] at hval
      rcases Nat.mul_eq_zero.1 hval with h | h
      · exact h
      · exact absurd h (Nat.ne_of_gt (Nat.two_pow_pos _))
    rw [hm]; exact rep_zero f _ _
  · have ha0 : a ≠ 0 := by intro h; subst h; simp at h0
    have hb0 : b ≠ 0 := by intro h; subst h; simp at h0
    have hs : (s ^^ t) = decide (a * b < 0) := by
      rw [r1.sign ha0, r2.sign hb0]
      rcases Int.lt_or_gt_of_ne ha0 with h1 | h1 <;> rcases Int.lt_or_gt_of_ne hb0 with h2 | h2
      · have := Int.mul_pos_of_neg_of_neg h1 h2; simp [h1, h2]; omega
      · have := Int.mul_neg_of_neg_of_pos h1 h2; simp [h1, this]; omega
      · have := Int.mul_neg_of_pos_of_neg h1 h2; simp [h2, this]; omega
      · have := Int.mul_pos h1 h2; rw [show decide (a < 0) = false from by simp; omega, show decide (b < 0) = false from by simp; omega]; simp; omega
    rw [hs]
    exact .inl (write_whole g _ (a * b) (i + j) _ (by have p1 := r1.place; have p2 := r2.place; omega) hab hval)

/-- COMPARISONS -/
theorem order_rep {f : Format} (g : Good f) {x y : Nat} {a b : Int} (hx : Rep f x a) (hy : Rep f y b) (ha : a.natAbs ≤ 2 ^ (f.fractionBits + 1)) (hb : b.natAbs ≤ 2 ^ (f.fractionBits + 1)) :
    f.order x y = some (compare a b) := by
  obtain ⟨s, m, i, r1, q1⟩ := rep_reads g hx ha
  obtain ⟨t, n, j, r2, q2⟩ := rep_reads g hy hb
  have hmin : f.leastPlace ≤ min i j := by have := r1.place; have := r2.place; omega
  have k1 := signed_reads r1 (base := min i j) (by omega) hmin
  have k2 := signed_reads r2 (base := min i j) (by omega) hmin
  simp only [Format.order, r1.eq, r2.eq, Datum.order]
  congr 1
  generalize signed s m (i - min i j).toNat = u at *
  generalize signed t n (j - min i j).toNat = v at *
  have hp := pow_cast_pos (min i j - f.leastPlace).toNat
  have hq := pow_cast_pos (- f.leastPlace).toNat
  generalize ((2 ^ (min i j - f.leastPlace).toNat : Nat) : Int) = P at *
  generalize ((2 ^ (- f.leastPlace).toNat : Nat) : Int) = Q at *
  simp only [compare, compareOfLessAndEq]
  have l1 : u < v ↔ a < b := by
    constructor
    · intro h
      have := Int.mul_lt_mul_of_pos_right h hp
      rw [k1, k2] at this
      exact Int.lt_of_mul_lt_mul_right this (by omega)
    · intro h
      have := Int.mul_lt_mul_of_pos_right h hq
      rw [← k1, ← k2] at this
      exact Int.lt_of_mul_lt_mul_right this (by omega)
  have l2 : u = v ↔ a = b := by
    constructor
    · intro h; subst h
      rw [k1] at k2
      exact Int.eq_of_mul_eq_mul_right (by omega) k2
    · intro h; subst h
      rw [← k1] at k2
      exact (Int.eq_of_mul_eq_mul_right (by omega) k2).symm
  simp only [l1, l2]

/-- int(x) -/
theorem toInt_rep {f : Format} (g : Good f) {x : Nat} {a : Int} (hx : Rep f x a) (ha : a.natAbs ≤ 2 ^ (f.fractionBits + 1)) (way : Toward) : (f.read x).toInt way = some a := by
  obtain ⟨s, m, i, r1, q1⟩ := rep_reads g hx ha
  have hlp := g.lp
  have hp1 := r1.place
  simp only [Datum.toInt, r1.eq, Datum.integral]
  have hcut : way.cut s (m <<< i.toNat) (-i).toNat = a.natAbs := by
    by_cases h0 : a = 0
    · subst h0
      have hm : m = 0 := by
        have := r1.val
        simp only [Int.natAbs_zero, Nat.zero_mul] at this
        rcases Nat.mul_eq_zero.1 this with h | h
        · exact h
        · exact absurd h (Nat.ne_of_gt (Nat.two_pow_pos _))
      subst hm
      unfold Toward.cut
      have : ¬ (1 : Nat) <<< min (-i).toNat 2 = 0 := by rw [Nat.shiftLeft_eq, Nat.one_mul]; exact Nat.ne_of_gt (Nat.two_pow_pos _)
      cases way <;> simp [Nat.zero_div, Nat.zero_mod]
    · by_cases hi : 0 ≤ i
      · have h1 : (-i).toNat = 0 := by omega
        rw [h1, Nat.shiftLeft_eq]
        have hv : m * 2 ^ i.toNat = a.natAbs := by
          have := r1.val
          rw [show (i - f.leastPlace).toNat = i.toNat + (-f.leastPlace).toNat from by omega, Nat.pow_add, ← Nat.mul_assoc] at this
          exact Nat.eq_of_mul_eq_mul_right (Nat.two_pow_pos _) this
        rw [hv]
        have := cut_exact way s a.natAbs 0 (.inr rfl)
        simpa using this
      · have h1 : i.toNat = 0 := by omega
        have hv : m = a.natAbs * 2 ^ (-i).toNat := by
          have := r1.val
          rw [show (-f.leastPlace).toNat = (-i).toNat + (i - f.leastPlace).toNat from by omega, Nat.pow_add, ← Nat.mul_assoc] at this
          exact Nat.eq_of_mul_eq_mul_right (Nat.two_pow_pos _) this
        rw [h1, Nat.shiftLeft_eq, Nat.pow_zero, Nat.mul_one, hv]
        exact cut_exact way s a.natAbs _ (.inl (by omega))
  rw [hcut]
  congr 1
  rw [signed_val]
  by_cases h0 : a = 0
  · subst h0; simp
  · rw [r1.sign h0]
    by_cases hn : a < 0
    · simp [hn]; omega
    · simp [hn]; omega


theorem pow_add_xor (k r : Nat) (h : r < 2 ^ k) : (2 ^ k + r) ^^^ 2 ^ k = r := by
  apply Nat.eq_of_testBit_eq
  intro i
  rw [Nat.testBit_xor]
  rcases Nat.lt_trichotomy i k with h1 | h1 | h1
  · rw [Nat.testBit_two_pow_add_gt h1, Nat.testBit_two_pow_of_ne (by omega)]; simp
  · subst h1
    rw [Nat.testBit_two_pow_add_eq, Nat.testBit_lt_two_pow h, Nat.testBit_two_pow_self]; rfl
  · have h2 : 2 ^ k + r < 2 ^ i := by
      have : 2 ^ (k + 1) ≤ 2 ^ i := Nat.pow_le_pow_right (by decide) h1
      rw [Nat.pow_succ] at this; omega
    rw [Nat.testBit_lt_two_pow h2, Nat.testBit_two_pow_of_ne (by omega), Nat.testBit_lt_two_pow (by omega : r < 2 ^ i)]; rfl

theorem xor_pow (k r : Nat) (h : r < 2 ^ k) : r ^^^ 2 ^ k = 2 ^ k + r := by
  have := congrArg (· ^^^ 2 ^ k) (pow_add_xor k r h)
  simp only [Nat.xor_assoc, Nat.xor_self, Nat.xor_zero] at this
  exact this.symm

theorem word_xor (f : Format) (neg : Bool) (r : Nat) (h : r < f.signWeight) : f.word neg r ^^^ 2 ^ (f.exponentBits + f.fractionBits) = f.word (!neg) r := by
  unfold Format.word Format.signWeight at *
  cases neg
  · simp only [Bool.false_eq_true, if_false, Bool.not_false, if_true]; exact xor_pow _ _ h
  · simp only [if_true, Bool.not_true, Bool.false_eq_true, if_false]; exact pow_add_xor _ _ h

/-- every word of n: its sign and its rung -/
theorem rep_word {f : Format} (g : Good f) {x : Nat} {n : Int} (h : Rep f x n) (hn : n.natAbs ≤ 2 ^ (f.fractionBits + 1)) :
    ∃ s r, r < f.signWeight ∧ x = f.word s r ∧ (x = enc f n → s = decide (n < 0)) ∧ f.word (decide (n < 0)) r = enc f n ∧ (n ≠ 0 → s = decide (n < 0)) ∧ (n = 0 ↔ r = 0) ∧ enc f (-n) = f.word (decide (-n < 0)) r := by
  by_cases h0 : n = 0
  · subst h0
    rcases h with h | ⟨-, h⟩
    · exact ⟨false, 0, signWeight_pos f, by rw [h, word_false], fun _ => rfl, by simpa using word_false f, fun h => absurd rfl h, by simp, by simpa using (word_false f).symm⟩
    · refine ⟨true, 0, signWeight_pos f, by rw [h, word_true], fun h' => ?_, by simpa using word_false f, fun h => absurd rfl h, by simp, by simpa using (word_false f).symm⟩
      rw [enc_zero] at h'
      have := signWeight_pos f
      unfold negZero at h
      omega
  · rcases h with h | ⟨h, -⟩
    · obtain ⟨h1, h2⟩ := rung_lt g n.natAbs (by omega) hn
      have e1 := enc_eq g n hn h0
      rw [Nat.min_eq_left (Nat.le_of_lt h1)] at e1
      have e2 := enc_eq g (-n) (by rw [Int.natAbs_neg]; exact hn) (by omega)
      rw [Int.natAbs_neg, Nat.min_eq_left (Nat.le_of_lt h1)] at e2
      have hb := binade_pos f
      exact ⟨_, _, Nat.lt_trans h1 f.infRung_lt, h.trans e1, fun _ => rfl, e1.symm, fun _ => rfl, ⟨fun h => absurd h h0, fun h => by omega⟩, e2⟩
    · exact absurd h h0

/-- '-x' -/
theorem neg_rep {k : FloatKind} (g : Good k.format) {x : Nat} {n : Int} (h : Rep k.format x n) (hn : n.natAbs ≤ 2 ^ (k.format.fractionBits + 1)) :
    Rep k.format (Op.negFloat k x) (-n) := by
  obtain ⟨s, r, hr, hx, -, e1, e2, e3, e4⟩ := rep_word g h hn
  unfold Op.negFloat
  rw [hx, word_xor _ _ _ hr]
  by_cases h0 : n = 0
  · subst h0
    have : r = 0 := e3.1 rfl
    subst this
    cases s
    · exact .inr ⟨rfl, word_true _⟩
    · exact .inl (word_false _)
  · left
    rw [e4, e2 h0]
    congr 1
    by_cases hn : n < 0
    · simp [hn]; omega
    · simp [hn]; omega

/-- the sign taken away: math.Abs -/
theorem abs_rep {f : Format} (g : Good f) {x : Nat} {n : Int} (h : Rep f x n) (hn : n.natAbs ≤ 2 ^ (f.fractionBits + 1)) :
    x % f.signWeight = enc f (n.natAbs : Int) := by
  obtain ⟨s, r, hr, hx, -, e1, e2, e3, e4⟩ := rep_word g h hn
  rw [hx, (word_read f s r hr).2]
  by_cases h0 : n < 0
  · have : ((n.natAbs : Nat) : Int) = -n := by omega
    rw [this, e4, show decide (-n < 0) = false from by simp; omega]
    simp [Format.word]
  · have : ((n.natAbs : Nat) : Int) = n := by omega
    rw [this, ← e1, show decide (n < 0) = false from by simp; omega]
    simp [Format.word]

theorem rep_lt {f : Format} {x : Nat} {n : Int} (h : Rep f x n) : x < 2 ^ f.width := by
  rcases h with h | ⟨-, h⟩
  · rw [h]; exact f.write_lt _
  · rw [h, ← word_true]; exact f.word_lt true (signWeight_pos f)

theorem not_inf {f : Format} (g : Good f) {x : Nat} {n : Int} (h : Rep f x n) (hn : n.natAbs ≤ 2 ^ (f.fractionBits + 1)) : (f.read x).isInfinity = false := by
  obtain ⟨s, m, e, r, -⟩ := rep_reads g h hn
  rw [r.eq]; rfl

/-- from one format into another -/
theorem conv_rep {f f' : Format} (g : Good f) (g' : Good f') {x : Nat} {n : Int} (h : Rep f x n) (hn : n.natAbs ≤ 2 ^ (f.fractionBits + 1)) (hn' : n.natAbs ≤ 2 ^ (f'.fractionBits + 1)) :
    ∃ s m e, f.read x = .number s m e ∧ Rep f' (f'.write (.number s m e)) n ∧ (x = enc f n → f'.write (.number s m e) = enc f' n) := by
  obtain ⟨s, m, e, r, q⟩ := rep_reads g h hn
  refine ⟨s, m, e, r.eq, ?_⟩
  by_cases h0 : n = 0
  · subst h0
    have hm : m = 0 := by
      have := r.val
      simp only [Int.natAbs_zero, Nat.zero_mul] at this
      rcases Nat.mul_eq_zero.1 this with h | h
      · exact h
      · exact absurd h (Nat.ne_of_gt (Nat.two_pow_pos _))
    subst hm
    refine ⟨rep_zero _ _ _, fun hx => ?_⟩
    rw [q hx, write_zero]
    simpa using word_false f'
  · have hp := r.place
    have hlp := g.lp
    have : f'.write (.number s m e) = enc f' n := by
      rw [r.sign h0]
      refine write_whole g' m n e (- f.leastPlace).toNat (by omega) hn' ?_
      rw [show (e + ((- f.leastPlace).toNat : Int)).toNat = (e - f.leastPlace).toNat from by omega]
      exact r.val
    exact ⟨.inl this, fun _ => this⟩

/-- 'float64(x)' of a float32 and its opposite, as the model has it -/
theorem floatToFloat_rep {k k' : FloatKind} (g : Good k.format) (g' : Good k'.format) {x : Nat} {n : Int} (h : Rep k.format x n)
    (hn : n.natAbs ≤ 2 ^ (k.format.fractionBits + 1)) (hn' : n.natAbs ≤ 2 ^ (k'.format.fractionBits + 1)) :
    ∃ r, floatToFloatBits k x k' = some r ∧ Rep k'.format r n ∧ (x = enc k.format n → r = enc k'.format n) := by
  unfold floatToFloatBits
  by_cases hk : k = k'
  · subst hk; rw [if_pos rfl]; exact ⟨x, rfl, h, id⟩
  · rw [if_neg hk]
    obtain ⟨s, m, e, h1, h2, h3⟩ := conv_rep g g' h hn hn'
    refine ⟨k'.format.write (.number s m e), ?_, h2, h3⟩
    unfold FloatKind.decode FloatKind.encode
    rw [h1]
    have := not_inf g' h2 hn'
    simp [this]

theorem good (k : FloatKind) : Good k.format := by cases k; exact good_single; exact good_double

theorem floatOfInt_enc (k : FloatKind) (n : Int) : floatOfInt k n = enc k.format n := rfl
theorem nearest_enc (k : FloatKind) (n : Int) : k.nearest n = enc k.format n := rfl


theorem order_reads {f : Format} {x y : Nat} {a b : Int} {s t : Bool} {m n : Nat} {i j : Int} (r1 : Reads f (f.read x) a s m i) (r2 : Reads f (f.read y) b t n j) :
    f.order x y = some (compare a b) := by
  have hmin : f.leastPlace ≤ min i j := by have := r1.place; have := r2.place; omega
  have k1 := signed_reads r1 (base := min i j) (by omega) hmin
  have k2 := signed_reads r2 (base := min i j) (by omega) hmin
  simp only [Format.order, r1.eq, r2.eq, Datum.order]
  congr 1
  generalize signed s m (i - min i j).toNat = u at *
  generalize signed t n (j - min i j).toNat = v at *
  have hp := pow_cast_pos (min i j - f.leastPlace).toNat
  have hq := pow_cast_pos (- f.leastPlace).toNat
  generalize ((2 ^ (min i j - f.leastPlace).toNat : Nat) : Int) = P at *
  generalize ((2 ^ (- f.leastPlace).toNat : Nat) : Int) = Q at *
  simp only [compare, compareOfLessAndEq]
  have l1 : u < v ↔ a < b := by
    constructor
    · intro h
      have := Int.mul_lt_mul_of_pos_right h hp
      rw [k1, k2] at this
      exact Int.lt_of_mul_lt_mul_right this (by omega)
    · intro h
      have := Int.mul_lt_mul_of_pos_right h hq
      rw [← k1, ← k2] at this
      exact Int.lt_of_mul_lt_mul_right this (by omega)
  have l2 : u = v ↔ a = b := by
    constructor
    · intro h; subst h
      rw [k1] at k2
      exact Int.eq_of_mul_eq_mul_right (by omega) k2
    · intro h; subst h
      rw [← k1] at k2
      exact (Int.eq_of_mul_eq_mul_right (by omega) k2).symm
  simp only [l1, l2]

/-- every word: its sign, its rung, and what it reads as -/
theorem word_cases (f : Format) (x : Nat) : ∃ s r, r < f.signWeight ∧ x % (2 * f.signWeight) = f.word s r ∧ f.read x = f.read (f.word s r) ∧ x % f.signWeight = r := by
  have hp := signWeight_pos f
  refine ⟨x / f.signWeight % 2 == 1, x % f.signWeight, Nat.mod_lt _ hp, ?_, ?_, rfl⟩
  · rw [Nat.mul_comm, Nat.mod_mul]
    unfold Format.word
    rcases Nat.mod_two_eq_zero_or_one (x / f.signWeight) with h | h
    · simp [h]
    · simp [h, Nat.add_comm]
  · have hw := word_read f (x / f.signWeight % 2 == 1) (x % f.signWeight) (Nat.mod_lt _ hp)
    unfold Format.read
    simp only [hw.1, hw.2]

/-- what the word of a sign and a rung reads as -/
theorem read_word (f : Format) (s : Bool) (r : Nat) (h : r < f.signWeight) : f.read (f.word s r) =
    (if r < f.binade then .number s r f.leastPlace
     else if r < f.infRung then .number s (f.binade + r % f.binade) (f.leastPlace + (r / f.binade - 1 : Nat))
     else if r = f.infRung then .infinity s else .nan s (r - f.infRung)) := by
  have hw := word_read f s r h
  unfold Format.read
  simp only [hw.1, hw.2]

theorem number_place {f : Format} {x : Nat} {s : Bool} {m : Nat} {e : Int} (h : f.read x = .number s m e) : f.leastPlace ≤ e ∧ m < 2 * f.binade := by
  obtain ⟨t, r, hr, -, hx, -⟩ := word_cases f x
  have hb := binade_pos f
  rw [hx, read_word f t r hr] at h
  split at h
  · cases h; omega
  · split at h
    · cases h
      have := Nat.mod_lt r hb
      omega
    · split at h <;> cases h

/-- without its sign -/
theorem read_abs {f : Format} {x : Nat} {s : Bool} {m : Nat} {e : Int} (h : f.read x = .number s m e) : f.read (x % f.signWeight) = .number false m e := by
  obtain ⟨t, r, hr, -, hx, hm⟩ := word_cases f x
  rw [hx, read_word f t r hr] at h
  have e0 : x % f.signWeight = f.word false r := by rw [hm]; simp [Format.word]
  rw [e0, read_word f false r hr]
  split at h
  · rename_i h1; rw [if_pos h1]; cases h; rfl
  · rename_i h1
    rw [if_neg h1]
    split at h
    · rename_i h2; rw [if_pos h2]; cases h; rfl
    · split at h <;> cases h

/-- THE WHOLE NUMBER THAT A WORD STANDS FOR, if it stands for one -/
def wv (f : Format) (x : Nat) : Option Int :=
  match f.read x with
  | .number s m e =>
    if 0 ≤ e then some ((if s then -1 else 1) * ((m * 2 ^ e.toNat : Nat) : Int))
    else if m % 2 ^ (-e).toNat = 0 then some ((if s then -1 else 1) * ((m / 2 ^ (-e).toNat : Nat) : Int))
    else none
  | _ => none

theorem sgn_natAbs (s : Bool) (k : Nat) : ((if s then -1 else 1) * (k : Int)).natAbs = k := by cases s <;> simp
theorem sgn_sign (s : Bool) (k : Nat) (h : (if s then -1 else 1) * (k : Int) ≠ 0) : s = decide ((if s then -1 else 1) * (k : Int) < 0) := by
  cases s
  · show false = decide ((1 : Int) * (k : Int) < 0)
    symm; rw [decide_eq_false_iff_not]; omega
  · have h' : (-1 : Int) * (k : Int) ≠ 0 := h
    show true = decide ((-1 : Int) * (k : Int) < 0)
    symm; rw [decide_eq_true_eq]; omega

theorem wv_reads {f : Format} (g : Good f) {x : Nat} {n : Int} (h : wv f x = some n) : ∃ s m e, Reads f (f.read x) n s m e := by
  have hlp := g.lp
  unfold wv at h
  split at h
  · rename_i s m e hr
    have hp := (number_place hr).1
    split at h
    · rename_i he
      cases h
      refine ⟨s, m, e, hr, ?_, hp, fun h0 => sgn_sign _ _ h0⟩
      rw [sgn_natAbs, Nat.mul_assoc, ← Nat.pow_add]
      congr 2; omega
    · rename_i he
      split at h
      · rename_i hd
        cases h
        refine ⟨s, m, e, hr, ?_, hp, fun h0 => sgn_sign _ _ h0⟩
        rw [sgn_natAbs]
        have hm : m = m / 2 ^ (-e).toNat * 2 ^ (-e).toNat := (Nat.div_mul_cancel (Nat.dvd_of_mod_eq_zero hd)).symm
        rw [show (-f.leastPlace).toNat = (-e).toNat + (e - f.leastPlace).toNat from by omega, Nat.pow_add, ← Nat.mul_assoc, ← hm]
      · cases h
  · cases h

theorem reads_wv {f : Format} {x : Nat} {n : Int} {s : Bool} {m : Nat} {e : Int} (h : Reads f (f.read x) n s m e) (hlp : f.leastPlace ≤ 0) : wv f x = some n := by
  have hp := h.place
  have hv := h.val
  have fin : ∀ k : Nat, k = n.natAbs → (if s then -1 else 1) * (k : Int) = n := by
    intro k hk
    by_cases h0 : n = 0
    · subst h0; simp at hk; subst hk; simp
    · rw [h.sign h0]
      by_cases hn : n < 0
      · simp [hn]; omega
      · simp [hn]; omega
  unfold wv
  rw [h.eq]
  dsimp only
  by_cases he : 0 ≤ e
  · rw [if_pos he]
    congr 1
    refine fin _ ?_
    rw [show (e - f.leastPlace).toNat = e.toNat + (-f.leastPlace).toNat from by omega, Nat.pow_add, ← Nat.mul_assoc] at hv
    exact Nat.eq_of_mul_eq_mul_right (Nat.two_pow_pos _) hv
  · rw [if_neg he]
    rw [show (-f.leastPlace).toNat = (-e).toNat + (e - f.leastPlace).toNat from by omega, Nat.pow_add, ← Nat.mul_assoc] at hv
    have hm : m = n.natAbs * 2 ^ (-e).toNat := Nat.eq_of_mul_eq_mul_right (Nat.two_pow_pos _) hv
    rw [hm, Nat.mul_mod_left, if_pos rfl, Nat.mul_div_cancel _ (Nat.two_pow_pos _)]
    congr 1
    exact fin _ rfl

theorem lp_nonpos {f : Format} (g : Good f) : f.leastPlace ≤ 0 := by have := g.lp; omega

theorem rep_wv {f : Format} (g : Good f) {x : Nat} {n : Int} (h : Rep f x n) (hn : n.natAbs ≤ 2 ^ (f.fractionBits + 1)) : wv f x = some n := by
  obtain ⟨s, m, e, r, -⟩ := rep_reads g h hn
  exact reads_wv r (lp_nonpos g)

/-- a word of a small whole number IS one of the two -/
theorem wv_rep {f : Format} (g : Good f) {x : Nat} {n : Int} (hx : x < 2 ^ f.width) (h : wv f x = some n) (hn : n.natAbs ≤ 2 ^ (f.fractionBits + 1)) : Rep f x n := by
  obtain ⟨s, m, e, r⟩ := wv_reads g h
  obtain ⟨t, q, hq, hw, hr, -⟩ := word_cases f x
  have two : 2 ^ f.width = 2 * f.signWeight := by
    unfold Format.width Format.signWeight
    rw [Nat.add_assoc, Nat.add_comm 1, Nat.pow_succ, Nat.mul_comm]
  rw [Nat.mod_eq_of_lt (by omega)] at hw
  have hb := binade_pos f
  have hlp := g.lp
  have hread := r.eq
  rw [hr, read_word f t q hq] at hread
  have hv := r.val
  by_cases h0 : n = 0
  · subst h0
    have hm : m = 0 := by
      simp only [Int.natAbs_zero, Nat.zero_mul] at hv
      rcases Nat.mul_eq_zero.1 hv with h | h
      · exact h
      · exact absurd h (Nat.ne_of_gt (Nat.two_pow_pos _))
    subst hm
    split at hread
    · injection hread with e1 e2 e3
      subst e1 e2
      rw [hw]
      cases t
      · exact .inl (word_false f)
      · exact .inr ⟨rfl, word_true f⟩
    · split at hread
      · injection hread with _ h2 _; omega
      · split at hread <;> cases hread
  · -- the canonical form is unique: a number of this value, written, is this word
    have hn0 : n.natAbs ≠ 0 := by omega
    have key : f.write (.number s m e) = enc f n := by
      have hp := r.place
      rw [r.sign h0]
      refine write_whole g m n e (- f.leastPlace).toNat (by omega) hn ?_
      rw [show (e + ((- f.leastPlace).toNat : Int)).toNat = (e - f.leastPlace).toNat from by omega]
      exact hv
    left
    rw [← key, hw]
    have hlog : (m.log2 : Int) + e = n.natAbs.log2 := by
      have hm : m ≠ 0 := by
        intro h; subst h
        have : n.natAbs * 2 ^ (-f.leastPlace).toNat ≠ 0 := Nat.mul_ne_zero hn0 (Nat.ne_of_gt (Nat.two_pow_pos _))
        omega
      have h1 := log2_mul_pow m (e - f.leastPlace).toNat hm
      have h2 := log2_mul_pow n.natAbs (-f.leastPlace).toNat hn0
      rw [hv] at h1
      have := r.place
      omega
    split at hread
    · -- subnormal: less than 1
      rename_i hlt
      injection hread with e1 e2 e3
      subst e1 e2 e3
      exfalso
      have hm0 : q ≠ 0 := by
        intro h; subst h
        have : n.natAbs * 2 ^ (-f.leastPlace).toNat ≠ 0 := Nat.mul_ne_zero hn0 (Nat.ne_of_gt (Nat.two_pow_pos _))
        omega
      have : q.log2 < f.fractionBits := (Nat.log2_lt hm0).2 hlt
      omega
    · rename_i hge
      split at hread
      · rename_i hinf
        cases hread
        have hm := Nat.mod_lt q hb
        have hlog2 : (f.binade + q % f.binade).log2 = f.fractionBits := by
          rw [Nat.log2_eq_iff (by omega)]
          unfold Format.binade at *
          rw [Nat.pow_succ]; omega
        have hwr : ∀ a b c, f.write (.number a b c) = f.nearest a b c := fun _ _ _ => rfl
        have hneed := nearest_of f s (f.binade + q % f.binade) (f.binade + q % f.binade) (f.leastPlace + (q / f.binade - 1 : Nat)) (f.leastPlace + (q / f.binade - 1 : Nat)) (by omega) (by rw [hlog2]; omega) (.inl ⟨Int.le_refl _, by simp⟩)
        rw [hwr, hneed]
        have hq1 : 1 ≤ q / f.binade := (Nat.le_div_iff_mul_le hb).2 (by omega)
        have e1 : (f.leastPlace + ((q / f.binade - 1 : Nat) : Int) - f.leastPlace).toNat * f.binade + (f.binade + q % f.binade) = q := by
          rw [show (f.leastPlace + ((q / f.binade - 1 : Nat) : Int) - f.leastPlace).toNat = q / f.binade - 1 from by omega]
          have h1 : (q / f.binade - 1) * f.binade + f.binade = q / f.binade * f.binade := by
            rw [← Nat.succ_mul]; congr 1; omega
          have h2 := Nat.div_add_mod q f.binade
          rw [Nat.mul_comm] at h2
          omega
        rw [e1, Nat.min_eq_left (Nat.le_of_lt hinf)]
      · split at hread <;> cases hread

/-- a number that is not cut, written again, is the same word; else the cut one's word -/
theorem trunc_number {f : Format} (g : Good f) {x : Nat} {s : Bool} {m : Nat} {e : Int} (h : f.read x = .number s m e) :
    (f.order x (f.write ((f.read x).integral .zero)) == some .eq) = (wv f x).isSome := by
  have hlp := g.lp
  obtain ⟨hp, hm2⟩ := number_place h
  have hb2 : 2 * f.binade = 2 ^ (f.fractionBits + 1) := by unfold Format.binade; rw [Nat.pow_succ, Nat.mul_comm]
  by_cases he : 0 ≤ e
  · -- whole: the same value
    have hw : wv f x = some ((if s then -1 else 1) * ((m * 2 ^ e.toNat : Nat) : Int)) := by unfold wv; rw [h]; simp [he]
    obtain ⟨s', m', e', r⟩ := wv_reads g hw
    have hcut : (f.read x).integral .zero = .number s (m * 2 ^ e.toNat) 0 := by
      rw [h]
      simp only [Datum.integral]
      rw [show (-e).toNat = 0 from by omega, Nat.shiftLeft_eq]
      have := cut_exact .zero s (m * 2 ^ e.toNat) 0 (.inr rfl)
      simpa using this
    have hwrite : f.read (f.write (.number s (m * 2 ^ e.toNat) 0)) = .number s m e ∨ (m = 0 ∧ f.read (f.write (.number s (m * 2 ^ e.toNat) 0)) = .number s 0 f.leastPlace) := by
      by_cases hm0 : m = 0
      · right
        refine ⟨hm0, ?_⟩
        subst hm0
        rw [Nat.zero_mul, write_zero]
        cases s
        · rw [word_false]; exact read_zero f
        · rw [word_true]; exact read_negZero f
      · left
        obtain ⟨t, q, hq, -, hr, -⟩ := word_cases f x
        have hb := binade_pos f
        have hread := h
        rw [hr, read_word f t q hq] at hread
        split at hread
        · cases hread; omega
        · rename_i hge
          split at hread
          · rename_i hinf
            cases hread
            have hmm := Nat.mod_lt q hb
            have hlog2 : (f.binade + q % f.binade).log2 = f.fractionBits := by
              rw [Nat.log2_eq_iff (by omega)]
              unfold Format.binade at *
              rw [Nat.pow_succ]; omega
            have hwr : ∀ a b c, f.write (.number a b c) = f.nearest a b c := fun _ _ _ => rfl
            have hneed := nearest_of f s ((f.binade + q % f.binade) * 2 ^ (f.leastPlace + ((q / f.binade - 1 : Nat) : Int)).toNat) (f.binade + q % f.binade) 0 (f.leastPlace + (q / f.binade - 1 : Nat)) (Nat.mul_ne_zero (by omega) (Nat.ne_of_gt (Nat.two_pow_pos _)))
              (by rw [log2_mul_pow _ _ (by omega), hlog2]; omega) (by
                by_cases h0 : f.leastPlace + ((q / f.binade - 1 : Nat) : Int) ≤ 0
                · left
                  refine ⟨h0, ?_⟩
                  rw [show (f.leastPlace + ((q / f.binade - 1 : Nat) : Int)).toNat = 0 from by omega, show (0 - (f.leastPlace + ((q / f.binade - 1 : Nat) : Int))).toNat = 0 from by omega]; simp
                · right
                  refine ⟨by omega, ?_⟩
                  congr 2; omega)
            rw [hwr, hneed]
            have hq1 : 1 ≤ q / f.binade := (Nat.le_div_iff_mul_le hb).2 (by omega)
            have e1 : (f.leastPlace + ((q / f.binade - 1 : Nat) : Int) - f.leastPlace).toNat * f.binade + (f.binade + q % f.binade) = q := by
              rw [show (f.leastPlace + ((q / f.binade - 1 : Nat) : Int) - f.leastPlace).toNat = q / f.binade - 1 from by omega]
              have h1 : (q / f.binade - 1) * f.binade + f.binade = q / f.binade * f.binade := by
                rw [← Nat.succ_mul]; congr 1; omega
              have h2 := Nat.div_add_mod q f.binade
              rw [Nat.mul_comm] at h2
              omega
            rw [e1, Nat.min_eq_left (Nat.le_of_lt hinf), read_word f _ _ hq, if_neg hge, if_pos hinf]
          · split at hread <;> cases hread
    rw [hcut, hw]
    have r2 : ∃ s2 m2 e2, Reads f (f.read (f.write (.number s (m * 2 ^ e.toNat) 0))) ((if s then -1 else 1) * ((m * 2 ^ e.toNat : Nat) : Int)) s2 m2 e2 := by
      rcases hwrite with h' | ⟨h0, h'⟩
      · rw [h', ← h]; exact ⟨s', m', e', r⟩
      · subst h0
        rw [h']
        exact ⟨s, 0, f.leastPlace, rfl, by simp, Int.le_refl _, fun hh => absurd (by simp) hh⟩
    obtain ⟨s2, m2, e2, r2⟩ := r2
    rw [order_reads r r2]
    simp [compare, compareOfLessAndEq]
  · -- something may stand behind the point
    have hk : m / 2 ^ (-e).toNat ≤ 2 ^ (f.fractionBits + 1) := Nat.le_trans (Nat.div_le_self _ _) (by omega)
    have hpos : 0 < 2 ^ (-e).toNat := Nat.two_pow_pos _
    have hcut : (f.read x).integral .zero = .number s (m / 2 ^ (-e).toNat) 0 := by
      rw [h]
      simp only [Datum.integral]
      rw [show e.toNat = 0 from by omega, Nat.shiftLeft_eq, Nat.pow_zero, Nat.mul_one]
      congr 1
      unfold Toward.cut
      have hg : m / (1 <<< min (-e).toNat (m.log2 + 2)) = m / 2 ^ (-e).toNat := by
        rw [Nat.shiftLeft_eq, Nat.one_mul]
        by_cases hle : (-e).toNat ≤ m.log2 + 2
        · rw [Nat.min_eq_left hle]
        · rw [Nat.min_eq_right (by omega)]
          have hlt := @Nat.lt_log2_self m
          have h1 : m < 2 ^ (m.log2 + 2) := Nat.lt_trans hlt (Nat.pow_lt_pow_right (by decide) (by omega))
          have h2 : m < 2 ^ (-e).toNat := Nat.lt_trans hlt (Nat.pow_lt_pow_right (by decide) (by omega))
          rw [Nat.div_eq_of_lt h1, Nat.div_eq_of_lt h2]
      simp [hg]
    rw [hcut]
    obtain ⟨v, hv⟩ : ∃ v : Int, v = (if s then -1 else 1) * ((m / 2 ^ (-e).toNat : Nat) : Int) := ⟨_, rfl⟩
    have hva : v.natAbs = m / 2 ^ (-e).toNat := by rw [hv, sgn_natAbs]
    have hrep : Rep f (f.write (.number s (m / 2 ^ (-e).toNat) 0)) v := by
      by_cases h0 : v = 0
      · have : m / 2 ^ (-e).toNat = 0 := by rw [← hva, h0]; rfl
        rw [this, h0]; exact rep_zero f s 0
      · left
        have hs : s = decide (v < 0) := by rw [hv]; rw [hv] at h0; exact sgn_sign _ _ h0
        rw [enc, ← hs, hva]
    obtain ⟨t, n, j, r2, -⟩ := rep_reads g hrep (by rw [hva]; exact hk)
    -- the order, by hand: the first one need not be whole
    have hj := r2.place
    have hmin : f.leastPlace ≤ min e j := by omega
    have k2 := signed_reads r2 (base := min e j) (by omega) hmin
    have hord : f.order x (f.write (.number s (m / 2 ^ (-e).toNat) 0)) = some (compare (signed s m (e - min e j).toNat) (signed t n (j - min e j).toNat)) := by
      simp only [Format.order, h, r2.eq, Datum.order]
    rw [hord]
    generalize hu : signed t n (j - min e j).toNat = u at *
    have k1 : signed s m (e - min e j).toNat * ((2 ^ (min e j - f.leastPlace).toNat : Nat) : Int) = (if s then -1 else 1) * ((m * 2 ^ (e - f.leastPlace).toNat : Nat) : Int) := by
      rw [signed_val, Int.mul_assoc, ← Int.natCast_mul, Nat.mul_assoc, ← Nat.pow_add]
      congr 4; omega
    generalize hu' : signed s m (e - min e j).toNat = u' at *
    have hp1 := pow_cast_pos (min e j - f.leastPlace).toNat
    have e3 : (compare u' u == Ordering.eq) = decide (u' = u) := by
      simp only [compare, compareOfLessAndEq]
      by_cases h1 : u' < u
      · simp [h1]; omega
      · by_cases h2 : u' = u
        · simp [h2]
        · simp [h1, h2]
    have e4 : (some (compare u' u) == some Ordering.eq) = (compare u' u == Ordering.eq) := rfl
    rw [e4, e3]
    have hiff : u' = u ↔ m % 2 ^ (-e).toNat = 0 := by
      have hsplit : m * 2 ^ (e - f.leastPlace).toNat = m / 2 ^ (-e).toNat * 2 ^ (-f.leastPlace).toNat + m % 2 ^ (-e).toNat * 2 ^ (e - f.leastPlace).toNat := by
        rw [show (-f.leastPlace).toNat = (-e).toNat + (e - f.leastPlace).toNat from by omega, Nat.pow_add, ← Nat.mul_assoc, ← Nat.add_mul]
        congr 1
        have := Nat.div_add_mod m (2 ^ (-e).toNat)
        rw [Nat.mul_comm] at this
        exact this.symm
      constructor
      · intro hh
        rw [hh, k2, hv, Int.mul_assoc, ← Int.natCast_mul] at k1
        have := congrArg Int.natAbs k1
        rw [sgn_natAbs, sgn_natAbs, hsplit] at this
        have h5 : m % 2 ^ (-e).toNat * 2 ^ (e - f.leastPlace).toNat = 0 := by omega
        rcases Nat.mul_eq_zero.1 h5 with h6 | h6
        · exact h6
        · exact absurd h6 (Nat.ne_of_gt (Nat.two_pow_pos _))
      · intro hh
        rw [hh, Nat.zero_mul, Nat.add_zero] at hsplit
        rw [hsplit] at k1
        have : u' * ((2 ^ (min e j - f.leastPlace).toNat : Nat) : Int) = u * ((2 ^ (min e j - f.leastPlace).toNat : Nat) : Int) := by
          rw [k1, k2, hv, Int.mul_assoc, ← Int.natCast_mul]
        exact Int.eq_of_mul_eq_mul_right (by omega) this
    unfold wv
    rw [h]
    simp only [he, if_false]
    by_cases h6 : m % 2 ^ (-e).toNat = 0
    · simp [h6, hiff.2 h6]
    · have : ¬ u' = u := fun hh => h6 (hiff.1 hh)
      simp [h6, this]

/-- a number is not above the greatest one -/
theorem not_above {f : Format} {x : Nat} {s : Bool} {m : Nat} {e : Int} (h : f.read x = .number s m e) {y M : Nat} {E : Int} (hy : f.read y = .number false M E)
    (hM : M = 2 * f.binade - 1) (hE : ∀ z t k i, f.read z = .number t k i → i ≤ E) : (f.order (x % f.signWeight) y == some .gt) = false := by
  have h1 := read_abs h
  have h2 := (number_place h).2
  have h3 := hE _ _ _ _ h
  simp only [Format.order, h1, hy, Datum.order]
  have : signed false m (e - min e E).toNat ≤ signed false M (E - min e E).toNat := by
    rw [signed_val, signed_val, Int.min_eq_left h3, Int.sub_self]
    simp only [Bool.false_eq_true, if_false, Int.one_mul]
    have a : m * 2 ^ Int.toNat 0 ≤ M * 2 ^ (E - e).toNat := by
      have b : 1 ≤ 2 ^ (E - e).toNat := Nat.two_pow_pos _
      have := Nat.mul_le_mul (show m ≤ M by omega) b
      simpa using this
    exact_mod_cast a
  generalize signed false m (e - min e E).toNat = u at *
  generalize signed false M (E - min e E).toNat = v at *
  have : ¬ compare u v = Ordering.gt := by
    simp only [compare, compareOfLessAndEq]
    split
    · simp
    · split <;> simp; omega
  simp [this]

theorem place_le (f : Format) (z : Nat) (t : Bool) (k : Nat) (i : Int) (h : f.read z = .number t k i) : i ≤ f.leastPlace + ((f.infRung - 1) / f.binade - 1 : Nat) := by
  obtain ⟨s, q, hq, -, hr, -⟩ := word_cases f z
  rw [hr, read_word f s q hq] at h
  split at h
  · cases h; omega
  · split at h
    · cases h
      have : q / f.binade ≤ (f.infRung - 1) / f.binade := Nat.div_le_div_right (by omega)
      omega
    · split at h <;> cases h

theorem sw : double.signWeight = 2 ^ 63 := rfl

theorem max_read : double.read 9218868437227405311 = .number false (2 * double.binade - 1) (double.leastPlace + ((double.infRung - 1) / double.binade - 1 : Nat)) := by decide +kernel

theorem read_mod (f : Format) (x : Nat) : (∀ s, f.read x = .infinity s → f.read (x % f.signWeight) = .infinity false) ∧ (∀ s t, f.read x = .nan s t → f.read (x % f.signWeight) = .nan false t) := by
  obtain ⟨t, r, hr, -, hx, hm⟩ := word_cases f x
  have e0 : x % f.signWeight = f.word false r := by rw [hm]; simp [Format.word]
  rw [e0, read_word f false r hr, hx, read_word f t r hr]
  constructor
  · intro s h
    split at h
    · cases h
    · rename_i h1
      split at h
      · cases h
      · rename_i h2
        split at h
        · rename_i h3
          rw [if_neg h1, if_neg h2, if_pos h3]
        · cases h
  · intro s k h
    split at h
    · cases h
    · rename_i h1
      split at h
      · cases h
      · rename_i h2
        split at h
        · cases h
        · rename_i h3
          rw [if_neg h1, if_neg h2, if_neg h3]
          cases h; rfl

/-- math.IsInf's test -/
theorem isInf_test (x : Nat) : (double.order (x % 2 ^ 63) 9218868437227405311 == some .gt) = (double.read x).isInfinity := by
  rw [← sw]
  cases h : double.read x with
  | number s m e => rw [not_above h max_read rfl (fun z t k i hz => place_le double z t k i hz)]; rfl
  | infinity s =>
    have := (read_mod double x).1 s h
    simp only [Format.order, this, max_read, Datum.order]; rfl
  | nan s t =>
    have := (read_mod double x).2 s t h
    simp only [Format.order, this, Datum.order]; rfl

theorem order_nan {f : Format} {x : Nat} {s : Bool} {t : Nat} (h : f.read x = .nan s t) (y : Nat) : f.order x y = none := by
  simp only [Format.order, h]
  cases f.read y <;> rfl

theorem wv_nan {f : Format} {x : Nat} {s : Bool} {t : Nat} (h : f.read x = .nan s t) : wv f x = none := by unfold wv; rw [h]
theorem wv_inf {f : Format} {x : Nat} {s : Bool} (h : f.read x = .infinity s) : wv f x = none := by unfold wv; rw [h]

/-- 'x == math.Trunc(x)' of an infinity -/
theorem order_inf {f : Format} {x : Nat} {s : Bool} (h : f.read x = .infinity s) : f.order x (f.write ((f.read x).integral .zero)) = some .eq := by
  have hw : f.read (f.write ((f.read x).integral .zero)) = .infinity s := by
    rw [h]
    simp only [Datum.integral, Format.write]
    rw [read_word f s _ f.infRung_lt]
    have : f.binade ≤ f.infRung ∨ f.infRung < f.binade := by omega
    obtain ⟨t, r, hr, -, hx, hm⟩ := word_cases f x
    rw [hx, read_word f t r hr] at h
    split at h
    · cases h
    · rename_i h1
      split at h
      · cases h
      · split at h
        · rename_i h3
          subst h3
          rw [if_neg h1, if_neg (Nat.lt_irrefl _), if_pos rfl]
        · cases h
  simp only [Format.order, hw]
  rw [h]
  simp [Datum.order, compare, compareOfLessAndEq]

/-- the size against a bound -/
theorem above_test {x y : Nat} {n M : Int} (hx : wv double x = some n) (hy : Rep double y M) (hM : M.natAbs ≤ 2 ^ 53) (_h0 : 0 ≤ M) :
    (double.order (x % 2 ^ 63) y == some .gt) = decide (M < n.natAbs) := by
  obtain ⟨s, m, e, r⟩ := wv_reads good_double hx
  obtain ⟨t, k, j, r2, -⟩ := rep_reads good_double hy hM
  have ra : Reads double (double.read (x % 2 ^ 63)) (n.natAbs : Int) false m e := by
    rw [← sw]
    refine ⟨read_abs r.eq, by rw [Int.natAbs_natCast]; exact r.val, r.place, fun _ => ?_⟩
    symm; rw [decide_eq_false_iff_not]; omega
  rw [order_reads ra r2]
  have : (some (compare (n.natAbs : Int) M) == some Ordering.gt) = (compare (n.natAbs : Int) M == Ordering.gt) := rfl
  rw [this]
  simp only [compare, compareOfLessAndEq]
  by_cases h1 : (n.natAbs : Int) < M
  · simp [h1]; omega
  · by_cases h2 : (n.natAbs : Int) = M
    · simp [h2]
    · simp [h1, h2]; omega
theorem nan_pat (b t : Nat) (ht : t < 2 ^ 52 - 1) : ∃ s k, double.read (b % 2 * 2 ^ 63 + 0x7ff0000000000000 + 1 + t) = .nan s k := by
  have hr : double.infRung + 1 + t < double.signWeight := by
    rw [show double.infRung = 0x7ff0000000000000 from by decide, show double.signWeight = 2 ^ 63 from rfl]; omega
  have hw : b % 2 * 2 ^ 63 + 0x7ff0000000000000 + 1 + t = double.word (b % 2 == 1) (double.infRung + 1 + t) := by
    unfold Format.word
    rw [show double.infRung = 0x7ff0000000000000 from by decide, show double.signWeight = 2 ^ 63 from rfl]
    rcases Nat.mod_two_eq_zero_or_one b with h | h <;> simp [h] <;> omega
  rw [hw, read_word double _ _ hr]
  have hb : double.binade ≤ double.infRung := by decide +kernel
  rw [if_neg (by omega), if_neg (by omega), if_neg (by omega)]
  exact ⟨_, _, rfl⟩

theorem wv_scale {f f' : Format} {x y : Nat} {s : Bool} {m d : Nat} {e : Int} (h : f.read x = .number s m e) (h' : f'.read y = .number s (m * 2 ^ d) (e - d)) : wv f' y = wv f x := by
  unfold wv
  rw [h, h']
  dsimp only
  by_cases h1 : 0 ≤ e - d
  · have h2 : 0 ≤ e := by omega
    rw [if_pos h1, if_pos h2, Nat.mul_assoc, ← Nat.pow_add, show d + (e - (d : Int)).toNat = e.toNat from by omega]
  · rw [if_neg h1]
    by_cases h2 : 0 ≤ e
    · rw [if_pos h2]
      have hd : d = e.toNat + (-(e - (d : Int))).toNat := by omega
      generalize (-(e - (d : Int))).toNat = q at *
      subst hd
      have : m * 2 ^ (e.toNat + q) = m * 2 ^ e.toNat * 2 ^ q := by rw [Nat.pow_add, Nat.mul_assoc]
      rw [this, Nat.mul_mod_left, if_pos rfl, Nat.mul_div_cancel _ (Nat.two_pow_pos _)]
    · rw [if_neg h2]
      have hq : (-(e - (d : Int))).toNat = (-e).toNat + d := by omega
      have hp : 0 < 2 ^ d := Nat.two_pow_pos _
      rw [hq, Nat.pow_add, Nat.mul_mod_mul_right, Nat.mul_div_mul_right _ _ hp]
      by_cases h3 : m % 2 ^ (-e).toNat = 0
      · simp [h3]
      · rw [if_neg h3, if_neg]
        intro h4
        rcases Nat.mul_eq_zero.1 h4 with h5 | h5
        · exact h3 h5
        · omega

/-- a float32 made a float64: the same number, if it is one -/
theorem conv_number {x : Nat} {s : Bool} {m : Nat} {e : Int} (h : single.read x = .number s m e) :
    (double.read (double.write (.number s m e))).isInfinity = false ∧ wv double (double.write (.number s m e)) = wv single x := by
  obtain ⟨hp, hm⟩ := number_place h
  have hlp : single.leastPlace = -149 := by decide
  have hbin : single.binade = 2 ^ 23 := rfl
  have he : e ≤ 104 := by
    have := place_le single x s m e h
    have h2 : single.leastPlace + (((single.infRung - 1) / single.binade - 1 : Nat) : Int) = 104 := by decide +kernel
    omega
  by_cases h0 : m = 0
  · subst h0
    rw [write_zero]
    cases s
    · rw [word_false, read_zero]
      refine ⟨rfl, ?_⟩
      rw [rep_wv good_double (Rep.enc _ _) (by decide)]
      unfold wv; rw [h]
      dsimp only
      split <;> simp
    · rw [word_true, read_negZero]
      refine ⟨rfl, ?_⟩
      rw [rep_wv good_double (n := 0) (.inr ⟨rfl, rfl⟩) (by decide)]
      unfold wv; rw [h]
      dsimp only
      split <;> simp
  · have hl : m.log2 ≤ 23 := by
      have := (Nat.log2_lt h0).2 (show m < 2 ^ 24 by omega)
      omega
    have hlo := Nat.log2_self_le h0
    have hhi := @Nat.lt_log2_self m
    have hn := nearest_of double s m (m * 2 ^ (52 - m.log2)) e (e + m.log2 - 52) h0 (by
      rw [show (double.fractionBits : Int) = 52 from rfl, show double.leastPlace = -1074 from by decide]; omega) (.inl ⟨by omega, by congr 2; omega⟩)
    have hwr : double.write (.number s m e) = double.nearest s m e := rfl
    rw [hwr, hn, show double.leastPlace = -1074 from by decide]
    have hk1 : 2 ^ 52 ≤ m * 2 ^ (52 - m.log2) := by
      have := Nat.mul_le_mul_right (2 ^ (52 - m.log2)) hlo
      rw [← Nat.pow_add, show m.log2 + (52 - m.log2) = 52 from by omega] at this
      exact this
    have hk2 : m * 2 ^ (52 - m.log2) < 2 * 2 ^ 52 := by
      have := Nat.mul_lt_mul_of_pos_right hhi (Nat.two_pow_pos (52 - m.log2))
      rw [← Nat.pow_add, show m.log2 + 1 + (52 - m.log2) = 53 from by omega] at this
      omega
    have hrung : (e + m.log2 - 52 - -1074).toNat * double.binade + m * 2 ^ (52 - m.log2) < double.infRung := by
      rw [show double.binade = 2 ^ 52 from rfl, show double.infRung = 2046 * 2 ^ 52 + 2 ^ 52 from by decide]
      have : (e + m.log2 - 52 - -1074).toNat ≤ 1200 := by omega
      have := Nat.mul_le_mul_right (2 ^ 52) this
      omega
    rw [Nat.min_eq_left (Nat.le_of_lt hrung)]
    have hrd := read_word_normal double s (e + m.log2 - 52 - -1074).toNat (m * 2 ^ (52 - m.log2)) hk1 hk2 hrung
    have hpl : double.leastPlace + ((e + m.log2 - 52 - -1074).toNat : Int) = e - ((52 - m.log2 : Nat) : Int) := by
      rw [show double.leastPlace = -1074 from by decide]; omega
    rw [hpl] at hrd
    exact ⟨by rw [hrd]; rfl, wv_scale h hrd⟩

/-- what makes of a float32 a float64 the same number, or none where it was none -/
theorem write_wv {x : Nat} {d : Datum} (h : single.read x = d) (hn : ∀ s t, d ≠ .nan s t) : wv double (double.write d) = wv single x := by
  cases d with
  | nan s t => exact absurd rfl (hn s t)
  | number s m e => exact (conv_number h).2
  | infinity s =>
    rw [wv_inf h]
    have : double.read (double.write (.infinity s)) = .infinity s := by cases s <;> decide +kernel
    exact wv_inf this
end Go.Proofs.Ytadajelonekpmaa.Flt

namespace Go.Proofs.Ytadajelonekpmaa.Flt
open Go Ieee

theorem rootFrom_spec (n : Nat) : ∀ (todo root : Nat), root * root ≤ n → n < (root + 2 ^ todo) * (root + 2 ^ todo) →
    Datum.rootFrom n todo root * Datum.rootFrom n todo root ≤ n ∧ n < (Datum.rootFrom n todo root + 1) * (Datum.rootFrom n todo root + 1) := by
  intro todo
  induction todo with
  | zero => intro root h1 h2; exact ⟨h1, by simpa [Datum.rootFrom] using h2⟩
  | succ todo ih =>
    intro root h1 h2
    unfold Datum.rootFrom
    have e : root + 1 <<< todo = root + 2 ^ todo := by rw [Nat.shiftLeft_eq, Nat.one_mul]
    simp only [e]
    by_cases hle : (root + 2 ^ todo) * (root + 2 ^ todo) ≤ n
    · rw [if_pos hle]
      refine ih _ hle ?_
      rw [Nat.pow_succ] at h2
      rw [show root + 2 ^ todo + 2 ^ todo = root + 2 ^ todo * 2 from by omega]
      exact h2
    · rw [if_neg hle]
      exact ih _ h1 (by omega)

theorem sq_lt {a b : Nat} (h : a < b) : a * a < b * b := Nat.mul_self_lt_mul_self h
theorem lt_of_sq {a b : Nat} (h : a * a < b * b) : a < b := Nat.mul_self_lt_mul_self_iff.1 h
theorem le_of_sq {a b : Nat} (h : a * a ≤ b * b) : a ≤ b := Nat.mul_self_le_mul_self_iff.1 h

/-- THE SQUARE ROOT OF A WHOLE NUMBER, AND ITS WHOLE PART -/
theorem sqrt_int (n k : Nat) (h0 : 1 ≤ n) (hn : n < 2 ^ 52) (hk : k * k ≤ n) (hk' : n < (k + 1) * (k + 1)) :
    ∃ r, double.sqrt (enc double (n : Int)) = some r ∧ (double.read r).toInt .zero = some (k : Int) ∧ r < 2 ^ 64 := by
  have hnn : ((n : Int)).natAbs = n := rfl
  have hne : (n : Int) ≠ 0 := by omega
  have hread := read_enc good_double (n : Int) (by rw [hnn]; exact Nat.le_of_lt (Nat.lt_trans hn (by decide))) hne
  rw [hnn, show decide ((n : Int) < 0) = false from by rw [decide_eq_false_iff_not]; omega] at hread
  have hb := sig_bounds double n (by omega) (Nat.le_of_lt (Nat.lt_trans hn (by decide)))
  have hx := sig_exact double n (by omega) (Nat.le_of_lt (Nat.lt_trans hn (by decide)))
  rw [show double.binade = 2 ^ 52 from rfl] at hb
  rw [show double.fractionBits = 52 from rfl] at hx
  obtain ⟨L, hL⟩ : ∃ L, L = n.log2 := ⟨_, rfl⟩
  have hL51 : L ≤ 51 := by
    have := (Nat.log2_lt (by omega : n ≠ 0)).2 hn
    omega
  obtain ⟨m, hm⟩ : ∃ m, m = sig double n := ⟨_, rfl⟩
  have hlast : last double n = (L : Int) - 52 := by unfold last; rw [← hL]; rfl
  rw [hlast, ← hm] at hread
  rw [← hm] at hb
  rw [← hm, ← hL] at hx
  have hmlog : m.log2 = 52 := by
    rw [Nat.log2_eq_iff (by omega)]
    exact ⟨hb.1, by omega⟩
  -- the exponent that makes the place even
  obtain ⟨p, hp⟩ : ∃ p : Nat, p = (((L : Int) - 52 - (56 : Nat)) % 2).toNat := ⟨_, rfl⟩
  have hp2 : p ≤ 1 := by omega
  obtain ⟨g, hg⟩ : ∃ g : Nat, 2 * g = 108 - L + p := ⟨(108 - L + p) / 2, by omega⟩
  have hg29 : 28 < g := by omega
  obtain ⟨N, hN⟩ : ∃ N, N = m <<< (56 + p) := ⟨_, rfl⟩
  have hNval : N = n * (2 ^ g * 2 ^ g) := by
    have : N * 2 ^ L = n * (2 ^ g * 2 ^ g) * 2 ^ L := by
      rw [hN, Nat.shiftLeft_eq, Nat.mul_right_comm, hx, ← Nat.pow_add, Nat.mul_assoc, ← Nat.pow_add, Nat.mul_assoc, ← Nat.pow_add]
      congr 2; omega
    exact Nat.eq_of_mul_eq_mul_right (Nat.two_pow_pos _) this
  obtain ⟨whole, hwhole⟩ : ∃ whole, whole = Datum.rootFrom N (N.log2 / 2 + 1) 0 := ⟨_, rfl⟩
  have hN0 : N ≠ 0 := by
    rw [hNval]; exact Nat.mul_ne_zero (by omega) (Nat.mul_ne_zero (Nat.ne_of_gt (Nat.two_pow_pos _)) (Nat.ne_of_gt (Nat.two_pow_pos _)))
  have hspec : whole * whole ≤ N ∧ N < (whole + 1) * (whole + 1) := by
    rw [hwhole]
    refine rootFrom_spec N _ 0 (by simp) ?_
    rw [Nat.zero_add, ← Nat.pow_add]
    have h1 := @Nat.lt_log2_self N
    exact Nat.lt_of_lt_of_le h1 (Nat.pow_le_pow_right (by decide) (by omega))
  have hsqrt : double.sqrt (enc double (n : Int)) = some (double.write (.number false (2 * whole + (whole * whole != N).toNat) (-(g : Int) - 1))) := by
    unfold Format.sqrt Datum.root
    rw [hread]
    simp only [Bool.false_eq_true, if_false]
    rw [if_neg (by omega)]
    have e1 : 2 * (double.fractionBits + 2) - m.log2 = 56 := by rw [hmlog]; rfl
    simp only [e1]
    have e2 : 56 + (((L : Int) - 52 - ((56 : Nat) : Int)) % 2).toNat = 56 + p := by rw [hp]
    simp only [e2, ← hN, ← hwhole, Option.map_some]
    congr 3
    omega
  refine ⟨_, hsqrt, ?_, by have := double.write_lt (.number false (2 * whole + (whole * whole != N).toNat) (-(g : Int) - 1)); exact this⟩
  -- bounds
  have hG : 0 < 2 ^ g := Nat.two_pow_pos g
  have hkup : k < 2 ^ 26 := by
    apply lt_of_sq
    rw [← Nat.pow_add]
    omega
  have hgbig : 4 * (k + 1) ≤ 2 ^ g := by
    have : 2 ^ 28 ≤ 2 ^ g := Nat.pow_le_pow_right (by decide) (by omega)
    omega
  generalize hGG : 2 ^ g = G at *
  obtain ⟨A, hA⟩ : ∃ A, A = (k + 1) * G := ⟨_, rfl⟩
  have hlow : k * G ≤ whole := by
    have h1 : k * G * (k * G) ≤ N := by
      rw [hNval, Nat.mul_mul_mul_comm k G k G]
      exact Nat.mul_le_mul_right _ hk
    have h2 := lt_of_sq (Nat.lt_of_le_of_lt h1 hspec.2)
    omega
  have hup : whole + 3 ≤ A := by
    rcases Nat.lt_or_ge whole (A - 2) with h | h
    · omega
    · exfalso
      have hA4 : 4 ≤ A := by rw [hA]; exact Nat.le_trans (by omega : 4 ≤ G) (Nat.le_mul_of_pos_left _ (by omega))
      have h1 : (A - 2) * (A - 2) ≤ N := Nat.le_trans (Nat.mul_self_le_mul_self h) hspec.1
      have h2 : N + G * G ≤ A * A := by
        have : (n + 1) * (G * G) ≤ (k + 1) * (k + 1) * (G * G) := Nat.mul_le_mul_right _ (by omega)
        rw [Nat.add_mul, Nat.one_mul, ← hNval] at this
        rw [hA, Nat.mul_mul_mul_comm (k + 1) G (k + 1) G]
        exact this
      have h3 : 4 * A ≤ G * G := by
        rw [hA, ← Nat.mul_assoc]
        exact Nat.mul_le_mul_right _ hgbig
      have h4 : A * A = (A - 2) * (A - 2) + 4 * A - 4 := by
        obtain ⟨B, rfl⟩ : ∃ B, A = B + 2 := ⟨A - 2, by omega⟩
        rw [show B + 2 - 2 = B from by omega]
        have : (B + 2) * (B + 2) = B * B + 4 * B + 4 := by
          simp only [Nat.add_mul, Nat.mul_add]; omega
        omega
      omega
  have hw1 : 2 ^ 54 ≤ whole := by
    have h1 : 2 ^ 108 ≤ N := by
      rw [hN, Nat.shiftLeft_eq]
      have : 2 ^ 52 * 2 ^ 56 ≤ m * 2 ^ (56 + p) := Nat.mul_le_mul hb.1 (Nat.pow_le_pow_right (by decide) (by omega))
      omega
    have h2 : 2 ^ 54 * 2 ^ 54 < (whole + 1) * (whole + 1) := Nat.lt_of_le_of_lt (by rw [← Nat.pow_add]; exact h1) hspec.2
    have := lt_of_sq h2
    omega
  have hw2 : whole < 2 ^ 55 := by
    have h1 : N < 2 ^ 110 := by
      rw [hN, Nat.shiftLeft_eq]
      have h3 : 2 ^ (56 + p) ≤ 2 ^ 57 := Nat.pow_le_pow_right (by decide) (by omega)
      have h4 := Nat.mul_lt_mul_of_lt_of_le hb.2 h3 (by decide)
      omega
    apply lt_of_sq
    rw [← Nat.pow_add]
    exact Nat.lt_of_le_of_lt hspec.1 h1
  generalize hbit : (whole * whole != N).toNat = bit
  have hbit1 : bit ≤ 1 := by rw [← hbit]; cases (whole * whole != N) <;> decide
  obtain ⟨mag, hmag⟩ : ∃ mag, mag = 2 * whole + bit := ⟨_, rfl⟩
  rw [← hmag]
  have hmag1 : 2 ^ 55 ≤ mag ∧ mag < 2 ^ 56 := by omega
  have hmlog : mag.log2 = 55 := by rw [Nat.log2_eq_iff (by omega)]; exact hmag1
  -- what is kept
  obtain ⟨Q, hQ⟩ : ∃ Q, G = 4 * Q := by
    refine ⟨2 ^ (g - 2), ?_⟩
    rw [← hGG, show (4 : Nat) = 2 ^ 2 from rfl, ← Nat.pow_add]
    congr 1; omega
  obtain ⟨C, hC⟩ : ∃ C, C = (k + 1) * Q := ⟨_, rfl⟩
  have hAC : A = 4 * C := by rw [hA, hC, hQ]; simp only [Nat.mul_left_comm]
  have hkQ : k * G = 4 * (k * Q) := by rw [hQ]; simp only [Nat.mul_left_comm]
  obtain ⟨kept, hkept⟩ : ∃ kept, kept = Toward.even.cut false mag 3 := ⟨_, rfl⟩
  have hcut : kept = mag / 8 ∨ (kept = mag / 8 + 1 ∧ 4 ≤ mag % 8) := by
    rw [hkept]
    unfold Toward.cut
    have : (1 : Nat) <<< min 3 (mag.log2 + 2) = 8 := by rw [hmlog]; rfl
    simp only [this]
    by_cases h : 8 < 2 * (mag % 8)
    · right; simp [h]; omega
    · by_cases h2 : 8 = 2 * (mag % 8)
      · by_cases h3 : mag / 8 % 2 = 1
        · right; simp [← h2, h3]; omega
        · left; simp [← h2, h3]
      · left
        have : (8 == 2 * (mag % 8)) = false := by rw [beq_eq_false_iff_ne]; exact h2
        simp [h, this]
  have hk1 : k * Q ≤ kept := by
    have : k * Q ≤ mag / 8 := by rw [Nat.le_div_iff_mul_le (by decide)]; omega
    omega
  have hk2 : kept < C := by omega
  have hk3 : 2 ^ 52 ≤ kept := by omega
  have hC2 : C ≤ 2 ^ 53 := by
    -- (k + 1) ≤ 2 ^ (55 - g), as k * k ≤ n and n * G * G < 2 ^ 110
    have h1 : k * G < 2 ^ 55 := Nat.lt_of_le_of_lt hlow hw2
    have hg55 : g ≤ 55 := by omega
    have h2 : k < 2 ^ (55 - g) := by
      have : k * G < 2 ^ (55 - g) * G := by
        rw [← hGG, ← Nat.pow_add, show 55 - g + g = 55 from by omega, hGG]; exact h1
      exact Nat.lt_of_mul_lt_mul_right this
    have h3 : A ≤ 2 ^ 55 := by
      rw [hA]
      have : (k + 1) * G ≤ 2 ^ (55 - g) * G := Nat.mul_le_mul_right _ h2
      rw [← hGG, ← Nat.pow_add, show 55 - g + g = 55 from by omega, hGG] at this
      exact this
    omega
  have hlp : double.leastPlace = -1074 := by decide
  have hneed : double.nearest false mag (-(g : Int) - 1) = double.word false (min ((2 - (g : Int) - double.leastPlace).toNat * double.binade + kept) double.infRung) := by
    unfold Format.nearest
    rw [if_neg (by omega)]
    have e1 : max (-(g : Int) - 1 + ((mag.log2 : Nat) : Int) - ((double.fractionBits : Nat) : Int)) double.leastPlace = 2 - (g : Int) := by
      rw [hmlog, hlp, show ((double.fractionBits : Nat) : Int) = 52 from rfl]; omega
    simp only [e1]
    have e2 : (-(g : Int) - 1 - (2 - (g : Int))).toNat = 0 := by omega
    have e3 : (2 - (g : Int) - (-(g : Int) - 1)).toNat = 3 := by omega
    rw [e2, e3, Nat.shiftLeft_eq, Nat.pow_zero, Nat.mul_one, hkept]
  have hwr : double.write (.number false mag (-(g : Int) - 1)) = double.nearest false mag (-(g : Int) - 1) := rfl
  rw [hwr, hneed]
  have hg55 : g ≤ 55 := by omega
  have hrung : (2 - (g : Int) - double.leastPlace).toNat * double.binade + kept < double.infRung := by
    rw [hlp, show double.binade = 2 ^ 52 from rfl, show double.infRung = 2046 * 2 ^ 52 + 2 ^ 52 from by decide]
    have : (2 - (g : Int) - -1074).toNat ≤ 1100 := by omega
    have := Nat.mul_le_mul_right (2 ^ 52) this
    omega
  rw [Nat.min_eq_left (Nat.le_of_lt hrung), read_word_normal double false _ kept hk3 (by rw [show double.binade = 2 ^ 52 from rfl]; omega) hrung]
  have hplace : double.leastPlace + ((2 - (g : Int) - double.leastPlace).toNat : Int) = 2 - (g : Int) := by rw [hlp]; omega
  rw [hplace]
  simp only [Datum.toInt, Datum.integral]
  have e4 : (2 - (g : Int)).toNat = 0 := by omega
  have e5 : (-(2 - (g : Int))).toNat = g - 2 := by omega
  rw [e4, e5, Nat.shiftLeft_eq, Nat.pow_zero, Nat.mul_one]
  have hQ2 : 2 ^ (g - 2) = Q := by
    have : 4 * 2 ^ (g - 2) = 4 * Q := by
      rw [← hQ, ← hGG, show (4 : Nat) = 2 ^ 2 from rfl, ← Nat.pow_add]
      congr 1; omega
    omega
  have hQpos : 0 < Q := by rw [← hQ2]; exact Nat.two_pow_pos _
  have hcut2 : Toward.zero.cut false kept (g - 2) = k := by
    unfold Toward.cut
    have hkl : 52 ≤ kept.log2 := (Nat.le_log2 (by omega)).2 hk3
    have : (1 : Nat) <<< min (g - 2) (kept.log2 + 2) = Q := by
      rw [Nat.min_eq_left (by omega), Nat.shiftLeft_eq, Nat.one_mul, hQ2]
    simp only [this]
    have : kept / Q = k := by
      rw [Nat.div_eq_iff hQpos]
      rw [hC, Nat.add_mul, Nat.one_mul] at hk2
      constructor <;> omega
    simp [this]
  rw [hcut2]
  simp [signed, Nat.shiftLeft_eq]
end Go.Proofs.Ytadajelonekpmaa.Flt

namespace Go.Proofs.Ytadajelonekpmaa.Flt
open Go Ieee

theorem signed_zero (s : Bool) (u : Nat) : signed s 0 u = 0 := by rw [signed_val]; simp

theorem cmp_lt (a b : Int) : (some (compare a b) == some Ordering.lt) = decide (a < b) := by
  have e : (some (compare a b) == some Ordering.lt) = (compare a b == Ordering.lt) := rfl
  rw [e]
  simp only [compare, compareOfLessAndEq]
  by_cases h1 : a < b
  · simp [h1]
  · by_cases h2 : a = b
    · simp [h2]
    · simp [h1, h2]
theorem cmp_gt (a b : Int) : (some (compare a b) == some Ordering.gt) = decide (b < a) := by
  have e : (some (compare a b) == some Ordering.gt) = (compare a b == Ordering.gt) := rfl
  rw [e]
  simp only [compare, compareOfLessAndEq]
  by_cases h1 : a < b
  · simp [h1]; omega
  · by_cases h2 : a = b
    · simp [h2]
    · simp [h1, h2]; omega
theorem cmp_eq (a b : Int) : (some (compare a b) == some Ordering.eq) = decide (a = b) := by
  have e : (some (compare a b) == some Ordering.eq) = (compare a b == Ordering.eq) := rfl
  rw [e]
  simp only [compare, compareOfLessAndEq]
  by_cases h1 : a < b
  · simp [h1]; omega
  · by_cases h2 : a = b
    · simp [h2]
    · simp [h1, h2]

theorem order_comm (f : Format) (x y : Nat) : (f.order y x == some .eq) = (f.order x y == some .eq) := by
  simp only [Format.order]
  cases f.read x with
  | number s m i =>
    cases f.read y with
    | number t n j =>
      simp only [Datum.order]
      rw [cmp_eq, cmp_eq, Int.min_comm]
      exact decide_eq_decide.2 ⟨Eq.symm, Eq.symm⟩
    | infinity t => cases t <;> rfl
    | nan t k => rfl
  | infinity s =>
    cases f.read y with
    | number t n j => cases s <;> rfl
    | infinity t => cases s <;> cases t <;> rfl
    | nan t k => rfl
  | nan s k => cases f.read y <;> rfl

/-- the order with a zero does not ask for its sign -/
theorem order_zero_sign (f : Format) (x : Nat) {y z : Nat} {s t : Bool} (hy : f.read y = .number s 0 f.leastPlace) (hz : f.read z = .number t 0 f.leastPlace) : f.order x y = f.order x z := by
  simp only [Format.order, hy, hz]
  cases f.read x <;> simp [Datum.order, signed_zero]

theorem toInt_number {f : Format} {x : Nat} {s : Bool} {m : Nat} {e : Int} (h : f.read x = .number s m e) :
    (f.read x).integral .zero = .number s (Toward.zero.cut s (m <<< e.toNat) (-e).toNat) 0 ∧ (f.read x).toInt .zero = some (signed s (Toward.zero.cut s (m <<< e.toNat) (-e).toNat) 0) := by
  have h1 : (f.read x).integral .zero = .number s (Toward.zero.cut s (m <<< e.toNat) (-e).toNat) 0 := by rw [h]; rfl
  refine ⟨h1, ?_⟩
  unfold Datum.toInt
  rw [h1]

theorem cut_zero_le (s : Bool) (k d : Nat) : Toward.zero.cut s k d ≤ k := by
  unfold Toward.cut
  simp only [Bool.toNat_false, Nat.add_zero]
  exact Nat.div_le_self _ _

/-- float64(int(x)) == x -/
theorem whole_cast {f : Format} (g : Good f) {x : Nat} {s : Bool} {m : Nat} {e n : Int} (h : f.read x = .number s m e) (hn : (f.read x).toInt .zero = some n) :
    (f.order x (enc f n) == some .eq) = (wv f x).isSome := by
  rw [← trunc_number g h]
  obtain ⟨h1, h2⟩ := toInt_number h
  rw [h1]
  rw [h2] at hn
  cases hn
  generalize Toward.zero.cut s (m <<< e.toNat) (-e).toNat = k
  rw [signed_val, Nat.pow_zero, Nat.mul_one]
  by_cases hk : k = 0
  · subst hk
    rw [write_zero]
    have e1 : f.order x (enc f ((if s then -1 else 1) * ((0 : Nat) : Int))) = f.order x (f.word s 0) := by
      rw [show (if s then (-1 : Int) else 1) * ((0 : Nat) : Int) = 0 from by simp]
      cases s
      · rw [word_false]
      · rw [word_true]; exact order_zero_sign f x (read_zero f) (read_negZero f)
    rw [e1]
  · have e1 : enc f ((if s then -1 else 1) * (k : Int)) = f.write (.number s k 0) := by
      unfold enc
      rw [sgn_natAbs, ← sgn_sign s k (by cases s <;> simp <;> omega)]
    rw [e1]

def e16 : Nat := 4846369599423283200
def m16 : Nat := 14069741636278059008
theorem read_e16 : double.read e16 = .number false 5000000000000000 1 := by decide +kernel
theorem read_m16 : double.read m16 = .number true 5000000000000000 1 := by decide +kernel

/-- 'x >= -1e16 && x <= 1e16' -/
def inR (x : Nat) : Bool := ((double.order x m16 == some .gt) || (double.order x m16 == some .eq)) && ((double.order x e16 == some .lt) || (double.order x e16 == some .eq))

theorem lt_pow53 {x : Nat} {s : Bool} {m : Nat} {e : Int} (h : double.read x = .number s m e) : m < 9007199254740992 := (number_place h).2

theorem order_e16 {x : Nat} {s : Bool} {m : Nat} {e : Int} (h : double.read x = .number s m e) :
    double.order x e16 = some (compare (signed s m (e - min e 1).toNat) (signed false 5000000000000000 (1 - min e 1).toNat)) ∧
    double.order x m16 = some (compare (signed s m (e - min e 1).toNat) (signed true 5000000000000000 (1 - min e 1).toNat)) := by
  simp only [Format.order, h, read_e16, read_m16, Datum.order, and_self]

theorem inR_iff {x : Nat} {s : Bool} {m : Nat} {e : Int} (h : double.read x = .number s m e) :
    inR x = (decide (signed true 5000000000000000 (1 - min e 1).toNat ≤ signed s m (e - min e 1).toNat) && decide (signed s m (e - min e 1).toNat ≤ signed false 5000000000000000 (1 - min e 1).toNat)) := by
  obtain ⟨h1, h2⟩ := order_e16 h
  unfold inR
  rw [h1, h2, cmp_gt, cmp_eq, cmp_lt, cmp_eq]
  generalize signed true 5000000000000000 (1 - min e 1).toNat = a
  generalize signed false 5000000000000000 (1 - min e 1).toNat = b
  generalize signed s m (e - min e 1).toNat = c
  rw [Bool.eq_iff_iff]
  simp
  omega

theorem inR_out {x : Nat} {s : Bool} {m : Nat} {e : Int} (h : double.read x = .number s m e) (hi : inR x = false) : (wv double x).isSome = true := by
  by_cases he : 0 ≤ e
  · unfold wv; rw [h]; simp [he]
  · exfalso
    rw [inR_iff h] at hi
    have hm := lt_pow53 h
    rw [show min e 1 = e from by omega, signed_val, signed_val, signed_val] at hi
    rw [show (e - e).toNat = 0 from by omega, Nat.pow_zero, Nat.mul_one] at hi
    have hp : 2 ^ 2 ≤ 2 ^ (1 - e).toNat := Nat.pow_le_pow_right (by decide) (by omega)
    have hp2 := Nat.mul_le_mul_left 5000000000000000 hp
    generalize 5000000000000000 * 2 ^ (1 - e).toNat = b at *
    cases s <;> simp at hi <;> omega

theorem inR_in {x : Nat} {s : Bool} {m : Nat} {e : Int} (h : double.read x = .number s m e) (hi : inR x = true) :
    ∃ n : Int, (double.read x).toInt .zero = some n ∧ n.natAbs ≤ 10000000000000000 := by
  obtain ⟨-, h2⟩ := toInt_number h
  refine ⟨_, h2, ?_⟩
  rw [signed_val, sgn_natAbs, Nat.pow_zero, Nat.mul_one]
  have hm := lt_pow53 h
  refine Nat.le_trans (cut_zero_le _ _ _) ?_
  rw [Nat.shiftLeft_eq]
  by_cases he : 1 ≤ e
  · rw [inR_iff h] at hi
    rw [show min e 1 = 1 from by omega, signed_val, signed_val, signed_val] at hi
    rw [show ((1 : Int) - 1).toNat = 0 from by omega, Nat.pow_zero, Nat.mul_one] at hi
    rw [show e.toNat = (e - 1).toNat + 1 from by omega, Nat.pow_succ, ← Nat.mul_assoc]
    generalize m * 2 ^ (e - 1).toNat = b at *
    cases s <;> simp at hi <;> omega
  · rw [show e.toNat = 0 from by omega, Nat.pow_zero, Nat.mul_one]
    omega

theorem sub_self_number {f : Format} {x : Nat} {s : Bool} {m : Nat} {e : Int} (h : f.read x = .number s m e) : f.sub x x = some (enc f 0) := by
  simp only [Format.sub, h, Datum.opposite, Datum.sum]
  have e0 : signed s m (e - min e e).toNat + signed (!s) m (e - min e e).toNat = 0 := by
    rw [signed_val, signed_val]
    cases s <;> simp <;> omega
  rw [e0]
  simp only [Option.map_some, if_true, Bool.and_not_self, Int.natAbs_zero]
  rw [write_zero, word_false]
theorem sub_self_inf {f : Format} {x : Nat} {s : Bool} (h : f.read x = .infinity s) : f.sub x x = none := by
  simp only [Format.sub, h, Datum.opposite, Datum.sum]
  cases s <;> rfl

theorem run_sub_none {P : Program} (t : TypeId) {x y : Nat} (h : double.sub x y = none) (w : World) : ∃ r s k, (binOp .sub t (.float .f64 x) (.float .f64 y)).run P w = .ok (.float .f64 r) w.drew ∧ double.read r = .nan s k := by
  obtain ⟨s, k, hk⟩ := nan_pat (w.tape w.drawn (.nanBits .f64 x y)) (w.tape w.drawn (.nanBits .f64 x y) / 2 % (2 ^ 52 - 1)) (Nat.mod_lt _ (by decide))
  have h' : FloatKind.f64.format.sub x y = none := h
  refine ⟨_, s, k, ?_, hk⟩
  simp only [binOp, Op.floatArith, h']
  rfl

theorem order_number {f : Format} {x y : Nat} {s t : Bool} {m n : Nat} {i j : Int} (hx : f.read x = .number s m i) (hy : f.read y = .number t n j) : ∃ o, f.order x y = some o := by
  simp only [Format.order, hx, hy, Datum.order]
  exact ⟨_, rfl⟩
theorem order_self {f : Format} {x : Nat} {s : Bool} {m : Nat} {e : Int} (hx : f.read x = .number s m e) : f.order x x = some .eq := by
  simp only [Format.order, hx, Datum.order]
  simp [compare, compareOfLessAndEq]
theorem order_self_inf {f : Format} {x : Nat} {s : Bool} (hx : f.read x = .infinity s) : f.order x x = some .eq := by
  simp only [Format.order, hx, Datum.order]
  simp [compare, compareOfLessAndEq]
end Go.Proofs.Ytadajelonekpmaa.Flt
