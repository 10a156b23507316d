import Derived.Test.YtadajelonekpmaaEl
namespace Go.Proofs.Ytadajelonekpmaa
open Go.RowKit Go.Proofs.Ytadajelonekpmaa.Flt

/-- the same, modulo the prime -/
def Mo (a b : Int) : Prop := a % 998244353 = b % 998244353
theorem Mo.refl (a : Int) : Mo a a := rfl
theorem Mo.symm {a b : Int} (h : Mo a b) : Mo b a := Eq.symm h
theorem Mo.trans {a b c : Int} (h : Mo a b) (k : Mo b c) : Mo a c := Eq.trans h k
theorem Mo.of_eq {a b : Int} (h : a = b) : Mo a b := by rw [h]; exact Mo.refl _
theorem Mo.add {a b c d : Int} (h : Mo a b) (k : Mo c d) : Mo (a + c) (b + d) := by
  unfold Mo at *
  rw [Int.add_emod, h, k, ← Int.add_emod]
theorem Mo.mul {a b c d : Int} (h : Mo a b) (k : Mo c d) : Mo (a * c) (b * d) := by
  unfold Mo at *
  rw [Int.mul_emod, h, k, ← Int.mul_emod]
theorem Mo.mod (a : Int) : Mo (a % 998244353) a := by unfold Mo; exact Int.emod_emod_of_dvd _ (Int.dvd_refl _)
theorem Mo.pow {a b : Int} (h : Mo a b) : ∀ n : Nat, Mo (a ^ n) (b ^ n)
  | 0 => by rw [Int.pow_zero, Int.pow_zero]; exact Mo.refl _
  | n + 1 => by rw [Int.pow_succ, Int.pow_succ]; exact (Mo.pow h n).mul h
theorem Mo.eq {a b : Int} (h : Mo a b) (h1 : 0 ≤ a) (h2 : a < 998244353) (h3 : 0 ≤ b) (h4 : b < 998244353) : a = b := by
  unfold Mo at h
  rw [Int.emod_eq_of_lt h1 h2, Int.emod_eq_of_lt h3 h4] at h
  exact h
theorem one_powI (n : Nat) : (1 : Int) ^ n = 1 := Int.one_pow
theorem Mo.sum {f g : Nat → Int} : ∀ n : Nat, (∀ k, k < n → Mo (f k) (g k)) → Mo (sumTo f n) (sumTo g n)
  | 0, _ => Mo.refl _
  | n + 1, h => (Mo.sum n fun k hk => h k (by omega)).add (h n (by omega))
theorem sum_eq {f g : Nat → Int} : ∀ n : Nat, (∀ k, k < n → f k = g k) → sumTo f n = sumTo g n
  | 0, _ => rfl
  | n + 1, h => by rw [sumTo, sumTo, sum_eq n fun k hk => h k (by omega), h n (by omega)]
theorem sum_add (f g : Nat → Int) : ∀ n, sumTo (fun k => f k + g k) n = sumTo f n + sumTo g n
  | 0 => rfl
  | n + 1 => by rw [sumTo, sumTo, sumTo, sum_add f g n]; omega
theorem sum_mul (c : Int) (f : Nat → Int) : ∀ n, sumTo (fun k => c * f k) n = c * sumTo f n
  | 0 => by simp [sumTo]
  | n + 1 => by rw [sumTo, sumTo, sum_mul c f n, Int.mul_add]
theorem mul_sum (c : Int) (f : Nat → Int) (n : Nat) : sumTo (fun k => f k * c) n = sumTo f n * c := by
  rw [Int.mul_comm, ← sum_mul]
  exact sum_eq n fun k _ => Int.mul_comm _ _
theorem sum_zero : ∀ n, sumTo (fun _ => 0) n = 0
  | 0 => rfl
  | n + 1 => by rw [sumTo, sum_zero n]; rfl
theorem sum_const (c : Int) : ∀ n : Nat, sumTo (fun _ => c) n = n * c
  | 0 => by simp [sumTo]
  | n + 1 => by rw [sumTo, sum_const c n, Int.natCast_add, Int.add_mul]; simp
theorem sum_swap (f : Nat → Nat → Int) (m : Nat) : ∀ n, sumTo (fun k => sumTo (fun j => f k j) m) n = sumTo (fun j => sumTo (fun k => f k j) n) m
  | 0 => by
    rw [sum_eq (f := fun j => sumTo (fun k => f k j) 0) (g := fun _ => 0) m fun j _ => rfl, sum_zero]; rfl
  | n + 1 => by
    rw [sumTo, sum_swap f m n, ← sum_add]
    exact sum_eq m fun j _ => rfl
theorem sum_one (f : Nat → Int) (i : Nat) : ∀ n, i < n → sumTo (fun j => if j = i then f j else 0) n = f i
  | 0, h => by omega
  | n + 1, h => by
    rw [sumTo]
    by_cases hi : i = n
    · subst hi
      rw [if_pos rfl, sum_eq (g := fun _ => 0) i fun j hj => if_neg (by omega), sum_zero, Int.zero_add]
    · rw [sum_one f i n (by omega), if_neg (by omega), Int.add_zero]
theorem sum_head (f : Nat → Int) : ∀ n, sumTo f (n + 1) = f 0 + sumTo (fun k => f (k + 1)) n
  | 0 => by simp [sumTo]
  | n + 1 => by rw [sumTo, sum_head f n, sumTo]; omega
theorem sum_turn1 (f : Nat → Int) (n : Nat) : sumTo (fun s => f ((s + 1) % n)) n = sumTo f n := by
  cases n with
  | zero => rfl
  | succ n =>
    rw [sumTo, Nat.mod_self, sum_head f n, Int.add_comm]
    congr 1
    exact sum_eq n fun s hs => by rw [Nat.mod_eq_of_lt (by omega)]
theorem sum_turn (f : Nat → Int) (n : Nat) : ∀ k, sumTo (fun s => f ((s + k) % n)) n = sumTo f n
  | 0 => sum_eq n fun s hs => by rw [Nat.add_zero, Nat.mod_eq_of_lt hs]
  | k + 1 => by
    rw [← sum_turn f n k, ← sum_turn1 (fun s => f ((s + k) % n)) n]
    refine sum_eq n fun s _ => ?_
    show f _ = f _
    congr 1
    rw [Nat.mod_add_mod]
    congr 1; omega

theorem pow_shift {w : Int} {n : Nat} (hw : Mo (w ^ n) 1) (j m : Nat) : Mo (w ^ (j * m)) (w ^ (j % n * m)) := by
  have e : j * m = n * (j / n * m) + j % n * m := by
    have := Nat.div_add_mod j n
    rw [← Nat.mul_assoc, ← Nat.add_mul, this]
  rw [e, Int.pow_add, Int.pow_mul]
  have := ((hw.pow (j / n * m)).mul (Mo.refl (w ^ (j % n * m))))
  rw [Int.one_pow, Int.one_mul] at this
  exact this

/-- the transform of a correlation -/
theorem trans_cor (a b : Nat → Int) (w : Int) (n m : Nat) (hm : m < n) (hw : Mo (w ^ n) 1) :
    Mo (sumTo (fun s => sumTo (fun k => a ((s + k) % n) * b k) n * w ^ (s * m)) n) (sumTo (fun j => a j * w ^ (j * m)) n * sumTo (fun k => b k * w ^ (k * ((n - m) % n))) n) := by
  have e1 : sumTo (fun s => sumTo (fun k => a ((s + k) % n) * b k) n * w ^ (s * m)) n = sumTo (fun k => sumTo (fun s => a ((s + k) % n) * b k * w ^ (s * m)) n) n := by
    rw [← sum_swap]
    exact sum_eq n fun s _ => (mul_sum _ _ n).symm
  rw [e1, ← sum_mul]
  refine Mo.sum n fun k hk => ?_
  have hd : Mo (w ^ (k * m) * w ^ (k * ((n - m) % n))) 1 := by
    rw [← Int.pow_add, ← Nat.mul_add]
    have : m + (n - m) % n = n ∨ m + (n - m) % n = 0 := by
      rcases Nat.eq_zero_or_pos m with h0 | h0
      · subst h0; right; simp
      · left; rw [Nat.mod_eq_of_lt (by omega)]; omega
    rcases this with h | h
    · rw [h, Nat.mul_comm, Int.pow_mul]
      have := hw.pow k
      rwa [Int.one_pow] at this
    · rw [h, Nat.mul_zero, Int.pow_zero]; exact Mo.refl _
  have e2 : ∀ s, Mo (a ((s + k) % n) * b k * w ^ (s * m)) ((a ((s + k) % n) * w ^ ((s + k) % n * m)) * (b k * w ^ (k * ((n - m) % n)))) := by
    intro s
    have h1 : Mo (w ^ (s * m)) (w ^ ((s + k) % n * m) * w ^ (k * ((n - m) % n))) := by
      have h2 : Mo (w ^ (s * m) * (w ^ (k * m) * w ^ (k * ((n - m) % n)))) (w ^ (s * m) * 1) := (Mo.refl _).mul hd
      rw [Int.mul_one, ← Int.mul_assoc, ← Int.pow_add, ← Nat.add_mul] at h2
      exact h2.symm.trans ((pow_shift hw (s + k) m).mul (Mo.refl _))
    have h3 := (Mo.refl (a ((s + k) % n) * b k)).mul h1
    refine h3.trans (Mo.of_eq ?_)
    generalize w ^ ((s + k) % n * m) = x
    generalize w ^ (k * ((n - m) % n)) = y
    rw [Int.mul_assoc, Int.mul_assoc, Int.mul_left_comm (b k)]
  refine (Mo.sum n fun s _ => e2 s).trans ?_
  rw [mul_sum, sum_turn (fun j => a j * w ^ (j * m)) n k]
  exact Mo.refl _

/-- the inverse transform of a transform -/
theorem trans_inv (a : Nat → Int) (w v c : Int) (n i : Nat) (hi : i < n) (hwv : Mo (w * v) 1) (hc : Mo (n * c) 1)
    (hw : ∀ d, 0 < d → d < n → Mo (sumTo (fun k => w ^ (d * k)) n) 0) (hv : ∀ d, 0 < d → d < n → Mo (sumTo (fun k => v ^ (d * k)) n) 0) :
    Mo (sumTo (fun k => sumTo (fun j => a j * w ^ (j * k)) n * v ^ (k * i)) n * c) (a i) := by
  have e1 : sumTo (fun k => sumTo (fun j => a j * w ^ (j * k)) n * v ^ (k * i)) n = sumTo (fun j => a j * sumTo (fun k => w ^ (j * k) * v ^ (k * i)) n) n := by
    have : sumTo (fun k => sumTo (fun j => a j * w ^ (j * k)) n * v ^ (k * i)) n = sumTo (fun k => sumTo (fun j => a j * w ^ (j * k) * v ^ (k * i)) n) n :=
      sum_eq n fun k _ => (mul_sum _ _ n).symm
    rw [this, sum_swap]
    refine sum_eq n fun j _ => ?_
    rw [← sum_mul]
    exact sum_eq n fun k _ => Int.mul_assoc _ _ _
  have hone : ∀ t : Nat, Mo (w ^ t * v ^ t) 1 := by
    intro t
    rw [← Int.mul_pow]
    have := hwv.pow t
    rwa [Int.one_pow] at this
  have e2 : ∀ j, j < n → Mo (sumTo (fun k => w ^ (j * k) * v ^ (k * i)) n) (if j = i then n else 0) := by
    intro j hj
    rcases Nat.lt_trichotomy j i with h | h | h
    · rw [if_neg (by omega)]
      refine (Mo.sum n (g := fun k => v ^ ((i - j) * k)) fun k _ => ?_).trans (hv (i - j) (by omega) (by omega))
      have e : k * i = j * k + (i - j) * k := by rw [← Nat.add_mul, show j + (i - j) = i from by omega, Nat.mul_comm]
      rw [e, Int.pow_add, ← Int.mul_assoc]
      have := (hone (j * k)).mul (Mo.refl (v ^ ((i - j) * k)))
      rwa [Int.one_mul] at this
    · subst h
      rw [if_pos rfl]
      have : Mo (sumTo (fun k => w ^ (j * k) * v ^ (k * j)) n) (sumTo (fun _ => 1) n) := Mo.sum n fun k _ => by
        rw [Nat.mul_comm k j]; exact hone _
      rw [sum_const, Int.mul_one] at this
      exact this
    · rw [if_neg (by omega)]
      refine (Mo.sum n (g := fun k => w ^ ((j - i) * k)) fun k _ => ?_).trans (hw (j - i) (by omega) (by omega))
      have e : j * k = (j - i) * k + k * i := by rw [Nat.mul_comm k i, ← Nat.add_mul, show j - i + i = j from by omega]
      rw [e, Int.pow_add, Int.mul_assoc]
      have := (Mo.refl (w ^ ((j - i) * k))).mul (hone (k * i))
      rwa [Int.mul_one] at this
  rw [e1]
  have e3 : Mo (sumTo (fun j => a j * sumTo (fun k => w ^ (j * k) * v ^ (k * i)) n) n) (sumTo (fun j => if j = i then a j * n else 0) n) := by
    refine Mo.sum n fun j hj => ?_
    refine ((Mo.refl (a j)).mul (e2 j hj)).trans (Mo.of_eq ?_)
    by_cases h : j = i
    · rw [if_pos h, if_pos h]
    · rw [if_neg h, if_neg h, Int.mul_zero]
  rw [sum_one (fun j => a j * (n : Int)) i n hi] at e3
  refine (e3.mul (Mo.refl c)).trans ?_
  rw [Int.mul_assoc]
  have := (Mo.refl (a i)).mul hc
  rwa [Int.mul_one] at this

/-- a power, modulo the prime, as it is reckoned: t bounds the digits of the exponent -/
def pmF : Nat → Nat → Nat → Nat → Nat
  | 0, _, _, r => r
  | t + 1, e, x, r => if e = 0 then r else pmF t (e / 2) (x * x % 998244353) (if e % 2 = 1 then r * x % 998244353 else r)
theorem pmF_zero (t x r : Nat) : pmF t 0 x r = r := by cases t <;> simp [pmF]
theorem pmF_lt : ∀ t e x r : Nat, r < 998244353 → pmF t e x r < 998244353
  | 0, _, _, r, h => h
  | t + 1, e, x, r, h => by
    rw [pmF]
    split
    · exact h
    · refine pmF_lt t _ _ _ ?_
      split
      · exact Nat.mod_lt _ (by decide)
      · exact h
theorem cast_mod (a : Nat) : ((a % 998244353 : Nat) : Int) = (a : Int) % 998244353 := Int.natCast_emod a 998244353
theorem pmF_spec : ∀ t e x r : Nat, e < 2 ^ t → Mo (pmF t e x r) (r * (x : Int) ^ e)
  | 0, e, x, r, h => by
    have : e = 0 := by simp at h; omega
    subst this
    rw [pmF, Int.pow_zero, Int.mul_one]; exact Mo.refl _
  | t + 1, e, x, r, h => by
    rw [pmF]
    split
    · rename_i h0; subst h0; rw [Int.pow_zero, Int.mul_one]; exact Mo.refl _
    · have h1 : e / 2 < 2 ^ t := by rw [Nat.pow_succ] at h; omega
      refine (pmF_spec t (e / 2) _ _ h1).trans ?_
      have hx : Mo ((x * x % 998244353 : Nat) : Int) ((x : Int) ^ 2) := by
        rw [cast_mod, Int.natCast_mul]
        refine (Mo.mod _).trans (Mo.of_eq ?_)
        rw [Int.pow_succ, Int.pow_succ, Int.pow_zero, Int.one_mul]
      have hp := hx.pow (e / 2)
      rw [← Int.pow_mul] at hp
      split
      · rename_i h2
        have hr : Mo ((r * x % 998244353 : Nat) : Int) (r * x) := by rw [cast_mod, Int.natCast_mul]; exact Mo.mod _
        refine (hr.mul hp).trans (Mo.of_eq ?_)
        rw [Int.mul_assoc, Int.mul_comm (x : Int), ← Int.pow_succ]
        congr 2; omega
      · refine ((Mo.refl _).mul hp).trans (Mo.of_eq ?_)
        congr 2; omega

/-- the root of n, and what is held against it -/
def rootN (n : Nat) : Nat := pmF 31 (998244352 / n) 3 1
def recN (x : Nat) : Nat := pmF 31 998244351 x 1
/-- the sum of the first n powers, and the next power -/
def smod (r : Nat) : Nat → Nat × Nat
  | 0 => (0, 1)
  | n + 1 => (((smod r n).1 + (smod r n).2) % 998244353, (smod r n).2 * r % 998244353)
theorem smod_spec (r : Nat) : ∀ n, Mo ((smod r n).1 : Nat) (sumTo (fun k => (r : Int) ^ k) n) ∧ Mo ((smod r n).2 : Nat) ((r : Int) ^ n)
  | 0 => ⟨Mo.refl _, by rw [Int.pow_zero]; exact Mo.refl _⟩
  | n + 1 => by
    obtain ⟨h1, h2⟩ := smod_spec r n
    constructor
    · rw [smod, sumTo, cast_mod, Int.natCast_add]
      exact (Mo.mod _).trans (h1.add h2)
    · rw [smod, cast_mod, Int.natCast_mul, Int.pow_succ]
      exact (Mo.mod _).trans (h2.mul (Mo.refl _))
/-- what a root of n must be -/
def sums0 (w n : Nat) : Bool := (List.range n).all fun d => d == 0 || (smod (smod w d).2 n).1 % 998244353 == 0
theorem sums0_spec {w n : Nat} (h : sums0 w n = true) (d : Nat) (h0 : 0 < d) (hd : d < n) : Mo (sumTo (fun k => (w : Int) ^ (d * k)) n) 0 := by
  have h1 := List.all_eq_true.1 h d (List.mem_range.2 hd)
  rw [Bool.or_eq_true, beq_iff_eq, beq_iff_eq] at h1
  rcases h1 with h1 | h1
  · omega
  · have h2 : Mo (sumTo (fun k => (w : Int) ^ (d * k)) n) (sumTo (fun k => ((smod w d).2 : Int) ^ k) n) := Mo.sum n fun k _ => by
      rw [Int.pow_mul]
      exact ((smod_spec w d).2.symm).pow k
    refine h2.trans ((smod_spec (smod w d).2 n).1.symm.trans ?_)
    unfold Mo
    rw [← cast_mod, h1]; rfl
def rootOk (n : Nat) : Bool := sums0 (rootN n) n && (sums0 (recN (rootN n)) n && ((smod (rootN n) n).2 == 1 && (rootN n * recN (rootN n) % 998244353 == 1 && n * recN n % 998244353 == 1)))
structure Root (n : Nat) : Prop where
  w0 : ∀ d, 0 < d → d < n → Mo (sumTo (fun k => (rootN n : Int) ^ (d * k)) n) 0
  v0 : ∀ d, 0 < d → d < n → Mo (sumTo (fun k => (recN (rootN n) : Int) ^ (d * k)) n) 0
  wn : Mo ((rootN n : Int) ^ n) 1
  wv : Mo ((rootN n : Int) * recN (rootN n)) 1
  nc : Mo ((n : Int) * recN n) 1
theorem Root.of {n : Nat} (h : rootOk n = true) : Root n := by
  unfold rootOk at h
  rw [Bool.and_eq_true, Bool.and_eq_true, Bool.and_eq_true, Bool.and_eq_true, beq_iff_eq, beq_iff_eq, beq_iff_eq] at h
  obtain ⟨h1, h2, h3, h4, h5⟩ := h
  refine ⟨sums0_spec h1, sums0_spec h2, ?_, ?_, ?_⟩
  · have := (smod_spec (rootN n) n).2
    rw [h3] at this
    exact this.symm
  · unfold Mo; rw [← Int.natCast_mul, ← cast_mod, h4]; rfl
  · unfold Mo; rw [← Int.natCast_mul, ← cast_mod, h5]; rfl
theorem roots_ok : [1, 2, 4, 8, 16, 32, 64].all rootOk = true := by decide +kernel
theorem Root.at {n : Nat} (h : n = 1 ∨ n = 2 ∨ n = 4 ∨ n = 8 ∨ n = 16 ∨ n = 32 ∨ n = 64) : Root n :=
  Root.of (List.all_eq_true.1 roots_ok n (by simp; exact h))
theorem rootN_lt (n : Nat) : rootN n < 998244353 := pmF_lt _ _ _ _ (by decide)
theorem recN_lt (n : Nat) : recN n < 998244353 := pmF_lt _ _ _ _ (by decide)

/-- a power of a number, modulo the prime -/
def stepOf (w : Int) (k : Nat) : Int := w ^ k % 998244353
theorem stepOf_b (w : Int) (k : Nat) : 0 ≤ stepOf w k ∧ stepOf w k < 998244353 := ⟨Int.emod_nonneg _ (by decide), Int.emod_lt_of_pos _ (by decide)⟩
theorem stepOf_zero (w : Int) : stepOf w 0 = 1 := by unfold stepOf; rw [Int.pow_zero]; rfl
theorem stepOf_mo (w : Int) (k : Nat) : Mo (stepOf w k) (w ^ k) := Mo.mod _
theorem stepOf_succ (w : Int) (k : Nat) : stepOf w (k + 1) = stepOf w k * w % 998244353 := by
  have h : Mo (stepOf w k * w) (w ^ (k + 1)) := by rw [Int.pow_succ]; exact (stepOf_mo w k).mul (Mo.refl _)
  exact h.symm
theorem stepOf_pm (w k : Nat) (h : k < 2 ^ 31) : ((pmF 31 k w 1 : Nat) : Int) = stepOf w k := by
  have h1 := pmF_spec 31 k w 1 h
  have h2 := pmF_lt 31 k w 1 (by decide)
  obtain ⟨h3, h4⟩ := stepOf_b w k
  refine Mo.eq (h1.trans ?_) (by omega) (by omega) h3 h4
  have := (stepOf_mo w k).symm
  simpa using this

/-- the sum of the first j numbers times the powers of a step, and the next power -/
def trS (xs : List Int) (st : Int) : Nat → Int × Int
  | 0 => (0, 1)
  | j + 1 => (((trS xs st j).1 + xs.getD j 0 * (trS xs st j).2) % 998244353, (trS xs st j).2 * st % 998244353)
theorem trS_b (xs : List Int) (st : Int) : ∀ j, 0 ≤ (trS xs st j).1 ∧ (trS xs st j).1 < 998244353 ∧ 0 ≤ (trS xs st j).2 ∧ (trS xs st j).2 < 998244353
  | 0 => ⟨by show (0 : Int) ≤ 0; decide, by show (0 : Int) < 998244353; decide, by show (0 : Int) ≤ 1; decide, by show (1 : Int) < 998244353; decide⟩
  | j + 1 => ⟨Int.emod_nonneg _ (by decide), Int.emod_lt_of_pos _ (by decide), Int.emod_nonneg _ (by decide), Int.emod_lt_of_pos _ (by decide)⟩
theorem trS_spec (xs : List Int) (w : Int) (k : Nat) : ∀ j, Mo (trS xs (stepOf w k) j).1 (sumTo (fun i => xs.getD i 0 * w ^ (i * k)) j) ∧ Mo (trS xs (stepOf w k) j).2 (w ^ (j * k))
  | 0 => ⟨Mo.refl _, by rw [Nat.zero_mul, Int.pow_zero]; exact Mo.refl _⟩
  | j + 1 => by
    obtain ⟨h1, h2⟩ := trS_spec xs w k j
    constructor
    · exact (Mo.mod _).trans (h1.add ((Mo.refl _).mul h2))
    · rw [Nat.succ_mul, Int.pow_add]
      exact (Mo.mod _).trans (h2.mul (stepOf_mo w k))
/-- the number k of the transform with the powers of w, times c -/
def trAt (xs : List Int) (w c : Int) (k : Nat) : Int := (trS xs (stepOf w k) xs.length).1 * c % 998244353
def trList (xs : List Int) (w c : Int) : List Int := (List.range xs.length).map (trAt xs w c)
theorem trList_length (xs : List Int) (w c : Int) : (trList xs w c).length = xs.length := by simp [trList]
theorem trAt_b (xs : List Int) (w c : Int) (k : Nat) : 0 ≤ trAt xs w c k ∧ trAt xs w c k < 998244353 := ⟨Int.emod_nonneg _ (by decide), Int.emod_lt_of_pos _ (by decide)⟩
theorem trList_get (xs : List Int) (w c : Int) (k : Nat) (h : k < xs.length) : (trList xs w c).getD k 0 = trAt xs w c k := by
  simp [trList, List.getD_eq_getElem?_getD, List.getElem?_range h]
theorem trAt_mo (xs : List Int) (w c : Int) (k : Nat) : Mo (trAt xs w c k) (sumTo (fun i => xs.getD i 0 * w ^ (i * k)) xs.length * c) :=
  (Mo.mod _).trans ((trS_spec xs w k _).1.mul (Mo.refl _))
theorem trAt_one (xs : List Int) (w : Int) (k : Nat) : trAt xs w 1 k = (trS xs (stepOf w k) xs.length).1 := by
  obtain ⟨h1, h2, -, -⟩ := trS_b xs (stepOf w k) xs.length
  unfold trAt
  rw [Int.mul_one, Int.emod_eq_of_lt h1 h2]

/-- the inverse transform undoes the transform, and the other way round -/
theorem tr_inv (xs : List Int) (w v c d : Int) (hb : ∀ i, i < xs.length → 0 ≤ xs.getD i 0 ∧ xs.getD i 0 < 998244353) (hwv : Mo (w * v) 1) (hc : Mo (xs.length * (c * d)) 1)
    (hw : ∀ d, 0 < d → d < xs.length → Mo (sumTo (fun k => w ^ (d * k)) xs.length) 0) (hv : ∀ d, 0 < d → d < xs.length → Mo (sumTo (fun k => v ^ (d * k)) xs.length) 0) :
    trList (trList xs w c) v d = xs := by
  have hl : (trList (trList xs w c) v d).length = xs.length := by rw [trList_length, trList_length]
  apply List.ext_getElem hl
  intro i h1 h2
  have e1 : (trList (trList xs w c) v d)[i] = trAt (trList xs w c) v d i := by
    have := trList_get (trList xs w c) v d i (by rw [trList_length]; exact h2)
    rw [List.getD_eq_getElem?_getD, List.getElem?_eq_getElem h1, Option.getD_some] at this
    exact this
  have e2 : xs[i] = xs.getD i 0 := by rw [List.getD_eq_getElem?_getD, List.getElem?_eq_getElem h2, Option.getD_some]
  rw [e1, e2]
  obtain ⟨b1, b2⟩ := trAt_b (trList xs w c) v d i
  obtain ⟨b3, b4⟩ := hb i h2
  refine Mo.eq ((trAt_mo _ _ _ _).trans ?_) b1 b2 b3 b4
  rw [trList_length]
  have h3 : Mo (sumTo (fun k => (trList xs w c).getD k 0 * v ^ (k * i)) xs.length * d) (sumTo (fun k => sumTo (fun j => xs.getD j 0 * w ^ (j * k)) xs.length * v ^ (k * i)) xs.length * (c * d)) := by
    rw [← Int.mul_assoc]
    refine Mo.mul ?_ (Mo.refl d)
    rw [← mul_sum]
    refine Mo.sum _ fun k hk => ?_
    rw [trList_get _ _ _ _ hk]
    refine ((trAt_mo xs w c k).mul (Mo.refl _)).trans (Mo.of_eq ?_)
    rw [Int.mul_assoc, Int.mul_assoc, Int.mul_comm c]
  exact h3.trans (trans_inv (fun j => xs.getD j 0) w v (c * d) xs.length i h2 hwv hc hw hv)

theorem corTo_mo (xs ys : List Int) (s : Nat) : ∀ k, Mo (corTo xs ys s k) (sumTo (fun i => xs.getD ((s + i) % xs.length) 0 * ys.getD i 0) k)
  | 0 => Mo.refl _
  | k + 1 => (Mo.mod _).trans ((corTo_mo xs ys s k).add (Mo.refl _))
theorem corList_get (xs ys : List Int) (s : Nat) (h : s < xs.length) : (corList xs ys).getD s 0 = corTo xs ys s xs.length := by
  simp [corList, List.getD_eq_getElem?_getD, List.getElem?_range h]
theorem corList_length (xs ys : List Int) : (corList xs ys).length = xs.length := by simp [corList]

/-- the transform of the correlation -/
theorem tr_cor (xs ys : List Int) (w : Int) (m : Nat) (hm : m < xs.length) (hl : xs.length = ys.length) (hw : Mo (w ^ xs.length) 1) :
    trAt (corList xs ys) w 1 m = trAt xs w 1 m * trAt ys w 1 ((xs.length - m) % xs.length) % 998244353 := by
  obtain ⟨b1, b2⟩ := trAt_b (corList xs ys) w 1 m
  refine Mo.eq ?_ b1 b2 (Int.emod_nonneg _ (by decide)) (Int.emod_lt_of_pos _ (by decide))
  refine Mo.trans ?_ (Mo.mod _).symm
  refine (trAt_mo _ _ _ _).trans ?_
  refine Mo.trans ?_ ((trAt_mo xs w 1 m).mul (trAt_mo ys w 1 _)).symm
  rw [Int.mul_one, Int.mul_one, Int.mul_one, corList_length, ← hl]
  refine (Mo.sum (g := fun s => sumTo (fun k => xs.getD ((s + k) % xs.length) 0 * ys.getD k 0) xs.length * w ^ (s * m)) _ fun s hs => ?_).trans (trans_cor (fun j => xs.getD j 0) (fun j => ys.getD j 0) w xs.length m hm hw)
  rw [corList_get _ _ _ hs]
  exact (corTo_mo xs ys s _).mul (Mo.refl _)
end Go.Proofs.Ytadajelonekpmaa
