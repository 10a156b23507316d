import Derived.Test.YtcjdbhcpcigmdaaDoorFlt
namespace Go.Proofs.YtcjdbhcpcigmdaaDoor.Flt
open Go Ieee

theorem signed_zero (s : Bool) (u : Nat) : signed s 0 u = 0 := by rw [signed_val]; simp

theorem cmp_lt (a b : Int) : (some (compare a b) == some Ordering.lt) = decide (a < b) := by
  have e : (some (compare a b) == some Ordering.lt) = (compare a b == Ordering.lt) := rfl
  rw [e]
  simp only [compare, compareOfLessAndEq]
  by_cases h1 : a < b
  · simp [h1]
  · by_cases h2 : a = b
    · simp [h2]
    · simp [h1, h2]
theorem cmp_gt (a b : Int) : (some (compare a b) == some Ordering.gt) = decide (b < a) := by
  have e : (some (compare a b) == some Ordering.gt) = (compare a b == Ordering.gt) := rfl
  rw [e]
  simp only [compare, compareOfLessAndEq]
  by_cases h1 : a < b
  · simp [h1]; omega
  · by_cases h2 : a = b
    · simp [h2]
    · simp [h1, h2]; omega
theorem cmp_eq (a b : Int) : (some (compare a b) == some Ordering.eq) = decide (a = b) := by
  have e : (some (compare a b) == some Ordering.eq) = (compare a b == Ordering.eq) := rfl
  rw [e]
  simp only [compare, compareOfLessAndEq]
  by_cases h1 : a < b
  · simp [h1]; omega
  · by_cases h2 : a = b
    · simp [h2]
    · simp [h1, h2]

theorem order_comm (f : Format) (x y : Nat) : (f.order y x == some .eq) = (f.order x y == some .eq) := by
  simp only [Format.order]
  cases f.read x with
  | number s m i =>
    cases f.read y with
    | number t n j =>
      simp only [Datum.order]
      rw [cmp_eq, cmp_eq, Int.min_comm]
      exact decide_eq_decide.2 ⟨Eq.symm, Eq.symm⟩
    | infinity t => cases t <;> rfl
    | nan t k => rfl
  | infinity s =>
    cases f.read y with
    | number t n j => cases s <;> rfl
    | infinity t => cases s <;> cases t <;> rfl
    | nan t k => rfl
  | nan s k => cases f.read y <;> rfl

/-- the order with a zero does not ask for its sign -/
theorem order_zero_sign (f : Format) (x : Nat) {y z : Nat} {s t : Bool} (hy : f.read y = .number s 0 f.leastPlace) (hz : f.read z = .number t 0 f.leastPlace) : f.order x y = f.order x z := by
  simp only [Format.order, hy, hz]
  cases f.read x <;> simp [Datum.order, signed_zero]

theorem toInt_number {f : Format} {x : Nat} {s : Bool} {m : Nat} {e : Int} (h : f.read x = .number s m e) :
    (f.read x).integral .zero = .number s (Toward.zero.cut s (m <<< e.toNat) (-e).toNat) 0 ∧ (f.read x).toInt .zero = some (signed s (Toward.zero.cut s (m <<< e.toNat) (-e).toNat) 0) := by
  have h1 : (f.read x).integral .zero = .number s (Toward.zero.cut s (m <<< e.toNat) (-e).toNat) 0 := by rw [h]; rfl
  refine ⟨h1, ?_⟩
  unfold Datum.toInt
  rw [h1]

theorem cut_zero_le (s : Bool) (k d : Nat) : Toward.zero.cut s k d ≤ k := by
  unfold Toward.cut
  simp only [Bool.toNat_false, Nat.add_zero]
  exact Nat.div_le_self _ _

/-- float64(int(x)) == x -/
theorem whole_cast {f : Format} (g : Good f) {x : Nat} {s : Bool} {m : Nat} {e n : Int} (h : f.read x = .number s m e) (hn : (f.read x).toInt .zero = some n) :
    (f.order x (enc f n) == some .eq) = (wv f x).isSome := by
  rw [← trunc_number g h]
  obtain ⟨h1, h2⟩ := toInt_number h
  rw [h1]
  rw [h2] at hn
  cases hn
  generalize Toward.zero.cut s (m <<< e.toNat) (-e).toNat = k
  rw [signed_val, Nat.pow_zero, Nat.mul_one]
  by_cases hk : k = 0
  · subst hk
    rw [write_zero]
    have e1 : f.order x (enc f ((if s then -1 else 1) * ((0 : Nat) : Int))) = f.order x (f.word s 0) := by
      rw [show (if s then (-1 : Int) else 1) * ((0 : Nat) : Int) = 0 from by simp]
      cases s
      · rw [word_false]
      · rw [word_true]; exact order_zero_sign f x (read_zero f) (read_negZero f)
    rw [e1]
  · have e1 : enc f ((if s then -1 else 1) * (k : Int)) = f.write (.number s k 0) := by
      unfold enc
      rw [sgn_natAbs, ← sgn_sign s k (by cases s <;> simp <;> omega)]
    rw [e1]

def e16 : Nat := 4846369599423283200
def m16 : Nat := 14069741636278059008
theorem read_e16 : double.read e16 = .number false 5000000000000000 1 := by decide +kernel
theorem read_m16 : double.read m16 = .number true 5000000000000000 1 := by decide +kernel

/-- 'x >= -1e16 && x <= 1e16' -/
def inR (x : Nat) : Bool := ((double.order x m16 == some .gt) || (double.order x m16 == some .eq)) && ((double.order x e16 == some .lt) || (double.order x e16 == some .eq))

theorem lt_pow53 {x : Nat} {s : Bool} {m : Nat} {e : Int} (h : double.read x = .number s m e) : m < 9007199254740992 := (number_place h).2

theorem order_e16 {x : Nat} {s : Bool} {m : Nat} {e : Int} (h : double.read x = .number s m e) :
    double.order x e16 = some (compare (signed s m (e - min e 1).toNat) (signed false 5000000000000000 (1 - min e 1).toNat)) ∧
    double.order x m16 = some (compare (signed s m (e - min e 1).toNat) (signed true 5000000000000000 (1 - min e 1).toNat)) := by
  simp only [Format.order, h, read_e16, read_m16, Datum.order, and_self]

theorem inR_iff {x : Nat} {s : Bool} {m : Nat} {e : Int} (h : double.read x = .number s m e) :
    inR x = (decide (signed true 5000000000000000 (1 - min e 1).toNat ≤ signed s m (e - min e 1).toNat) && decide (signed s m (e - min e 1).toNat ≤ signed false 5000000000000000 (1 - min e 1).toNat)) := by
  obtain ⟨h1, h2⟩ := order_e16 h
  unfold inR
  rw [h1, h2, cmp_gt, cmp_eq, cmp_lt, cmp_eq]
  generalize signed true 5000000000000000 (1 - min e 1).toNat = a
  generalize signed false 5000000000000000 (1 - min e 1).toNat = b
  generalize signed s m (e - min e 1).toNat = c
  rw [Bool.eq_iff_iff]
  simp
  omega

theorem inR_out {x : Nat} {s : Bool} {m : Nat} {e : Int} (h : double.read x = .number s m e) (hi : inR x = false) : (wv double x).isSome = true := by
  by_cases he : 0 ≤ e
  · unfold wv; rw [h]; simp [he]
  · exfalso
    rw [inR_iff h] at hi
    have hm := lt_pow53 h
    rw [show min e 1 = e from by omega, signed_val, signed_val, signed_val] at hi
    rw [show (e - e).toNat = 0 from by omega, Nat.pow_zero, Nat.mul_one] at hi
    have hp : 2 ^ 2 ≤ 2 ^ (1 - e).toNat := Nat.pow_le_pow_right (by decide) (by omega)
    have hp2 := Nat.mul_le_mul_left 5000000000000000 hp
    generalize 5000000000000000 * 2 ^ (1 - e).toNat = b at *
    cases s <;> simp at hi <;> omega

theorem inR_in {x : Nat} {s : Bool} {m : Nat} {e : Int} (h : double.read x = .number s m e) (hi : inR x = true) :
    ∃ n : Int, (double.read x).toInt .zero = some n ∧ n.natAbs ≤ 10000000000000000 := by
  obtain ⟨-, h2⟩ := toInt_number h
  refine ⟨_, h2, ?_⟩
  rw [signed_val, sgn_natAbs, Nat.pow_zero, Nat.mul_one]
  have hm := lt_pow53 h
  refine Nat.le_trans (cut_zero_le _ _ _) ?_
  rw [Nat.shiftLeft_eq]
  by_cases he : 1 ≤ e
  · rw [inR_iff h] at hi
    rw [show min e 1 = 1 from by omega, signed_val, signed_val, signed_val] at hi
    rw [show ((1 : Int) - 1).toNat = 0 from by omega, Nat.pow_zero, Nat.mul_one] at hi
    rw [show e.toNat = (e - 1).toNat + 1 from by omega, Nat.pow_succ, ← Nat.mul_assoc]
    generalize m * 2 ^ (e - 1).toNat = b at *
    cases s <;> simp at hi <;> omega
  · rw [show e.toNat = 0 from by omega, Nat.pow_zero, Nat.mul_one]
    omega

theorem sub_self_number {f : Format} {x : Nat} {s : Bool} {m : Nat} {e : Int} (h : f.read x = .number s m e) : f.sub x x = some (enc f 0) := by
  simp only [Format.sub, h, Datum.opposite, Datum.sum]
  have e0 : signed s m (e - min e e).toNat + signed (!s) m (e - min e e).toNat = 0 := by
    rw [signed_val, signed_val]
    cases s <;> simp <;> omega
  rw [e0]
  simp only [Option.map_some, if_true, Bool.and_not_self, Int.natAbs_zero]
  rw [write_zero, word_false]
theorem sub_self_inf {f : Format} {x : Nat} {s : Bool} (h : f.read x = .infinity s) : f.sub x x = none := by
  simp only [Format.sub, h, Datum.opposite, Datum.sum]
  cases s <;> rfl

theorem run_sub_none {P : Program} (t : TypeId) {x y : Nat} (h : double.sub x y = none) (w : World) : ∃ r s k, (binOp .sub t (.float .f64 x) (.float .f64 y)).run P w = .ok (.float .f64 r) w.drew ∧ double.read r = .nan s k := by
  obtain ⟨s, k, hk⟩ := nan_pat (w.tape w.drawn (.nanBits .f64 x y)) (w.tape w.drawn (.nanBits .f64 x y) / 2 % (2 ^ 52 - 1)) (Nat.mod_lt _ (by decide))
  have h' : FloatKind.f64.format.sub x y = none := h
  refine ⟨_, s, k, ?_, hk⟩
  simp only [binOp, Op.floatArith, h']
  rfl

theorem order_number {f : Format} {x y : Nat} {s t : Bool} {m n : Nat} {i j : Int} (hx : f.read x = .number s m i) (hy : f.read y = .number t n j) : ∃ o, f.order x y = some o := by
  simp only [Format.order, hx, hy, Datum.order]
  exact ⟨_, rfl⟩
theorem order_self {f : Format} {x : Nat} {s : Bool} {m : Nat} {e : Int} (hx : f.read x = .number s m e) : f.order x x = some .eq := by
  simp only [Format.order, hx, Datum.order]
  simp [compare, compareOfLessAndEq]
theorem order_self_inf {f : Format} {x : Nat} {s : Bool} (hx : f.read x = .infinity s) : f.order x x = some .eq := by
  simp only [Format.order, hx, Datum.order]
  simp [compare, compareOfLessAndEq]
end Go.Proofs.YtcjdbhcpcigmdaaDoor.Flt
