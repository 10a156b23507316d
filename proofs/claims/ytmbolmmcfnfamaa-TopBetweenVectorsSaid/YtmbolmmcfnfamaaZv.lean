import Derived.Test.YtmbolmmcfnfamaaVa
import Derived.Test.YtmbolmmcfnfamaaYj
namespace Go.Proofs.Ytmbolmmcfnfamaa.Orb

/-! The mathematics of TopBetweenVectors: states that are wrong by no more than is told, off the straight line by no more than the bend. -/
/-- the states as they really were: the same ticks, places wrong by at most the errors, no errors -/
structure Truth (L L' : List St) : Prop where
  len : L'.length = L.length
  t : ∀ k, k < L.length → (gt L' k).t = (gt L k).t
  c : ∀ k, k < L.length → ∀ i, cOf (gt L k) i - (gt L k).e ≤ cOf (gt L' k) i ∧ cOf (gt L' k) i ≤ cOf (gt L k) i + (gt L k).e
theorem Truth.tt {L L' : List St} (h : Truth L L') (k : Nat) : (gt L' k).t = (gt L k).t := by
  rcases Nat.lt_or_ge k L.length with hk | hk
  · exact h.t k hk
  · unfold gt
    rw [List.getD_eq_getElem?_getD, List.getElem?_eq_none (by rw [h.len]; exact hk), List.getD_eq_getElem?_getD, List.getElem?_eq_none hk]
theorem Truth.arcF {L L' : List St} (h : Truth L L') (t : Int) : ∀ m k, arcF L' t m k = arcF L t m k
  | 0, _ => rfl
  | m + 1, k => by
    unfold Orb.arcF
    rw [h.tt, Truth.arcF h t m (k + 1)]
theorem Truth.arcP {L L' : List St} (h : Truth L L') (t : Int) : arcP L' t = arcP L t := by
  unfold Orb.arcP
  rw [h.len, h.arcF]
theorem Truth.fst {L L' : List St} (h : Truth L L') : fst L' = fst L := h.tt 0
theorem Truth.lst {L L' : List St} (h : Truth L L') : lst L' = lst L := by
  unfold Orb.lst
  rw [h.len, h.tt]

/-- rounding lies between -/
theorem near_between (n w : Int) (hw0 : 0 < w) : n / w ≤ nearI n w ∧ nearI n w ≤ ceilI n w := by
  constructor
  · unfold nearI
    have : n / w = (2 * n) / (2 * w) := (Int.mul_ediv_mul_of_pos _ _ (by omega)).symm
    rw [this]
    exact Int.ediv_le_ediv (by omega) (by omega)
  · unfold nearI ceilI
    have hd := Int.emod_add_mul_ediv (-n) w
    have hd0 := Int.emod_nonneg (-n) (show w ≠ 0 by omega)
    have hd1 := Int.emod_lt_of_pos (-n) hw0
    generalize -n / w = q at *
    have : (2 * n + w) / (2 * w) < -q + 1 := by
      refine Int.ediv_lt_of_lt_mul (by omega) ?_
      have : (-q + 1) * (2 * w) = 2 * w - 2 * (w * q) := by
        rw [Int.add_mul, Int.neg_mul, Int.one_mul, Int.mul_comm q, Int.mul_assoc]; omega
      omega
    omega

/-- THE TRUE PLACES LIE IN THE BOXES -/
theorem vec_in {bend : Int} {L L' : List St} (hR : Rt bend L) (h : Truth L L') (t d : Int) (h1 : fst L ≤ t) (h2 : t ≤ lst L) (hd : -bend ≤ d ∧ d ≤ bend) (hz : ∀ k, k < L.length → (gt L k).t = t → d = 0) (i : Nat) :
    loC bend L t i ≤ nomC L' t i + d ∧ nomC L' t i + d ≤ hiC bend L t i := by
  have hA := inArc hR t h1 h2
  obtain ⟨sa, sb, q0, q1, q2, -⟩ := hA.arc hR
  have hk := hA.hk
  unfold nomC loC hiC
  rw [h.arcP]
  have z1 := hz (arcP L t) (by omega)
  have z2 := hz (arcP L t + 1) hk
  obtain ⟨ca1, ca2⟩ := h.c (arcP L t) (by omega) i
  obtain ⟨cb1, cb2⟩ := h.c (arcP L t + 1) hk i
  generalize arcP L t = k at *
  unfold nomS loS hiS bendS
  rw [h.tt, h.tt]
  generalize cOf (gt L' k) i = xa at *
  generalize cOf (gt L' (k + 1)) i = xb at *
  generalize cOf (gt L k) i = ca at *
  generalize cOf (gt L (k + 1)) i = cb at *
  generalize (gt L k).e = ea at *
  generalize (gt L (k + 1)).e = eb at *
  generalize (gt L k).t = ta at *
  generalize (gt L (k + 1)).t = tb at *
  have w0 : 0 < tb - ta := by omega
  have m1 := Int.ediv_le_ediv w0 (pt_mono (ca - ea) xa (cb - eb) xb (t - ta) (tb - ta) ca1 cb1 (by omega) (by omega))
  have m2 := ceilI_mono _ _ (tb - ta) w0 (pt_mono xa (ca + ea) xb (cb + eb) (t - ta) (tb - ta) ca2 cb2 (by omega) (by omega))
  obtain ⟨g1, g2⟩ := near_between (pt xa xb (t - ta) (tb - ta)) (tb - ta) w0
  by_cases hq : t - ta = 0 ∨ t - ta = tb - ta
  · rw [if_pos hq]
    have : d = 0 := by
      rcases hq with hq | hq
      · exact z1 (by omega)
      · exact z2 (by omega)
    omega
  · rw [if_neg hq]
    omega

/-- the square of the distance from the middle lies in its enclosure -/
theorem vec_sq (lo hi p : Nat → Int) (h : ∀ i, i < 3 → lo i ≤ p i ∧ p i ≤ hi i) :
    sqLo lo hi (cc3 0 0 0) 3 ≤ p 0 * p 0 + p 1 * p 1 + p 2 * p 2 ∧ p 0 * p 0 + p 1 * p 1 + p 2 * p 2 ≤ sqHi lo hi (cc3 0 0 0) 3 := by
  have key : ∀ i, i < 3 → near1 (lo i) (hi i) 0 * near1 (lo i) (hi i) 0 ≤ p i * p i ∧ p i * p i ≤ far1 (lo i) (hi i) 0 * far1 (lo i) (hi i) 0 := by
    intro i hi'
    obtain ⟨a, b⟩ := h i hi'
    have e1 := near_sq (lo i) (hi i) (p i) 0 a b
    have e2 := far_sq (lo i) (hi i) (p i) 0 a b
    rw [Int.sub_zero (p i)] at e1 e2
    exact ⟨e1, e2⟩
  obtain ⟨a0, b0⟩ := key 0 (by decide)
  obtain ⟨a1, b1⟩ := key 1 (by decide)
  obtain ⟨a2, b2⟩ := key 2 (by decide)
  have c0 : cc3 0 0 0 0 = 0 := rfl
  have c1 : cc3 0 0 0 1 = 0 := rfl
  have c2 : cc3 0 0 0 2 = 0 := rfl
  simp only [sqLo, sqHi, c0, c1, c2]
  omega
end Go.Proofs.Ytmbolmmcfnfamaa.Orb
