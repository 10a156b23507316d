import Derived.Test.YtmbolmmcfnfamaaRm
namespace Go.Proofs.Ytmbolmmcfnfamaa.Orb

/-- the same states with greater errors -/
def wid (d : Int) (L : List St) : List St := L.map fun s => ⟨s.t, s.x, s.y, s.z, s.e + d⟩
theorem wid_len (d : Int) (L : List St) : (wid d L).length = L.length := by simp [wid]
theorem gt_wid (d : Int) (L : List St) (k : Nat) (h : k < L.length) : gt (wid d L) k = ⟨(gt L k).t, (gt L k).x, (gt L k).y, (gt L k).z, (gt L k).e + d⟩ := by
  unfold gt wid
  rw [List.getD_eq_getElem?_getD, List.getElem?_map, List.getD_eq_getElem?_getD, List.getElem?_eq_getElem h]
  rfl
theorem gt_wid_t (d : Int) (L : List St) (k : Nat) : (gt (wid d L) k).t = (gt L k).t := by
  rcases Nat.lt_or_ge k L.length with h | h
  · rw [gt_wid d L k h]
  · unfold gt
    rw [List.getD_eq_getElem?_getD, List.getElem?_eq_none (by rw [wid_len]; exact h), List.getD_eq_getElem?_getD, List.getElem?_eq_none h]
theorem gt_wid_c (d : Int) (L : List St) (k i : Nat) (h : k < L.length) : cOf (gt (wid d L) k) i = cOf (gt L k) i := by
  rw [gt_wid d L k h]; rfl
theorem arcF_wid (d : Int) (L : List St) (t : Int) : ∀ m k, arcF (wid d L) t m k = arcF L t m k
  | 0, _ => rfl
  | m + 1, k => by
    unfold arcF
    rw [gt_wid_t, arcF_wid d L t m (k + 1)]
theorem arcP_wid (d : Int) (L : List St) (t : Int) : arcP (wid d L) t = arcP L t := by
  unfold arcP
  rw [wid_len, arcF_wid]
theorem fst_wid (d : Int) (L : List St) : fst (wid d L) = fst L := gt_wid_t d L 0
theorem lst_wid (d : Int) (L : List St) : lst (wid d L) = lst L := by
  unfold lst
  rw [wid_len, gt_wid_t]

theorem pt_mono (a a' b b' p w : Int) (ha : a ≤ a') (hb : b ≤ b') (h0 : 0 ≤ p) (h1 : p ≤ w) : pt a b p w ≤ pt a' b' p w := by
  unfold pt
  have e1 := Int.mul_le_mul_of_nonneg_right ha (show 0 ≤ w - p by omega)
  have e2 := Int.mul_le_mul_of_nonneg_right hb h0
  omega

/-- MORE ERROR, WIDER BOX -/
theorem wider {bend : Int} {L : List St} (hR : Rt bend L) (t d xb : Int) (h1 : fst L ≤ t) (h2 : t ≤ lst L) (hd : 0 ≤ d) (hx : 0 ≤ xb) (i : Nat) :
    nomC (wid d L) t i = nomC L t i ∧ loC (bend + xb) (wid d L) t i ≤ loC bend L t i ∧ hiC bend L t i ≤ hiC (bend + xb) (wid d L) t i := by
  have hA := inArc hR t h1 h2
  obtain ⟨-, -, q0, q1, q2, -⟩ := hA.arc hR
  have hk := hA.hk
  unfold nomC loC hiC
  rw [arcP_wid]
  generalize arcP L t = k at *
  unfold nomS loS hiS bendS
  rw [gt_wid_c d L k i (by omega), gt_wid_c d L (k + 1) i hk, gt_wid_t, gt_wid_t, show (gt (wid d L) k).e = (gt L k).e + d from by rw [gt_wid d L k (by omega)], show (gt (wid d L) (k + 1)).e = (gt L (k + 1)).e + d from by rw [gt_wid d L (k + 1) hk]]
  generalize cOf (gt L k) i = ca at *
  generalize cOf (gt L (k + 1)) i = cb at *
  generalize (gt L k).e = ea at *
  generalize (gt L (k + 1)).e = eb at *
  generalize (gt L k).t = ta at *
  generalize (gt L (k + 1)).t = tb at *
  refine ⟨rfl, ?_, ?_⟩
  · have m := Int.ediv_le_ediv (show 0 < tb - ta by omega) (pt_mono (ca - (ea + d)) (ca - ea) (cb - (eb + d)) (cb - eb) (t - ta) (tb - ta) (by omega) (by omega) (by omega) (by omega))
    split <;> omega
  · have m := Int.ediv_le_ediv (show 0 < tb - ta by omega) (Int.neg_le_neg (pt_mono (ca + ea) (ca + (ea + d)) (cb + eb) (cb + (eb + d)) (t - ta) (tb - ta) (by omega) (by omega) (by omega) (by omega)))
    unfold ceilI
    split <;> omega
end Go.Proofs.Ytmbolmmcfnfamaa.Orb
