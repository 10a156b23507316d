import Derived.Test.YtmbolmmcfnfamaaYm
import Derived.Test.YtmbolmmcfnfamaaSx
import Derived.Deep.RegionHeld3
import Derived.Deep.Quiet
import Derived.BigQuiet
import Derived.Outline
namespace Go.Proofs.Ytmbolmmcfnfamaa.Orb
open Go.RowKit Lib

/-- what a claim comes to, as the reference has it -/
def chR (bend : Int) (L : List St) (x y z lo hi wt : Int) : Int × Int :=
  if (fst L ≤ lo ∧ lo ≤ lst L) ∧ (fst L ≤ hi ∧ hi ≤ lst L) ∧ (fst L ≤ wt ∧ wt ≤ lst L) then (if hi < lo then (0, 9) else if outB (sLo bend L x y z) (sHi bend L x y z wt) lo hi (ticksOf (fst L) (nTicks L)) = true then (0, 22) else (hi - lo + 1, 0)) else (0, 2)
theorem tickE_is (L : List St) (h0 : 0 < L.length) (t : Int) : tickE L t = if fst L ≤ t ∧ t ≤ lst L then 0 else 2 := by
  unfold tickE hasB
  rw [decide_eq_true h0, Bool.true_and]
  by_cases h : fst L ≤ t ∧ t ≤ lst L
  · rw [if_pos h, decide_eq_true h.1, decide_eq_true h.2]; rfl
  · rw [if_neg h, if_neg]
    simp
    omega
theorem chN_right {ne bend : Int} {L : List St} {x y z lo hi wt : Int} (h : (orbE ne bend L).2 = 0) (hp : placeE x y z = 0) : chN ne bend L x y z lo hi wt = chR bend L x y z lo hi wt := by
  have hn := (Rt.of h).2.n0
  unfold chN chR chE
  rw [h, hp, tickE_is L (by omega), tickE_is L (by omega), tickE_is L (by omega)]
  by_cases h1 : fst L ≤ lo ∧ lo ≤ lst L
  · by_cases h2 : fst L ≤ hi ∧ hi ≤ lst L
    · by_cases h3 : fst L ≤ wt ∧ wt ≤ lst L
      · rw [if_pos h1, if_pos h2, if_pos h3, if_neg (show ¬ firstE [0, 0, 0, 0, 0] ≠ 0 by decide), if_pos (⟨h1, h2, h3⟩ : (fst L ≤ lo ∧ lo ≤ lst L) ∧ (fst L ≤ hi ∧ hi ≤ lst L) ∧ (fst L ≤ wt ∧ wt ≤ lst L))]
      · rw [if_pos h1, if_pos h2, if_neg h3, if_pos (show firstE [0, 0, 0, 0, 2] ≠ 0 by decide), if_neg (show ¬ ((fst L ≤ lo ∧ lo ≤ lst L) ∧ (fst L ≤ hi ∧ hi ≤ lst L) ∧ (fst L ≤ wt ∧ wt ≤ lst L)) from fun k => h3 k.2.2)]; rfl
    · rw [if_pos h1, if_neg h2, if_neg (show ¬ ((fst L ≤ lo ∧ lo ≤ lst L) ∧ (fst L ≤ hi ∧ hi ≤ lst L) ∧ (fst L ≤ wt ∧ wt ≤ lst L)) from fun k => h2 k.2.1), if_pos (by simp [firstE])]; rfl
  · rw [if_neg h1, if_neg (show ¬ ((fst L ≤ lo ∧ lo ≤ lst L) ∧ (fst L ≤ hi ∧ hi ≤ lst L) ∧ (fst L ≤ wt ∧ wt ≤ lst L)) from fun k => h1 k.1), if_pos (by simp [firstE])]; rfl
theorem chN_wrong {ne bend : Int} {L : List St} {x y z lo hi wt : Int} (h : opE ne bend L x y z ≠ 0) : chN ne bend L x y z lo hi wt = (0, opE ne bend L x y z) := by
  have e : chE ne bend L x y z lo hi wt = opE ne bend L x y z := by
    unfold chE opE at *
    by_cases h1 : (orbE ne bend L).2 = 0
    · by_cases h2 : placeE x y z = 0
      · exact absurd (by simp [firstE, h1, h2]) h
      · simp [firstE, h1, h2]
    · simp [firstE, h1]
  unfold chN
  rw [e, if_pos h]

end Go.Proofs.Ytmbolmmcfnfamaa.Orb
