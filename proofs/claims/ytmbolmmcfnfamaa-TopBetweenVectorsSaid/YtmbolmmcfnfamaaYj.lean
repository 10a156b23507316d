import Derived.Test.YtmbolmmcfnfamaaYi
import Derived.Test.YtmbolmmcfnfamaaRt
import Derived.Test.YtmbolmmcfnfamaaVb
import Derived.Test.YtmbolmmcfnfamaaVi
import Derived.Test.YtmbolmmcfnfamaaYe
import Derived.StillTailTactics
import Derived.Outline
namespace Go.Proofs.Ytmbolmmcfnfamaa.Orb
open Go.RowKit Lib

theorem sq_range {bend : Int} {L : List St} {t x y z : Int} (hR : Rt bend L) (h0 : fst L ≤ t) (h1 : t ≤ lst L) (hp : placeE x y z = 0) :
    (0 ≤ sqLo (loC bend L t) (hiC bend L t) (cc3 x y z) 3 ∧ sqLo (loC bend L t) (hiC bend L t) (cc3 x y z) 3 < 288230376151711744) ∧ (0 ≤ sqHi (loC bend L t) (hiC bend L t) (cc3 x y z) 3 ∧ sqHi (loC bend L t) (hiC bend L t) (cc3 x y z) 3 < 288230376151711744) ∧
    (∀ k, k < 3 → (-110000000 ≤ loC bend L t k ∧ loC bend L t k ≤ 110000000) ∧ (-110000000 ≤ hiC bend L t k ∧ hiC bend L t k ≤ 110000000)) ∧ (∀ k, k < 3 → loC bend L t k ≤ hiC bend L t k) ∧
    (sqLo (loC bend L t) (hiC bend L t) (cc3 x y z) 3 ≤ nsq L t x y z ∧ nsq L t x y z ≤ sqHi (loC bend L t) (hiC bend L t) (cc3 x y z) 3) := by
  have hA := (inArc hR t h0 h1).arc hR
  have HBD : ∀ k, k < 3 → (-110000000 ≤ loC bend L t k ∧ loC bend L t k ≤ 110000000) ∧ (-110000000 ≤ hiC bend L t k ∧ hiC bend L t k ≤ 110000000) ∧ (-100000000 ≤ cc3 x y z k ∧ cc3 x y z k ≤ 100000000) := by
    intro k _
    obtain ⟨a1, a2⟩ := hA.size bend hR.b0 hR.b1 k
    obtain ⟨a3, a4⟩ := hA.between bend hR.b0 k
    obtain ⟨a5, a6⟩ := hA.nom k
    have e1 : loC bend L t k = loS bend (gt L (arcP L t)) (gt L (arcP L t + 1)) t k := rfl
    have e2 : hiC bend L t k = hiS bend (gt L (arcP L t)) (gt L (arcP L t + 1)) t k := rfl
    rw [e1, e2]
    obtain ⟨⟨p1, p2⟩, ⟨p3, p4⟩, p5, p6⟩ := (placeE_zero x y z).1 hp
    refine ⟨by omega, by omega, ?_⟩
    unfold cc3
    split
    · omega
    · split <;> omega
  have HBT : ∀ k, loC bend L t k ≤ nomC L t k ∧ nomC L t k ≤ hiC bend L t k := fun k => hA.between bend hR.b0 k
  obtain ⟨s1, s2, s3, s4⟩ := sq_size _ _ _ HBD 3 (Nat.le_refl _)
  refine ⟨⟨by omega, by omega⟩, ⟨by omega, by omega⟩, fun k hk => ⟨(HBD k hk).1, (HBD k hk).2.1⟩, fun k _ => by have := HBT k; omega, ?_, ?_⟩
  · have n0 : near1 (loC bend L t 0) (hiC bend L t 0) x * near1 (loC bend L t 0) (hiC bend L t 0) x ≤ _ := near_sq (loC bend L t 0) (hiC bend L t 0) (nomC L t 0) x (HBT 0).1 (HBT 0).2
    have n1 : near1 (loC bend L t 1) (hiC bend L t 1) y * near1 (loC bend L t 1) (hiC bend L t 1) y ≤ _ := near_sq (loC bend L t 1) (hiC bend L t 1) (nomC L t 1) y (HBT 1).1 (HBT 1).2
    have n2 : near1 (loC bend L t 2) (hiC bend L t 2) z * near1 (loC bend L t 2) (hiC bend L t 2) z ≤ _ := near_sq (loC bend L t 2) (hiC bend L t 2) (nomC L t 2) z (HBT 2).1 (HBT 2).2
    show 0 + near1 (loC bend L t 0) (hiC bend L t 0) x * near1 (loC bend L t 0) (hiC bend L t 0) x + near1 (loC bend L t 1) (hiC bend L t 1) y * near1 (loC bend L t 1) (hiC bend L t 1) y + near1 (loC bend L t 2) (hiC bend L t 2) z * near1 (loC bend L t 2) (hiC bend L t 2) z ≤ nsq L t x y z
    unfold nsq
    omega
  · have n0 : _ ≤ far1 (loC bend L t 0) (hiC bend L t 0) x * far1 (loC bend L t 0) (hiC bend L t 0) x := far_sq (loC bend L t 0) (hiC bend L t 0) (nomC L t 0) x (HBT 0).1 (HBT 0).2
    have n1 : _ ≤ far1 (loC bend L t 1) (hiC bend L t 1) y * far1 (loC bend L t 1) (hiC bend L t 1) y := far_sq (loC bend L t 1) (hiC bend L t 1) (nomC L t 1) y (HBT 1).1 (HBT 1).2
    have n2 : _ ≤ far1 (loC bend L t 2) (hiC bend L t 2) z * far1 (loC bend L t 2) (hiC bend L t 2) z := far_sq (loC bend L t 2) (hiC bend L t 2) (nomC L t 2) z (HBT 2).1 (HBT 2).2
    show nsq L t x y z ≤ 0 + far1 (loC bend L t 0) (hiC bend L t 0) x * far1 (loC bend L t 0) (hiC bend L t 0) x + far1 (loC bend L t 1) (hiC bend L t 1) y * far1 (loC bend L t 1) (hiC bend L t 1) y + far1 (loC bend L t 2) (hiC bend L t 2) z * far1 (loC bend L t 2) (hiC bend L t 2) z
    unfold nsq
    omega

/-- the error of an orbit, a tick and a place, as the law has it -/
theorem plE_is (ne bend : Int) (L : List St) (t x y z : Int) : plE ne bend L t x y z = if tkR ne bend L t ≠ 0 then tkR ne bend L t else if placeB x y z = true then 0 else 2 := by
  rw [← tkE_tkR]
  unfold plE tkE
  rcases placeE_cases x y z with ⟨h1, h2⟩ | ⟨h1, h2⟩
  · rw [h1, h2]
    by_cases a : (orbE ne bend L).2 = 0 <;> by_cases b : tickE L t = 0 <;> simp [firstE, a, b]
  · rw [h1, h2]
    by_cases a : (orbE ne bend L).2 = 0 <;> by_cases b : tickE L t = 0 <;> simp [firstE, a, b]

end Go.Proofs.Ytmbolmmcfnfamaa.Orb
