import Derived.Test.YtmbolmmcfnfamaaSv
import Derived.Deep.RegionHeld3
import Derived.Outline
namespace Go.Proofs.Ytmbolmmcfnfamaa.Orb
open Go.RowKit Lib

/-- the four ways of OrbitSides -/
theorem sd_ways (ne bend : Int) (L : List St) (arc x y z : Int) :
    ((orbE ne bend L).2 ≠ 0 ∧ sdE ne bend L arc x y z = (orbE ne bend L).2) ∨
    ((orbE ne bend L).2 = 0 ∧ decide (0 ≤ arc ∧ arc ≤ (L.length : Int) - 2) = false ∧ sdE ne bend L arc x y z = 6) ∨
    ((orbE ne bend L).2 = 0 ∧ decide (0 ≤ arc ∧ arc ≤ (L.length : Int) - 2) = true ∧ placeB x y z = false ∧ sdE ne bend L arc x y z = 2) ∨
    ((orbE ne bend L).2 = 0 ∧ decide (0 ≤ arc ∧ arc ≤ (L.length : Int) - 2) = true ∧ placeB x y z = true ∧ sdE ne bend L arc x y z = 0) := by
  by_cases h1 : (orbE ne bend L).2 = 0
  · right
    by_cases h2 : 0 ≤ arc ∧ arc ≤ (L.length : Int) - 2
    · right
      have ha : arcE L.length arc = 0 := if_pos (by omega)
      cases h3 : placeB x y z with
      | false =>
        left
        refine ⟨h1, decide_eq_true h2, rfl, ?_⟩
        unfold sdE
        rw [h1, ha, show firstE [0, 0, placeE x y z] = firstE [placeE x y z] from rfl]
        have hp : placeE x y z ≠ 0 := fun h => by rw [(placeB_iff x y z).2 h] at h3; cases h3
        have hp2 : placeE x y z = 2 := by
          unfold placeE rangeE at hp ⊢
          by_cases q1 : -100000000 ≤ x ∧ x ≤ 100000000 <;> by_cases q2 : -100000000 ≤ y ∧ y ≤ 100000000 <;> by_cases q3 : -100000000 ≤ z ∧ z ≤ 100000000 <;>
            (first | rw [if_pos q1] at hp ⊢ | rw [if_neg q1] at hp ⊢) <;> (first | rw [if_pos q2] at hp ⊢ | rw [if_neg q2] at hp ⊢) <;> (first | rw [if_pos q3] at hp ⊢ | rw [if_neg q3] at hp ⊢) <;>
            first | rfl | exact absurd rfl hp
        rw [hp2]; rfl
      | true =>
        right
        refine ⟨h1, decide_eq_true h2, rfl, ?_⟩
        unfold sdE
        rw [h1, ha, (placeB_iff x y z).1 h3]; rfl
    · left
      have ha : arcE L.length arc = 6 := if_neg (by omega)
      refine ⟨h1, decide_eq_false h2, ?_⟩
      unfold sdE
      rw [h1, ha]; rfl
  · left
    refine ⟨h1, ?_⟩
    unfold sdE
    exact firstE_hit [(orbE ne bend L).2, arcE L.length arc, placeE x y z] 0 _ rfl h1

end Go.Proofs.Ytmbolmmcfnfamaa.Orb
