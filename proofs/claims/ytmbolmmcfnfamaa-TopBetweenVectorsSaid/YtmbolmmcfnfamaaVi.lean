import Derived.Test.YtmbolmmcfnfamaaVh
import Derived.Test.YtmbolmmcfnfamaaVc
import Derived.BigQuiet
import Derived.Deep.Quiet
import Derived.Outline
namespace Go.Proofs.Ytmbolmmcfnfamaa.Orb
open Go.RowKit Lib

theorem tkE_tkR (ne bend : Int) (L : List St) (t : Int) : tkE ne bend L t = tkR ne bend L t := by
  unfold tkR
  by_cases h1 : (orbE ne bend L).2 = 0
  · rw [if_pos h1]
    have h0 := (Rt.of h1).2.n0
    by_cases h2 : fst L ≤ t ∧ t ≤ lst L
    · rw [if_pos h2]; exact tkE_of h1 h2.1 h2.2 (by omega)
    · rw [if_neg h2]
      unfold tkE tickE hasB
      rw [h1]
      have : (decide (fst L ≤ t) && decide (t ≤ lst L)) = false := by
        by_cases h3 : fst L ≤ t
        · rw [decide_eq_false (show ¬ t ≤ lst L from fun h => h2 ⟨h3, h⟩), Bool.and_false]
        · rw [decide_eq_false h3, Bool.false_and]
      rw [this, Bool.and_false]; rfl
  · rw [if_neg h1]
    unfold tkE
    exact firstE_hit [(orbE ne bend L).2, tickE L t] 0 _ rfl h1

end Go.Proofs.Ytmbolmmcfnfamaa.Orb
