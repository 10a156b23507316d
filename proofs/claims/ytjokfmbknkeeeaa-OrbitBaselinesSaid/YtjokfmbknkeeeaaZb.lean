import Derived.Test.YtjokfmbknkeeeaaZa
import Derived.Test.YtjokfmbknkeeeaaSs
import Derived.Test.YtjokfmbknkeeeaaVg
import Derived.Deep.RegionHeld3
import Derived.BigQuiet
import Derived.Outline
namespace Go.Proofs.Ytjokfmbknkeeeaa.Orb
open Go.RowKit Lib

/-- the speed of an arc -/
def spN (A B : St) (i : Nat) : Int := (cOf B i - cOf A i).tdiv (gI (cOf B i - cOf A i) (B.t - A.t))
def spD (A B : St) (i : Nat) : Int := (B.t - A.t).tdiv (gI (cOf B i - cOf A i) (B.t - A.t))
/-- the error of an orbit and an arc -/
def asE (ne bend : Int) (L : List St) (arc : Int) : Int := firstE [(orbE ne bend L).2, arcE L.length arc]
theorem asE_zero {ne bend : Int} {L : List St} {arc : Int} (h : asE ne bend L arc = 0) : (orbE ne bend L).2 = 0 ∧ Rt bend L ∧ 0 ≤ arc ∧ arc + 1 < L.length := by
  unfold asE at h
  rw [firstE_zero_iff] at h
  have h1 := h _ (List.mem_cons_self ..)
  have h2 := h (arcE L.length arc) (by simp)
  unfold arcE at h2
  by_cases hc : 0 ≤ arc ∧ arc + 1 < L.length
  · exact ⟨h1, (Rt.of h1).2, hc.1, hc.2⟩
  · rw [if_neg hc] at h2; cases h2
theorem Sts.ticks2 {W : World} {b o k : Nat} {L : List St} (h : Sts W b o L) (hk : k + 1 < L.length) : W.cell? ⟨b, o + k * 5, none⟩ = some (.int .i64 (gt L k).t) ∧ W.cell? ⟨b, o + (k + 1) * 5, none⟩ = some (.int .i64 (gt L (k + 1)).t) := ⟨(h k (by omega)).1, (h (k + 1) hk).1⟩
theorem rt_tick {bend : Int} {L : List St} (h : Rt bend L) (k : Nat) (hk : k + 1 < L.length) : 0 < (gt L (k + 1)).t - (gt L k).t ∧ (gt L (k + 1)).t - (gt L k).t ≤ 20000 := by
  have h1 := h.mono 1 k hk
  have h2 := h.arc (k + 1) hk
  have h3 := h.le 0 k (Nat.zero_le _) (by omega)
  have e : fst L = (gt L 0).t := rfl
  constructor
  · omega
  · omega

end Go.Proofs.Ytjokfmbknkeeeaa.Orb
