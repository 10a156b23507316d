import Derived.Test.YtmbolmmcfnfamaaSr
import Derived.Deep.RegionHeld3
import Derived.Deep.CutRange
import Derived.IntWalk
import Derived.Outline
namespace Go.Proofs.Ytmbolmmcfnfamaa.Orb
open Go.RowKit Lib

set_option maxRecDepth 100000 in
theorem less_exact (x y z x' y' z' : Int) (h1 : -1000000000 ≤ x ∧ x ≤ 1000000000) (h2 : -1000000000 ≤ y ∧ y ≤ 1000000000) (h3 : -1000000000 ≤ z ∧ z ≤ 1000000000) (h4 : -1000000000 ≤ x' ∧ x' ≤ 1000000000) (h5 : -1000000000 ≤ y' ∧ y' ≤ 1000000000) (h6 : -1000000000 ≤ z' ∧ z' ≤ 1000000000) (w : World) :
    Calls Try.prog 77 #[.agg #[.int .i64 x, .int .i64 y, .int .i64 z], .agg #[.int .i64 x', .int .i64 y', .int .i64 z']] w fun e w' => e = .returned (.agg #[.int .i64 (x - x'), .int .i64 (y - y'), .int .i64 (z - z')]) ∧
      ((w.alloc (.cells #[.int .i64 x, .int .i64 y, .int .i64 z] 43)).alloc (.cells #[.int .i64 x', .int .i64 y', .int .i64 z'] 43)).alloc (.cells #[.int .i64 (x - x'), .int .i64 (y - y'), .int .i64 (z - z')] 43) = w' := by
  go_enter Try.func77, Try.ntmps77
  go_wp2_with fail
  exact bodyPost_ret (v := .agg #[.int .i64 (x - x'), .int .i64 (y - y'), .int .i64 (z - z')]) (by simp [results, Try.results77, go_sem]) rfl ⟨rfl, rfl⟩

/-- the cells of the states k and k + 1 -/
theorem Sts.two {W : World} {b o k : Nat} {L : List St} (h : Sts W b o L) (hk : k + 1 < L.length) :
    (W.cell? ⟨b, o + k * 5 + 1, none⟩ = some (.int .i64 (gt L k).x) ∧ W.cell? ⟨b, o + k * 5 + 2, none⟩ = some (.int .i64 (gt L k).y) ∧ W.cell? ⟨b, o + k * 5 + 3, none⟩ = some (.int .i64 (gt L k).z)) ∧
    (W.cell? ⟨b, o + (k + 1) * 5 + 1, none⟩ = some (.int .i64 (gt L (k + 1)).x) ∧ W.cell? ⟨b, o + (k + 1) * 5 + 2, none⟩ = some (.int .i64 (gt L (k + 1)).y) ∧ W.cell? ⟨b, o + (k + 1) * 5 + 3, none⟩ = some (.int .i64 (gt L (k + 1)).z)) := by
  obtain ⟨-, a, b1, c, -⟩ := h k (by omega)
  obtain ⟨-, d, e, f, -⟩ := h (k + 1) hk
  exact ⟨⟨a, b1, c⟩, ⟨d, e, f⟩⟩

/-- on which side of an arc -/
def turnI (A B : St) (x y : Int) : Int := (B.x - A.x) * (y - A.y) - (B.y - A.y) * (x - A.x)
def sideI (t : Int) : Int := if 0 < t then 1 else if t < 0 then 2 else 0
/-- the error of an orbit, an arc, and a place -/
def sdE (ne bend : Int) (L : List St) (arc x y z : Int) : Int := firstE [(orbE ne bend L).2, arcE L.length arc, placeE x y z]
theorem sdE_zero {ne bend : Int} {L : List St} {arc x y z : Int} (h : sdE ne bend L arc x y z = 0) : ne = 0 ∧ Rt bend L ∧ 0 ≤ arc ∧ arc < (L.length : Int) - 1 ∧ placeE x y z = 0 := by
  unfold sdE at h
  rw [firstE_zero_iff] at h
  obtain ⟨h3, h4⟩ := Rt.of (h _ (List.mem_cons_self ..))
  have h2 := h (arcE L.length arc) (by simp)
  unfold arcE at h2
  refine ⟨h3, h4, ?_, ?_, h _ (by simp)⟩ <;> by_cases h5 : 0 ≤ arc ∧ arc + 1 < (L.length : Int)
  · exact h5.1
  · rw [if_neg h5] at h2; cases h2
  · have := h5.2; omega
  · rw [if_neg h5] at h2; cases h2

end Go.Proofs.Ytmbolmmcfnfamaa.Orb
