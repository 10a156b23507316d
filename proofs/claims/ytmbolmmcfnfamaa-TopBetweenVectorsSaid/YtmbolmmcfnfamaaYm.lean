import Derived.Test.YtmbolmmcfnfamaaSp
import Derived.Test.YtmbolmmcfnfamaaYj
import Derived.Deep.RegionHeld3
import Derived.Outline
import Derived.BigQuiet
namespace Go.Proofs.Ytmbolmmcfnfamaa.Orb
open Go.RowKit Lib

/-- the least and the greatest square at a tick -/
def sLo (bend : Int) (L : List St) (x y z t : Int) : Int := sqLo (loC bend L t) (hiC bend L t) (cc3 x y z) 3
def sHi (bend : Int) (L : List St) (x y z t : Int) : Int := sqHi (loC bend L t) (hiC bend L t) (cc3 x y z) 3
/-- the errors of what is claimed -/
def chE (ne bend : Int) (L : List St) (x y z lo hi wt : Int) : Int := firstE [(orbE ne bend L).2, placeE x y z, tickE L lo, tickE L hi, tickE L wt]
theorem tickE_zero {L : List St} {t : Int} (h : tickE L t = 0) : fst L ≤ t ∧ t ≤ lst L := by
  unfold tickE at h
  by_cases hb : hasB L t = true
  · unfold hasB at hb; simp at hb; exact hb.2
  · rw [if_neg hb] at h; cases h
theorem chE_zero {ne bend : Int} {L : List St} {x y z lo hi wt : Int} (h : chE ne bend L x y z lo hi wt = 0) : (orbE ne bend L).2 = 0 ∧ ne = 0 ∧ Rt bend L ∧ placeE x y z = 0 ∧ (fst L ≤ lo ∧ lo ≤ lst L) ∧ (fst L ≤ hi ∧ hi ≤ lst L) ∧ (fst L ≤ wt ∧ wt ≤ lst L) := by
  unfold chE at h
  rw [firstE_zero_iff] at h
  have h1 := h _ (List.mem_cons_self ..)
  obtain ⟨h3, h4⟩ := Rt.of h1
  exact ⟨h1, h3, h4, h _ (by simp), tickE_zero (h _ (by simp)), tickE_zero (h (tickE L hi) (by simp)), tickE_zero (h (tickE L wt) (by simp))⟩
/-- what a claim comes to -/
def chN (ne bend : Int) (L : List St) (x y z lo hi wt : Int) : Int × Int :=
  if chE ne bend L x y z lo hi wt ≠ 0 then (0, chE ne bend L x y z lo hi wt) else if hi < lo then (0, 9) else if outB (sLo bend L x y z) (sHi bend L x y z wt) lo hi (ticksOf (fst L) (nTicks L)) = true then (0, 22) else (hi - lo + 1, 0)

theorem outB_pre {F : Int → Int} {bound lo hi : Int} {pre xs : List Int} (h : pre <+: xs) (ho : outB F bound lo hi pre = true) : outB F bound lo hi xs = true := by
  unfold outB at *
  rw [List.any_eq_true] at *
  obtain ⟨t, ht, h2⟩ := ho
  exact ⟨t, h.subset ht, h2⟩

theorem firstError5 (a b c d f : Int) (W : World) :
    Calls Try.prog 34 #[.slice (some ⟨W.heap.size, 0, none⟩) 5 5] (W.alloc (.cells #[.int .i64 a, .int .i64 b, .int .i64 c, .int .i64 d, .int .i64 f] 29)) fun e w' => e = .returned (.int .i64 (firstE [a, b, c, d, f])) ∧ (W.alloc (.cells #[.int .i64 a, .int .i64 b, .int .i64 c, .int .i64 d, .int .i64 f] 29)) = w' := by
  refine firstError_any W.heap.size 5 [a, b, c, d, f] rfl (by decide) _ ?_
  intro k e he
  have hb : (W.alloc (.cells #[.int .i64 a, .int .i64 b, .int .i64 c, .int .i64 d, .int .i64 f] 29)).heap[W.heap.size]? = some (.cells #[.int .i64 a, .int .i64 b, .int .i64 c, .int .i64 d, .int .i64 f] 29 (0, 0)) := heap_alloc_new _ _
  rw [cell_of_row _ _ _ _ _ _ hb]
  match k, he with
  | 0, he => cases he; rfl
  | 1, he => cases he; rfl
  | 2, he => cases he; rfl
  | 3, he => cases he; rfl
  | 4, he => cases he; rfl

theorem fld_lo (a b : Int) : ∀ w, (Instr.field 54 (.agg #[.int .i64 a, .int .i64 b]) 0).run Try.prog w = .ok (.int .i64 a) w := fun _ => by kernel_rfl
theorem fld_hi (a b : Int) : ∀ w, (Instr.field 54 (.agg #[.int .i64 a, .int .i64 b]) 1).run Try.prog w = .ok (.int .i64 b) w := fun _ => by kernel_rfl

attribute [local go_sem] Oper.semAt_some

end Go.Proofs.Ytmbolmmcfnfamaa.Orb
