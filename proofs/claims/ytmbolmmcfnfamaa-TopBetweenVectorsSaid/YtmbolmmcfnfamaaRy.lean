import Derived.Test.YtmbolmmcfnfamaaRx
import Derived.Test.YtmbolmmcfnfamaaRs
import Derived.Laws.OwnMore
import Derived.IntWalk
import Derived.Outline
namespace Go.Proofs.Ytmbolmmcfnfamaa.Orb
open Go.RowKit Lib

/-- ranges as cells -/
def rvI (R : List (Int × Int)) : List Value := R.flatMap fun p => [.int .i64 p.1, .int .i64 p.2]
theorem rvI_len (R : List (Int × Int)) : (rvI R).length = 2 * R.length := by
  induction R with
  | nil => rfl
  | cons a r ih => rw [show rvI (a :: r) = [.int .i64 a.1, .int .i64 a.2] ++ rvI r from rfl, List.length_append, ih]; simp; omega
theorem rvI_append (R S : List (Int × Int)) : rvI (R ++ S) = rvI R ++ rvI S := by simp [rvI]
/-- ranges with one more tick behind them -/
def growI (R : List (Int × Int)) (t : Int) : List (Int × Int) :=
  match R.getLast? with
  | some p => if p.2 = t - 1 then R.dropLast ++ [(p.1, t)] else R ++ [(t, t)]
  | none => [(t, t)]
theorem growI_nil (t : Int) : growI [] t = [(t, t)] := rfl
theorem growI_in (R : List (Int × Int)) (lo hi t : Int) (h : hi = t - 1) : growI (R ++ [(lo, hi)]) t = R ++ [(lo, t)] := by
  unfold growI; simp [h]
theorem growI_out (R : List (Int × Int)) (lo hi t : Int) (h : hi ≠ t - 1) : growI (R ++ [(lo, hi)]) t = R ++ [(lo, hi)] ++ [(t, t)] := by
  unfold growI
  rw [List.getLast?_concat]
  dsimp only
  rw [if_neg h]
theorem infoRg : (Try.prog.info? 54).map (fun i => (i.zero, i.size, i.bytes)) = some (some (.agg #[.int .i64 0, .int .i64 0]), 2, 16) := by kernel_rfl

/-- what withTick hands back -/
def TickR (base : Nat) (R : List (Int × Int)) (w : World) (e : Ending) (w' : World) : Prop :=
  ∃ v', e = .returned v' ∧ w'.ownsRow base 54 2 v' R.length (rvI R) ∧ Below base w w' ∧ KeepsOthers w w'
theorem TickR.appended {base n : Nat} {R : List (Int × Int)} {t : Int} {w w' : World} {v v' : Value} {o : Obj} (h : w.ownsRow base 54 2 v n (rvI R)) (hb : base ≤ w.heap.size) (hn : n = R.length)
    (hown : w'.ownsRow base 54 2 v' (n + 1) (rvI R ++ [.int .i64 t, .int .i64 t])) (hg : (w.alloc o).grownBy w' v.ownBlock) :
    w'.ownsRow base 54 2 v' (R ++ [(t, t)]).length (rvI (R ++ [(t, t)])) ∧ Below base w w' ∧ KeepsOthers w w' := by
  refine ⟨?_, ?_, ?_⟩
  · rw [List.length_append, rvI_append, ← hn]; exact hown
  · exact ((Below.refl _ w).alloc hb o).grown hg (by simp; omega) (fun k e => (h.lt k e).1)
  · refine (KeepsOthers.alloc w o).trans (KeepsOthers.of_grownBy hg fun j ob hj hk => ?_)
    rcases h.2 with ⟨rfl, -⟩ | ⟨g, cap, cur, rfl, -, hgb, -⟩
    · simp [Value.ownBlock] at hj
    · have : g = j := by simpa [Value.ownBlock] using hj
      subst this
      have hk2 := (Below.heap_alloc w o g (Array.getElem?_eq_some_iff.1 hgb).1).trans hgb
      rw [hk2] at hk
      cases hk
      rfl

set_option maxRecDepth 100000 in
set_option maxHeartbeats 2000000 in
/-- RANGES WITH ONE MORE TICK -/
theorem withTick_any (base : Nat) (v : Value) (R : List (Int × Int)) (t : Int) (ht0 : 0 ≤ t) (ht1 : t ≤ 1000000000) (hR : R.length ≤ 100000) (w : World) (hb : base ≤ w.heap.size) (hown : w.ownsRow base 54 2 v R.length (rvI R)) :
    Calls Try.prog 43 #[v, .int .i64 t] w (TickR base (growI R t) w) := by
  obtain ⟨i0, hi, hz0, hz1, hz2⟩ := info_parts infoRg
  have H1 := Lib.hid hown
  have HI := Lib.hid (And.intro hi (And.intro hz0 (And.intro hz1 hz2)))
  have HA := Lib.hid (hown.alloc (.cells #[.int .i64 t, .int .i64 t] 54))
  have HN : Hid (∀ j u, ([Value.int .i64 t, .int .i64 t] : List Value)[j]? = some u → (w.alloc (.cells #[.int .i64 t, .int .i64 t] 54)).cell? ((⟨w.heap.size, 0, none⟩ : Addr).add j) = some u) := by
    intro j u hu
    rw [add_none, Nat.zero_add, cell_of_row _ _ _ _ _ _ (heap_alloc_new w (.cells #[.int .i64 t, .int .i64 t] 54)), ← hu]
    simp
  have HO : Hid (∀ u ∈ ([Value.int .i64 t, .int .i64 t] : List Value), u.oneCell' = true) := by
    intro u hu
    simp at hu
    rw [hu]; rfl
  rcases List.eq_nil_or_concat R with hnil | ⟨R', ⟨lo, hi'⟩, rfl⟩
  · subst hnil
    have hv : ∃ p c, v = .slice p 0 c := by
      rcases hown.2 with ⟨h, -⟩ | ⟨g, cap, cur, h, -⟩
      · exact ⟨_, _, h⟩
      · exact ⟨_, _, h⟩
    obtain ⟨p, c, rfl⟩ := hv
    rw [growI_nil]
    clear hown hi hz0 hz1 hz2
    go_enter Try.func43, Try.ntmps43
    go_wp2_with (at_builtin; refine wpList_append_own _ (by rfl) (.tmp 28) (.tmp 32) 33 (by rfl) base 54 i0 (.agg #[.int .i64 0, .int .i64 0]) 2 16 Try.underlying33 HI.out.1 HI.out.2.1 HI.out.2.2.1 HI.out.2.2.2 rfl (by decide) (.slice p 0 c) 0 (rvI []) (by rfl) HA.out ⟨w.heap.size, 0, none⟩ 1 1 [.int .i64 t, .int .i64 t] (by rfl) (by rfl) HN.out HO.out (by unfold maxLen; omega) (by omega) (by simp; omega) ?_)
    intro v' w' hown' hgrow hiff
    have HR := Lib.hid (TickR.appended (R := []) H1.out hb rfl hown' hgrow)
    clear hown' hgrow hiff
    go_wp2_with fail
    go_ret
    exact ⟨_, rfl, HR.out⟩
  · obtain ⟨n, hn⟩ : ∃ n, n = R'.length := ⟨_, rfl⟩
    have hl : (R' ++ [(lo, hi')]).length = n + 1 := by simp [hn]
    rw [List.concat_eq_append] at *
    rw [hl] at hR
    obtain ⟨g, cap, cur, rfl, hbg, hgb, hnc, hcm, hcs, htk⟩ : ∃ g cap cur, v = .slice (some ⟨g, 0, none⟩) (n + 1) cap ∧ base ≤ g ∧ w.heap[g]? = some (.cells cur 54 (0, 0)) ∧ n + 1 ≤ cap ∧ cap ≤ maxLen ∧ cur.size = cap * 2 ∧ cur.toList.take ((n + 1) * 2) = rvI (R' ++ [(lo, hi')]) := by
      rcases hown.2 with ⟨-, h⟩ | ⟨g, cap, cur, h1, h2, h3, h4, h5, h6, h7⟩
      · rw [hl] at h; omega
      · rw [hl] at h1 h4 h7; exact ⟨g, cap, cur, h1, h2, h3, h4, h5, h6, h7⟩
    have hcell : w.cell? ⟨g, n * 2 + 1, none⟩ = some (.int .i64 hi') := by
      rw [cell_of_row w g _ cur _ _ hgb, ← Array.getElem?_toList]
      have : (cur.toList.take ((n + 1) * 2))[n * 2 + 1]? = some (.int .i64 hi') := by
        rw [htk, rvI_append, List.getElem?_append_right (by rw [rvI_len]; omega), rvI_len, show n * 2 + 1 - 2 * R'.length = 1 from by omega]
        rfl
      rwa [List.getElem?_take, if_pos (by omega)] at this
    have hfree := frozen_of_row w g (n * 2 + 1) cur _ hgb
    have HL := Lib.hid hl
    have HNN := Lib.hid hn
    rw [hl] at hown
    have HOW := Lib.hid hown
    have HSET := Lib.hid (show (rvI (R' ++ [(lo, hi')])).set (n * 2 + 1) (.int .i64 t) = rvI (R' ++ [(lo, t)]) by
      rw [rvI_append, rvI_append, show n * 2 + 1 = (rvI R').length + 1 from by rw [rvI_len]; omega, List.set_append_right _ _ (by omega)]
      simp [rvI])
    clear hown hi hz0 hz1 hz2 hl hn htk hcs hcm hnc H1
    by_cases hc : hi' = t - 1
    · have hg := growI_in R' lo hi' t hc
      have HG := Lib.hid hg
      have HC := Lib.hid hc
      have hb1 : (hi' == t - 1) = true := by rw [hc]; exact beq_self_eq_true _
      have HGB := Lib.hid hgb
      clear hg hc hgb
      go_enter Try.func43, Try.ntmps43
      go_wp2_with fail
      go_ret
      refine ⟨_, rfl, ?_, (Below.refl _ w).setCell (p := ⟨g, n * 2 + 1, none⟩) hbg _, KeepsOthers.setCell _ _ _⟩
      rw [HG.out, show (R' ++ [(lo, t)]).length = n + 1 from by simp [HNN.out], ← HSET.out]
      exact (HOW.out.stored (n * 2 + 1) (.int .i64 t)).1
    · have hg := growI_out R' lo hi' t hc
      have HG := Lib.hid hg
      have hb1 : (hi' == t - 1) = false := by rw [beq_eq_false_iff_ne]; exact hc
      rw [HL.out] at HA
      clear hg hc hgb hfree
      go_enter Try.func43, Try.ntmps43
      go_wp2_with (at_builtin; refine wpList_append_own _ (by rfl) (.tmp 28) (.tmp 32) 33 (by rfl) base 54 i0 (.agg #[.int .i64 0, .int .i64 0]) 2 16 Try.underlying33 HI.out.1 HI.out.2.1 HI.out.2.2.1 HI.out.2.2.2 rfl (by decide) (.slice (some ⟨g, 0, none⟩) (n + 1) cap) (n + 1) (rvI (R' ++ [(lo, hi')])) (by rfl) HA.out ⟨w.heap.size, 0, none⟩ 1 1 [.int .i64 t, .int .i64 t] (by rfl) (by rfl) HN.out HO.out (by unfold maxLen; omega) (by omega) (by simp; omega) ?_)
      intro v' w' hown' hgrow hiff
      have HR := Lib.hid (TickR.appended (R := R' ++ [(lo, hi')]) HOW.out hb HL.out.symm hown' hgrow)
      clear hown' hgrow hiff
      go_wp2_with fail
      go_ret
      exact ⟨_, rfl, by rw [HG.out]; exact HR.out.1, HR.out.2⟩
end Go.Proofs.Ytmbolmmcfnfamaa.Orb
