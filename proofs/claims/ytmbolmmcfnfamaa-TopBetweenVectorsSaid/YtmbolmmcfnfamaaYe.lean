import Derived.Test.YtmbolmmcfnfamaaSr
import Derived.Test.YtmbolmmcfnfamaaSx
import Derived.Deep.RegionHeld3
import Derived.BigQuiet
import Derived.Deep.Quiet
import Derived.Test.YtmbolmmcfnfamaaYa
import Derived.Outline
namespace Go.Proofs.Ytmbolmmcfnfamaa.Orb
open Go.RowKit Lib

theorem placeE_cases (x y z : Int) : (placeB x y z = true ∧ placeE x y z = 0) ∨ (placeB x y z = false ∧ placeE x y z = 2) := by
  cases h : placeB x y z with
  | true => exact .inl ⟨rfl, (placeB_iff x y z).1 h⟩
  | false =>
    right
    refine ⟨rfl, ?_⟩
    have h2 : ¬ placeE x y z = 0 := fun h3 => by rw [(placeB_iff x y z).2 h3] at h; cases h
    unfold placeE rangeE at *
    simp only [firstE] at *
    repeat' split at h2
    all_goals first | (exact absurd rfl h2) | skip
    all_goals simp_all

/-- few, and wrong, or of 200 ticks -/
def briefB (s : Nat) (ne bend : Int) (L : List St) : Bool := fewB s L.length && (decide ((orbE ne bend L).2 ≠ 0) || decide (lst L - fst L ≤ 200))
theorem briefB_true {s : Nat} {ne bend : Int} {L : List St} (h : briefB s ne bend L = true) : fewB s L.length = true ∧ ((orbE ne bend L).2 = 0 → lst L - fst L ≤ 200) := by
  unfold briefB at h
  simp at h
  refine ⟨h.1, fun h0 => ?_⟩
  rcases h.2 with h2 | h2
  · exact absurd h0 h2
  · exact h2

set_option maxRecDepth 100000 in
set_option maxHeartbeats 2000000 in
theorem Brief_any (v : Value) (nm : ByteArray) (bend : Int) (L : List St) (w : World) (hv : OV w v nm bend L) :
    Calls Try.prog 7 #[v] w fun e w' => e = .returned (.bool (briefB nm.size (nameE nm) bend L)) ∧ Below w.heap.size w w' := by
  have CF := Lib.hid (fun W (h : Below w.heap.size w W) => Few_any v nm bend L W (hv.next h))
  have CE := Lib.hid (fun (hs : nm.size ≤ 1000) W (h : Below w.heap.size w W) => refErr_any v nm hs bend L W (hv.next h))
  have HSZ := Lib.hid (fun (h : fewB nm.size L.length = true) => (fewB_true h).1)
  have CL := Lib.hid (fun (h0 : 0 < L.length) (hn : L.length ≤ 1000) W (h : Below w.heap.size w W) => Last_any v nm bend L h0 hn W (hv.next h))
  have CO := Lib.hid (fun (h0 : 0 < L.length) W (h : Below w.heap.size w W) => First_any v nm bend L h0 W (hv.next h))
  obtain ⟨p, cap, rfl, -, -, -⟩ := hv.form
  have hw : (fewB nm.size L.length = false ∧ Hid (briefB nm.size (nameE nm) bend L = false)) ∨
      (fewB nm.size L.length = true ∧ ((orbE (nameE nm) bend L).2 != 0) = true ∧ Hid (briefB nm.size (nameE nm) bend L = true)) ∨
      (fewB nm.size L.length = true ∧ (orbE (nameE nm) bend L).2 = 0 ∧ (0 < L.length ∧ L.length ≤ 1000) ∧ (0 ≤ fst L ∧ fst L ≤ 1000000000 ∧ 0 ≤ lst L ∧ lst L ≤ 1000000000) ∧ Hid (briefB nm.size (nameE nm) bend L = decide (lst L - fst L ≤ 200))) := by
    unfold Hid briefB
    cases hf : fewB nm.size L.length with
    | false => left; exact ⟨rfl, rfl⟩
    | true =>
      right
      by_cases h0 : (orbE (nameE nm) bend L).2 = 0
      · right
        obtain ⟨-, hR⟩ := Rt.of h0
        have n0 := hR.n0
        have n1 := hR.n1
        have a := hR.st 0 (by omega)
        have b := hR.st (L.length - 1) (by omega)
        exact ⟨rfl, h0, ⟨by omega, by omega⟩, ⟨a.t0, a.t1, b.t0, b.t1⟩, by simp [h0]⟩
      · left
        exact ⟨rfl, by rw [bne_iff_ne]; exact h0, by simp [h0]⟩
  clear hv
  generalize briefB nm.size (nameE nm) bend L = R at *
  generalize (orbE (nameE nm) bend L).2 = E at *
  generalize fst L = f at *
  generalize lst L = l at *
  generalize L.length = n at *
  rcases hw with ⟨hf, HR⟩ | ⟨hf, hE, HR⟩ | ⟨hf, rfl, ⟨hn0, hn1⟩, ⟨f0, f1, l0, l1⟩, HR⟩
  · rw [HR.out]
    rw [hf] at CF
    clear CE HSZ
    clear HR hf
    generalize nm.size = s at *
    obtain ⟨W0, hW0⟩ : ∃ W0, W0 = w.alloc (.cells #[.string nm, .int .i64 bend, .slice p n cap] 24) := ⟨_, rfl⟩
    have HB0 := Lib.hid (show Below w.heap.size w W0 by rw [hW0]; exact new_below _ _)
    have HP0 := Lib.hid (show W0.heap[w.heap.size]? = some (.cells #[.string nm, .int .i64 bend, .slice p n cap] 24 (0, 0)) by rw [hW0]; exact heap_alloc_new _ _)
    go_enter Try.func7, Try.ntmps7
    go_upto_region 1 with fail
    rw [← hW0]
    clear hW0
    refine wp_region_quiet (C := fun W' => Below W0.heap.size W0 W') (by kernel_rfl) (by kernel_rfl) (Below.refl _ W0).drew ?_
    refine Go.BigFrame.wpQuiet_want (by rfl) (fun K hK => ⟨.agg #[.string nm, .int .i64 bend, .slice p n cap], fun WQ hWQ => ?_, hK _ ?_⟩)
    · clear hK
      obtain ⟨q0, q1, q2⟩ := cells3 (keepb hWQ HP0.out)
      unfold Oper.quietAt
      go_simp
    clear hK K
    simp only [Act.put, List.setIfInBounds_toArray, List.set_cons_succ, List.set_cons_zero]
    refine Go.BigFrame.wpQuiet_want (by rfl) (fun K hK => ⟨.bool false, fun WQ hWQ => ?_, hK _ ?_⟩)
    · clear hK
      unfold Oper.quietAt
      go_simp
      exact (CF.out WQ (trans' HB0.out hWQ)).mono (fun e w' h => ⟨h.1, andThen hWQ h.2⟩)
    clear hK K
    simp only [Act.put, List.setIfInBounds_toArray, List.set_cons_succ, List.set_cons_zero]
    refine Go.BigFrame.wpQuiet_want (by rfl) (fun K hK => ⟨.bool false, fun WQ hWQ => ?_, hK _ ?_⟩)
    · clear hK
      unfold Oper.quietAt
      go_simp
    clear hK K
    simp only [Act.put, List.setIfInBounds_toArray, List.set_cons_succ, List.set_cons_zero]
    go_big_quiet_skip
    go_big_quiet_skip
    go_big_quiet_skip
    go_big_quiet_skip
    go_big_quiet_skip
    go_big_quiet_skip
    go_big_quiet_skip
    go_big_quiet_skip
    go_big_quiet_skip
    go_big_quiet_skip
    go_big_quiet_skip
    refine Go.BigFrame.wpQuiet_want (by rfl) (fun K hK => ⟨.bool false, fun WQ hWQ => ?_, hK _ ?_⟩)
    · clear hK
      unfold Oper.quietAt
      go_simp
    clear hK K
    simp only [Act.put, List.setIfInBounds_toArray, List.set_cons_succ, List.set_cons_zero]
    refine Go.BigFrame.wpQuiet_want (by rfl) (fun K hK => ⟨.bool false, fun WQ hWQ => ?_, hK _ ?_⟩)
    · clear hK
      unfold Oper.quietAt
      go_simp
    clear hK K
    simp only [Act.put, List.setIfInBounds_toArray, List.set_cons_succ, List.set_cons_zero]
    refine wpQuiet_nil ?_
    intro W8 hb8
    have HB8 := Lib.hid (trans' HB0.out hb8)
    clear hb8
    go_wp2_with fail
    go_ret
    exact ⟨rfl, HB8.out⟩
  · rw [HR.out]
    rw [hf] at CF
    have hs := HSZ.out hf
    have CE2 := Lib.hid (CE.out (by omega))
    clear HSZ hs CE
    clear HR hf
    generalize nm.size = s at *
    obtain ⟨W0, hW0⟩ : ∃ W0, W0 = w.alloc (.cells #[.string nm, .int .i64 bend, .slice p n cap] 24) := ⟨_, rfl⟩
    have HB0 := Lib.hid (show Below w.heap.size w W0 by rw [hW0]; exact new_below _ _)
    have HP0 := Lib.hid (show W0.heap[w.heap.size]? = some (.cells #[.string nm, .int .i64 bend, .slice p n cap] 24 (0, 0)) by rw [hW0]; exact heap_alloc_new _ _)
    go_enter Try.func7, Try.ntmps7
    go_upto_region 1 with fail
    rw [← hW0]
    clear hW0
    refine wp_region_quiet (C := fun W' => Below W0.heap.size W0 W') (by kernel_rfl) (by kernel_rfl) (Below.refl _ W0).drew ?_
    refine Go.BigFrame.wpQuiet_want (by rfl) (fun K hK => ⟨.agg #[.string nm, .int .i64 bend, .slice p n cap], fun WQ hWQ => ?_, hK _ ?_⟩)
    · clear hK
      obtain ⟨q0, q1, q2⟩ := cells3 (keepb hWQ HP0.out)
      unfold Oper.quietAt
      go_simp
    clear hK K
    simp only [Act.put, List.setIfInBounds_toArray, List.set_cons_succ, List.set_cons_zero]
    refine Go.BigFrame.wpQuiet_want (by rfl) (fun K hK => ⟨.bool true, fun WQ hWQ => ?_, hK _ ?_⟩)
    · clear hK
      unfold Oper.quietAt
      go_simp
      exact (CF.out WQ (trans' HB0.out hWQ)).mono (fun e w' h => ⟨h.1, andThen hWQ h.2⟩)
    clear hK K
    simp only [Act.put, List.setIfInBounds_toArray, List.set_cons_succ, List.set_cons_zero]
    refine Go.BigFrame.wpQuiet_want (by rfl) (fun K hK => ⟨.bool true, fun WQ hWQ => ?_, hK _ ?_⟩)
    · clear hK
      unfold Oper.quietAt
      go_simp
    clear hK K
    simp only [Act.put, List.setIfInBounds_toArray, List.set_cons_succ, List.set_cons_zero]
    refine Go.BigFrame.wpQuiet_want (by rfl) (fun K hK => ⟨.agg #[.string nm, .int .i64 bend, .slice p n cap], fun WQ hWQ => ?_, hK _ ?_⟩)
    · clear hK
      obtain ⟨q0, q1, q2⟩ := cells3 (keepb hWQ HP0.out)
      unfold Oper.quietAt
      go_simp
    clear hK K
    simp only [Act.put, List.setIfInBounds_toArray, List.set_cons_succ, List.set_cons_zero]
    refine Go.BigFrame.wpQuiet_want (by rfl) (fun K hK => ⟨.int .i64 E, fun WQ hWQ => ?_, hK _ ?_⟩)
    · clear hK
      unfold Oper.quietAt
      go_simp
      exact (CE2.out WQ (trans' HB0.out hWQ)).mono (fun e w' h => ⟨h.1, andThen hWQ h.2⟩)
    clear hK K
    simp only [Act.put, List.setIfInBounds_toArray, List.set_cons_succ, List.set_cons_zero]
    refine Go.BigFrame.wpQuiet_want (by rfl) (fun K hK => ⟨.bool true, fun WQ hWQ => ?_, hK _ ?_⟩)
    · clear hK
      unfold Oper.quietAt
      go_simp
    clear hK K
    simp only [Act.put, List.setIfInBounds_toArray, List.set_cons_succ, List.set_cons_zero]
    refine Go.BigFrame.wpQuiet_want (by rfl) (fun K hK => ⟨.bool true, fun WQ hWQ => ?_, hK _ ?_⟩)
    · clear hK
      unfold Oper.quietAt
      go_simp
    clear hK K
    simp only [Act.put, List.setIfInBounds_toArray, List.set_cons_succ, List.set_cons_zero]
    go_big_quiet_skip
    go_big_quiet_skip
    go_big_quiet_skip
    go_big_quiet_skip
    go_big_quiet_skip
    go_big_quiet_skip
    refine Go.BigFrame.wpQuiet_want (by rfl) (fun K hK => ⟨.bool true, fun WQ hWQ => ?_, hK _ ?_⟩)
    · clear hK
      unfold Oper.quietAt
      go_simp
    clear hK K
    simp only [Act.put, List.setIfInBounds_toArray, List.set_cons_succ, List.set_cons_zero]
    refine Go.BigFrame.wpQuiet_want (by rfl) (fun K hK => ⟨.bool true, fun WQ hWQ => ?_, hK _ ?_⟩)
    · clear hK
      unfold Oper.quietAt
      go_simp
    clear hK K
    simp only [Act.put, List.setIfInBounds_toArray, List.set_cons_succ, List.set_cons_zero]
    refine Go.BigFrame.wpQuiet_want (by rfl) (fun K hK => ⟨.bool true, fun WQ hWQ => ?_, hK _ ?_⟩)
    · clear hK
      unfold Oper.quietAt
      go_simp
    clear hK K
    simp only [Act.put, List.setIfInBounds_toArray, List.set_cons_succ, List.set_cons_zero]
    refine wpQuiet_nil ?_
    intro W8 hb8
    have HB8 := Lib.hid (trans' HB0.out hb8)
    clear hb8
    go_wp2_with fail
    go_ret
    exact ⟨rfl, HB8.out⟩
  · rw [HR.out]
    rw [hf] at CF
    have hs := HSZ.out hf
    have CE2 := Lib.hid (CE.out (by omega))
    clear HSZ hs CE
    have CL2 := Lib.hid (CL.out hn0 hn1)
    have CO2 := Lib.hid (CO.out hn0)
    clear CL CO
    have hsub : IntKind.i64.wrap (l - f) = l - f := IntWalk.i64_in _ (by omega)
    clear HR hf
    generalize nm.size = s at *
    obtain ⟨W0, hW0⟩ : ∃ W0, W0 = w.alloc (.cells #[.string nm, .int .i64 bend, .slice p n cap] 24) := ⟨_, rfl⟩
    have HB0 := Lib.hid (show Below w.heap.size w W0 by rw [hW0]; exact new_below _ _)
    have HP0 := Lib.hid (show W0.heap[w.heap.size]? = some (.cells #[.string nm, .int .i64 bend, .slice p n cap] 24 (0, 0)) by rw [hW0]; exact heap_alloc_new _ _)
    go_enter Try.func7, Try.ntmps7
    go_upto_region 1 with fail
    rw [← hW0]
    clear hW0
    refine wp_region_quiet (C := fun W' => Below W0.heap.size W0 W') (by kernel_rfl) (by kernel_rfl) (Below.refl _ W0).drew ?_
    refine Go.BigFrame.wpQuiet_want (by rfl) (fun K hK => ⟨.agg #[.string nm, .int .i64 bend, .slice p n cap], fun WQ hWQ => ?_, hK _ ?_⟩)
    · clear hK
      obtain ⟨q0, q1, q2⟩ := cells3 (keepb hWQ HP0.out)
      unfold Oper.quietAt
      go_simp
    clear hK K
    simp only [Act.put, List.setIfInBounds_toArray, List.set_cons_succ, List.set_cons_zero]
    refine Go.BigFrame.wpQuiet_want (by rfl) (fun K hK => ⟨.bool true, fun WQ hWQ => ?_, hK _ ?_⟩)
    · clear hK
      unfold Oper.quietAt
      go_simp
      exact (CF.out WQ (trans' HB0.out hWQ)).mono (fun e w' h => ⟨h.1, andThen hWQ h.2⟩)
    clear hK K
    simp only [Act.put, List.setIfInBounds_toArray, List.set_cons_succ, List.set_cons_zero]
    refine Go.BigFrame.wpQuiet_want (by rfl) (fun K hK => ⟨.bool true, fun WQ hWQ => ?_, hK _ ?_⟩)
    · clear hK
      unfold Oper.quietAt
      go_simp
    clear hK K
    simp only [Act.put, List.setIfInBounds_toArray, List.set_cons_succ, List.set_cons_zero]
    refine Go.BigFrame.wpQuiet_want (by rfl) (fun K hK => ⟨.agg #[.string nm, .int .i64 bend, .slice p n cap], fun WQ hWQ => ?_, hK _ ?_⟩)
    · clear hK
      obtain ⟨q0, q1, q2⟩ := cells3 (keepb hWQ HP0.out)
      unfold Oper.quietAt
      go_simp
    clear hK K
    simp only [Act.put, List.setIfInBounds_toArray, List.set_cons_succ, List.set_cons_zero]
    refine Go.BigFrame.wpQuiet_want (by rfl) (fun K hK => ⟨.int .i64 0, fun WQ hWQ => ?_, hK _ ?_⟩)
    · clear hK
      unfold Oper.quietAt
      go_simp
      exact (CE2.out WQ (trans' HB0.out hWQ)).mono (fun e w' h => ⟨h.1, andThen hWQ h.2⟩)
    clear hK K
    simp only [Act.put, List.setIfInBounds_toArray, List.set_cons_succ, List.set_cons_zero]
    refine Go.BigFrame.wpQuiet_want (by rfl) (fun K hK => ⟨.bool false, fun WQ hWQ => ?_, hK _ ?_⟩)
    · clear hK
      unfold Oper.quietAt
      go_simp
    clear hK K
    simp only [Act.put, List.setIfInBounds_toArray, List.set_cons_succ, List.set_cons_zero]
    refine Go.BigFrame.wpQuiet_want (by rfl) (fun K hK => ⟨.bool false, fun WQ hWQ => ?_, hK _ ?_⟩)
    · clear hK
      unfold Oper.quietAt
      go_simp
    clear hK K
    simp only [Act.put, List.setIfInBounds_toArray, List.set_cons_succ, List.set_cons_zero]
    refine Go.BigFrame.wpQuiet_want (by rfl) (fun K hK => ⟨.agg #[.string nm, .int .i64 bend, .slice p n cap], fun WQ hWQ => ?_, hK _ ?_⟩)
    · clear hK
      obtain ⟨q0, q1, q2⟩ := cells3 (keepb hWQ HP0.out)
      unfold Oper.quietAt
      go_simp
    clear hK K
    simp only [Act.put, List.setIfInBounds_toArray, List.set_cons_succ, List.set_cons_zero]
    refine Go.BigFrame.wpQuiet_want (by rfl) (fun K hK => ⟨.int .i64 l, fun WQ hWQ => ?_, hK _ ?_⟩)
    · clear hK
      unfold Oper.quietAt
      go_simp
      exact (CL2.out WQ (trans' HB0.out hWQ)).mono (fun e w' h => ⟨h.1, andThen hWQ h.2⟩)
    clear hK K
    simp only [Act.put, List.setIfInBounds_toArray, List.set_cons_succ, List.set_cons_zero]
    refine Go.BigFrame.wpQuiet_want (by rfl) (fun K hK => ⟨.agg #[.string nm, .int .i64 bend, .slice p n cap], fun WQ hWQ => ?_, hK _ ?_⟩)
    · clear hK
      obtain ⟨q0, q1, q2⟩ := cells3 (keepb hWQ HP0.out)
      unfold Oper.quietAt
      go_simp
    clear hK K
    simp only [Act.put, List.setIfInBounds_toArray, List.set_cons_succ, List.set_cons_zero]
    refine Go.BigFrame.wpQuiet_want (by rfl) (fun K hK => ⟨.int .i64 f, fun WQ hWQ => ?_, hK _ ?_⟩)
    · clear hK
      unfold Oper.quietAt
      go_simp
      exact (CO2.out WQ (trans' HB0.out hWQ)).mono (fun e w' h => ⟨h.1, andThen hWQ h.2⟩)
    clear hK K
    simp only [Act.put, List.setIfInBounds_toArray, List.set_cons_succ, List.set_cons_zero]
    refine Go.BigFrame.wpQuiet_want (by rfl) (fun K hK => ⟨.int .i64 (l - f), fun WQ hWQ => ?_, hK _ ?_⟩)
    · clear hK
      unfold Oper.quietAt
      go_simp
    clear hK K
    simp only [Act.put, List.setIfInBounds_toArray, List.set_cons_succ, List.set_cons_zero]
    refine Go.BigFrame.wpQuiet_want (by rfl) (fun K hK => ⟨.bool (decide (l - f ≤ 200)), fun WQ hWQ => ?_, hK _ ?_⟩)
    · clear hK
      unfold Oper.quietAt
      go_simp
    clear hK K
    simp only [Act.put, List.setIfInBounds_toArray, List.set_cons_succ, List.set_cons_zero]
    refine Go.BigFrame.wpQuiet_want (by rfl) (fun K hK => ⟨.bool (decide (l - f ≤ 200)), fun WQ hWQ => ?_, hK _ ?_⟩)
    · clear hK
      unfold Oper.quietAt
      go_simp
    clear hK K
    simp only [Act.put, List.setIfInBounds_toArray, List.set_cons_succ, List.set_cons_zero]
    refine Go.BigFrame.wpQuiet_want (by rfl) (fun K hK => ⟨.bool (decide (l - f ≤ 200)), fun WQ hWQ => ?_, hK _ ?_⟩)
    · clear hK
      unfold Oper.quietAt
      go_simp
    clear hK K
    simp only [Act.put, List.setIfInBounds_toArray, List.set_cons_succ, List.set_cons_zero]
    refine Go.BigFrame.wpQuiet_want (by rfl) (fun K hK => ⟨.bool (decide (l - f ≤ 200)), fun WQ hWQ => ?_, hK _ ?_⟩)
    · clear hK
      unfold Oper.quietAt
      go_simp
    clear hK K
    simp only [Act.put, List.setIfInBounds_toArray, List.set_cons_succ, List.set_cons_zero]
    refine wpQuiet_nil ?_
    intro W8 hb8
    have HB8 := Lib.hid (trans' HB0.out hb8)
    clear hb8
    go_wp2_with fail
    go_ret
    exact ⟨rfl, HB8.out⟩

end Go.Proofs.Ytmbolmmcfnfamaa.Orb
