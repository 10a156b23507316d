import Derived.Test.YtodpjhhogcfodaaSr
import Derived.Test.YtodpjhhogcfodaaSx
import Derived.Deep.RegionHeld3
import Derived.BigQuiet
import Derived.Deep.Quiet
import Derived.Test.YtodpjhhogcfodaaYa
import Derived.Outline
namespace Go.Proofs.Ytodpjhhogcfodaa.Orb
open Go.RowKit Lib

theorem placeE_cases (x y z : Int) : (placeB x y z = true ∧ placeE x y z = 0) ∨ (placeB x y z = false ∧ placeE x y z = 2) := by
  cases h : placeB x y z with
  | true => exact .inl ⟨rfl, (placeB_iff x y z).1 h⟩
  | false =>
    right
    refine ⟨rfl, ?_⟩
    have h2 : ¬ placeE x y z = 0 := fun h3 => by rw [(placeB_iff x y z).2 h3] at h; cases h
    unfold placeE rangeE at *
    simp only [firstE] at *
    repeat' split at h2
    all_goals first | (exact absurd rfl h2) | skip
    all_goals simp_all

/-- few, and wrong, or of 200 ticks -/
def briefB (s : Nat) (ne bend : Int) (L : List St) : Bool := fewB s L.length && (decide ((orbE ne bend L).2 ≠ 0) || decide (lst L - fst L ≤ 200))
theorem briefB_true {s : Nat} {ne bend : Int} {L : List St} (h : briefB s ne bend L = true) : fewB s L.length = true ∧ ((orbE ne bend L).2 = 0 → lst L - fst L ≤ 200) := by
  unfold briefB at h
  simp at h
  refine ⟨h.1, fun h0 => ?_⟩
  rcases h.2 with h2 | h2
  · exact absurd h0 h2
  · exact h2

set_option maxRecDepth 100000 in
set_option maxHeartbeats 2000000 in
theorem Brief_any (v : Value) (nm : ByteArray) (bend : Int) (L : List St) (w : World) (hv : OV w v nm bend L) :
    Calls Try.prog 15 #[v] w fun e w' => e = .returned (.bool (briefB nm.size (nameE nm) bend L)) ∧ Below w.heap.size w w' := by
  have CF := Lib.hid (fun W (h : Below w.heap.size w W) => Few_any v nm bend L W (hv.next h))
  have CE := Lib.hid (fun (hs : nm.size ≤ 1000) W (h : Below w.heap.size w W) => refErr_any v nm hs bend L W (hv.next h))
  have HSZ := Lib.hid (fun (h : fewB nm.size L.length = true) => (fewB_true h).1)
  have CL := Lib.hid (fun (h0 : 0 < L.length) (hn : L.length ≤ 1000) W (h : Below w.heap.size w W) => Last_any v nm bend L h0 hn W (hv.next h))
  have CO := Lib.hid (fun (h0 : 0 < L.length) W (h : Below w.heap.size w W) => First_any v nm bend L h0 W (hv.next h))
  obtain ⟨p, cap, rfl, -, -, -⟩ := hv.form
  have hw : (fewB nm.size L.length = false ∧ Hid (briefB nm.size (nameE nm) bend L = false)) ∨
      (fewB nm.size L.length = true ∧ ((orbE (nameE nm) bend L).2 != 0) = true ∧ Hid (briefB nm.size (nameE nm) bend L = true)) ∨
      (fewB nm.size L.length = true ∧ (orbE (nameE nm) bend L).2 = 0 ∧ (0 < L.length ∧ L.length ≤ 1000) ∧ (0 ≤ fst L ∧ fst L ≤ 1000000000 ∧ 0 ≤ lst L ∧ lst L ≤ 1000000000) ∧ Hid (briefB nm.size (nameE nm) bend L = decide (lst L - fst L ≤ 200))) := by
    unfold Hid briefB
    cases hf : fewB nm.size L.length with
    | false => left; exact ⟨rfl, rfl⟩
    | true =>
      right
      by_cases h0 : (orbE (nameE nm) bend L).2 = 0
      · right
        obtain ⟨-, hR⟩ := Rt.of h0
        have n0 := hR.n0
        have n1 := hR.n1
        have a := hR.st 0 (by omega)
        have b := hR.st (L.length - 1) (by omega)
        exact ⟨rfl, h0, ⟨by omega, by omega⟩, ⟨a.t0, a.t1, b.t0, b.t1⟩, by simp [h0]⟩
      · left
        exact ⟨rfl, by rw [bne_iff_ne]; exact h0, by simp [h0]⟩
  clear hv
  generalize briefB nm.size (nameE nm) bend L = R at *
  generalize (orbE (nameE nm) bend L).2 = E at *
  generalize fst L = f at *
  generalize lst L = l at *
  generalize L.length = n at *
  rcases hw with ⟨hf, HR⟩ | ⟨hf, hE, HR⟩ | ⟨hf, rfl, ⟨hn0, hn1⟩, ⟨f0, f1, l0, l1⟩, HR⟩
  · rw [HR.out]
    rw [hf] at CF
    clear CE HSZ
    clear HR hf
    generalize nm.size = s at *
    obtain ⟨W0, hW0⟩ : ∃ W0, W0 = w.alloc (.cells #[.string nm, .int .i64 bend, .slice p n cap] 24) := ⟨_, rfl⟩
    have HB0 := Lib.hid (show Below w.heap.size w W0 by rw [hW0]; exact new_below _ _)
    have HP0 := Lib.hid (show W0.heap[w.heap.size]? = some (.cells #[.string nm, .int .i64 bend, .slice p n cap] 24 (0, 0)) by rw [hW0]; exact heap_alloc_new _ _)
    go_enter Try.func15, Try.ntmps15
    go_upto_region 1 with fail
    rw [← hW0]
    clear hW0
    refine wp_region_quiet (C := fun W' => Below W0.heap.size W0 W') (by kernel_rfl) (by kernel_rfl) (Below.refl _ W0).drew ?_
    refine Go.BigFrame.wpQuiet_want (by rfl) (fun K hK => ⟨.agg #[.string nm, .int .i64 bend, .slice p n cap], fun WQ hWQ => ?_, hK _ ?_⟩)
    · clear hK
      obtain ⟨q0, q1, q2⟩ := cells3 (keepb hWQ HP0.out)
      unfold Oper.quietAt
      go_simp
    clear hK K
    simp only [Act.put, List.setIfInBounds_toArray, List.set_cons_succ, List.set_cons_zero]
    refine Go.BigFrame.wpQuiet_want (by rfl) (fun K hK => ⟨.bool false, fun WQ hWQ => ?_, hK _ ?_⟩)
    · clear hK
      unfold Oper.quietAt
      go_simp
      exact (CF.out WQ (trans' HB0.out hWQ)).mono (fun e w' h => ⟨h.1, andThen hWQ h.2⟩)
    clear hK K
    simp only [Act.put, List.setIfInBounds_toArray, List.set_cons_succ, List.set_cons_zero]
    refine Go.BigFrame.wpQuiet_want (by rfl) (fun K hK => ⟨.bool false, fun WQ hWQ => ?_, hK _ ?_⟩)
    · clear hK
      unfold Oper.quietAt
      go_simp
    clear hK K
    simp only [Act.put, List.setIfInBounds_toArray, List.set_cons_succ, List.set_cons_zero]
    go_big_quiet_skip
    go_big_quiet_skip
    go_big_quiet_skip
    go_big_quiet_skip
    go_big_quiet_skip
    go_big_quiet_skip
    go_big_quiet_skip
    go_big_quiet_skip
    go_big_quiet_skip
    go_big_quiet_skip
    go_big_quiet_skip
    refine Go.BigFrame.wpQuiet_want (by rfl) (fun K hK => ⟨.bool false, fun WQ hWQ => ?_, hK _ ?_⟩)
    · clear hK
      unfold Oper.quietAt
      go_simp
    clear hK K
    simp only [Act.put, List.setIfInBounds_toArray, List.set_cons_succ, List.set_cons_zero]
    refine Go.BigFrame.wpQuiet_want (by rfl) (fun K hK => ⟨.bool false, fun WQ hWQ => ?_, hK _ ?_⟩)
    · clear hK
      unfold Oper.quietAt
      go_simp
    clear hK K
    simp only [Act.put, List.setIfInBounds_toArray, List.set_cons_succ, List.set_cons_zero]
    refine wpQuiet_nil ?_
    intro W8 hb8
    have HB8 := Lib.hid (trans' HB0.out hb8)
    clear hb8
    go_wp2_with fail
    go_ret
    exact ⟨rfl, HB8.out⟩
  · rw [HR.out]
    rw [hf] at CF
    have hs := HSZ.out hf
    have CE2 := Lib.hid (CE.out (by omega))
    clear HSZ hs CE
    clear HR hf
    generalize nm.size = s at *
    obtain ⟨W0, hW0⟩ : ∃ W0, W0 = w.alloc (.cells #[.string nm, .int .i64 bend, .slice p n cap] 24) := ⟨_, rfl⟩
    have HB0 := Lib.hid (show Below w.heap.size w W0 by rw [hW0]; exact new_below _ _)
    have HP0 := Lib.hid (show W0.heap[w.heap.size]? = some (.cells #[.string nm, .int .i64 bend, .slice p n cap] 24 (0, 0)) by rw [hW0]; exact heap_alloc_new _ _)
    go_enter Try.func15, Try.ntmps15
    go_upto_region 1 with fail
    rw [← hW0]
    clear hW0
    refine wp_region_quiet (C := fun W' => Below W0.heap.size W0 W') (by kernel_rfl) (by kernel_rfl) (Below.refl _ W0).drew ?_
    refine Go.BigFrame.wpQuiet_want (by rfl) (fun K hK => ⟨.agg #[.string nm, .int .i64 bend, .slice p n cap], fun WQ hWQ => ?_, hK _ ?_⟩)
    · clear hK
      obtain ⟨q0, q1, q2⟩ := cells3 (keepb hWQ HP0.out)
      unfold Oper.quietAt
      go_simp
    clear hK K
    simp only [Act.put, List.setIfInBounds_toArray, List.set_cons_succ, List.set_cons_zero]
    refine Go.BigFrame.wpQuiet_want (by rfl) (fun K hK => ⟨.bool true, fun WQ hWQ => ?_, hK _ ?_⟩)
    · clear hK
      unfold Oper.quietAt
      go_simp
      exact (CF.out WQ (trans' HB0.out hWQ)).mono (fun e w' h => ⟨h.1, andThen hWQ h.2⟩)
    clear hK K
    simp only [Act.put, List.setIfInBounds_toArray, List.set_cons_succ, List.set_cons_zero]
    refine Go.BigFrame.wpQuiet_want (by rfl) (fun K hK => ⟨.bool true, fun WQ hWQ => ?_, hK _ ?_⟩)
    · clear hK
      unfold Oper.quietAt
      go_simp
    clear hK K
    simp only [Act.put, List.setIfInBounds_toArray, List.set_cons_succ, List.set_cons_zero]
    refine Go.BigFrame.wpQuiet_want (by rfl) (fun K hK => ⟨.agg #[.string nm, .int .i64 bend, .slice p n cap], fun WQ hWQ => ?_, hK _ ?_⟩)
    · clear hK
      obtain ⟨q0, q1, q2⟩ := cells3 (keepb hWQ HP0.out)
      unfold Oper.quietAt
      go_simp
    clear hK K
    simp only [Act.put, List.setIfInBounds_toArray, List.set_cons_succ, List.set_cons_zero]
    refine Go.BigFrame.wpQuiet_want (by rfl) (fun K hK => ⟨.int .i64 E, fun WQ hWQ => ?_, hK _ ?_⟩)
    · clear hK
      unfold Oper.quietAt
      go_simp
      exact (CE2.out WQ (trans' HB0.out hWQ)).mono (fun e w' h => ⟨h.1, andThen hWQ h.2⟩)
    clear hK K
    simp only [Act.put, List.setIfInBounds_toArray, List.set_cons_succ, List.set_cons_zero]
    refine Go.BigFrame.wpQuiet_want (by rfl) (fun K hK => ⟨.bool true, fun WQ hWQ => ?_, hK _ ?_⟩)
    · clear hK
      unfold Oper.quietAt
      go_simp
    clear hK K
    simp only [Act.put, List.setIfInBounds_toArray, List.set_cons_succ, List.set_cons_zero]
    refine Go.BigFrame.wpQuiet_want (by rfl) (fun K hK => ⟨.bool true, fun WQ hWQ => ?_, hK _ ?_⟩)
    · clear hK
      unfold Oper.quietAt
      go_simp
    clear hK K
    simp only [Act.put, List.setIfInBounds_toArray, List.set_cons_succ, List.set_cons_zero]
    go_big_quiet_skip
    go_big_quiet_skip
    go_big_quiet_skip
    go_big_quiet_skip
    go_big_quiet_skip
    go_big_quiet_skip
    refine Go.BigFrame.wpQuiet_want (by rfl) (fun K hK => ⟨.bool true, fun WQ hWQ => ?_, hK _ ?_⟩)
    · clear hK
      unfold Oper.quietAt
      go_simp
    clear hK K
    simp only [Act.put, List.setIfInBounds_toArray, List.set_cons_succ, List.set_cons_zero]
    refine Go.BigFrame.wpQuiet_want (by rfl) (fun K hK => ⟨.bool true, fun WQ hWQ => ?_, hK _ ?_⟩)
    · clear hK
      unfold Oper.quietAt
      go_simp
    clear hK K
    simp only [Act.put, List.setIfInBounds_toArray, List.set_cons_succ, List.set_cons_zero]
    refine Go.BigFrame.wpQuiet_want (by rfl) (fun K hK => ⟨.bool true, fun WQ hWQ => ?_, hK _ ?_⟩)
    · clear hK
      unfold Oper.quietAt
      go_simp
    clear hK K
    simp only [Act.put, List.setIfInBounds_toArray, List.set_cons_succ, List.set_cons_zero]
    refine wpQuiet_nil ?_
    intro W8 hb8
    have HB8 := Lib.hid (trans' HB0.out hb8)
    clear hb8
    go_wp2_with fail
    go_ret
    exact ⟨rfl, HB8.out⟩
  · rw [HR.out]
    rw [hf] at CF
    have hs := HSZ.out hf
    have CE2 := Lib.hid (CE.out (by omega))
    clear HSZ hs CE
    have CL2 := Lib.hid (CL.out hn0 hn1)
    have CO2 := Lib.hid (CO.out hn0)
    clear CL CO
    have hsub : IntKind.i64.wrap (l - f) = l - f := IntWalk.i64_in _ (by omega)
    clear HR hf
    generalize nm.size = s at *
    obtain ⟨W0, hW0⟩ : ∃ W0, W0 = w.alloc (.cells #[.string nm, .int .i64 bend, .slice p n cap] 24) := ⟨_, rfl⟩
    have HB0 := Lib.hid (show Below w.heap.size w W0 by rw [hW0]; exact new_below _ _)
    have HP0 := Lib.hid (show W0.heap[w.heap.size]? = some (.cells #[.string nm, .int .i64 bend, .slice p n cap] 24 (0, 0)) by rw [hW0]; exact heap_alloc_new _ _)
    go_enter Try.func15, Try.ntmps15
    go_upto_region 1 with fail
    rw [← hW0]
    clear hW0
    refine wp_region_quiet (C := fun W' => Below W0.heap.size W0 W') (by kernel_rfl) (by kernel_rfl) (Below.refl _ W0).drew ?_
    refine Go.BigFrame.wpQuiet_want (by rfl) (fun K hK => ⟨.agg #[.string nm, .int .i64 bend, .slice p n cap], fun WQ hWQ => ?_, hK _ ?_⟩)
    · clear hK
      obtain ⟨q0, q1, q2⟩ := cells3 (keepb hWQ HP0.out)
      unfold Oper.quietAt
      go_simp
    clear hK K
    simp only [Act.put, List.setIfInBounds_toArray, List.set_cons_succ, List.set_cons_zero]
    refine Go.BigFrame.wpQuiet_want (by rfl) (fun K hK => ⟨.bool true, fun WQ hWQ => ?_, hK _ ?_⟩)
    · clear hK
      unfold Oper.quietAt
      go_simp
      exact (CF.out WQ (trans' HB0.out hWQ)).mono (fun e w' h => ⟨h.1, andThen hWQ h.2⟩)
    clear hK K
    simp only [Act.put, List.setIfInBounds_toArray, List.set_cons_succ, List.set_cons_zero]
    refine Go.BigFrame.wpQuiet_want (by rfl) (fun K hK => ⟨.bool true, fun WQ hWQ => ?_, hK _ ?_⟩)
    · clear hK
      unfold Oper.quietAt
      go_simp
    clear hK K
    simp only [Act.put, List.setIfInBounds_toArray, List.set_cons_succ, List.set_cons_zero]
    refine Go.BigFrame.wpQuiet_want (by rfl) (fun K hK => ⟨.agg #[.string nm, .int .i64 bend, .slice p n cap], fun WQ hWQ => ?_, hK _ ?_⟩)
    · clear hK
      obtain ⟨q0, q1, q2⟩ := cells3 (keepb hWQ HP0.out)
      unfold Oper.quietAt
      go_simp
    clear hK K
    simp only [Act.put, List.setIfInBounds_toArray, List.set_cons_succ, List.set_cons_zero]
    refine Go.BigFrame.wpQuiet_want (by rfl) (fun K hK => ⟨.int .i64 0, fun WQ hWQ => ?_, hK _ ?_⟩)
    · clear hK
      unfold Oper.quietAt
      go_simp
      exact (CE2.out WQ (trans' HB0.out hWQ)).mono (fun e w' h => ⟨h.1, andThen hWQ h.2⟩)
    clear hK K
    simp only [Act.put, List.setIfInBounds_toArray, List.set_cons_succ, List.set_cons_zero]
    refine Go.BigFrame.wpQuiet_want (by rfl) (fun K hK => ⟨.bool false, fun WQ hWQ => ?_, hK _ ?_⟩)
    · clear hK
      unfold Oper.quietAt
      go_simp
    clear hK K
    simp only [Act.put, List.setIfInBounds_toArray, List.set_cons_succ, List.set_cons_zero]
    refine Go.BigFrame.wpQuiet_want (by rfl) (fun K hK => ⟨.bool false, fun WQ hWQ => ?_, hK _ ?_⟩)
    · clear hK
      unfold Oper.quietAt
      go_simp
    clear hK K
    simp only [Act.put, List.setIfInBounds_toArray, List.set_cons_succ, List.set_cons_zero]
    refine Go.BigFrame.wpQuiet_want (by rfl) (fun K hK => ⟨.agg #[.string nm, .int .i64 bend, .slice p n cap], fun WQ hWQ => ?_, hK _ ?_⟩)
    · clear hK
      obtain ⟨q0, q1, q2⟩ := cells3 (keepb hWQ HP0.out)
      unfold Oper.quietAt
      go_simp
    clear hK K
    simp only [Act.put, List.setIfInBounds_toArray, List.set_cons_succ, List.set_cons_zero]
    refine Go.BigFrame.wpQuiet_want (by rfl) (fun K hK => ⟨.int .i64 l, fun WQ hWQ => ?_, hK _ ?_⟩)
    · clear hK
      unfold Oper.quietAt
      go_simp
      exact (CL2.out WQ (trans' HB0.out hWQ)).mono (fun e w' h => ⟨h.1, andThen hWQ h.2⟩)
    clear hK K
    simp only [Act.put, List.setIfInBounds_toArray, List.set_cons_succ, List.set_cons_zero]
    refine Go.BigFrame.wpQuiet_want (by rfl) (fun K hK => ⟨.agg #[.string nm, .int .i64 bend, .slice p n cap], fun WQ hWQ => ?_, hK _ ?_⟩)
    · clear hK
      obtain ⟨q0, q1, q2⟩ := cells3 (keepb hWQ HP0.out)
      unfold Oper.quietAt
      go_simp
    clear hK K
    simp only [Act.put, List.setIfInBounds_toArray, List.set_cons_succ, List.set_cons_zero]
    refine Go.BigFrame.wpQuiet_want (by rfl) (fun K hK => ⟨.int .i64 f, fun WQ hWQ => ?_, hK _ ?_⟩)
    · clear hK
      unfold Oper.quietAt
      go_simp
      exact (CO2.out WQ (trans' HB0.out hWQ)).mono (fun e w' h => ⟨h.1, andThen hWQ h.2⟩)
    clear hK K
    simp only [Act.put, List.setIfInBounds_toArray, List.set_cons_succ, List.set_cons_zero]
    refine Go.BigFrame.wpQuiet_want (by rfl) (fun K hK => ⟨.int .i64 (l - f), fun WQ hWQ => ?_, hK _ ?_⟩)
    · clear hK
      unfold Oper.quietAt
      go_simp
    clear hK K
    simp only [Act.put, List.setIfInBounds_toArray, List.set_cons_succ, List.set_cons_zero]
    refine Go.BigFrame.wpQuiet_want (by rfl) (fun K hK => ⟨.bool (decide (l - f ≤ 200)), fun WQ hWQ => ?_, hK _ ?_⟩)
    · clear hK
      unfold Oper.quietAt
      go_simp
    clear hK K
    simp only [Act.put, List.setIfInBounds_toArray, List.set_cons_succ, List.set_cons_zero]
    refine Go.BigFrame.wpQuiet_want (by rfl) (fun K hK => ⟨.bool (decide (l - f ≤ 200)), fun WQ hWQ => ?_, hK _ ?_⟩)
    · clear hK
      unfold Oper.quietAt
      go_simp
    clear hK K
    simp only [Act.put, List.setIfInBounds_toArray, List.set_cons_succ, List.set_cons_zero]
    refine Go.BigFrame.wpQuiet_want (by rfl) (fun K hK => ⟨.bool (decide (l - f ≤ 200)), fun WQ hWQ => ?_, hK _ ?_⟩)
    · clear hK
      unfold Oper.quietAt
      go_simp
    clear hK K
    simp only [Act.put, List.setIfInBounds_toArray, List.set_cons_succ, List.set_cons_zero]
    refine Go.BigFrame.wpQuiet_want (by rfl) (fun K hK => ⟨.bool (decide (l - f ≤ 200)), fun WQ hWQ => ?_, hK _ ?_⟩)
    · clear hK
      unfold Oper.quietAt
      go_simp
    clear hK K
    simp only [Act.put, List.setIfInBounds_toArray, List.set_cons_succ, List.set_cons_zero]
    refine wpQuiet_nil ?_
    intro W8 hb8
    have HB8 := Lib.hid (trans' HB0.out hb8)
    clear hb8
    go_wp2_with fail
    go_ret
    exact ⟨rfl, HB8.out⟩

set_option maxRecDepth 100000 in
set_option maxHeartbeats 2000000 in
/-- HOW MANY TICKS -/
theorem lawTicks_any (v : Value) (R : List (Int × Int)) (hg : GoodI R) (hl : R.length ≤ 299) (w : World) (hv : Rgs R w v) :
    Calls Try.prog 23 #[v] w fun e w' => e = .returned (.int .i64 (cntI R)) ∧ Below w.heap.size w w' := by
  obtain ⟨ad, cap, rfl, hx⟩ := hv.form
  obtain ⟨n, hn⟩ : ∃ n, n = R.length := ⟨_, rfl⟩
  rw [← hn] at hx hl ⊢
  have HX := Lib.hid hx
  have HBD := Lib.hid (fun k (hk : k ≤ n) => cntTo_bd hg k (by omega))
  have HST := Lib.hid (fun k (hk : k < n) => cntTo_succ R k (by omega))
  have HAT := Lib.hid (fun k (hk : k < n) => hg.at k (by omega))
  have HRG := Lib.hid (fun k (hk : k < n) => And.intro (rvI_lo R k (by omega)) (rvI_hi R k (by omega)))
  have HZ := Lib.hid (cntTo_zero R)
  have HALL := Lib.hid (show cntTo R n = cntI R by rw [hn]; exact cntTo_all R)
  clear hx hv hg hn
  generalize cntI R = T at *
  generalize cntTo R = C at *
  go_enter Try.func23, Try.ntmps23
  go_wp2_with fail
  go_loopw [3, 4] (fun s i wr => ∃ k : Nat, k ≤ n ∧ s = .int .i64 (C k) ∧ i = .int .i64 k ∧ Hid (Below w.heap.size w wr)) (fun _ i _ => n - (intV i).toNat)
  case atStart => exact ⟨0, Nat.zero_le _, by rw [HZ.out], rfl, Lib.hid (Below.refl _ _)⟩
  case round =>
    obtain ⟨k, hk, rfl, rfl, HB⟩ := hrel
    obtain ⟨wz, rfl⟩ : ∃ wz : World, wz = wr := ⟨_, rfl⟩
    by_cases hlt : k < n
    · have hA : n = 0 ∨ ∃ b off, ad = some ⟨b, off, none⟩ ∧ b < w.heap.size ∧ ∀ j x, (rvI R)[j]? = some x → w.cell? ⟨b, off + j, none⟩ = some x := HX.out
      rcases hA with h | ⟨b1, o1, rfl, -, h1⟩
      · omega
      have c1 : wz.cell? ⟨b1, o1 + k * 2, none⟩ = some (.int .i64 (R.getD k (0, 0)).1) := by rw [Nat.mul_comm k 2]; exact keepc HB.out (h1 _ _ (HRG.out k hlt).1)
      have c2 : wz.cell? ⟨b1, o1 + k * 2 + 1, none⟩ = some (.int .i64 (R.getD k (0, 0)).2) := by rw [Nat.mul_comm k 2, Nat.add_assoc]; exact keepc HB.out (h1 _ _ (HRG.out k hlt).2)
      obtain ⟨a1, a2, a3⟩ := HAT.out k hlt
      obtain ⟨d1, d2⟩ := HBD.out k hk
      obtain ⟨d3, d4⟩ := HBD.out (k + 1) hlt
      have hst := HST.out k hlt
      have HS := Lib.hid hst
      generalize (R.getD k (0, 0)).1 = lo at *
      generalize (R.getD k (0, 0)).2 = hi at *
      have CW := Lib.hid (fun W => Within_any lo 0 hi W)
      rw [decide_eq_true (show 0 ≤ lo ∧ lo ≤ hi from ⟨a1, a2⟩)] at CW
      have i0 : (0 : Int) ≤ (k : Int) := by omega
      have i1 : (k : Int) < (n : Int) := by omega
      have i2 : (k : Int) < 300 := by omega
      have e1 : IntKind.i64.wrap (C k + hi) = C k + hi := IntWalk.i64_in _ (by omega)
      have e2 : IntKind.i64.wrap (C k + hi - lo) = C k + hi - lo := IntWalk.i64_in _ (by omega)
      have e3 : IntKind.i64.wrap (C k + hi - lo + 1) = C k + hi - lo + 1 := IntWalk.i64_in _ (by omega)
      have HC := Lib.hid c1
      have HC2 := Lib.hid c2
      clear hst h1 HX HAT HBD HST HRG d1 d2 d3 d4
      go_upto_region 5 with fail
      go_region_held3 (fun W => W.cell? ⟨b1, o1 + k * 2, none⟩ = some (.int .i64 lo) ∧ W.cell? ⟨b1, o1 + k * 2 + 1, none⟩ = some (.int .i64 hi)) (with_reducible refine ⟨keepc ?_ c1, keepc ?_ c2⟩ <;> (repeat (first | with_reducible exact Below.refl _ _ | with_reducible refine alloc1 ?_ _ | with_reducible refine Below.drew ?_ | with_reducible refine drewN1 ?_ _ | with_reducible refine setC ?_ (by omega) _)) <;> done)
        (first
          | (go_at_call 20; (with_reducible refine (CW.out _).mono ?_); rintro e w1 ⟨rfl, rfl⟩))
      go_wp2_with fail
      go_region
      go_wp2_with fail
      go_roundw
      case rel => exact ⟨k + 1, by omega, by rw [HS.out]; congr 1; omega, by go_num, Lib.hid (by first | exact drewN1 HB.out _ | exact (drewN1 HB.out _).drew | exact HB.out.drew.drew)⟩
      case measure => simp [intV]; omega
    · have hkn : k = n := by omega
      subst hkn
      go_wp2_with fail
      go_ret
      exact ⟨by rw [HALL.out]; rfl, HB.out⟩
end Go.Proofs.Ytodpjhhogcfodaa.Orb
