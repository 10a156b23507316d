import Derived.Test.YtmbolmmcfnfamaaZv
import Derived.Test.YtmbolmmcfnfamaaSr
namespace Go.Proofs.Ytmbolmmcfnfamaa.Orb
open Go.RowKit Lib

set_option maxRecDepth 100000 in
/-- THE SMALL CHECK OF THE STATEMENTS OVER CHAPTER 2 -/
theorem flown_any (w : World) : Calls Try.prog 22 #[] w fun e w' => e = .returned (.bool true) ∧ Below w.heap.size w w' := by
  have hI : ∀ k, (gt passL k).t ≤ 9223372036854775807 := by
    intro k
    match k with
    | 0 => decide
    | 1 => decide
    | k + 2 => exact (by decide : (0 : Int) ≤ 9223372036854775807)
  have hs : (⟨#[112]⟩ : ByteArray).size ≤ 1000 := by decide
  have hn : passL.length ≤ 1000 := by decide
  have CP := Lib.hid Pass_any
  obtain ⟨t0, b0, b1, b2, b3, b4, b5, -⟩ := values
  have CB := Lib.hid (fun v W hv => BoxAt_any v ⟨#[112]⟩ hs 2 passL hn hI 3 W hv)
  rw [t0] at CB
  simp only [zif, if_true, b0, b1, b2, b3, b4, b5] at CB
  clear t0 b0 b1 b2 b3 b4 b5 hI hs hn
  generalize passL = L at *
  generalize (⟨#[112]⟩ : ByteArray) = nm at *
  have hE2 := eq_box
  have hG2 : Try.prog.eqGuardType Try.prog.depth 61 = false := by kernel_rfl
  go_enter Try.func22, Try.ntmps22
  go_wp2_with fail
  refine (CP.out _).mono ?_
  rintro e w1 ⟨v1, rfl, hb1, hv1⟩
  have HB1 := Lib.hid hb1
  clear hb1
  go_wp2_with fail
  refine (CB.out _ _ hv1).mono ?_
  rintro e w2 ⟨rfl, hb2⟩
  have HB2 := Lib.hid (trans' HB1.out hb2)
  clear hb2 hv1 HB1 CB CP
  go_wp2_with fail
  go_ret
  exact ⟨rfl, HB2.out.alloc HB2.out.size _⟩

set_option maxRecDepth 100000 in
set_option maxHeartbeats 2000000 in
/-- a place that lies in a box -/
theorem inBox_any (x y z a0 a1 b0 b1 c0 c1 : Int) (w : World) :
    Calls Try.prog 28 #[.agg #[.int .i64 x, .int .i64 y, .int .i64 z], .agg #[.int .i64 a0, .int .i64 a1, .int .i64 b0, .int .i64 b1, .int .i64 c0, .int .i64 c1]] w
      fun e w' => e = .returned (.bool (decide (a0 ≤ x ∧ x ≤ a1) && decide (b0 ≤ y ∧ y ≤ b1) && decide (c0 ≤ z ∧ z ≤ c1))) ∧ Below w.heap.size w w' := by
  have C1 := Lib.hid (fun w => Within_any x a0 a1 w)
  have C2 := Lib.hid (fun w => Within_any y b0 b1 w)
  have C3 := Lib.hid (fun w => Within_any z c0 c1 w)
  generalize decide (a0 ≤ x ∧ x ≤ a1) = d1 at *
  generalize decide (b0 ≤ y ∧ y ≤ b1) = d2 at *
  generalize decide (c0 ≤ z ∧ z ≤ c1) = d3 at *
  obtain ⟨W0, hW0⟩ : ∃ W0, W0 = (w.alloc (.cells #[.int .i64 x, .int .i64 y, .int .i64 z] 43)).alloc (.cells #[.int .i64 a0, .int .i64 a1, .int .i64 b0, .int .i64 b1, .int .i64 c0, .int .i64 c1] 61) := ⟨_, rfl⟩
  have n1 := new_below w (.cells #[.int .i64 x, .int .i64 y, .int .i64 z] 43)
  have n2 := new_below (w.alloc (.cells #[.int .i64 x, .int .i64 y, .int .i64 z] 43)) (.cells #[.int .i64 a0, .int .i64 a1, .int .i64 b0, .int .i64 b1, .int .i64 c0, .int .i64 c1] 61)
  have HB : Hid (Below w.heap.size w W0) := by rw [hW0]; exact trans' n1 n2
  have hq : W0.heap[w.heap.size]? = some (.cells #[.int .i64 x, .int .i64 y, .int .i64 z] 43 (0, 0)) := by rw [hW0]; exact keepb n2 (heap_alloc_new _ _)
  have hr : W0.heap[w.heap.size + 1]? = some (.cells #[.int .i64 a0, .int .i64 a1, .int .i64 b0, .int .i64 b1, .int .i64 c0, .int .i64 c1] 61 (0, 0)) := by
    rw [hW0]
    have := heap_alloc_new (w.alloc (.cells #[.int .i64 x, .int .i64 y, .int .i64 z] 43)) (.cells #[.int .i64 a0, .int .i64 a1, .int .i64 b0, .int .i64 b1, .int .i64 c0, .int .i64 c1] 61)
    rwa [World.size_alloc] at this
  obtain ⟨k0, k1, k2⟩ := cells3 hq
  obtain ⟨m0, m1, m2, m3, m4, m5⟩ := cells6 hr
  have HW := Lib.hid hW0
  clear n1 n2 hW0 hq hr
  cases d1
  · go_enter Try.func28, Try.ntmps28
    go_wp2_with fail
    rw [← HW.out]
    refine (C1.out _).mono ?_
    rintro e w' ⟨rfl, rfl⟩
    go_wp2_with fail
    go_ret
    exact ⟨rfl, HB.out⟩
  · cases d2
    · go_enter Try.func28, Try.ntmps28
      go_wp2_with fail
      rw [← HW.out]
      refine (C1.out _).mono ?_
      rintro e w' ⟨rfl, rfl⟩
      go_wp2_with fail
      refine (C2.out _).mono ?_
      rintro e w' ⟨rfl, rfl⟩
      go_wp2_with fail
      go_ret
      exact ⟨rfl, HB.out⟩
    · go_enter Try.func28, Try.ntmps28
      go_wp2_with fail
      rw [← HW.out]
      refine (C1.out _).mono ?_
      rintro e w' ⟨rfl, rfl⟩
      go_wp2_with fail
      refine (C2.out _).mono ?_
      rintro e w' ⟨rfl, rfl⟩
      go_wp2_with fail
      refine (C3.out _).mono ?_
      rintro e w' ⟨rfl, rfl⟩
      go_wp2_with fail
      go_ret
      exact ⟨rfl, HB.out⟩
end Go.Proofs.Ytmbolmmcfnfamaa.Orb
