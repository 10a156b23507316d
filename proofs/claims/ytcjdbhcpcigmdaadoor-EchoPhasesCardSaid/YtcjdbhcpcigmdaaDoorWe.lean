import Derived.Test.YtcjdbhcpcigmdaaDoorWd
namespace Go.Proofs.YtcjdbhcpcigmdaaDoor
open Go.RowKit Go.Proofs.YtcjdbhcpcigmdaaDoor.Flt

theorem phaPart_b (a b : Option Int) : -2048 ≤ (phaPart a b).1 ∧ (phaPart a b).1 ≤ 2047 := by
  unfold phaPart
  split
  · split
    · rename_i x y
      split
      · exact ⟨by decide, by decide⟩
      · exact wrapI_b _
    · exact ⟨by show (-2048 : Int) ≤ 0; decide, by show (0 : Int) ≤ 2047; decide⟩
  · exact ⟨by show (-2048 : Int) ≤ 0; decide, by show (0 : Int) ≤ 2047; decide⟩

set_option maxRecDepth 100000 in
/-- THE LAW, FOR ALL FLOATS -/
theorem phases_any (x y : Nat) (hx : x < 2 ^ 64) (hy : y < 2 ^ 64) (w : World) (ht : Tab w) :
    Calls Tryd.prog 10 #[.float .f64 x, .float .f64 y] w fun e w' => e = .returned (.bool true) ∧ Below w.heap.size w w' := by
  have CA := Lib.hid (awake_any w ht)
  have C1 := Lib.hid (fun w => PhaseOf_any x y hx hy w)
  have C2 := Lib.hid (fun w => refPhaseOf_any x y hx hy w)
  have hb := phaPart_b (wv Ieee.double x) (wv Ieee.double y)
  have CW := Lib.hid (fun w => Within_any (phaPart (wv Ieee.double x) (wv Ieee.double y)).1 (-2048) 2047 w)
  rw [decide_eq_true hb] at CW
  generalize (phaPart (wv Ieee.double x) (wv Ieee.double y)).1 = N at *
  generalize (phaPart (wv Ieee.double x) (wv Ieee.double y)).2 = E at *
  clear ht hx hy hb
  go_enter Tryd.func10, Tryd.ntmps10
  go_wp2_with fail
  refine CA.out.mono ?_
  rintro e w1 ⟨rfl, hb⟩
  have HB1 := Lib.hid hb
  clear hb
  go_wp2_with fail
  refine (C1.out _).mono ?_
  rintro e w2 ⟨rfl, hb⟩
  have HB2 := Lib.hid (HB1.out.trans (hb.mono HB1.out.size))
  clear hb HB1
  go_wp2_with fail
  refine (C2.out _).mono ?_
  rintro e w3 ⟨rfl, hb⟩
  have HB3 := Lib.hid (HB2.out.trans (hb.mono HB2.out.size))
  clear hb HB2
  go_wp2_with fail
  refine (CW.out _).mono ?_
  rintro e w' ⟨rfl, rfl⟩
  go_wp2_with fail
  go_ret
  exact ⟨rfl, HB3.out⟩
end Go.Proofs.YtcjdbhcpcigmdaaDoor
