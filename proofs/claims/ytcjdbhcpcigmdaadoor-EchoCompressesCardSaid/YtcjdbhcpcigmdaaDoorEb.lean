import Derived.Test.YtcjdbhcpcigmdaaDoorEa
namespace Go.Proofs.YtcjdbhcpcigmdaaDoor
open Go.RowKit Go.Proofs.YtcjdbhcpcigmdaaDoor.Flt

/-- the error of a sample of these parts: 29 where one is not whole, 2 where one is beyond M -/
def smpErr (a b : Option Int) (M : Int) : Int :=
  match a, b with
  | some a, some b => if M < a.natAbs ∨ M < b.natAbs then 2 else 0
  | _, _ => 29

def absW (x : Nat) : Nat := x % 2 ^ 63

theorem abs_w (x : Nat) (hx : x < 2 ^ 64) (w : World) :
    Calls Tryd.prog 119 #[.float .f64 x] w fun e w' => e = .returned (.float .f64 (absW x)) ∧ w = w' := abs_any x hx w

set_option maxRecDepth 100000 in
/-- IS A WHOLE NUMBER BEYOND A BOUND? -/
theorem isLarge_any (x y m : Nat) (a b M : Int) (hx : x < 2 ^ 64) (hy : y < 2 ^ 64) (ha : wv Ieee.double x = some a) (hb : wv Ieee.double y = some b) (hm : Rep Ieee.double m M) (h0 : 0 ≤ M) (hM : M.natAbs ≤ 2 ^ 53) (w : World) :
    Calls Tryd.prog 93 #[.complex .f64 x y, .float .f64 m] w fun e w' => e = .returned (.bool (decide (M < a.natAbs ∨ M < b.natAbs))) ∧ w = w' := by
  have h1 : (FloatKind.f64.format.order (absW x) m == some .gt) = decide (M < a.natAbs) := above_test ha hm hM h0
  have h2 : (FloatKind.f64.format.order (absW y) m == some .gt) = decide (M < b.natAbs) := above_test hb hm hM h0
  have HX := Lib.hid hx
  have HY := Lib.hid hy
  clear hx hy ha hb hm hM h0
  by_cases c1 : M < a.natAbs
  · rw [decide_eq_true c1] at h1
    have HF : Hid (decide (M < (a.natAbs : Int) ∨ M < (b.natAbs : Int)) = true) := by simp [Hid, c1]
    clear h2 c1
    go_enter Tryd.func93, Tryd.ntmps93
    go_wp2_with fail
    refine (abs_w x HX.out _).mono ?_
    rintro e w' ⟨rfl, rfl⟩
    go_wp2_with fail
    go_ret
    exact ⟨by rw [HF.out]; rfl, rfl⟩
  · rw [decide_eq_false c1] at h1
    have HF : Hid (decide (M < (a.natAbs : Int) ∨ M < (b.natAbs : Int)) = decide (M < (b.natAbs : Int))) := by simp [Hid, c1]
    clear c1
    generalize decide (M < (b.natAbs : Int)) = d at *
    go_enter Tryd.func93, Tryd.ntmps93
    go_wp2_with fail
    refine (abs_w x HX.out _).mono ?_
    rintro e w' ⟨rfl, rfl⟩
    go_wp2_with fail
    refine (abs_w y HY.out _).mono ?_
    rintro e w' ⟨rfl, rfl⟩
    go_wp2_with fail
    go_ret
    exact ⟨by rw [HF.out]; rfl, rfl⟩

set_option maxRecDepth 100000 in
/-- THE ERROR OF A SAMPLE -/
theorem checkSample_any (x y m : Nat) (M : Int) (hx : x < 2 ^ 64) (hy : y < 2 ^ 64) (hm : Rep Ieee.double m M) (h0 : 0 ≤ M) (hM : M.natAbs ≤ 2 ^ 53) (w : World) :
    Calls Tryd.prog 105 #[.complex .f64 x y, .float .f64 m] w fun e w' => e = .returned (.int .i64 (smpErr (wv Ieee.double x) (wv Ieee.double y) M)) ∧ ∃ n, w' = w.drewN n := by
  have c1 := fun w => isWhole_any x hx w
  have c2 := fun w => isWhole_any y hy w
  cases ha : wv Ieee.double x with
  | none =>
    rw [ha] at c1
    have C1 := Lib.hid c1
    clear c1 c2 hx hy hm h0 hM ha
    go_enter Tryd.func105, Tryd.ntmps105
    go_wp2_with fail
    refine (C1.out _).mono ?_
    rintro e w' ⟨rfl, n, rfl⟩
    go_wp2_with fail
    go_ret
    exact ⟨rfl, n, rfl⟩
  | some a =>
    cases hb : wv Ieee.double y with
    | none =>
      rw [ha] at c1; rw [hb] at c2
      have C1 := Lib.hid c1
      have C2 := Lib.hid c2
      clear c1 c2 hx hy hm h0 hM ha hb
      go_enter Tryd.func105, Tryd.ntmps105
      go_wp2_with fail
      refine (C1.out _).mono ?_
      rintro e w' ⟨rfl, n, rfl⟩
      go_wp2_with fail
      refine (C2.out _).mono ?_
      rintro e w' ⟨rfl, n', rfl⟩
      go_wp2_with fail
      go_ret
      exact ⟨rfl, _, rfl⟩
    | some b =>
      have c3 := fun w => isLarge_any x y m a b M hx hy ha hb hm h0 hM w
      rw [ha] at c1; rw [hb] at c2
      have C1 := Lib.hid c1
      have C2 := Lib.hid c2
      have HS : Hid (smpErr (some a) (some b) M = if decide (M < (a.natAbs : Int) ∨ M < (b.natAbs : Int)) then 2 else 0) := by simp [Hid, smpErr]
      clear c1 c2 hx hy hm h0 hM ha hb
      generalize decide (M < (a.natAbs : Int) ∨ M < (b.natAbs : Int)) = d at *
      have C3 := Lib.hid c3
      clear c3
      cases d
      all_goals
        go_enter Tryd.func105, Tryd.ntmps105
        go_wp2_with fail
        refine (C1.out _).mono ?_
        rintro e w' ⟨rfl, n, rfl⟩
        go_wp2_with fail
        refine (C2.out _).mono ?_
        rintro e w' ⟨rfl, n', rfl⟩
        go_wp2_with fail
        refine (C3.out _).mono ?_
        rintro e w' ⟨rfl, rfl⟩
        go_wp2_with fail
        go_ret
        exact ⟨by rw [HS.out]; rfl, _, rfl⟩

def sizeErr (l s n : Int) : Int := if l < 1 ∨ 64 < l ∨ s < 1 ∨ 64 < s then 2 else if n = l * s then 0 else 10

theorem checkSize_any (l s n : Int) (hl : -9223372036854775808 ≤ l) (hl' : l ≤ 9223372036854775807) (hs : -9223372036854775808 ≤ s) (hs' : s ≤ 9223372036854775807) (w : World) :
    Calls Tryd.prog 72 #[.int .i64 l, .int .i64 s, .int .i64 n] w fun e w' => e = .returned (.int .i64 (sizeErr l s n)) ∧ w = w' := by
  by_cases h1 : l < 1
  · go_enter Tryd.func72, Tryd.ntmps72
    go_wp2
    go_ret
    exact ⟨by unfold sizeErr; rw [if_pos (by omega)]; rfl, rfl⟩
  by_cases h2 : 64 < l
  · go_enter Tryd.func72, Tryd.ntmps72
    go_wp2
    go_ret
    exact ⟨by unfold sizeErr; rw [if_pos (by omega)]; rfl, rfl⟩
  by_cases h3 : s < 1
  · go_enter Tryd.func72, Tryd.ntmps72
    go_wp2
    go_ret
    exact ⟨by unfold sizeErr; rw [if_pos (by omega)]; rfl, rfl⟩
  by_cases h4 : 64 < s
  · go_enter Tryd.func72, Tryd.ntmps72
    go_wp2
    go_ret
    exact ⟨by unfold sizeErr; rw [if_pos (by omega)]; rfl, rfl⟩
  have hp : 0 ≤ l * s ∧ l * s ≤ 4096 := by
    constructor
    · exact Int.mul_nonneg (by omega) (by omega)
    · have := Int.mul_le_mul (show l ≤ 64 by omega) (show s ≤ 64 by omega) (by omega) (by omega)
      omega
  obtain ⟨p1, p2⟩ := hp
  have hm : wrap64 (l * s) = l * s := IntWalk.wrap64_in _ ⟨by omega, by omega⟩
  by_cases h5 : n = l * s
  · subst h5
    go_enter Tryd.func72, Tryd.ntmps72
    go_wp2
    go_ret
    exact ⟨by unfold sizeErr; rw [if_neg (by omega), if_pos rfl]; rfl, rfl⟩
  · have h6 : (n != l * s) = true := by rw [bne_iff_ne]; exact h5
    go_enter Tryd.func72, Tryd.ntmps72
    go_wp2
    go_ret
    exact ⟨by unfold sizeErr; rw [if_neg (by omega), if_neg h5]; rfl, rfl⟩
end Go.Proofs.YtcjdbhcpcigmdaaDoor
