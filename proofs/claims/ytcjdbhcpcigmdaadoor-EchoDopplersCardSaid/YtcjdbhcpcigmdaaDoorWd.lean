import Derived.Test.YtcjdbhcpcigmdaaDoorWc
namespace Go.Proofs.YtcjdbhcpcigmdaaDoor
open Go.RowKit Go.Proofs.YtcjdbhcpcigmdaaDoor.Flt

theorem first_any (x y : Nat) (hx : x ≤ 100000000000) (hy : y ≤ x) (w : World) :
    Calls Tryd.prog 116 #[.int .i64 x, .int .i64 y] w fun e w' => e = .returned (.int .i64 (ph0 x y)) ∧ Below w.heap.size w w' := by
  by_cases h : x = y
  · subst h
    have HF := Lib.hid (ph0_same x)
    generalize ph0 x x = R at *
    go_enter Tryd.func116, Tryd.ntmps116
    go_wp2_with fail
    go_ret
    exact ⟨by rw [HF.out] <;> rfl, Below.refl _ _⟩
  · exact first_off x y hx (by omega) w

theorem refPhase0 (x y : Nat) (hx : x ≤ 100000000000) (hy : y ≤ x) (w : World) :
    Calls Tryd.prog 68 #[.int .i64 x, .int .i64 y] w fun e w' => e = .returned (.int .i64 (ph0 x y)) ∧ Below w.heap.size w w' := by
  have C := Lib.hid (first_any x y hx hy)
  have C2 := Lib.hid (fun w => Wrap_any (ph0 x y) w)
  obtain ⟨b1, b2⟩ := ph0_b x y
  have HF : Hid (wrapI (ph0 x y) = ph0 x y) := by unfold Hid wrapI; omega
  rw [HF.out] at C2
  generalize ph0 x y = R at *
  have hyx : ¬ x < y := by omega
  clear HF
  go_enter Tryd.func68, Tryd.ntmps68
  go_wp2_with fail
  refine (C.out _).mono ?_
  rintro e w1 ⟨rfl, hb1⟩
  have HB := Lib.hid hb1
  clear hb1
  go_wp2_with fail
  refine (C2.out _).mono ?_
  rintro e w' ⟨rfl, rfl⟩
  go_wp2_with fail
  go_ret
  exact ⟨rfl, HB.out⟩

theorem refPhaseA (x y : Nat) (hx : x ≤ 100000000000) (hy : y ≤ 100000000000) (w : World) :
    Calls Tryd.prog 68 #[.int .i64 x, .int .i64 y] w fun e w' => e = .returned (.int .i64 (phA x y)) ∧ Below w.heap.size w w' := by
  by_cases h : x < y
  · have C := Lib.hid (refPhase0 y x hy (by omega))
    obtain ⟨b1, b2⟩ := ph0_b y x
    have HF : phA x y = 1024 - ph0 y x := by unfold phA; rw [if_pos h]
    have C2 := Lib.hid (fun w => Wrap_any (1024 - ph0 y x) w)
    have HW : Hid (wrapI (1024 - ph0 y x) = 1024 - ph0 y x) := by unfold Hid wrapI; omega
    rw [HW.out] at C2
    rw [HF]
    generalize ph0 y x = P at *
    clear HW HF
    go_enter Tryd.func68, Tryd.ntmps68
    go_wp2_with fail
    refine (C.out _).mono ?_
    rintro e w1 ⟨rfl, hb1⟩
    have HB := Lib.hid hb1
    clear hb1
    go_wp2_with fail
    refine (C2.out _).mono ?_
    rintro e w' ⟨rfl, rfl⟩
    go_wp2_with fail
    go_ret
    exact ⟨rfl, HB.out⟩
  · have e : phA x y = ph0 x y := by unfold phA; rw [if_neg h]
    rw [e]
    exact refPhase0 x y hx (by omega) w

theorem refPhaseB (x : Int) (y : Nat) (hx : x.natAbs ≤ 100000000000) (hy : y ≤ 100000000000) (w : World) :
    Calls Tryd.prog 68 #[.int .i64 x, .int .i64 y] w fun e w' => e = .returned (.int .i64 (wrapI (phB x y))) ∧ Below w.heap.size w w' := by
  by_cases h : x < 0
  · have C := refPhaseA x.natAbs y hx hy
    have hn : ((x.natAbs : Nat) : Int) = -x := by omega
    rw [hn] at C
    have C := Lib.hid C
    obtain ⟨b1, b2⟩ := phA_b x.natAbs y
    have HF : phB x y = 2048 - phA x.natAbs y := by unfold phB; rw [if_pos h]
    have C2 := Lib.hid (fun w => Wrap_any (2048 - phA x.natAbs y) w)
    rw [HF]
    have hlo : -100000000000 ≤ x := by omega
    clear hx hn HF
    generalize phA x.natAbs y = P at *
    generalize wrapI (2048 - P) = R at *
    go_enter Tryd.func68, Tryd.ntmps68
    go_wp2_with fail
    refine (C.out _).mono ?_
    rintro e w1 ⟨rfl, hb1⟩
    have HB := Lib.hid hb1
    clear hb1
    go_wp2_with fail
    refine (C2.out _).mono ?_
    rintro e w' ⟨rfl, rfl⟩
    go_wp2_with fail
    go_ret
    exact ⟨rfl, HB.out⟩
  · have e : phB x y = phA x.natAbs y := by unfold phB; rw [if_neg h]
    have hn : ((x.natAbs : Nat) : Int) = x := by omega
    have := refPhaseA x.natAbs y hx hy w
    rw [hn, ← e] at this
    obtain ⟨b1, b2⟩ := phA_b x.natAbs y
    have hw : wrapI (phB x y) = phB x y := by rw [e]; unfold wrapI; omega
    rw [hw]
    exact this

theorem refPhase_any (x y : Int) (hx : x.natAbs ≤ 100000000000) (hy : y.natAbs ≤ 100000000000) (w : World) :
    Calls Tryd.prog 68 #[.int .i64 x, .int .i64 y] w fun e w' => e = .returned (.int .i64 (wrapI (phC x y))) ∧ Below w.heap.size w w' := by
  by_cases h : y < 0
  · have C := refPhaseB x y.natAbs hx hy
    have hn : ((y.natAbs : Nat) : Int) = -y := by omega
    rw [hn] at C
    have C := Lib.hid C
    obtain ⟨b1, b2⟩ := wrapI_b (phB x y.natAbs)
    have C2 := Lib.hid (fun w => Wrap_any (-(wrapI (phB x y.natAbs))) w)
    have HF : wrapI (phC x y) = wrapI (-(wrapI (phB x y.natAbs))) := by unfold phC; rw [if_pos h]; unfold wrapI; omega
    rw [HF]
    have hlo : -100000000000 ≤ y := by omega
    clear hy hn HF
    generalize wrapI (phB x y.natAbs) = P at *
    generalize wrapI (-P) = R at *
    go_enter Tryd.func68, Tryd.ntmps68
    go_wp2_with fail
    refine (C.out _).mono ?_
    rintro e w1 ⟨rfl, hb1⟩
    have HB := Lib.hid hb1
    clear hb1
    go_wp2_with fail
    refine (C2.out _).mono ?_
    rintro e w' ⟨rfl, rfl⟩
    go_wp2_with fail
    go_ret
    exact ⟨rfl, HB.out⟩
  · have e : phC x y = phB x y.natAbs := by unfold phC; rw [if_neg h]
    have hn : ((y.natAbs : Nat) : Int) = y := by omega
    have := refPhaseB x y.natAbs hx hy w
    rw [hn, ← e] at this
    exact this

theorem basePart_any (x y : Nat) (a b : Int) (ha : wv Ieee.double x = some a) (hb : wv Ieee.double y = some b) (hx : x < 2 ^ 64) (hy : y < 2 ^ 64) (la : a.natAbs ≤ 2 ^ 53) (lb : b.natAbs ≤ 2 ^ 53) (w : World) :
    Calls Tryd.prog 86 #[.complex .f64 x y] w fun e w' => e = .returned (.tuple #[.int .i64 a, .int .i64 b]) ∧ w = w' := by
  have ra := wv_rep good_double (x := x) hx ha la
  have rb := wv_rep good_double (x := y) hy hb lb
  have c1 := fun w => run_convert_float_int (P := Tryd.prog) w 86 3 .f64 .i64 x a (by kernel_rfl) (by kernel_rfl) (floatToInt_of (toInt_rep good_double ra la .zero) (by omega) (by omega))
  have c2 := fun w => run_convert_float_int (P := Tryd.prog) w 86 3 .f64 .i64 y b (by kernel_rfl) (by kernel_rfl) (floatToInt_of (toInt_rep good_double rb lb .zero) (by omega) (by omega))
  clear ra rb ha hb hx hy la lb
  go_enter Tryd.func86, Tryd.ntmps86
  go_wp2_with fail
  go_ret2
  exact ⟨rfl, rfl⟩

set_option maxRecDepth 100000 in
/-- THE REFERENCE's PHASE OF ANY COMPLEX NUMBER -/
theorem refPhaseOf_any (x y : Nat) (hx : x < 2 ^ 64) (hy : y < 2 ^ 64) (w : World) :
    Calls Tryd.prog 56 #[.complex .f64 x y] w fun e w' => e = .returned (.tuple #[.int .i64 (phaPart (wv Ieee.double x) (wv Ieee.double y)).1, .int .i64 (phaPart (wv Ieee.double x) (wv Ieee.double y)).2]) ∧ Below w.heap.size w w' := by
  have C0 := Lib.hid (fun w => partErr_any x y 100000000000 (by decide) (by decide) w)
  obtain ⟨S, hS⟩ : ∃ S, S = smpErr (wv Ieee.double x) (wv Ieee.double y) 100000000000 := ⟨_, rfl⟩
  rw [← hS] at C0
  by_cases h0 : S = 0
  · obtain ⟨a, b, ha, hb, hA, hB⟩ := smpErr_some (hS.symm.trans h0)
    have HP : Hid (phaPart (wv Ieee.double x) (wv Ieee.double y) = if a = 0 ∧ b = 0 then (0, 31) else (wrapI (phC a b), 0)) := by
      unfold Hid phaPart
      rw [← hS, if_pos h0, ha, hb]
    generalize phaPart (wv Ieee.double x) (wv Ieee.double y) = R at *
    have CP := Lib.hid (fun w => basePart_any x y a b ha hb hx hy (by omega) (by omega) w)
    have C1 := Lib.hid (fun w => refPhase_any a b (by omega) (by omega) w)
    have hz : (((a : Int) == 0) = true ∧ ((b : Int) == 0) = true ∧ Hid (R = (0, 31))) ∨ (((a : Int) == 0) = true ∧ ((b : Int) == 0) = false ∧ Hid (R = (wrapI (phC a b), 0))) ∨ (((a : Int) == 0) = false ∧ Hid (R = (wrapI (phC a b), 0))) := by
      by_cases h1 : a = 0
      · by_cases h2 : b = 0
        · left; exact ⟨by rw [beq_iff_eq]; exact h1, by rw [beq_iff_eq]; exact h2, HP.out.trans (by rw [if_pos ⟨h1, h2⟩])⟩
        · right; left; exact ⟨by rw [beq_iff_eq]; exact h1, by rw [beq_eq_false_iff_ne]; exact h2, HP.out.trans (by rw [if_neg (fun h => h2 h.2)])⟩
      · right; right; exact ⟨by rw [beq_eq_false_iff_ne]; exact h1, HP.out.trans (by rw [if_neg (fun h => h1 h.1)])⟩
    generalize wrapI (phC a b) = Q at *
    subst h0
    clear HP ha hb hA hB hx hy hS
    rcases hz with ⟨z1, z2, HR⟩ | ⟨z1, z2, HR⟩ | ⟨z1, HR⟩
    · go_enter Tryd.func56, Tryd.ntmps56
      go_wp2_with fail
      refine (C0.out _).mono ?_
      rintro e w1 ⟨rfl, n, rfl⟩
      go_wp2_with fail
      refine (CP.out _).mono ?_
      rintro e w' ⟨rfl, rfl⟩
      go_wp2_with fail
      go_ret2
      exact ⟨by rw [HR.out]; rfl, below_drewN' _ _ _⟩
    all_goals
      go_enter Tryd.func56, Tryd.ntmps56
      go_wp2_with fail
      refine (C0.out _).mono ?_
      rintro e w1 ⟨rfl, n, rfl⟩
      go_wp2_with fail
      refine (CP.out _).mono ?_
      rintro e w' ⟨rfl, rfl⟩
      go_wp2_with fail
      refine (C1.out _).mono ?_
      rintro e w2 ⟨rfl, hb2⟩
      go_wp2_with fail
      go_ret2
      exact ⟨by rw [HR.out]; rfl, (below_drewN' _ w n).trans (hb2.mono (by simp))⟩
  · have h1 : (S != 0) = true := by rw [bne_iff_ne]; exact h0
    have HR : Hid (phaPart (wv Ieee.double x) (wv Ieee.double y) = (0, S)) := by
      unfold Hid phaPart
      rw [← hS, if_neg h0]
    generalize phaPart (wv Ieee.double x) (wv Ieee.double y) = R at *
    clear hS hx hy h0
    go_enter Tryd.func56, Tryd.ntmps56
    go_wp2_with fail
    refine (C0.out _).mono ?_
    rintro e w1 ⟨rfl, n, rfl⟩
    go_wp2_with fail
    go_ret2
    exact ⟨by rw [HR.out]; rfl, below_drewN' _ _ _⟩
end Go.Proofs.YtcjdbhcpcigmdaaDoor
