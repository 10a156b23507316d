import Derived.Test.YtcjdbhcpcigmdaaDoorTb
import Derived.Test.YtcjdbhcpcigmdaaDoorFw
namespace Go.Proofs.YtcjdbhcpcigmdaaDoor
open Go.RowKit Go.Proofs.YtcjdbhcpcigmdaaDoor.Flt

theorem o_zero : FloatKind.f64.format.order 0 0 = some .eq := by decide +kernel

set_option maxRecDepth 100000 in
/-- THE REFERENCE's 'IS IT WHOLE?' -/
theorem IsWhole_any (x : Nat) (w : World) :
    Calls Tryd.prog 120 #[.float .f64 x] w fun e w' => e = .returned (.bool (wv Ieee.double x).isSome) ∧ ∃ n, w' = w.drewN n := by
  cases hd : Ieee.double.read x with
  | nan s t =>
    have ho : FloatKind.f64.format.order x x = none := order_nan hd x
    have HF : Hid ((wv Ieee.double x).isSome = false) := by unfold Hid; rw [wv_nan hd]; rfl
    generalize (wv Ieee.double x).isSome = R at *
    clear hd
    go_enter Tryd.func120, Tryd.ntmps120
    go_wp2_with fail
    go_ret
    exact ⟨by rw [HF.out] <;> rfl, 0, rfl⟩
  | infinity s =>
    have ho : FloatKind.f64.format.order x x = some .eq := order_self_inf hd
    obtain ⟨r, s', k, hs, hn⟩ := run_sub_none (P := Tryd.prog) 86 (sub_self_inf hd) w
    have ho2 : FloatKind.f64.format.order r 0 = none := order_nan hn 0
    have HF : Hid ((wv Ieee.double x).isSome = false) := by unfold Hid; rw [wv_inf hd]; rfl
    generalize (wv Ieee.double x).isSome = R at *
    clear hd hn
    go_enter Tryd.func120, Tryd.ntmps120
    go_wp2_with fail
    go_ret
    exact ⟨by rw [HF.out] <;> rfl, 1, rfl⟩
  | number s m e =>
    have ho : FloatKind.f64.format.order x x = some .eq := order_self hd
    have hs : ∀ w, (binOp .sub 86 (.float .f64 x) (.float .f64 x)).run Tryd.prog w = .ok (.float .f64 0) w := fun w =>
      run_float_arith w .sub 86 .f64 x x 0 (by have := sub_self_number hd; rw [enc_zero] at this; exact this)
    have hz := o_zero
    obtain ⟨o1, h1⟩ := order_number hd read_m16
    obtain ⟨o2, h2⟩ := order_number hd read_e16
    have h1' : FloatKind.f64.format.order x 14069741636278059008 = some o1 := h1
    have h2' : FloatKind.f64.format.order x 4846369599423283200 = some o2 := h2
    have hI : inR x = (((some o1 : Option Ordering) == some .gt || (some o1 : Option Ordering) == some .eq) && ((some o2 : Option Ordering) == some .lt || (some o2 : Option Ordering) == some .eq)) := by
      unfold inR; rw [h1, h2]
    by_cases hr : inR x = true
    · obtain ⟨n, hn, hb⟩ := inR_in hd hr
      have hc := whole_cast good_double hd hn
      have c1 := fun w => run_convert_float_int (P := Tryd.prog) w 86 3 .f64 .i64 x n (by kernel_rfl) (by kernel_rfl) (floatToInt_of hn (by omega) (by omega))
      have c2 := fun w => run_convert_int_float (P := Tryd.prog) w 3 86 .i64 .f64 n (by kernel_rfl) (by kernel_rfl)
      have hc2 : Hid ((FloatKind.f64.format.order (floatOfInt .f64 n) x == some .eq) = (wv Ieee.double x).isSome) := (order_comm Ieee.double x _).trans hc
      generalize (wv Ieee.double x).isSome = R at *
      generalize floatOfInt .f64 n = Y at *
      rw [hI] at hr
      clear hd hn hb hc hI h1 h2
      cases o1 <;> cases o2 <;> simp at hr <;> clear hr
      all_goals
        go_enter Tryd.func120, Tryd.ntmps120
        go_wp2_with fail
        go_ret
        exact ⟨by rw [← hc2.out]; rfl, 0, rfl⟩
    · have hr2 : inR x = false := by simpa using hr
      have HF := Lib.hid (inR_out hd hr2)
      rw [hI] at hr2
      generalize (wv Ieee.double x).isSome = R at *
      clear hd hI h1 h2 hr
      cases o1 <;> cases o2 <;> simp at hr2 <;> clear hr2
      all_goals
        go_enter Tryd.func120, Tryd.ntmps120
        go_wp2_with fail
        go_ret
        exact ⟨by rw [HF.out] <;> rfl, 0, rfl⟩
end Go.Proofs.YtcjdbhcpcigmdaaDoor
