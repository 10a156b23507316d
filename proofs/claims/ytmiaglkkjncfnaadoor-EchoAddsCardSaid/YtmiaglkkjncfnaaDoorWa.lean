import Derived.Test.YtmiaglkkjncfnaaDoorTa
import Derived.Test.YtmiaglkkjncfnaaDoorFlt
namespace Go.Proofs.YtmiaglkkjncfnaaDoor
open Go.RowKit Go.Proofs.YtmiaglkkjncfnaaDoor.Flt

theorem o_zero : FloatKind.f64.format.order 0 0 = some .eq := by decide +kernel

set_option maxRecDepth 100000 in
/-- THE REFERENCE's 'IS IT WHOLE?' -/
theorem IsWhole_any (x : Nat) (w : World) :
    Calls Tryd.prog 63 #[.float .f64 x] w fun e w' => e = .returned (.bool (wv Ieee.double x).isSome) ∧ ∃ n, w' = w.drewN n := by
  cases hd : Ieee.double.read x with
  | nan s t =>
    have ho : FloatKind.f64.format.order x x = none := order_nan hd x
    have HF : Hid ((wv Ieee.double x).isSome = false) := by unfold Hid; rw [wv_nan hd]; rfl
    generalize (wv Ieee.double x).isSome = R at *
    clear hd
    go_enter Tryd.func63, Tryd.ntmps63
    go_wp2_with fail
    go_ret
    exact ⟨by rw [HF.out] <;> rfl, 0, rfl⟩
  | infinity s =>
    have ho : FloatKind.f64.format.order x x = some .eq := order_self_inf hd
    obtain ⟨r, s', k, hs, hn⟩ := run_sub_none (P := Tryd.prog) 86 (sub_self_inf hd) w
    have ho2 : FloatKind.f64.format.order r 0 = none := order_nan hn 0
    have HF : Hid ((wv Ieee.double x).isSome = false) := by unfold Hid; rw [wv_inf hd]; rfl
    generalize (wv Ieee.double x).isSome = R at *
    clear hd hn
    go_enter Tryd.func63, Tryd.ntmps63
    go_wp2_with fail
    go_ret
    exact ⟨by rw [HF.out] <;> rfl, 1, rfl⟩
  | number s m e =>
    have ho : FloatKind.f64.format.order x x = some .eq := order_self hd
    have hs : ∀ w, (binOp .sub 86 (.float .f64 x) (.float .f64 x)).run Tryd.prog w = .ok (.float .f64 0) w := fun w =>
      run_float_arith w .sub 86 .f64 x x 0 (by have := sub_self_number hd; rw [enc_zero] at this; exact this)
    have hz := o_zero
    obtain ⟨o1, h1⟩ := order_number hd read_m16
    obtain ⟨o2, h2⟩ := order_number hd read_e16
    have h1' : FloatKind.f64.format.order x 14069741636278059008 = some o1 := h1
    have h2' : FloatKind.f64.format.order x 4846369599423283200 = some o2 := h2
    have hI : inR x = (((some o1 : Option Ordering) == some .gt || (some o1 : Option Ordering) == some .eq) && ((some o2 : Option Ordering) == some .lt || (some o2 : Option Ordering) == some .eq)) := by
      unfold inR; rw [h1, h2]
    by_cases hr : inR x = true
    · obtain ⟨n, hn, hb⟩ := inR_in hd hr
      have hc := whole_cast good_double hd hn
      have c1 := fun w => run_convert_float_int (P := Tryd.prog) w 86 3 .f64 .i64 x n (by kernel_rfl) (by kernel_rfl) (floatToInt_of hn (by omega) (by omega))
      have c2 := fun w => run_convert_int_float (P := Tryd.prog) w 3 86 .i64 .f64 n (by kernel_rfl) (by kernel_rfl)
      have hc2 : Hid ((FloatKind.f64.format.order (floatOfInt .f64 n) x == some .eq) = (wv Ieee.double x).isSome) := (order_comm Ieee.double x _).trans hc
      generalize (wv Ieee.double x).isSome = R at *
      generalize floatOfInt .f64 n = Y at *
      rw [hI] at hr
      clear hd hn hb hc hI h1 h2
      cases o1 <;> cases o2 <;> simp at hr <;> clear hr
      all_goals
        go_enter Tryd.func63, Tryd.ntmps63
        go_wp2_with fail
        go_ret
        exact ⟨by rw [← hc2.out]; rfl, 0, rfl⟩
    · have hr2 : inR x = false := by simpa using hr
      have HF := Lib.hid (inR_out hd hr2)
      rw [hI] at hr2
      generalize (wv Ieee.double x).isSome = R at *
      clear hd hI h1 h2 hr
      cases o1 <;> cases o2 <;> simp at hr2 <;> clear hr2
      all_goals
        go_enter Tryd.func63, Tryd.ntmps63
        go_wp2_with fail
        go_ret
        exact ⟨by rw [HF.out] <;> rfl, 0, rfl⟩
end Go.Proofs.YtmiaglkkjncfnaaDoor

namespace Go.Proofs.YtmiaglkkjncfnaaDoor
open Go.RowKit Go.Proofs.YtmiaglkkjncfnaaDoor.Flt

/-- the tests of a part against a bound, as the reference makes them -/
theorem bound_tests {x : Nat} {a M : Int} (hx : wv Ieee.double x = some a) (hM : M.natAbs ≤ 2 ^ 53) :
    (Ieee.double.order x (Op.negFloat .f64 (enc Ieee.double M)) == some .lt) = decide (a < -M) ∧ (Ieee.double.order x (enc Ieee.double M) == some .gt) = decide (M < a) := by
  obtain ⟨s, m, e, r⟩ := wv_reads good_double hx
  obtain ⟨t, k, j, r2, -⟩ := rep_reads good_double (Rep.enc Ieee.double M) hM
  have hn : Rep Ieee.double (Op.negFloat .f64 (enc Ieee.double M)) (-M) := neg_rep (k := .f64) good_double (Rep.enc _ M) hM
  obtain ⟨t3, k3, j3, r3, -⟩ := rep_reads good_double hn (by rw [Int.natAbs_neg]; exact hM)
  rw [order_reads r r3, order_reads r r2, cmp_lt, cmp_gt]
  exact ⟨rfl, rfl⟩

theorem smpErr_none {a b : Option Int} {M : Int} (h : a.isSome = false ∨ b.isSome = false) : smpErr a b M = 29 := by
  unfold smpErr
  cases a <;> cases b <;> simp at h ⊢

theorem five (p q r s : Bool) : p = true ∨ (p = false ∧ q = true) ∨ (p = false ∧ q = false ∧ r = true) ∨ (p = false ∧ q = false ∧ r = false ∧ s = true) ∨ (p = false ∧ q = false ∧ r = false ∧ s = false) := by
  cases p <;> cases q <;> cases r <;> cases s <;> simp

set_option maxRecDepth 100000 in
/-- THE REFERENCE's ERROR OF A PART -/
theorem partErr_any (x y : Nat) (M : Int) (_h0 : 0 ≤ M) (hM : M.natAbs ≤ 2 ^ 53) (w : World) :
    Calls Tryd.prog 38 #[.float .f64 x, .float .f64 y, .int .i64 M] w fun e w' => e = .returned (.int .i64 (smpErr (wv Ieee.double x) (wv Ieee.double y) M)) ∧ ∃ n, w' = w.drewN n := by
  have C1 := Lib.hid (fun w => IsWhole_any x w)
  have C2 := Lib.hid (fun w => IsWhole_any y w)
  cases ha : wv Ieee.double x with
  | none =>
    rw [smpErr_none (.inl rfl)]
    rw [ha] at C1
    dsimp only [Option.isSome] at C1
    clear ha
    go_enter Tryd.func38, Tryd.ntmps38
    go_wp2_with fail
    refine (C1.out _).mono ?_
    rintro e w' ⟨rfl, n, rfl⟩
    go_wp2_with fail
    go_ret
    exact ⟨rfl, n, rfl⟩
  | some a =>
    rw [ha] at C1
    cases hb : wv Ieee.double y with
    | none =>
      rw [smpErr_none (.inr rfl)]
      rw [hb] at C2
      dsimp only [Option.isSome] at C1 C2
      clear ha hb
      go_enter Tryd.func38, Tryd.ntmps38
      go_wp2_with fail
      refine (C1.out _).mono ?_
      rintro e w' ⟨rfl, n, rfl⟩
      go_wp2_with fail
      refine (C2.out _).mono ?_
      rintro e w' ⟨rfl, n', rfl⟩
      go_wp2_with fail
      go_ret
      exact ⟨rfl, _, rfl⟩
    | some b =>
      rw [hb] at C2
      dsimp only [Option.isSome] at C1 C2
      obtain ⟨t1, t2⟩ := bound_tests ha hM
      obtain ⟨t3, t4⟩ := bound_tests hb hM
      have c1 := fun w => run_convert_int_float (P := Tryd.prog) w 3 86 .i64 .f64 M (by kernel_rfl) (by kernel_rfl)
      have HR : Hid (smpErr (some a) (some b) M = if (decide (a < -M) || (decide (M < a) || (decide (b < -M) || decide (M < b)))) = true then 2 else 0) := by
        unfold Hid smpErr
        dsimp only
        by_cases h : M < a.natAbs ∨ M < b.natAbs
        · rw [if_pos h, if_pos (by simp; omega)]
        · rw [if_neg h, if_neg (by simp; omega)]
      generalize smpErr (some a) (some b) M = R at *
      have u1 : (FloatKind.f64.format.order x (Op.negFloat .f64 (floatOfInt .f64 M)) == some .lt) = decide (a < -M) := t1
      have u2 : (FloatKind.f64.format.order x (floatOfInt .f64 M) == some .gt) = decide (M < a) := t2
      have u3 : (FloatKind.f64.format.order y (Op.negFloat .f64 (floatOfInt .f64 M)) == some .lt) = decide (b < -M) := t3
      have u4 : (FloatKind.f64.format.order y (floatOfInt .f64 M) == some .gt) = decide (M < b) := t4
      generalize decide (a < -M) = p1 at *
      generalize decide (M < a) = p2 at *
      generalize decide (b < -M) = p3 at *
      generalize decide (M < b) = p4 at *
      generalize floatOfInt .f64 M = Y at *
      clear ha hb t1 t2 t3 t4
      rcases five p1 p2 p3 p4 with rfl | ⟨rfl, rfl⟩ | ⟨rfl, rfl, rfl⟩ | ⟨rfl, rfl, rfl, rfl⟩ | ⟨rfl, rfl, rfl, rfl⟩
      all_goals
        go_enter Tryd.func38, Tryd.ntmps38
        go_wp2_with fail
        refine (C1.out _).mono ?_
        rintro e w' ⟨rfl, n, rfl⟩
        go_wp2_with fail
        refine (C2.out _).mono ?_
        rintro e w' ⟨rfl, n', rfl⟩
        go_wp2_with fail
        go_ret
        exact ⟨by rw [HR.out]; rfl, _, rfl⟩

theorem run_conv_ff {P : Program} (src dst : TypeId) (hs : (P.underlying src).isSome = true) (hd : P.underlying dst = some (.float .f64)) (a : Nat) (w : World) :
    ∃ r n, (convert src dst (.float .f32 a)).run P w = .ok (.float .f64 r) (w.drewN n) ∧ wv Ieee.double r = wv Ieee.single a := by
  obtain ⟨u, hs'⟩ := Option.isSome_iff_exists.1 hs
  obtain ⟨r, n, h1, h2, -, -⟩ := run_conv_f32 (P := P) a w
  refine ⟨r, n, ?_, h2⟩
  cases u <;> simp [convert, run_underlying hs', run_underlying hd, h1]

/-- THE REFERENCE's ERROR OF A SAMPLE -/
theorem sampleErr_any (x y : Nat) (M : Int) (h0 : 0 ≤ M) (hM : M.natAbs ≤ 2 ^ 53) (w : World) :
    Calls Tryd.prog 50 #[.complex .f32 x y, .int .i64 M] w fun e w' => e = .returned (.int .i64 (smpErr (wv Ieee.single x) (wv Ieee.single y) M)) ∧ ∃ n, w' = w.drewN n := by
  obtain ⟨r1, n1, k1, e1⟩ := run_conv_ff (P := Tryd.prog) 69 86 (by kernel_rfl) (by kernel_rfl) x w
  obtain ⟨r2, n2, k2, e2⟩ := run_conv_ff (P := Tryd.prog) 69 86 (by kernel_rfl) (by kernel_rfl) y (w.drewN n1)
  have C := Lib.hid (fun w => partErr_any r1 r2 M h0 hM w)
  rw [e1, e2] at C
  generalize smpErr (wv Ieee.single x) (wv Ieee.single y) M = R at *
  clear e1 e2 h0 hM
  go_enter Tryd.func50, Tryd.ntmps50
  go_wp2_with fail
  refine (C.out _).mono ?_
  rintro e w' ⟨rfl, n, rfl⟩
  go_wp2_with fail
  go_ret
  exact ⟨rfl, _, rfl⟩

set_option maxRecDepth 100000 in
/-- THE REFERENCE's ERROR OF A SIZE -/
theorem refSize_any (l s n : Int) (w : World) :
    Calls Tryd.prog 37 #[.int .i64 l, .int .i64 s, .int .i64 n] w fun e w' => e = .returned (.int .i64 (sizeErr l s n)) ∧ w = w' := by
  have C1 := Lib.hid (fun w => Within_any l 1 64 w)
  have C2 := Lib.hid (fun w => Within_any s 1 64 w)
  by_cases h1 : 1 ≤ l ∧ l ≤ 64
  · rw [decide_eq_true h1] at C1
    by_cases h2 : 1 ≤ s ∧ s ≤ 64
    · rw [decide_eq_true h2] at C2
      obtain ⟨a1, a2⟩ := h1
      obtain ⟨a3, a4⟩ := h2
      have p1 : 0 ≤ l * s := Int.mul_nonneg (by omega) (by omega)
      have p2 : l * s ≤ 64 * 64 := Int.mul_le_mul a2 a4 (by omega) (by omega)
      by_cases h3 : n = l * s
      · have HR : Hid (sizeErr l s n = 0) := by unfold Hid sizeErr; rw [if_neg (by omega), if_pos h3]
        generalize sizeErr l s n = R at *
        have h4 : (n != l * s) = false := by rw [h3]; simp
        clear h3
        go_enter Tryd.func37, Tryd.ntmps37
        go_wp2_with fail
        refine (C1.out _).mono ?_
        rintro e w' ⟨rfl, rfl⟩
        go_wp2_with fail
        refine (C2.out _).mono ?_
        rintro e w' ⟨rfl, rfl⟩
        go_wp2_with fail
        go_ret
        exact ⟨by rw [HR.out] <;> rfl, rfl⟩
      · have HR : Hid (sizeErr l s n = 10) := by unfold Hid sizeErr; rw [if_neg (by omega), if_neg h3]
        generalize sizeErr l s n = R at *
        have h4 : (n != l * s) = true := by rw [bne_iff_ne]; exact h3
        clear h3
        go_enter Tryd.func37, Tryd.ntmps37
        go_wp2_with fail
        refine (C1.out _).mono ?_
        rintro e w' ⟨rfl, rfl⟩
        go_wp2_with fail
        refine (C2.out _).mono ?_
        rintro e w' ⟨rfl, rfl⟩
        go_wp2_with fail
        go_ret
        exact ⟨by rw [HR.out] <;> rfl, rfl⟩
    · rw [decide_eq_false h2] at C2
      have HR : Hid (sizeErr l s n = 2) := by unfold Hid sizeErr; rw [if_pos (by omega)]
      generalize sizeErr l s n = R at *
      clear h1 h2
      go_enter Tryd.func37, Tryd.ntmps37
      go_wp2_with fail
      refine (C1.out _).mono ?_
      rintro e w' ⟨rfl, rfl⟩
      go_wp2_with fail
      refine (C2.out _).mono ?_
      rintro e w' ⟨rfl, rfl⟩
      go_wp2_with fail
      go_ret
      exact ⟨by rw [HR.out] <;> rfl, rfl⟩
  · rw [decide_eq_false h1] at C1
    have HR : Hid (sizeErr l s n = 2) := by unfold Hid sizeErr; rw [if_pos (by omega)]
    generalize sizeErr l s n = R at *
    clear h1
    go_enter Tryd.func37, Tryd.ntmps37
    go_wp2_with fail
    refine (C1.out _).mono ?_
    rintro e w' ⟨rfl, rfl⟩
    go_wp2_with fail
    go_ret
    exact ⟨by rw [HR.out] <;> rfl, rfl⟩
end Go.Proofs.YtmiaglkkjncfnaaDoor
