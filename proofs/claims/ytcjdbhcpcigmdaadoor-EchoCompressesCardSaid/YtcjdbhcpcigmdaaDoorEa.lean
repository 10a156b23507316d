import Derived.Test.YtcjdbhcpcigmdaaDoorFlt
import Derived.Test.YtcjdbhcpcigmdaaDoorChecked
import Derived.WalkKit
import Derived.WalkLawsBesides
import Derived.WalkSpells
import Derived.Deep.QuietTactic
import Derived.BigQuiet
import Derived.Lib.Hide
import Derived.Laws.FloatArith
import Derived.Laws.ComplexArith
namespace Go.Proofs.YtcjdbhcpcigmdaaDoor
open Go.RowKit Go.Proofs.YtcjdbhcpcigmdaaDoor.Flt

@[go_sem] theorem run_neg_float {P : Program} (k : FloatKind) (b : Nat) (w : World) : (Op.unary .neg (.float k b)).run P w = .ok (.float k (Op.negFloat k b)) w := rfl
@[go_sem] theorem run_f64bits (x : Nat) (w : World) : (callFunc 115 #[.float .f64 x]).run Tryd.prog w = .ok (.value (.int .u64 x)) w := by kernel_rfl
@[go_sem] theorem run_f64from (x : Int) (w : World) : (callFunc 131 #[.int .u64 x]).run Tryd.prog w = .ok (.value (.float .f64 x.toNat)) w := by kernel_rfl

/-- what math.archTrunc does -/
theorem run_trunc_eq (x : Nat) (w : World) : (callFunc 143 #[.float .f64 x]).run Tryd.prog w = ((Extern.MathFloor.toIntegral "math.archTrunc" .zero #[.float .f64 x]).run Tryd.prog w).andThen fun v w' => .ok (.value v) w' :=
  run_callFunc_extern Tryd.func143 (by kernel_rfl) (by kernel_rfl) (by kernel_rfl) (by kernel_rfl) _ w

/-- the entry's own text, at one float -/
def cutEntry (x : Nat) : Ieee.Datum → Sem Value
  | .nan s t =>
    if FloatKind.f64.format.quiet t = t then pure (.float .f64 x) else do
    let kept ← choose (.extern "math.Floor,Ceil,Trunc,RoundToEven.signallingNaN kept" 2)
    pure (.float .f64 (if kept == 1 then x else FloatKind.f64.encode (.nan s (FloatKind.f64.format.quiet t))))
  | d => pure (.float .f64 (FloatKind.f64.encode (d.integral .zero)))
theorem toIntegral_eq (x : Nat) : Extern.MathFloor.toIntegral "math.archTrunc" .zero #[.float .f64 x] = cutEntry x (Ieee.double.read x) := rfl

theorem run_trunc (x : Nat) (w : World) (h : ∀ s t, Ieee.double.read x ≠ .nan s t) :
    (callFunc 143 #[.float .f64 x]).run Tryd.prog w = .ok (.value (.float .f64 (Ieee.double.write ((Ieee.double.read x).integral .zero)))) w := by
  rw [run_trunc_eq, toIntegral_eq]
  cases hd : Ieee.double.read x with
  | nan s t => exact absurd hd (h s t)
  | number s m e' => rfl
  | infinity s => rfl

theorem run_trunc_nan (x : Nat) (w : World) : ∃ r n, (callFunc 143 #[.float .f64 x]).run Tryd.prog w = .ok (.value (.float .f64 r)) (w.drewN n) := by
  rw [run_trunc_eq, toIntegral_eq]
  cases hd : Ieee.double.read x with
  | number s m e' => exact ⟨_, 0, rfl⟩
  | infinity s => exact ⟨_, 0, rfl⟩
  | nan s t =>
    unfold cutEntry
    dsimp only
    split
    · exact ⟨_, 0, rfl⟩
    · exact ⟨_, 1, rfl⟩

theorem conj_any (x y : Nat) (w : World) :
    Calls Tryd.prog 90 #[.complex .f64 x y] w fun e w' => e = .returned (.complex .f64 x (Op.negFloat .f64 y)) ∧ w = w' := by
  go_enter Tryd.func90, Tryd.ntmps90
  go_wp2
  go_ret
  exact ⟨rfl, rfl⟩

theorem andNot_sign (x : Nat) (h : x < 2 ^ 64) : (bits .andNot .u64 (x : Int) 9223372036854775808).toNat = x % 2 ^ 63 := by
  have := u64_andNot_nat x 9223372036854775808 (by omega) (by omega)
  rw [show ((9223372036854775808 : Nat) : Int) = 9223372036854775808 from rfl] at this
  rw [this, Int.toNat_natCast]
  exact Nat.and_two_pow_sub_one_eq_mod x 63

theorem abs_any (x : Nat) (hx : x < 2 ^ 64) (w : World) :
    Calls Tryd.prog 119 #[.float .f64 x] w fun e w' => e = .returned (.float .f64 (x % 2 ^ 63)) ∧ w = w' := by
  have hb : Ending.returned (.float .f64 (bits .andNot .u64 (x : Int) 9223372036854775808).toNat) = .returned (.float .f64 (x % 2 ^ 63)) := by rw [andNot_sign x hx]
  have HB := Lib.hid hb
  clear hb hx
  go_enter Tryd.func119, Tryd.ntmps119
  go_wp2_with fail
  go_ret
  exact ⟨HB.out, rfl⟩

theorem isInf_any (x : Nat) (hx : x < 2 ^ 64) (w : World) :
    Calls Tryd.prog 136 #[.float .f64 x, .int .i64 0] w fun e w' => e = .returned (.bool (Ieee.double.read x).isInfinity) ∧ w = w' := by
  have hb : Ending.returned (.bool (Ieee.double.order (x % 2 ^ 63) 9218868437227405311 == some .gt)) = .returned (.bool (Ieee.double.read x).isInfinity) := by rw [isInf_test]
  have HB := Lib.hid hb
  clear hb
  have HX := Lib.hid hx
  clear hx
  go_enter Tryd.func136, Tryd.ntmps136
  go_wp2_with (go_at_call 119; refine (abs_any x HX.out _).mono ?_; rintro e w' ⟨rfl, rfl⟩)
  go_ret
  exact ⟨HB.out, rfl⟩

set_option maxRecDepth 100000 in
/-- IS IT A WHOLE NUMBER? -/
theorem isWhole_any (x : Nat) (hx : x < 2 ^ 64) (w : World) :
    Calls Tryd.prog 126 #[.float .f64 x] w fun e w' => e = .returned (.bool (wv Ieee.double x).isSome) ∧ ∃ n, w' = w.drewN n := by
  have HX := Lib.hid hx
  clear hx
  cases hd : Ieee.double.read x with
  | nan s t =>
    obtain ⟨r, n, hr⟩ := run_trunc_nan x w
    have ho : FloatKind.f64.format.order x r = none := order_nan hd r
    have hf : Ending.returned (.bool (wv Ieee.double x).isSome) = .returned (.bool false) := by rw [wv_nan hd]; rfl
    have HF := Lib.hid hf
    clear hf hd
    go_enter Tryd.func126, Tryd.ntmps126
    go_wp2
    go_ret
    exact ⟨HF.out.symm, n, rfl⟩
  | infinity s =>
    have hr := run_trunc x w (by intro s t h; rw [hd] at h; cases h)
    have ho : FloatKind.f64.format.order x (Ieee.double.write ((Ieee.double.read x).integral .zero)) = some .eq := order_inf hd
    generalize Ieee.double.write ((Ieee.double.read x).integral .zero) = r at hr ho
    have hf : Ending.returned (.bool (wv Ieee.double x).isSome) = .returned (.bool (!(Ieee.double.read x).isInfinity)) := by rw [wv_inf hd, hd]; rfl
    have HF := Lib.hid hf
    clear hf hd
    go_enter Tryd.func126, Tryd.ntmps126
    go_wp2_with (first | (go_at_call 136; refine (isInf_any x HX.out _).mono ?_; rintro e w' ⟨rfl, rfl⟩) | (go_at_call 135; go_in))
    go_ret
    exact ⟨HF.out.symm, 0, rfl⟩
  | number s m e =>
    have hr := run_trunc x w (by intro s t h; rw [hd] at h; cases h)
    have ho : (FloatKind.f64.format.order x (Ieee.double.write ((Ieee.double.read x).integral .zero)) == some .eq) = (wv Ieee.double x).isSome := trunc_number good_double hd
    generalize Ieee.double.write ((Ieee.double.read x).integral .zero) = r at hr ho
    have hf : (Ieee.double.read x).isInfinity = false := by rw [hd]; rfl
    have HF := Lib.hid hf
    clear hf hd
    generalize (wv Ieee.double x).isSome = b at ho
    cases b
    · go_enter Tryd.func126, Tryd.ntmps126
      go_wp2_with (first | (go_at_call 136; refine (isInf_any x HX.out _).mono ?_; rintro e w' ⟨rfl, rfl⟩) | (go_at_call 135; go_in))
      go_ret
      exact ⟨rfl, 0, rfl⟩
    · go_enter Tryd.func126, Tryd.ntmps126
      go_wp2_with (first | (go_at_call 136; refine (isInf_any x HX.out _).mono ?_; rintro e w' ⟨rfl, rfl⟩) | (go_at_call 135; go_in))
      go_ret
      exact ⟨by rw [HF.out]; rfl, 0, rfl⟩
end Go.Proofs.YtcjdbhcpcigmdaaDoor
