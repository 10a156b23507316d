import Derived.Test.YtadajelonekpmaaFlt
import Derived.Test.YtadajelonekpmaaChecked
import Derived.WalkKit
import Derived.WalkLawsBesides
import Derived.WalkSpells
import Derived.Deep.QuietTactic
import Derived.BigQuiet
import Derived.Lib.Hide
import Derived.Laws.FloatArith
import Derived.Laws.ComplexArith
import Derived.Carry
namespace Go.Proofs.Ytadajelonekpmaa
open Go.RowKit Go.Proofs.Ytadajelonekpmaa.Flt

@[go_sem] theorem run_neg_float {P : Program} (k : FloatKind) (b : Nat) (w : World) : (Op.unary .neg (.float k b)).run P w = .ok (.float k (Op.negFloat k b)) w := rfl
@[go_sem] theorem run_f64bits (x : Nat) (w : World) : (callFunc 37 #[.float .f64 x]).run Try.prog w = .ok (.value (.int .u64 x)) w := by kernel_rfl
@[go_sem] theorem run_f64from (x : Int) (w : World) : (callFunc 49 #[.int .u64 x]).run Try.prog w = .ok (.value (.float .f64 x.toNat)) w := by kernel_rfl

/-- what math.archTrunc does -/
theorem run_trunc_eq (x : Nat) (w : World) : (callFunc 53 #[.float .f64 x]).run Try.prog w = ((Extern.MathFloor.toIntegral "math.archTrunc" .zero #[.float .f64 x]).run Try.prog w).andThen fun v w' => .ok (.value v) w' :=
  run_callFunc_extern Try.func53 (by kernel_rfl) (by kernel_rfl) (by kernel_rfl) (by kernel_rfl) _ w

/-- the entry's own text, at one float -/
def cutEntry (x : Nat) : Ieee.Datum → Sem Value
  | .nan s t =>
    if FloatKind.f64.format.quiet t = t then pure (.float .f64 x) else do
    let kept ← choose (.extern "math.Floor,Ceil,Trunc,RoundToEven.signallingNaN kept" 2)
    pure (.float .f64 (if kept == 1 then x else FloatKind.f64.encode (.nan s (FloatKind.f64.format.quiet t))))
  | d => pure (.float .f64 (FloatKind.f64.encode (d.integral .zero)))
theorem toIntegral_eq (x : Nat) : Extern.MathFloor.toIntegral "math.archTrunc" .zero #[.float .f64 x] = cutEntry x (Ieee.double.read x) := rfl

theorem run_trunc (x : Nat) (w : World) (h : ∀ s t, Ieee.double.read x ≠ .nan s t) :
    (callFunc 53 #[.float .f64 x]).run Try.prog w = .ok (.value (.float .f64 (Ieee.double.write ((Ieee.double.read x).integral .zero)))) w := by
  rw [run_trunc_eq, toIntegral_eq]
  cases hd : Ieee.double.read x with
  | nan s t => exact absurd hd (h s t)
  | number s m e' => rfl
  | infinity s => rfl

theorem run_trunc_nan (x : Nat) (w : World) : ∃ r n, (callFunc 53 #[.float .f64 x]).run Try.prog w = .ok (.value (.float .f64 r)) (w.drewN n) := by
  rw [run_trunc_eq, toIntegral_eq]
  cases hd : Ieee.double.read x with
  | number s m e' => exact ⟨_, 0, rfl⟩
  | infinity s => exact ⟨_, 0, rfl⟩
  | nan s t =>
    unfold cutEntry
    dsimp only
    split
    · exact ⟨_, 0, rfl⟩
    · exact ⟨_, 1, rfl⟩

theorem conj_any (x y : Nat) (w : World) :
    Calls Try.prog 26 #[.complex .f64 x y] w fun e w' => e = .returned (.complex .f64 x (Op.negFloat .f64 y)) ∧ w = w' := by
  go_enter Try.func26, Try.ntmps26
  go_wp2
  go_ret
  exact ⟨rfl, rfl⟩

theorem andNot_sign (x : Nat) (h : x < 2 ^ 64) : (bits .andNot .u64 (x : Int) 9223372036854775808).toNat = x % 2 ^ 63 := by
  have := u64_andNot_nat x 9223372036854775808 (by omega) (by omega)
  rw [show ((9223372036854775808 : Nat) : Int) = 9223372036854775808 from rfl] at this
  rw [this, Int.toNat_natCast]
  exact Nat.and_two_pow_sub_one_eq_mod x 63

theorem abs_any (x : Nat) (hx : x < 2 ^ 64) (w : World) :
    Calls Try.prog 43 #[.float .f64 x] w fun e w' => e = .returned (.float .f64 (x % 2 ^ 63)) ∧ w = w' := by
  have hb : Ending.returned (.float .f64 (bits .andNot .u64 (x : Int) 9223372036854775808).toNat) = .returned (.float .f64 (x % 2 ^ 63)) := by rw [andNot_sign x hx]
  have HB := Lib.hid hb
  clear hb hx
  go_enter Try.func43, Try.ntmps43
  go_wp2_with fail
  go_ret
  exact ⟨HB.out, rfl⟩

theorem isInf_any (x : Nat) (hx : x < 2 ^ 64) (w : World) :
    Calls Try.prog 52 #[.float .f64 x, .int .i64 0] w fun e w' => e = .returned (.bool (Ieee.double.read x).isInfinity) ∧ w = w' := by
  have hb : Ending.returned (.bool (Ieee.double.order (x % 2 ^ 63) 9218868437227405311 == some .gt)) = .returned (.bool (Ieee.double.read x).isInfinity) := by rw [isInf_test]
  have HB := Lib.hid hb
  clear hb
  have HX := Lib.hid hx
  clear hx
  go_enter Try.func52, Try.ntmps52
  go_wp2_with (go_at_call 43; refine (abs_any x HX.out _).mono ?_; rintro e w' ⟨rfl, rfl⟩)
  go_ret
  exact ⟨HB.out, rfl⟩

set_option maxRecDepth 100000 in
/-- IS IT A WHOLE NUMBER? -/
theorem isWhole_any (x : Nat) (hx : x < 2 ^ 64) (w : World) :
    Calls Try.prog 50 #[.float .f64 x] w fun e w' => e = .returned (.bool (wv Ieee.double x).isSome) ∧ ∃ n, w' = w.drewN n := by
  have HX := Lib.hid hx
  clear hx
  cases hd : Ieee.double.read x with
  | nan s t =>
    obtain ⟨r, n, hr⟩ := run_trunc_nan x w
    have ho : FloatKind.f64.format.order x r = none := order_nan hd r
    have hf : Ending.returned (.bool (wv Ieee.double x).isSome) = .returned (.bool false) := by rw [wv_nan hd]; rfl
    have HF := Lib.hid hf
    clear hf hd
    go_enter Try.func50, Try.ntmps50
    go_wp2
    go_ret
    exact ⟨HF.out.symm, n, rfl⟩
  | infinity s =>
    have hr := run_trunc x w (by intro s t h; rw [hd] at h; cases h)
    have ho : FloatKind.f64.format.order x (Ieee.double.write ((Ieee.double.read x).integral .zero)) = some .eq := order_inf hd
    generalize Ieee.double.write ((Ieee.double.read x).integral .zero) = r at hr ho
    have hf : Ending.returned (.bool (wv Ieee.double x).isSome) = .returned (.bool (!(Ieee.double.read x).isInfinity)) := by rw [wv_inf hd, hd]; rfl
    have HF := Lib.hid hf
    clear hf hd
    go_enter Try.func50, Try.ntmps50
    go_wp2_with (first | (go_at_call 52; refine (isInf_any x HX.out _).mono ?_; rintro e w' ⟨rfl, rfl⟩) | (go_at_call 51; go_in))
    go_ret
    exact ⟨HF.out.symm, 0, rfl⟩
  | number s m e =>
    have hr := run_trunc x w (by intro s t h; rw [hd] at h; cases h)
    have ho : (FloatKind.f64.format.order x (Ieee.double.write ((Ieee.double.read x).integral .zero)) == some .eq) = (wv Ieee.double x).isSome := trunc_number good_double hd
    generalize Ieee.double.write ((Ieee.double.read x).integral .zero) = r at hr ho
    have hf : (Ieee.double.read x).isInfinity = false := by rw [hd]; rfl
    have HF := Lib.hid hf
    clear hf hd
    generalize (wv Ieee.double x).isSome = b at ho
    cases b
    · go_enter Try.func50, Try.ntmps50
      go_wp2_with (first | (go_at_call 52; refine (isInf_any x HX.out _).mono ?_; rintro e w' ⟨rfl, rfl⟩) | (go_at_call 51; go_in))
      go_ret
      exact ⟨rfl, 0, rfl⟩
    · go_enter Try.func50, Try.ntmps50
      go_wp2_with (first | (go_at_call 52; refine (isInf_any x HX.out _).mono ?_; rintro e w' ⟨rfl, rfl⟩) | (go_at_call 51; go_in))
      go_ret
      exact ⟨by rw [HF.out]; rfl, 0, rfl⟩
end Go.Proofs.Ytadajelonekpmaa

namespace Go.Proofs.Ytadajelonekpmaa
open Go.RowKit Go.Proofs.Ytadajelonekpmaa.Flt

/-- the error of a sample of these parts: 29 where one is not whole, 2 where one is beyond M -/
def smpErr (a b : Option Int) (M : Int) : Int :=
  match a, b with
  | some a, some b => if M < a.natAbs ∨ M < b.natAbs then 2 else 0
  | _, _ => 29

def absW (x : Nat) : Nat := x % 2 ^ 63

theorem abs_w (x : Nat) (hx : x < 2 ^ 64) (w : World) :
    Calls Try.prog 43 #[.float .f64 x] w fun e w' => e = .returned (.float .f64 (absW x)) ∧ w = w' := abs_any x hx w

set_option maxRecDepth 100000 in
/-- IS A WHOLE NUMBER BEYOND A BOUND? -/
theorem isLarge_any (x y m : Nat) (a b M : Int) (hx : x < 2 ^ 64) (hy : y < 2 ^ 64) (ha : wv Ieee.double x = some a) (hb : wv Ieee.double y = some b) (hm : Rep Ieee.double m M) (h0 : 0 ≤ M) (hM : M.natAbs ≤ 2 ^ 53) (w : World) :
    Calls Try.prog 32 #[.complex .f64 x y, .float .f64 m] w fun e w' => e = .returned (.bool (decide (M < a.natAbs ∨ M < b.natAbs))) ∧ w = w' := by
  have h1 : (FloatKind.f64.format.order (absW x) m == some .gt) = decide (M < a.natAbs) := above_test ha hm hM h0
  have h2 : (FloatKind.f64.format.order (absW y) m == some .gt) = decide (M < b.natAbs) := above_test hb hm hM h0
  have HX := Lib.hid hx
  have HY := Lib.hid hy
  clear hx hy ha hb hm hM h0
  by_cases c1 : M < a.natAbs
  · rw [decide_eq_true c1] at h1
    have HF : Hid (decide (M < (a.natAbs : Int) ∨ M < (b.natAbs : Int)) = true) := by simp [Hid, c1]
    clear h2 c1
    go_enter Try.func32, Try.ntmps32
    go_wp2_with fail
    refine (abs_w x HX.out _).mono ?_
    rintro e w' ⟨rfl, rfl⟩
    go_wp2_with fail
    go_ret
    exact ⟨by rw [HF.out]; rfl, rfl⟩
  · rw [decide_eq_false c1] at h1
    have HF : Hid (decide (M < (a.natAbs : Int) ∨ M < (b.natAbs : Int)) = decide (M < (b.natAbs : Int))) := by simp [Hid, c1]
    clear c1
    generalize decide (M < (b.natAbs : Int)) = d at *
    go_enter Try.func32, Try.ntmps32
    go_wp2_with fail
    refine (abs_w x HX.out _).mono ?_
    rintro e w' ⟨rfl, rfl⟩
    go_wp2_with fail
    refine (abs_w y HY.out _).mono ?_
    rintro e w' ⟨rfl, rfl⟩
    go_wp2_with fail
    go_ret
    exact ⟨by rw [HF.out]; rfl, rfl⟩

set_option maxRecDepth 100000 in
/-- THE ERROR OF A SAMPLE -/
theorem checkSample_any (x y m : Nat) (M : Int) (hx : x < 2 ^ 64) (hy : y < 2 ^ 64) (hm : Rep Ieee.double m M) (h0 : 0 ≤ M) (hM : M.natAbs ≤ 2 ^ 53) (w : World) :
    Calls Try.prog 46 #[.complex .f64 x y, .float .f64 m] w fun e w' => e = .returned (.int .i64 (smpErr (wv Ieee.double x) (wv Ieee.double y) M)) ∧ ∃ n, w' = w.drewN n := by
  have c1 := fun w => isWhole_any x hx w
  have c2 := fun w => isWhole_any y hy w
  cases ha : wv Ieee.double x with
  | none =>
    rw [ha] at c1
    have C1 := Lib.hid c1
    clear c1 c2 hx hy hm h0 hM ha
    go_enter Try.func46, Try.ntmps46
    go_wp2_with fail
    refine (C1.out _).mono ?_
    rintro e w' ⟨rfl, n, rfl⟩
    go_wp2_with fail
    go_ret
    exact ⟨rfl, n, rfl⟩
  | some a =>
    cases hb : wv Ieee.double y with
    | none =>
      rw [ha] at c1; rw [hb] at c2
      have C1 := Lib.hid c1
      have C2 := Lib.hid c2
      clear c1 c2 hx hy hm h0 hM ha hb
      go_enter Try.func46, Try.ntmps46
      go_wp2_with fail
      refine (C1.out _).mono ?_
      rintro e w' ⟨rfl, n, rfl⟩
      go_wp2_with fail
      refine (C2.out _).mono ?_
      rintro e w' ⟨rfl, n', rfl⟩
      go_wp2_with fail
      go_ret
      exact ⟨rfl, _, rfl⟩
    | some b =>
      have c3 := fun w => isLarge_any x y m a b M hx hy ha hb hm h0 hM w
      rw [ha] at c1; rw [hb] at c2
      have C1 := Lib.hid c1
      have C2 := Lib.hid c2
      have HS : Hid (smpErr (some a) (some b) M = if decide (M < (a.natAbs : Int) ∨ M < (b.natAbs : Int)) then 2 else 0) := by simp [Hid, smpErr]
      clear c1 c2 hx hy hm h0 hM ha hb
      generalize decide (M < (a.natAbs : Int) ∨ M < (b.natAbs : Int)) = d at *
      have C3 := Lib.hid c3
      clear c3
      cases d
      all_goals
        go_enter Try.func46, Try.ntmps46
        go_wp2_with fail
        refine (C1.out _).mono ?_
        rintro e w' ⟨rfl, n, rfl⟩
        go_wp2_with fail
        refine (C2.out _).mono ?_
        rintro e w' ⟨rfl, n', rfl⟩
        go_wp2_with fail
        refine (C3.out _).mono ?_
        rintro e w' ⟨rfl, rfl⟩
        go_wp2_with fail
        go_ret
        exact ⟨by rw [HS.out]; rfl, _, rfl⟩

def sizeErr (l s n : Int) : Int := if l < 1 ∨ 64 < l ∨ s < 1 ∨ 64 < s then 2 else if n = l * s then 0 else 10

theorem checkSize_any (l s n : Int) (hl : -9223372036854775808 ≤ l) (hl' : l ≤ 9223372036854775807) (hs : -9223372036854775808 ≤ s) (hs' : s ≤ 9223372036854775807) (w : World) :
    Calls Try.prog 38 #[.int .i64 l, .int .i64 s, .int .i64 n] w fun e w' => e = .returned (.int .i64 (sizeErr l s n)) ∧ w = w' := by
  by_cases h1 : l < 1
  · go_enter Try.func38, Try.ntmps38
    go_wp2
    go_ret
    exact ⟨by unfold sizeErr; rw [if_pos (by omega)]; rfl, rfl⟩
  by_cases h2 : 64 < l
  · go_enter Try.func38, Try.ntmps38
    go_wp2
    go_ret
    exact ⟨by unfold sizeErr; rw [if_pos (by omega)]; rfl, rfl⟩
  by_cases h3 : s < 1
  · go_enter Try.func38, Try.ntmps38
    go_wp2
    go_ret
    exact ⟨by unfold sizeErr; rw [if_pos (by omega)]; rfl, rfl⟩
  by_cases h4 : 64 < s
  · go_enter Try.func38, Try.ntmps38
    go_wp2
    go_ret
    exact ⟨by unfold sizeErr; rw [if_pos (by omega)]; rfl, rfl⟩
  have hp : 0 ≤ l * s ∧ l * s ≤ 4096 := by
    constructor
    · exact Int.mul_nonneg (by omega) (by omega)
    · have := Int.mul_le_mul (show l ≤ 64 by omega) (show s ≤ 64 by omega) (by omega) (by omega)
      omega
  obtain ⟨p1, p2⟩ := hp
  have hm : wrap64 (l * s) = l * s := IntWalk.wrap64_in _ ⟨by omega, by omega⟩
  by_cases h5 : n = l * s
  · subst h5
    go_enter Try.func38, Try.ntmps38
    go_wp2
    go_ret
    exact ⟨by unfold sizeErr; rw [if_neg (by omega), if_pos rfl]; rfl, rfl⟩
  · have h6 : (n != l * s) = true := by rw [bne_iff_ne]; exact h5
    go_enter Try.func38, Try.ntmps38
    go_wp2
    go_ret
    exact ⟨by unfold sizeErr; rw [if_neg (by omega), if_neg h5]; rfl, rfl⟩
end Go.Proofs.Ytadajelonekpmaa

namespace Go.Proofs.Ytadajelonekpmaa
open Go.RowKit Go.Proofs.Ytadajelonekpmaa.Flt

/-- THE SLICE VALUE v READS AS THE VALUES xs, a cell each -/
structure Sl (w : World) (v : Value) (xs : List Value) : Prop where
  form : ∃ ad cap, v = .slice ad xs.length cap ∧ xs.length ≤ 140737488351232 ∧
    (xs = [] ∨ ∃ b off, ad = some ⟨b, off, none⟩ ∧ b < w.heap.size ∧ ∀ j x, xs[j]? = some x → w.cell? ⟨b, off + j, none⟩ = some x)

theorem Sl.below {w w' : World} {v : Value} {xs : List Value} {B : Nat} (h : Sl w v xs) (hb : Below B w w') (hB : w.heap.size ≤ B) : Sl w' v xs := by
  obtain ⟨ad, cap, hv, hl, h⟩ := h
  refine ⟨ad, cap, hv, hl, ?_⟩
  rcases h with h | ⟨b, off, h1, h2, h3⟩
  · exact .inl h
  · exact .inr ⟨b, off, h1, Nat.lt_of_lt_of_le h2 hb.size, fun j x hx => (hb.cell (p := ⟨b, off + j, none⟩) (Nat.lt_of_lt_of_le h2 hB)).trans (h3 j x hx)⟩

theorem Sl.drewN {w : World} {v : Value} {xs : List Value} (h : Sl w v xs) (n : Nat) : Sl (w.drewN n) v xs := by
  obtain ⟨ad, cap, hv, hl, h⟩ := h
  exact ⟨ad, cap, hv, hl, h⟩

theorem below_drewN' (B : Nat) (w : World) (n : Nat) : Below B w (w.drewN n) := ⟨rfl, rfl, rfl, Nat.le_refl _, fun _ _ => rfl⟩

/-- complex samples as values -/
def cvals (k : FloatKind) (zs : List (Nat × Nat)) : List Value := zs.map fun z => .complex k z.1 z.2

/-- the first error of a list, and its place -/
def firstErr : Nat → List Int → Int × Int
  | _, [] => (0, 0)
  | i, e :: r => if e = 0 then firstErr (i + 1) r else ((i : Int), e)

theorem firstErr_zero (i : Nat) (es : List Int) (k : Nat) (h : es[k]? = some 0) : firstErr (i + k) (es.drop k) = firstErr (i + (k + 1)) (es.drop (k + 1)) := by
  have hk : k < es.length := by
    rcases Nat.lt_or_ge k es.length with h' | h'
    · exact h'
    · simp [List.getElem?_eq_none h'] at h
  rw [List.drop_eq_getElem_cons hk]
  have : es[k] = 0 := by rw [List.getElem?_eq_getElem hk] at h; exact Option.some.inj h
  simp [firstErr, this, Nat.add_assoc]

theorem firstErr_hit (i : Nat) (es : List Int) (k : Nat) (e : Int) (h : es[k]? = some e) (he : e ≠ 0) : firstErr (i + k) (es.drop k) = (((i + k : Nat) : Int), e) := by
  have hk : k < es.length := by
    rcases Nat.lt_or_ge k es.length with h' | h'
    · exact h'
    · simp [List.getElem?_eq_none h'] at h
  rw [List.drop_eq_getElem_cons hk]
  have : es[k] = e := by rw [List.getElem?_eq_getElem hk] at h; exact Option.some.inj h
  simp [firstErr, this, he]

theorem firstErr_end (i : Nat) (es : List Int) (k : Nat) (h : es.length ≤ k) : firstErr i (es.drop k) = (0, 0) := by
  rw [List.drop_of_length_le h]; rfl

/-- complex64 made complex128: each part the same number, if it is one -/
theorem run_conv_f32 {P : Program} (a : Nat) (w : World) : ∃ r n, (Conv.floatToFloat .f32 a .f64).run P w = .ok (.float .f64 r) (w.drewN n) ∧ wv Ieee.double r = wv Ieee.single a ∧ r < 2 ^ 64 ∧
    (∀ k : Int, Rep Ieee.single a k → k.natAbs ≤ 2 ^ 24 → n = 0 ∧ Rep Ieee.double r k ∧ (a = enc Ieee.single k → r = enc Ieee.double k)) := by
  unfold Conv.floatToFloat
  rw [if_neg (by decide)]
  have e : FloatKind.f32.decode a = Ieee.single.read a := rfl
  rw [e]
  have w64 : (2 : Nat) ^ Ieee.double.width = 2 ^ 64 := rfl
  cases hd : Ieee.single.read a with
  | nan s t =>
    dsimp only
    obtain ⟨q, hq⟩ : ∃ q, q = w.tape w.drawn (.nanConv .f64 a) := ⟨_, rfl⟩
    refine ⟨(q % 2) * 2 ^ 63 + 0x7ff0000000000000 + 1 + (q / 2) % (2 ^ 52 - 1), 1, by subst hq; rfl, ?_, ?_, ?_⟩
    · obtain ⟨s', k', h⟩ := nan_pat q ((q / 2) % (2 ^ 52 - 1)) (Nat.mod_lt _ (by decide))
      rw [wv_nan h, wv_nan hd]
    · have := Nat.mod_lt (q / 2) (show 2 ^ 52 - 1 > 0 by decide)
      have := Nat.mod_lt q (show 2 > 0 by decide)
      omega
    · intro k hk hkk
      have := rep_wv good_single hk hkk
      rw [wv_nan hd] at this
      cases this
  | infinity s =>
    refine ⟨Ieee.double.write (.infinity s), 0, rfl, ?_, ?_, ?_⟩
    · exact write_wv hd (by intro _ _ h; cases h)
    · rw [← w64]; exact Ieee.double.write_lt _
    · intro k hk hkk
      have := rep_wv good_single hk hkk
      rw [wv_inf hd] at this
      cases this
  | number s m e' =>
    have hni := (conv_number hd).1
    refine ⟨Ieee.double.write (.number s m e'), 0, ?_, ?_, ?_, ?_⟩
    · have : (FloatKind.f64.decode (FloatKind.f64.encode (.number s m e'))).isInfinity = false := hni
      dsimp only
      rw [this]
      rfl
    · exact write_wv hd (by intro _ _ h; cases h)
    · rw [← w64]; exact Ieee.double.write_lt _
    · intro k hk hkk
      obtain ⟨s', m', e'', h1, h2, h3⟩ := conv_rep good_single good_double hk hkk (Nat.le_trans hkk (by decide))
      rw [hd] at h1
      cases h1
      exact ⟨rfl, h2, h3⟩

theorem run_conv_c64 {P : Program} (src dst : TypeId) (hs : (P.underlying src).isSome = true) (hd : P.underlying dst = some (.complex .f64)) (a b : Nat) (w : World) :
    ∃ x y n, (convert src dst (.complex .f32 a b)).run P w = .ok (.complex .f64 x y) (w.drewN n) ∧ wv Ieee.double x = wv Ieee.single a ∧ wv Ieee.double y = wv Ieee.single b ∧ x < 2 ^ 64 ∧ y < 2 ^ 64 ∧
      (∀ k l : Int, Rep Ieee.single a k → k.natAbs ≤ 2 ^ 24 → Rep Ieee.single b l → l.natAbs ≤ 2 ^ 24 → n = 0 ∧ Rep Ieee.double x k ∧ Rep Ieee.double y l) := by
  obtain ⟨u, hs'⟩ := Option.isSome_iff_exists.1 hs
  obtain ⟨x, n, h1, h2, h3, h4⟩ := run_conv_f32 (P := P) a w
  obtain ⟨y, n', h1', h2', h3', h4'⟩ := run_conv_f32 (P := P) b (w.drewN n)
  refine ⟨x, y, n + n', ?_, h2, h2', h3, h3', fun k l hk hkk hl hll => ?_⟩
  · cases u <;> simp [convert, run_underlying hs', run_underlying hd, Conv.complexToComplex, h1, h1']
  · obtain ⟨e1, e2, -⟩ := h4 k hk hkk
    obtain ⟨e1', e2', -⟩ := h4' l hl hll
    exact ⟨by omega, e2, e2'⟩

theorem Try.und109 : (Try.prog.underlying 54).isSome = true := by kernel_rfl
theorem Try.und88 : Try.prog.underlying 43 = some (.complex .f64) := by kernel_rfl

def smpErrs (k : FloatKind) (M : Int) (zs : List (Nat × Nat)) : List Int := zs.map fun z => smpErr (wv k.format z.1) (wv k.format z.2) M

set_option maxHeartbeats 1000000 in
set_option maxRecDepth 100000 in
/-- THE FIRST WRONG SAMPLE -/
theorem checkSamples64_any (v : Value) (zs : List (Nat × Nat)) (m : Nat) (M : Int) (w : World) (hv : Sl w v (cvals .f32 zs)) (hm : Rep Ieee.double m M) (h0 : 0 ≤ M) (hM : M.natAbs ≤ 2 ^ 53) :
    Calls Try.prog 39 #[v, .float .f64 m] w fun e w' => e = .returned (.tuple #[.int .i64 (firstErr 0 (smpErrs .f32 M zs)).1, .int .i64 (firstErr 0 (smpErrs .f32 M zs)).2]) ∧ ∃ n, w' = w.drewN n := by
  obtain ⟨ad, cap, rfl, hl, hc⟩ := hv
  obtain ⟨n, hn⟩ : ∃ n, n = (cvals .f32 zs).length := ⟨_, rfl⟩
  rw [← hn] at hl ⊢
  have hn' : n = zs.length := by rw [hn]; simp [cvals]
  have HM := Lib.hid (And.intro hm (And.intro h0 hM))
  obtain ⟨R, hR⟩ : ∃ R, R = firstErr 0 (smpErrs .f32 M zs) := ⟨_, rfl⟩
  rw [← hR]
  have HR := Lib.hid hR
  have HN := Lib.hid hn'
  have HC := Lib.hid hc
  clear hm h0 hM hR hn hn' hc
  go_enter Try.func39, Try.ntmps39
  go_wp2_with fail
  go_loopw [11] (fun i wr => ∃ k : Nat, k ≤ n ∧ i = .int .i64 k ∧ Hid (R = firstErr k ((smpErrs .f32 M zs).drop k)) ∧ ∃ q, wr = w.drewN q) (fun i _ => n - (intOf i).toNat)
  case atStart => exact ⟨0, Nat.zero_le _, rfl, HR, 0, rfl⟩
  case round =>
    obtain ⟨k, hk, rfl, HK, q, rfl⟩ := hrel
    by_cases hlt : k < n
    · have hkz : k < zs.length := by have := HN.out; omega
      rcases HC.out with h | ⟨b, off, rfl, hb, hcell⟩
      · have := HN.out; rw [show zs = [] from by simpa [cvals] using h] at this; simp at this; omega
      have hck : w.cell? ⟨b, off + k, none⟩ = some (.complex .f32 zs[k].1 zs[k].2) := hcell k _ (by simp [cvals, List.getElem?_eq_getElem hkz])
      obtain ⟨z1, hz1⟩ : ∃ z1, z1 = zs[k].1 := ⟨_, rfl⟩
      obtain ⟨z2, hz2⟩ : ∃ z2, z2 = zs[k].2 := ⟨_, rfl⟩
      rw [← hz1, ← hz2] at hck
      obtain ⟨x, y, n', hconv, hx, hy, hx', hy', -⟩ := run_conv_c64 (P := Try.prog) 54 43 Try.und109 Try.und88 z1 z2 (w.drewN q)
      have hE : (smpErrs .f32 M zs)[k]? = some (smpErr (wv Ieee.double x) (wv Ieee.double y) M) := by
        rw [hx, hy, hz1, hz2]; simp [smpErrs, List.getElem?_eq_getElem hkz]; rfl
      have C := Lib.hid (fun w => checkSample_any x y m M hx' hy' HM.out.1 HM.out.2.1 HM.out.2.2 w)
      have HE := Lib.hid hE
      generalize smpErr (wv Ieee.double x) (wv Ieee.double y) M = E at *
      clear hE hx hy hx' hy' hz1 hz2 hkz hcell hb HC
      by_cases hE0 : E = 0
      · subst hE0
        have HK' : Hid (R = firstErr (k + 1) ((smpErrs .f32 M zs).drop (k + 1))) := by
          have := firstErr_zero 0 _ k HE.out
          simp only [Nat.zero_add] at this
          exact HK.out.trans this
        clear HE HK
        go_wp2_with fail
        refine (C.out _).mono ?_
        rintro e w' ⟨rfl, n2, rfl⟩
        go_wp2_with fail
        go_roundw
        case rel => exact ⟨k + 1, by omega, by go_num, HK', _, rfl⟩
        case measure => simp [intOf]; omega
      · have HK' : Hid (R = ((k : Int), E)) := by
          have := firstErr_hit 0 _ k E HE.out hE0
          simp only [Nat.zero_add] at this
          exact HK.out.trans this
        clear HE HK
        have hne : (E != 0) = true := by rw [bne_iff_ne]; exact hE0
        go_wp2_with fail
        refine (C.out _).mono ?_
        rintro e w' ⟨rfl, n2, rfl⟩
        go_wp2_with fail
        go_ret2
        exact ⟨by rw [HK'.out]; rfl, _, rfl⟩
    · have HK' : Hid (R = (0, 0)) := by
        have : (smpErrs .f32 M zs).length ≤ k := by have := HN.out; simp [smpErrs]; omega
        exact HK.out.trans (firstErr_end k _ k this)
      clear HK
      go_wp2_with fail
      go_ret2
      exact ⟨by rw [HK'.out]; rfl, _, rfl⟩
end Go.Proofs.Ytadajelonekpmaa
