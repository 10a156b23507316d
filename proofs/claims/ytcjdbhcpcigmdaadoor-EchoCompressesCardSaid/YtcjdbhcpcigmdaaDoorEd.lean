import Derived.Test.YtcjdbhcpcigmdaaDoorEc
import Derived.Deep.RegionHeld3
import Derived.Shelf.Abstract
namespace Go.Proofs.YtcjdbhcpcigmdaaDoor
open Go.RowKit Go.Proofs.YtcjdbhcpcigmdaaDoor.Flt

/-- the sum of the first k numbers -/
def sumTo (a : Nat → Int) : Nat → Int
  | 0 => 0
  | k + 1 => sumTo a k + a k

theorem run_sum_step {P : Program} (t : TypeId) (s u a b : Int) (x y : Nat) (hx : Rep Ieee.double x a) (hy : Rep Ieee.double y b) (hs : s.natAbs ≤ 2 ^ 53) (hu : u.natAbs ≤ 2 ^ 53) (ha : a.natAbs ≤ 2 ^ 53) (hb : b.natAbs ≤ 2 ^ 53)
    (hsa : (s + a).natAbs ≤ 2 ^ 53) (hub : (u + b).natAbs ≤ 2 ^ 53) (w : World) :
    (binOp .add t (.complex .f64 (enc Ieee.double s) (enc Ieee.double u)) (.complex .f64 x y)).run P w = .ok (.complex .f64 (enc Ieee.double (s + a)) (enc Ieee.double (u + b))) w := by
  have add1 : ∀ (s a : Int) (x : Nat), Rep Ieee.double x a → s.natAbs ≤ 2 ^ 53 → a.natAbs ≤ 2 ^ 53 → (s + a).natAbs ≤ 2 ^ 53 → floatBits .add .f64 (enc Ieee.double s) x = some (enc Ieee.double (s + a)) := by
    intro s a x hx hs ha hsa
    obtain ⟨r, h1, h2, h3⟩ := add_rep good_double (Rep.enc _ s) hx hs ha hsa
    have hr : r = enc Ieee.double (s + a) := by
      rcases h2 with h2 | ⟨h0, h2⟩
      · exact h2
      · by_cases hs0 : 0 ≤ s
        · exact h3 (.inl ⟨rfl, hs0⟩)
        · rcases hx with hx | ⟨hx0, -⟩
          · exact h3 (.inr ⟨hx, by omega⟩)
          · omega
    have : floatBits .add .f64 (enc Ieee.double s) x = Ieee.double.add (enc Ieee.double s) x := rfl
    rw [this, h1, hr]
  refine run_complex_sum w .add (.inl rfl) t .f64 _ _ _ _ _ _ ?_
  unfold cSumBits
  rw [add1 s a x hx hs ha hsa, add1 u b y hy hu hb hub]
  rfl

set_option maxHeartbeats 1000000 in
set_option maxRecDepth 100000 in
/-- A SUM OVER WHAT A FUNCTION VALUE HANDS -/
theorem sumOver_any (g : FuncId) (eg : ∀ args w, (callFunc g args).run Tryd.prog w = .ok (.enter g args) w) (lb : Array Value) (n : Nat) (hn : n ≤ 1000000) (x y : Nat → Nat) (a b : Nat → Int) (w : World)
    (hx : ∀ k, k < n → Rep Ieee.double (x k) (a k) ∧ Rep Ieee.double (y k) (b k)) (ha : ∀ k, k < n → (a k).natAbs ≤ 2 ^ 53 ∧ (b k).natAbs ≤ 2 ^ 53) (hs : ∀ k, k ≤ n → (sumTo a k).natAbs ≤ 2 ^ 53 ∧ (sumTo b k).natAbs ≤ 2 ^ 53)
    (hf : ∀ (k : Nat), k < n → ∀ q, Calls Tryd.prog g (#[.int .i64 k] ++ lb) (w.drewN q) fun e w' => e = .returned (.complex .f64 (x k) (y k)) ∧ ∃ m, w' = w.drewN m) :
    Calls Tryd.prog 88 #[.int .i64 n, .func (.func g) #[] lb] w fun e w' => e = .returned (.complex .f64 (enc Ieee.double (sumTo a n)) (enc Ieee.double (sumTo b n))) ∧ ∃ m, w' = w.drewN m := by
  have HX := Lib.hid hx
  have HA := Lib.hid ha
  have HS := Lib.hid hs
  have HF := Lib.hid hf
  clear hx ha hs hf
  have z1 : Hid (enc Ieee.double (sumTo a 0) = 0) := enc_zero _
  have z2 : Hid (enc Ieee.double (sumTo b 0) = 0) := enc_zero _
  go_enter Tryd.func88, Tryd.ntmps88
  go_wp2_with fail
  go_loopw [5, 8] (fun s i wr => ∃ k : Nat, k ≤ n ∧ i = .int .i64 k ∧ s = .complex .f64 (enc Ieee.double (sumTo a k)) (enc Ieee.double (sumTo b k)) ∧ ∃ q, wr = w.drewN q) (fun _ i _ => n - (intOf i).toNat)
  case atStart => exact ⟨0, Nat.zero_le _, rfl, by rw [z1.out, z2.out], 0, rfl⟩
  case round =>
    obtain ⟨k, hk, rfl, rfl, q, rfl⟩ := hrel
    by_cases hlt : k < n
    · have C := HF.out k hlt q
      have hst := fun w => run_sum_step (P := Tryd.prog) 88 (sumTo a k) (sumTo b k) (a k) (b k) (x k) (y k) (HX.out k hlt).1 (HX.out k hlt).2 (HS.out k hk).1 (HS.out k hk).2 (HA.out k hlt).1 (HA.out k hlt).2 (HS.out (k + 1) hlt).1 (HS.out (k + 1) hlt).2 w
      have e1 : Hid (enc Ieee.double (sumTo a (k + 1)) = enc Ieee.double (sumTo a k + a k)) := rfl
      have e2 : Hid (enc Ieee.double (sumTo b (k + 1)) = enc Ieee.double (sumTo b k + b k)) := rfl
      generalize enc Ieee.double (sumTo a k + a k) = A' at *
      generalize enc Ieee.double (sumTo b k + b k) = B' at *
      generalize enc Ieee.double (sumTo a k) = A at *
      generalize enc Ieee.double (sumTo b k) = B at *
      generalize x k = X at *
      generalize y k = Y at *
      have C' := Lib.hid C
      clear C
      go_wp2_with fail
      refine (C'.out).mono ?_
      rintro e w' ⟨rfl, m, rfl⟩
      go_wp2_with fail
      go_roundw
      case rel => exact ⟨k + 1, by omega, by go_num, by rw [e1.out, e2.out], _, rfl⟩
      case measure => simp [intOf]; omega
    · obtain rfl : k = n := by omega
      go_wp2_with fail
      go_ret
      exact ⟨rfl, _, rfl⟩

theorem enters_Compress1 : ∀ args w, (callFunc 89 args).run Tryd.prog w = .ok (.enter 89 args) w := enters_of Tryd.func89 (by kernel_rfl) rfl

/-- complex64 made complex128, of whole parts: no draw -/
theorem run_conv_whole {P : Program} (src dst : TypeId) (hs : (P.underlying src).isSome = true) (hd : P.underlying dst = some (.complex .f64)) {a b : Nat} {k l : Int} (ha : Rep Ieee.single a k) (hb : Rep Ieee.single b l) (hk : k.natAbs ≤ 2 ^ 24) (hl : l.natAbs ≤ 2 ^ 24) :
    ∃ x y, (∀ w, (convert src dst (.complex .f32 a b)).run P w = .ok (.complex .f64 x y) w) ∧ Rep Ieee.double x k ∧ Rep Ieee.double y l := by
  obtain ⟨x, h1, h2, -⟩ := floatToFloat_rep (k := .f32) (k' := .f64) good_single good_double ha hk (Nat.le_trans hk (by decide))
  obtain ⟨y, h3, h4, -⟩ := floatToFloat_rep (k := .f32) (k' := .f64) good_single good_double hb hl (Nat.le_trans hl (by decide))
  refine ⟨x, y, fun w => run_convert_complex w src dst .f32 .f64 a b x y hs hd ?_, h2, h4⟩
  unfold cConvBits
  rw [h1, h3]; rfl

/-- a product of whole numbers' words -/
theorem mulBits_rep {x y : Nat} {a b : Int} (hx : Rep Ieee.double x a) (hy : Rep Ieee.double y b) (ha : a.natAbs ≤ 2 ^ 53) (hb : b.natAbs ≤ 2 ^ 53) (hab : (a * b).natAbs ≤ 2 ^ 53) :
    ∃ r, floatBits .mul .f64 x y = some r ∧ Rep Ieee.double r (a * b) := by
  obtain ⟨r, h1, h2⟩ := mul_rep good_double hx hy ha hb hab
  exact ⟨r, h1, h2⟩
theorem subBits_rep {x y : Nat} {a b : Int} (hx : Rep Ieee.double x a) (hy : Rep Ieee.double y b) (ha : a.natAbs ≤ 2 ^ 53) (hb : b.natAbs ≤ 2 ^ 53) (hab : (a - b).natAbs ≤ 2 ^ 53) :
    ∃ r, floatBits .sub .f64 x y = some r ∧ Rep Ieee.double r (a - b) := by
  obtain ⟨r, h1, h2, -⟩ := sub_rep good_double hx hy ha hb hab
  exact ⟨r, h1, h2⟩
theorem addBits_rep {x y : Nat} {a b : Int} (hx : Rep Ieee.double x a) (hy : Rep Ieee.double y b) (ha : a.natAbs ≤ 2 ^ 53) (hb : b.natAbs ≤ 2 ^ 53) (hab : (a + b).natAbs ≤ 2 ^ 53) :
    ∃ r, floatBits .add .f64 x y = some r ∧ Rep Ieee.double r (a + b) := by
  obtain ⟨r, h1, h2, -⟩ := add_rep good_double hx hy ha hb hab
  exact ⟨r, h1, h2⟩

/-- z times the conjugate of u, for whole parts: (a + b i)(c - d i) -/
theorem run_times_conj {P : Program} (t : TypeId) {x y u v : Nat} {a b c d : Int} (hx : Rep Ieee.double x a) (hy : Rep Ieee.double y b) (hu : Rep Ieee.double u c) (hv : Rep Ieee.double v d)
    (ha : a.natAbs ≤ 2000000000) (hb : b.natAbs ≤ 2000000000) (hc : c.natAbs ≤ 2047) (hd : d.natAbs ≤ 2047) :
    ∃ p q, (∀ w, (binOp .mul t (.complex .f64 x y) (.complex .f64 u (Op.negFloat .f64 v))).run P w = .ok (.complex .f64 p q) w) ∧ Rep Ieee.double p (a * c + b * d) ∧ Rep Ieee.double q (b * c - a * d) := by
  have hm : ∀ a c : Int, a.natAbs ≤ 2000000000 → c.natAbs ≤ 2047 → (a * c).natAbs ≤ 4094000000000 := by
    intro a c h1 h2
    rw [Int.natAbs_mul]
    exact Nat.le_trans (Nat.mul_le_mul h1 h2) (by decide)
  have hv' : Rep Ieee.double (Op.negFloat .f64 v) (-d) := neg_rep (k := .f64) good_double hv (by show d.natAbs ≤ 2 ^ 53; omega)
  have b1 := hm a c ha hc
  have b2 := hm b (-d) hb (by omega)
  have b3 := hm a (-d) ha (by omega)
  have b4 := hm b c hb hc
  obtain ⟨r1, e1, q1⟩ := mulBits_rep hx hu (by omega) (by omega) (by omega)
  obtain ⟨r2, e2, q2⟩ := mulBits_rep hy hv' (by omega) (by omega) (by omega)
  obtain ⟨p, e3, q3⟩ := subBits_rep q1 q2 (by omega) (by omega) (by omega)
  obtain ⟨r3, e4, q4⟩ := mulBits_rep hx hv' (by omega) (by omega) (by omega)
  obtain ⟨r4, e5, q5⟩ := mulBits_rep hy hu (by omega) (by omega) (by omega)
  obtain ⟨q, e6, q6⟩ := addBits_rep q4 q5 (by omega) (by omega) (by omega)
  refine ⟨p, q, fun w => run_complex_mul w t x y u (Op.negFloat .f64 v) p q ?_, ?_, ?_⟩
  · unfold cMulBits
    rw [e1, e2, e4, e5]
    simp only [Option.bind_some]
    rw [e3, e6]
    rfl
  · rw [Int.mul_neg] at q3
    rw [show a * c + b * d = a * c - -(b * d) from by omega]
    exact q3
  · rw [Int.mul_neg] at q6
    rw [show b * c - a * d = -(a * d) + b * c from by omega]
    exact q6

set_option maxHeartbeats 1000000 in
set_option maxRecDepth 100000 in
theorem Compress1_core (k f : Nat) (ilen icap clen ccap : Nat) (Bi Bf Bc bi oi bc oc : Nat) (z1 z2 u1 u2 x y u v p q : Nat) (w : World)
    (hk : k < 100000) (hf : f < 100000)
    (h1 : w.cell? ⟨Bi, 0 + 2, none⟩ = some (.slice (some ⟨bi, oi, none⟩) ilen icap)) (h2 : w.cell? ⟨Bf, 0, none⟩ = some (.int .i64 f)) (h3 : w.cell? ⟨Bc, 0, none⟩ = some (.slice (some ⟨bc, oc, none⟩) clen ccap))
    (hil : (f : Int) + k < ilen) (hcl : (k : Int) < clen)
    (h4 : w.cell? ⟨bi, oi + (f + k), none⟩ = some (.complex .f32 z1 z2)) (h5 : w.cell? ⟨bc, oc + k, none⟩ = some (.complex .f32 u1 u2))
    (hconv1 : ∀ w, (convert 109 88 (.complex .f32 z1 z2)).run Tryd.prog w = .ok (.complex .f64 x y) w)
    (hconv2 : ∀ w, (convert 109 88 (.complex .f32 u1 u2)).run Tryd.prog w = .ok (.complex .f64 u v) w)
    (hmul : ∀ w, (binOp .mul 88 (.complex .f64 x y) (.complex .f64 u (Op.negFloat .f64 v))).run Tryd.prog w = .ok (.complex .f64 p q) w) :
    Calls Tryd.prog 89 #[.int .i64 k, .pointer (some ⟨Bi, 0, none⟩), .pointer (some ⟨Bf, 0, none⟩), .pointer (some ⟨Bc, 0, none⟩)] w fun e w' => e = .returned (.complex .f64 p q) ∧ ∃ m, w' = w.drewN m := by
  have e1 : IntKind.i64.wrap ((f : Int) + k) = (f : Int) + k := IntWalk.i64_in _ ⟨by omega, by omega⟩
  have e2 : ((f : Int) + k).toNat = f + k := by omega
  have e3 : (0 : Int) ≤ (f : Int) + k := by omega
  clear hk hf
  go_enter Tryd.func89, Tryd.ntmps89
  go_wp2_with fail
  go_quiet ((go_at_call 90; exact Calls.quiet_of_same ((conj_any _ _ _).mono fun e w' ⟨h1, h2⟩ => ⟨h1, h2.symm⟩)))
  go_wp2_with fail
  go_ret
  exact ⟨rfl, _, rfl⟩

/-- ONE PRODUCT OF THE COMPRESSION: the captured image, first, code -/
theorem Compress1_any (k f : Nat) (ilen icap clen ccap : Nat) (Bi Bf Bc bi oi bc oc : Nat) (z1 z2 u1 u2 : Nat) (a b c d : Int) (w : World)
    (hk : k < 100000) (hf : f < 100000)
    (h1 : w.cell? ⟨Bi, 0 + 2, none⟩ = some (.slice (some ⟨bi, oi, none⟩) ilen icap)) (h2 : w.cell? ⟨Bf, 0, none⟩ = some (.int .i64 f)) (h3 : w.cell? ⟨Bc, 0, none⟩ = some (.slice (some ⟨bc, oc, none⟩) clen ccap))
    (hil : (f : Int) + k < ilen) (hcl : (k : Int) < clen)
    (h4 : w.cell? ⟨bi, oi + (f + k), none⟩ = some (.complex .f32 z1 z2)) (h5 : w.cell? ⟨bc, oc + k, none⟩ = some (.complex .f32 u1 u2))
    (r1 : Rep Ieee.single z1 a) (r2 : Rep Ieee.single z2 b) (r3 : Rep Ieee.single u1 c) (r4 : Rep Ieee.single u2 d)
    (ha : a.natAbs ≤ 2047) (hb : b.natAbs ≤ 2047) (hcc : c.natAbs ≤ 3) (hd : d.natAbs ≤ 3) :
    ∃ p q, (∀ n, Calls Tryd.prog 89 #[.int .i64 k, .pointer (some ⟨Bi, 0, none⟩), .pointer (some ⟨Bf, 0, none⟩), .pointer (some ⟨Bc, 0, none⟩)] (w.drewN n) fun e w' => e = .returned (.complex .f64 p q) ∧ ∃ m, w' = w.drewN m) ∧
      Rep Ieee.double p (a * c + b * d) ∧ Rep Ieee.double q (b * c - a * d) := by
  obtain ⟨x, y, hconv1, q1, q2⟩ := run_conv_whole (P := Tryd.prog) 109 88 Tryd.und109 Tryd.und88 r1 r2 (by omega) (by omega)
  obtain ⟨u, v, hconv2, q3, q4⟩ := run_conv_whole (P := Tryd.prog) 109 88 Tryd.und109 Tryd.und88 r3 r4 (by omega) (by omega)
  obtain ⟨p, q, hmul, q5, q6⟩ := run_times_conj (P := Tryd.prog) 88 q1 q2 q3 q4 (by omega) (by omega) (by omega) (by omega)
  refine ⟨p, q, fun n => ?_, q5, q6⟩
  refine (Compress1_core k f ilen icap clen ccap Bi Bf Bc bi oi bc oc z1 z2 u1 u2 x y u v p q (w.drewN n) hk hf h1 h2 h3 hil hcl h4 h5 hconv1 hconv2 hmul).mono ?_
  rintro e w' ⟨rfl, m, rfl⟩
  exact ⟨rfl, _, World.drewN_drewN _ _ _⟩
end Go.Proofs.YtcjdbhcpcigmdaaDoor
