import Derived.Test.YtmmmaanflmgblaaDoorSa
namespace Go.Proofs.YtmmmaanflmgblaaDoor
open Go.RowKit Go.Proofs.YtmmmaanflmgblaaDoor.Flt

theorem enters_PairSum1 : ∀ args w, (callFunc 103 args).run Tryd.prog w = .ok (.enter 103 args) w := enters_of Tryd.func103 (by kernel_rfl) rfl

theorem PairSum1_core (i S : Nat) (ilen icap : Nat) (Bi bi oi : Nat) (z1 z2 u1 u2 x y u v p q : Nat) (w : World)
    (hk : i < 100000) (hf : S < 100000)
    (h1 : w.cell? ⟨Bi, 0 + 2, none⟩ = some (.slice (some ⟨bi, oi, none⟩) ilen icap)) (h2 : w.cell? ⟨Bi, 0 + 1, none⟩ = some (.int .i64 S))
    (hil : (i : Int) + S < ilen) (hcl : (i : Int) < ilen)
    (h4 : w.cell? ⟨bi, oi + (i + S), none⟩ = some (.complex .f32 z1 z2)) (h5 : w.cell? ⟨bi, oi + i, none⟩ = some (.complex .f32 u1 u2))
    (hconv1 : ∀ w, (convert 79 94 (.complex .f32 z1 z2)).run Tryd.prog w = .ok (.complex .f64 x y) w)
    (hconv2 : ∀ w, (convert 79 94 (.complex .f32 u1 u2)).run Tryd.prog w = .ok (.complex .f64 u v) w)
    (hmul : ∀ w, (binOp .mul 94 (.complex .f64 x y) (.complex .f64 u (Op.negFloat .f64 v))).run Tryd.prog w = .ok (.complex .f64 p q) w) :
    Calls Tryd.prog 103 #[.int .i64 i, .pointer (some ⟨Bi, 0, none⟩)] w fun e w' => e = .returned (.complex .f64 p q) ∧ ∃ m, w' = w.drewN m := by
  have e1 : IntKind.i64.wrap ((i : Int) + S) = (i : Int) + S := IntWalk.i64_in _ ⟨by omega, by omega⟩
  have e2 : ((i : Int) + S).toNat = i + S := by omega
  have e3 : (0 : Int) ≤ (i : Int) + S := by omega
  clear hk hf
  go_enter Tryd.func103, Tryd.ntmps103
  go_wp2_with fail
  go_quiet ((go_at_call 77; exact Calls.quiet_of_same ((conj_any _ _ _).mono fun e w' ⟨h1, h2⟩ => ⟨h1, h2.symm⟩)))
  go_wp2_with fail
  go_ret
  exact ⟨rfl, _, rfl⟩

/-- the product of a sample with the conjugate of the one a line ahead of it -/
def pRe (zs : List (Nat × Nat)) (S i : Nat) : Int := re .f32 zs (i + S) * re .f32 zs i + im .f32 zs (i + S) * im .f32 zs i
def pIm (zs : List (Nat × Nat)) (S i : Nat) : Int := im .f32 zs (i + S) * re .f32 zs i - re .f32 zs (i + S) * im .f32 zs i
def pairRe (zs : List (Nat × Nat)) (S n : Nat) : Int := sumTo (pRe zs S) n
def pairIm (zs : List (Nat × Nat)) (S n : Nat) : Int := sumTo (pIm zs S) n

theorem pair_b {zs : List (Nat × Nat)} (RI : Right .f32 2047 zs) (S i : Nat) (h : i + S < zs.length) : (pRe zs S i).natAbs ≤ 8380418 ∧ (pIm zs S i).natAbs ≤ 8380418 := by
  obtain ⟨-, -, a3, a4⟩ := RI (i + S) h
  obtain ⟨-, -, b3, b4⟩ := RI i (by omega)
  have hm : ∀ a c : Int, a.natAbs ≤ 2047 → c.natAbs ≤ 2047 → (a * c).natAbs ≤ 4190209 := by
    intro a c h1 h2
    rw [Int.natAbs_mul]
    exact Nat.le_trans (Nat.mul_le_mul h1 h2) (by decide)
  have t1 := hm _ _ a3 b3
  have t2 := hm _ _ a4 b4
  have t3 := hm _ _ a4 b3
  have t4 := hm _ _ a3 b4
  unfold pRe pIm
  constructor <;> omega

theorem pairSum_b {zs : List (Nat × Nat)} (RI : Right .f32 2047 zs) (S n : Nat) (hz : zs.length ≤ 4096) (h : n + S ≤ zs.length) : ∀ k, k ≤ n → (pairRe zs S k).natAbs ≤ 34326192128 ∧ (pairIm zs S k).natAbs ≤ 34326192128 := by
  intro k hk
  have hs1 := sumTo_bound (pRe zs S) 8380418 n (fun k hk => (pair_b RI S k (by omega)).1) k hk
  have hs2 := sumTo_bound (pIm zs S) 8380418 n (fun k hk => (pair_b RI S k (by omega)).2) k hk
  have hm := Nat.mul_le_mul_right 8380418 (show k ≤ 4096 by omega)
  exact ⟨Nat.le_trans hs1 hm, Nat.le_trans hs2 hm⟩

/-- THE SUM OF PAIRS, in a world -/
theorem sumOver_pair (zs : List (Nat × Nat)) (S n : Nat) (iad : Option Addr) (icap Bi : Nat) (W : World)
    (c1 : W.cell? ⟨Bi, 0 + 2, none⟩ = some (.slice iad zs.length icap)) (c2 : W.cell? ⟨Bi, 0 + 1, none⟩ = some (.int .i64 S))
    (hic : Sl W (.slice iad zs.length icap) (cvals .f32 zs)) (RI : Right .f32 2047 zs) (hS : S ≤ 64) (hn : n + S ≤ zs.length) (hz : zs.length ≤ 4096) (hn1 : 1 ≤ n) :
    Calls Tryd.prog 75 #[.int .i64 n, .func (.func 103) #[] #[.pointer (some ⟨Bi, 0, none⟩)]] W
      fun e w' => e = .returned (.complex .f64 (enc Ieee.double (pairRe zs S n)) (enc Ieee.double (pairIm zs S n))) ∧ ∃ q, w' = W.drewN q := by
  obtain ⟨-, bi, oi, rfl, hbi, hci⟩ := hic.at (by omega)
  have key : ∀ k : Nat, ∃ pq : Nat × Nat, k < n →
      ((∀ q, Calls Tryd.prog 103 #[.int .i64 k, .pointer (some ⟨Bi, 0, none⟩)] (W.drewN q) fun e w' => e = .returned (.complex .f64 pq.1 pq.2) ∧ ∃ m, w' = W.drewN m) ∧
      Rep Ieee.double pq.1 (pRe zs S k) ∧ Rep Ieee.double pq.2 (pIm zs S k)) := by
    intro k
    by_cases hk : k < n
    · have hfk : k + S < zs.length := by omega
      obtain ⟨a1, a2, a3, a4⟩ := RI (k + S) hfk
      obtain ⟨b1, b2, b3, b4⟩ := RI k (by omega)
      have d1 := hci _ _ (cvals_get (k := .f32) hfk)
      have d2 := hci _ _ (cvals_get (k := .f32) (show k < zs.length by omega))
      obtain ⟨x, y, hconv1, q1, q2⟩ := run_conv_whole (P := Tryd.prog) 79 94 Tryd.und109 Tryd.und88 a1 a2 (by omega) (by omega)
      obtain ⟨u, v, hconv2, q3, q4⟩ := run_conv_whole (P := Tryd.prog) 79 94 Tryd.und109 Tryd.und88 b1 b2 (by omega) (by omega)
      obtain ⟨p, q, hmul, q5, q6⟩ := run_times_conj (P := Tryd.prog) 94 q1 q2 q3 q4 (by omega) (by omega) b3 b4
      refine ⟨(p, q), fun _ => ⟨fun m => ?_, q5, q6⟩⟩
      refine (PairSum1_core k S zs.length icap Bi bi oi _ _ _ _ x y u v p q (W.drewN m) (by omega) (by omega) c1 c2 (by omega) (by omega) d1 d2 hconv1 hconv2 hmul).mono ?_
      rintro e w' ⟨rfl, m', rfl⟩
      exact ⟨rfl, _, World.drewN_drewN _ _ _⟩
    · exact ⟨(0, 0), fun h => absurd h hk⟩
  obtain ⟨F, hF⟩ := Classical.axiomOfChoice key
  have hs := pairSum_b RI S n hz hn
  exact sumOver_any 103 enters_PairSum1 _ n (by omega) (fun k => (F k).1) (fun k => (F k).2) (pRe zs S) (pIm zs S) W (fun k hk => (hF k hk).2)
    (fun k hk => ⟨Nat.le_trans (pair_b RI S k (by omega)).1 (by decide), Nat.le_trans (pair_b RI S k (by omega)).2 (by decide)⟩)
    (fun k hk => ⟨Nat.le_trans (hs k hk).1 (by decide), Nat.le_trans (hs k hk).2 (by decide)⟩) (fun k hk q => (hF k hk).1 q)

/-- the error of a sum of pairs -/
def pairErr (l s : Int) (zs : List (Nat × Nat)) : Int := if (dataErr .f32 2047 l s zs).2 ≠ 0 then (dataErr .f32 2047 l s zs).2 else if l = 1 then 10 else 0

set_option maxRecDepth 100000 in
theorem PairSum_bad (l s : Int) (v : Value) (zs : List (Nat × Nat)) (w : World) (hl : I64 l) (hs : I64 s) (hv : Sl w v (cvals .f32 zs)) (h : pairErr l s zs ≠ 0) :
    Calls Tryd.prog 85 #[.agg #[.int .i64 l, .int .i64 s, v]] w fun e w' => e = .returned (.tuple #[.complex .f64 0 0, .int .i64 (pairErr l s zs)]) ∧ Below w.heap.size w w' := by
  have C0 := Lib.hid (fun W (hb : Below w.heap.size w W) => CheckImage_any l s v zs W hl hs (hv.below hb (Nat.le_refl _)))
  obtain ⟨ad, cap, rfl, -, -⟩ := hv
  generalize (cvals .f32 zs).length = n at *
  unfold pairErr at h ⊢
  generalize (dataErr .f32 2047 l s zs).1 = E1 at *
  generalize (dataErr .f32 2047 l s zs).2 = E at *
  clear hl hs
  by_cases hE : E = 0
  · rw [if_neg (fun c => c hE)] at h ⊢
    by_cases h1 : l = 1
    · rw [if_pos h1]
      have h2 : ((l : Int) == 1) = true := by rw [beq_iff_eq]; exact h1
      subst hE
      clear h h1
      go_enter Tryd.func85, Tryd.ntmps85
      go_wp2_with fail
      refine (C0.out _ ((Below.refl _ _).alloc (Nat.le_refl _) _)).mono ?_
      rintro e w1 ⟨rfl, hb⟩
      have hN : w1.heap[w.heap.size]? = some (.cells #[.int .i64 l, .int .i64 s, .slice ad n cap] 32 (0, 0)) := (hb.block _ (by simp)).trans (heap_alloc_new _ _)
      have HB := Lib.hid (((Below.refl w.heap.size w).alloc (Nat.le_refl _) (.cells #[.int .i64 l, .int .i64 s, .slice ad n cap] 32)).trans (hb.mono (by simp)))
      obtain ⟨c0, c1, c2, -, -, -, l1⟩ := three_cells hN
      clear hb hN
      go_wp2_with fail
      go_ret2
      exact ⟨rfl, HB.out⟩
    · rw [if_neg h1] at h; exact absurd rfl h
  · rw [if_pos hE]
    have h2 : (E != 0) = true := by rw [bne_iff_ne]; exact hE
    clear h hE
    go_enter Tryd.func85, Tryd.ntmps85
    go_wp2_with fail
    refine (C0.out _ ((Below.refl _ _).alloc (Nat.le_refl _) _)).mono ?_
    rintro e w1 ⟨rfl, hb⟩
    have HB := Lib.hid (((Below.refl w.heap.size w).alloc (Nat.le_refl _) (.cells #[.int .i64 l, .int .i64 s, .slice ad n cap] 32)).trans (hb.mono (by simp)))
    clear hb
    go_wp2_with fail
    go_ret2
    exact ⟨rfl, HB.out⟩

theorem pairErr_ok {l s : Int} {zs : List (Nat × Nat)} (h : pairErr l s zs = 0) (hz : ∀ z ∈ zs, z.1 < 2 ^ 32 ∧ z.2 < 2 ^ 32) :
    ∃ L S : Nat, l = L ∧ s = S ∧ 2 ≤ L ∧ L ≤ 64 ∧ 1 ≤ S ∧ S ≤ 64 ∧ zs.length = L * S ∧ Right .f32 2047 zs ∧ dataErr .f32 2047 l s zs = ((dataErr .f32 2047 l s zs).1, 0) := by
  unfold pairErr at h
  by_cases hE : (dataErr .f32 2047 l s zs).2 = 0
  · rw [if_neg (fun c => c hE)] at h
    by_cases h1 : l = 1
    · rw [if_pos h1] at h; cases h
    · obtain ⟨a1, a2, a3, a4, a5, a6⟩ := dataErr_ok hE
      refine ⟨l.toNat, s.toNat, by omega, by omega, by omega, by omega, by omega, by omega, ?_, right_of_ok (by decide) hz a6, by rw [← hE]⟩
      have e1 : ((l.toNat : Nat) : Int) = l := by omega
      have e2 : ((s.toNat : Nat) : Int) = s := by omega
      have : ((l.toNat * s.toNat : Nat) : Int) = zs.length := by rw [Int.natCast_mul, e1, e2, a5]
      omega
  · rw [if_pos hE] at h; exact absurd h hE

set_option maxRecDepth 100000 in
theorem PairSum_ok (L S : Nat) (v : Value) (zs : List (Nat × Nat)) (w : World) (hv : Sl w v (cvals .f32 zs)) (hL1 : 2 ≤ L) (hL : L ≤ 64) (hS1 : 1 ≤ S) (hS : S ≤ 64) (hlen : zs.length = L * S) (RI : Right .f32 2047 zs) (hE : (dataErr .f32 2047 L S zs).2 = 0) :
    Calls Tryd.prog 85 #[.agg #[.int .i64 L, .int .i64 S, v]] w fun e w' => e = .returned (.tuple #[.complex .f64 (enc Ieee.double (pairRe zs S ((L - 1) * S))) (enc Ieee.double (pairIm zs S ((L - 1) * S))), .int .i64 0]) ∧ Below w.heap.size w w' := by
  have C0 := Lib.hid (fun W (hb : Below w.heap.size w W) => CheckImage_any L S v zs W ⟨by omega, by omega⟩ ⟨by omega, by omega⟩ (hv.below hb (Nat.le_refl _)))
  have HV := Lib.hid hv
  obtain ⟨ad, cap, rfl, hll, -⟩ := hv
  have ex : (cvals .f32 zs).length = zs.length := by simp [cvals]
  rw [ex] at hll HV C0 ⊢
  rw [hE] at C0
  generalize (dataErr .f32 2047 L S zs).1 = E1 at *
  have hz : zs.length ≤ 4096 := by rw [hlen]; exact Nat.le_trans (Nat.mul_le_mul hL hS) (by decide)
  have hp : (L - 1) * S + S = zs.length := by
    rw [hlen]
    obtain ⟨m, rfl⟩ : ∃ m, L = m + 1 := ⟨L - 1, by omega⟩
    rw [Nat.add_sub_cancel, Nat.succ_mul]
  have hp1 : 1 ≤ (L - 1) * S := Nat.mul_pos (by omega) (by omega)
  obtain ⟨P, hP⟩ : ∃ P, P = (L - 1) * S := ⟨_, rfl⟩
  have hPi : ((L : Int) - 1) * S = P := by rw [hP, Int.natCast_mul, Int.natCast_sub (by omega)]; rfl
  rw [← hP] at hp hp1 ⊢
  have HR := Lib.hid (And.intro RI (And.intro hz hp))
  have h2 : ((L : Int) == 1) = false := by rw [beq_eq_false_iff_ne]; omega
  obtain ⟨n, hn⟩ : ∃ n, n = zs.length := ⟨_, rfl⟩
  have HN := Lib.hid hn
  rw [← hn] at hll HV C0 hz hp ⊢
  clear hlen RI hE ex hn hP
  go_enter Tryd.func85, Tryd.ntmps85
  go_wp2_with fail
  refine (C0.out _ ((Below.refl _ _).alloc (Nat.le_refl _) _)).mono ?_
  rintro e w1 ⟨rfl, hb⟩
  have hN : w1.heap[w.heap.size]? = some (.cells #[.int .i64 L, .int .i64 S, .slice ad n cap] 32 (0, 0)) := (hb.block _ (by simp)).trans (heap_alloc_new _ _)
  have HB := Lib.hid (((Below.refl w.heap.size w).alloc (Nat.le_refl _) (.cells #[.int .i64 L, .int .i64 S, .slice ad n cap] 32)).trans (hb.mono (by simp)))
  obtain ⟨c0, c1, c2, -, -, -, l1⟩ := three_cells hN
  clear hb hN
  have CS := Lib.hid (sumOver_pair zs S P ad cap w.heap.size w1 (by rw [← HN.out]; exact c2) c1 (by rw [← HN.out]; exact HV.out.below HB.out (Nat.le_refl _)) HR.out.1 hS (by have := HR.out.2.2; omega) HR.out.2.1 hp1)
  go_wp2_with fail
  refine CS.out.mono ?_
  rintro e w2 ⟨rfl, q, rfl⟩
  go_wp2_with fail
  go_ret2
  exact ⟨rfl, HB.out.trans (below_drewN' _ _ _)⟩
end Go.Proofs.YtmmmaanflmgblaaDoor

namespace Go.Proofs.YtmmmaanflmgblaaDoor
open Go.RowKit Go.Proofs.YtmmmaanflmgblaaDoor.Flt

theorem tdiv_neg_case (n k : Int) (hk : 0 < k) (h : n.tmod k < 0) : n.tdiv k - 1 = n / k := by
  have e := Int.emod_nonneg n (Int.ne_of_gt hk)
  have e2 := Int.emod_lt_of_pos n hk
  have h1 := Int.tmod_eq_emod (a := n) (b := k)
  have h2 := Int.tdiv_eq_ediv (a := n) (b := k)
  have h3 : k.sign = 1 := Int.sign_eq_one_of_pos hk
  by_cases hc : 0 ≤ n ∨ k ∣ n
  · rw [if_pos hc] at h1 h2; omega
  · rw [if_neg hc] at h1 h2; omega
theorem tdiv_pos_case (n k : Int) (hk : 0 < k) (h : ¬ n.tmod k < 0) : n.tdiv k = n / k := by
  have e := Int.emod_nonneg n (Int.ne_of_gt hk)
  have e2 := Int.emod_lt_of_pos n hk
  have h1 := Int.tmod_eq_emod (a := n) (b := k)
  have h2 := Int.tdiv_eq_ediv (a := n) (b := k)
  by_cases hc : 0 ≤ n ∨ k ∣ n
  · rw [if_pos hc] at h1 h2; omega
  · rw [if_neg hc] at h1 h2; omega

theorem isBeyond_any (n : Int) (w : World) :
    Calls Tryd.prog 88 #[.int .i64 n, .int .i64 100000000] w fun e w' => e = .returned (.bool (decide (n < -100000000 ∨ 100000000 < n))) ∧ w = w' := by
  have hw : (n < -100000000 ∧ Hid (decide (n < -100000000 ∨ 100000000 < n) = true)) ∨ (¬ n < -100000000 ∧ 100000000 < n ∧ Hid (decide (n < -100000000 ∨ 100000000 < n) = true)) ∨ (¬ n < -100000000 ∧ ¬ 100000000 < n ∧ Hid (decide (n < -100000000 ∨ 100000000 < n) = false)) := by
    unfold Hid
    by_cases h1 : n < -100000000
    · left; exact ⟨h1, decide_eq_true (.inl h1)⟩
    · right
      by_cases h2 : 100000000 < n
      · left; exact ⟨h1, h2, decide_eq_true (.inr h2)⟩
      · right; exact ⟨h1, h2, decide_eq_false (by omega)⟩
  generalize decide (n < -100000000 ∨ 100000000 < n) = R at *
  rcases hw with ⟨h1, HR⟩ | ⟨h1, h2, HR⟩ | ⟨h1, h2, HR⟩
  all_goals
    go_enter Tryd.func88, Tryd.ntmps88
    go_wp2_with fail
    go_ret
    exact ⟨by first | (rw [HR.out] <;> rfl) | (rw [HR.out]; simp; done) | (rw [HR.out]; simp; omega), rfl⟩

/-- the number nearest to the second one -/
def unfI (p n : Int) : Int := n + wrapI (p - n)

/-- the phase of a sum -/
def phS (a b : Int) : Int × Int := if a = 0 ∧ b = 0 then (0, 31) else (wrapI (phC a b), 0)
theorem phaPart_sum (a b : Int) (ha : a.natAbs ≤ 100000000000) (hb : b.natAbs ≤ 100000000000) : phaPart (some a) (some b) = phS a b := by
  have h0 : smpErr (some a) (some b) 100000000000 = 0 := by
    unfold smpErr
    dsimp only
    rw [if_neg (by omega)]
  unfold phaPart
  rw [if_pos h0]
  rfl
theorem PhaseSum_any (a b : Int) (ha : a.natAbs ≤ 100000000000) (hb : b.natAbs ≤ 100000000000) (w : World) :
    Calls Tryd.prog 56 #[.complex .f64 (enc Ieee.double a) (enc Ieee.double b)] w fun e w' => e = .returned (.tuple #[.int .i64 (phS a b).1, .int .i64 (phS a b).2]) ∧ Below w.heap.size w w' := by
  have := PhaseOf_any (enc Ieee.double a) (enc Ieee.double b) (rep_lt (Rep.enc _ _)) (rep_lt (Rep.enc _ _)) w
  rw [rep_wv good_double (Rep.enc _ _) (by show a.natAbs ≤ 2 ^ 53; omega), rep_wv good_double (Rep.enc _ _) (by show b.natAbs ≤ 2 ^ 53; omega), phaPart_sum a b ha hb] at this
  exact this

theorem Doppler_bad (l s : Int) (v : Value) (zs : List (Nat × Nat)) (w : World) (hl : I64 l) (hs : I64 s) (hv : Sl w v (cvals .f32 zs)) (h : pairErr l s zs ≠ 0) :
    Calls Tryd.prog 39 #[.agg #[.int .i64 l, .int .i64 s, v]] w fun e w' => e = .returned (.tuple #[.int .i64 0, .int .i64 (pairErr l s zs)]) ∧ Below w.heap.size w w' := by
  have C0 := Lib.hid (fun W (hb : Below w.heap.size w W) => PairSum_bad l s v zs W hl hs (hv.below hb (Nat.le_refl _)) h)
  have h2 : (pairErr l s zs != 0) = true := by rw [bne_iff_ne]; exact h
  obtain ⟨ad, cap, rfl, -, -⟩ := hv
  generalize (cvals .f32 zs).length = n at *
  generalize pairErr l s zs = E at *
  clear h hl hs
  go_enter Tryd.func39, Tryd.ntmps39
  go_wp2_with fail
  refine (C0.out _ (by first | exact Below.refl _ _ | exact (Below.refl _ _).alloc (Nat.le_refl _) _)).mono ?_
  rintro e w1 ⟨rfl, hb⟩
  have HB := Lib.hid hb
  clear hb
  go_wp2_with fail
  go_ret2
  exact ⟨rfl, by first | exact HB.out | exact ((Below.refl w.heap.size w).alloc (Nat.le_refl _) _).trans (HB.out.mono (by simp))⟩

theorem Doppler_ok (L S : Nat) (v : Value) (zs : List (Nat × Nat)) (w : World) (hv : Sl w v (cvals .f32 zs)) (hL1 : 2 ≤ L) (hL : L ≤ 64) (hS1 : 1 ≤ S) (hS : S ≤ 64) (hlen : zs.length = L * S) (RI : Right .f32 2047 zs) (hE : (dataErr .f32 2047 L S zs).2 = 0)
    (ha : (pairRe zs S ((L - 1) * S)).natAbs ≤ 100000000000) (hb : (pairIm zs S ((L - 1) * S)).natAbs ≤ 100000000000) :
    Calls Tryd.prog 39 #[.agg #[.int .i64 L, .int .i64 S, v]] w fun e w' => e = .returned (.tuple #[.int .i64 (phS (pairRe zs S ((L - 1) * S)) (pairIm zs S ((L - 1) * S))).1, .int .i64 (phS (pairRe zs S ((L - 1) * S)) (pairIm zs S ((L - 1) * S))).2]) ∧ Below w.heap.size w w' := by
  have C0 := Lib.hid (fun W (hb : Below w.heap.size w W) => PairSum_ok L S v zs W (hv.below hb (Nat.le_refl _)) hL1 hL hS1 hS hlen RI hE)
  have C1 := Lib.hid (fun w => PhaseSum_any _ _ ha hb w)
  obtain ⟨ad, cap, rfl, -, -⟩ := hv
  generalize (cvals .f32 zs).length = n at *
  generalize (phS (pairRe zs S ((L - 1) * S)) (pairIm zs S ((L - 1) * S))).1 = N at *
  generalize (phS (pairRe zs S ((L - 1) * S)) (pairIm zs S ((L - 1) * S))).2 = E at *
  generalize enc Ieee.double (pairRe zs S ((L - 1) * S)) = X at *
  generalize enc Ieee.double (pairIm zs S ((L - 1) * S)) = Y at *
  clear hlen RI hE ha hb hL1 hL hS1 hS
  go_enter Tryd.func39, Tryd.ntmps39
  go_wp2_with fail
  refine (C0.out _ (by first | exact Below.refl _ _ | exact (Below.refl _ _).alloc (Nat.le_refl _) _)).mono ?_
  rintro e w1 ⟨rfl, hb⟩
  have HB : Hid (Below w.heap.size w w1) := by first | exact hb | exact ((Below.refl w.heap.size w).alloc (Nat.le_refl _) _).trans (hb.mono (by simp))
  clear hb
  go_wp2_with fail
  refine (C1.out _).mono ?_
  rintro e w2 ⟨rfl, hb⟩
  have HB2 := Lib.hid (HB.out.trans (hb.mono HB.out.size))
  clear hb
  go_wp2_with fail
  go_ret2
  exact ⟨rfl, HB2.out⟩

theorem refParts_any (x y : Nat) (a b : Int) (ra : Rep Ieee.single x a) (rb : Rep Ieee.single y b) (la : a.natAbs ≤ 2 ^ 24) (lb : b.natAbs ≤ 2 ^ 24) (w : World) :
    Calls Tryd.prog 64 #[.complex .f32 x y] w fun e w' => e = .returned (.tuple #[.int .i64 a, .int .i64 b]) ∧ w = w' := by
  have c1 := fun w => run_convert_float_int (P := Tryd.prog) w 103 3 .f32 .i64 x a (by kernel_rfl) (by kernel_rfl) (by
    unfold floatToIntVal
    have : (FloatKind.f32.decode x).toInt .zero = some a := toInt_rep good_single ra la .zero
    rw [this]
    dsimp only
    rw [if_pos ⟨by show (-9223372036854775808 : Int) ≤ a; omega, by show a ≤ (9223372036854775807 : Int); omega⟩])
  have c2 := fun w => run_convert_float_int (P := Tryd.prog) w 103 3 .f32 .i64 y b (by kernel_rfl) (by kernel_rfl) (by
    unfold floatToIntVal
    have : (FloatKind.f32.decode y).toInt .zero = some b := toInt_rep good_single rb lb .zero
    rw [this]
    dsimp only
    rw [if_pos ⟨by show (-9223372036854775808 : Int) ≤ b; omega, by show b ≤ (9223372036854775807 : Int); omega⟩])
  clear ra rb la lb
  go_enter Tryd.func64, Tryd.ntmps64
  go_wp2_with fail
  go_ret2
  exact ⟨rfl, rfl⟩

theorem mul_bb {a c : Int} (h1 : a.natAbs ≤ 2000000000) (h2 : c.natAbs ≤ 2047) : -4094000000000 ≤ a * c ∧ a * c ≤ 4094000000000 := by
  have : (a * c).natAbs ≤ 4094000000000 := by rw [Int.natAbs_mul]; exact Nat.le_trans (Nat.mul_le_mul h1 h2) (by decide)
  omega

theorem Times_any (x y u v : Int) (hx : x.natAbs ≤ 2000000000) (hy : y.natAbs ≤ 2000000000) (hu : u.natAbs ≤ 2047) (hv : v.natAbs ≤ 2047) (w : World) :
    Calls Tryd.prog 79 #[.int .i64 x, .int .i64 y, .int .i64 u, .int .i64 v] w fun e w' => e = .returned (.tuple #[.int .i64 (x * u + y * v), .int .i64 (y * u - x * v)]) ∧ w = w' := by
  obtain ⟨a1, a2⟩ := mul_bb hx hu
  obtain ⟨a3, a4⟩ := mul_bb hy hv
  obtain ⟨a5, a6⟩ := mul_bb hy hu
  obtain ⟨a7, a8⟩ := mul_bb hx hv
  clear hx hy hu hv
  go_enter Tryd.func79, Tryd.ntmps79
  go_wp2_with fail
  go_ret2
  exact ⟨rfl, rfl⟩
end Go.Proofs.YtmmmaanflmgblaaDoor

namespace Go.Proofs.YtmmmaanflmgblaaDoor
open Go.RowKit Go.Proofs.YtmmmaanflmgblaaDoor.Flt

end Go.Proofs.YtmmmaanflmgblaaDoor
