import Derived.Test.YtadajelonekpmaaCa
import Derived.Test.YtadajelonekpmaaGa
namespace Go.Proofs.Ytadajelonekpmaa
open Go.RowKit Go.Proofs.Ytadajelonekpmaa.Flt

/-- the products of what is focused, and the sums of the first n of them -/
def fpRe (zs us : List (Nat × Nat)) (S f k : Nat) : Int := re .f64 zs (f + k * S) * re .f32 us k + im .f64 zs (f + k * S) * im .f32 us k
def fpIm (zs us : List (Nat × Nat)) (S f k : Nat) : Int := im .f64 zs (f + k * S) * re .f32 us k - re .f64 zs (f + k * S) * im .f32 us k
def fRe (zs us : List (Nat × Nat)) (S f n : Nat) : Int := sumTo (fpRe zs us S f) n
def fIm (zs us : List (Nat × Nat)) (S f n : Nat) : Int := sumTo (fpIm zs us S f) n

theorem fp_b {zs us : List (Nat × Nat)} (RI : Right .f64 1000000000 zs) (RC : Right .f32 3 us) (S f k : Nat) (h : f + k * S < zs.length) (hk : k < us.length) : (fpRe zs us S f k).natAbs ≤ 6000000000 ∧ (fpIm zs us S f k).natAbs ≤ 6000000000 := by
  obtain ⟨-, -, a3, a4⟩ := RI (f + k * S) h
  obtain ⟨-, -, b3, b4⟩ := RC k hk
  have hm : ∀ a c : Int, a.natAbs ≤ 1000000000 → c.natAbs ≤ 3 → (a * c).natAbs ≤ 3000000000 := by
    intro a c h1 h2
    rw [Int.natAbs_mul]
    exact Nat.le_trans (Nat.mul_le_mul h1 h2) (by decide)
  have t1 := hm _ _ a3 b3
  have t2 := hm _ _ a4 b4
  have t3 := hm _ _ a4 b3
  have t4 := hm _ _ a3 b4
  unfold fpRe fpIm
  constructor <;> omega
theorem f_b {zs us : List (Nat × Nat)} (RI : Right .f64 1000000000 zs) (RC : Right .f32 3 us) (S f k : Nat) (h : ∀ k, k < us.length → f + k * S < zs.length) (hm : us.length ≤ 32) (hk : k ≤ us.length) : (fRe zs us S f k).natAbs ≤ 192000000000 ∧ (fIm zs us S f k).natAbs ≤ 192000000000 := by
  have hs1 := sumTo_bound (fpRe zs us S f) 6000000000 us.length (fun k hk => (fp_b RI RC S f k (h k hk) hk).1) k hk
  have hs2 := sumTo_bound (fpIm zs us S f) 6000000000 us.length (fun k hk => (fp_b RI RC S f k (h k hk) hk).2) k hk
  have hm := Nat.mul_le_mul_right 6000000000 (show k ≤ 32 by omega)
  exact ⟨Nat.le_trans hs1 hm, Nat.le_trans hs2 hm⟩

/-- the focused values, and which of them is too large -/
def focAt (zs us : List (Nat × Nat)) (S i : Nat) : Nat × Nat := (enc Ieee.double (fRe zs us S i us.length), enc Ieee.double (fIm zs us S i us.length))
def focBig (zs us : List (Nat × Nat)) (S i : Nat) : Bool := decide ((1000000000 : Int) < (fRe zs us S i us.length).natAbs ∨ (1000000000 : Int) < (fIm zs us S i us.length).natAbs)
def focList (zs us : List (Nat × Nat)) (S n : Nat) : List (Nat × Nat) := (List.range n).map (focAt zs us S)
/-- is one of the first n too large? -/
def focBad (zs us : List (Nat × Nat)) (S : Nat) : Nat → Bool
  | 0 => false
  | n + 1 => focBad zs us S n || focBig zs us S n
theorem focBad_of {zs us : List (Nat × Nat)} {S k : Nat} (h : focBig zs us S k = true) : ∀ n, k < n → focBad zs us S n = true
  | 0, hk => absurd hk (Nat.not_lt_zero _)
  | n + 1, hk => by
    rw [focBad]
    by_cases e : k = n
    · rw [← e, h, Bool.or_true]
    · rw [focBad_of h n (by omega), Bool.true_or]

set_option maxHeartbeats 1000000 in
set_option maxRecDepth 100000 in
theorem Focus1_core (k f S ks t : Nat) (ilen icap clen ccap : Nat) (Bi Bf Bc bi oi bc oc : Nat) (z1 z2 u1 u2 u v p q : Nat) (w : World)
    (h0 : w.cell? ⟨Bi, 0 + 1, none⟩ = some (.int .i64 S)) (h1 : w.cell? ⟨Bi, 0 + 2, none⟩ = some (.slice (some ⟨bi, oi, none⟩) ilen icap)) (h2 : w.cell? ⟨Bf, 0, none⟩ = some (.int .i64 f)) (h3 : w.cell? ⟨Bc, 0, none⟩ = some (.slice (some ⟨bc, oc, none⟩) clen ccap))
    (m1 : IntKind.i64.wrap ((k : Int) * S) = (ks : Int)) (e1 : IntKind.i64.wrap ((f : Int) + ks) = (t : Int))
    (hil : (t : Int) < ilen) (hcl : (k : Int) < clen)
    (h4 : w.cell? ⟨bi, oi + t, none⟩ = some (.complex .f64 z1 z2)) (h5 : w.cell? ⟨bc, oc + k, none⟩ = some (.complex .f32 u1 u2))
    (hconv2 : ∀ w, (convert 54 43 (.complex .f32 u1 u2)).run Try.prog w = .ok (.complex .f64 u v) w)
    (hmul : ∀ w, (binOp .mul 43 (.complex .f64 z1 z2) (.complex .f64 u (Op.negFloat .f64 v))).run Try.prog w = .ok (.complex .f64 p q) w) :
    Calls Try.prog 34 #[.int .i64 k, .pointer (some ⟨Bi, 0, none⟩), .pointer (some ⟨Bf, 0, none⟩), .pointer (some ⟨Bc, 0, none⟩)] w fun e w' => e = .returned (.complex .f64 p q) ∧ ∃ m, w' = w.drewN m := by
  go_enter Try.func34, Try.ntmps34
  go_wp2_with fail
  go_quiet ((go_at_call 26; exact Calls.quiet_of_same ((conj_any _ _ _).mono fun e w' ⟨h1, h2⟩ => ⟨h1, h2.symm⟩)))
  go_wp2_with fail
  go_ret
  exact ⟨rfl, _, rfl⟩

/-- ONE PRODUCT OF THE FOCUSING: the captured field, sample, code -/
theorem Focus1_any (k f S : Nat) (ilen icap clen ccap : Nat) (Bi Bf Bc bi oi bc oc : Nat) (z1 z2 u1 u2 : Nat) (a b c d : Int) (w : World)
    (h0 : w.cell? ⟨Bi, 0 + 1, none⟩ = some (.int .i64 S)) (h1 : w.cell? ⟨Bi, 0 + 2, none⟩ = some (.slice (some ⟨bi, oi, none⟩) ilen icap)) (h2 : w.cell? ⟨Bf, 0, none⟩ = some (.int .i64 f)) (h3 : w.cell? ⟨Bc, 0, none⟩ = some (.slice (some ⟨bc, oc, none⟩) clen ccap))
    (hil : f + k * S < ilen) (hib : ilen ≤ 100000) (hcl : (k : Int) < clen)
    (h4 : w.cell? ⟨bi, oi + (f + k * S), none⟩ = some (.complex .f64 z1 z2)) (h5 : w.cell? ⟨bc, oc + k, none⟩ = some (.complex .f32 u1 u2))
    (r1 : Rep Ieee.double z1 a) (r2 : Rep Ieee.double z2 b) (r3 : Rep Ieee.single u1 c) (r4 : Rep Ieee.single u2 d)
    (ha : a.natAbs ≤ 1000000000) (hb : b.natAbs ≤ 1000000000) (hcc : c.natAbs ≤ 3) (hd : d.natAbs ≤ 3) :
    ∃ p q, (∀ n, Calls Try.prog 34 #[.int .i64 k, .pointer (some ⟨Bi, 0, none⟩), .pointer (some ⟨Bf, 0, none⟩), .pointer (some ⟨Bc, 0, none⟩)] (w.drewN n) fun e w' => e = .returned (.complex .f64 p q) ∧ ∃ m, w' = w.drewN m) ∧
      Rep Ieee.double p (a * c + b * d) ∧ Rep Ieee.double q (b * c - a * d) := by
  obtain ⟨u, v, hconv2, q3, q4⟩ := run_conv_whole (P := Try.prog) 54 43 Try.und109 Try.und88 r3 r4 (by omega) (by omega)
  obtain ⟨p, q, hmul, q5, q6⟩ := run_times_conj (P := Try.prog) 43 r1 r2 q3 q4 (by omega) (by omega) (by omega) (by omega)
  refine ⟨p, q, fun n => ?_, q5, q6⟩
  refine (Focus1_core k f S (k * S) (f + k * S) ilen icap clen ccap Bi Bf Bc bi oi bc oc z1 z2 u1 u2 u v p q (w.drewN n) h0 h1 h2 h3 ?_ ?_ (by omega) hcl h4 h5 hconv2 hmul).mono ?_
  · rw [← Int.natCast_mul]; exact IntWalk.i64_in _ ⟨by omega, by omega⟩
  · rw [← Int.natCast_add]; exact IntWalk.i64_in _ ⟨by omega, by omega⟩
  rintro e w' ⟨rfl, m, rfl⟩
  exact ⟨rfl, _, World.drewN_drewN _ _ _⟩

theorem enters_Focus1 : ∀ args w, (callFunc 34 args).run Try.prog w = .ok (.enter 34 args) w := enters_of Try.func34 (by kernel_rfl) rfl

/-- ONE SUM OF THE FOCUSING, in a world in which what lay in w lies as it lay -/
theorem sumOver_foc (zs us : List (Nat × Nat)) (S f : Nat) (iad cad : Option Addr) (icap ccap Bi Bf Bc : Nat) (w W : World)
    (hblk : ∀ b, b < w.heap.size → W.heap[b]? = w.heap[b]?)
    (c0 : W.cell? ⟨Bi, 0 + 1, none⟩ = some (.int .i64 S)) (c1 : W.cell? ⟨Bi, 0 + 2, none⟩ = some (.slice iad zs.length icap)) (c2 : W.cell? ⟨Bf, 0, none⟩ = some (.int .i64 f)) (c3 : W.cell? ⟨Bc, 0, none⟩ = some (.slice cad us.length ccap))
    (hic : cvals .f64 zs = [] ∨ ∃ b off, iad = some ⟨b, off, none⟩ ∧ b < w.heap.size ∧ ∀ j x, (cvals .f64 zs)[j]? = some x → w.cell? ⟨b, off + j, none⟩ = some x)
    (hcc : cvals .f32 us = [] ∨ ∃ b off, cad = some ⟨b, off, none⟩ ∧ b < w.heap.size ∧ ∀ j x, (cvals .f32 us)[j]? = some x → w.cell? ⟨b, off + j, none⟩ = some x)
    (RI : Right .f64 1000000000 zs) (RC : Right .f32 3 us) (hm1 : 1 ≤ us.length) (hm2 : us.length ≤ 32) (hf : ∀ k, k < us.length → f + k * S < zs.length) (hz : zs.length ≤ 4096) :
    Calls Try.prog 24 #[.int .i64 us.length, .func (.func 34) #[] #[.pointer (some ⟨Bi, 0, none⟩), .pointer (some ⟨Bf, 0, none⟩), .pointer (some ⟨Bc, 0, none⟩)]] W
      fun e w' => e = .returned (.complex .f64 (enc Ieee.double (fRe zs us S f us.length)) (enc Ieee.double (fIm zs us S f us.length))) ∧ ∃ q, w' = W.drewN q := by
  have hic' : ∃ b off, iad = some ⟨b, off, none⟩ ∧ b < w.heap.size ∧ ∀ j x, (cvals .f64 zs)[j]? = some x → w.cell? ⟨b, off + j, none⟩ = some x := by
    rcases hic with h | h
    · have : zs = [] := by simpa [cvals] using h
      rw [this] at hf
      have h0 := hf 0 hm1
      exact absurd h0 (Nat.not_lt_zero _)
    · exact h
  have hcc' : ∃ b off, cad = some ⟨b, off, none⟩ ∧ b < w.heap.size ∧ ∀ j x, (cvals .f32 us)[j]? = some x → w.cell? ⟨b, off + j, none⟩ = some x := by
    rcases hcc with h | h
    · have : us = [] := by simpa [cvals] using h
      rw [this] at hm1; simp at hm1
    · exact h
  obtain ⟨bi, oi, rfl, hbi, hci⟩ := hic'
  obtain ⟨bc, oc, rfl, hbc, hcd⟩ := hcc'
  have key : ∀ k : Nat, ∃ pq : Nat × Nat, k < us.length →
      ((∀ q, Calls Try.prog 34 #[.int .i64 k, .pointer (some ⟨Bi, 0, none⟩), .pointer (some ⟨Bf, 0, none⟩), .pointer (some ⟨Bc, 0, none⟩)] (W.drewN q) fun e w' => e = .returned (.complex .f64 pq.1 pq.2) ∧ ∃ m, w' = W.drewN m) ∧
      Rep Ieee.double pq.1 (fpRe zs us S f k) ∧ Rep Ieee.double pq.2 (fpIm zs us S f k)) := by
    intro k
    by_cases hk : k < us.length
    · have hfk := hf k hk
      obtain ⟨a1, a2, a3, a4⟩ := RI (f + k * S) hfk
      obtain ⟨b1, b2, b3, b4⟩ := RC k hk
      have d1 : W.cell? ⟨bi, oi + (f + k * S), none⟩ = some (.complex .f64 (zs.getD (f + k * S) (0, 0)).1 (zs.getD (f + k * S) (0, 0)).2) :=
        (World.cell?_of_block (w := w) (a := ⟨bi, oi + (f + k * S), none⟩) (hblk bi hbi)).trans (hci _ _ (cvals_get hfk))
      have d2 : W.cell? ⟨bc, oc + k, none⟩ = some (.complex .f32 (us.getD k (0, 0)).1 (us.getD k (0, 0)).2) :=
        (World.cell?_of_block (w := w) (a := ⟨bc, oc + k, none⟩) (hblk bc hbc)).trans (hcd _ _ (cvals_get hk))
      obtain ⟨p, q, h1, h2, h3⟩ := Focus1_any k f S zs.length icap us.length ccap Bi Bf Bc bi oi bc oc _ _ _ _ _ _ _ _ W c0 c1 c2 c3 hfk (by omega) (by omega) d1 d2 a1 a2 b1 b2 a3 a4 b3 b4
      exact ⟨(p, q), fun _ => ⟨h1, h2, h3⟩⟩
    · exact ⟨(0, 0), fun h => absurd h hk⟩
  obtain ⟨F, hF⟩ := Classical.axiomOfChoice key
  refine sumOver_any 34 enters_Focus1 _ us.length (by omega) (fun k => (F k).1) (fun k => (F k).2) (fpRe zs us S f) (fpIm zs us S f) W (fun k hk => (hF k hk).2)
    (fun k hk => ⟨Nat.le_trans (fp_b RI RC S f k (hf k hk) hk).1 (by decide), Nat.le_trans (fp_b RI RC S f k (hf k hk) hk).2 (by decide)⟩)
    (fun k hk => ⟨Nat.le_trans (f_b RI RC S f k hf hm2 hk).1 (by decide), Nat.le_trans (f_b RI RC S f k hf hm2 hk).2 (by decide)⟩) (fun k hk q => (hF k hk).1 q)

def focErr (l s : Int) (zs us : List (Nat × Nat)) : Int :=
  if (dataErr .f64 1000000000 l s zs).2 ≠ 0 then (dataErr .f64 1000000000 l s zs).2 else if (codeErr us).2 ≠ 0 then (codeErr us).2 else if l < us.length then 10 else 0

set_option maxRecDepth 100000 in
set_option maxHeartbeats 1000000 in
theorem Focus_bad (l s : Int) (iv cv : Value) (zs us : List (Nat × Nat)) (w : World) (hl : I64 l) (hs : I64 s) (hiv : Sl w iv (cvals .f64 zs)) (hcv : Sl w cv (cvals .f32 us)) (hz : ∀ z ∈ zs, z.1 < 2 ^ 64 ∧ z.2 < 2 ^ 64) (h : focErr l s zs us ≠ 0) :
    Calls Try.prog 17 #[.agg #[.int .i64 l, .int .i64 s, iv], cv] w fun e w' => e = .returned (.tuple #[.agg #[.int .i64 0, .int .i64 0, .slice none 0 0], .int .i64 (focErr l s zs us)]) ∧ Below w.heap.size w w' := by
  have C1 := Lib.hid (fun w' (hb : Below w.heap.size w w') => CheckField_any l s iv zs w' hl hs (hiv.below hb (Nat.le_refl _)) hz)
  have C2 := Lib.hid (fun w' (hb : Below w.heap.size w w') => CheckCode_any cv us w' (hcv.below hb (Nat.le_refl _)))
  obtain ⟨iad, icap, rfl, hil, -⟩ := hiv
  obtain ⟨cad, ccap, rfl, hcl, -⟩ := hcv
  have ey : (cvals .f32 us).length = us.length := by simp [cvals]
  rw [ey] at C2 hcl ⊢
  generalize (cvals .f64 zs).length = n at *
  have HE : Hid (focErr l s zs us = if (dataErr .f64 1000000000 l s zs).2 ≠ 0 then (dataErr .f64 1000000000 l s zs).2 else if (codeErr us).2 ≠ 0 then (codeErr us).2 else if l < us.length then 10 else 0) := rfl
  generalize focErr l s zs us = E at *
  generalize (dataErr .f64 1000000000 l s zs).1 = D1 at *
  generalize (dataErr .f64 1000000000 l s zs).2 = D2 at *
  generalize (codeErr us).1 = K1 at *
  generalize (codeErr us).2 = K2 at *
  generalize us.length = m at *
  have hw : ((D2 != 0) = true ∧ Hid (E = D2)) ∨ ((D2 != 0) = false ∧ (K2 != 0) = true ∧ Hid (E = K2)) ∨ ((D2 != 0) = false ∧ (K2 != 0) = false ∧ l < m ∧ Hid (E = 10)) := by
    have := HE.out
    by_cases h1 : D2 = 0
    · rw [if_neg (fun c => c h1)] at this
      by_cases h2 : K2 = 0
      · rw [if_neg (fun c => c h2)] at this
        by_cases h3 : l < m
        · rw [if_pos h3] at this
          exact .inr (.inr ⟨by rw [h1]; rfl, by rw [h2]; rfl, h3, this⟩)
        · rw [if_neg h3] at this; exact absurd this h
      · rw [if_pos h2] at this
        exact .inr (.inl ⟨by rw [h1]; rfl, by rw [bne_iff_ne]; exact h2, this⟩)
    · rw [if_pos h1] at this
      exact .inl ⟨by rw [bne_iff_ne]; exact h1, this⟩
  clear HE h hl hs ey hz
  obtain ⟨W0, hW0⟩ : ∃ W0, W0 = ((w.alloc (.cells #[.int .i64 l, .int .i64 s, .slice iad n icap] 34)).alloc (.cells #[.slice cad m ccap] 27)).alloc (.cells #[.int .i64 0, .int .i64 0, .slice none 0 0] 34) := ⟨_, rfl⟩
  have hB0 : Below w.heap.size w W0 := by rw [hW0]; exact (((Below.refl _ _).alloc (Nat.le_refl _) _).alloc (by simp) _).alloc (by simp; omega) _
  obtain ⟨a0, a1, a2⟩ := alloc3_blocks w (.cells #[.int .i64 l, .int .i64 s, .slice iad n icap] 34) (.cells #[.slice cad m ccap] 27) (.cells #[.int .i64 0, .int .i64 0, .slice none 0 0] 34)
  rw [← hW0] at a0 a1 a2
  have HB0 := Lib.hid (And.intro hB0 (And.intro a0 (And.intro a1 a2)))
  have HW0 := Lib.hid hW0
  clear hB0 a0 a1 a2 hW0
  rcases hw with ⟨h1, hF⟩ | ⟨h1, h2, hF⟩ | ⟨h1, h2, h3, hF⟩
  all_goals
    rw [hF.out]
    go_enter Try.func17, Try.ntmps17
    go_wp2_with fail
    rw [← HW0.out]
    refine (C1.out _ HB0.out.1).mono ?_
    rintro e w1 ⟨rfl, hb⟩
    have HB1 := Lib.hid (HB0.out.1.trans (hb.mono HB0.out.1.size))
    have HN1 : Hid (w1.heap[w.heap.size]? = some (.cells #[.int .i64 l, .int .i64 s, .slice iad n icap] 34 (0, 0)) ∧ w1.heap[w.heap.size + 1]? = some (.cells #[.slice cad m ccap] 27 (0, 0)) ∧ w1.heap[w.heap.size + 1 + 1]? = some (.cells #[.int .i64 0, .int .i64 0, .slice none 0 0] 34 (0, 0))) :=
      ⟨(hb.block _ (lt_of_block HB0.out.2.1)).trans HB0.out.2.1, (hb.block _ (lt_of_block HB0.out.2.2.1)).trans HB0.out.2.2.1, (hb.block _ (lt_of_block HB0.out.2.2.2)).trans HB0.out.2.2.2⟩
    clear hb HB0
    obtain ⟨c0, c1, c2, -, -, -, l0⟩ := three_cells HN1.out.1
    obtain ⟨z0, z1, z2, y0, y1, y2, l2⟩ := three_cells HN1.out.2.2
    have k0 := cell_of_one HN1.out.2.1
  · go_wp2_with fail
    exact bodyPost_ret (v := .tuple #[.agg #[.int .i64 0, .int .i64 0, .slice none 0 0], .int .i64 D2]) (by simp [results, Try.results17, go_sem, z0, z1, z2]) rfl ⟨rfl, ((HB1.out.setCell (p := ⟨w.heap.size + 1 + 1, 0, none⟩) (by show w.heap.size ≤ w.heap.size + 1 + 1; omega) _).setCell (p := ⟨w.heap.size + 1 + 1, 1, none⟩) (by show w.heap.size ≤ w.heap.size + 1 + 1; omega) _).setCell (p := ⟨w.heap.size + 1 + 1, 2, none⟩) (by show w.heap.size ≤ w.heap.size + 1 + 1; omega) _⟩
  all_goals
    go_wp2_with fail
    refine (C2.out _ HB1.out).mono ?_
    rintro e w2 ⟨rfl, q, rfl⟩
    go_wp2_with fail
    exact bodyPost_ret (v := .tuple #[.agg #[.int .i64 0, .int .i64 0, .slice none 0 0], .int .i64 _]) (by simp [results, Try.results17, go_sem, z0, z1, z2]) rfl ⟨rfl, (((HB1.out.trans (below_drewN' _ _ _)).setCell (p := ⟨w.heap.size + 1 + 1, 0, none⟩) (by show w.heap.size ≤ w.heap.size + 1 + 1; omega) _).setCell (p := ⟨w.heap.size + 1 + 1, 1, none⟩) (by show w.heap.size ≤ w.heap.size + 1 + 1; omega) _).setCell (p := ⟨w.heap.size + 1 + 1, 2, none⟩) (by show w.heap.size ≤ w.heap.size + 1 + 1; omega) _⟩
end Go.Proofs.Ytadajelonekpmaa
