import Derived.Test.YtadajelonekpmaaQb
import Derived.Test.YtadajelonekpmaaBa
import Derived.Test.YtadajelonekpmaaId
namespace Go.Proofs.Ytadajelonekpmaa
open Go.RowKit Go.Proofs.Ytadajelonekpmaa.Flt

/-! Pieces of TopTwoCompressions: lists of parts, signed numbers, and what four correlations come to. -/
/-- the real, or the imaginary, parts of samples -/
def partI (bl : Bool) (zs : List (Nat × Nat)) (i : Nat) : Int := if bl then im .f32 zs i else re .f32 zs i
def partL (bl : Bool) (zs : List (Nat × Nat)) : List Int := (List.range zs.length).map (partI bl zs)
theorem partL_length (bl : Bool) (zs : List (Nat × Nat)) : (partL bl zs).length = zs.length := by simp [partL]
theorem partL_get (bl : Bool) (zs : List (Nat × Nat)) (i : Nat) (h : i < zs.length) : (partL bl zs).getD i 0 = partI bl zs i := by
  simp [partL, List.getD_eq_getElem?_getD, List.getElem?_range h]

/-- four correlations, of lists of real numbers, come to a compressed line -/
theorem two_sgn {zs us : List (Nat × Nat)} (ts : List (Nat × Nat)) (f s : Nat) (hm : us.length ≤ 32) (hS : s + us.length ≤ ts.length) (hT : ts.length ≤ 64) (hre : ∀ i, i < ts.length → re .f32 ts i = re .f32 zs (f + i) ∧ im .f32 ts i = im .f32 zs (f + i)) (hfs : f + s + us.length ≤ zs.length)
    (RZ : Right .f32 2047 zs) (RC : Right .f32 3 us) :
    sgnP (((corList (padL (partL false ts) 128) (padL (partL false us) 128)).getD s 0 + (corList (padL (partL true ts) 128) (padL (partL true us) 128)).getD s 0) % 998244353) = cRe zs us (f + s) us.length ∧
    sgnP (((corList (padL (partL true ts) 128) (padL (partL false us) 128)).getD s 0 - (corList (padL (partL false ts) 128) (padL (partL true us) 128)).getD s 0) % 998244353) = cIm zs us (f + s) us.length := by
  have key : ∀ b c : Bool, Mo ((corList (padL (partL b ts) 128) (padL (partL c us) 128)).getD s 0) (sumTo (fun k => partI b zs (f + s + k) * partI c us k) us.length) := by
    intro b c
    have h := cor_pad (partL b ts) (partL c us) 128 s (by omega) (by rw [partL_length]; omega) (by rw [partL_length]; omega)
    rw [partL_length] at h
    refine h.trans (Mo.of_eq (sum_eq _ fun k hk => ?_))
    rw [partL_get _ _ _ (by omega), partL_get _ _ _ hk]
    obtain ⟨e1, e2⟩ := hre (s + k) (by omega)
    have e3 : f + (s + k) = f + s + k := by omega
    rw [e3] at e1 e2
    have e4 : partI b ts (s + k) = partI b zs (f + s + k) := by
      unfold partI
      cases b
      · exact e1
      · exact e2
    rw [e4]
  obtain ⟨b1, b2⟩ := c_b RZ RC (f + s) us.length hfs hm (Nat.le_refl _)
  have fin : ∀ n c : Int, Mo n c → c.natAbs ≤ 393024 → sgnP (n % 998244353) = c := fun n c h hc =>
    sgn_mo ((Mo.mod n).trans h) (Int.emod_nonneg n (by decide)) (Int.emod_lt_of_pos n (by decide)) (by omega)
  refine ⟨fin _ _ ?_ b1, fin _ _ ?_ b2⟩
  · refine ((key false false).add (key true true)).trans (Mo.of_eq ?_)
    rw [← sum_add]
    rfl
  · have h2 : Mo (-(corList (padL (partL false ts) 128) (padL (partL true us) 128)).getD s 0) (-(sumTo (fun k => partI false zs (f + s + k) * partI true us k) us.length)) := by
      have := (Mo.refl (-1)).mul (key false true)
      have e : ∀ x : Int, -1 * x = -x := fun x => by omega
      rwa [e, e] at this
    have h3 := (key true false).add h2
    refine Mo.trans (Mo.of_eq (by omega)) (h3.trans (Mo.of_eq ?_))
    have e : ∀ n : Nat, -(sumTo (fun k => partI false zs (f + s + k) * partI true us k) n) = sumTo (fun k => -(partI false zs (f + s + k) * partI true us k)) n := by
      intro n
      induction n with
      | zero => rfl
      | succ n ih => simp only [sumTo]; omega
    rw [e, ← sum_add]
    unfold cIm
    refine sum_eq _ fun k hk => ?_
    simp only [partI, if_true, if_false, Bool.false_eq_true]
    omega

/-- the first k numbers modulo the prime, zeros behind them: 128 cells -/
def pad8 (xs : List Int) (k : Nat) : Array Value := ((List.range 128).map fun i => Value.int .i64 (if i < k then xs.getD i 0 % 998244353 else 0)).toArray
theorem pad8_get (xs : List Int) (k i : Nat) (h : i < 128) : (pad8 xs k)[i]? = some (.int .i64 (if i < k then xs.getD i 0 % 998244353 else 0)) := by
  simp [pad8, List.getElem?_range h]
theorem pad8_size (xs : List Int) (k : Nat) : (pad8 xs k).size = 128 := by simp [pad8]
theorem pad8_step (xs : List Int) (k : Nat) : (pad8 xs k).setIfInBounds k (.int .i64 (xs.getD k 0 % 998244353)) = pad8 xs (k + 1) := by
  apply Array.ext_getElem?
  intro i
  rw [Array.getElem?_setIfInBounds]
  by_cases hi : i < 128
  · rw [pad8_get xs k i hi, pad8_get xs (k + 1) i hi, pad8_size]
    by_cases h : k = i
    · subst h; rw [if_pos rfl, if_pos hi, if_pos (by omega)]
    · rw [if_neg h]
      by_cases h2 : i < k
      · rw [if_pos h2, if_pos (by omega)]
      · rw [if_neg h2, if_neg (by omega)]
  · rw [Array.getElem?_eq_none (by rw [pad8_size]; omega), Array.getElem?_eq_none (by rw [pad8_size]; omega), pad8_size]
    by_cases h : k = i
    · rw [if_pos h, if_neg (by omega)]
    · rw [if_neg h]
theorem pad8_zero (xs : List Int) : pad8 xs 0 = pad8 [] 0 := by
  unfold pad8
  congr 1
theorem pad8_end (xs : List Int) (k : Nat) (h : xs.length ≤ k) : (pad8 xs k).toList = ivals (padL xs 128) := by
  unfold pad8 padL ivals
  rw [List.map_map]
  apply List.map_congr_left
  intro i hi
  by_cases h1 : i < k
  · rw [if_pos h1]; rfl
  · rw [if_neg h1]
    show Value.int .i64 0 = Value.int .i64 (xs.getD i 0 % 998244353)
    rw [getD_past xs i (by omega)]; rfl
theorem got_pad8 {xs : List Int} {k b : Nat} {w : World} (h : w.heap[b]? = some (.cells (pad8 xs k) 3 (0, 0))) (hk : xs.length ≤ k) : Got (padL xs 128) w (.slice (some ⟨b, 0, none⟩) 128 128) := by
  have hl : (ivals (padL xs 128)).length = 128 := by simp [ivals, padL]
  refine ⟨⟨some ⟨b, 0, none⟩, 128, by rw [hl], by rw [hl]; decide, .inr ⟨b, 0, rfl, lt_of_block h, fun j x hx => ?_⟩⟩, ?_⟩
  · rw [cell_of_row w b (0 + j) _ _ _ h, Nat.zero_add, ← hx, ← pad8_end xs k hk, Array.getElem?_toList]
  · intro n c e; cases e

/-- what holds at the head of parted's loop -/
structure PtInv (xs : List Int) (w : World) (k : Nat) (wr : World) : Prop where
  hb : Below w.heap.size w wr
  hc : wr.heap[w.heap.size]? = some (.cells (pad8 xs k) 3 (0, 0))
theorem PtInv.next {xs : List Int} {w wr : World} {k : Nat} (h : PtInv xs w k wr) : PtInv xs w (k + 1) (wr.setCell ⟨w.heap.size, k, none⟩ (.int .i64 (xs.getD k 0 % 998244353))) :=
  ⟨h.hb.setCell (p := ⟨w.heap.size, k, none⟩) (Nat.le_refl _) _, by rw [← pad8_step]; exact blk_setCell _ _ _ _ _ _ h.hc⟩

set_option maxRecDepth 100000 in
set_option maxHeartbeats 4000000 in
/-- PARTS MODULO THE PRIME -/
theorem parted_any (zs : List (Nat × Nat)) (va : Value) (bl : Bool) (w : World) (hv : Smp .f32 zs w va) (hR : Right .f32 2047 zs) (hn : zs.length ≤ 128) :
    Calls Try.prog 10 #[va, .bool bl] w fun e w' => ∃ b, e = .returned (.slice (some ⟨b, 0, none⟩) 128 128) ∧ Below w.heap.size w w' ∧ Got (padL (partL bl zs) 128) w' (.slice (some ⟨b, 0, none⟩) 128 128) := by
  have V0 := Lib.hid hv.sl
  have HR := Lib.hid hR
  obtain ⟨aa, ac, rfl, -, -⟩ := hv.sl
  rw [show (cvals .f32 zs).length = zs.length from by simp [cvals]] at V0 ⊢
  obtain ⟨n, hnn⟩ : ∃ n, n = zs.length := ⟨_, rfl⟩
  rw [← hnn] at V0 hn ⊢
  have HN := Lib.hid hnn
  have hmk : ∀ w : World, (Instr.makeSlice 38 (.int .i64 128) (.int .i64 128)).run Try.prog w = .ok (.slice (some ⟨w.heap.size, 0, none⟩) 128 128) (w.alloc (.cells (pad8 [] 0) 3)) := fun _ => by kernel_rfl
  clear hv hR hnn
  have I0 : Hid (PtInv (partL bl zs) w 0 (w.alloc (.cells (pad8 [] 0) 3))) := ⟨below_new _ _, by rw [pad8_zero]; exact heap_alloc_new _ _⟩
  go_enter Try.func10, Try.ntmps10
  go_wp2_with fail
  go_loopw [6] (fun i wr => ∃ k : Nat, k ≤ n ∧ i = .int .i64 k ∧ Hid (PtInv (partL bl zs) w k wr)) (fun i _ => n - (intOf i).toNat)
  case atStart => exact ⟨0, Nat.zero_le _, rfl, I0⟩
  case round =>
    clear I0 hmk
    obtain ⟨k, hk, rfl, IK⟩ := hrel
    obtain ⟨wz, rfl⟩ : ∃ wz : World, wz = wr := ⟨_, rfl⟩
    by_cases hlt : k < n
    · obtain ⟨-, b1, o1, rfl, q1, g1⟩ := V0.out.at (by omega)
      obtain ⟨r1, r2, r3, r4⟩ := HR.out k (by have := HN.out; omega)
      have d1 : wz.cell? ⟨b1, o1 + k, none⟩ = some (.complex .f32 (zs.getD k (0, 0)).1 (zs.getD k (0, 0)).2) := (IK.out.hb.cell (p := ⟨b1, o1 + k, none⟩) q1).trans (g1 k _ (cvals_get (by have := HN.out; omega)))
      have CP := Lib.hid (fun w => refParts_any _ _ _ _ r1 r2 (Nat.le_trans r3 (by decide)) (Nat.le_trans r4 (by decide)) w)
      have CM1 := Lib.hid (fun w => Mod_any (re .f32 zs k) 998244353 (by decide) (by decide) w)
      have CM2 := Lib.hid (fun w => Mod_any (im .f32 zs k) 998244353 (by decide) (by decide) w)
      have HX : Hid ((partL bl zs).getD k 0 = if bl then im .f32 zs k else re .f32 zs k) := by
        unfold Hid
        rw [partL_get _ _ _ (by have := HN.out; omega)]
        rfl
      have IN := Lib.hid IK.out.next
      have c4 : wz.cell? ⟨w.heap.size, k, none⟩ = some (.int .i64 0) := by
        have := cell_of_row wz w.heap.size k _ _ _ IK.out.hc
        rw [pad8_get _ k k (by omega), if_neg (by omega)] at this
        exact this
      have c5 : wz.frozen? ⟨w.heap.size, k, none⟩ = false := frozen_of_row wz w.heap.size k _ _ IK.out.hc
      generalize (partL bl zs).getD k 0 = x at *
      generalize (zs.getD k (0, 0)).1 = X at *
      generalize (zs.getD k (0, 0)).2 = Y at *
      generalize re .f32 zs k = a at *
      generalize im .f32 zs k = b at *
      have hk1 : (k : Int) < (n : Int) := by omega
      have hk2 : (k : Int) < 128 := by omega
      clear q1 g1 r1 r2 r3 r4 IK V0
      cases bl
      · obtain rfl : x = a := HX.out
        clear HX CM2
        go_wp2_with fail
        refine (CP.out _).mono ?_
        rintro e w' ⟨rfl, rfl⟩
        go_wp2_with fail
        refine (CM1.out _).mono ?_
        rintro e w' ⟨rfl, rfl⟩
        go_wp2_with fail
        go_roundw
        case rel => exact ⟨k + 1, by omega, by go_num, IN⟩
        case measure => simp [intOf]; omega
      · obtain rfl : x = b := HX.out
        clear HX CM1
        go_wp2_with fail
        refine (CP.out _).mono ?_
        rintro e w' ⟨rfl, rfl⟩
        go_wp2_with fail
        refine (CM2.out _).mono ?_
        rintro e w' ⟨rfl, rfl⟩
        go_wp2_with fail
        go_roundw
        case rel => exact ⟨k + 1, by omega, by go_num, IN⟩
        case measure => simp [intOf]; omega
    · have e : n = k := by omega
      subst e
      have HG : Hid (Got (padL (partL bl zs) 128) wz (.slice (some ⟨w.heap.size, 0, none⟩) 128 128)) := got_pad8 IK.out.hc (by rw [partL_length]; have := HN.out; omega)
      have HB := Lib.hid IK.out.hb
      clear IK
      go_wp2_with fail
      go_ret
      exact ⟨_, rfl, HB.out, HG.out⟩

set_option maxRecDepth 100000 in
theorem signed_any (n : Int) (w : World) : Calls Try.prog 14 #[.int .i64 n] w fun e w' => e = .returned (.int .i64 (sgnP (n % 998244353))) ∧ w = w' := by
  have CM := Lib.hid (fun w => Mod_any n 998244353 (by decide) (by decide) w)
  have b1 := Int.emod_nonneg n (show (998244353 : Int) ≠ 0 by decide)
  have b2 := Int.emod_lt_of_pos n (show (0 : Int) < 998244353 by decide)
  generalize n % 998244353 = m at *
  have hs : (499122176 < m ∧ Hid (sgnP m = m - 998244353)) ∨ (¬ 499122176 < m ∧ Hid (sgnP m = m)) := by
    unfold sgnP
    by_cases h : 499122176 < m
    · exact .inl ⟨h, by rw [if_pos h]; exact rfl⟩
    · exact .inr ⟨h, by rw [if_neg h]; exact rfl⟩
  generalize sgnP m = r at *
  rcases hs with ⟨h, hr⟩ | ⟨h, hr⟩
  all_goals
    go_enter Try.func14, Try.ntmps14
    go_wp2_with fail
    refine (CM.out _).mono ?_
    rintro e w' ⟨rfl, rfl⟩
    go_wp2_with fail
    go_ret
    exact ⟨by rw [hr.out] <;> rfl, rfl⟩

/-- correlation of lists that were padded -/
theorem corG8 {X Y : List Int} {W : World} {v v' : Value} (h : Got (padL X 128) W v) (h' : Got (padL Y 128) W v') :
    Calls Try.prog 11 #[v, v'] W fun e w' => ∃ a c, e = .returned (.tuple #[.slice a 128 c, .int .i64 0]) ∧ Below W.heap.size W w' ∧ Got (corList (padL X 128) (padL Y 128)) w' (.slice a 128 c) := by
  refine (Correlate_ok v v' _ _ W h.sl h'.sl (padL_err X 128 (by decide) (by decide +kernel)) (padL_err Y 128 (by decide) (by decide +kernel)) (by rw [padL_length, padL_length])).mono ?_
  rintro e w' ⟨r, rfl, hb, ho⟩
  have hl : (corList (padL X 128) (padL Y 128)).length = 128 := by rw [corList_length, padL_length]
  have hg : Got (corList (padL X 128) (padL Y 128)) w' r := Got.of (by omega) ho
  obtain ⟨a, c, rfl, -, -⟩ := hg.sl
  rw [show (ivals (corList (padL X 128) (padL Y 128))).length = 128 from by simp [ivals, hl]] at hg ⊢
  exact ⟨a, c, rfl, hb, hg⟩

theorem Got.at {L : List Int} {W W' : World} {a : Option Addr} {c s : Nat} (h : Got L W (.slice a 128 c)) (hb : Below W.heap.size W W') (hl : L.length = 128) (hs : s < 128) : ∃ b o, a = some ⟨b, o, none⟩ ∧ W'.cell? ⟨b, o + s, none⟩ = some (.int .i64 (L.getD s 0)) := by
  obtain ⟨-, b, o, rfl, q, g⟩ := h.sl.at (by omega)
  exact ⟨b, o, rfl, (hb.cell (p := ⟨b, o + s, none⟩) q).trans (g s _ (ivals_get (by omega)))⟩
/-- a compression without an error -/
def TwoFin (l s lx sx : Int) (zs us X : List (Nat × Nat)) : Prop :=
  ∃ L S m S' N : Nat, l = L ∧ s = S ∧ lx = L ∧ sx = S' ∧ us.length = m ∧ 1 ≤ m ∧ m ≤ 32 ∧ m ≤ S ∧ S ≤ 64 ∧ 1 ≤ L ∧ L ≤ 64 ∧ S' + m = S + 1 ∧ N = L * S' ∧ zs.length = L * S ∧ Right .f32 2047 zs ∧ Right .f32 3 us ∧ X = compList zs us S S' N
theorem two_P (l s : Int) (zs us : List (Nat × Nat)) (hl : I64 l) (hs : I64 s) (hz : ∀ z ∈ zs, z.1 < 2 ^ 32 ∧ z.2 < 2 ^ 32) (hu : ∀ z ∈ us, z.1 < 2 ^ 32 ∧ z.2 < 2 ^ 32) :
    ∃ (lx sx : Int) (X : List (Nat × Nat)) (EX : Int), (∀ W v k, Smp .f32 zs W v → Smp .f32 us W k → Calls Try.prog 9 #[.agg #[.int .i64 l, .int .i64 s, v], k] W (FieldE lx sx X EX W)) ∧ (EX = 0 → TwoFin l s lx sx zs us X) := by
  by_cases hE : compErr l s zs us = 0
  · have hE' := hE
    unfold compErr at hE'
    have hD : (dataErr .f32 2047 l s zs).2 = 0 := by
      by_cases h : (dataErr .f32 2047 l s zs).2 = 0
      · exact h
      · rw [if_pos h] at hE'; exact absurd hE' h
    rw [if_neg (fun c => c hD)] at hE'
    have hK : (codeErr us).2 = 0 := by
      by_cases h : (codeErr us).2 = 0
      · exact h
      · rw [if_pos h] at hE'; exact absurd hE' h
    rw [if_neg (fun c => c hK)] at hE'
    have hm : ¬ s < us.length := by
      intro h
      rw [if_pos h] at hE'; cases hE'
    obtain ⟨a1, a2, a3, a4, a5, a6⟩ := dataErr_ok hD
    obtain ⟨u1, u2, u3⟩ := codeErr_ok hK
    obtain ⟨L, rfl⟩ : ∃ L : Nat, l = L := ⟨l.toNat, by omega⟩
    obtain ⟨S, rfl⟩ : ∃ S : Nat, s = S := ⟨s.toNat, by omega⟩
    have hlen : zs.length = L * S := by
      have : ((L * S : Nat) : Int) = zs.length := by rw [Int.natCast_mul, a5]
      omega
    have hn : L * (S - us.length + 1) ≤ 4096 := Nat.le_trans (Nat.mul_le_mul (show L ≤ 64 by omega) (show S - us.length + 1 ≤ 64 by omega)) (by decide)
    refine ⟨L, (S - us.length + 1 : Nat), compList zs us S (S - us.length + 1) (L * (S - us.length + 1)), 0, fun W v k hv hk => ?_, fun _ => ?_⟩
    · refine (Compress_ok L S us.length v k zs us W hv.sl hk.sl hz hu (by omega) (by omega) (by omega) (by omega) rfl hD hK (by omega)).mono ?_
      rintro e w' ⟨g, rfl, -, hb, ho⟩
      exact ⟨_, rfl, hb, ⟨Sl.of_owns ho (by omega)⟩⟩
    · exact ⟨L, S, us.length, S - us.length + 1, _, rfl, rfl, rfl, rfl, rfl, by omega, by omega, by omega, by omega, by omega, by omega, by omega, rfl, hlen, right_of_ok (by decide) hz a6, right_of_ok (by decide) hu u3, rfl⟩
  · exact ⟨0, 0, [], _, fun W v k hv hk => (Compress_bad l s v k zs us W hl hs hv.sl hk.sl hE).mono fun e w' ⟨h1, h2⟩ => ⟨_, h1, h2, smp_nil _⟩, fun h => absurd h hE⟩

/-- an image in its box, whose slice tells its room -/
structure IBx (l s : Int) (v : Value) (C : List (Nat × Nat)) (b : Nat) (W : World) : Prop where
  blk : W.heap[b]? = some (.cells #[.int .i64 l, .int .i64 s, v] 29 (0, 0))
  smp : SmpC C W v
theorem IBx.next {l s : Int} {v : Value} {C : List (Nat × Nat)} {b : Nat} {W W' : World} (h : IBx l s v C b W) (hb : Below W.heap.size W W') : IBx l s v C b W' :=
  ⟨(hb.block _ (lt_of_block h.blk)).trans h.blk, h.smp.below hb⟩
theorem smp_set3 {k : FloatKind} {C : List (Nat × Nat)} {W : World} {v : Value} {b : Nat} {a c : Int} {t : TypeId} (h : Smp k C W v) (q : W.heap[b]? = some (.cells #[.int .i64 a, .int .i64 c, .slice none 0 0] t (0, 0))) (u0 u1 u2 : Value) :
    Smp k C (((W.setCell ⟨b, 0, none⟩ u0).setCell ⟨b, 1, none⟩ u1).setCell ⟨b, 2, none⟩ u2) v := by
  obtain ⟨ad, cap, hv, hl, hx⟩ := h.sl.form
  refine ⟨ad, cap, hv, hl, ?_⟩
  rcases hx with hx | ⟨b', off, h1, h2, h3⟩
  · exact .inl hx
  · by_cases hb : b' = b
    · refine .inl ?_
      cases C with
      | nil => rfl
      | cons z C =>
        exfalso
        have h4 := h3 0 (.complex k z.1 z.2) rfl
        rw [hb, cell_of_row W b _ _ t _ q, Nat.add_zero] at h4
        match off, h4 with
        | 0, h4 => cases h4
        | 1, h4 => cases h4
        | 2, h4 => cases h4
        | _ + 3, h4 => simp at h4
    · exact .inr ⟨b', off, h1, by simp only [World.setCell, Array.size_modify]; exact h2, fun j x hx => Go.Proofs.Ytadajelonekpmaa.set3 (h3 j x hx) hb⟩
theorem SmpC.set3 {C : List (Nat × Nat)} {W : World} {v : Value} {b : Nat} {a c : Int} {t : TypeId} (h : SmpC C W v) (q : W.heap[b]? = some (.cells #[.int .i64 a, .int .i64 c, .slice none 0 0] t (0, 0))) (u0 u1 u2 : Value) :
    SmpC C (((W.setCell ⟨b, 0, none⟩ u0).setCell ⟨b, 1, none⟩ u1).setCell ⟨b, 2, none⟩ u2) v := ⟨(smp_set3 ⟨h.sl⟩ q _ _ _).sl, h.cap⟩
theorem SmpC.alloc1 {C : List (Nat × Nat)} {W : World} {v : Value} (h : SmpC C W v) (o : Obj) : SmpC C (W.alloc o) v := h.below ((Below.refl _ _).alloc (Nat.le_refl _) _)
theorem SmpC.drew1 {C : List (Nat × Nat)} {W : World} {v : Value} (h : SmpC C W v) : SmpC C W.drew v := h.below (Below.refl _ _).drew
theorem IBx.born {l s : Int} {v : Value} {C : List (Nat × Nat)} {W : World} (h : SmpC C W v) : IBx l s v C W.heap.size (W.alloc (.cells #[.int .i64 l, .int .i64 s, v] 29)) := ⟨heap_alloc_new _ _, h.alloc1 _⟩
theorem IBx.made {l s : Int} {v : Value} {C : List (Nat × Nat)} {b : Nat} {W : World} {x0 x1 : Int} (q : W.heap[b]? = some (.cells #[.int .i64 x0, .int .i64 x1, .slice none 0 0] 29 (0, 0))) (h : SmpC C W v) :
    IBx l s v C b (((W.setCell ⟨b, 0, none⟩ (.int .i64 l)).setCell ⟨b, 1, none⟩ (.int .i64 s)).setCell ⟨b, 2, none⟩ v) := ⟨blk_set3 _ _ _ q, h.set3 q _ _ _⟩
/-- a line of an image -/
theorem row_of {zs : List (Nat × Nat)} {W : World} {ia : Option Addr} {n q S cap : Nat} (h : Sl W (.slice ia n cap) (cvals .f32 zs)) (hq : q + S ≤ n) (hS : 0 < S) (hn : n ≤ 4096) : n = zs.length ∧ ∃ b o, ia = some ⟨b, o, none⟩ ∧ Smp .f32 ((zs.drop q).take S) W (.slice (some ⟨b, o + q, none⟩) S (cap - q)) := by
  obtain ⟨hl, b1, o1, rfl, q1, g1⟩ := h.at (by omega)
  have hnz : n = zs.length := by rw [hl]; simp [cvals]
  refine ⟨hnz, b1, o1, rfl, ?_⟩
  have hln : ((zs.drop q).take S).length = S := by simp; omega
  have hcl : (cvals .f32 ((zs.drop q).take S)).length = S := by unfold cvals; rw [List.length_map]; exact hln
  refine ⟨some ⟨b1, o1 + q, none⟩, cap - q, by rw [hcl], by rw [hcl]; omega, .inr ⟨b1, o1 + q, rfl, q1, fun j x hx => ?_⟩⟩
  have hj : j < S := by
    rcases Nat.lt_or_ge j S with h | h
    · exact h
    · rw [List.getElem?_eq_none (by rw [hcl]; exact h)] at hx; cases hx
  rw [Nat.add_assoc]
  refine g1 (q + j) x ?_
  rw [← hx]
  unfold cvals
  rw [List.getElem?_map, List.getElem?_map, List.getElem?_take, if_pos hj, List.getElem?_drop]
theorem row_re (zs : List (Nat × Nat)) (q S : Nat) : ∀ i, i < ((zs.drop q).take S).length → re .f32 ((zs.drop q).take S) i = re .f32 zs (q + i) ∧ im .f32 ((zs.drop q).take S) i = im .f32 zs (q + i) := by
  intro i hi
  have hj : i < S := by simp at hi; omega
  have e : ((zs.drop q).take S).getD i (0, 0) = zs.getD (q + i) (0, 0) := by
    rw [List.getD_eq_getElem?_getD, List.getD_eq_getElem?_getD, List.getElem?_take, if_pos hj, List.getElem?_drop]
  unfold re im
  rw [e]
  exact ⟨rfl, rfl⟩
theorem row_right {zs : List (Nat × Nat)} (R : Right .f32 2047 zs) (q S : Nat) : Right .f32 2047 ((zs.drop q).take S) := by
  intro i hi
  obtain ⟨e1, e2⟩ := row_re zs q S i hi
  have hj : i < S := by simp at hi; omega
  have hq : q + i < zs.length := by simp at hi; omega
  have e : ((zs.drop q).take S).getD i (0, 0) = zs.getD (q + i) (0, 0) := by
    rw [List.getD_eq_getElem?_getD, List.getD_eq_getElem?_getD, List.getElem?_take, if_pos hj, List.getElem?_drop]
  rw [e, e1, e2]
  exact R (q + i) hq
end Go.Proofs.Ytadajelonekpmaa
