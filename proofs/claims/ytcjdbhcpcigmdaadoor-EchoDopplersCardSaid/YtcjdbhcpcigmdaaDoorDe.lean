import Derived.Test.YtcjdbhcpcigmdaaDoorDd
import Derived.Test.YtcjdbhcpcigmdaaDoorWd
namespace Go.Proofs.YtcjdbhcpcigmdaaDoor
open Go.RowKit Go.Proofs.YtcjdbhcpcigmdaaDoor.Flt

set_option maxRecDepth 100000 in
set_option maxHeartbeats 4000000 in
theorem dopplers_ok (l s : Int) (pv cv : Value) (xs cs : List Nat) (ph nr : Int) (w : World) (hp : Fls .f32 xs w pv) (hc : Fls .f32 cs w cv) (hsm : SmallB xs.length cs.length = true) (ht : Tab w) (hz : ∀ z ∈ pairsOf xs, z.1 < 2 ^ 32 ∧ z.2 < 2 ^ 32) (hE : pairErr l s (pairsOf xs) = 0) :
    Calls Tryd.prog 13 #[.agg #[.int .i64 l, .int .i64 s, pv, cv], .int .i64 ph, .int .i64 nr] w fun e w' => e = .returned (.bool true) ∧ Below w.heap.size w w' := by
  have CA := Lib.hid (fun W (h : ScIn l s pv cv xs cs w W) => awake_any W (ht.below h.hb))
  have CS : Hid (∀ W, ScIn l s pv cv xs cs w W → Calls Tryd.prog 16 #[.agg #[.int .i64 l, .int .i64 s, pv, cv]] W fun e w' => e = .returned (.bool true) ∧ Below W.heap.size W w') := fun W h => by
    have := Small_any l s pv cv xs cs W h.p h.c
    rwa [hsm] at this
  have HS0 : Hid (∀ W0, W0 = w.alloc (.cells #[.int .i64 l, .int .i64 s, pv, cv] 24) → ScIn l s pv cv xs cs w W0) := by
    rintro W0 rfl
    exact ScIn.start hp hc
  have hlen : xs.length ≤ 100000 := by
    unfold SmallB at hsm
    simp at hsm
    omega
  have CI := Lib.hid (fun W (h : ScIn l s pv cv xs cs w W) => lawImage_any l s pv cv xs W h.p hlen)
  have CW1 := Lib.hid (fun w => Within_any ph (-100000000) 100000000 w)
  have CW2 := Lib.hid (fun w => Within_any nr (-100000000) 100000000 w)
  obtain ⟨U, HU⟩ : ∃ U : Int × Int, (¬ (-100000000 ≤ ph ∧ ph ≤ 100000000) ∧ U = (0, 2)) ∨ ((-100000000 ≤ ph ∧ ph ≤ 100000000) ∧ ¬ (-100000000 ≤ nr ∧ nr ≤ 100000000) ∧ U = (0, 2)) ∨ ((-100000000 ≤ ph ∧ ph ≤ 100000000) ∧ (-100000000 ≤ nr ∧ nr ≤ 100000000) ∧ U = (unfI ph nr, 0)) := by
    by_cases h1 : -100000000 ≤ ph ∧ ph ≤ 100000000
    · by_cases h2 : -100000000 ≤ nr ∧ nr ≤ 100000000
      · exact ⟨_, .inr (.inr ⟨h1, h2, rfl⟩)⟩
      · exact ⟨_, .inr (.inl ⟨h1, h2, rfl⟩)⟩
    · exact ⟨_, .inl ⟨h1, rfl⟩⟩
  obtain ⟨L, S, hlL, hsS, hL1, hL, hS1, hS, hlen2, RI, -⟩ := pairErr_ok hE hz
  have hD : (dataErr .f32 2047 l s (pairsOf xs)).2 = 0 := by
    unfold pairErr at hE
    by_cases h : (dataErr .f32 2047 l s (pairsOf xs)).2 = 0
    · exact h
    · rw [if_pos h] at hE; exact absurd hE h
  have hz4 : (pairsOf xs).length ≤ 4096 := by rw [hlen2]; exact Nat.le_trans (Nat.mul_le_mul hL hS) (by decide)
  have hPn : (L - 1) * S + S ≤ (pairsOf xs).length := by
    rw [hlen2]
    obtain ⟨m, rfl⟩ : ∃ m, L = m + 1 := ⟨L - 1, by omega⟩
    rw [Nat.add_sub_cancel, Nat.succ_mul]; exact Nat.le_refl _
  obtain ⟨hA, hB⟩ := pairSum_b RI S ((L - 1) * S) hz4 hPn _ (Nat.le_refl _)
  have hD2 : (dataErr .f32 2047 L S (pairsOf xs)).2 = 0 := by rw [← hlL, ← hsS]; exact hD
  have CP := Lib.hid (fun W v (hv : Smp .f32 (pairsOf xs) W v) => PairSum_ok L S v (pairsOf xs) W hv.sl hL1 hL hS1 hS hlen2 RI hD2)
  have CD := Lib.hid (fun W v (hv : Smp .f32 (pairsOf xs) W v) => Doppler_ok L S v (pairsOf xs) W hv.sl hL1 hL hS1 hS hlen2 RI hD2 (by omega) (by omega))
  have CC := Lib.hid (fun W v (hv : Smp .f32 (pairsOf xs) W v) => refCheckImage_any l s v (pairsOf xs) W hv.sl)
  have CQ := Lib.hid (fun W v (hv : Smp .f32 (pairsOf xs) W v) => refPairSum_any L S v (pairsOf xs) W hv.sl hL1 hL hS1 hS hlen2 RI)
  rw [hD] at CC
  rw [← hlL, ← hsS] at CP CD CQ
  have hl1 : ((l : Int) == 1) = false := by rw [beq_eq_false_iff_ne]; omega
  generalize (dataErr .f32 2047 l s (pairsOf xs)).1 = D1 at *
  generalize pairRe (pairsOf xs) S ((L - 1) * S) = A at *
  generalize pairIm (pairsOf xs) S ((L - 1) * S) = B at *
  generalize pairsOf xs = zs at *
  have CSum := Lib.hid (fun w => Sum_any A B w)
  have CPh := Lib.hid (fun w => refPhase_any A B (by omega) (by omega) w)
  have hphs : (((A : Int) == 0) = true ∧ ((B : Int) == 0) = true ∧ Hid (phS A B = (0, 31))) ∨ (((A : Int) == 0) = true ∧ ((B : Int) == 0) = false ∧ Hid (phS A B = (wrapI (phC A B), 0))) ∨ (((A : Int) == 0) = false ∧ Hid (phS A B = (wrapI (phC A B), 0))) := by
    unfold Hid phS
    by_cases h1 : A = 0
    · by_cases h2 : B = 0
      · left; exact ⟨by rw [beq_iff_eq]; exact h1, by rw [beq_iff_eq]; exact h2, by rw [if_pos ⟨h1, h2⟩]⟩
      · right; left; exact ⟨by rw [beq_iff_eq]; exact h1, by rw [beq_eq_false_iff_ne]; exact h2, by rw [if_neg (fun h => h2 h.2)]⟩
    · right; right; exact ⟨by rw [beq_eq_false_iff_ne]; exact h1, by rw [if_neg (fun h => h1 h.1)]⟩
  generalize phS A B = PH at *
  generalize wrapI (phC A B) = WP at *
  obtain ⟨X, hX⟩ : ∃ X, X = enc Ieee.double A := ⟨_, rfl⟩
  obtain ⟨Y, hY⟩ : ∃ Y, Y = enc Ieee.double B := ⟨_, rfl⟩
  rw [← hX, ← hY] at CP CSum
  have CSS : Hid (∀ W : World, Calls Tryd.prog 67 #[.slice (some ⟨W.heap.size, 0, none⟩) 1 1, .slice (some ⟨W.heap.size + 1, 0, none⟩) 1 1] ((W.alloc (.cells #[.complex .f64 X Y] 88)).alloc (.cells #[.complex .f64 X Y] 88)) fun e w' => e = .returned (.bool true) ∧ Below W.heap.size W w') := by
    intro W
    have h1 := below_new W (.cells #[.complex .f64 X Y] 88)
    have h2 := below_new (W.alloc (.cells #[.complex .f64 X Y] 88)) (.cells #[.complex .f64 X Y] 88)
    have s1 : Sl (W.alloc (.cells #[.complex .f64 X Y] 88)) (.slice (some ⟨W.heap.size, 0, none⟩) 1 1) (cvals .f64 [(X, Y)]) := Sl.built W (cvals .f64 [(X, Y)]) 88 (by simp [cvals])
    have s2 : Sl ((W.alloc (.cells #[.complex .f64 X Y] 88)).alloc (.cells #[.complex .f64 X Y] 88)) (.slice (some ⟨(W.alloc (.cells #[.complex .f64 X Y] 88)).heap.size, 0, none⟩) 1 1) (cvals .f64 [(X, Y)]) := Sl.built _ (cvals .f64 [(X, Y)]) 88 (by simp [cvals])
    rw [World.size_alloc] at s2
    refine (SameSums_true _ _ [(X, Y)] _ (s1.below h2 (Nat.le_refl _)) s2).mono ?_
    rintro e w' ⟨rfl, q, rfl⟩
    exact ⟨rfl, (h1.trans (h2.mono h1.size)).trans (below_drewN' _ _ _)⟩
  clear hlL hsS hL1 hL hS1 hS hlen2 RI hD hD2 hz4 hPn hA hB hX hY hE hz
  obtain ⟨pa, pc, rfl, -, -⟩ := hp.sl
  obtain ⟨ca, cc, rfl, -, -⟩ := hc.sl
  generalize (fvals .f32 xs).length = np at *
  generalize (fvals .f32 cs).length = nc at *
  have HU' : (¬ (-100000000 ≤ ph ∧ ph ≤ 100000000) ∧ Hid (∀ w, Calls Tryd.prog 61 #[.int .i64 ph, .int .i64 nr] w fun e w' => e = .returned (.tuple #[.int .i64 0, .int .i64 2]) ∧ w = w')) ∨
      ((-100000000 ≤ ph ∧ ph ≤ 100000000) ∧ ¬ (-100000000 ≤ nr ∧ nr ≤ 100000000) ∧ Hid (∀ w, Calls Tryd.prog 61 #[.int .i64 ph, .int .i64 nr] w fun e w' => e = .returned (.tuple #[.int .i64 0, .int .i64 2]) ∧ w = w')) ∨
      ((-100000000 ≤ ph ∧ ph ≤ 100000000) ∧ (-100000000 ≤ nr ∧ nr ≤ 100000000) ∧ Hid (∀ w, Calls Tryd.prog 61 #[.int .i64 ph, .int .i64 nr] w fun e w' => e = .returned (.tuple #[.int .i64 (unfI ph nr), .int .i64 0]) ∧ w = w')) := by
    rcases HU with ⟨h1, -⟩ | ⟨h1, h2, -⟩ | ⟨h1, h2, -⟩
    · exact .inl ⟨h1, fun w => Unfolded_bad ph nr (.inl (by omega)) w⟩
    · exact .inr (.inl ⟨h1, h2, fun w => Unfolded_bad ph nr (.inr (by omega)) w⟩)
    · exact .inr (.inr ⟨h1, h2, fun w => Unfolded_ok ph nr (by omega) (by omega) w⟩)
  clear HU U hp hc hsm ht hlen
  have HCase : (Hid (∀ w, Calls Tryd.prog 61 #[.int .i64 ph, .int .i64 nr] w fun e w' => e = .returned (.tuple #[.int .i64 0, .int .i64 2]) ∧ w = w') ∧ Hid (∀ w, Calls Tryd.prog 32 #[.int .i64 ph, .int .i64 (-100000000), .int .i64 100000000] w fun e w' => e = .returned (.bool false) ∧ w = w')) ∨
      (Hid (∀ w, Calls Tryd.prog 61 #[.int .i64 ph, .int .i64 nr] w fun e w' => e = .returned (.tuple #[.int .i64 0, .int .i64 2]) ∧ w = w') ∧ Hid (∀ w, Calls Tryd.prog 32 #[.int .i64 ph, .int .i64 (-100000000), .int .i64 100000000] w fun e w' => e = .returned (.bool true) ∧ w = w') ∧ Hid (∀ w, Calls Tryd.prog 32 #[.int .i64 nr, .int .i64 (-100000000), .int .i64 100000000] w fun e w' => e = .returned (.bool false) ∧ w = w')) ∨
      (∃ Uu : Int, (-100005000 ≤ Uu ∧ Uu ≤ 100005000) ∧ (-100000000 ≤ ph ∧ ph ≤ 100000000) ∧ (-100000000 ≤ nr ∧ nr ≤ 100000000) ∧ Hid (∀ w, Calls Tryd.prog 61 #[.int .i64 ph, .int .i64 nr] w fun e w' => e = .returned (.tuple #[.int .i64 Uu, .int .i64 0]) ∧ w = w') ∧ Hid (∀ w, Calls Tryd.prog 32 #[.int .i64 ph, .int .i64 (-100000000), .int .i64 100000000] w fun e w' => e = .returned (.bool true) ∧ w = w') ∧ Hid (∀ w, Calls Tryd.prog 32 #[.int .i64 nr, .int .i64 (-100000000), .int .i64 100000000] w fun e w' => e = .returned (.bool true) ∧ w = w') ∧
        Hid (∀ w, Calls Tryd.prog 62 #[.int .i64 ph, .int .i64 nr] w fun e w' => e = .returned (.int .i64 Uu) ∧ w = w') ∧ Hid (∀ w, Calls Tryd.prog 63 #[.int .i64 (Uu - ph), .int .i64 4096] w fun e w' => e = .returned (.int .i64 0) ∧ w = w') ∧ Hid (∀ w, Calls Tryd.prog 32 #[.int .i64 (nr - Uu), .int .i64 (-2048), .int .i64 2048] w fun e w' => e = .returned (.bool true) ∧ w = w')) := by
    rcases HU' with ⟨h1, hu⟩ | ⟨h1, h2, hu⟩ | ⟨h1, h2, hu⟩
    · rw [decide_eq_false h1] at CW1
      exact .inl ⟨hu, CW1⟩
    · rw [decide_eq_true h1] at CW1
      rw [decide_eq_false h2] at CW2
      exact .inr (.inl ⟨hu, CW1, CW2⟩)
    · rw [decide_eq_true h1] at CW1
      rw [decide_eq_true h2] at CW2
      refine .inr (.inr ⟨unfI ph nr, ?_, h1, h2, hu, CW1, CW2, fun w => refUnfolded_any ph nr h1.1 h1.2 h2.1 h2.2 w, fun w => ?_, fun w => ?_⟩)
      · have := wrapI_b (ph - nr)
        unfold unfI
        omega
      · have := Mod_any (unfI ph nr - ph) 4096 (by decide) (by decide) w
        rwa [show (unfI ph nr - ph) % 4096 = 0 from by unfold unfI wrapI; omega] at this
      · have := Within_any (nr - unfI ph nr) (-2048) 2048 w
        rwa [decide_eq_true (by have := wrapI_b (ph - nr); unfold unfI; omega)] at this
  clear HU' CW1 CW2
  rcases HCase with ⟨CU, CW1⟩ | ⟨CU, CW1, CW2⟩ | ⟨Uu, ⟨u1, u2⟩, ⟨p1, p2⟩, ⟨q1, q2⟩, CU, CW1, CW2, CR, CM, CN⟩
  all_goals
    go_enter Tryd.func13, Tryd.ntmps13
    go_wp2_with fail
    obtain ⟨W0, hW0⟩ : ∃ W0, W0 = w.alloc (.cells #[.int .i64 l, .int .i64 s, .slice pa np pc, .slice ca nc cc] 24) := ⟨_, rfl⟩
    have SC0 := Lib.hid (HS0.out W0 hW0)
    rw [← hW0]
    clear hW0 HS0
    refine (CA.out _ SC0.out).mono ?_
    rintro e w1 ⟨rfl, hb⟩
    have SC1 := Lib.hid (SC0.out.next hb)
    clear hb SC0
    obtain ⟨k0, k1, k2, k3, kl⟩ := four_cells SC1.out.blk
    go_wp2_with fail
    refine (CS.out _ SC1.out).mono ?_
    rintro e w2 ⟨rfl, hb⟩
    have SC2 := Lib.hid (SC1.out.next hb)
    clear hb SC1 k0 k1 k2 k3 kl
    obtain ⟨k0, k1, k2, k3, kl⟩ := four_cells SC2.out.blk
    go_wp2_with fail
    refine (CU.out _).mono ?_
    rintro e w' ⟨rfl, rfl⟩
  · go_wp2_with fail
    refine (CW1.out _).mono ?_
    rintro e w' ⟨rfl, rfl⟩
    go_wp2_with fail
    refine (CI.out _ SC2.out).mono ?_
    rintro e w3 ⟨v3, rfl, hb, hs⟩
    have SC3 := Lib.hid (SC2.out.next hb)
    have V3 := Lib.hid hs
    clear hb hs SC2 k0 k1 k2 k3 kl
    obtain ⟨va3, vc3, rfl, -, -⟩ := V3.out.sl
    obtain ⟨k0, k1, k2, k3, kl⟩ := four_cells SC3.out.blk
    go_wp2_with fail
    refine (CP.out _ _ V3.out).mono ?_
    rintro e w4 ⟨rfl, hb⟩
    have SC4 := Lib.hid (SC3.out.next hb)
    clear hb SC3 k0 k1 k2 k3 kl
    obtain ⟨k0, k1, k2, k3, kl⟩ := four_cells SC4.out.blk
    go_wp2_with fail
    refine (CI.out _ SC4.out).mono ?_
    rintro e w5 ⟨v5, rfl, hb, hs⟩
    have SC5 := Lib.hid (SC4.out.next hb)
    have V5 := Lib.hid hs
    clear hb hs SC4 k0 k1 k2 k3 kl
    obtain ⟨va5, vc5, rfl, -, -⟩ := V5.out.sl
    obtain ⟨k0, k1, k2, k3, kl⟩ := four_cells SC5.out.blk
    go_wp2_with fail
    refine (CD.out _ _ V5.out).mono ?_
    rintro e w6 ⟨rfl, hb⟩
    have SC6 := Lib.hid (SC5.out.next hb)
    clear hb SC5 k0 k1 k2 k3 kl
    obtain ⟨k0, k1, k2, k3, kl⟩ := four_cells SC6.out.blk
    go_wp2_with fail
    refine (CI.out _ SC6.out).mono ?_
    rintro e w7 ⟨v7, rfl, hb, hs⟩
    have SC7 := Lib.hid (SC6.out.next hb)
    have V7 := Lib.hid hs
    clear hb hs SC6 k0 k1 k2 k3 kl
    obtain ⟨va7, vc7, rfl, -, -⟩ := V7.out.sl
    obtain ⟨k0, k1, k2, k3, kl⟩ := four_cells SC7.out.blk
    go_wp2_with fail
    refine (CC.out _ _ V7.out).mono ?_
    rintro e w8 ⟨rfl, hb⟩
    have SC8 := Lib.hid (SC7.out.next hb)
    clear hb SC7 k0 k1 k2 k3 kl
    obtain ⟨k0, k1, k2, k3, kl⟩ := four_cells SC8.out.blk
    go_wp2_with fail
    refine (CI.out _ SC8.out).mono ?_
    rintro e w9 ⟨v9, rfl, hb, hs⟩
    have SC9 := Lib.hid (SC8.out.next hb)
    have V9 := Lib.hid hs
    clear hb hs SC8 k0 k1 k2 k3 kl
    obtain ⟨va9, vc9, rfl, -, -⟩ := V9.out.sl
    obtain ⟨k0, k1, k2, k3, kl⟩ := four_cells SC9.out.blk
    go_wp2_with fail
    refine (CQ.out _ _ V9.out).mono ?_
    rintro e w10 ⟨rfl, hb⟩
    have SC10 := Lib.hid (SC9.out.next hb)
    clear hb SC9 k0 k1 k2 k3 kl
    obtain ⟨k0, k1, k2, k3, kl⟩ := four_cells SC10.out.blk
    go_wp2_with fail
    refine (CSum.out _).mono ?_
    rintro e w' ⟨rfl, rfl⟩
    go_wp2_with fail
    refine (CSS.out _).mono ?_
    rintro e w11 ⟨rfl, hb⟩
    have SC11 := Lib.hid (SC10.out.next hb)
    clear hb SC10 k0 k1 k2 k3 kl
    rcases hphs with ⟨h1, h2, hF⟩ | ⟨h1, h2, hF⟩ | ⟨h1, hF⟩
    · rw [hF.out]
      go_wp2_with fail
      go_ret
      exact ⟨by first | rfl | (simp; done), SC11.out.hb⟩
    · rw [hF.out]
      go_wp2_with fail
      refine (CPh.out _).mono ?_
      rintro e w12 ⟨rfl, hb⟩
      have SC12 := Lib.hid (SC11.out.next hb)
      clear hb
      go_wp2_with fail
      go_ret
      exact ⟨by first | rfl | (simp; done), SC12.out.hb⟩
    · rw [hF.out]
      go_wp2_with fail
      refine (CPh.out _).mono ?_
      rintro e w12 ⟨rfl, hb⟩
      have SC12 := Lib.hid (SC11.out.next hb)
      clear hb
      go_wp2_with fail
      go_ret
      exact ⟨by first | rfl | (simp; done), SC12.out.hb⟩
  · go_wp2_with fail
    refine (CW1.out _).mono ?_
    rintro e w' ⟨rfl, rfl⟩
    go_wp2_with fail
    refine (CW2.out _).mono ?_
    rintro e w' ⟨rfl, rfl⟩
    go_wp2_with fail
    refine (CI.out _ SC2.out).mono ?_
    rintro e w3 ⟨v3, rfl, hb, hs⟩
    have SC3 := Lib.hid (SC2.out.next hb)
    have V3 := Lib.hid hs
    clear hb hs SC2 k0 k1 k2 k3 kl
    obtain ⟨va3, vc3, rfl, -, -⟩ := V3.out.sl
    obtain ⟨k0, k1, k2, k3, kl⟩ := four_cells SC3.out.blk
    go_wp2_with fail
    refine (CP.out _ _ V3.out).mono ?_
    rintro e w4 ⟨rfl, hb⟩
    have SC4 := Lib.hid (SC3.out.next hb)
    clear hb SC3 k0 k1 k2 k3 kl
    obtain ⟨k0, k1, k2, k3, kl⟩ := four_cells SC4.out.blk
    go_wp2_with fail
    refine (CI.out _ SC4.out).mono ?_
    rintro e w5 ⟨v5, rfl, hb, hs⟩
    have SC5 := Lib.hid (SC4.out.next hb)
    have V5 := Lib.hid hs
    clear hb hs SC4 k0 k1 k2 k3 kl
    obtain ⟨va5, vc5, rfl, -, -⟩ := V5.out.sl
    obtain ⟨k0, k1, k2, k3, kl⟩ := four_cells SC5.out.blk
    go_wp2_with fail
    refine (CD.out _ _ V5.out).mono ?_
    rintro e w6 ⟨rfl, hb⟩
    have SC6 := Lib.hid (SC5.out.next hb)
    clear hb SC5 k0 k1 k2 k3 kl
    obtain ⟨k0, k1, k2, k3, kl⟩ := four_cells SC6.out.blk
    go_wp2_with fail
    refine (CI.out _ SC6.out).mono ?_
    rintro e w7 ⟨v7, rfl, hb, hs⟩
    have SC7 := Lib.hid (SC6.out.next hb)
    have V7 := Lib.hid hs
    clear hb hs SC6 k0 k1 k2 k3 kl
    obtain ⟨va7, vc7, rfl, -, -⟩ := V7.out.sl
    obtain ⟨k0, k1, k2, k3, kl⟩ := four_cells SC7.out.blk
    go_wp2_with fail
    refine (CC.out _ _ V7.out).mono ?_
    rintro e w8 ⟨rfl, hb⟩
    have SC8 := Lib.hid (SC7.out.next hb)
    clear hb SC7 k0 k1 k2 k3 kl
    obtain ⟨k0, k1, k2, k3, kl⟩ := four_cells SC8.out.blk
    go_wp2_with fail
    refine (CI.out _ SC8.out).mono ?_
    rintro e w9 ⟨v9, rfl, hb, hs⟩
    have SC9 := Lib.hid (SC8.out.next hb)
    have V9 := Lib.hid hs
    clear hb hs SC8 k0 k1 k2 k3 kl
    obtain ⟨va9, vc9, rfl, -, -⟩ := V9.out.sl
    obtain ⟨k0, k1, k2, k3, kl⟩ := four_cells SC9.out.blk
    go_wp2_with fail
    refine (CQ.out _ _ V9.out).mono ?_
    rintro e w10 ⟨rfl, hb⟩
    have SC10 := Lib.hid (SC9.out.next hb)
    clear hb SC9 k0 k1 k2 k3 kl
    obtain ⟨k0, k1, k2, k3, kl⟩ := four_cells SC10.out.blk
    go_wp2_with fail
    refine (CSum.out _).mono ?_
    rintro e w' ⟨rfl, rfl⟩
    go_wp2_with fail
    refine (CSS.out _).mono ?_
    rintro e w11 ⟨rfl, hb⟩
    have SC11 := Lib.hid (SC10.out.next hb)
    clear hb SC10 k0 k1 k2 k3 kl
    rcases hphs with ⟨h1, h2, hF⟩ | ⟨h1, h2, hF⟩ | ⟨h1, hF⟩
    · rw [hF.out]
      go_wp2_with fail
      go_ret
      exact ⟨by first | rfl | (simp; done), SC11.out.hb⟩
    · rw [hF.out]
      go_wp2_with fail
      refine (CPh.out _).mono ?_
      rintro e w12 ⟨rfl, hb⟩
      have SC12 := Lib.hid (SC11.out.next hb)
      clear hb
      go_wp2_with fail
      go_ret
      exact ⟨by first | rfl | (simp; done), SC12.out.hb⟩
    · rw [hF.out]
      go_wp2_with fail
      refine (CPh.out _).mono ?_
      rintro e w12 ⟨rfl, hb⟩
      have SC12 := Lib.hid (SC11.out.next hb)
      clear hb
      go_wp2_with fail
      go_ret
      exact ⟨by first | rfl | (simp; done), SC12.out.hb⟩
  · go_wp2_with fail
    refine (CW1.out _).mono ?_
    rintro e w' ⟨rfl, rfl⟩
    go_wp2_with fail
    refine (CW2.out _).mono ?_
    rintro e w' ⟨rfl, rfl⟩
    go_wp2_with fail
    refine (CR.out _).mono ?_
    rintro e w' ⟨rfl, rfl⟩
    go_wp2_with fail
    refine (CM.out _).mono ?_
    rintro e w' ⟨rfl, rfl⟩
    go_wp2_with fail
    refine (CN.out _).mono ?_
    rintro e w' ⟨rfl, rfl⟩
    go_wp2_with fail
    refine (CI.out _ SC2.out).mono ?_
    rintro e w3 ⟨v3, rfl, hb, hs⟩
    have SC3 := Lib.hid (SC2.out.next hb)
    have V3 := Lib.hid hs
    clear hb hs SC2 k0 k1 k2 k3 kl
    obtain ⟨va3, vc3, rfl, -, -⟩ := V3.out.sl
    obtain ⟨k0, k1, k2, k3, kl⟩ := four_cells SC3.out.blk
    go_wp2_with fail
    refine (CP.out _ _ V3.out).mono ?_
    rintro e w4 ⟨rfl, hb⟩
    have SC4 := Lib.hid (SC3.out.next hb)
    clear hb SC3 k0 k1 k2 k3 kl
    obtain ⟨k0, k1, k2, k3, kl⟩ := four_cells SC4.out.blk
    go_wp2_with fail
    refine (CI.out _ SC4.out).mono ?_
    rintro e w5 ⟨v5, rfl, hb, hs⟩
    have SC5 := Lib.hid (SC4.out.next hb)
    have V5 := Lib.hid hs
    clear hb hs SC4 k0 k1 k2 k3 kl
    obtain ⟨va5, vc5, rfl, -, -⟩ := V5.out.sl
    obtain ⟨k0, k1, k2, k3, kl⟩ := four_cells SC5.out.blk
    go_wp2_with fail
    refine (CD.out _ _ V5.out).mono ?_
    rintro e w6 ⟨rfl, hb⟩
    have SC6 := Lib.hid (SC5.out.next hb)
    clear hb SC5 k0 k1 k2 k3 kl
    obtain ⟨k0, k1, k2, k3, kl⟩ := four_cells SC6.out.blk
    go_wp2_with fail
    refine (CI.out _ SC6.out).mono ?_
    rintro e w7 ⟨v7, rfl, hb, hs⟩
    have SC7 := Lib.hid (SC6.out.next hb)
    have V7 := Lib.hid hs
    clear hb hs SC6 k0 k1 k2 k3 kl
    obtain ⟨va7, vc7, rfl, -, -⟩ := V7.out.sl
    obtain ⟨k0, k1, k2, k3, kl⟩ := four_cells SC7.out.blk
    go_wp2_with fail
    refine (CC.out _ _ V7.out).mono ?_
    rintro e w8 ⟨rfl, hb⟩
    have SC8 := Lib.hid (SC7.out.next hb)
    clear hb SC7 k0 k1 k2 k3 kl
    obtain ⟨k0, k1, k2, k3, kl⟩ := four_cells SC8.out.blk
    go_wp2_with fail
    refine (CI.out _ SC8.out).mono ?_
    rintro e w9 ⟨v9, rfl, hb, hs⟩
    have SC9 := Lib.hid (SC8.out.next hb)
    have V9 := Lib.hid hs
    clear hb hs SC8 k0 k1 k2 k3 kl
    obtain ⟨va9, vc9, rfl, -, -⟩ := V9.out.sl
    obtain ⟨k0, k1, k2, k3, kl⟩ := four_cells SC9.out.blk
    go_wp2_with fail
    refine (CQ.out _ _ V9.out).mono ?_
    rintro e w10 ⟨rfl, hb⟩
    have SC10 := Lib.hid (SC9.out.next hb)
    clear hb SC9 k0 k1 k2 k3 kl
    obtain ⟨k0, k1, k2, k3, kl⟩ := four_cells SC10.out.blk
    go_wp2_with fail
    refine (CSum.out _).mono ?_
    rintro e w' ⟨rfl, rfl⟩
    go_wp2_with fail
    refine (CSS.out _).mono ?_
    rintro e w11 ⟨rfl, hb⟩
    have SC11 := Lib.hid (SC10.out.next hb)
    clear hb SC10 k0 k1 k2 k3 kl
    rcases hphs with ⟨h1, h2, hF⟩ | ⟨h1, h2, hF⟩ | ⟨h1, hF⟩
    · rw [hF.out]
      go_wp2_with fail
      go_ret
      exact ⟨by first | rfl | (simp; done), SC11.out.hb⟩
    · rw [hF.out]
      go_wp2_with fail
      refine (CPh.out _).mono ?_
      rintro e w12 ⟨rfl, hb⟩
      have SC12 := Lib.hid (SC11.out.next hb)
      clear hb
      go_wp2_with fail
      go_ret
      exact ⟨by first | rfl | (simp; done), SC12.out.hb⟩
    · rw [hF.out]
      go_wp2_with fail
      refine (CPh.out _).mono ?_
      rintro e w12 ⟨rfl, hb⟩
      have SC12 := Lib.hid (SC11.out.next hb)
      clear hb
      go_wp2_with fail
      go_ret
      exact ⟨by first | rfl | (simp; done), SC12.out.hb⟩

/-- THE LAW, FOR ALL SCENES -/
theorem dopplers_any (l s : Int) (pv cv : Value) (xs cs : List Nat) (ph nr : Int) (w : World) (hp : Fls .f32 xs w pv) (hc : Fls .f32 cs w cv) (hl : I64 l) (hs : I64 s) (hz : ∀ z ∈ pairsOf xs, z.1 < 2 ^ 32 ∧ z.2 < 2 ^ 32) (ht : Tab w) :
    Calls Tryd.prog 13 #[.agg #[.int .i64 l, .int .i64 s, pv, cv], .int .i64 ph, .int .i64 nr] w fun e w' => e = .returned (.bool true) ∧ Below w.heap.size w w' := by
  cases hsm : SmallB xs.length cs.length with
  | false => exact dopplers_long l s pv cv xs cs ph nr w hp hc hsm ht
  | true =>
    by_cases hE : pairErr l s (pairsOf xs) = 0
    · exact dopplers_ok l s pv cv xs cs ph nr w hp hc hsm ht hz hE
    · exact dopplers_bad l s pv cv xs cs ph nr w hp hc hsm ht hl hs hE
end Go.Proofs.YtcjdbhcpcigmdaaDoor
