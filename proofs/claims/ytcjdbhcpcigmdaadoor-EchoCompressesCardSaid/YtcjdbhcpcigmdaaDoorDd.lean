import Derived.Test.YtcjdbhcpcigmdaaDoorDc
namespace Go.Proofs.YtcjdbhcpcigmdaaDoor
open Go.RowKit Go.Proofs.YtcjdbhcpcigmdaaDoor.Flt

theorem four_cells {w : World} {N : Nat} {a b c d : Value} {t : TypeId} (h : w.heap[N]? = some (.cells #[a, b, c, d] t (0, 0))) :
    w.cell? ⟨N, 0, none⟩ = some a ∧ w.cell? ⟨N, 1, none⟩ = some b ∧ w.cell? ⟨N, 2, none⟩ = some c ∧ w.cell? ⟨N, 3, none⟩ = some d ∧ N < w.heap.size :=
  ⟨cell_of_row w N 0 _ t _ h, cell_of_row w N 1 _ t _ h, cell_of_row w N 2 _ t _ h, cell_of_row w N 3 _ t _ h, lt_of_block h⟩

/-- a scene that a law was handed, in its box -/
structure ScIn (l s : Int) (pv cv : Value) (xs cs : List Nat) (w W : World) : Prop where
  blk : W.heap[w.heap.size]? = some (.cells #[.int .i64 l, .int .i64 s, pv, cv] 24 (0, 0))
  hb : Below w.heap.size w W
  p : Fls .f32 xs W pv
  c : Fls .f32 cs W cv
theorem ScIn.start {l s : Int} {pv cv : Value} {xs cs : List Nat} {w : World} (hp : Fls .f32 xs w pv) (hc : Fls .f32 cs w cv) : ScIn l s pv cv xs cs w (w.alloc (.cells #[.int .i64 l, .int .i64 s, pv, cv] 24)) := by
  have hb : Below w.heap.size w (w.alloc (.cells #[.int .i64 l, .int .i64 s, pv, cv] 24)) := (Below.refl _ _).alloc (Nat.le_refl _) _
  exact ⟨heap_alloc_new _ _, hb, hp.below hb, hc.below hb⟩
theorem ScIn.next {l s : Int} {pv cv : Value} {xs cs : List Nat} {w W W' : World} (h : ScIn l s pv cv xs cs w W) (hb : Below W.heap.size W W') : ScIn l s pv cv xs cs w W' :=
  ⟨(hb.block _ (lt_of_block h.blk)).trans h.blk, h.hb.trans (hb.mono h.hb.size), h.p.below hb, h.c.below hb⟩

set_option maxRecDepth 100000 in
theorem dopplers_long (l s : Int) (pv cv : Value) (xs cs : List Nat) (ph nr : Int) (w : World) (hp : Fls .f32 xs w pv) (hc : Fls .f32 cs w cv) (hsm : SmallB xs.length cs.length = false) (ht : Tab w) :
    Calls Tryd.prog 13 #[.agg #[.int .i64 l, .int .i64 s, pv, cv], .int .i64 ph, .int .i64 nr] w fun e w' => e = .returned (.bool true) ∧ Below w.heap.size w w' := by
  have CA := Lib.hid (fun W (h : ScIn l s pv cv xs cs w W) => awake_any W (ht.below h.hb))
  have CS : Hid (∀ W, ScIn l s pv cv xs cs w W → Calls Tryd.prog 16 #[.agg #[.int .i64 l, .int .i64 s, pv, cv]] W fun e w' => e = .returned (.bool false) ∧ Below W.heap.size W w') := fun W h => by
    have := Small_any l s pv cv xs cs W h.p h.c
    rwa [hsm] at this
  have HS0 : Hid (∀ W0, W0 = w.alloc (.cells #[.int .i64 l, .int .i64 s, pv, cv] 24) → ScIn l s pv cv xs cs w W0) := by
    rintro W0 rfl
    exact ScIn.start hp hc
  obtain ⟨pa, pc, rfl, -, -⟩ := hp.sl
  obtain ⟨ca, cc, rfl, -, -⟩ := hc.sl
  generalize (fvals .f32 xs).length = np at *
  generalize (fvals .f32 cs).length = nc at *
  clear hp hc hsm ht
  go_enter Tryd.func13, Tryd.ntmps13
  go_wp2_with fail
  obtain ⟨W0, hW0⟩ : ∃ W0, W0 = w.alloc (.cells #[.int .i64 l, .int .i64 s, .slice pa np pc, .slice ca nc cc] 24) := ⟨_, rfl⟩
  have SC0 := Lib.hid (HS0.out W0 hW0)
  rw [← hW0]
  clear hW0 HS0
  refine (CA.out _ SC0.out).mono ?_
  rintro e w1 ⟨rfl, hb⟩
  have SC1 := Lib.hid (SC0.out.next hb)
  clear hb SC0
  obtain ⟨k0, k1, k2, k3, kl⟩ := four_cells SC1.out.blk
  go_wp2_with fail
  refine (CS.out _ SC1.out).mono ?_
  rintro e w2 ⟨rfl, hb⟩
  have SC2 := Lib.hid (SC1.out.next hb)
  clear hb SC1
  go_wp2_with fail
  go_ret
  exact ⟨rfl, SC2.out.hb⟩

set_option maxRecDepth 100000 in
set_option maxHeartbeats 4000000 in
theorem dopplers_bad (l s : Int) (pv cv : Value) (xs cs : List Nat) (ph nr : Int) (w : World) (hp : Fls .f32 xs w pv) (hc : Fls .f32 cs w cv) (hsm : SmallB xs.length cs.length = true) (ht : Tab w) (hl : I64 l) (hs : I64 s) (hE : pairErr l s (pairsOf xs) ≠ 0) :
    Calls Tryd.prog 13 #[.agg #[.int .i64 l, .int .i64 s, pv, cv], .int .i64 ph, .int .i64 nr] w fun e w' => e = .returned (.bool true) ∧ Below w.heap.size w w' := by
  have CA := Lib.hid (fun W (h : ScIn l s pv cv xs cs w W) => awake_any W (ht.below h.hb))
  have CS : Hid (∀ W, ScIn l s pv cv xs cs w W → Calls Tryd.prog 16 #[.agg #[.int .i64 l, .int .i64 s, pv, cv]] W fun e w' => e = .returned (.bool true) ∧ Below W.heap.size W w') := fun W h => by
    have := Small_any l s pv cv xs cs W h.p h.c
    rwa [hsm] at this
  have HS0 : Hid (∀ W0, W0 = w.alloc (.cells #[.int .i64 l, .int .i64 s, pv, cv] 24) → ScIn l s pv cv xs cs w W0) := by
    rintro W0 rfl
    exact ScIn.start hp hc
  have hlen : xs.length ≤ 100000 := by
    unfold SmallB at hsm
    simp at hsm
    omega
  have CI := Lib.hid (fun W (h : ScIn l s pv cv xs cs w W) => lawImage_any l s pv cv xs W h.p hlen)
  have CW1 := Lib.hid (fun w => Within_any ph (-100000000) 100000000 w)
  have CW2 := Lib.hid (fun w => Within_any nr (-100000000) 100000000 w)
  obtain ⟨U, HU⟩ : ∃ U : Int × Int, (¬ (-100000000 ≤ ph ∧ ph ≤ 100000000) ∧ U = (0, 2)) ∨ ((-100000000 ≤ ph ∧ ph ≤ 100000000) ∧ ¬ (-100000000 ≤ nr ∧ nr ≤ 100000000) ∧ U = (0, 2)) ∨ ((-100000000 ≤ ph ∧ ph ≤ 100000000) ∧ (-100000000 ≤ nr ∧ nr ≤ 100000000) ∧ U = (unfI ph nr, 0)) := by
    by_cases h1 : -100000000 ≤ ph ∧ ph ≤ 100000000
    · by_cases h2 : -100000000 ≤ nr ∧ nr ≤ 100000000
      · exact ⟨_, .inr (.inr ⟨h1, h2, rfl⟩)⟩
      · exact ⟨_, .inr (.inl ⟨h1, h2, rfl⟩)⟩
    · exact ⟨_, .inl ⟨h1, rfl⟩⟩
  have CP := Lib.hid (fun W v (hv : Smp .f32 (pairsOf xs) W v) => PairSum_bad l s v (pairsOf xs) W hl hs hv.sl hE)
  have CD := Lib.hid (fun W v (hv : Smp .f32 (pairsOf xs) W v) => Doppler_bad l s v (pairsOf xs) W hl hs hv.sl hE)
  have CC := Lib.hid (fun W v (hv : Smp .f32 (pairsOf xs) W v) => refCheckImage_any l s v (pairsOf xs) W hv.sl)
  have hcc : ((((dataErr .f32 2047 l s (pairsOf xs)).2 == 0) = false ∧ ((dataErr .f32 2047 l s (pairsOf xs)).2 != 0) = true ∧ Hid (pairErr l s (pairsOf xs) = (dataErr .f32 2047 l s (pairsOf xs)).2)) ∨
      (((dataErr .f32 2047 l s (pairsOf xs)).2 == 0) = true ∧ ((l : Int) == 1) = true ∧ Hid (pairErr l s (pairsOf xs) = 10))) := by
    unfold Hid pairErr at *
    by_cases h1 : (dataErr .f32 2047 l s (pairsOf xs)).2 = 0
    · rw [if_neg (fun c => c h1)] at hE ⊢
      by_cases h2 : l = 1
      · right; exact ⟨by rw [beq_iff_eq]; exact h1, by rw [beq_iff_eq]; exact h2, by rw [if_pos h2]⟩
      · rw [if_neg h2] at hE; exact absurd rfl hE
    · left; exact ⟨by rw [beq_eq_false_iff_ne]; exact h1, by rw [bne_iff_ne]; exact h1, by rw [if_pos h1]⟩
  generalize (dataErr .f32 2047 l s (pairsOf xs)).1 = D1 at *
  generalize (dataErr .f32 2047 l s (pairsOf xs)).2 = D2 at *
  generalize pairErr l s (pairsOf xs) = E at *
  generalize pairsOf xs = zs at *
  have oz := o_zero
  clear hl hs hE
  obtain ⟨pa, pc, rfl, -, -⟩ := hp.sl
  obtain ⟨ca, cc, rfl, -, -⟩ := hc.sl
  generalize (fvals .f32 xs).length = np at *
  generalize (fvals .f32 cs).length = nc at *
  have HU' : (¬ (-100000000 ≤ ph ∧ ph ≤ 100000000) ∧ Hid (∀ w, Calls Tryd.prog 61 #[.int .i64 ph, .int .i64 nr] w fun e w' => e = .returned (.tuple #[.int .i64 0, .int .i64 2]) ∧ w = w')) ∨
      ((-100000000 ≤ ph ∧ ph ≤ 100000000) ∧ ¬ (-100000000 ≤ nr ∧ nr ≤ 100000000) ∧ Hid (∀ w, Calls Tryd.prog 61 #[.int .i64 ph, .int .i64 nr] w fun e w' => e = .returned (.tuple #[.int .i64 0, .int .i64 2]) ∧ w = w')) ∨
      ((-100000000 ≤ ph ∧ ph ≤ 100000000) ∧ (-100000000 ≤ nr ∧ nr ≤ 100000000) ∧ Hid (∀ w, Calls Tryd.prog 61 #[.int .i64 ph, .int .i64 nr] w fun e w' => e = .returned (.tuple #[.int .i64 (unfI ph nr), .int .i64 0]) ∧ w = w')) := by
    rcases HU with ⟨h1, -⟩ | ⟨h1, h2, -⟩ | ⟨h1, h2, -⟩
    · exact .inl ⟨h1, fun w => Unfolded_bad ph nr (.inl (by omega)) w⟩
    · exact .inr (.inl ⟨h1, h2, fun w => Unfolded_bad ph nr (.inr (by omega)) w⟩)
    · exact .inr (.inr ⟨h1, h2, fun w => Unfolded_ok ph nr (by omega) (by omega) w⟩)
  clear HU U hp hc hsm ht hlen
  have HCase : (Hid (∀ w, Calls Tryd.prog 61 #[.int .i64 ph, .int .i64 nr] w fun e w' => e = .returned (.tuple #[.int .i64 0, .int .i64 2]) ∧ w = w') ∧ Hid (∀ w, Calls Tryd.prog 32 #[.int .i64 ph, .int .i64 (-100000000), .int .i64 100000000] w fun e w' => e = .returned (.bool false) ∧ w = w')) ∨
      (Hid (∀ w, Calls Tryd.prog 61 #[.int .i64 ph, .int .i64 nr] w fun e w' => e = .returned (.tuple #[.int .i64 0, .int .i64 2]) ∧ w = w') ∧ Hid (∀ w, Calls Tryd.prog 32 #[.int .i64 ph, .int .i64 (-100000000), .int .i64 100000000] w fun e w' => e = .returned (.bool true) ∧ w = w') ∧ Hid (∀ w, Calls Tryd.prog 32 #[.int .i64 nr, .int .i64 (-100000000), .int .i64 100000000] w fun e w' => e = .returned (.bool false) ∧ w = w')) ∨
      (∃ Uu : Int, (-100005000 ≤ Uu ∧ Uu ≤ 100005000) ∧ (-100000000 ≤ ph ∧ ph ≤ 100000000) ∧ (-100000000 ≤ nr ∧ nr ≤ 100000000) ∧ Hid (∀ w, Calls Tryd.prog 61 #[.int .i64 ph, .int .i64 nr] w fun e w' => e = .returned (.tuple #[.int .i64 Uu, .int .i64 0]) ∧ w = w') ∧ Hid (∀ w, Calls Tryd.prog 32 #[.int .i64 ph, .int .i64 (-100000000), .int .i64 100000000] w fun e w' => e = .returned (.bool true) ∧ w = w') ∧ Hid (∀ w, Calls Tryd.prog 32 #[.int .i64 nr, .int .i64 (-100000000), .int .i64 100000000] w fun e w' => e = .returned (.bool true) ∧ w = w') ∧
        Hid (∀ w, Calls Tryd.prog 62 #[.int .i64 ph, .int .i64 nr] w fun e w' => e = .returned (.int .i64 Uu) ∧ w = w') ∧ Hid (∀ w, Calls Tryd.prog 63 #[.int .i64 (Uu - ph), .int .i64 4096] w fun e w' => e = .returned (.int .i64 0) ∧ w = w') ∧ Hid (∀ w, Calls Tryd.prog 32 #[.int .i64 (nr - Uu), .int .i64 (-2048), .int .i64 2048] w fun e w' => e = .returned (.bool true) ∧ w = w')) := by
    rcases HU' with ⟨h1, hu⟩ | ⟨h1, h2, hu⟩ | ⟨h1, h2, hu⟩
    · rw [decide_eq_false h1] at CW1
      exact .inl ⟨hu, CW1⟩
    · rw [decide_eq_true h1] at CW1
      rw [decide_eq_false h2] at CW2
      exact .inr (.inl ⟨hu, CW1, CW2⟩)
    · rw [decide_eq_true h1] at CW1
      rw [decide_eq_true h2] at CW2
      refine .inr (.inr ⟨unfI ph nr, ?_, h1, h2, hu, CW1, CW2, fun w => refUnfolded_any ph nr h1.1 h1.2 h2.1 h2.2 w, fun w => ?_, fun w => ?_⟩)
      · have := wrapI_b (ph - nr)
        unfold unfI
        omega
      · have := Mod_any (unfI ph nr - ph) 4096 (by decide) (by decide) w
        rwa [show (unfI ph nr - ph) % 4096 = 0 from by unfold unfI wrapI; omega] at this
      · have := Within_any (nr - unfI ph nr) (-2048) 2048 w
        rwa [decide_eq_true (by have := wrapI_b (ph - nr); unfold unfI; omega)] at this
  clear HU' CW1 CW2
  rcases HCase with ⟨CU, CW1⟩ | ⟨CU, CW1, CW2⟩ | ⟨Uu, ⟨u1, u2⟩, ⟨p1, p2⟩, ⟨q1, q2⟩, CU, CW1, CW2, CR, CM, CN⟩
  all_goals
    go_enter Tryd.func13, Tryd.ntmps13
    go_wp2_with fail
    obtain ⟨W0, hW0⟩ : ∃ W0, W0 = w.alloc (.cells #[.int .i64 l, .int .i64 s, .slice pa np pc, .slice ca nc cc] 24) := ⟨_, rfl⟩
    have SC0 := Lib.hid (HS0.out W0 hW0)
    rw [← hW0]
    clear hW0 HS0
    refine (CA.out _ SC0.out).mono ?_
    rintro e w1 ⟨rfl, hb⟩
    have SC1 := Lib.hid (SC0.out.next hb)
    clear hb SC0
    obtain ⟨k0, k1, k2, k3, kl⟩ := four_cells SC1.out.blk
    go_wp2_with fail
    refine (CS.out _ SC1.out).mono ?_
    rintro e w2 ⟨rfl, hb⟩
    have SC2 := Lib.hid (SC1.out.next hb)
    clear hb SC1 k0 k1 k2 k3 kl
    obtain ⟨k0, k1, k2, k3, kl⟩ := four_cells SC2.out.blk
    go_wp2_with fail
    refine (CU.out _).mono ?_
    rintro e w' ⟨rfl, rfl⟩
  · go_wp2_with fail
    refine (CW1.out _).mono ?_
    rintro e w' ⟨rfl, rfl⟩
    go_wp2_with fail
    refine (CI.out _ SC2.out).mono ?_
    rintro e w3 ⟨v3, rfl, hb, hs⟩
    have SC3 := Lib.hid (SC2.out.next hb)
    have V3 := Lib.hid hs
    clear hb hs SC2 k0 k1 k2 k3 kl
    obtain ⟨va3, vc3, rfl, -, -⟩ := V3.out.sl
    obtain ⟨k0, k1, k2, k3, kl⟩ := four_cells SC3.out.blk
    go_wp2_with fail
    refine (CP.out _ _ V3.out).mono ?_
    rintro e w4 ⟨rfl, hb⟩
    have SC4 := Lib.hid (SC3.out.next hb)
    clear hb SC3 k0 k1 k2 k3 kl
    obtain ⟨k0, k1, k2, k3, kl⟩ := four_cells SC4.out.blk
    go_wp2_with fail
    refine (CI.out _ SC4.out).mono ?_
    rintro e w5 ⟨v5, rfl, hb, hs⟩
    have SC5 := Lib.hid (SC4.out.next hb)
    have V5 := Lib.hid hs
    clear hb hs SC4 k0 k1 k2 k3 kl
    obtain ⟨va5, vc5, rfl, -, -⟩ := V5.out.sl
    obtain ⟨k0, k1, k2, k3, kl⟩ := four_cells SC5.out.blk
    go_wp2_with fail
    refine (CD.out _ _ V5.out).mono ?_
    rintro e w6 ⟨rfl, hb⟩
    have SC6 := Lib.hid (SC5.out.next hb)
    clear hb SC5 k0 k1 k2 k3 kl
    obtain ⟨k0, k1, k2, k3, kl⟩ := four_cells SC6.out.blk
    go_wp2_with fail
    refine (CI.out _ SC6.out).mono ?_
    rintro e w7 ⟨v7, rfl, hb, hs⟩
    have SC7 := Lib.hid (SC6.out.next hb)
    have V7 := Lib.hid hs
    clear hb hs SC6 k0 k1 k2 k3 kl
    obtain ⟨va7, vc7, rfl, -, -⟩ := V7.out.sl
    obtain ⟨k0, k1, k2, k3, kl⟩ := four_cells SC7.out.blk
    go_wp2_with fail
    refine (CC.out _ _ V7.out).mono ?_
    rintro e w8 ⟨rfl, hb⟩
    have SC8 := Lib.hid (SC7.out.next hb)
    clear hb SC7 k0 k1 k2 k3 kl
    obtain ⟨k0, k1, k2, k3, kl⟩ := four_cells SC8.out.blk
    rcases hcc with ⟨h1, h2, hF⟩ | ⟨h1, h2, hF⟩
    · rw [hF.out]
      go_wp2_with fail
      go_ret
      exact ⟨by first | rfl | (simp; done), SC8.out.hb⟩
    · rw [hF.out]
      go_wp2_with fail
      go_ret
      exact ⟨by first | rfl | (simp; done), SC8.out.hb⟩
  · go_wp2_with fail
    refine (CW1.out _).mono ?_
    rintro e w' ⟨rfl, rfl⟩
    go_wp2_with fail
    refine (CW2.out _).mono ?_
    rintro e w' ⟨rfl, rfl⟩
    go_wp2_with fail
    refine (CI.out _ SC2.out).mono ?_
    rintro e w3 ⟨v3, rfl, hb, hs⟩
    have SC3 := Lib.hid (SC2.out.next hb)
    have V3 := Lib.hid hs
    clear hb hs SC2 k0 k1 k2 k3 kl
    obtain ⟨va3, vc3, rfl, -, -⟩ := V3.out.sl
    obtain ⟨k0, k1, k2, k3, kl⟩ := four_cells SC3.out.blk
    go_wp2_with fail
    refine (CP.out _ _ V3.out).mono ?_
    rintro e w4 ⟨rfl, hb⟩
    have SC4 := Lib.hid (SC3.out.next hb)
    clear hb SC3 k0 k1 k2 k3 kl
    obtain ⟨k0, k1, k2, k3, kl⟩ := four_cells SC4.out.blk
    go_wp2_with fail
    refine (CI.out _ SC4.out).mono ?_
    rintro e w5 ⟨v5, rfl, hb, hs⟩
    have SC5 := Lib.hid (SC4.out.next hb)
    have V5 := Lib.hid hs
    clear hb hs SC4 k0 k1 k2 k3 kl
    obtain ⟨va5, vc5, rfl, -, -⟩ := V5.out.sl
    obtain ⟨k0, k1, k2, k3, kl⟩ := four_cells SC5.out.blk
    go_wp2_with fail
    refine (CD.out _ _ V5.out).mono ?_
    rintro e w6 ⟨rfl, hb⟩
    have SC6 := Lib.hid (SC5.out.next hb)
    clear hb SC5 k0 k1 k2 k3 kl
    obtain ⟨k0, k1, k2, k3, kl⟩ := four_cells SC6.out.blk
    go_wp2_with fail
    refine (CI.out _ SC6.out).mono ?_
    rintro e w7 ⟨v7, rfl, hb, hs⟩
    have SC7 := Lib.hid (SC6.out.next hb)
    have V7 := Lib.hid hs
    clear hb hs SC6 k0 k1 k2 k3 kl
    obtain ⟨va7, vc7, rfl, -, -⟩ := V7.out.sl
    obtain ⟨k0, k1, k2, k3, kl⟩ := four_cells SC7.out.blk
    go_wp2_with fail
    refine (CC.out _ _ V7.out).mono ?_
    rintro e w8 ⟨rfl, hb⟩
    have SC8 := Lib.hid (SC7.out.next hb)
    clear hb SC7 k0 k1 k2 k3 kl
    obtain ⟨k0, k1, k2, k3, kl⟩ := four_cells SC8.out.blk
    rcases hcc with ⟨h1, h2, hF⟩ | ⟨h1, h2, hF⟩
    · rw [hF.out]
      go_wp2_with fail
      go_ret
      exact ⟨by first | rfl | (simp; done), SC8.out.hb⟩
    · rw [hF.out]
      go_wp2_with fail
      go_ret
      exact ⟨by first | rfl | (simp; done), SC8.out.hb⟩
  · go_wp2_with fail
    refine (CW1.out _).mono ?_
    rintro e w' ⟨rfl, rfl⟩
    go_wp2_with fail
    refine (CW2.out _).mono ?_
    rintro e w' ⟨rfl, rfl⟩
    go_wp2_with fail
    refine (CR.out _).mono ?_
    rintro e w' ⟨rfl, rfl⟩
    go_wp2_with fail
    refine (CM.out _).mono ?_
    rintro e w' ⟨rfl, rfl⟩
    go_wp2_with fail
    refine (CN.out _).mono ?_
    rintro e w' ⟨rfl, rfl⟩
    go_wp2_with fail
    refine (CI.out _ SC2.out).mono ?_
    rintro e w3 ⟨v3, rfl, hb, hs⟩
    have SC3 := Lib.hid (SC2.out.next hb)
    have V3 := Lib.hid hs
    clear hb hs SC2 k0 k1 k2 k3 kl
    obtain ⟨va3, vc3, rfl, -, -⟩ := V3.out.sl
    obtain ⟨k0, k1, k2, k3, kl⟩ := four_cells SC3.out.blk
    go_wp2_with fail
    refine (CP.out _ _ V3.out).mono ?_
    rintro e w4 ⟨rfl, hb⟩
    have SC4 := Lib.hid (SC3.out.next hb)
    clear hb SC3 k0 k1 k2 k3 kl
    obtain ⟨k0, k1, k2, k3, kl⟩ := four_cells SC4.out.blk
    go_wp2_with fail
    refine (CI.out _ SC4.out).mono ?_
    rintro e w5 ⟨v5, rfl, hb, hs⟩
    have SC5 := Lib.hid (SC4.out.next hb)
    have V5 := Lib.hid hs
    clear hb hs SC4 k0 k1 k2 k3 kl
    obtain ⟨va5, vc5, rfl, -, -⟩ := V5.out.sl
    obtain ⟨k0, k1, k2, k3, kl⟩ := four_cells SC5.out.blk
    go_wp2_with fail
    refine (CD.out _ _ V5.out).mono ?_
    rintro e w6 ⟨rfl, hb⟩
    have SC6 := Lib.hid (SC5.out.next hb)
    clear hb SC5 k0 k1 k2 k3 kl
    obtain ⟨k0, k1, k2, k3, kl⟩ := four_cells SC6.out.blk
    go_wp2_with fail
    refine (CI.out _ SC6.out).mono ?_
    rintro e w7 ⟨v7, rfl, hb, hs⟩
    have SC7 := Lib.hid (SC6.out.next hb)
    have V7 := Lib.hid hs
    clear hb hs SC6 k0 k1 k2 k3 kl
    obtain ⟨va7, vc7, rfl, -, -⟩ := V7.out.sl
    obtain ⟨k0, k1, k2, k3, kl⟩ := four_cells SC7.out.blk
    go_wp2_with fail
    refine (CC.out _ _ V7.out).mono ?_
    rintro e w8 ⟨rfl, hb⟩
    have SC8 := Lib.hid (SC7.out.next hb)
    clear hb SC7 k0 k1 k2 k3 kl
    obtain ⟨k0, k1, k2, k3, kl⟩ := four_cells SC8.out.blk
    rcases hcc with ⟨h1, h2, hF⟩ | ⟨h1, h2, hF⟩
    · rw [hF.out]
      go_wp2_with fail
      go_ret
      exact ⟨by first | rfl | (simp; done), SC8.out.hb⟩
    · rw [hF.out]
      go_wp2_with fail
      go_ret
      exact ⟨by first | rfl | (simp; done), SC8.out.hb⟩
end Go.Proofs.YtcjdbhcpcigmdaaDoor
