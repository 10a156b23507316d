import Derived.Test.YtcjdbhcpcigmdaaDoorCe
import Derived.Deep.RegionHeld3
namespace Go.Proofs.YtcjdbhcpcigmdaaDoor
open Go.RowKit Go.Proofs.YtcjdbhcpcigmdaaDoor.Flt

set_option maxRecDepth 100000 in
theorem compresses_long (l s : Int) (pv cv : Value) (xs cs : List Nat) (w : World) (hp : Fls .f32 xs w pv) (hc : Fls .f32 cs w cv) (hsm : SmallB xs.length cs.length = false) (ht : Tab w) :
    Calls Tryd.prog 5 #[.agg #[.int .i64 l, .int .i64 s, pv, cv]] w fun e w' => e = .returned (.bool true) ∧ Below w.heap.size w w' := by
  have CA := Lib.hid (fun W (h : ScIn l s pv cv xs cs w W) => awake_any W (ht.below h.hb))
  have CS : Hid (∀ W, ScIn l s pv cv xs cs w W → Calls Tryd.prog 16 #[.agg #[.int .i64 l, .int .i64 s, pv, cv]] W fun e w' => e = .returned (.bool false) ∧ Below W.heap.size W w') := fun W h => by
    have := Small_any l s pv cv xs cs W h.p h.c
    rwa [hsm] at this
  have HS0 : Hid (∀ W0, W0 = w.alloc (.cells #[.int .i64 l, .int .i64 s, pv, cv] 24) → ScIn l s pv cv xs cs w W0) := by
    rintro W0 rfl
    exact ScIn.start hp hc
  obtain ⟨pa, pc, rfl, -, -⟩ := hp.sl
  obtain ⟨ca, cc, rfl, -, -⟩ := hc.sl
  generalize (fvals .f32 xs).length = np at *
  generalize (fvals .f32 cs).length = nc at *
  clear hp hc hsm ht
  go_enter Tryd.func5, Tryd.ntmps5
  go_wp2_with fail
  obtain ⟨W0, hW0⟩ : ∃ W0, W0 = w.alloc (.cells #[.int .i64 l, .int .i64 s, .slice pa np pc, .slice ca nc cc] 24) := ⟨_, rfl⟩
  have SC0 := Lib.hid (HS0.out W0 hW0)
  rw [← hW0]
  clear hW0 HS0
  refine (CA.out _ SC0.out).mono ?_
  rintro e w1 ⟨rfl, hb⟩
  have SC1 := Lib.hid (SC0.out.next hb)
  clear hb SC0
  obtain ⟨k0, k1, k2, k3, kl⟩ := four_cells SC1.out.blk
  go_wp2_with fail
  refine (CS.out _ SC1.out).mono ?_
  rintro e w2 ⟨rfl, hb⟩
  have SC2 := Lib.hid (SC1.out.next hb)
  clear hb SC1
  go_wp2_with fail
  go_ret
  exact ⟨rfl, SC2.out.hb⟩

/-- FieldE, and nothing at all where there is an error -/
def FieldN (l s : Int) (C : List (Nat × Nat)) (E : Int) (w : World) (e : Ending) (w' : World) : Prop :=
  ∃ v, e = .returned (.tuple #[.agg #[.int .i64 l, .int .i64 s, v], .int .i64 E]) ∧ Below w.heap.size w w' ∧ Smp .f64 C w' v ∧ (E ≠ 0 → v = .slice none 0 0)

set_option maxRecDepth 100000 in
set_option maxHeartbeats 20000000 in
theorem compresses_short (l s : Int) (pv cv : Value) (xs cs : List Nat) (w : World) (hp : Fls .f32 xs w pv) (hc : Fls .f32 cs w cv) (hl : I64 l) (hs : I64 s) (hz : ∀ z ∈ pairsOf xs, z.1 < 2 ^ 32 ∧ z.2 < 2 ^ 32) (hu : ∀ z ∈ pairsOf cs, z.1 < 2 ^ 32 ∧ z.2 < 2 ^ 32) (hsm : SmallB xs.length cs.length = true) (ht : Tab w) :
    Calls Tryd.prog 5 #[.agg #[.int .i64 l, .int .i64 s, pv, cv]] w fun e w' => e = .returned (.bool true) ∧ Below w.heap.size w w' := by
  have CA := Lib.hid (fun W (h : ScIn l s pv cv xs cs w W) => awake_any W (ht.below h.hb))
  have CS : Hid (∀ W, ScIn l s pv cv xs cs w W → Calls Tryd.prog 16 #[.agg #[.int .i64 l, .int .i64 s, pv, cv]] W fun e w' => e = .returned (.bool true) ∧ Below W.heap.size W w') := fun W h => by
    have := Small_any l s pv cv xs cs W h.p h.c
    rwa [hsm] at this
  have HS0 : Hid (∀ W0, W0 = w.alloc (.cells #[.int .i64 l, .int .i64 s, pv, cv] 24) → ScIn l s pv cv xs cs w W0) := by
    rintro W0 rfl
    exact ScIn.start hp hc
  have hlen : xs.length ≤ 100000 ∧ cs.length ≤ 100000 := by
    unfold SmallB at hsm
    simp at hsm
    omega
  have CI := Lib.hid (fun W (h : ScIn l s pv cv xs cs w W) => lawImage_any l s pv cv xs W h.p hlen.1)
  have CK := Lib.hid (fun W (h : ScIn l s pv cv xs cs w W) => lawCode_any l s pv cv cs W h.c hlen.2)
  have CC := Lib.hid (fun W v (hv : Smp .f32 (pairsOf xs) W v) => refCheckImage_any l s v (pairsOf xs) W hv.sl)
  have CQ := Lib.hid (fun W v (hv : Smp .f32 (pairsOf cs) W v) => refCheckCode_any v (pairsOf cs) W hv.sl)
  have CP := Lib.hid (fun W v (hv : Smp .f32 (pairsOf cs) W v) => CheckCode_any v (pairsOf cs) W hv.sl)
  obtain ⟨l', s', C, hX, hbad, hR⟩ := compress_E l s (pairsOf xs) (pairsOf cs) hl hs hz hu
  have CX : Hid (∀ W v k, Smp .f32 (pairsOf xs) W v → Smp .f32 (pairsOf cs) W k → Calls Tryd.prog 36 #[.agg #[.int .i64 l, .int .i64 s, v], k] W (FieldN l' s' C (compErr l s (pairsOf xs) (pairsOf cs)) W)) := fun W v k hv hk => by
    by_cases h : compErr l s (pairsOf xs) (pairsOf cs) = 0
    · exact (hX W v k hv hk).mono fun e w' ⟨v', h1, h2, h3⟩ => ⟨v', h1, h2, h3, fun c => absurd h c⟩
    · obtain ⟨rfl, rfl, rfl, hb⟩ := hbad h
      exact (hb W v k hv hk).mono fun e w' ⟨h1, h2⟩ => ⟨_, h1, h2, smp_nil _, fun _ => rfl⟩
  have HBad : Hid (compErr l s (pairsOf xs) (pairsOf cs) ≠ 0 → l' = 0 ∧ s' = 0) := fun h => ⟨(hbad h).1, (hbad h).2.1⟩
  have HRef := Lib.hid hR
  have HE : Hid (compErr l s (pairsOf xs) (pairsOf cs) = if (dataErr .f32 2047 l s (pairsOf xs)).2 ≠ 0 then (dataErr .f32 2047 l s (pairsOf xs)).2 else if (codeErr (pairsOf cs)).2 ≠ 0 then (codeErr (pairsOf cs)).2 else if s < (pairsOf cs).length then 10 else 0) := rfl
  generalize compErr l s (pairsOf xs) (pairsOf cs) = E at *
  generalize (dataErr .f32 2047 l s (pairsOf xs)).1 = D1 at *
  generalize (dataErr .f32 2047 l s (pairsOf xs)).2 = D2 at *
  generalize (codeErr (pairsOf cs)).1 = K1 at *
  generalize (codeErr (pairsOf cs)).2 = K2 at *
  generalize pairsOf xs = zs at *
  generalize pairsOf cs = us at *
  obtain ⟨pa, pc, rfl, -, -⟩ := hp.sl
  obtain ⟨ca, cc, rfl, -, -⟩ := hc.sl
  generalize (fvals .f32 xs).length = np at *
  generalize (fvals .f32 cs).length = nc at *
  have HP := Lib.hid hp
  have HC := Lib.hid hc
  clear hp hc hsm ht hlen hX hbad hR hz hu hl hs
  go_enter Tryd.func5, Tryd.ntmps5
  go_wp2_with fail
  obtain ⟨W0, hW0⟩ : ∃ W0, W0 = w.alloc (.cells #[.int .i64 l, .int .i64 s, .slice pa np pc, .slice ca nc cc] 24) := ⟨_, rfl⟩
  have SC0 := Lib.hid (HS0.out W0 hW0)
  rw [← hW0]
  clear hW0 HS0
  refine (CA.out _ SC0.out).mono ?_
  rintro e w1 ⟨rfl, hb⟩
  have SC1 := Lib.hid (SC0.out.next hb)
  clear hb SC0
  obtain ⟨k0, k1, k2, k3, kl⟩ := four_cells SC1.out.blk
  go_wp2_with fail
  refine (CS.out _ SC1.out).mono ?_
  rintro e w2 ⟨rfl, hb⟩
  have SC2 := Lib.hid (SC1.out.next hb)
  clear hb SC1 k0 k1 k2 k3 kl
  obtain ⟨k0, k1, k2, k3, kl⟩ := four_cells SC2.out.blk
  go_wp2_with fail
  refine (CK.out _ SC2.out).mono ?_
  rintro e w3 ⟨kv, rfl, hb, hk⟩
  have SC3 := Lib.hid (SC2.out.next hb)
  have KV := Lib.hid hk
  clear hb hk SC2 k0 k1 k2 k3 kl
  obtain ⟨k0, k1, k2, k3, kl⟩ := four_cells SC3.out.blk
  go_wp2_with fail
  refine (CP.out _ _ KV.out).mono ?_
  rintro e w' ⟨rfl, q, rfl⟩
  obtain ⟨w4, hw4⟩ : ∃ w4, w4 = w3.drewN q := ⟨_, rfl⟩
  have SC4 : Hid (ScIn l s (.slice pa np pc) (.slice ca nc cc) xs cs w w4) := by rw [hw4]; exact SC3.out.next (below_drewN' _ _ _)
  rw [← hw4]
  clear hw4 SC3 KV k0 k1 k2 k3 kl
  obtain ⟨k0, k1, k2, k3, kl⟩ := four_cells SC4.out.blk
  go_wp2_with fail
  refine Code.wp_mono (Q := fun e a W => e = .normal ∧ ∃ b vI vK fv, Hid (ScIn l s (.slice pa np pc) (.slice ca nc cc) xs cs w W) ∧ Hid (FBox l' s' fv C b W) ∧ Hid (E ≠ 0 → fv = .slice none 0 0) ∧ a = { tmps := List.toArray ((.agg #[.int .i64 l, .int .i64 s, .slice pa np pc, .slice ca nc cc] : Value) :: (.pointer (some ⟨w.heap.size, 0, none⟩) : Value) :: (.bool false : Value) :: (.int .i64 K1 : Value) :: (.int .i64 K2 : Value) :: (.pointer (some ⟨b, 0, none⟩) : Value) :: (.int .i64 E : Value) :: undef :: undef :: undef :: undef :: undef :: (.bool true : Value) :: (.bool false : Value) :: (.agg #[.int .i64 l, .int .i64 s, .slice pa np pc, .slice ca nc cc] : Value) :: (.bool true : Value) :: (.bool false : Value) :: (.tuple #[.int .i64 K1, .int .i64 K2] : Value) :: (.agg #[.int .i64 l, .int .i64 s, .slice pa np pc, .slice ca nc cc] : Value) :: kv :: (.tuple #[.int .i64 K1, .int .i64 K2] : Value) :: (.int .i64 K1 : Value) :: (.int .i64 K2 : Value) :: (.tuple #[.agg #[.int .i64 l', .int .i64 s', fv], .int .i64 E] : Value) :: (.agg #[.int .i64 l, .int .i64 s, .slice pa np pc, .slice ca nc cc] : Value) :: (.agg #[.int .i64 l, .int .i64 s, vI] : Value) :: (.agg #[.int .i64 l, .int .i64 s, .slice pa np pc, .slice ca nc cc] : Value) :: vK :: (.tuple #[.agg #[.int .i64 l', .int .i64 s', fv], .int .i64 E] : Value) :: (.agg #[.int .i64 l', .int .i64 s', fv] : Value) :: (.int .i64 E : Value) :: undef :: undef :: undef :: undef :: undef :: undef :: undef :: undef :: undef :: undef :: undef :: undef :: undef :: undef :: undef :: undef :: undef :: undef :: undef :: undef :: undef :: undef :: undef :: undef :: undef :: undef :: undef :: undef :: undef :: undef :: undef :: undef :: undef :: undef :: undef :: undef :: undef :: undef :: undef :: undef :: undef :: undef :: undef :: undef :: undef :: undef :: undef :: undef :: []), defers := [] }) ?_ ?_
  case refine_2 =>
    go_region_held3 (fun W => W.cell? ⟨w.heap.size, 0, none⟩ = some (.int .i64 l) ∧ W.cell? ⟨w.heap.size, 1, none⟩ = some (.int .i64 s) ∧ W.cell? ⟨w.heap.size, 2, none⟩ = some (.slice pa np pc) ∧ W.cell? ⟨w.heap.size, 3, none⟩ = some (.slice ca nc cc)) (first | exact ⟨k0, k1, k2, k3⟩ | exact ⟨i0, i1, i2, i3⟩ | exact ⟨j0, j1, j2, j3⟩ | exact ⟨x0, x1, x2, x3⟩ | exact ⟨set3 x0 (by show w.heap.size ≠ _; omega), set3 x1 (by show w.heap.size ≠ _; omega), set3 x2 (by show w.heap.size ≠ _; omega), set3 x3 (by show w.heap.size ≠ _; omega)⟩ | go_keep)
      (first
        | (go_at_call 18; refine (CI.out _ (by repeat (first | exact SC4.out | refine ScIn.next ?_ hbI | refine ScIn.next ?_ hbK | refine ScIn.next ?_ hbC | refine ScIn.alloc ?_ _ | refine ScIn.drew ?_))).mono ?_; rintro e wI ⟨vI, rfl, hbI, hsI⟩; have iS : ScIn l s (.slice pa np pc) (.slice ca nc cc) xs cs w wI := (by repeat (first | exact SC4.out | refine ScIn.next ?_ hbI | refine ScIn.next ?_ hbK | refine ScIn.next ?_ hbC | refine ScIn.alloc ?_ _ | refine ScIn.drew ?_)); obtain ⟨i0, i1, i2, i3, il⟩ := four_cells iS.blk; first | (have qb := box_after_drew hbI; obtain ⟨q0, q1, q2, f0, f1, f2, ql⟩ := three_cells qb) | (have qb := box_after hbI; obtain ⟨q0, q1, q2, f0, f1, f2, ql⟩ := three_cells qb) | (have qb := (hbI.block _ (lt_of_block qb)).trans qb; obtain ⟨q0, q1, q2, f0, f1, f2, ql⟩ := three_cells qb) | skip)
        | (go_at_call 35; refine (CK.out _ (by repeat (first | exact SC4.out | refine ScIn.next ?_ hbI | refine ScIn.next ?_ hbK | refine ScIn.next ?_ hbC | refine ScIn.alloc ?_ _ | refine ScIn.drew ?_))).mono ?_; rintro e wK ⟨vK, rfl, hbK, hsK⟩; have jS : ScIn l s (.slice pa np pc) (.slice ca nc cc) xs cs w wK := (by repeat (first | exact SC4.out | refine ScIn.next ?_ hbI | refine ScIn.next ?_ hbK | refine ScIn.next ?_ hbC | refine ScIn.alloc ?_ _ | refine ScIn.drew ?_)); obtain ⟨j0, j1, j2, j3, jl⟩ := four_cells jS.blk; first | (have qb := box_after_drew hbK; obtain ⟨q0, q1, q2, f0, f1, f2, ql⟩ := three_cells qb) | (have qb := box_after hbK; obtain ⟨q0, q1, q2, f0, f1, f2, ql⟩ := three_cells qb) | (have qb := (hbK.block _ (lt_of_block qb)).trans qb; obtain ⟨q0, q1, q2, f0, f1, f2, ql⟩ := three_cells qb) | skip)
        | (go_at_call 36; refine (CX.out _ _ _ (by repeat (first | exact hsI | exact hsK | refine Smp.alloc ?_ _ | refine Smp.below ?_ hbI | refine Smp.below ?_ hbK)) (by repeat (first | exact hsI | exact hsK | refine Smp.alloc ?_ _ | refine Smp.below ?_ hbI | refine Smp.below ?_ hbK))).mono ?_; rintro e wC ⟨fv, rfl, hbC, hf, hn⟩; obtain ⟨fa, fc, rfl, hfl, -⟩ := hf.sl; have xS : ScIn l s (.slice pa np pc) (.slice ca nc cc) xs cs w wC := (by repeat (first | exact SC4.out | refine ScIn.next ?_ hbI | refine ScIn.next ?_ hbK | refine ScIn.next ?_ hbC | refine ScIn.alloc ?_ _ | refine ScIn.drew ?_)); obtain ⟨x0, x1, x2, x3, xl⟩ := four_cells xS.blk; first | (have qb := box_after_drew hbC; obtain ⟨q0, q1, q2, f0, f1, f2, ql⟩ := three_cells qb) | (have qb := box_after hbC; obtain ⟨q0, q1, q2, f0, f1, f2, ql⟩ := three_cells qb) | (have qb := (hbC.block _ (lt_of_block qb)).trans qb; obtain ⟨q0, q1, q2, f0, f1, f2, ql⟩ := three_cells qb) | skip))
    all_goals first
      | exact ⟨rfl, _, vI, vK, _, Lib.hid (show ScIn l s _ _ xs cs w _ from (by repeat (first | exact SC4.out | refine ScIn.next ?_ hbI | refine ScIn.next ?_ hbK | refine ScIn.next ?_ hbC | refine ScIn.alloc ?_ _ | refine ScIn.drew ?_))), Lib.hid (FBox.born hf), Lib.hid hn, rfl⟩
      | exact ⟨rfl, _, vI, vK, _, Lib.hid (ScIn.set3 (show ScIn l s _ _ xs cs w wC from (by repeat (first | exact SC4.out | refine ScIn.next ?_ hbI | refine ScIn.next ?_ hbK | refine ScIn.next ?_ hbC | refine ScIn.alloc ?_ _ | refine ScIn.drew ?_))) HP.out HC.out (by first | exact kl | exact il | exact jl | exact xl) _ _ _), Lib.hid (FBox.made qb hf), Lib.hid hn, rfl⟩
  rintro e a W ⟨rfl, b, vI, vK, fv, SC5, FB, FN, rfl⟩
  clear CX CP SC4 k0 k1 k2 k3 kl
  obtain ⟨k0, k1, k2, k3, kl⟩ := four_cells SC5.out.blk
  go_wp2_with fail
  refine (CK.out _ SC5.out).mono ?_
  rintro e w6 ⟨kv2, rfl, hb, hk⟩
  have SC6 := Lib.hid (SC5.out.next hb)
  have FB6 := Lib.hid (FB.out.next hb)
  have KV := Lib.hid hk
  clear hb hk SC5 FB k0 k1 k2 k3 kl
  obtain ⟨k0, k1, k2, k3, kl⟩ := four_cells SC6.out.blk
  go_wp2_with fail
  refine (CQ.out _ _ KV.out).mono ?_
  rintro e w7 ⟨rfl, hb⟩
  have SC7 := Lib.hid (SC6.out.next hb)
  have FB7 := Lib.hid (FB6.out.next hb)
  clear hb KV SC6 FB6 k0 k1 k2 k3 kl
  obtain ⟨k0, k1, k2, k3, kl⟩ := four_cells SC7.out.blk
  go_wp2_with fail
  refine (CI.out _ SC7.out).mono ?_
  rintro e w8 ⟨iv2, rfl, hb, hi⟩
  have SC8 := Lib.hid (SC7.out.next hb)
  have FB8 := Lib.hid (FB7.out.next hb)
  have IV := Lib.hid hi
  clear hb hi SC7 FB7 k0 k1 k2 k3 kl
  obtain ⟨k0, k1, k2, k3, kl⟩ := four_cells SC8.out.blk
  go_wp2_with fail
  refine (CC.out _ _ IV.out).mono ?_
  rintro e w9 ⟨rfl, hb⟩
  have SC9 := Lib.hid (SC8.out.next hb)
  have FB9 := Lib.hid (FB8.out.next hb)
  clear hb IV SC8 FB8 k0 k1 k2 k3 kl
  obtain ⟨q0, q1, q2, -, -, -, ql⟩ := three_cells FB9.out.blk
  have CZ := Lib.hid (fun W => noField_zero W)
  by_cases hD : D2 = 0
  · by_cases hK : K2 = 0
    · obtain ⟨k0, k1, k2, k3, kl⟩ := four_cells SC9.out.blk
      have hd1 : (D2 == 0) = true := by rw [hD]; rfl
      have hk1 : (K2 == 0) = true := by rw [hK]; rfl
      have CX := Lib.hid (HRef.out hD hK)
      clear HRef HE CC CQ CS CA HBad FN
      go_wp2_with fail
      refine Code.wp_mono (Q := fun e a W => e = .normal ∧ ∃ b2 fv2, Hid (ScIn l s (.slice pa np pc) (.slice ca nc cc) xs cs w W) ∧ Hid (FBox l' s' fv C b W) ∧ Hid (FBox l' s' fv2 C b2 W) ∧ ∃ z0 z1 z2 z3 z4 z7 z9 z10 z12 z13 z14 z15 z16 z17 z18 z19 z20 z21 z22 z23 z24 z25 z26 z27 z28 z29 z30 z31 z32 z33 z34 z35 z36 z37 z38 z39 z40 z41 z42 z43 z44 z45 z46 z47 z48 z49 z50 z51 z52 z53 z54 z55 z56 z57 z58 z59 z60 z61 z62 z63 z64 z65 z66 z67 z68 z69 z70 z71 z72 z73 z74 z75 z76 z77 z78, a = { tmps := List.toArray (z0 :: z1 :: z2 :: z3 :: z4 :: (.pointer (some ⟨b, 0, none⟩) : Value) :: (.int .i64 E : Value) :: z7 :: (.int .i64 E : Value) :: z9 :: z10 :: (.pointer (some ⟨b2, 0, none⟩) : Value) :: z12 :: z13 :: z14 :: z15 :: z16 :: z17 :: z18 :: z19 :: z20 :: z21 :: z22 :: z23 :: z24 :: z25 :: z26 :: z27 :: z28 :: z29 :: z30 :: z31 :: z32 :: z33 :: z34 :: z35 :: z36 :: z37 :: z38 :: z39 :: z40 :: z41 :: z42 :: z43 :: z44 :: z45 :: z46 :: z47 :: z48 :: z49 :: z50 :: z51 :: z52 :: z53 :: z54 :: z55 :: z56 :: z57 :: z58 :: z59 :: z60 :: z61 :: z62 :: z63 :: z64 :: z65 :: z66 :: z67 :: z68 :: z69 :: z70 :: z71 :: z72 :: z73 :: z74 :: z75 :: z76 :: z77 :: z78 :: []), defers := [] }) ?_ ?_
      case refine_2 =>
        go_region_held3 (fun W => W.cell? ⟨w.heap.size, 0, none⟩ = some (.int .i64 l) ∧ W.cell? ⟨w.heap.size, 1, none⟩ = some (.int .i64 s) ∧ W.cell? ⟨w.heap.size, 2, none⟩ = some (.slice pa np pc) ∧ W.cell? ⟨w.heap.size, 3, none⟩ = some (.slice ca nc cc)) (first | exact ⟨k0, k1, k2, k3⟩ | exact ⟨i0, i1, i2, i3⟩ | exact ⟨j0, j1, j2, j3⟩ | exact ⟨x0, x1, x2, x3⟩ | exact ⟨set3 x0 (by show w.heap.size ≠ _; omega), set3 x1 (by show w.heap.size ≠ _; omega), set3 x2 (by show w.heap.size ≠ _; omega), set3 x3 (by show w.heap.size ≠ _; omega)⟩ | go_keep)
          (first
          | (go_at_call 18; refine (CI.out _ (by repeat (first | exact SC9.out | refine ScIn.next ?_ hbI | refine ScIn.next ?_ hbK | refine ScIn.next ?_ hbC | refine ScIn.alloc ?_ _ | refine ScIn.drew ?_))).mono ?_; rintro e wI ⟨vI', rfl, hbI, hsI⟩; have iS : ScIn l s (.slice pa np pc) (.slice ca nc cc) xs cs w wI := (by repeat (first | exact SC9.out | refine ScIn.next ?_ hbI | refine ScIn.next ?_ hbK | refine ScIn.next ?_ hbC | refine ScIn.alloc ?_ _ | refine ScIn.drew ?_)); obtain ⟨i0, i1, i2, i3, il⟩ := four_cells iS.blk; have iF : FBox l' s' fv C b wI := (by repeat (first | exact FB9.out | refine FBox.next ?_ hbI | refine FBox.next ?_ hbK | refine FBox.next ?_ hbC | refine FBox.alloc ?_ _ | refine FBox.drew ?_)); have ig : b < wI.heap.size := lt_of_block iF.blk; first | (have qb := box_after_drew hbI; obtain ⟨r0, r1, r2, f0, f1, f2, rl⟩ := three_cells qb) | (have qb := box_after hbI; obtain ⟨r0, r1, r2, f0, f1, f2, rl⟩ := three_cells qb) | (have qb := (hbI.block _ (lt_of_block qb)).trans qb; obtain ⟨r0, r1, r2, f0, f1, f2, rl⟩ := three_cells qb) | skip)
          | (go_at_call 35; refine (CK.out _ (by repeat (first | exact SC9.out | refine ScIn.next ?_ hbI | refine ScIn.next ?_ hbK | refine ScIn.next ?_ hbC | refine ScIn.alloc ?_ _ | refine ScIn.drew ?_))).mono ?_; rintro e wK ⟨vK', rfl, hbK, hsK⟩; have jS : ScIn l s (.slice pa np pc) (.slice ca nc cc) xs cs w wK := (by repeat (first | exact SC9.out | refine ScIn.next ?_ hbI | refine ScIn.next ?_ hbK | refine ScIn.next ?_ hbC | refine ScIn.alloc ?_ _ | refine ScIn.drew ?_)); obtain ⟨j0, j1, j2, j3, jl⟩ := four_cells jS.blk; have jF : FBox l' s' fv C b wK := (by repeat (first | exact FB9.out | refine FBox.next ?_ hbI | refine FBox.next ?_ hbK | refine FBox.next ?_ hbC | refine FBox.alloc ?_ _ | refine FBox.drew ?_)); have jg : b < wK.heap.size := lt_of_block jF.blk; first | (have qb := box_after_drew hbK; obtain ⟨r0, r1, r2, f0, f1, f2, rl⟩ := three_cells qb) | (have qb := box_after hbK; obtain ⟨r0, r1, r2, f0, f1, f2, rl⟩ := three_cells qb) | (have qb := (hbK.block _ (lt_of_block qb)).trans qb; obtain ⟨r0, r1, r2, f0, f1, f2, rl⟩ := three_cells qb) | skip)
          | (go_at_call 39; refine (CX.out _ _ _ (by repeat (first | exact hsI | exact hsK | refine Smp.alloc ?_ _ | refine Smp.below ?_ hbI | refine Smp.below ?_ hbK)) (by repeat (first | exact hsI | exact hsK | refine Smp.alloc ?_ _ | refine Smp.below ?_ hbI | refine Smp.below ?_ hbK))).mono ?_; rintro e wC ⟨fv2, rfl, hbC, hf⟩; obtain ⟨fa, fc, rfl, hfl, -⟩ := hf.sl; have xS : ScIn l s (.slice pa np pc) (.slice ca nc cc) xs cs w wC := (by repeat (first | exact SC9.out | refine ScIn.next ?_ hbI | refine ScIn.next ?_ hbK | refine ScIn.next ?_ hbC | refine ScIn.alloc ?_ _ | refine ScIn.drew ?_)); obtain ⟨x0, x1, x2, x3, xl⟩ := four_cells xS.blk; have xF : FBox l' s' fv C b wC := (by repeat (first | exact FB9.out | refine FBox.next ?_ hbI | refine FBox.next ?_ hbK | refine FBox.next ?_ hbC | refine FBox.alloc ?_ _ | refine FBox.drew ?_)); have xg : b < wC.heap.size := lt_of_block xF.blk; first | (have qb := box_after_drew hbC; obtain ⟨r0, r1, r2, f0, f1, f2, rl⟩ := three_cells qb) | (have qb := box_after hbC; obtain ⟨r0, r1, r2, f0, f1, f2, rl⟩ := three_cells qb) | (have qb := (hbC.block _ (lt_of_block qb)).trans qb; obtain ⟨r0, r1, r2, f0, f1, f2, rl⟩ := three_cells qb) | skip))
        all_goals first
          | exact ⟨rfl, _, _, Lib.hid (show ScIn l s _ _ xs cs w _ from (by repeat (first | exact SC9.out | refine ScIn.next ?_ hbI | refine ScIn.next ?_ hbK | refine ScIn.next ?_ hbC | refine ScIn.alloc ?_ _ | refine ScIn.drew ?_))), Lib.hid (show FBox l' s' fv C b _ from (by repeat (first | exact FB9.out | refine FBox.next ?_ hbI | refine FBox.next ?_ hbK | refine FBox.next ?_ hbC | refine FBox.alloc ?_ _ | refine FBox.drew ?_))), Lib.hid (FBox.born hf), _, _, _, _, _, _, _, _, _, _, _, _, _, _, _, _, _, _, _, _, _, _, _, _, _, _, _, _, _, _, _, _, _, _, _, _, _, _, _, _, _, _, _, _, _, _, _, _, _, _, _, _, _, _, _, _, _, _, _, _, _, _, _, _, _, _, _, _, _, _, _, _, _, _, _, rfl⟩
          | exact ⟨rfl, _, _, Lib.hid (ScIn.set3 (show ScIn l s _ _ xs cs w wC from (by repeat (first | exact SC9.out | refine ScIn.next ?_ hbI | refine ScIn.next ?_ hbK | refine ScIn.next ?_ hbC | refine ScIn.alloc ?_ _ | refine ScIn.drew ?_))) HP.out HC.out (by first | exact kl | exact il | exact jl | exact xl) _ _ _), Lib.hid (FBox.set3 (show FBox l' s' fv C b wC from (by repeat (first | exact FB9.out | refine FBox.next ?_ hbI | refine FBox.next ?_ hbK | refine FBox.next ?_ hbC | refine FBox.alloc ?_ _ | refine FBox.drew ?_))) (by first | exact ql | exact ig | exact jg | exact xg) qb _ _ _), Lib.hid (FBox.made qb hf), _, _, _, _, _, _, _, _, _, _, _, _, _, _, _, _, _, _, _, _, _, _, _, _, _, _, _, _, _, _, _, _, _, _, _, _, _, _, _, _, _, _, _, _, _, _, _, _, _, _, _, _, _, _, _, _, _, _, _, _, _, _, _, _, _, _, _, _, _, _, _, _, _, _, _, rfl⟩
      rintro e a W2 ⟨rfl, b2, fv2, SCA, FBA, FBB, z0, z1, z2, z3, z4, z7, z9, z10, z12, z13, z14, z15, z16, z17, z18, z19, z20, z21, z22, z23, z24, z25, z26, z27, z28, z29, z30, z31, z32, z33, z34, z35, z36, z37, z38, z39, z40, z41, z42, z43, z44, z45, z46, z47, z48, z49, z50, z51, z52, z53, z54, z55, z56, z57, z58, z59, z60, z61, z62, z63, z64, z65, z66, z67, z68, z69, z70, z71, z72, z73, z74, z75, z76, z77, z78, rfl⟩
      clear SC9 FB9 k0 k1 k2 k3 kl q0 q1 q2 ql CI CK CX CZ
      have CW := Lib.hid (SameField_true l' s' fv fv2 C W2 FBA.out.smp.sl FBB.out.smp.sl)
      obtain ⟨q0, q1, q2, -, -, -, ql⟩ := three_cells FBA.out.blk
      obtain ⟨r0, r1, r2, -, -, -, rl⟩ := three_cells FBB.out.blk
      go_wp2_with fail
      refine CW.out.mono ?_
      rintro e wE ⟨rfl, hb⟩
      have SCE := Lib.hid (SCA.out.next hb)
      go_wp2_with fail
      go_ret
      exact ⟨rfl, SCE.out.hb⟩
    · have hd1 : (D2 == 0) = true := by rw [hD]; rfl
      have hk1 : (K2 == 0) = false := by rw [beq_eq_false_iff_ne]; exact hK
      have hE : E = K2 := by have := HE.out; rw [if_neg (fun c => c hD), if_pos hK] at this; exact this
      have hE0 : E ≠ 0 := by rw [hE]; exact hK
      obtain ⟨rfl, rfl⟩ := HBad.out hE0
      have hfv := FN.out hE0
      clear FN HBad HE
      subst hfv
      subst hE
      go_wp2_with fail
      refine (CZ.out _).mono ?_
      rintro e w10 ⟨rfl, hb⟩
      have SC10 := Lib.hid (SC9.out.next hb)
      go_wp2_with fail
      go_ret
      exact ⟨rfl, SC10.out.hb⟩
  · have hd1 : (D2 == 0) = false := by rw [beq_eq_false_iff_ne]; exact hD
    have hE : E = D2 := by have := HE.out; rw [if_pos hD] at this; exact this
    have hE0 : E ≠ 0 := by rw [hE]; exact hD
    obtain ⟨rfl, rfl⟩ := HBad.out hE0
    have hfv := FN.out hE0
    clear FN HBad HE
    subst hfv
    subst hE
    go_wp2_with fail
    refine (CZ.out _).mono ?_
    rintro e w10 ⟨rfl, hb⟩
    have SC10 := Lib.hid (SC9.out.next hb)
    go_wp2_with fail
    go_ret
    exact ⟨rfl, SC10.out.hb⟩
end Go.Proofs.YtcjdbhcpcigmdaaDoor
