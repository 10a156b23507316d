import Derived.Test.YtmmmaanflmgblaaDoorJc
import Derived.Test.YtmmmaanflmgblaaDoorGf
import Derived.Deep.RegionHeld3
namespace Go.Proofs.YtmmmaanflmgblaaDoor
open Go.RowKit Go.Proofs.YtmmmaanflmgblaaDoor.Flt

set_option maxRecDepth 100000 in
theorem refFocus_short (l s : Int) (iv cv : Value) (zs us : List (Nat × Nat)) (w : World) (hiv : Sl w iv (cvals .f64 zs)) (hcv : Sl w cv (cvals .f32 us)) (h : l < us.length) :
    Calls Tryd.prog 33 #[.agg #[.int .i64 l, .int .i64 s, iv], cv] w fun e w' => e = .returned (.tuple #[.agg #[.int .i64 0, .int .i64 0, .slice none 0 0], .int .i64 10]) ∧ Below w.heap.size w w' := by
  obtain ⟨iad, icap, rfl, hil, -⟩ := hiv
  obtain ⟨cad, ccap, rfl, hcl, -⟩ := hcv
  have ey : (cvals .f32 us).length = us.length := by simp [cvals]
  rw [ey] at hcl ⊢
  generalize (cvals .f64 zs).length = n at *
  generalize us.length = m at *
  go_enter Tryd.func33, Tryd.ntmps33
  go_wp2_with fail
  exact bodyPost_ret (v := .tuple #[.agg #[.int .i64 0, .int .i64 0, .slice none 0 0], .int .i64 10]) (by simp [results, Tryd.results33, go_sem]) rfl ⟨rfl, by first | exact ((Below.refl _ _).alloc (Nat.le_refl _) _).alloc (by simp) _ | exact (((((Below.refl _ _).alloc (Nat.le_refl _) _).alloc (by simp) _).setCell (p := ⟨w.heap.size + 1, 0, none⟩) (by show w.heap.size ≤ w.heap.size + 1; omega) _).setCell (p := ⟨w.heap.size + 1, 1, none⟩) (by show w.heap.size ≤ w.heap.size + 1; omega) _).setCell (p := ⟨w.heap.size + 1, 2, none⟩) (by show w.heap.size ≤ w.heap.size + 1; omega) _⟩

/-- Focus and its reference, in one -/
theorem focus_E (l s : Int) (zs us : List (Nat × Nat)) (hl : I64 l) (hs : I64 s) (hz : ∀ z ∈ zs, z.1 < 2 ^ 64 ∧ z.2 < 2 ^ 64) (hu : ∀ z ∈ us, z.1 < 2 ^ 32 ∧ z.2 < 2 ^ 32) :
    ∃ (l' s' : Int) (C : List (Nat × Nat)) (E : Int), (∀ W v k, Smp .f64 zs W v → Smp .f32 us W k → Calls Tryd.prog 30 #[.agg #[.int .i64 l, .int .i64 s, v], k] W (FieldE l' s' C E W)) ∧
      (((dataErr .f64 1000000000 l s zs).2 ≠ 0 ∧ l' = 0 ∧ s' = 0 ∧ C = [] ∧ E = (dataErr .f64 1000000000 l s zs).2) ∨
       ((dataErr .f64 1000000000 l s zs).2 = 0 ∧ (codeErr us).2 ≠ 0 ∧ l' = 0 ∧ s' = 0 ∧ C = [] ∧ E = (codeErr us).2) ∨
       ((dataErr .f64 1000000000 l s zs).2 = 0 ∧ (codeErr us).2 = 0 ∧ ∀ W v k, Smp .f64 zs W v → Smp .f32 us W k → Calls Tryd.prog 33 #[.agg #[.int .i64 l, .int .i64 s, v], k] W (FieldE l' s' C E W))) := by
  have hbad : focErr l s zs us ≠ 0 → ∀ W v k, Smp .f64 zs W v → Smp .f32 us W k → Calls Tryd.prog 30 #[.agg #[.int .i64 l, .int .i64 s, v], k] W (FieldE 0 0 [] (focErr l s zs us) W) := fun h W v k hv hk =>
    (Focus_bad l s v k zs us W hl hs hv.sl hk.sl hz h).mono fun e w' ⟨h1, h2⟩ => ⟨_, h1, h2, smp_nil _⟩
  by_cases hD : (dataErr .f64 1000000000 l s zs).2 = 0
  · by_cases hK : (codeErr us).2 = 0
    · by_cases hm : l < us.length
      · have hE : focErr l s zs us = 10 := by unfold focErr; rw [if_neg (fun c => c hD), if_neg (fun c => c hK), if_pos hm]
        rw [hE] at hbad
        exact ⟨0, 0, [], 10, hbad (by decide), .inr (.inr ⟨hD, hK, fun W v k hv hk => (refFocus_short l s v k zs us W hv.sl hk.sl hm).mono fun e w' ⟨h1, h2⟩ => ⟨_, h1, h2, smp_nil _⟩⟩)⟩
      · obtain ⟨a1, a2, a3, a4, a5, a6⟩ := dataErr_ok hD
        obtain ⟨k1, k2, k3⟩ := codeErr_ok hK
        obtain ⟨L, rfl⟩ : ∃ L : Nat, l = L := ⟨l.toNat, by omega⟩
        obtain ⟨S, rfl⟩ : ∃ S : Nat, s = S := ⟨s.toNat, by omega⟩
        have hlen : zs.length = L * S := by
          have : ((L * S : Nat) : Int) = zs.length := by rw [Int.natCast_mul, a5]
          omega
        have RI : Right .f64 1000000000 zs := right_of_ok (by decide) hz a6
        have RC : Right .f32 3 us := right_of_ok (by decide) hu k3
        exact ⟨_, _, _, _, fun W v k hv hk => Focus_ok L S us.length v k zs us W hv.sl hk.sl hz hu (by omega) (by omega) (by omega) (by omega) rfl hD hK (by omega),
          .inr (.inr ⟨hD, hK, fun W v k hv hk => refFocus_ok L S us.length v k zs us W hv.sl hk.sl (by omega) (by omega) (by omega) rfl (by omega) (by omega) (by omega) hlen RI RC⟩)⟩
    · have hE : focErr l s zs us = (codeErr us).2 := by unfold focErr; rw [if_neg (fun c => c hD), if_pos hK]
      rw [hE] at hbad
      exact ⟨0, 0, [], _, hbad hK, .inr (.inl ⟨hD, hK, rfl, rfl, rfl, rfl⟩)⟩
  · have hE : focErr l s zs us = (dataErr .f64 1000000000 l s zs).2 := by unfold focErr; rw [if_pos hD]
    rw [hE] at hbad
    exact ⟨0, 0, [], _, hbad hD, .inl ⟨hD, rfl, rfl, rfl, rfl⟩⟩

theorem FldIn.drew {l s : Int} {pv cv : Value} {xs cs : List Nat} {w W : World} (h : FldIn l s pv cv xs cs w W) : FldIn l s pv cv xs cs w W.drew :=
  ⟨h.blk, h.hb.drew, ⟨⟨h.p.sl.form⟩⟩, ⟨⟨h.c.sl.form⟩⟩⟩
theorem FldIn.alloc {l s : Int} {pv cv : Value} {xs cs : List Nat} {w W : World} (h : FldIn l s pv cv xs cs w W) (o : Obj) : FldIn l s pv cv xs cs w (W.alloc o) := h.next ((Below.refl _ _).alloc (Nat.le_refl _) _)
theorem FldIn.set3 {l s : Int} {pv cv : Value} {xs cs : List Nat} {w W : World} {b : Nat} (h : FldIn l s pv cv xs cs w W) (hp : Fls .f64 xs w pv) (hc : Fls .f32 cs w cv) (hb : w.heap.size < b) (u0 u1 u2 : Value) :
    FldIn l s pv cv xs cs w (((W.setCell ⟨b, 0, none⟩ u0).setCell ⟨b, 1, none⟩ u1).setCell ⟨b, 2, none⟩ u2) := by
  have hB : Below w.heap.size w (((W.setCell ⟨b, 0, none⟩ u0).setCell ⟨b, 1, none⟩ u1).setCell ⟨b, 2, none⟩ u2) := ((h.hb.setCell (p := ⟨b, 0, none⟩) (Nat.le_of_lt hb) _).setCell (p := ⟨b, 1, none⟩) (Nat.le_of_lt hb) _).setCell (p := ⟨b, 2, none⟩) (Nat.le_of_lt hb) _
  have hn : w.heap.size ≠ b := by omega
  exact ⟨(Below.heap_setCell _ _ _ _ hn).trans ((Below.heap_setCell _ _ _ _ hn).trans ((Below.heap_setCell _ _ _ _ hn).trans h.blk)), hB, hp.below hB, hc.below hB⟩

set_option maxRecDepth 100000 in
theorem focuses_long (l s : Int) (pv cv : Value) (xs cs : List Nat) (w : World) (hp : Fls .f64 xs w pv) (hc : Fls .f32 cs w cv) (hsm : slightB xs.length cs.length = false) (ht : Tab w) :
    Calls Tryd.prog 5 #[.agg #[.int .i64 l, .int .i64 s, pv, cv]] w fun e w' => e = .returned (.bool true) ∧ Below w.heap.size w w' := by
  have CA := Lib.hid (fun W (h : FldIn l s pv cv xs cs w W) => awake_any W (ht.below h.hb))
  have CS : Hid (∀ W, FldIn l s pv cv xs cs w W → Calls Tryd.prog 21 #[.agg #[.int .i64 l, .int .i64 s, pv, cv]] W fun e w' => e = .returned (.bool false) ∧ Below W.heap.size W w') := fun W h => by
    have := slight_any l s pv cv xs cs W h.p h.c
    rwa [hsm] at this
  have HS0 : Hid (∀ W0, W0 = w.alloc (.cells #[.int .i64 l, .int .i64 s, pv, cv] 44) → FldIn l s pv cv xs cs w W0) := by
    rintro W0 rfl
    exact FldIn.start hp hc
  obtain ⟨pa, pc, rfl, -, -⟩ := hp.sl
  obtain ⟨ca, cc, rfl, -, -⟩ := hc.sl
  generalize (fvals .f64 xs).length = np at *
  generalize (fvals .f32 cs).length = nc at *
  clear hp hc hsm ht
  go_enter Tryd.func5, Tryd.ntmps5
  go_wp2_with fail
  obtain ⟨W0, hW0⟩ : ∃ W0, W0 = w.alloc (.cells #[.int .i64 l, .int .i64 s, .slice pa np pc, .slice ca nc cc] 44) := ⟨_, rfl⟩
  have SC0 := Lib.hid (HS0.out W0 hW0)
  rw [← hW0]
  clear hW0 HS0
  refine (CA.out _ SC0.out).mono ?_
  rintro e w1 ⟨rfl, hb⟩
  have SC1 := Lib.hid (SC0.out.next hb)
  clear hb SC0
  obtain ⟨k0, k1, k2, k3, kl⟩ := four_cells SC1.out.blk
  go_wp2_with fail
  refine (CS.out _ SC1.out).mono ?_
  rintro e w2 ⟨rfl, hb⟩
  have SC2 := Lib.hid (SC1.out.next hb)
  clear hb SC1 k0 k1 k2 k3 kl
  go_wp2_with fail
  go_ret
  exact ⟨rfl, SC2.out.hb⟩

set_option maxRecDepth 100000 in
set_option maxHeartbeats 20000000 in
theorem focuses_short (l s : Int) (pv cv : Value) (xs cs : List Nat) (w : World) (hp : Fls .f64 xs w pv) (hc : Fls .f32 cs w cv) (hl : I64 l) (hs : I64 s) (hz : ∀ z ∈ pairsOf xs, z.1 < 2 ^ 64 ∧ z.2 < 2 ^ 64) (hu : ∀ z ∈ pairsOf cs, z.1 < 2 ^ 32 ∧ z.2 < 2 ^ 32) (hsm : slightB xs.length cs.length = true) (ht : Tab w) :
    Calls Tryd.prog 5 #[.agg #[.int .i64 l, .int .i64 s, pv, cv]] w fun e w' => e = .returned (.bool true) ∧ Below w.heap.size w w' := by
  have CA := Lib.hid (fun W (h : FldIn l s pv cv xs cs w W) => awake_any W (ht.below h.hb))
  have CS : Hid (∀ W, FldIn l s pv cv xs cs w W → Calls Tryd.prog 21 #[.agg #[.int .i64 l, .int .i64 s, pv, cv]] W fun e w' => e = .returned (.bool true) ∧ Below W.heap.size W w') := fun W h => by
    have := slight_any l s pv cv xs cs W h.p h.c
    rwa [hsm] at this
  have HS0 : Hid (∀ W0, W0 = w.alloc (.cells #[.int .i64 l, .int .i64 s, pv, cv] 44) → FldIn l s pv cv xs cs w W0) := by
    rintro W0 rfl
    exact FldIn.start hp hc
  have hlen : xs.length ≤ 100000 ∧ cs.length ≤ 100000 := by
    unfold slightB at hsm
    simp at hsm
    omega
  have CI := Lib.hid (fun W (h : FldIn l s pv cv xs cs w W) => sums_any l s pv cv xs W h.p hlen.1)
  have CK := Lib.hid (fun W (h : FldIn l s pv cv xs cs w W) => fcode_any l s pv cv cs W h.c hlen.2)
  have CC := Lib.hid (fun W v (hv : Smp .f64 (pairsOf xs) W v) => refCheckField_any l s v (pairsOf xs) W hv.sl)
  have CQ := Lib.hid (fun W v (hv : Smp .f32 (pairsOf cs) W v) => refCheckCode_any v (pairsOf cs) W hv.sl)
  obtain ⟨l', s', C, E, hX, hR⟩ := focus_E l s (pairsOf xs) (pairsOf cs) hl hs hz hu
  have CX := Lib.hid hX
  have HRef := Lib.hid hR
  generalize (dataErr .f64 1000000000 l s (pairsOf xs)).1 = D1 at *
  generalize (dataErr .f64 1000000000 l s (pairsOf xs)).2 = D2 at *
  generalize (codeErr (pairsOf cs)).1 = K1 at *
  generalize (codeErr (pairsOf cs)).2 = K2 at *
  generalize pairsOf xs = zs at *
  generalize pairsOf cs = us at *
  obtain ⟨pa, pc, rfl, -, -⟩ := hp.sl
  obtain ⟨ca, cc, rfl, -, -⟩ := hc.sl
  generalize (fvals .f64 xs).length = np at *
  generalize (fvals .f32 cs).length = nc at *
  have HP := Lib.hid hp
  have HC := Lib.hid hc
  clear hp hc hsm ht hlen hX hR hz hu hl hs
  go_enter Tryd.func5, Tryd.ntmps5
  go_wp2_with fail
  obtain ⟨W0, hW0⟩ : ∃ W0, W0 = w.alloc (.cells #[.int .i64 l, .int .i64 s, .slice pa np pc, .slice ca nc cc] 44) := ⟨_, rfl⟩
  have SC0 := Lib.hid (HS0.out W0 hW0)
  rw [← hW0]
  clear hW0 HS0
  refine (CA.out _ SC0.out).mono ?_
  rintro e w1 ⟨rfl, hb⟩
  have SC1 := Lib.hid (SC0.out.next hb)
  clear hb SC0
  obtain ⟨k0, k1, k2, k3, kl⟩ := four_cells SC1.out.blk
  go_wp2_with fail
  refine (CS.out _ SC1.out).mono ?_
  rintro e w2 ⟨rfl, hb⟩
  have SC2 := Lib.hid (SC1.out.next hb)
  clear hb SC1 k0 k1 k2 k3 kl
  obtain ⟨k0, k1, k2, k3, kl⟩ := four_cells SC2.out.blk
  go_wp2_with fail
  refine Code.wp_mono (Q := fun e a W => e = .normal ∧ ∃ b fv, Hid (FldIn l s (.slice pa np pc) (.slice ca nc cc) xs cs w W) ∧ Hid (FBox l' s' fv C b W) ∧ ∃ z0 z2 z5 z6 z7 z8 z9 z10 z11 z12 z13 z14 z15 z16 z17 z18 z19 z20 z21 z22 z23 z24 z25 z26 z27 z28 z29 z30 z31 z32 z33 z34 z35 z36 z37 z38 z39 z40 z41 z42 z43 z44 z45 z46 z47 z48 z49 z50 z51 z52, a = { tmps := List.toArray (z0 :: (.pointer (some ⟨w.heap.size, 0, none⟩) : Value) :: z2 :: (.pointer (some ⟨b, 0, none⟩) : Value) :: (.int .i64 E : Value) :: z5 :: z6 :: z7 :: z8 :: z9 :: z10 :: z11 :: z12 :: z13 :: z14 :: z15 :: z16 :: z17 :: z18 :: z19 :: z20 :: z21 :: z22 :: z23 :: z24 :: z25 :: z26 :: z27 :: z28 :: z29 :: z30 :: z31 :: z32 :: z33 :: z34 :: z35 :: z36 :: z37 :: z38 :: z39 :: z40 :: z41 :: z42 :: z43 :: z44 :: z45 :: z46 :: z47 :: z48 :: z49 :: z50 :: z51 :: z52 :: []), defers := [] }) ?_ ?_
  case refine_2 =>
    go_region_held3 (fun W => W.cell? ⟨w.heap.size, 0, none⟩ = some (.int .i64 l) ∧ W.cell? ⟨w.heap.size, 1, none⟩ = some (.int .i64 s) ∧ W.cell? ⟨w.heap.size, 2, none⟩ = some (.slice pa np pc) ∧ W.cell? ⟨w.heap.size, 3, none⟩ = some (.slice ca nc cc)) (first | exact ⟨k0, k1, k2, k3⟩ | exact ⟨i0, i1, i2, i3⟩ | exact ⟨j0, j1, j2, j3⟩ | exact ⟨x0, x1, x2, x3⟩ | exact ⟨set3 x0 (by show w.heap.size ≠ _; omega), set3 x1 (by show w.heap.size ≠ _; omega), set3 x2 (by show w.heap.size ≠ _; omega), set3 x3 (by show w.heap.size ≠ _; omega)⟩ | go_keep)
      (first
        | (go_at_call 23; refine (CI.out _ (by repeat (first | exact SC2.out | refine FldIn.next ?_ hbI | refine FldIn.next ?_ hbK | refine FldIn.next ?_ hbC | refine FldIn.alloc ?_ _ | refine FldIn.drew ?_))).mono ?_; rintro e wI ⟨vI, rfl, hbI, hsI⟩; have iS : FldIn l s (.slice pa np pc) (.slice ca nc cc) xs cs w wI := (by repeat (first | exact SC2.out | refine FldIn.next ?_ hbI | refine FldIn.next ?_ hbK | refine FldIn.next ?_ hbC | refine FldIn.alloc ?_ _ | refine FldIn.drew ?_)); obtain ⟨i0, i1, i2, i3, il⟩ := four_cells iS.blk; first | (have qb := box_after_drew hbI; obtain ⟨q0, q1, q2, f0, f1, f2, ql⟩ := three_cells qb) | (have qb := box_after hbI; obtain ⟨q0, q1, q2, f0, f1, f2, ql⟩ := three_cells qb) | (have qb := (hbI.block _ (lt_of_block qb)).trans qb; obtain ⟨q0, q1, q2, f0, f1, f2, ql⟩ := three_cells qb) | skip)
        | (go_at_call 31; refine (CK.out _ (by repeat (first | exact SC2.out | refine FldIn.next ?_ hbI | refine FldIn.next ?_ hbK | refine FldIn.next ?_ hbC | refine FldIn.alloc ?_ _ | refine FldIn.drew ?_))).mono ?_; rintro e wK ⟨vK, rfl, hbK, hsK⟩; have jS : FldIn l s (.slice pa np pc) (.slice ca nc cc) xs cs w wK := (by repeat (first | exact SC2.out | refine FldIn.next ?_ hbI | refine FldIn.next ?_ hbK | refine FldIn.next ?_ hbC | refine FldIn.alloc ?_ _ | refine FldIn.drew ?_)); obtain ⟨j0, j1, j2, j3, jl⟩ := four_cells jS.blk; first | (have qb := box_after_drew hbK; obtain ⟨q0, q1, q2, f0, f1, f2, ql⟩ := three_cells qb) | (have qb := box_after hbK; obtain ⟨q0, q1, q2, f0, f1, f2, ql⟩ := three_cells qb) | (have qb := (hbK.block _ (lt_of_block qb)).trans qb; obtain ⟨q0, q1, q2, f0, f1, f2, ql⟩ := three_cells qb) | skip)
        | (go_at_call 30; refine (CX.out _ _ _ (by repeat (first | exact hsI | exact hsK | refine Smp.alloc ?_ _ | refine Smp.below ?_ hbI | refine Smp.below ?_ hbK)) (by repeat (first | exact hsI | exact hsK | refine Smp.alloc ?_ _ | refine Smp.below ?_ hbI | refine Smp.below ?_ hbK))).mono ?_; rintro e wC ⟨fv, rfl, hbC, hf⟩; obtain ⟨fa, fc, rfl, hfl, -⟩ := hf.sl; have xS : FldIn l s (.slice pa np pc) (.slice ca nc cc) xs cs w wC := (by repeat (first | exact SC2.out | refine FldIn.next ?_ hbI | refine FldIn.next ?_ hbK | refine FldIn.next ?_ hbC | refine FldIn.alloc ?_ _ | refine FldIn.drew ?_)); obtain ⟨x0, x1, x2, x3, xl⟩ := four_cells xS.blk; first | (have qb := box_after_drew hbC; obtain ⟨q0, q1, q2, f0, f1, f2, ql⟩ := three_cells qb) | (have qb := box_after hbC; obtain ⟨q0, q1, q2, f0, f1, f2, ql⟩ := three_cells qb) | (have qb := (hbC.block _ (lt_of_block qb)).trans qb; obtain ⟨q0, q1, q2, f0, f1, f2, ql⟩ := three_cells qb) | skip))
    all_goals first
      | exact ⟨rfl, _, _, Lib.hid (show FldIn l s _ _ xs cs w _ from (by repeat (first | exact SC2.out | refine FldIn.next ?_ hbI | refine FldIn.next ?_ hbK | refine FldIn.next ?_ hbC | refine FldIn.alloc ?_ _ | refine FldIn.drew ?_))), Lib.hid (FBox.born hf), _, _, _, _, _, _, _, _, _, _, _, _, _, _, _, _, _, _, _, _, _, _, _, _, _, _, _, _, _, _, _, _, _, _, _, _, _, _, _, _, _, _, _, _, _, _, _, _, _, _, rfl⟩
      | exact ⟨rfl, _, _, Lib.hid (FldIn.set3 (show FldIn l s _ _ xs cs w wC from (by repeat (first | exact SC2.out | refine FldIn.next ?_ hbI | refine FldIn.next ?_ hbK | refine FldIn.next ?_ hbC | refine FldIn.alloc ?_ _ | refine FldIn.drew ?_))) HP.out HC.out (by first | exact kl | exact il | exact jl | exact xl) _ _ _), Lib.hid (FBox.made qb hf), _, _, _, _, _, _, _, _, _, _, _, _, _, _, _, _, _, _, _, _, _, _, _, _, _, _, _, _, _, _, _, _, _, _, _, _, _, _, _, _, _, _, _, _, _, _, _, _, _, _, rfl⟩
  rintro e a W ⟨rfl, b, fv, SC5, FB5, z0, z2, z5, z6, z7, z8, z9, z10, z11, z12, z13, z14, z15, z16, z17, z18, z19, z20, z21, z22, z23, z24, z25, z26, z27, z28, z29, z30, z31, z32, z33, z34, z35, z36, z37, z38, z39, z40, z41, z42, z43, z44, z45, z46, z47, z48, z49, z50, z51, z52, rfl⟩
  clear CX SC2 k0 k1 k2 k3 kl
  obtain ⟨k0, k1, k2, k3, kl⟩ := four_cells SC5.out.blk
  go_wp2_with fail
  refine (CI.out _ SC5.out).mono ?_
  rintro e w6 ⟨iv2, rfl, hb, hi⟩
  have SC6 := Lib.hid (SC5.out.next hb)
  have FB6 := Lib.hid (FB5.out.next hb)
  have IV := Lib.hid hi
  obtain ⟨iva, ivc, rfl, -, -⟩ := hi.sl
  clear hb hi SC5 FB5 k0 k1 k2 k3 kl
  obtain ⟨k0, k1, k2, k3, kl⟩ := four_cells SC6.out.blk
  go_wp2_with fail
  refine (CC.out _ _ IV.out).mono ?_
  rintro e w7 ⟨rfl, hb⟩
  have SC7 := Lib.hid (SC6.out.next hb)
  have FB7 := Lib.hid (FB6.out.next hb)
  clear hb IV SC6 FB6 k0 k1 k2 k3 kl
  have HX : (D2 ≠ 0 ∧ l' = 0 ∧ s' = 0 ∧ C = [] ∧ E = D2) ∨ (D2 = 0 ∧ K2 ≠ 0 ∧ l' = 0 ∧ s' = 0 ∧ C = [] ∧ E = K2) ∨ (D2 = 0 ∧ K2 = 0 ∧ Hid (∀ W v k, Smp .f64 zs W v → Smp .f32 us W k → Calls Tryd.prog 33 #[.agg #[.int .i64 l, .int .i64 s, v], k] W (FieldE l' s' C E W))) := HRef.out
  clear HRef
  rcases HX with ⟨hD, rfl, rfl, rfl, rfl⟩ | ⟨hD, hK, rfl, rfl, rfl, rfl⟩ | ⟨hD, hK, CX⟩
  · have hd1 : (E == 0) = false := by rw [beq_eq_false_iff_ne]; exact hD
    have SCz := Lib.hid (SC7.out.alloc (.cells #[.int .i64 0, .int .i64 0, .slice none 0 0] 49))
    have FBz := Lib.hid (FB7.out.alloc (.cells #[.int .i64 0, .int .i64 0, .slice none 0 0] 49))
    have GBz : Hid (FBox 0 0 (.slice none 0 0) [] w7.heap.size (w7.alloc (.cells #[.int .i64 0, .int .i64 0, .slice none 0 0] 49))) := FBox.born (smp_nil _)
    have CW := Lib.hid (SameField_true 0 0 fv (.slice none 0 0) [] _ FBz.out.smp.sl GBz.out.smp.sl)
    obtain ⟨fva, fvc, rfl, -, -⟩ := FBz.out.smp.sl
    obtain ⟨q0, q1, q2, -, -, -, ql⟩ := three_cells FBz.out.blk
    obtain ⟨r0, r1, r2, -, -, -, rl⟩ := three_cells GBz.out.blk
    clear hD
    go_wp2_with fail
    refine CW.out.mono ?_
    rintro e wE ⟨rfl, hb⟩
    have SCE := Lib.hid (SCz.out.next hb)
    go_wp2_with fail
    go_ret
    exact ⟨rfl, SCE.out.hb⟩
  · subst hD
    have hk1 : (E == 0) = false := by rw [beq_eq_false_iff_ne]; exact hK
    obtain ⟨k0, k1, k2, k3, kl⟩ := four_cells SC7.out.blk
    go_wp2_with fail
    refine (CK.out _ SC7.out).mono ?_
    rintro e w8 ⟨kv2, rfl, hb, hk⟩
    have SC8 := Lib.hid (SC7.out.next hb)
    have FB8 := Lib.hid (FB7.out.next hb)
    have KV := Lib.hid hk
    clear hb hk SC7 FB7 k0 k1 k2 k3 kl
    go_wp2_with fail
    refine (CQ.out _ _ KV.out).mono ?_
    rintro e w9 ⟨rfl, hb⟩
    have SC9 := Lib.hid (SC8.out.next hb)
    have FB9 := Lib.hid (FB8.out.next hb)
    clear hb KV SC8 FB8
    have SCz := Lib.hid (SC9.out.alloc (.cells #[.int .i64 0, .int .i64 0, .slice none 0 0] 49))
    have FBz := Lib.hid (FB9.out.alloc (.cells #[.int .i64 0, .int .i64 0, .slice none 0 0] 49))
    have GBz : Hid (FBox 0 0 (.slice none 0 0) [] w9.heap.size (w9.alloc (.cells #[.int .i64 0, .int .i64 0, .slice none 0 0] 49))) := FBox.born (smp_nil _)
    have CW := Lib.hid (SameField_true 0 0 fv (.slice none 0 0) [] _ FBz.out.smp.sl GBz.out.smp.sl)
    obtain ⟨fva, fvc, rfl, -, -⟩ := FBz.out.smp.sl
    obtain ⟨q0, q1, q2, -, -, -, ql⟩ := three_cells FBz.out.blk
    obtain ⟨r0, r1, r2, -, -, -, rl⟩ := three_cells GBz.out.blk
    clear hK
    go_wp2_with fail
    refine CW.out.mono ?_
    rintro e wE ⟨rfl, hb⟩
    have SCE := Lib.hid (SCz.out.next hb)
    go_wp2_with fail
    go_ret
    exact ⟨rfl, SCE.out.hb⟩
  · subst hD hK
    obtain ⟨k0, k1, k2, k3, kl⟩ := four_cells SC7.out.blk
    go_wp2_with fail
    refine (CK.out _ SC7.out).mono ?_
    rintro e w8 ⟨kv2, rfl, hb, hk⟩
    have SC8 := Lib.hid (SC7.out.next hb)
    have FB8 := Lib.hid (FB7.out.next hb)
    have KV := Lib.hid hk
    clear hb hk SC7 FB7 k0 k1 k2 k3 kl
    go_wp2_with fail
    refine (CQ.out _ _ KV.out).mono ?_
    rintro e w9 ⟨rfl, hb⟩
    have SC9 := Lib.hid (SC8.out.next hb)
    have FB9 := Lib.hid (FB8.out.next hb)
    clear hb KV SC8 FB8
    obtain ⟨wy, hwy⟩ : ∃ wy, wy = w9.alloc (.cells #[.int .i64 0, .int .i64 0, .slice none 0 0] 49) := ⟨_, rfl⟩
    have SCy : Hid (FldIn l s (.slice pa np pc) (.slice ca nc cc) xs cs w wy) := by rw [hwy]; exact SC9.out.alloc _
    have FBy : Hid (FBox l' s' fv C b wy) := by rw [hwy]; exact FB9.out.alloc _
    have GBy : Hid (FBox 0 0 (.slice none 0 0) [] w9.heap.size wy) := by rw [hwy]; exact FBox.born (smp_nil _)
    have hb9 : b < w9.heap.size := lt_of_block FB9.out.blk
    have hw9 : w.heap.size < w9.heap.size := lt_of_block SC9.out.blk
    obtain ⟨k0, k1, k2, k3, kl⟩ := four_cells SCy.out.blk
    obtain ⟨r0, r1, r2, f0, f1, f2, rl⟩ := three_cells GBy.out.blk
    clear SC9 FB9
    go_wp2_with fail
    rw [← hwy]
    clear hwy
    refine Code.wp_mono (Q := fun e a W => e = .normal ∧ ∃ fv2, Hid (FldIn l s (.slice pa np pc) (.slice ca nc cc) xs cs w W) ∧ Hid (FBox l' s' fv C b W) ∧ Hid (FBox l' s' fv2 C w9.heap.size W) ∧ ∃ z0 z2 z5 z8 z9 z10 z11 z12 z13 z14 z15 z16 z17 z18 z19 z20 z21 z22 z23 z24 z25 z26 z27 z28 z29 z30 z31 z32 z33 z34 z35 z36 z37 z38 z39 z40 z41 z42 z43 z44 z45 z46 z47 z48 z49 z50 z51 z52, a = { tmps := List.toArray (z0 :: (.pointer (some ⟨w.heap.size, 0, none⟩) : Value) :: z2 :: (.pointer (some ⟨b, 0, none⟩) : Value) :: (.int .i64 E : Value) :: z5 :: (.int .i64 E : Value) :: (.pointer (some ⟨w9.heap.size, 0, none⟩) : Value) :: z8 :: z9 :: z10 :: z11 :: z12 :: z13 :: z14 :: z15 :: z16 :: z17 :: z18 :: z19 :: z20 :: z21 :: z22 :: z23 :: z24 :: z25 :: z26 :: z27 :: z28 :: z29 :: z30 :: z31 :: z32 :: z33 :: z34 :: z35 :: z36 :: z37 :: z38 :: z39 :: z40 :: z41 :: z42 :: z43 :: z44 :: z45 :: z46 :: z47 :: z48 :: z49 :: z50 :: z51 :: z52 :: []), defers := [] }) ?_ ?_
    case refine_2 =>
      go_region_held3 (fun W => W.cell? ⟨w.heap.size, 0, none⟩ = some (.int .i64 l) ∧ W.cell? ⟨w.heap.size, 1, none⟩ = some (.int .i64 s) ∧ W.cell? ⟨w.heap.size, 2, none⟩ = some (.slice pa np pc) ∧ W.cell? ⟨w.heap.size, 3, none⟩ = some (.slice ca nc cc)) (first | exact ⟨k0, k1, k2, k3⟩ | exact ⟨i0, i1, i2, i3⟩ | exact ⟨j0, j1, j2, j3⟩ | exact ⟨x0, x1, x2, x3⟩ | exact ⟨set3 x0 (by show w.heap.size ≠ _; omega), set3 x1 (by show w.heap.size ≠ _; omega), set3 x2 (by show w.heap.size ≠ _; omega), set3 x3 (by show w.heap.size ≠ _; omega)⟩ | go_keep)
        (first
          | (go_at_call 23; refine (CI.out _ (by repeat (first | exact SCy.out | refine FldIn.next ?_ hbI | refine FldIn.next ?_ hbK | refine FldIn.next ?_ hbC | refine FldIn.alloc ?_ _ | refine FldIn.drew ?_))).mono ?_; rintro e wI ⟨vI', rfl, hbI, hsI⟩; have iS : FldIn l s (.slice pa np pc) (.slice ca nc cc) xs cs w wI := (by repeat (first | exact SCy.out | refine FldIn.next ?_ hbI | refine FldIn.next ?_ hbK | refine FldIn.next ?_ hbC | refine FldIn.alloc ?_ _ | refine FldIn.drew ?_)); obtain ⟨i0, i1, i2, i3, il⟩ := four_cells iS.blk; have iF : FBox l' s' fv C b wI := (by repeat (first | exact FBy.out | refine FBox.next ?_ hbI | refine FBox.next ?_ hbK | refine FBox.next ?_ hbC | refine FBox.alloc ?_ _ | refine FBox.drew ?_)); have iG : FBox 0 0 (.slice none 0 0) [] w9.heap.size wI := (by repeat (first | exact GBy.out | refine FBox.next ?_ hbI | refine FBox.next ?_ hbK | refine FBox.next ?_ hbC | refine FBox.alloc ?_ _ | refine FBox.drew ?_)); obtain ⟨r0, r1, r2, f0, f1, f2, rl⟩ := three_cells iG.blk)
          | (go_at_call 31; refine (CK.out _ (by repeat (first | exact SCy.out | refine FldIn.next ?_ hbI | refine FldIn.next ?_ hbK | refine FldIn.next ?_ hbC | refine FldIn.alloc ?_ _ | refine FldIn.drew ?_))).mono ?_; rintro e wK ⟨vK', rfl, hbK, hsK⟩; have jS : FldIn l s (.slice pa np pc) (.slice ca nc cc) xs cs w wK := (by repeat (first | exact SCy.out | refine FldIn.next ?_ hbI | refine FldIn.next ?_ hbK | refine FldIn.next ?_ hbC | refine FldIn.alloc ?_ _ | refine FldIn.drew ?_)); obtain ⟨j0, j1, j2, j3, jl⟩ := four_cells jS.blk; have jF : FBox l' s' fv C b wK := (by repeat (first | exact FBy.out | refine FBox.next ?_ hbI | refine FBox.next ?_ hbK | refine FBox.next ?_ hbC | refine FBox.alloc ?_ _ | refine FBox.drew ?_)); have jG : FBox 0 0 (.slice none 0 0) [] w9.heap.size wK := (by repeat (first | exact GBy.out | refine FBox.next ?_ hbI | refine FBox.next ?_ hbK | refine FBox.next ?_ hbC | refine FBox.alloc ?_ _ | refine FBox.drew ?_)); obtain ⟨r0, r1, r2, f0, f1, f2, rl⟩ := three_cells jG.blk)
          | (go_at_call 33; refine (CX.out _ _ _ (by repeat (first | exact hsI | exact hsK | refine Smp.alloc ?_ _ | refine Smp.below ?_ hbI | refine Smp.below ?_ hbK)) (by repeat (first | exact hsI | exact hsK | refine Smp.alloc ?_ _ | refine Smp.below ?_ hbI | refine Smp.below ?_ hbK))).mono ?_; rintro e wC ⟨fv2, rfl, hbC, hf⟩; obtain ⟨fa, fc, rfl, hfl, -⟩ := hf.sl; have xS : FldIn l s (.slice pa np pc) (.slice ca nc cc) xs cs w wC := (by repeat (first | exact SCy.out | refine FldIn.next ?_ hbI | refine FldIn.next ?_ hbK | refine FldIn.next ?_ hbC | refine FldIn.alloc ?_ _ | refine FldIn.drew ?_)); obtain ⟨x0, x1, x2, x3, xl⟩ := four_cells xS.blk; have xF : FBox l' s' fv C b wC := (by repeat (first | exact FBy.out | refine FBox.next ?_ hbI | refine FBox.next ?_ hbK | refine FBox.next ?_ hbC | refine FBox.alloc ?_ _ | refine FBox.drew ?_)); have xG : FBox 0 0 (.slice none 0 0) [] w9.heap.size wC := (by repeat (first | exact GBy.out | refine FBox.next ?_ hbI | refine FBox.next ?_ hbK | refine FBox.next ?_ hbC | refine FBox.alloc ?_ _ | refine FBox.drew ?_)); obtain ⟨r0, r1, r2, f0, f1, f2, rl⟩ := three_cells xG.blk))
      all_goals exact ⟨rfl, _, Lib.hid (FldIn.set3 xS HP.out HC.out hw9 _ _ _), Lib.hid (FBox.set3 xF hb9 xG.blk _ _ _), Lib.hid (FBox.made xG.blk hf), _, _, _, _, _, _, _, _, _, _, _, _, _, _, _, _, _, _, _, _, _, _, _, _, _, _, _, _, _, _, _, _, _, _, _, _, _, _, _, _, _, _, _, _, _, _, _, _, rfl⟩
    rintro e a W2 ⟨rfl, fv2, SCA, FBA, FBB, z0, z2, z5, z8, z9, z10, z11, z12, z13, z14, z15, z16, z17, z18, z19, z20, z21, z22, z23, z24, z25, z26, z27, z28, z29, z30, z31, z32, z33, z34, z35, z36, z37, z38, z39, z40, z41, z42, z43, z44, z45, z46, z47, z48, z49, z50, z51, z52, rfl⟩
    clear CX SCy FBy GBy k0 k1 k2 k3 kl r0 r1 r2 f0 f1 f2 rl CI CK
    have CW := Lib.hid (SameField_true l' s' fv fv2 C W2 FBA.out.smp.sl FBB.out.smp.sl)
    obtain ⟨fva, fvc, rfl, -, -⟩ := FBA.out.smp.sl
    obtain ⟨gva, gvc, rfl, -, -⟩ := FBB.out.smp.sl
    obtain ⟨q0, q1, q2, -, -, -, ql⟩ := three_cells FBA.out.blk
    obtain ⟨r0, r1, r2, -, -, -, rl⟩ := three_cells FBB.out.blk
    go_wp2_with fail
    refine CW.out.mono ?_
    rintro e wE ⟨rfl, hb⟩
    have SCE := Lib.hid (SCA.out.next hb)
    go_wp2_with fail
    go_ret
    exact ⟨rfl, SCE.out.hb⟩

/-- THE LAW, FOR ALL FIELDS -/
theorem focuses_any (l s : Int) (pv cv : Value) (xs cs : List Nat) (w : World) (hp : Fls .f64 xs w pv) (hc : Fls .f32 cs w cv) (hl : I64 l) (hs : I64 s) (hz : ∀ z ∈ pairsOf xs, z.1 < 2 ^ 64 ∧ z.2 < 2 ^ 64) (hu : ∀ z ∈ pairsOf cs, z.1 < 2 ^ 32 ∧ z.2 < 2 ^ 32) (ht : Tab w) :
    Calls Tryd.prog 5 #[.agg #[.int .i64 l, .int .i64 s, pv, cv]] w fun e w' => e = .returned (.bool true) ∧ Below w.heap.size w w' := by
  cases hsm : slightB xs.length cs.length with
  | false => exact focuses_long l s pv cv xs cs w hp hc hsm ht
  | true => exact focuses_short l s pv cv xs cs w hp hc hl hs hz hu hsm ht
end Go.Proofs.YtmmmaanflmgblaaDoor
