import Derived.Test.YtmmmaanflmgblaaDoorGe
namespace Go.Proofs.YtmmmaanflmgblaaDoor
open Go.RowKit Go.Proofs.YtmmmaanflmgblaaDoor.Flt

/-- a law's field in its box, in a later world -/
structure FldIn (l s : Int) (pv cv : Value) (xs cs : List Nat) (w W : World) : Prop where
  blk : W.heap[w.heap.size]? = some (.cells #[.int .i64 l, .int .i64 s, pv, cv] 44 (0, 0))
  hb : Below w.heap.size w W
  p : Fls .f64 xs W pv
  c : Fls .f32 cs W cv
theorem FldIn.start {l s : Int} {pv cv : Value} {xs cs : List Nat} {w : World} (hp : Fls .f64 xs w pv) (hc : Fls .f32 cs w cv) : FldIn l s pv cv xs cs w (w.alloc (.cells #[.int .i64 l, .int .i64 s, pv, cv] 44)) := by
  have hb : Below w.heap.size w (w.alloc (.cells #[.int .i64 l, .int .i64 s, pv, cv] 44)) := (Below.refl _ _).alloc (Nat.le_refl _) _
  exact ⟨heap_alloc_new _ _, hb, hp.below hb, hc.below hb⟩
theorem FldIn.next {l s : Int} {pv cv : Value} {xs cs : List Nat} {w W W' : World} (h : FldIn l s pv cv xs cs w W) (hb : Below W.heap.size W W') : FldIn l s pv cv xs cs w W' :=
  ⟨(hb.block _ (lt_of_block h.blk)).trans h.blk, h.hb.trans (hb.mono h.hb.size), h.p.below hb, h.c.below hb⟩
/-- a block as it was made -/
structure BoxIn (b : Nat) (cs : Array Value) (t : TypeId) (W : World) : Prop where
  blk : W.heap[b]? = some (.cells cs t (0, 0))
theorem BoxIn.next {b : Nat} {cs : Array Value} {t : TypeId} {W W' : World} (h : BoxIn b cs t W) (hb : Below W.heap.size W W') : BoxIn b cs t W' := ⟨(hb.block _ (lt_of_block h.blk)).trans h.blk⟩

set_option maxRecDepth 100000 in
theorem fields_long (l s : Int) (pv cv : Value) (xs cs : List Nat) (line sample : Int) (w : World) (hp : Fls .f64 xs w pv) (hc : Fls .f32 cs w cv) (hsm : slightB xs.length cs.length = false) (ht : Tab w) :
    Calls Tryd.prog 4 #[.agg #[.int .i64 l, .int .i64 s, pv, cv], .int .i64 line, .int .i64 sample] w fun e w' => e = .returned (.bool true) ∧ Below w.heap.size w w' := by
  have CA := Lib.hid (fun W (h : FldIn l s pv cv xs cs w W) => awake_any W (ht.below h.hb))
  have CS : Hid (∀ W, FldIn l s pv cv xs cs w W → Calls Tryd.prog 21 #[.agg #[.int .i64 l, .int .i64 s, pv, cv]] W fun e w' => e = .returned (.bool false) ∧ Below W.heap.size W w') := fun W h => by
    have := slight_any l s pv cv xs cs W h.p h.c
    rwa [hsm] at this
  have HS0 : Hid (∀ W0, W0 = w.alloc (.cells #[.int .i64 l, .int .i64 s, pv, cv] 44) → FldIn l s pv cv xs cs w W0) := by
    rintro W0 rfl
    exact FldIn.start hp hc
  obtain ⟨pa, pc, rfl, -, -⟩ := hp.sl
  obtain ⟨ca, cc, rfl, -, -⟩ := hc.sl
  generalize (fvals .f64 xs).length = np at *
  generalize (fvals .f32 cs).length = nc at *
  clear hp hc hsm ht
  go_enter Tryd.func4, Tryd.ntmps4
  go_wp2_with fail
  obtain ⟨W0, hW0⟩ : ∃ W0, W0 = w.alloc (.cells #[.int .i64 l, .int .i64 s, .slice pa np pc, .slice ca nc cc] 44) := ⟨_, rfl⟩
  have SC0 := Lib.hid (HS0.out W0 hW0)
  rw [← hW0]
  clear hW0 HS0
  refine (CA.out _ SC0.out).mono ?_
  rintro e w1 ⟨rfl, hb⟩
  have SC1 := Lib.hid (SC0.out.next hb)
  clear hb SC0
  obtain ⟨k0, k1, k2, k3, kl⟩ := four_cells SC1.out.blk
  go_wp2_with fail
  refine (CS.out _ SC1.out).mono ?_
  rintro e w2 ⟨rfl, hb⟩
  have SC2 := Lib.hid (SC1.out.next hb)
  clear hb SC1 k0 k1 k2 k3 kl
  go_wp2_with fail
  go_ret
  exact ⟨rfl, SC2.out.hb⟩

set_option maxRecDepth 100000 in
set_option maxHeartbeats 4000000 in
theorem fields_bad (l s : Int) (pv cv : Value) (xs cs : List Nat) (line sample : Int) (w : World) (hp : Fls .f64 xs w pv) (hc : Fls .f32 cs w cv) (hl : I64 l) (hs : I64 s) (hz : ∀ z ∈ pairsOf xs, z.1 < 2 ^ 64 ∧ z.2 < 2 ^ 64) (hsm : slightB xs.length cs.length = true) (hE : (dataErr .f64 1000000000 l s (pairsOf xs)).2 ≠ 0) (ht : Tab w) :
    Calls Tryd.prog 4 #[.agg #[.int .i64 l, .int .i64 s, pv, cv], .int .i64 line, .int .i64 sample] w fun e w' => e = .returned (.bool true) ∧ Below w.heap.size w w' := by
  have CA := Lib.hid (fun W (h : FldIn l s pv cv xs cs w W) => awake_any W (ht.below h.hb))
  have CS : Hid (∀ W, FldIn l s pv cv xs cs w W → Calls Tryd.prog 21 #[.agg #[.int .i64 l, .int .i64 s, pv, cv]] W fun e w' => e = .returned (.bool true) ∧ Below W.heap.size W w') := fun W h => by
    have := slight_any l s pv cv xs cs W h.p h.c
    rwa [hsm] at this
  have HS0 : Hid (∀ W0, W0 = w.alloc (.cells #[.int .i64 l, .int .i64 s, pv, cv] 44) → FldIn l s pv cv xs cs w W0) := by
    rintro W0 rfl
    exact FldIn.start hp hc
  have hlen : xs.length ≤ 100000 := by
    unfold slightB at hsm
    simp at hsm
    omega
  have CI := Lib.hid (fun W (h : FldIn l s pv cv xs cs w W) => sums_any l s pv cv xs W h.p hlen)
  have CF := Lib.hid (fun W v (hv : Smp .f64 (pairsOf xs) W v) => CheckField_any l s v (pairsOf xs) W hl hs hv.sl hz)
  have CR := Lib.hid (fun W v (hv : Smp .f64 (pairsOf xs) W v) => refCheckField_any l s v (pairsOf xs) W hv.sl)
  have CP := Lib.hid (fun W v (hv : Smp .f64 (pairsOf xs) W v) => Peak_bad l s v (pairsOf xs) W hl hs hv.sl hz hE)
  have CE : Hid (∀ W v, Smp .f64 (pairsOf xs) W v → Calls Tryd.prog 25 #[.agg #[.int .i64 l, .int .i64 s, v], .int .i64 line, .int .i64 sample] W fun e w' => e = .returned (.tuple #[.int .i64 0, .int .i64 (dataErr .f64 1000000000 l s (pairsOf xs)).2]) ∧ Below W.heap.size W w') := fun W v hv => by
    have h1 : lineErr l s (pairsOf xs) line = (dataErr .f64 1000000000 l s (pairsOf xs)).2 := by unfold lineErr; rw [if_pos hE]
    have h2 : enErr l s (pairsOf xs) line sample = (dataErr .f64 1000000000 l s (pairsOf xs)).2 := by unfold enErr; rw [h1, if_pos hE]
    have := EnergyAt_any l s v (pairsOf xs) line sample W hl hs hv.sl hz
    rwa [h2, if_neg hE] at this
  have hd : ((dataErr .f64 1000000000 l s (pairsOf xs)).2 != 0) = true := by rw [bne_iff_ne]; exact hE
  generalize (dataErr .f64 1000000000 l s (pairsOf xs)).1 = D1 at *
  generalize (dataErr .f64 1000000000 l s (pairsOf xs)).2 = D2 at *
  generalize pairsOf xs = zs at *
  have hEq := eq_pair
  have hGd := guard_pair
  obtain ⟨pa, pc, rfl, -, -⟩ := hp.sl
  obtain ⟨ca, cc, rfl, -, -⟩ := hc.sl
  generalize (fvals .f64 xs).length = np at *
  generalize (fvals .f32 cs).length = nc at *
  clear hp hc hsm ht hl hs hz hE hlen
  go_enter Tryd.func4, Tryd.ntmps4
  go_wp2_with fail
  obtain ⟨W0, hW0⟩ : ∃ W0, W0 = w.alloc (.cells #[.int .i64 l, .int .i64 s, .slice pa np pc, .slice ca nc cc] 44) := ⟨_, rfl⟩
  have SC0 := Lib.hid (HS0.out W0 hW0)
  rw [← hW0]
  clear hW0 HS0
  refine (CA.out _ SC0.out).mono ?_
  rintro e w1 ⟨rfl, hb⟩
  have SC1 := Lib.hid (SC0.out.next hb)
  clear hb SC0
  obtain ⟨k0, k1, k2, k3, kl⟩ := four_cells SC1.out.blk
  go_wp2_with fail
  refine (CS.out _ SC1.out).mono ?_
  rintro e w2 ⟨rfl, hb⟩
  have SC2 := Lib.hid (SC1.out.next hb)
  clear hb SC1 k0 k1 k2 k3 kl
  obtain ⟨k0, k1, k2, k3, kl⟩ := four_cells SC2.out.blk
  go_wp2_with fail
  refine (CI.out _ SC2.out).mono ?_
  rintro e w3 ⟨v3, rfl, hb, hs⟩
  have SC3 := Lib.hid (SC2.out.next hb)
  have V_3 := Lib.hid hs
  clear hb hs SC2 k0 k1 k2 k3 kl
  obtain ⟨va3, vc3, rfl, -, -⟩ := V_3.out.sl
  obtain ⟨k0, k1, k2, k3, kl⟩ := four_cells SC3.out.blk
  go_wp2_with fail
  refine (CF.out _ _ V_3.out).mono ?_
  rintro e w4 ⟨rfl, hb⟩
  have SC4 := Lib.hid (SC3.out.next hb)
  have V_4 := Lib.hid (V_3.out.below hb)
  clear hb SC3 V_3 k0 k1 k2 k3 kl
  clear V_4
  obtain ⟨k0, k1, k2, k3, kl⟩ := four_cells SC4.out.blk
  go_wp2_with fail
  refine (CI.out _ SC4.out).mono ?_
  rintro e w5 ⟨v5, rfl, hb, hs⟩
  have SC5 := Lib.hid (SC4.out.next hb)
  have V_5 := Lib.hid hs
  clear hb hs SC4 k0 k1 k2 k3 kl
  obtain ⟨va5, vc5, rfl, -, -⟩ := V_5.out.sl
  obtain ⟨k0, k1, k2, k3, kl⟩ := four_cells SC5.out.blk
  go_wp2_with fail
  refine (CP.out _ _ V_5.out).mono ?_
  rintro e w6 ⟨rfl, hb⟩
  have SC6 := Lib.hid (SC5.out.next hb)
  have V_6 := Lib.hid (V_5.out.below hb)
  clear hb SC5 V_5 k0 k1 k2 k3 kl
  clear V_6
  have SC7a := Lib.hid (SC6.out.next (below_new w6 (.cells #[.int .i64 0, .int .i64 0] 51)))
  have PBa : Hid (BoxIn w6.heap.size #[.int .i64 0, .int .i64 0] 51 (w6.alloc (.cells #[.int .i64 0, .int .i64 0] 51))) := ⟨heap_alloc_new _ _⟩
  clear SC6 
  obtain ⟨k0, k1, k2, k3, kl⟩ := four_cells SC7a.out.blk
  go_wp2_with fail
  obtain ⟨w7, hw7⟩ : ∃ w7, w7 = w6.alloc (.cells #[.int .i64 0, .int .i64 0] 51) := ⟨_, rfl⟩
  obtain ⟨bPB, hbPB⟩ : ∃ bPB, bPB = w6.heap.size := ⟨_, rfl⟩
  rw [← hw7] at SC7a PBa 
  rw [← hbPB] at PBa
  rw [← hw7, ← hbPB]
  have SC7 := SC7a
  have PB_7 := PBa
  clear PBa SC7a hw7 hbPB k0 k1 k2 k3 kl 
  obtain ⟨k0, k1, k2, k3, kl⟩ := four_cells SC7.out.blk
  refine (CI.out _ SC7.out).mono ?_
  rintro e w8 ⟨v8, rfl, hb, hs⟩
  have SC8 := Lib.hid (SC7.out.next hb)
  have PB_8 := Lib.hid (PB_7.out.next hb)
  have V_8 := Lib.hid hs
  clear hb hs SC7 PB_7 k0 k1 k2 k3 kl
  obtain ⟨va8, vc8, rfl, -, -⟩ := V_8.out.sl
  obtain ⟨k0, k1, k2, k3, kl⟩ := four_cells SC8.out.blk
  go_wp2_with fail
  refine (CE.out _ _ V_8.out).mono ?_
  rintro e w9 ⟨rfl, hb⟩
  have SC9 := Lib.hid (SC8.out.next hb)
  have PB_9 := Lib.hid (PB_8.out.next hb)
  have V_9 := Lib.hid (V_8.out.below hb)
  clear hb SC8 PB_8 V_8 k0 k1 k2 k3 kl
  clear V_9
  obtain ⟨k0, k1, k2, k3, kl⟩ := four_cells SC9.out.blk
  go_wp2_with fail
  refine (CI.out _ SC9.out).mono ?_
  rintro e w10 ⟨v10, rfl, hb, hs⟩
  have SC10 := Lib.hid (SC9.out.next hb)
  have PB_10 := Lib.hid (PB_9.out.next hb)
  have V_10 := Lib.hid hs
  clear hb hs SC9 PB_9 k0 k1 k2 k3 kl
  obtain ⟨va10, vc10, rfl, -, -⟩ := V_10.out.sl
  obtain ⟨k0, k1, k2, k3, kl⟩ := four_cells SC10.out.blk
  go_wp2_with fail
  refine (CR.out _ _ V_10.out).mono ?_
  rintro e w11 ⟨rfl, hb⟩
  have SC11 := Lib.hid (SC10.out.next hb)
  have PB_11 := Lib.hid (PB_10.out.next hb)
  have V_11 := Lib.hid (V_10.out.below hb)
  clear hb SC10 PB_10 V_10 k0 k1 k2 k3 kl
  clear V_11
  obtain ⟨p0, p1, -, -, pl⟩ := two_cells PB_11.out.blk
  go_wp2_with fail
  go_ret
  exact ⟨by first | rfl | (simp; done), SC11.out.hb⟩

set_option maxRecDepth 100000 in
set_option maxHeartbeats 8000000 in
theorem fields_ok (l s : Int) (pv cv : Value) (xs cs : List Nat) (line sample : Int) (w : World) (hp : Fls .f64 xs w pv) (hc : Fls .f32 cs w cv) (hl : I64 l) (hs : I64 s) (hz : ∀ z ∈ pairsOf xs, z.1 < 2 ^ 64 ∧ z.2 < 2 ^ 64) (hsm : slightB xs.length cs.length = true) (hE : (dataErr .f64 1000000000 l s (pairsOf xs)).2 = 0) (ht : Tab w) :
    Calls Tryd.prog 4 #[.agg #[.int .i64 l, .int .i64 s, pv, cv], .int .i64 line, .int .i64 sample] w fun e w' => e = .returned (.bool true) ∧ Below w.heap.size w w' := by
  have CA := Lib.hid (fun W (h : FldIn l s pv cv xs cs w W) => awake_any W (ht.below h.hb))
  have CS : Hid (∀ W, FldIn l s pv cv xs cs w W → Calls Tryd.prog 21 #[.agg #[.int .i64 l, .int .i64 s, pv, cv]] W fun e w' => e = .returned (.bool true) ∧ Below W.heap.size W w') := fun W h => by
    have := slight_any l s pv cv xs cs W h.p h.c
    rwa [hsm] at this
  have HS0 : Hid (∀ W0, W0 = w.alloc (.cells #[.int .i64 l, .int .i64 s, pv, cv] 44) → FldIn l s pv cv xs cs w W0) := by
    rintro W0 rfl
    exact FldIn.start hp hc
  have hlen : xs.length ≤ 100000 := by
    unfold slightB at hsm
    simp at hsm
    omega
  have CI := Lib.hid (fun W (h : FldIn l s pv cv xs cs w W) => sums_any l s pv cv xs W h.p hlen)
  have CF := Lib.hid (fun W v (hv : Smp .f64 (pairsOf xs) W v) => CheckField_any l s v (pairsOf xs) W hl hs hv.sl hz)
  have CR := Lib.hid (fun W v (hv : Smp .f64 (pairsOf xs) W v) => refCheckField_any l s v (pairsOf xs) W hv.sl)
  obtain ⟨L, S, -, hlL, hsS, -, hL1, hL, hS1, hS, -, hln, RR⟩ := lineErr_ok (line := 0) (by unfold lineErr; rw [if_neg (fun c => c hE), if_neg (by have := dataErr_ok hE; omega)]) hz
  have hE2 : (dataErr .f64 1000000000 L S (pairsOf xs)).2 = 0 := by rw [← hlL, ← hsS]; exact hE
  have CP := Lib.hid (fun W v (hv : Smp .f64 (pairsOf xs) W v) => Peak_ok L S v (pairsOf xs) W hv.sl hz hL1 hL hS1 hS hln RR hE2)
  have CQ := Lib.hid (fun W v (hv : Smp .f64 (pairsOf xs) W v) => refPeak_any L S v (pairsOf xs) W hv.sl hz RR hL1 hL hS1 hS hln)
  have CE := Lib.hid (fun W v (hv : Smp .f64 (pairsOf xs) W v) => EnergyAt_any l s v (pairsOf xs) line sample W hl hs hv.sl hz)
  have CW1 := Lib.hid (fun w => Within_any line 0 (l - 1) w)
  have CW2 := Lib.hid (fun w => Within_any sample 0 (s - 1) w)
  have hn4 : (pairsOf xs).length ≤ 4096 := by rw [hln]; exact Nat.le_trans (Nat.mul_le_mul hL hS) (by decide)
  have bl : 1 ≤ l ∧ l ≤ 64 := by omega
  have bs : 1 ≤ s ∧ s ≤ 64 := by omega
  have hcase : (¬ (0 ≤ line ∧ line ≤ l - 1) ∧ Hid (enErr l s (pairsOf xs) line sample = 2)) ∨ ((0 ≤ line ∧ line ≤ l - 1) ∧ ¬ (0 ≤ sample ∧ sample ≤ s - 1) ∧ Hid (enErr l s (pairsOf xs) line sample = 2)) ∨
      ((0 ≤ line ∧ line ≤ l - 1) ∧ (0 ≤ sample ∧ sample ≤ s - 1) ∧ Hid (enErr l s (pairsOf xs) line sample = 0)) := by
    have hle : lineErr l s (pairsOf xs) line = if line < 0 ∨ l ≤ line then 2 else 0 := by unfold lineErr; rw [if_neg (fun c => c hE)]
    unfold Hid enErr
    rw [hle]
    by_cases h1 : 0 ≤ line ∧ line ≤ l - 1
    · have hq : ¬ (line < 0 ∨ l ≤ line) := by omega
      rw [if_neg hq, if_neg (show ¬ ((0 : Int) ≠ 0) from fun c => c rfl)]
      by_cases h2 : 0 ≤ sample ∧ sample ≤ s - 1
      · exact .inr (.inr ⟨h1, h2, if_neg (by omega)⟩)
      · exact .inr (.inl ⟨h1, h2, if_pos (by omega)⟩)
    · have hq : line < 0 ∨ l ≤ line := by omega
      rw [if_pos hq, if_pos (show (2 : Int) ≠ 0 from by decide)]
      exact .inl ⟨h1, rfl⟩
  have HEn : Hid ((0 ≤ line ∧ line ≤ l - 1) → (0 ≤ sample ∧ sample ≤ s - 1) → (∀ W v, Smp .f64 (pairsOf xs) W v → Calls Tryd.prog 29 #[.agg #[.int .i64 l, .int .i64 s, v], .int .i64 line, .int .i64 sample] W fun e w' => e = .returned (.int .i64 (enAt (pairsOf xs) (line * s + sample).toNat)) ∧ Below W.heap.size W w') ∧ enAt (pairsOf xs) (line * s + sample).toNat ≤ enAt (pairsOf xs) (bestI (enAt (pairsOf xs)) (pairsOf xs).length)) := by
    intro h1 h2
    obtain ⟨m, hm⟩ : ∃ m : Nat, line = m := ⟨line.toNat, by omega⟩
    obtain ⟨j, hj⟩ : ∃ j : Nat, sample = j := ⟨sample.toNat, by omega⟩
    have hml : m < L := by omega
    have hjl : j < S := by omega
    have h4 : m * S + S ≤ L * S := by rw [← Nat.succ_mul]; exact Nat.mul_le_mul_right _ hml
    have he : (line * s + sample).toNat = m * S + j := by rw [hm, hj, hsS, ← Int.natCast_mul]; omega
    rw [he]
    refine ⟨fun W v hv => ?_, bestI_ge _ _ _ (by omega)⟩
    rw [hlL, hsS, hm, hj]
    exact refEnergy_any L S v (pairsOf xs) m j W hv.sl hz RR hS hn4 (by omega)
  rw [hE] at CF CR
  rw [← hlL, ← hsS] at CP CQ
  generalize bestI (enAt (pairsOf xs)) (pairsOf xs).length / S = bq at *
  generalize bestI (enAt (pairsOf xs)) (pairsOf xs).length % S = br at *
  generalize enAt (pairsOf xs) (bestI (enAt (pairsOf xs)) (pairsOf xs).length) = EM at *
  generalize enAt (pairsOf xs) (line * s + sample).toNat = EA at *
  generalize enErr l s (pairsOf xs) line sample = KE at *
  generalize (dataErr .f64 1000000000 l s (pairsOf xs)).1 = D1 at *
  generalize pairsOf xs = zs at *
  have hEq := eq_pair
  have hGd := guard_pair
  obtain ⟨pa, pc, rfl, -, -⟩ := hp.sl
  obtain ⟨ca, cc, rfl, -, -⟩ := hc.sl
  generalize (fvals .f64 xs).length = np at *
  generalize (fvals .f32 cs).length = nc at *
  obtain ⟨KV, hKV⟩ : ∃ KV, KV = if KE = 0 then EA else 0 := ⟨_, rfl⟩
  rw [← hKV] at CE
  have HKV := Lib.hid hKV
  clear hp hc hsm ht hl hs hz hE hE2 hlen hln RR hn4 hL1 hL hS1 hS hlL hsS hKV
  obtain ⟨bl1, bl2⟩ := bl
  obtain ⟨bs1, bs2⟩ := bs
  go_enter Tryd.func4, Tryd.ntmps4
  go_wp2_with fail
  obtain ⟨W0, hW0⟩ : ∃ W0, W0 = w.alloc (.cells #[.int .i64 l, .int .i64 s, .slice pa np pc, .slice ca nc cc] 44) := ⟨_, rfl⟩
  have SC0 := Lib.hid (HS0.out W0 hW0)
  rw [← hW0]
  clear hW0 HS0
  refine (CA.out _ SC0.out).mono ?_
  rintro e w1 ⟨rfl, hb⟩
  have SC1 := Lib.hid (SC0.out.next hb)
  clear hb SC0
  obtain ⟨k0, k1, k2, k3, kl⟩ := four_cells SC1.out.blk
  go_wp2_with fail
  refine (CS.out _ SC1.out).mono ?_
  rintro e w2 ⟨rfl, hb⟩
  have SC2 := Lib.hid (SC1.out.next hb)
  clear hb SC1 k0 k1 k2 k3 kl
  obtain ⟨k0, k1, k2, k3, kl⟩ := four_cells SC2.out.blk
  go_wp2_with fail
  refine (CI.out _ SC2.out).mono ?_
  rintro e w3 ⟨v3, rfl, hb, hs⟩
  have SC3 := Lib.hid (SC2.out.next hb)
  have V_3 := Lib.hid hs
  clear hb hs SC2 k0 k1 k2 k3 kl
  obtain ⟨va3, vc3, rfl, -, -⟩ := V_3.out.sl
  obtain ⟨k0, k1, k2, k3, kl⟩ := four_cells SC3.out.blk
  go_wp2_with fail
  refine (CF.out _ _ V_3.out).mono ?_
  rintro e w4 ⟨rfl, hb⟩
  have SC4 := Lib.hid (SC3.out.next hb)
  have V_4 := Lib.hid (V_3.out.below hb)
  clear hb SC3 V_3 k0 k1 k2 k3 kl
  clear V_4
  obtain ⟨k0, k1, k2, k3, kl⟩ := four_cells SC4.out.blk
  go_wp2_with fail
  refine (CI.out _ SC4.out).mono ?_
  rintro e w5 ⟨v5, rfl, hb, hs⟩
  have SC5 := Lib.hid (SC4.out.next hb)
  have V_5 := Lib.hid hs
  clear hb hs SC4 k0 k1 k2 k3 kl
  obtain ⟨va5, vc5, rfl, -, -⟩ := V_5.out.sl
  obtain ⟨k0, k1, k2, k3, kl⟩ := four_cells SC5.out.blk
  go_wp2_with fail
  refine (CP.out _ _ V_5.out).mono ?_
  rintro e w6 ⟨rfl, hb⟩
  have SC6 := Lib.hid (SC5.out.next hb)
  have V_6 := Lib.hid (V_5.out.below hb)
  clear hb SC5 V_5 k0 k1 k2 k3 kl
  clear V_6
  have SC7a := Lib.hid (SC6.out.next (below_new w6 (.cells #[.int .i64 bq, .int .i64 br] 51)))
  have PBa : Hid (BoxIn w6.heap.size #[.int .i64 bq, .int .i64 br] 51 (w6.alloc (.cells #[.int .i64 bq, .int .i64 br] 51))) := ⟨heap_alloc_new _ _⟩
  clear SC6 
  obtain ⟨k0, k1, k2, k3, kl⟩ := four_cells SC7a.out.blk
  go_wp2_with fail
  obtain ⟨w7, hw7⟩ : ∃ w7, w7 = w6.alloc (.cells #[.int .i64 bq, .int .i64 br] 51) := ⟨_, rfl⟩
  obtain ⟨bPB, hbPB⟩ : ∃ bPB, bPB = w6.heap.size := ⟨_, rfl⟩
  rw [← hw7] at SC7a PBa 
  rw [← hbPB] at PBa
  rw [← hw7, ← hbPB]
  have SC7 := SC7a
  have PB_7 := PBa
  clear PBa SC7a hw7 hbPB k0 k1 k2 k3 kl 
  obtain ⟨k0, k1, k2, k3, kl⟩ := four_cells SC7.out.blk
  refine (CI.out _ SC7.out).mono ?_
  rintro e w8 ⟨v8, rfl, hb, hs⟩
  have SC8 := Lib.hid (SC7.out.next hb)
  have PB_8 := Lib.hid (PB_7.out.next hb)
  have V_8 := Lib.hid hs
  clear hb hs SC7 PB_7 k0 k1 k2 k3 kl
  obtain ⟨va8, vc8, rfl, -, -⟩ := V_8.out.sl
  obtain ⟨k0, k1, k2, k3, kl⟩ := four_cells SC8.out.blk
  go_wp2_with fail
  refine (CE.out _ _ V_8.out).mono ?_
  rintro e w9 ⟨rfl, hb⟩
  have SC9 := Lib.hid (SC8.out.next hb)
  have PB_9 := Lib.hid (PB_8.out.next hb)
  have V_9 := Lib.hid (V_8.out.below hb)
  clear hb SC8 PB_8 V_8 k0 k1 k2 k3 kl
  clear V_9
  obtain ⟨k0, k1, k2, k3, kl⟩ := four_cells SC9.out.blk
  go_wp2_with fail
  refine (CI.out _ SC9.out).mono ?_
  rintro e w10 ⟨v10, rfl, hb, hs⟩
  have SC10 := Lib.hid (SC9.out.next hb)
  have PB_10 := Lib.hid (PB_9.out.next hb)
  have V_10 := Lib.hid hs
  clear hb hs SC9 PB_9 k0 k1 k2 k3 kl
  obtain ⟨va10, vc10, rfl, -, -⟩ := V_10.out.sl
  obtain ⟨k0, k1, k2, k3, kl⟩ := four_cells SC10.out.blk
  go_wp2_with fail
  refine (CR.out _ _ V_10.out).mono ?_
  rintro e w11 ⟨rfl, hb⟩
  have SC11 := Lib.hid (SC10.out.next hb)
  have PB_11 := Lib.hid (PB_10.out.next hb)
  have V_11 := Lib.hid (V_10.out.below hb)
  clear hb SC10 PB_10 V_10 k0 k1 k2 k3 kl
  clear V_11
  obtain ⟨k0, k1, k2, k3, kl⟩ := four_cells SC11.out.blk
  go_wp2_with fail
  refine (CI.out _ SC11.out).mono ?_
  rintro e w12 ⟨v12, rfl, hb, hs⟩
  have SC12 := Lib.hid (SC11.out.next hb)
  have PB_12 := Lib.hid (PB_11.out.next hb)
  have V_12 := Lib.hid hs
  clear hb hs SC11 PB_11 k0 k1 k2 k3 kl
  obtain ⟨va12, vc12, rfl, -, -⟩ := V_12.out.sl
  obtain ⟨k0, k1, k2, k3, kl⟩ := four_cells SC12.out.blk
  go_wp2_with fail
  refine (CQ.out _ _ V_12.out).mono ?_
  rintro e w13 ⟨rfl, hb⟩
  have SC13 := Lib.hid (SC12.out.next hb)
  have PB_13 := Lib.hid (PB_12.out.next hb)
  have V_13 := Lib.hid (V_12.out.below hb)
  clear hb SC12 PB_12 V_12 k0 k1 k2 k3 kl
  clear V_13
  have SC14a := Lib.hid (SC13.out.next (below_new w13 (.cells #[.int .i64 bq, .int .i64 br] 51)))
  have QBa : Hid (BoxIn w13.heap.size #[.int .i64 bq, .int .i64 br] 51 (w13.alloc (.cells #[.int .i64 bq, .int .i64 br] 51))) := ⟨heap_alloc_new _ _⟩
  have PB_14a := Lib.hid (PB_13.out.next (below_new w13 (.cells #[.int .i64 bq, .int .i64 br] 51)))
  clear SC13 PB_13
  obtain ⟨k0, k1, k2, k3, kl⟩ := four_cells SC14a.out.blk
  obtain ⟨p0, p1, -, -, pl⟩ := two_cells PB_14a.out.blk
  obtain ⟨q0, q1, -, -, ql⟩ := two_cells QBa.out.blk
  rcases hcase with ⟨h1, hF⟩ | ⟨h1, h2, hF⟩ | ⟨h1, h2, hF⟩
  · have hK : KE = 2 := hF.out
    have hV : KV = 0 := by rw [HKV.out, hK]; rfl
    rw [decide_eq_false h1] at CW1
    subst hK hV
    clear h1 HKV hF HEn
    go_wp2_with fail
    refine (CW1.out _).mono ?_
    rintro e w' ⟨rfl, rfl⟩
    go_wp2_with fail
    go_ret
    exact ⟨by first | rfl | (simp; done), SC14a.out.hb⟩
  · have hK : KE = 2 := hF.out
    have hV : KV = 0 := by rw [HKV.out, hK]; rfl
    rw [decide_eq_true h1] at CW1
    rw [decide_eq_false h2] at CW2
    subst hK hV
    clear h1 h2 HKV hF HEn
    go_wp2_with fail
    refine (CW1.out _).mono ?_
    rintro e w' ⟨rfl, rfl⟩
    go_wp2_with fail
    refine (CW2.out _).mono ?_
    rintro e w' ⟨rfl, rfl⟩
    go_wp2_with fail
    go_ret
    exact ⟨by first | rfl | (simp; done), SC14a.out.hb⟩
  · have hK : KE = 0 := hF.out
    have hV : KV = EA := by rw [HKV.out, hK]; rfl
    rw [decide_eq_true h1] at CW1
    rw [decide_eq_true h2] at CW2
    obtain ⟨CEn, hle⟩ := HEn.out h1 h2
    have CEn := Lib.hid CEn
    subst hK hV
    clear h1 h2 HKV hF HEn
    go_wp2_with fail
    refine (CW1.out _).mono ?_
    rintro e w' ⟨rfl, rfl⟩
    go_wp2_with fail
    refine (CW2.out _).mono ?_
    rintro e w' ⟨rfl, rfl⟩
    go_wp2_with fail
    refine (CI.out _ SC14a.out).mono ?_
    rintro e wx ⟨vx, rfl, hb, hs⟩
    have SCx := Lib.hid (SC14a.out.next hb)
    have VX := Lib.hid hs
    obtain ⟨vxa, vxc, rfl, -, -⟩ := VX.out.sl
    clear hb hs
    go_wp2_with fail
    refine (CEn.out _ _ VX.out).mono ?_
    rintro e wy ⟨rfl, hb⟩
    have SCy := Lib.hid (SCx.out.next hb)
    clear hb
    go_wp2_with fail
    go_ret
    exact ⟨by first | rfl | (simp; done) | (simp; omega), SCy.out.hb⟩
end Go.Proofs.YtmmmaanflmgblaaDoor
