import Derived.Test.YtmmmaanflmgblaaDoorIc
namespace Go.Proofs.YtmmmaanflmgblaaDoor
open Go.RowKit Go.Proofs.YtmmmaanflmgblaaDoor.Flt

/-- a slice of samples whose cap is right -/
structure SmpC (zs : List (Nat × Nat)) (W : World) (v : Value) : Prop where
  sl : Sl W v (cvals .f32 zs)
  cap : ∀ a m c, v = .slice a m c → m ≤ c ∧ c ≤ 9223372036854775807
theorem SmpC.below {zs : List (Nat × Nat)} {W W' : World} {v : Value} (h : SmpC zs W v) (hb : Below W.heap.size W W') : SmpC zs W' v := ⟨h.sl.below hb (Nat.le_refl _), h.cap⟩
theorem cap_of_owns {W : World} {v : Value} {B n k : Nat} {e : TypeId} {xs : List Value} (ho : W.ownsRow B e k v n xs) : ∀ a m c, v = .slice a m c → m ≤ c ∧ c ≤ 9223372036854775807 := by
  intro a m c hv
  rcases ho.2 with ⟨h, -⟩ | ⟨g, cap, cur, h, -, -, h1, h2, -⟩
  · rw [h] at hv; cases hv; exact ⟨Nat.le_refl _, by decide⟩
  · rw [h] at hv; cases hv; exact ⟨h1, by unfold maxLen at h2; omega⟩

set_option maxRecDepth 100000 in
/-- the law's image, with its cap -/
theorem lawImageC_any (l s : Int) (pv cv : Value) (xs : List Nat) (w : World) (hp : Fls .f32 xs w pv) (hlen : xs.length ≤ 100000) :
    Calls Tryd.prog 14 #[.agg #[.int .i64 l, .int .i64 s, pv, cv]] w fun e w' => ∃ v, e = .returned (.agg #[.int .i64 l, .int .i64 s, v]) ∧ Below w.heap.size w w' ∧ SmpC (pairsOf xs) w' v := by
  obtain ⟨W1, hW1⟩ : ∃ W1, W1 = (w.alloc (.cells #[.int .i64 l, .int .i64 s, pv, cv] 24)).alloc (.cells #[.int .i64 0, .int .i64 0, .slice none 0 0] 32) := ⟨_, rfl⟩
  have hb : Below w.heap.size w W1 := by rw [hW1]; exact ((Below.refl _ _).alloc (Nat.le_refl _) _).alloc (by simp) _
  have hs : W1.heap.size = w.heap.size + 2 := by rw [hW1]; simp
  have h3 : W1.heap[w.heap.size + 1]? = some (.cells #[.int .i64 0, .int .i64 0, .slice none 0 0] 32 (0, 0)) := by
    rw [hW1]
    have := heap_alloc_new (w.alloc (.cells #[.int .i64 l, .int .i64 s, pv, cv] 24)) (.cells #[.int .i64 0, .int .i64 0, .slice none 0 0] 32)
    rwa [World.size_alloc] at this
  have C := Lib.hid (Image_any l s pv xs W1 (hp.below hb).sl (by omega))
  have HB := Lib.hid (And.intro hb (And.intro hs h3))
  have HL : Hid ((pairsOf xs).length ≤ 1000000) := by unfold Hid; rw [pairsOf_length]; omega
  generalize pairsOf xs = zs at *
  obtain ⟨pa, pc, rfl, -, -⟩ := hp.sl
  generalize (fvals .f32 xs).length = np at *
  have HW1 := Lib.hid hW1
  clear hp hlen hb hs h3 hW1
  go_enter Tryd.func14, Tryd.ntmps14
  go_wp2_with fail
  rw [← HW1.out]
  refine C.out.mono ?_
  rintro e w2 ⟨v, rfl, hb2, ho⟩
  have hN : w2.heap[w.heap.size + 1]? = some (.cells #[.int .i64 0, .int .i64 0, .slice none 0 0] 32 (0, 0)) := (hb2.block _ (by rw [HB.out.2.1]; omega)).trans HB.out.2.2
  have HB2 := Lib.hid (HB.out.1.trans (hb2.mono (by rw [HB.out.2.1]; omega)))
  have HO := Lib.hid ho
  obtain ⟨va, vn, vc, rfl⟩ : ∃ va vn vc, v = .slice va vn vc := by
    rcases ho.2 with ⟨h, -⟩ | ⟨g, cp, -, h, -⟩
    · exact ⟨_, _, _, h⟩
    · exact ⟨_, _, _, h⟩
  clear hb2 ho
  obtain ⟨z0, z1, z2, y0, y1, y2, l3⟩ := three_cells hN
  clear hN
  go_wp2_with fail
  refine bodyPost_ret (v := .agg #[.int .i64 l, .int .i64 s, .slice va vn vc]) (by simp [results, Tryd.results14, go_sem, z0, z1, z2]) rfl ⟨.slice va vn vc, rfl, ?_, ⟨?_, cap_of_owns HO.out⟩⟩
  · exact ((HB2.out.setCell (p := ⟨w.heap.size + 1, 0, none⟩) (by show w.heap.size ≤ w.heap.size + 1; omega) _).setCell (p := ⟨w.heap.size + 1, 1, none⟩) (by show w.heap.size ≤ w.heap.size + 1; omega) _).setCell (p := ⟨w.heap.size + 1, 2, none⟩) (by show w.heap.size ≤ w.heap.size + 1; omega) _
  · have hs := HB.out.2.1
    exact Sl.of_owns (sl_setCell (sl_setCell (sl_setCell HO.out ⟨w.heap.size + 1, 0, none⟩ _ (by show w.heap.size + 1 < _; omega)) ⟨w.heap.size + 1, 1, none⟩ _ (by show w.heap.size + 1 < _; omega)) ⟨w.heap.size + 1, 2, none⟩ _ (by show w.heap.size + 1 < _; omega)) (by have := HL.out; omega)


set_option maxRecDepth 100000 in
theorem Gaps_bad (l s : Int) (v : Value) (zs : List (Nat × Nat)) (w : World) (hl : I64 l) (hs : I64 s) (hv : Sl w v (cvals .f32 zs)) (hE : (dataErr .f32 2047 l s zs).2 ≠ 0) :
    Calls Tryd.prog 15 #[.agg #[.int .i64 l, .int .i64 s, v]] w fun e w' => e = .returned (.tuple #[.slice none 0 0, .int .i64 (dataErr .f32 2047 l s zs).2]) ∧ Below w.heap.size w w' := by
  obtain ⟨W0, hW0⟩ : ∃ W0, W0 = w.alloc (.cells #[.int .i64 l, .int .i64 s, v] 32) := ⟨_, rfl⟩
  have hb : Below w.heap.size w W0 := by rw [hW0]; exact (Below.refl _ _).alloc (Nat.le_refl _) _
  have C := Lib.hid (CheckImage_any l s v zs W0 hl hs (hv.below hb (Nat.le_refl _)))
  have HB := Lib.hid hb
  have HW0 := Lib.hid hW0
  have hd : ((dataErr .f32 2047 l s zs).2 != 0) = true := by rw [bne_iff_ne]; exact hE
  obtain ⟨ad, cap, rfl, -, -⟩ := hv
  generalize (dataErr .f32 2047 l s zs).1 = D1 at *
  generalize (dataErr .f32 2047 l s zs).2 = D2 at *
  generalize (cvals .f32 zs).length = n at *
  clear hb hW0 hl hs hE
  go_enter Tryd.func15, Tryd.ntmps15
  go_wp2_with fail
  rw [← HW0.out]
  refine C.out.mono ?_
  rintro e w2 ⟨rfl, hb2⟩
  go_wp2_with fail
  go_ret2
  exact ⟨rfl, HB.out.trans (hb2.mono HB.out.size)⟩

set_option maxRecDepth 100000 in
theorem Clipped_bad (l s : Int) (v : Value) (zs : List (Nat × Nat)) (w : World) (hl : I64 l) (hs : I64 s) (hv : Sl w v (cvals .f32 zs)) (hE : (dataErr .f32 2047 l s zs).2 ≠ 0) :
    Calls Tryd.prog 16 #[.agg #[.int .i64 l, .int .i64 s, v]] w fun e w' => e = .returned (.tuple #[.int .i64 0, .int .i64 (dataErr .f32 2047 l s zs).2]) ∧ Below w.heap.size w w' := by
  obtain ⟨W0, hW0⟩ : ∃ W0, W0 = w.alloc (.cells #[.int .i64 l, .int .i64 s, v] 32) := ⟨_, rfl⟩
  have hb : Below w.heap.size w W0 := by rw [hW0]; exact (Below.refl _ _).alloc (Nat.le_refl _) _
  have C := Lib.hid (CheckImage_any l s v zs W0 hl hs (hv.below hb (Nat.le_refl _)))
  have HB := Lib.hid hb
  have HW0 := Lib.hid hW0
  have hd : ((dataErr .f32 2047 l s zs).2 != 0) = true := by rw [bne_iff_ne]; exact hE
  obtain ⟨ad, cap, rfl, -, -⟩ := hv
  generalize (dataErr .f32 2047 l s zs).1 = D1 at *
  generalize (dataErr .f32 2047 l s zs).2 = D2 at *
  generalize (cvals .f32 zs).length = n at *
  clear hb hW0 hl hs hE
  go_enter Tryd.func16, Tryd.ntmps16
  go_wp2_with fail
  rw [← HW0.out]
  refine C.out.mono ?_
  rintro e w2 ⟨rfl, hb2⟩
  go_wp2_with fail
  go_ret2
  exact ⟨rfl, HB.out.trans (hb2.mono HB.out.size)⟩

set_option maxRecDepth 100000 in
theorem images_long (l s : Int) (pv cv : Value) (xs cs : List Nat) (w : World) (hp : Fls .f32 xs w pv) (hc : Fls .f32 cs w cv) (hsm : SmallB xs.length cs.length = false) (ht : Tab w) :
    Calls Tryd.prog 3 #[.agg #[.int .i64 l, .int .i64 s, pv, cv]] w fun e w' => e = .returned (.bool true) ∧ Below w.heap.size w w' := by
  have CA := Lib.hid (fun W (h : ScIn l s pv cv xs cs w W) => awake_any W (ht.below h.hb))
  have CS : Hid (∀ W, ScIn l s pv cv xs cs w W → Calls Tryd.prog 12 #[.agg #[.int .i64 l, .int .i64 s, pv, cv]] W fun e w' => e = .returned (.bool false) ∧ Below W.heap.size W w') := fun W h => by
    have := Small_any l s pv cv xs cs W h.p h.c
    rwa [hsm] at this
  have HS0 : Hid (∀ W0, W0 = w.alloc (.cells #[.int .i64 l, .int .i64 s, pv, cv] 24) → ScIn l s pv cv xs cs w W0) := by
    rintro W0 rfl
    exact ScIn.start hp hc
  obtain ⟨pa, pc, rfl, -, -⟩ := hp.sl
  obtain ⟨ca, cc, rfl, -, -⟩ := hc.sl
  generalize (fvals .f32 xs).length = np at *
  generalize (fvals .f32 cs).length = nc at *
  clear hp hc hsm ht
  go_enter Tryd.func3, Tryd.ntmps3
  go_wp2_with fail
  obtain ⟨W0, hW0⟩ : ∃ W0, W0 = w.alloc (.cells #[.int .i64 l, .int .i64 s, .slice pa np pc, .slice ca nc cc] 24) := ⟨_, rfl⟩
  have SC0 := Lib.hid (HS0.out W0 hW0)
  rw [← hW0]
  clear hW0 HS0
  refine (CA.out _ SC0.out).mono ?_
  rintro e w1 ⟨rfl, hb⟩
  have SC1 := Lib.hid (SC0.out.next hb)
  clear hb SC0
  obtain ⟨k0, k1, k2, k3, kl⟩ := four_cells SC1.out.blk
  go_wp2_with fail
  refine (CS.out _ SC1.out).mono ?_
  rintro e w2 ⟨rfl, hb⟩
  have SC2 := Lib.hid (SC1.out.next hb)
  clear hb SC1 k0 k1 k2 k3 kl
  go_wp2_with fail
  go_ret
  exact ⟨rfl, SC2.out.hb⟩

set_option maxRecDepth 100000 in
set_option maxHeartbeats 4000000 in
theorem images_bad (l s : Int) (pv cv : Value) (xs cs : List Nat) (w : World) (hp : Fls .f32 xs w pv) (hc : Fls .f32 cs w cv) (hsm : SmallB xs.length cs.length = true) (ht : Tab w) (hl : I64 l) (hs : I64 s) (hE : (dataErr .f32 2047 l s (pairsOf xs)).2 ≠ 0) :
    Calls Tryd.prog 3 #[.agg #[.int .i64 l, .int .i64 s, pv, cv]] w fun e w' => e = .returned (.bool true) ∧ Below w.heap.size w w' := by
  have CA := Lib.hid (fun W (h : ScIn l s pv cv xs cs w W) => awake_any W (ht.below h.hb))
  have CS : Hid (∀ W, ScIn l s pv cv xs cs w W → Calls Tryd.prog 12 #[.agg #[.int .i64 l, .int .i64 s, pv, cv]] W fun e w' => e = .returned (.bool true) ∧ Below W.heap.size W w') := fun W h => by
    have := Small_any l s pv cv xs cs W h.p h.c
    rwa [hsm] at this
  have HS0 : Hid (∀ W0, W0 = w.alloc (.cells #[.int .i64 l, .int .i64 s, pv, cv] 24) → ScIn l s pv cv xs cs w W0) := by
    rintro W0 rfl
    exact ScIn.start hp hc
  have hlen : xs.length ≤ 100000 := by
    unfold SmallB at hsm
    simp at hsm
    omega
  have CI := Lib.hid (fun W (h : ScIn l s pv cv xs cs w W) => lawImageC_any l s pv cv xs W h.p hlen)
  have CC := Lib.hid (fun W v (hv : SmpC (pairsOf xs) W v) => CheckImage_any l s v (pairsOf xs) W hl hs hv.sl)
  have CR := Lib.hid (fun W v (hv : SmpC (pairsOf xs) W v) => refCheckImage_any l s v (pairsOf xs) W hv.sl)
  have CG := Lib.hid (fun W v (hv : SmpC (pairsOf xs) W v) => Gaps_bad l s v (pairsOf xs) W hl hs hv.sl hE)
  have CK := Lib.hid (fun W v (hv : SmpC (pairsOf xs) W v) => Clipped_bad l s v (pairsOf xs) W hl hs hv.sl hE)
  have hd : ((dataErr .f32 2047 l s (pairsOf xs)).2 != 0) = true := by rw [bne_iff_ne]; exact hE
  generalize (dataErr .f32 2047 l s (pairsOf xs)).1 = D1 at *
  generalize (dataErr .f32 2047 l s (pairsOf xs)).2 = D2 at *
  generalize pairsOf xs = zs at *
  obtain ⟨pa, pc, rfl, -, -⟩ := hp.sl
  obtain ⟨ca, cc, rfl, -, -⟩ := hc.sl
  generalize (fvals .f32 xs).length = np at *
  generalize (fvals .f32 cs).length = nc at *
  clear hp hc hsm ht hl hs hE hlen
  go_enter Tryd.func3, Tryd.ntmps3
  go_wp2_with fail
  obtain ⟨W0, hW0⟩ : ∃ W0, W0 = w.alloc (.cells #[.int .i64 l, .int .i64 s, .slice pa np pc, .slice ca nc cc] 24) := ⟨_, rfl⟩
  have SC0 := Lib.hid (HS0.out W0 hW0)
  rw [← hW0]
  clear hW0 HS0
  refine (CA.out _ SC0.out).mono ?_
  rintro e w1 ⟨rfl, hb⟩
  have SC1 := Lib.hid (SC0.out.next hb)
  clear hb SC0
  obtain ⟨k0, k1, k2, k3, kl⟩ := four_cells SC1.out.blk
  go_wp2_with fail
  refine (CS.out _ SC1.out).mono ?_
  rintro e w2 ⟨rfl, hb⟩
  have SC2 := Lib.hid (SC1.out.next hb)
  clear hb SC1 k0 k1 k2 k3 kl
  obtain ⟨k0, k1, k2, k3, kl⟩ := four_cells SC2.out.blk
  go_wp2_with fail
  refine (CI.out _ SC2.out).mono ?_
  rintro e w3 ⟨v3, rfl, hb, hs⟩
  have SC3 := Lib.hid (SC2.out.next hb)
  have V_3 := Lib.hid hs
  clear hb hs SC2 k0 k1 k2 k3 kl
  obtain ⟨va3, vc3, rfl, -, -⟩ := V_3.out.sl
  obtain ⟨k0, k1, k2, k3, kl⟩ := four_cells SC3.out.blk
  go_wp2_with fail
  refine (CC.out _ _ V_3.out).mono ?_
  rintro e w4 ⟨rfl, hb⟩
  have SC4 := Lib.hid (SC3.out.next hb)
  have V_4 := Lib.hid (V_3.out.below hb)
  clear hb SC3 V_3 k0 k1 k2 k3 kl
  clear V_4
  obtain ⟨k0, k1, k2, k3, kl⟩ := four_cells SC4.out.blk
  go_wp2_with fail
  refine (CI.out _ SC4.out).mono ?_
  rintro e w5 ⟨v5, rfl, hb, hs⟩
  have SC5 := Lib.hid (SC4.out.next hb)
  have V_5 := Lib.hid hs
  clear hb hs SC4 k0 k1 k2 k3 kl
  obtain ⟨va5, vc5, rfl, -, -⟩ := V_5.out.sl
  obtain ⟨k0, k1, k2, k3, kl⟩ := four_cells SC5.out.blk
  go_wp2_with fail
  refine (CG.out _ _ V_5.out).mono ?_
  rintro e w6 ⟨rfl, hb⟩
  have SC6 := Lib.hid (SC5.out.next hb)
  have V_6 := Lib.hid (V_5.out.below hb)
  clear hb SC5 V_5 k0 k1 k2 k3 kl
  clear V_6
  obtain ⟨k0, k1, k2, k3, kl⟩ := four_cells SC6.out.blk
  go_wp2_with fail
  refine (CI.out _ SC6.out).mono ?_
  rintro e w7 ⟨v7, rfl, hb, hs⟩
  have SC7 := Lib.hid (SC6.out.next hb)
  have V_7 := Lib.hid hs
  clear hb hs SC6 k0 k1 k2 k3 kl
  obtain ⟨va7, vc7, rfl, -, -⟩ := V_7.out.sl
  obtain ⟨k0, k1, k2, k3, kl⟩ := four_cells SC7.out.blk
  go_wp2_with fail
  refine (CK.out _ _ V_7.out).mono ?_
  rintro e w8 ⟨rfl, hb⟩
  have SC8 := Lib.hid (SC7.out.next hb)
  have V_8 := Lib.hid (V_7.out.below hb)
  clear hb SC7 V_7 k0 k1 k2 k3 kl
  clear V_8
  obtain ⟨k0, k1, k2, k3, kl⟩ := four_cells SC8.out.blk
  go_wp2_with fail
  refine (CI.out _ SC8.out).mono ?_
  rintro e w9 ⟨v9, rfl, hb, hs⟩
  have SC9 := Lib.hid (SC8.out.next hb)
  have V_9 := Lib.hid hs
  clear hb hs SC8 k0 k1 k2 k3 kl
  obtain ⟨va9, vc9, rfl, -, -⟩ := V_9.out.sl
  obtain ⟨k0, k1, k2, k3, kl⟩ := four_cells SC9.out.blk
  go_wp2_with fail
  refine (CR.out _ _ V_9.out).mono ?_
  rintro e w10 ⟨rfl, hb⟩
  have SC10 := Lib.hid (SC9.out.next hb)
  have V_10 := Lib.hid (V_9.out.below hb)
  clear hb SC9 V_9 k0 k1 k2 k3 kl
  clear V_10
  go_wp2_with fail
  go_ret
  exact ⟨by first | rfl | (simp; done), SC10.out.hb⟩

set_option maxRecDepth 100000 in
set_option maxHeartbeats 8000000 in
theorem images_ok (l s : Int) (pv cv : Value) (xs cs : List Nat) (w : World) (hp : Fls .f32 xs w pv) (hc : Fls .f32 cs w cv) (hsm : SmallB xs.length cs.length = true) (ht : Tab w) (hl : I64 l) (hs : I64 s) (hz : ∀ z ∈ pairsOf xs, z.1 < 2 ^ 32 ∧ z.2 < 2 ^ 32) (hE : (dataErr .f32 2047 l s (pairsOf xs)).2 = 0) :
    Calls Tryd.prog 3 #[.agg #[.int .i64 l, .int .i64 s, pv, cv]] w fun e w' => e = .returned (.bool true) ∧ Below w.heap.size w w' := by
  have CA := Lib.hid (fun W (h : ScIn l s pv cv xs cs w W) => awake_any W (ht.below h.hb))
  have CS : Hid (∀ W, ScIn l s pv cv xs cs w W → Calls Tryd.prog 12 #[.agg #[.int .i64 l, .int .i64 s, pv, cv]] W fun e w' => e = .returned (.bool true) ∧ Below W.heap.size W w') := fun W h => by
    have := Small_any l s pv cv xs cs W h.p h.c
    rwa [hsm] at this
  have HS0 : Hid (∀ W0, W0 = w.alloc (.cells #[.int .i64 l, .int .i64 s, pv, cv] 24) → ScIn l s pv cv xs cs w W0) := by
    rintro W0 rfl
    exact ScIn.start hp hc
  have hlen : xs.length ≤ 100000 := by
    unfold SmallB at hsm
    simp at hsm
    omega
  have CI := Lib.hid (fun W (h : ScIn l s pv cv xs cs w W) => lawImageC_any l s pv cv xs W h.p hlen)
  have CC := Lib.hid (fun W v (hv : SmpC (pairsOf xs) W v) => CheckImage_any l s v (pairsOf xs) W hl hs hv.sl)
  have CR := Lib.hid (fun W v (hv : SmpC (pairsOf xs) W v) => refCheckImage_any l s v (pairsOf xs) W hv.sl)
  obtain ⟨a1, a2, a3, a4, a5, a6⟩ := dataErr_ok hE
  have RI : Right .f32 2047 (pairsOf xs) := right_of_ok (by decide) hz a6
  obtain ⟨L, hlL⟩ : ∃ L : Nat, l = L := ⟨l.toNat, by omega⟩
  obtain ⟨S, hsS⟩ : ∃ S : Nat, s = S := ⟨s.toNat, by omega⟩
  have hln : (pairsOf xs).length = L * S := by rw [hlL, hsS, ← Int.natCast_mul] at a5; omega
  have hE2 : (dataErr .f32 2047 L S (pairsOf xs)).2 = 0 := by rw [← hlL, ← hsS]; exact hE
  have CK := Lib.hid (fun W v (hv : SmpC (pairsOf xs) W v) => Clipped_ok l s v (pairsOf xs) W hl hs hv.sl RI hE)
  have CRK := Lib.hid (fun W v (hv : SmpC (pairsOf xs) W v) => refClipped_ok l s v (pairsOf xs) W hv.sl RI)
  obtain ⟨GL, hGL⟩ : ∃ GL, GL = rangesTo (emptyL (pairsOf xs) S) L := ⟨_, rfl⟩
  have CG : Hid (∀ W v, SmpC (pairsOf xs) W v → Calls Tryd.prog 15 #[.agg #[.int .i64 l, .int .i64 s, v]] W fun e w' => ∃ v', e = .returned (.tuple #[v', .int .i64 0]) ∧ Below W.heap.size W w' ∧ Rgs GL w' v') := fun W v hv => by
    rw [hlL, hsS, hGL]
    refine (Gaps_ok L S v (pairsOf xs) W hv.sl hv.cap (by omega) (by omega) (by omega) (by omega) hln hE2).mono ?_
    rintro e w' ⟨v', h1, h2, h3⟩
    exact ⟨v', h1, h2, Rgs.of_owns h3⟩
  have CRG : Hid (∀ W v, SmpC (pairsOf xs) W v → Calls Tryd.prog 19 #[.agg #[.int .i64 l, .int .i64 s, v]] W fun e w' => ∃ v', e = .returned v' ∧ Below W.heap.size W w' ∧ Rgs GL w' v') := fun W v hv => by
    rw [hlL, hsS, hGL]
    refine (refGaps_ok L S v (pairsOf xs) W hv.sl (by omega) (by omega) (by omega) hln).mono ?_
    rintro e w' ⟨v', h1, h2, h3⟩
    exact ⟨v', h1, h2, Rgs.of_owns h3⟩
  have hGn : GL.length ≤ 1000000 := by rw [hGL]; exact Nat.le_trans (rangesTo_length _ _) (by omega)
  have CE : Hid (∀ W va vb, Rgs GL W va → Rgs GL W vb → Calls Tryd.prog 18 #[va, vb] W fun e w' => e = .returned (.bool true) ∧ Below W.heap.size W w') := fun W va vb ha hb => by
    refine (Ranges_true va vb GL W hGn ha hb).mono ?_
    rintro e w' ⟨h1, q, rfl⟩
    exact ⟨h1, below_drewN' _ _ _⟩
  rw [hE] at CC CR
  generalize clipTo (pairsOf xs) (pairsOf xs).length = K at *
  generalize (dataErr .f32 2047 l s (pairsOf xs)).1 = D1 at *
  generalize pairsOf xs = zs at *
  obtain ⟨pa, pc, rfl, -, -⟩ := hp.sl
  obtain ⟨ca, cc, rfl, -, -⟩ := hc.sl
  generalize (fvals .f32 xs).length = np at *
  generalize (fvals .f32 cs).length = nc at *
  clear hp hc hsm ht hl hs hz hE hE2 hlen hln RI hGL hlL hsS hGn a1 a2 a3 a4 a5 a6 L S
  go_enter Tryd.func3, Tryd.ntmps3
  go_wp2_with fail
  obtain ⟨W0, hW0⟩ : ∃ W0, W0 = w.alloc (.cells #[.int .i64 l, .int .i64 s, .slice pa np pc, .slice ca nc cc] 24) := ⟨_, rfl⟩
  have SC0 := Lib.hid (HS0.out W0 hW0)
  rw [← hW0]
  clear hW0 HS0
  refine (CA.out _ SC0.out).mono ?_
  rintro e w1 ⟨rfl, hb⟩
  have SC1 := Lib.hid (SC0.out.next hb)
  clear hb SC0
  obtain ⟨k0, k1, k2, k3, kl⟩ := four_cells SC1.out.blk
  go_wp2_with fail
  refine (CS.out _ SC1.out).mono ?_
  rintro e w2 ⟨rfl, hb⟩
  have SC2 := Lib.hid (SC1.out.next hb)
  clear hb SC1 k0 k1 k2 k3 kl
  obtain ⟨k0, k1, k2, k3, kl⟩ := four_cells SC2.out.blk
  go_wp2_with fail
  refine (CI.out _ SC2.out).mono ?_
  rintro e w3 ⟨v3, rfl, hb, hs⟩
  have SC3 := Lib.hid (SC2.out.next hb)
  have V_3 := Lib.hid hs
  clear hb hs SC2 k0 k1 k2 k3 kl
  obtain ⟨va3, vc3, rfl, -, -⟩ := V_3.out.sl
  obtain ⟨k0, k1, k2, k3, kl⟩ := four_cells SC3.out.blk
  go_wp2_with fail
  refine (CC.out _ _ V_3.out).mono ?_
  rintro e w4 ⟨rfl, hb⟩
  have SC4 := Lib.hid (SC3.out.next hb)
  have V_4 := Lib.hid (V_3.out.below hb)
  clear hb SC3 V_3 k0 k1 k2 k3 kl
  clear V_4
  obtain ⟨k0, k1, k2, k3, kl⟩ := four_cells SC4.out.blk
  go_wp2_with fail
  refine (CI.out _ SC4.out).mono ?_
  rintro e w5 ⟨v5, rfl, hb, hs⟩
  have SC5 := Lib.hid (SC4.out.next hb)
  have V_5 := Lib.hid hs
  clear hb hs SC4 k0 k1 k2 k3 kl
  obtain ⟨va5, vc5, rfl, -, -⟩ := V_5.out.sl
  obtain ⟨k0, k1, k2, k3, kl⟩ := four_cells SC5.out.blk
  go_wp2_with fail
  refine (CG.out _ _ V_5.out).mono ?_
  rintro e w6 ⟨g6, rfl, hb, hg⟩
  have SC6 := Lib.hid (SC5.out.next hb)
  have V_6 := Lib.hid (V_5.out.below hb)
  have G_6 := Lib.hid hg
  clear hb hg SC5 V_5 k0 k1 k2 k3 kl
  clear V_6
  obtain ⟨ga, gc, rfl, -⟩ := G_6.out.form
  obtain ⟨k0, k1, k2, k3, kl⟩ := four_cells SC6.out.blk
  go_wp2_with fail
  refine (CI.out _ SC6.out).mono ?_
  rintro e w7 ⟨v7, rfl, hb, hs⟩
  have SC7 := Lib.hid (SC6.out.next hb)
  have G_7 := Lib.hid (G_6.out.below hb)
  have V_7 := Lib.hid hs
  clear hb hs SC6 G_6 k0 k1 k2 k3 kl
  obtain ⟨va7, vc7, rfl, -, -⟩ := V_7.out.sl
  obtain ⟨k0, k1, k2, k3, kl⟩ := four_cells SC7.out.blk
  go_wp2_with fail
  refine (CK.out _ _ V_7.out).mono ?_
  rintro e w8 ⟨rfl, hb⟩
  have SC8 := Lib.hid (SC7.out.next hb)
  have G_8 := Lib.hid (G_7.out.below hb)
  have V_8 := Lib.hid (V_7.out.below hb)
  clear hb SC7 G_7 V_7 k0 k1 k2 k3 kl
  clear V_8
  obtain ⟨k0, k1, k2, k3, kl⟩ := four_cells SC8.out.blk
  go_wp2_with fail
  refine (CI.out _ SC8.out).mono ?_
  rintro e w9 ⟨v9, rfl, hb, hs⟩
  have SC9 := Lib.hid (SC8.out.next hb)
  have G_9 := Lib.hid (G_8.out.below hb)
  have V_9 := Lib.hid hs
  clear hb hs SC8 G_8 k0 k1 k2 k3 kl
  obtain ⟨va9, vc9, rfl, -, -⟩ := V_9.out.sl
  obtain ⟨k0, k1, k2, k3, kl⟩ := four_cells SC9.out.blk
  go_wp2_with fail
  refine (CR.out _ _ V_9.out).mono ?_
  rintro e w10 ⟨rfl, hb⟩
  have SC10 := Lib.hid (SC9.out.next hb)
  have G_10 := Lib.hid (G_9.out.below hb)
  have V_10 := Lib.hid (V_9.out.below hb)
  clear hb SC9 G_9 V_9 k0 k1 k2 k3 kl
  clear V_10
  obtain ⟨k0, k1, k2, k3, kl⟩ := four_cells SC10.out.blk
  go_wp2_with fail
  refine (CI.out _ SC10.out).mono ?_
  rintro e w11 ⟨v11, rfl, hb, hs⟩
  have SC11 := Lib.hid (SC10.out.next hb)
  have G_11 := Lib.hid (G_10.out.below hb)
  have V_11 := Lib.hid hs
  clear hb hs SC10 G_10 k0 k1 k2 k3 kl
  obtain ⟨va11, vc11, rfl, -, -⟩ := V_11.out.sl
  obtain ⟨k0, k1, k2, k3, kl⟩ := four_cells SC11.out.blk
  go_wp2_with fail
  refine (CRG.out _ _ V_11.out).mono ?_
  rintro e w12 ⟨h12, rfl, hb, hh⟩
  have SC12 := Lib.hid (SC11.out.next hb)
  have G_12 := Lib.hid (G_11.out.below hb)
  have V_12 := Lib.hid (V_11.out.below hb)
  have R_12 := Lib.hid hh
  clear hb hh SC11 G_11 V_11 k0 k1 k2 k3 kl
  clear V_12
  obtain ⟨ra, rc, rfl, -⟩ := R_12.out.form
  obtain ⟨k0, k1, k2, k3, kl⟩ := four_cells SC12.out.blk
  go_wp2_with fail
  refine (CE.out _ _ _ G_12.out R_12.out).mono ?_
  rintro e w13 ⟨rfl, hb⟩
  have SC13 := Lib.hid (SC12.out.next hb)
  have G_13 := Lib.hid (G_12.out.below hb)
  have R_13 := Lib.hid (R_12.out.below hb)
  clear hb SC12 G_12 R_12 k0 k1 k2 k3 kl
  clear R_13
  clear G_13
  obtain ⟨k0, k1, k2, k3, kl⟩ := four_cells SC13.out.blk
  go_wp2_with fail
  refine (CI.out _ SC13.out).mono ?_
  rintro e w14 ⟨v14, rfl, hb, hs⟩
  have SC14 := Lib.hid (SC13.out.next hb)
  have V_14 := Lib.hid hs
  clear hb hs SC13 k0 k1 k2 k3 kl
  obtain ⟨va14, vc14, rfl, -, -⟩ := V_14.out.sl
  obtain ⟨k0, k1, k2, k3, kl⟩ := four_cells SC14.out.blk
  go_wp2_with fail
  refine (CRK.out _ _ V_14.out).mono ?_
  rintro e w15 ⟨rfl, hb⟩
  have SC15 := Lib.hid (SC14.out.next hb)
  have V_15 := Lib.hid (V_14.out.below hb)
  clear hb SC14 V_14 k0 k1 k2 k3 kl
  clear V_15
  go_wp2_with fail
  go_ret
  exact ⟨by first | rfl | (simp; done), SC15.out.hb⟩

/-- THE LAW, FOR ALL SCENES -/
theorem images_any (l s : Int) (pv cv : Value) (xs cs : List Nat) (w : World) (hp : Fls .f32 xs w pv) (hc : Fls .f32 cs w cv) (hl : I64 l) (hs : I64 s) (hz : ∀ z ∈ pairsOf xs, z.1 < 2 ^ 32 ∧ z.2 < 2 ^ 32) (ht : Tab w) :
    Calls Tryd.prog 3 #[.agg #[.int .i64 l, .int .i64 s, pv, cv]] w fun e w' => e = .returned (.bool true) ∧ Below w.heap.size w w' := by
  cases hsm : SmallB xs.length cs.length with
  | false => exact images_long l s pv cv xs cs w hp hc hsm ht
  | true =>
    by_cases hE : (dataErr .f32 2047 l s (pairsOf xs)).2 = 0
    · exact images_ok l s pv cv xs cs w hp hc hsm ht hl hs hz hE
    · exact images_bad l s pv cv xs cs w hp hc hsm ht hl hs hE
end Go.Proofs.YtmmmaanflmgblaaDoor
