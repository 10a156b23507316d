import Derived.Test.YtmiaglkkjncfnaaDoorMc
import Derived.Test.YtmiaglkkjncfnaaDoorJc
namespace Go.Proofs.YtmiaglkkjncfnaaDoor
open Go.RowKit Go.Proofs.YtmiaglkkjncfnaaDoor.Flt

/-- an image under way in the box O, the last one of W0; all other boxes of W0 are as they were -/
structure BuInv (O L S : Nat) (C : List (Nat × Nat)) (W0 w : World) (t : Nat) (v : Value) (wr : World) : Prop where
  hk : ∀ i, i < O → wr.heap[i]? = W0.heap[i]?
  h2 : wr.heap[O]? = some (.cells #[.int .i64 L, .int .i64 S, v] 50 (0, 0))
  hb : Below w.heap.size w wr
  ho : wr.ownsRow (O + 1) 70 1 v t (cvals .f32 (C.take t))
theorem BuInv.own_ne {O L S : Nat} {C : List (Nat × Nat)} {W0 w wz : World} {t : Nat} {v : Value} (h : BuInv O L S C W0 w t v wz) (i : Nat) (hi : i < O + 1) : v.ownBlock ≠ some i := by
  intro e
  have := (h.ho.lt i e).1
  omega
/-- the boxes behind an append -/
def BuBox (O L S : Nat) (W0 w : World) (v : Value) (w' : World) : Prop :=
  (∀ i, i < O → w'.heap[i]? = W0.heap[i]?) ∧ w'.heap[O]? = some (.cells #[.int .i64 L, .int .i64 S, v] 50 (0, 0)) ∧ Below w.heap.size w w'
theorem BuInv.after {O L S : Nat} {C : List (Nat × Nat)} {W0 w wz W w' : World} {t : Nat} {v : Value} (h : BuInv O L S C W0 w t v wz) (hO : w.heap.size ≤ O) (o : Obj) (hW : W.heap = (wz.alloc o).heap) (e1 : W.os = wz.os) (e2 : W.tape = wz.tape) (e3 : W.output = wz.output) (hg : W.grownBy w' v.ownBlock) :
    BuBox O L S W0 w v w' := by
  have b2 := lt_of_block h.h2
  have hsz : W.heap.size = wz.heap.size + 1 := by rw [hW]; simp
  have old : ∀ i, i < O + 1 → w'.heap[i]? = wz.heap[i]? := by
    intro i hi
    rw [hg.block i (by omega) (fun e => h.own_ne i hi e.symm), hW]
    exact Below.heap_alloc _ _ _ (by omega)
  refine ⟨fun i hi => (old i (by omega)).trans (h.hk i hi), (old _ (by omega)).trans h.h2, ?_⟩
  have hb : Below w.heap.size w W := ⟨e1.trans h.hb.os, e2.trans h.hb.tape, e3.trans h.hb.output, by have := h.hb.size; omega, fun i hi => by rw [hW]; exact (Below.heap_alloc _ _ _ (Nat.lt_of_lt_of_le hi h.hb.size)).trans (h.hb.block i hi)⟩
  exact hb.grown hg hb.size (fun i e => by have := (h.ho.lt i e).1; omega)
theorem BuInv.next {O L S : Nat} {C : List (Nat × Nat)} {W0 w w' : World} {t g cap' X Y : Nat} {v : Value} (h : BuBox O L S W0 w v w') (hO : w.heap.size ≤ O)
    (ho : w'.ownsRow (O + 1) 70 1 (.slice (some ⟨g, 0, none⟩) (t + 1) cap') (t + 1) (cvals .f32 (C.take t) ++ [.complex .f32 X Y])) (hk : t < C.length) (hXY : C.getD t (0, 0) = (X, Y)) :
    BuInv O L S C W0 w (t + 1) (.slice (some ⟨g, 0, none⟩) (t + 1) cap') (w'.setCell ⟨O, 2, none⟩ (.slice (some ⟨g, 0, none⟩) (t + 1) cap')) := by
  obtain ⟨h0, h2, hb⟩ := h
  refine ⟨fun i hi => (Below.heap_setCell _ _ _ _ (by show i ≠ O; omega)).trans (h0 i hi), ?_, hb.setCell (p := ⟨O, 2, none⟩) hO _, ?_⟩
  · rw [heap_setCell_same _ _ _ _ _ _ h2]; rfl
  · have e : cvals .f32 (C.take (t + 1)) = cvals .f32 (C.take t) ++ [.complex .f32 X Y] := by
      rw [List.take_succ_eq_append_getElem hk]
      rw [List.getD_eq_getElem?_getD, List.getElem?_eq_getElem hk, Option.getD_some] at hXY
      rw [hXY]; simp [cvals]
    rw [e]
    have hg := (ho.lt g rfl).1
    exact ownsRow_setCell_other ho (by simp [Value.ownBlock]; omega) _

theorem alloc4_blocks (w : World) (A B C D : Obj) : (((w.alloc A).alloc B).alloc C).alloc D |>.heap[w.heap.size]? = some A ∧ ((((w.alloc A).alloc B).alloc C).alloc D).heap[w.heap.size + 1]? = some B ∧ ((((w.alloc A).alloc B).alloc C).alloc D).heap[w.heap.size + 1 + 1]? = some C ∧ ((((w.alloc A).alloc B).alloc C).alloc D).heap[w.heap.size + 1 + 1 + 1]? = some D := by
  obtain ⟨a, b, c⟩ := alloc3_blocks w A B C
  refine ⟨(Below.heap_alloc _ _ _ (by simp only [World.size_alloc]; omega)).trans a, (Below.heap_alloc _ _ _ (by simp only [World.size_alloc]; omega)).trans b, (Below.heap_alloc _ _ _ (by simp only [World.size_alloc]; omega)).trans c, ?_⟩
  have := heap_alloc_new (((w.alloc A).alloc B).alloc C) D
  simpa using this
theorem below_new4 (w : World) (A B C D : Obj) : Below w.heap.size w ((((w.alloc A).alloc B).alloc C).alloc D) := ((((Below.refl _ _).alloc (Nat.le_refl _) _).alloc (by simp) _).alloc (by simp; omega) _).alloc (by simp; omega) _

set_option maxRecDepth 100000 in
theorem refAdded_clash (l s l' s' : Int) (iv jv : Value) (zs ys : List (Nat × Nat)) (w : World) (hiv : Sl w iv (cvals .f32 zs)) (hjv : Sl w jv (cvals .f32 ys)) (h : l ≠ l' ∨ s ≠ s') :
    Calls Tryd.prog 23 #[.agg #[.int .i64 l, .int .i64 s, iv], .agg #[.int .i64 l', .int .i64 s', jv]] w fun e w' => e = .returned (.tuple #[.agg #[.int .i64 0, .int .i64 0, .slice none 0 0], .int .i64 13]) ∧ Below w.heap.size w w' := by
  obtain ⟨iad, icap, rfl, -, -⟩ := hiv
  obtain ⟨jad, jcap, rfl, -, -⟩ := hjv
  generalize (cvals .f32 zs).length = n at *
  generalize (cvals .f32 ys).length = m at *
  have hw : ((l != l') = true) ∨ ((l != l') = false ∧ (s != s') = true) := by
    by_cases h1 : l = l'
    · right
      rcases h with h | h
      · exact absurd h1 h
      · exact ⟨by rw [h1, bne_self_eq_false], by rw [bne_iff_ne]; exact h⟩
    · left; rw [bne_iff_ne]; exact h1
  clear h
  rcases hw with h1 | ⟨h1, h2⟩
  all_goals
    go_enter Tryd.func23, Tryd.ntmps23
    go_wp2_with fail
    exact bodyPost_ret (v := .tuple #[.agg #[.int .i64 0, .int .i64 0, .slice none 0 0], .int .i64 13]) (by simp [results, Tryd.results23, go_sem]) rfl ⟨rfl, by first | exact (((Below.refl _ _).alloc (Nat.le_refl _) _).alloc (by simp) _).alloc (by simp; omega) _ | exact Below.set3 ((((Below.refl _ _).alloc (Nat.le_refl _) _).alloc (by simp) _).alloc (by simp; omega) _) (by omega) _ _ _⟩

set_option maxRecDepth 100000 in
set_option maxHeartbeats 8000000 in
/-- THE REFERENCE's SUM -/
theorem refAdded_ok (L S : Nat) (iv jv : Value) (zs ys : List (Nat × Nat)) (w : World) (hiv : Sl w iv (cvals .f32 zs)) (hjv : Sl w jv (cvals .f32 ys))
    (hL : L ≤ 64) (hS : S ≤ 64) (hlz : zs.length = L * S) (hly : ys.length = L * S) (RZ : Right .f32 2047 zs) (RY : Right .f32 2047 ys) :
    Calls Tryd.prog 23 #[.agg #[.int .i64 L, .int .i64 S, iv], .agg #[.int .i64 L, .int .i64 S, jv]] w (AddR zs ys L S w) := by
  have HIV := Lib.hid hiv
  have HJV := Lib.hid hjv
  obtain ⟨iad, icap, rfl, hil, -⟩ := hiv
  obtain ⟨jad, jcap, rfl, hjl, -⟩ := hjv
  obtain ⟨n, hn⟩ : ∃ n, n = L * S := ⟨_, rfl⟩
  have e1 : (cvals .f32 zs).length = n := by simp [cvals, hlz, hn]
  have e2 : (cvals .f32 ys).length = n := by simp [cvals, hly, hn]
  rw [e1] at hil HIV ⊢
  rw [e2] at hjl HJV ⊢
  have hn4 : n ≤ 4096 := by rw [hn]; exact Nat.le_trans (Nat.mul_le_mul hL hS) (by decide)
  have HN : Hid (zs.length = n ∧ ys.length = n) := ⟨by rw [hlz, hn], by rw [hly, hn]⟩
  have HBA : Hid (bigAny zs ys = bigTo zs ys n) := by unfold Hid bigAny bigTo; rw [HN.out.1]
  have HCl : Hid ((addS zs ys).length = n) := by rw [Hid, addS_length, HN.out.1]
  have HR := Lib.hid (And.intro RZ RY)
  obtain ⟨i0, hi, hz0, hz1, hz2⟩ := info_parts info79k
  have HI := Lib.hid (And.intro hi (And.intro hz0 (And.intro hz1 hz2)))
  clear hn hlz hly e1 e2 RZ RY hi hz0 hz1 hz2
  obtain ⟨W0, hW0⟩ : ∃ W0, W0 = (((w.alloc (.cells #[.int .i64 L, .int .i64 S, .slice iad n icap] 50)).alloc (.cells #[.int .i64 L, .int .i64 S, .slice jad n jcap] 50)).alloc (.cells #[.int .i64 0, .int .i64 0, .slice none 0 0] 50)).alloc (.cells #[.int .i64 L, .int .i64 S, .slice none 0 0] 50) := ⟨_, rfl⟩
  obtain ⟨a0, a1, a2, a3⟩ := alloc4_blocks w (.cells #[.int .i64 L, .int .i64 S, .slice iad n icap] 50) (.cells #[.int .i64 L, .int .i64 S, .slice jad n jcap] 50) (.cells #[.int .i64 0, .int .i64 0, .slice none 0 0] 50) (.cells #[.int .i64 L, .int .i64 S, .slice none 0 0] 50)
  have hb0 := below_new4 w (.cells #[.int .i64 L, .int .i64 S, .slice iad n icap] 50) (.cells #[.int .i64 L, .int .i64 S, .slice jad n jcap] 50) (.cells #[.int .i64 0, .int .i64 0, .slice none 0 0] 50) (.cells #[.int .i64 L, .int .i64 S, .slice none 0 0] 50)
  rw [← hW0] at a0 a1 a2 a3 hb0
  have HA0 := Lib.hid (And.intro a0 (And.intro a1 a2))
  have I0 : Hid (BuInv (w.heap.size + 1 + 1 + 1) L S (addS zs ys) W0 w 0 (.slice none 0 0) W0) := ⟨fun i _ => rfl, a3, hb0, World.ownsRow_nil _ _ _ _⟩
  have HW0 := Lib.hid hW0
  have d2 := (three_cells a0).2.2.1
  clear a0 a1 a2 a3 hb0 hW0
  go_enter Tryd.func23, Tryd.ntmps23
  go_wp2_with fail
  rw [← HW0.out]
  go_loopw [7] (fun i wr => ∃ (k : Nat) (v : Value), k ≤ n ∧ i = .int .i64 k ∧ Hid (bigTo zs ys k = false) ∧ Hid (BuInv (w.heap.size + 1 + 1 + 1) L S (addS zs ys) W0 w k v wr)) (fun i _ => n - (intOf i).toNat)
  case atStart => exact ⟨0, _, Nat.zero_le _, rfl, rfl, I0⟩
  case round =>
    clear I0 d2
    obtain ⟨k, v, hk, rfl, HBd, IK⟩ := hrel
    obtain ⟨wz, rfl⟩ : ∃ wz : World, wz = wr := ⟨_, rfl⟩
    have A0 := (IK.out.hk w.heap.size (by omega)).trans HA0.out.1
    have A1' := (IK.out.hk (w.heap.size + 1) (by omega)).trans HA0.out.2.1
    obtain ⟨c0, c1, c2, -, -, -, l0⟩ := three_cells A0
    obtain ⟨k0, k1, k2, -, -, -, l1⟩ := three_cells A1'
    obtain ⟨x0, x1, x2, y0, y1, y2, l2⟩ := three_cells IK.out.h2
    clear A0 A1'
    by_cases hlt : k < n
    · have hkz : k < zs.length := by have := HN.out.1; omega
      have hky : k < ys.length := by have := HN.out.2; omega
      obtain ⟨-, b1, o1, rfl, q1, h1⟩ := HIV.out.at (by omega)
      obtain ⟨-, b2, o2, rfl, q2, h2⟩ := HJV.out.at (by omega)
      have d1 : wz.cell? ⟨b1, o1 + k, none⟩ = some (.complex .f32 (zs.getD k (0, 0)).1 (zs.getD k (0, 0)).2) := (IK.out.hb.cell (p := ⟨b1, o1 + k, none⟩) q1).trans (h1 _ _ (cvals_get hkz))
      have d2 : wz.cell? ⟨b2, o2 + k, none⟩ = some (.complex .f32 (ys.getD k (0, 0)).1 (ys.getD k (0, 0)).2) := (IK.out.hb.cell (p := ⟨b2, o2 + k, none⟩) q2).trans (h2 _ _ (cvals_get hky))
      obtain ⟨ra1, ra2, ra3, ra4⟩ := HR.out.1 k hkz
      obtain ⟨rb1, rb2, rb3, rb4⟩ := HR.out.2 k hky
      have CP1 := Lib.hid (fun w => refParts_any _ _ _ _ ra1 ra2 (by omega) (by omega) w)
      have CP2 := Lib.hid (fun w => refParts_any _ _ _ _ rb1 rb2 (by omega) (by omega) w)
      have hBig : Hid (bigAt zs ys k = (decide (2047 < (re .f32 zs k + re .f32 ys k).natAbs) || decide (2047 < (im .f32 zs k + im .f32 ys k).natAbs))) := rfl
      have hAt : Hid ((addS zs ys).getD k (0, 0) = (enc Ieee.single (re .f32 zs k + re .f32 ys k), enc Ieee.single (im .f32 zs k + im .f32 ys k))) := addS_get zs ys k hkz
      have HT : Hid (k < (addS zs ys).length) := by rw [Hid, HCl.out]; exact hlt
      have HB3 : Hid (bigAt zs ys k = true → bigAny zs ys = true) := fun h => HBA.out.trans (bigTo_of h hlt)
      have HB4 : Hid (bigAt zs ys k = false → bigTo zs ys (k + 1) = false) := fun h => by rw [bigTo_step, HBd.out, h]; rfl
      obtain ⟨r1, hr1⟩ : ∃ x, x = re .f32 zs k := ⟨_, rfl⟩
      obtain ⟨r2, hr2⟩ : ∃ x, x = im .f32 zs k := ⟨_, rfl⟩
      obtain ⟨r3, hr3⟩ : ∃ x, x = re .f32 ys k := ⟨_, rfl⟩
      obtain ⟨r4, hr4⟩ : ∃ x, x = im .f32 ys k := ⟨_, rfl⟩
      rw [← hr1] at CP1 hBig hAt ra3
      rw [← hr2] at CP1 hBig hAt ra4
      rw [← hr3] at CP2 hBig hAt rb3
      rw [← hr4] at CP2 hBig hAt rb4
      clear hr1 hr2 hr3 hr4
      generalize (zs.getD k (0, 0)).1 = z1 at *
      generalize (zs.getD k (0, 0)).2 = z2 at *
      generalize (ys.getD k (0, 0)).1 = z3 at *
      generalize (ys.getD k (0, 0)).2 = z4 at *
      generalize bigAt zs ys k = BB at *
      have CW1 := Lib.hid (fun w => Within_any (r1 + r3) (-2047) 2047 w)
      have CW2 := Lib.hid (fun w => Within_any (r2 + r4) (-2047) 2047 w)
      have g1 : -4094 ≤ r1 + r3 ∧ r1 + r3 ≤ 4094 := by omega
      have g2 : -4094 ≤ r2 + r4 ∧ r2 + r4 ≤ 4094 := by omega
      have g3 : IntKind.i64.wrap (r1 + r3) = r1 + r3 := IntWalk.i64_in _ ⟨by omega, by omega⟩
      have g4 : IntKind.i64.wrap (r2 + r4) = r2 + r4 := IntWalk.i64_in _ ⟨by omega, by omega⟩
      have hcase : (¬ (-2047 ≤ r1 + r3 ∧ r1 + r3 ≤ 2047) ∧ Hid (BB = true)) ∨ ((-2047 ≤ r1 + r3 ∧ r1 + r3 ≤ 2047) ∧ ¬ (-2047 ≤ r2 + r4 ∧ r2 + r4 ≤ 2047) ∧ Hid (BB = true)) ∨ ((-2047 ≤ r1 + r3 ∧ r1 + r3 ≤ 2047) ∧ (-2047 ≤ r2 + r4 ∧ r2 + r4 ≤ 2047) ∧ Hid (BB = false)) := by
        unfold Hid
        rw [hBig.out]
        by_cases h1 : -2047 ≤ r1 + r3 ∧ r1 + r3 ≤ 2047
        · by_cases h2 : -2047 ≤ r2 + r4 ∧ r2 + r4 ≤ 2047
          · exact .inr (.inr ⟨h1, h2, by rw [decide_eq_false (by omega), decide_eq_false (by omega)]; rfl⟩)
          · exact .inr (.inl ⟨h1, h2, by rw [decide_eq_true (p := 2047 < (r2 + r4).natAbs) (by omega), Bool.or_true]⟩)
        · exact .inl ⟨h1, by rw [decide_eq_true (p := 2047 < (r1 + r3).natAbs) (by omega), Bool.true_or]⟩
      have CSm := Lib.hid (fun w (h : (-2047 ≤ r1 + r3 ∧ r1 + r3 ≤ 2047) ∧ (-2047 ≤ r2 + r4 ∧ r2 + r4 ≤ 2047)) => Sample_any (r1 + r3) (r2 + r4) (by omega) (by omega) w)
      clear hBig ra1 ra2 ra3 ra4 rb1 rb2 rb3 rb4 h1 h2 hkz hky q1 q2
      generalize enc Ieee.single (r1 + r3) = X at *
      generalize enc Ieee.single (r2 + r4) = Y at *
      obtain ⟨s1, hs1⟩ : ∃ x, x = r1 + r3 := ⟨_, rfl⟩
      obtain ⟨s2, hs2⟩ : ∃ x, x = r2 + r4 := ⟨_, rfl⟩
      rcases hcase with ⟨w1, hF⟩ | ⟨w1, w2, hF⟩ | ⟨w1, w2, hF⟩
      · rw [decide_eq_false w1] at CW1
        have HBn := Lib.hid (HB3.out hF.out)
        obtain ⟨f0, f1, f2, u0, u1, u2, l3⟩ := three_cells ((IK.out.hk (w.heap.size + 1 + 1) (by omega)).trans HA0.out.2.2)
        have HB := Lib.hid IK.out.hb
        clear w1 hF HB3 HB4 CSm hs1 hs2
        go_wp2_with fail
        refine (CP1.out _).mono ?_
        rintro e w' ⟨rfl, rfl⟩
        go_wp2_with fail
        refine (CP2.out _).mono ?_
        rintro e w' ⟨rfl, rfl⟩
        go_wp2_with fail
        refine (CW1.out _).mono ?_
        rintro e w' ⟨rfl, rfl⟩
        go_wp2_with fail
        exact bodyPost_ret (v := .tuple #[.agg #[.int .i64 0, .int .i64 0, .slice none 0 0], .int .i64 8]) (by simp [results, Tryd.results23, go_sem, f0, f1, f2]) rfl (AddR.bad HBn.out (Below.set3 HB.out (by omega) _ _ _))
      · rw [decide_eq_true w1] at CW1
        rw [decide_eq_false w2] at CW2
        have HBn := Lib.hid (HB3.out hF.out)
        obtain ⟨f0, f1, f2, u0, u1, u2, l3⟩ := three_cells ((IK.out.hk (w.heap.size + 1 + 1) (by omega)).trans HA0.out.2.2)
        have HB := Lib.hid IK.out.hb
        clear w1 w2 hF HB3 HB4 CSm hs1 hs2
        go_wp2_with fail
        refine (CP1.out _).mono ?_
        rintro e w' ⟨rfl, rfl⟩
        go_wp2_with fail
        refine (CP2.out _).mono ?_
        rintro e w' ⟨rfl, rfl⟩
        go_wp2_with fail
        refine (CW1.out _).mono ?_
        rintro e w' ⟨rfl, rfl⟩
        go_wp2_with fail
        refine (CW2.out _).mono ?_
        rintro e w' ⟨rfl, rfl⟩
        go_wp2_with fail
        exact bodyPost_ret (v := .tuple #[.agg #[.int .i64 0, .int .i64 0, .slice none 0 0], .int .i64 8]) (by simp [results, Tryd.results23, go_sem, f0, f1, f2]) rfl (AddR.bad HBn.out (Below.set3 HB.out (by omega) _ _ _))
      · have CS2 := Lib.hid (fun w => CSm.out w ⟨w1, w2⟩)
        rw [decide_eq_true w1] at CW1
        rw [decide_eq_true w2] at CW2
        have HBn := Lib.hid (HB4.out hF.out)
        clear w1 w2 hF HB3 HB4 CSm hs1 hs2
        have A1 : Hid (((wz.alloc (.cells #[.complex .f32 X Y] 70)).drew).ownsRow (w.heap.size + 1 + 1 + 1 + 1) 70 1 v k (cvals .f32 ((addS zs ys).take k))) := IK.out.ho.alloc _
        have A2 : Hid (∀ (j : Nat) (u : Value), [Value.complex .f32 X Y][j]? = some u → ((wz.alloc (.cells #[.complex .f32 X Y] 70)).drew).cell? ((⟨wz.heap.size, 0, none⟩ : Addr).add j) = some u) := cell1_new _ _ _
        have A3 : Hid (∀ u ∈ [Value.complex .f32 X Y], u.oneCell' = true) := by intro u hu; simp at hu; rw [hu]; rfl
        have A4 : Hid (k + 1 ≤ maxLen) := by unfold Hid maxLen; omega
        have A5 : Hid ((k + 1) * 8 ≤ 140737488355328) := by unfold Hid; omega
        have A6 : Hid (w.heap.size + 1 + 1 + 1 + 1 ≤ ((wz.alloc (.cells #[.complex .f32 X Y] 70)).drew).heap.size) := by have := lt_of_block IK.out.h2; unfold Hid; simp [World.drew]; omega
        have A7 : Hid (((wz.alloc (.cells #[.complex .f32 X Y] 70)).drew).heap.size = wz.heap.size + 1) := by unfold Hid; simp [World.drew]
        go_wp2_with fail
        refine (CP1.out _).mono ?_
        rintro e w' ⟨rfl, rfl⟩
        go_wp2_with fail
        refine (CP2.out _).mono ?_
        rintro e w' ⟨rfl, rfl⟩
        go_wp2_with fail
        refine (CW1.out _).mono ?_
        rintro e w' ⟨rfl, rfl⟩
        go_wp2_with fail
        refine (CW2.out _).mono ?_
        rintro e w' ⟨rfl, rfl⟩
        go_wp2_with fail
        go_region_law ((first | (go_simp; go_at_call 53; refine (CS2.out _).mono ?_; rintro e w' ⟨rfl, rfl⟩) | (refine step_append_lies _ rfl (.tmp 69) (.tmp 77) 48 rfl (w.heap.size + 1 + 1 + 1 + 1) 70 i0 (.complex .f32 0 0) 1 8 Tryd.underlying48 HI.out.1 HI.out.2.1 HI.out.2.2.1 HI.out.2.2.2 rfl Nat.zero_lt_one v k (cvals .f32 ((addS zs ys).take k)) rfl A1.out ⟨wz.heap.size, 0, none⟩ 1 1 [.complex .f32 X Y] rfl rfl A2.out A3.out Nat.zero_lt_one A4.out A5.out A6.out (wz.heap.size + 1) A7.out ?_; intro g cap' w' hown' hgrow hor hlt'; have HA := Lib.hid (IK.out.after (by omega) (W := (wz.alloc (.cells #[.complex .f32 X Y] 70)).drew) (.cells #[.complex .f32 X Y] 70) rfl rfl rfl rfl hgrow); have HO := Lib.hid hown'; obtain ⟨b0, b1, b2, b3, b4, b5, b6⟩ := three_cells HA.out.2.1; clear hown' hgrow hor)))
        all_goals
          go_wp2_with fail
          go_roundw
          case rel => exact ⟨k + 1, .slice (some ⟨g, 0, none⟩) (k + 1) cap', by omega, by go_num, HBn, BuInv.next HA.out (by omega) HO.out HT.out hAt.out⟩
          case measure => simp [intOf]; omega
    · obtain rfl : k = n := by omega
      obtain ⟨z0, z1, z2, u0, u1, u2, l3⟩ := three_cells ((IK.out.hk (w.heap.size + 1 + 1) (by omega)).trans HA0.out.2.2)
      obtain ⟨va, vn, vc, rfl⟩ : ∃ va vn vc, v = .slice va vn vc := by
        rcases IK.out.ho.2 with ⟨h, -⟩ | ⟨g, cp, -, h, -⟩
        · exact ⟨_, _, _, h⟩
        · exact ⟨_, _, _, h⟩
      have HB := Lib.hid IK.out.hb
      have HO : Hid (wz.ownsRow (w.heap.size + 1 + 1 + 1 + 1) 70 1 (.slice va vn vc) k (cvals .f32 (addS zs ys))) := by
        have := IK.out.ho
        rw [List.take_of_length_le (by have := HCl.out; omega)] at this
        exact this
      clear IK
      go_wp2_with fail
      refine bodyPost_ret (v := .tuple #[.agg #[.int .i64 L, .int .i64 S, .slice va vn vc], .int .i64 0]) (by simp [results, Tryd.results23, go_sem, z0, z1, z2]) rfl (AddR.good (HBA.out.trans HBd.out) (Below.set3 HB.out (by omega) _ _ _) ⟨?_⟩)
      exact Sl.of_owns (sl_setCell (sl_setCell (sl_setCell HO.out ⟨w.heap.size + 1 + 1, 0, none⟩ _ (by show w.heap.size + 1 + 1 < _; omega)) ⟨w.heap.size + 1 + 1, 1, none⟩ _ (by show w.heap.size + 1 + 1 < _; omega)) ⟨w.heap.size + 1 + 1, 2, none⟩ _ (by show w.heap.size + 1 + 1 < _; omega)) (by omega)
end Go.Proofs.YtmiaglkkjncfnaaDoor
