import Derived.Test.YtmiaglkkjncfnaaDoorLb
import Derived.Test.YtmiaglkkjncfnaaDoorGf
import Derived.Test.YtmiaglkkjncfnaaDoorOa
import Derived.Deep.RegionHeld3
import Derived.Deep.CutRange
namespace Go.Proofs.YtmiaglkkjncfnaaDoor
open Go.RowKit Go.Proofs.YtmiaglkkjncfnaaDoor.Flt

/-- two scenes that a law was handed, in their boxes -/
structure Sc2 (l s : Int) (pv cv : Value) (l' s' : Int) (pv' cv' : Value) (xs cs xs2 cs2 : List Nat) (w W : World) : Prop where
  b0 : W.heap[w.heap.size]? = some (.cells #[.int .i64 l, .int .i64 s, pv, cv] 46 (0, 0))
  b1 : W.heap[w.heap.size + 1]? = some (.cells #[.int .i64 l', .int .i64 s', pv', cv'] 46 (0, 0))
  hb : Below w.heap.size w W
  p : Fls .f32 xs W pv
  c : Fls .f32 cs W cv
  p' : Fls .f32 xs2 W pv'
  c' : Fls .f32 cs2 W cv'
theorem Sc2.next {l s : Int} {pv cv : Value} {l' s' : Int} {pv' cv' : Value} {xs cs xs2 cs2 : List Nat} {w W W' : World} (h : Sc2 l s pv cv l' s' pv' cv' xs cs xs2 cs2 w W) (hb : Below W.heap.size W W') : Sc2 l s pv cv l' s' pv' cv' xs cs xs2 cs2 w W' :=
  ⟨(hb.block _ (lt_of_block h.b0)).trans h.b0, (hb.block _ (lt_of_block h.b1)).trans h.b1, h.hb.trans (hb.mono h.hb.size), h.p.below hb, h.c.below hb, h.p'.below hb, h.c'.below hb⟩
theorem Sc2.start {l s : Int} {pv cv : Value} {l' s' : Int} {pv' cv' : Value} {xs cs xs2 cs2 : List Nat} {w : World} (hp : Fls .f32 xs w pv) (hc : Fls .f32 cs w cv) (hp' : Fls .f32 xs2 w pv') (hc' : Fls .f32 cs2 w cv') :
    Sc2 l s pv cv l' s' pv' cv' xs cs xs2 cs2 w ((w.alloc (.cells #[.int .i64 l, .int .i64 s, pv, cv] 46)).alloc (.cells #[.int .i64 l', .int .i64 s', pv', cv'] 46)) := by
  obtain ⟨a1, a2⟩ := alloc2_blocks w (.cells #[.int .i64 l, .int .i64 s, pv, cv] 46) (.cells #[.int .i64 l', .int .i64 s', pv', cv'] 46)
  have hb := below_new2 w (.cells #[.int .i64 l, .int .i64 s, pv, cv] 46) (.cells #[.int .i64 l', .int .i64 s', pv', cv'] 46)
  exact ⟨a1, a2, hb, hp.below hb, hc.below hb, hp'.below hb, hc'.below hb⟩

/-- an image in its box -/
structure IBox (l s : Int) (v : Value) (C : List (Nat × Nat)) (b : Nat) (W : World) : Prop where
  blk : W.heap[b]? = some (.cells #[.int .i64 l, .int .i64 s, v] 50 (0, 0))
  smp : Smp .f32 C W v
theorem IBox.next {l s : Int} {v : Value} {C : List (Nat × Nat)} {b : Nat} {W W' : World} (h : IBox l s v C b W) (hb : Below W.heap.size W W') : IBox l s v C b W' :=
  ⟨(hb.block _ (lt_of_block h.blk)).trans h.blk, h.smp.below hb⟩
theorem IBox.born {l s : Int} {v : Value} {C : List (Nat × Nat)} {W : World} (h : Smp .f32 C W v) : IBox l s v C W.heap.size (W.alloc (.cells #[.int .i64 l, .int .i64 s, v] 50)) :=
  ⟨heap_alloc_new _ _, h.alloc _⟩
theorem Smp.set3k {k : FloatKind} {C : List (Nat × Nat)} {W : World} {v : Value} {b : Nat} {a c : Int} {t : TypeId} (h : Smp k C W v) (q : W.heap[b]? = some (.cells #[.int .i64 a, .int .i64 c, .slice none 0 0] t (0, 0))) (u0 u1 u2 : Value) :
    Smp k C (((W.setCell ⟨b, 0, none⟩ u0).setCell ⟨b, 1, none⟩ u1).setCell ⟨b, 2, none⟩ u2) v := by
  obtain ⟨ad, cap, hv, hl, hx⟩ := h.sl.form
  refine ⟨ad, cap, hv, hl, ?_⟩
  rcases hx with hx | ⟨b', off, h1, h2, h3⟩
  · exact .inl hx
  · by_cases hb : b' = b
    · refine .inl ?_
      cases C with
      | nil => rfl
      | cons z C =>
        exfalso
        have h4 := h3 0 (.complex k z.1 z.2) rfl
        rw [hb, cell_of_row W b _ _ t _ q, Nat.add_zero] at h4
        match off, h4 with
        | 0, h4 => cases h4
        | 1, h4 => cases h4
        | 2, h4 => cases h4
        | _ + 3, h4 => simp at h4
    · exact .inr ⟨b', off, h1, by simp only [World.setCell, Array.size_modify]; exact h2, fun j x hx => Go.Proofs.YtmiaglkkjncfnaaDoor.set3 (h3 j x hx) hb⟩
theorem IBox.made {l s : Int} {v : Value} {C : List (Nat × Nat)} {b : Nat} {W : World} {x0 x1 : Int} (q : W.heap[b]? = some (.cells #[.int .i64 x0, .int .i64 x1, .slice none 0 0] 50 (0, 0))) (h : Smp .f32 C W v) :
    IBox l s v C b (((W.setCell ⟨b, 0, none⟩ (.int .i64 l)).setCell ⟨b, 1, none⟩ (.int .i64 s)).setCell ⟨b, 2, none⟩ v) := ⟨blk_set3 _ _ _ q, h.set3k q _ _ _⟩

set_option maxRecDepth 100000 in
theorem linear_long (l s l' s' : Int) (pv cv pv' cv' : Value) (xs cs xs2 cs2 : List Nat) (w : World) (hp : Fls .f32 xs w pv) (hc : Fls .f32 cs w cv) (hp' : Fls .f32 xs2 w pv') (hc' : Fls .f32 cs2 w cv') (hsm : SmallB xs.length cs.length = false ∨ SmallB xs2.length cs2.length = false) (ht : Tab w) :
    Calls Tryd.prog 4 #[.agg #[.int .i64 l, .int .i64 s, pv, cv], .agg #[.int .i64 l', .int .i64 s', pv', cv']] w fun e w' => e = .returned (.bool true) ∧ Below w.heap.size w w' := by
  have CA := Lib.hid (fun W (h : Sc2 l s pv cv l' s' pv' cv' xs cs xs2 cs2 w W) => awake_any W (ht.below h.hb))
  have CS1 := Lib.hid (fun W (h : Sc2 l s pv cv l' s' pv' cv' xs cs xs2 cs2 w W) => Small_any l s pv cv xs cs W h.p h.c)
  have CS2 := Lib.hid (fun W (h : Sc2 l s pv cv l' s' pv' cv' xs cs xs2 cs2 w W) => Small_any l' s' pv' cv' xs2 cs2 W h.p' h.c')
  have HS0 : Hid (∀ W0, W0 = (w.alloc (.cells #[.int .i64 l, .int .i64 s, pv, cv] 46)).alloc (.cells #[.int .i64 l', .int .i64 s', pv', cv'] 46) → Sc2 l s pv cv l' s' pv' cv' xs cs xs2 cs2 w W0) := by
    rintro W0 rfl
    exact Sc2.start hp hc hp' hc'
  have hsm2 : SmallB xs.length cs.length = false ∨ (SmallB xs.length cs.length = true ∧ SmallB xs2.length cs2.length = false) := by
    cases h : SmallB xs.length cs.length
    · exact .inl rfl
    · rcases hsm with hsm | hsm
      · rw [hsm] at h; cases h
      · exact .inr ⟨rfl, hsm⟩
  obtain ⟨pa, pc, rfl, -, -⟩ := hp.sl
  obtain ⟨ca, cc, rfl, -, -⟩ := hc.sl
  obtain ⟨ra, rc, rfl, -, -⟩ := hp'.sl
  obtain ⟨da, dc, rfl, -, -⟩ := hc'.sl
  generalize (fvals .f32 xs).length = np at *
  generalize (fvals .f32 cs).length = nc at *
  generalize (fvals .f32 xs2).length = nr at *
  generalize (fvals .f32 cs2).length = nd at *
  generalize SmallB xs.length cs.length = B1 at *
  generalize SmallB xs2.length cs2.length = B2 at *
  clear hp hc hp' hc' hsm ht
  rcases hsm2 with rfl | ⟨rfl, rfl⟩
  all_goals
    go_enter Tryd.func4, Tryd.ntmps4
    go_wp2_with fail
    obtain ⟨W0, hW0⟩ : ∃ W0, W0 = (w.alloc (.cells #[.int .i64 l, .int .i64 s, .slice pa np pc, .slice ca nc cc] 46)).alloc (.cells #[.int .i64 l', .int .i64 s', .slice ra nr rc, .slice da nd dc] 46) := ⟨_, rfl⟩
    have SC0 := Lib.hid (HS0.out W0 hW0)
    rw [← hW0]
    clear hW0 HS0
    refine (CA.out _ SC0.out).mono ?_
    rintro e w1 ⟨rfl, hb⟩
    have SC1 := Lib.hid (SC0.out.next hb)
    clear hb SC0 CA
    obtain ⟨k0, k1, k2, k3, kl⟩ := four_cells SC1.out.b0
    obtain ⟨j0, j1, j2, j3, jl⟩ := four_cells SC1.out.b1
  · go_wp2_with fail
    refine (CS1.out _ SC1.out).mono ?_
    rintro e w2 ⟨rfl, hb⟩
    have SC2 := Lib.hid (SC1.out.next hb)
    clear hb SC1 k0 k1 k2 k3 kl j0 j1 j2 j3 jl
    go_wp2_with fail
    go_ret
    exact ⟨rfl, SC2.out.hb⟩
  · go_wp2_with fail
    refine (CS1.out _ SC1.out).mono ?_
    rintro e w2 ⟨rfl, hb⟩
    have SC2 := Lib.hid (SC1.out.next hb)
    clear hb SC1 k0 k1 k2 k3 kl j0 j1 j2 j3 jl
    obtain ⟨k0, k1, k2, k3, kl⟩ := four_cells SC2.out.b0
    obtain ⟨j0, j1, j2, j3, jl⟩ := four_cells SC2.out.b1
    go_wp2_with fail
    refine (CS2.out _ SC2.out).mono ?_
    rintro e w3 ⟨rfl, hb⟩
    have SC3 := Lib.hid (SC2.out.next hb)
    clear hb SC2 k0 k1 k2 k3 kl j0 j1 j2 j3 jl CS1 CS2
    go_wp2_with fail
    go_ret
    exact ⟨rfl, SC3.out.hb⟩

theorem order_self {a : Int} (h : a.natAbs ≤ 2 ^ 53) : (FloatKind.f64.format.order (enc Ieee.double a) (enc Ieee.double a) == some .eq) = true := by
  have h2 : FloatKind.f64.format.order (enc Ieee.double a) (enc Ieee.double a) = some (compare a a) := order_rep good_double (Rep.enc _ a) (Rep.enc _ a) h h
  rw [h2]
  simp [compare, compareOfLessAndEq]

set_option maxRecDepth 100000 in
set_option maxHeartbeats 40000000 in
theorem linear_short (l s l' s' : Int) (pv cv pv' cv' : Value) (xs cs xs2 cs2 : List Nat) (w : World) (hp : Fls .f32 xs w pv) (hc : Fls .f32 cs w cv) (hp' : Fls .f32 xs2 w pv') (hc' : Fls .f32 cs2 w cv') (hl : I64 l) (hs : I64 s) (hl' : I64 l') (hs' : I64 s')
    (hz : ∀ z ∈ pairsOf xs, z.1 < 2 ^ 32 ∧ z.2 < 2 ^ 32) (hy : ∀ z ∈ pairsOf xs2, z.1 < 2 ^ 32 ∧ z.2 < 2 ^ 32) (hu : ∀ z ∈ pairsOf cs, z.1 < 2 ^ 32 ∧ z.2 < 2 ^ 32) (hs1 : SmallB xs.length cs.length = true) (hs2 : SmallB xs2.length cs2.length = true) (ht : Tab w) :
    Calls Tryd.prog 4 #[.agg #[.int .i64 l, .int .i64 s, pv, cv], .agg #[.int .i64 l', .int .i64 s', pv', cv']] w fun e w' => e = .returned (.bool true) ∧ Below w.heap.size w w' := by
  have CA := Lib.hid (fun W (h : Sc2 l s pv cv l' s' pv' cv' xs cs xs2 cs2 w W) => awake_any W (ht.below h.hb))
  have CS1 := Lib.hid (fun W (h : Sc2 l s pv cv l' s' pv' cv' xs cs xs2 cs2 w W) => Small_any l s pv cv xs cs W h.p h.c)
  have CS2 := Lib.hid (fun W (h : Sc2 l s pv cv l' s' pv' cv' xs cs xs2 cs2 w W) => Small_any l' s' pv' cv' xs2 cs2 W h.p' h.c')
  have HS0 : Hid (∀ W0, W0 = (w.alloc (.cells #[.int .i64 l, .int .i64 s, pv, cv] 46)).alloc (.cells #[.int .i64 l', .int .i64 s', pv', cv'] 46) → Sc2 l s pv cv l' s' pv' cv' xs cs xs2 cs2 w W0) := by
    rintro W0 rfl
    exact Sc2.start hp hc hp' hc'
  rw [hs1] at CS1
  rw [hs2] at CS2
  have hlen : xs.length ≤ 100000 ∧ cs.length ≤ 100000 := by
    unfold SmallB at hs1
    simp at hs1
    omega
  have hlen2 : xs2.length ≤ 100000 := by
    unfold SmallB at hs2
    simp at hs2
    omega
  have CI := Lib.hid (fun W (h : Fls .f32 xs W pv) => lawImage_any l s pv cv xs W h hlen.1)
  have CJ := Lib.hid (fun W (h : Fls .f32 xs2 W pv') => lawImage_any l' s' pv' cv' xs2 W h hlen2)
  have CK := Lib.hid (fun W (h : Fls .f32 cs W cv) => lawCode_any l s pv cv cs W h hlen.2)
  obtain ⟨la, sa, A, EA, lx, sx, X, EX, hA, hX, hR⟩ := linear_E l s l' s' (pairsOf xs) (pairsOf xs2) (pairsOf cs) hl hs hl' hs' hz hy hu
  have CAd := Lib.hid hA
  have CX := Lib.hid hX
  have HRef := Lib.hid hR
  clear hA hX hR
  generalize pairsOf xs = zs at *
  generalize pairsOf xs2 = ys at *
  generalize pairsOf cs = us at *
  obtain ⟨pa, pc, rfl, -, -⟩ := hp.sl
  obtain ⟨ca, cc, rfl, -, -⟩ := hc.sl
  obtain ⟨ra, rc, rfl, -, -⟩ := hp'.sl
  obtain ⟨da, dc, rfl, -, -⟩ := hc'.sl
  generalize (fvals .f32 xs).length = np at *
  generalize (fvals .f32 cs).length = nc at *
  generalize (fvals .f32 xs2).length = nr at *
  generalize (fvals .f32 cs2).length = nd at *
  clear hp hc hp' hc' hs1 hs2 ht hlen hlen2 hz hy hu hl hs hl' hs'
  go_enter Tryd.func4, Tryd.ntmps4
  go_wp2_with fail
  obtain ⟨W0, hW0⟩ : ∃ W0, W0 = (w.alloc (.cells #[.int .i64 l, .int .i64 s, .slice pa np pc, .slice ca nc cc] 46)).alloc (.cells #[.int .i64 l', .int .i64 s', .slice ra nr rc, .slice da nd dc] 46) := ⟨_, rfl⟩
  have SC0 := Lib.hid (HS0.out W0 hW0)
  rw [← hW0]
  clear hW0 HS0
  refine (CA.out _ SC0.out).mono ?_
  rintro e w1 ⟨rfl, hb⟩
  have SC1 := Lib.hid (SC0.out.next hb)
  clear hb SC0 CA
  obtain ⟨k0, k1, k2, k3, kl⟩ := four_cells SC1.out.b0
  obtain ⟨j0, j1, j2, j3, jl⟩ := four_cells SC1.out.b1
  go_wp2_with fail
  refine (CS1.out _ SC1.out).mono ?_
  rintro e w2 ⟨rfl, hb⟩
  have SC2 := Lib.hid (SC1.out.next hb)
  clear hb SC1 k0 k1 k2 k3 kl j0 j1 j2 j3 jl
  obtain ⟨k0, k1, k2, k3, kl⟩ := four_cells SC2.out.b0
  obtain ⟨j0, j1, j2, j3, jl⟩ := four_cells SC2.out.b1
  go_wp2_with fail
  refine (CS2.out _ SC2.out).mono ?_
  rintro e w3 ⟨rfl, hb⟩
  have SC3 := Lib.hid (SC2.out.next hb)
  clear hb SC2 k0 k1 k2 k3 kl j0 j1 j2 j3 jl CS1 CS2
  obtain ⟨k0, k1, k2, k3, kl⟩ := four_cells SC3.out.b0
  obtain ⟨j0, j1, j2, j3, jl⟩ := four_cells SC3.out.b1
  have CI3 := Lib.hid (fun W (h : Below w3.heap.size w3 W) => CI.out W (SC3.out.p.below h))
  have CJ3 := Lib.hid (fun W (h : Below w3.heap.size w3 W) => CJ.out W (SC3.out.p'.below h))
  go_wp2_with fail
  go_cut [5, 6] from 14 (fun s1 s2 wx => ∃ b5 iv, s1 = .pointer (some ⟨b5, 0, none⟩) ∧ s2 = .int .i64 EA ∧ Hid (w3.heap.size ≤ b5) ∧ Hid (Below w3.heap.size w3 wx) ∧ Hid (IBox la sa iv A b5 wx))
  case first =>
    go_region_held3 (fun W => W.cell? ⟨w.heap.size, 0, none⟩ = some (.int .i64 l) ∧ W.cell? ⟨w.heap.size, 1, none⟩ = some (.int .i64 s) ∧ W.cell? ⟨w.heap.size, 2, none⟩ = some (.slice pa np pc) ∧ W.cell? ⟨w.heap.size, 3, none⟩ = some (.slice ca nc cc) ∧ W.cell? ⟨w.heap.size + 1, 0, none⟩ = some (.int .i64 l') ∧ W.cell? ⟨w.heap.size + 1, 1, none⟩ = some (.int .i64 s') ∧ W.cell? ⟨w.heap.size + 1, 2, none⟩ = some (.slice ra nr rc) ∧ W.cell? ⟨w.heap.size + 1, 3, none⟩ = some (.slice da nd dc)) (with_reducible refine ⟨Below.keepc ?_ k0, Below.keepc ?_ k1, Below.keepc ?_ k2, Below.keepc ?_ k3, Below.keepc ?_ j0, Below.keepc ?_ j1, Below.keepc ?_ j2, Below.keepc ?_ j3⟩ <;> (repeat (first | with_reducible exact Below.refl _ _ | with_reducible refine Below.andThen ?_ hbI rfl | with_reducible refine Below.andThen ?_ hbJ rfl | with_reducible refine Below.andThen ?_ hbC rfl | with_reducible refine Below.alloc1 ?_ _ rfl | with_reducible refine Below.drew ?_ | with_reducible refine Below.set3 ?_ (by first | exact Nat.le_refl _ | exact hBI.size | exact hBJ.size | exact hBC.size) _ _ _)) <;> done)
      (first
        | (go_at_call 15; (with_reducible refine (CI3.out _ (by repeat (first | with_reducible exact Below.refl _ _ | with_reducible refine Below.andThen ?_ hbI rfl | with_reducible refine Below.andThen ?_ hbJ rfl | with_reducible refine Below.andThen ?_ hbC rfl | with_reducible refine Below.alloc1 ?_ _ rfl | with_reducible refine Below.drew ?_ | with_reducible refine Below.set3 ?_ (by first | exact Nat.le_refl _ | exact hBI.size | exact hBJ.size | exact hBC.size) _ _ _))).mono ?_); rintro e wI ⟨vI, rfl, hbI, hsI⟩; have hBI : Below w3.heap.size w3 wI := (by repeat (first | with_reducible exact Below.refl _ _ | with_reducible refine Below.andThen ?_ hbI rfl | with_reducible refine Below.andThen ?_ hbJ rfl | with_reducible refine Below.andThen ?_ hbC rfl | with_reducible refine Below.alloc1 ?_ _ rfl | with_reducible refine Below.drew ?_ | with_reducible refine Below.set3 ?_ (by first | exact Nat.le_refl _ | exact hBI.size | exact hBJ.size | exact hBC.size) _ _ _)); first | (have qb := box_after_drew hbI; obtain ⟨q0, q1, q2, f0, f1, f2, ql⟩ := three_cells qb) | (have qb := box_after hbI; obtain ⟨q0, q1, q2, f0, f1, f2, ql⟩ := three_cells qb) | (have qb := (hbI.block _ (lt_of_block qb)).trans qb; obtain ⟨q0, q1, q2, f0, f1, f2, ql⟩ := three_cells qb) | skip)
        | (go_at_call 15; (with_reducible refine (CJ3.out _ (by repeat (first | with_reducible exact Below.refl _ _ | with_reducible refine Below.andThen ?_ hbI rfl | with_reducible refine Below.andThen ?_ hbJ rfl | with_reducible refine Below.andThen ?_ hbC rfl | with_reducible refine Below.alloc1 ?_ _ rfl | with_reducible refine Below.drew ?_ | with_reducible refine Below.set3 ?_ (by first | exact Nat.le_refl _ | exact hBI.size | exact hBJ.size | exact hBC.size) _ _ _))).mono ?_); rintro e wJ ⟨vJ, rfl, hbJ, hsJ⟩; have hBJ : Below w3.heap.size w3 wJ := (by repeat (first | with_reducible exact Below.refl _ _ | with_reducible refine Below.andThen ?_ hbI rfl | with_reducible refine Below.andThen ?_ hbJ rfl | with_reducible refine Below.andThen ?_ hbC rfl | with_reducible refine Below.alloc1 ?_ _ rfl | with_reducible refine Below.drew ?_ | with_reducible refine Below.set3 ?_ (by first | exact Nat.le_refl _ | exact hBI.size | exact hBJ.size | exact hBC.size) _ _ _)); first | (have qb := box_after_drew hbJ; obtain ⟨q0, q1, q2, f0, f1, f2, ql⟩ := three_cells qb) | (have qb := box_after hbJ; obtain ⟨q0, q1, q2, f0, f1, f2, ql⟩ := three_cells qb) | (have qb := (hbJ.block _ (lt_of_block qb)).trans qb; obtain ⟨q0, q1, q2, f0, f1, f2, ql⟩ := three_cells qb) | skip)
        | (go_at_call 14; (with_reducible refine (CAd.out _ _ _ (by repeat (first | exact hsI | exact hsJ | refine Smp.alloc ?_ _ | refine Smp.drew ?_ | refine Smp.below ?_ hbI | refine Smp.below ?_ hbJ)) (by repeat (first | exact hsI | exact hsJ | refine Smp.alloc ?_ _ | refine Smp.drew ?_ | refine Smp.below ?_ hbI | refine Smp.below ?_ hbJ))).mono ?_); rintro e wC ⟨fv, rfl, hbC, hf⟩; obtain ⟨fa, fc, rfl, hfl, -⟩ := hf.sl; have hBC : Below w3.heap.size w3 wC := (by repeat (first | with_reducible exact Below.refl _ _ | with_reducible refine Below.andThen ?_ hbI rfl | with_reducible refine Below.andThen ?_ hbJ rfl | with_reducible refine Below.andThen ?_ hbC rfl | with_reducible refine Below.alloc1 ?_ _ rfl | with_reducible refine Below.drew ?_ | with_reducible refine Below.set3 ?_ (by first | exact Nat.le_refl _ | exact hBI.size | exact hBJ.size | exact hBC.size) _ _ _)); first | (have qb := box_after_drew hbC; obtain ⟨q0, q1, q2, f0, f1, f2, ql⟩ := three_cells qb) | (have qb := box_after hbC; obtain ⟨q0, q1, q2, f0, f1, f2, ql⟩ := three_cells qb) | (have qb := (hbC.block _ (lt_of_block qb)).trans qb; obtain ⟨q0, q1, q2, f0, f1, f2, ql⟩ := three_cells qb) | skip))
    all_goals
      go_wp2_with fail
      go_meet
      case rel =>
        first
          | exact ⟨_, _, rfl, rfl, Lib.hid (by first | exact Nat.le_refl _ | exact hBI.size | exact hBJ.size | exact hBC.size), Lib.hid (by repeat (first | with_reducible exact Below.refl _ _ | with_reducible refine Below.andThen ?_ hbI rfl | with_reducible refine Below.andThen ?_ hbJ rfl | with_reducible refine Below.andThen ?_ hbC rfl | with_reducible refine Below.alloc1 ?_ _ rfl | with_reducible refine Below.drew ?_ | with_reducible refine Below.set3 ?_ (by first | exact Nat.le_refl _ | exact hBI.size | exact hBJ.size | exact hBC.size) _ _ _)), Lib.hid (IBox.born hf)⟩
          | exact ⟨_, _, rfl, rfl, Lib.hid (by first | exact Nat.le_refl _ | exact hBI.size | exact hBJ.size | exact hBC.size), Lib.hid (Below.set3 hBC (by first | exact Nat.le_refl _ | exact hBI.size | exact hBJ.size | exact hBC.size) _ _ _), Lib.hid (IBox.made qb hf)⟩
  obtain ⟨b5, iv, rfl, rfl, LEb5, HBn, BXb5⟩ := hcut
  obtain ⟨w5, rfl⟩ : ∃ w5 : World, w5 = wc := ⟨_, rfl⟩
  have SC5 := Lib.hid (SC3.out.next HBn.out)
  have BI5 := BXb5
  clear HBn BXb5 LEb5 SC3 CI3 CJ3 CAd k0 k1 k2 k3 kl j0 j1 j2 j3 jl
  obtain ⟨k0, k1, k2, k3, kl⟩ := four_cells SC5.out.b0
  have CI5 := Lib.hid (fun W (h : Below w5.heap.size w5 W) => CI.out W (SC5.out.p.below h))
  have CK5 := Lib.hid (fun W (h : Below w5.heap.size w5 W) => CK.out W (SC5.out.c.below h))
  go_wp2_with fail
  go_cut [7, 8] from 14 (fun s1 s2 wx => ∃ b7 fx, s1 = .pointer (some ⟨b7, 0, none⟩) ∧ s2 = .int .i64 EX ∧ Hid (w5.heap.size ≤ b7) ∧ Hid (Below w5.heap.size w5 wx) ∧ Hid (FBox lx sx fx X b7 wx))
  case first =>
    go_region_held3 (fun W => W.cell? ⟨w.heap.size, 0, none⟩ = some (.int .i64 l) ∧ W.cell? ⟨w.heap.size, 1, none⟩ = some (.int .i64 s) ∧ W.cell? ⟨w.heap.size, 2, none⟩ = some (.slice pa np pc) ∧ W.cell? ⟨w.heap.size, 3, none⟩ = some (.slice ca nc cc)) (with_reducible refine ⟨Below.keepc ?_ k0, Below.keepc ?_ k1, Below.keepc ?_ k2, Below.keepc ?_ k3⟩ <;> (repeat (first | with_reducible exact Below.refl _ _ | with_reducible refine Below.andThen ?_ hbI rfl | with_reducible refine Below.andThen ?_ hbJ rfl | with_reducible refine Below.andThen ?_ hbC rfl | with_reducible refine Below.alloc1 ?_ _ rfl | with_reducible refine Below.drew ?_ | with_reducible refine Below.set3 ?_ (by first | exact Nat.le_refl _ | exact hBI.size | exact hBJ.size | exact hBC.size) _ _ _)) <;> done)
      (first
        | (go_at_call 15; (with_reducible refine (CI5.out _ (by repeat (first | with_reducible exact Below.refl _ _ | with_reducible refine Below.andThen ?_ hbI rfl | with_reducible refine Below.andThen ?_ hbJ rfl | with_reducible refine Below.andThen ?_ hbC rfl | with_reducible refine Below.alloc1 ?_ _ rfl | with_reducible refine Below.drew ?_ | with_reducible refine Below.set3 ?_ (by first | exact Nat.le_refl _ | exact hBI.size | exact hBJ.size | exact hBC.size) _ _ _))).mono ?_); rintro e wI ⟨vI, rfl, hbI, hsI⟩; have hBI : Below w5.heap.size w5 wI := (by repeat (first | with_reducible exact Below.refl _ _ | with_reducible refine Below.andThen ?_ hbI rfl | with_reducible refine Below.andThen ?_ hbJ rfl | with_reducible refine Below.andThen ?_ hbC rfl | with_reducible refine Below.alloc1 ?_ _ rfl | with_reducible refine Below.drew ?_ | with_reducible refine Below.set3 ?_ (by first | exact Nat.le_refl _ | exact hBI.size | exact hBJ.size | exact hBC.size) _ _ _)); first | (have qb := box_after_drew hbI; obtain ⟨q0, q1, q2, f0, f1, f2, ql⟩ := three_cells qb) | (have qb := box_after hbI; obtain ⟨q0, q1, q2, f0, f1, f2, ql⟩ := three_cells qb) | (have qb := (hbI.block _ (lt_of_block qb)).trans qb; obtain ⟨q0, q1, q2, f0, f1, f2, ql⟩ := three_cells qb) | skip)
        | (go_at_call 17; (with_reducible refine (CK5.out _ (by repeat (first | with_reducible exact Below.refl _ _ | with_reducible refine Below.andThen ?_ hbI rfl | with_reducible refine Below.andThen ?_ hbJ rfl | with_reducible refine Below.andThen ?_ hbC rfl | with_reducible refine Below.alloc1 ?_ _ rfl | with_reducible refine Below.drew ?_ | with_reducible refine Below.set3 ?_ (by first | exact Nat.le_refl _ | exact hBI.size | exact hBJ.size | exact hBC.size) _ _ _))).mono ?_); rintro e wJ ⟨vJ, rfl, hbJ, hsJ⟩; have hBJ : Below w5.heap.size w5 wJ := (by repeat (first | with_reducible exact Below.refl _ _ | with_reducible refine Below.andThen ?_ hbI rfl | with_reducible refine Below.andThen ?_ hbJ rfl | with_reducible refine Below.andThen ?_ hbC rfl | with_reducible refine Below.alloc1 ?_ _ rfl | with_reducible refine Below.drew ?_ | with_reducible refine Below.set3 ?_ (by first | exact Nat.le_refl _ | exact hBI.size | exact hBJ.size | exact hBC.size) _ _ _)); first | (have qb := box_after_drew hbJ; obtain ⟨q0, q1, q2, f0, f1, f2, ql⟩ := three_cells qb) | (have qb := box_after hbJ; obtain ⟨q0, q1, q2, f0, f1, f2, ql⟩ := three_cells qb) | (have qb := (hbJ.block _ (lt_of_block qb)).trans qb; obtain ⟨q0, q1, q2, f0, f1, f2, ql⟩ := three_cells qb) | skip)
        | (go_at_call 16; (with_reducible refine (CX.out _ _ _ (by repeat (first | exact hsI | exact hsJ | refine Smp.alloc ?_ _ | refine Smp.drew ?_ | refine Smp.below ?_ hbI | refine Smp.below ?_ hbJ)) (by repeat (first | exact hsI | exact hsJ | refine Smp.alloc ?_ _ | refine Smp.drew ?_ | refine Smp.below ?_ hbI | refine Smp.below ?_ hbJ))).mono ?_); rintro e wC ⟨fv, rfl, hbC, hf⟩; obtain ⟨fa, fc, rfl, hfl, -⟩ := hf.sl; have hBC : Below w5.heap.size w5 wC := (by repeat (first | with_reducible exact Below.refl _ _ | with_reducible refine Below.andThen ?_ hbI rfl | with_reducible refine Below.andThen ?_ hbJ rfl | with_reducible refine Below.andThen ?_ hbC rfl | with_reducible refine Below.alloc1 ?_ _ rfl | with_reducible refine Below.drew ?_ | with_reducible refine Below.set3 ?_ (by first | exact Nat.le_refl _ | exact hBI.size | exact hBJ.size | exact hBC.size) _ _ _)); first | (have qb := box_after_drew hbC; obtain ⟨q0, q1, q2, f0, f1, f2, ql⟩ := three_cells qb) | (have qb := box_after hbC; obtain ⟨q0, q1, q2, f0, f1, f2, ql⟩ := three_cells qb) | (have qb := (hbC.block _ (lt_of_block qb)).trans qb; obtain ⟨q0, q1, q2, f0, f1, f2, ql⟩ := three_cells qb) | skip))
    all_goals
      go_wp2_with fail
      go_meet
      case rel =>
        first
          | exact ⟨_, _, rfl, rfl, Lib.hid (by first | exact Nat.le_refl _ | exact hBI.size | exact hBJ.size | exact hBC.size), Lib.hid (by repeat (first | with_reducible exact Below.refl _ _ | with_reducible refine Below.andThen ?_ hbI rfl | with_reducible refine Below.andThen ?_ hbJ rfl | with_reducible refine Below.andThen ?_ hbC rfl | with_reducible refine Below.alloc1 ?_ _ rfl | with_reducible refine Below.drew ?_ | with_reducible refine Below.set3 ?_ (by first | exact Nat.le_refl _ | exact hBI.size | exact hBJ.size | exact hBC.size) _ _ _)), Lib.hid (FBox.born hf)⟩
          | exact ⟨_, _, rfl, rfl, Lib.hid (by first | exact Nat.le_refl _ | exact hBI.size | exact hBJ.size | exact hBC.size), Lib.hid (Below.set3 hBC (by first | exact Nat.le_refl _ | exact hBI.size | exact hBJ.size | exact hBC.size) _ _ _), Lib.hid (FBox.made qb hf)⟩
  obtain ⟨b7, fx, rfl, rfl, LEb7, HBn, BXb7⟩ := hcut
  obtain ⟨w6, rfl⟩ : ∃ w6 : World, w6 = wc := ⟨_, rfl⟩
  have SC6 := Lib.hid (SC5.out.next HBn.out)
  have BI6 := Lib.hid (BI5.out.next HBn.out)
  have BF6 := BXb7
  clear HBn BXb7 LEb7 SC5 BI5 CI5 CK5 CX k0 k1 k2 k3 kl
  have HR2 : ((EA != 0) = true) ∨ (EA = 0 ∧ (EX != 0) = true) ∨ (EA = 0 ∧ EX = 0 ∧ ∃ (f t : Int) (Y Z : List (Nat × Nat)) (n : Nat),
        Hid (∀ W v k, Smp .f32 ys W v → Smp .f32 us W k → Calls Tryd.prog 16 #[.agg #[.int .i64 l', .int .i64 s', v], k] W (FieldE f t Y 0 W)) ∧
        Hid (∀ W v k, Smp .f32 A W v → Smp .f32 us W k → Calls Tryd.prog 16 #[.agg #[.int .i64 la, .int .i64 sa, v], k] W (FieldE f t Z 0 W)) ∧
        Hid (X.length = n ∧ Y.length = n ∧ Z.length = n ∧ n ≤ 4096) ∧
        Hid (∀ i, i < n → ∃ a b c d : Int, X.getD i (0, 0) = (enc Ieee.double a, enc Ieee.double b) ∧ Y.getD i (0, 0) = (enc Ieee.double c, enc Ieee.double d) ∧ Z.getD i (0, 0) = (enc Ieee.double (a + c), enc Ieee.double (b + d)) ∧ a.natAbs ≤ 393024 ∧ b.natAbs ≤ 393024 ∧ c.natAbs ≤ 393024 ∧ d.natAbs ≤ 393024)) := by
    rcases HRef.out with h | ⟨h1, h2⟩ | ⟨h1, h2, f, t, Y, Z, n, q1, q2, q3, q4, q5, q6, q7⟩
    · exact .inl (by rw [bne_iff_ne]; exact h)
    · exact .inr (.inl ⟨h1, by rw [bne_iff_ne]; exact h2⟩)
    · exact .inr (.inr ⟨h1, h2, f, t, Y, Z, n, q1, q2, ⟨q3, q4, q5, q6⟩, q7⟩)
  clear HRef
  rcases HR2 with hE | ⟨rfl, hE⟩ | ⟨rfl, rfl, f, t, Y, Z, n, CY, CZ, HLN, HPT⟩
  · go_wp2_with fail
    go_ret
    exact ⟨rfl, SC6.out.hb⟩
  · go_wp2_with fail
    go_ret
    exact ⟨rfl, SC6.out.hb⟩
  obtain ⟨k0, k1, k2, k3, kl⟩ := four_cells SC6.out.b0
  obtain ⟨j0, j1, j2, j3, jl⟩ := four_cells SC6.out.b1
  have CJ6 := Lib.hid (fun W (h : Below w6.heap.size w6 W) => CJ.out W (SC6.out.p'.below h))
  have CK6 := Lib.hid (fun W (h : Below w6.heap.size w6 W) => CK.out W (SC6.out.c.below h))
  go_wp2_with fail
  go_cut [9, 10] from 14 (fun s1 s2 wx => ∃ b9 fy, s1 = .pointer (some ⟨b9, 0, none⟩) ∧ s2 = .int .i64 0 ∧ Hid (w6.heap.size ≤ b9) ∧ Hid (Below w6.heap.size w6 wx) ∧ Hid (FBox f t fy Y b9 wx))
  case first =>
    go_region_held3 (fun W => W.cell? ⟨w.heap.size, 0, none⟩ = some (.int .i64 l) ∧ W.cell? ⟨w.heap.size, 1, none⟩ = some (.int .i64 s) ∧ W.cell? ⟨w.heap.size, 2, none⟩ = some (.slice pa np pc) ∧ W.cell? ⟨w.heap.size, 3, none⟩ = some (.slice ca nc cc) ∧ W.cell? ⟨w.heap.size + 1, 0, none⟩ = some (.int .i64 l') ∧ W.cell? ⟨w.heap.size + 1, 1, none⟩ = some (.int .i64 s') ∧ W.cell? ⟨w.heap.size + 1, 2, none⟩ = some (.slice ra nr rc) ∧ W.cell? ⟨w.heap.size + 1, 3, none⟩ = some (.slice da nd dc)) (with_reducible refine ⟨Below.keepc ?_ k0, Below.keepc ?_ k1, Below.keepc ?_ k2, Below.keepc ?_ k3, Below.keepc ?_ j0, Below.keepc ?_ j1, Below.keepc ?_ j2, Below.keepc ?_ j3⟩ <;> (repeat (first | with_reducible exact Below.refl _ _ | with_reducible refine Below.andThen ?_ hbI rfl | with_reducible refine Below.andThen ?_ hbJ rfl | with_reducible refine Below.andThen ?_ hbC rfl | with_reducible refine Below.alloc1 ?_ _ rfl | with_reducible refine Below.drew ?_ | with_reducible refine Below.set3 ?_ (by first | exact Nat.le_refl _ | exact hBI.size | exact hBJ.size | exact hBC.size) _ _ _)) <;> done)
      (first
        | (go_at_call 15; (with_reducible refine (CJ6.out _ (by repeat (first | with_reducible exact Below.refl _ _ | with_reducible refine Below.andThen ?_ hbI rfl | with_reducible refine Below.andThen ?_ hbJ rfl | with_reducible refine Below.andThen ?_ hbC rfl | with_reducible refine Below.alloc1 ?_ _ rfl | with_reducible refine Below.drew ?_ | with_reducible refine Below.set3 ?_ (by first | exact Nat.le_refl _ | exact hBI.size | exact hBJ.size | exact hBC.size) _ _ _))).mono ?_); rintro e wI ⟨vI, rfl, hbI, hsI⟩; have hBI : Below w6.heap.size w6 wI := (by repeat (first | with_reducible exact Below.refl _ _ | with_reducible refine Below.andThen ?_ hbI rfl | with_reducible refine Below.andThen ?_ hbJ rfl | with_reducible refine Below.andThen ?_ hbC rfl | with_reducible refine Below.alloc1 ?_ _ rfl | with_reducible refine Below.drew ?_ | with_reducible refine Below.set3 ?_ (by first | exact Nat.le_refl _ | exact hBI.size | exact hBJ.size | exact hBC.size) _ _ _)); first | (have qb := box_after_drew hbI; obtain ⟨q0, q1, q2, f0, f1, f2, ql⟩ := three_cells qb) | (have qb := box_after hbI; obtain ⟨q0, q1, q2, f0, f1, f2, ql⟩ := three_cells qb) | (have qb := (hbI.block _ (lt_of_block qb)).trans qb; obtain ⟨q0, q1, q2, f0, f1, f2, ql⟩ := three_cells qb) | skip)
        | (go_at_call 17; (with_reducible refine (CK6.out _ (by repeat (first | with_reducible exact Below.refl _ _ | with_reducible refine Below.andThen ?_ hbI rfl | with_reducible refine Below.andThen ?_ hbJ rfl | with_reducible refine Below.andThen ?_ hbC rfl | with_reducible refine Below.alloc1 ?_ _ rfl | with_reducible refine Below.drew ?_ | with_reducible refine Below.set3 ?_ (by first | exact Nat.le_refl _ | exact hBI.size | exact hBJ.size | exact hBC.size) _ _ _))).mono ?_); rintro e wJ ⟨vJ, rfl, hbJ, hsJ⟩; have hBJ : Below w6.heap.size w6 wJ := (by repeat (first | with_reducible exact Below.refl _ _ | with_reducible refine Below.andThen ?_ hbI rfl | with_reducible refine Below.andThen ?_ hbJ rfl | with_reducible refine Below.andThen ?_ hbC rfl | with_reducible refine Below.alloc1 ?_ _ rfl | with_reducible refine Below.drew ?_ | with_reducible refine Below.set3 ?_ (by first | exact Nat.le_refl _ | exact hBI.size | exact hBJ.size | exact hBC.size) _ _ _)); first | (have qb := box_after_drew hbJ; obtain ⟨q0, q1, q2, f0, f1, f2, ql⟩ := three_cells qb) | (have qb := box_after hbJ; obtain ⟨q0, q1, q2, f0, f1, f2, ql⟩ := three_cells qb) | (have qb := (hbJ.block _ (lt_of_block qb)).trans qb; obtain ⟨q0, q1, q2, f0, f1, f2, ql⟩ := three_cells qb) | skip)
        | (go_at_call 16; (with_reducible refine (CY.out _ _ _ (by repeat (first | exact hsI | exact hsJ | refine Smp.alloc ?_ _ | refine Smp.drew ?_ | refine Smp.below ?_ hbI | refine Smp.below ?_ hbJ)) (by repeat (first | exact hsI | exact hsJ | refine Smp.alloc ?_ _ | refine Smp.drew ?_ | refine Smp.below ?_ hbI | refine Smp.below ?_ hbJ))).mono ?_); rintro e wC ⟨fv, rfl, hbC, hf⟩; obtain ⟨fa, fc, rfl, hfl, -⟩ := hf.sl; have hBC : Below w6.heap.size w6 wC := (by repeat (first | with_reducible exact Below.refl _ _ | with_reducible refine Below.andThen ?_ hbI rfl | with_reducible refine Below.andThen ?_ hbJ rfl | with_reducible refine Below.andThen ?_ hbC rfl | with_reducible refine Below.alloc1 ?_ _ rfl | with_reducible refine Below.drew ?_ | with_reducible refine Below.set3 ?_ (by first | exact Nat.le_refl _ | exact hBI.size | exact hBJ.size | exact hBC.size) _ _ _)); first | (have qb := box_after_drew hbC; obtain ⟨q0, q1, q2, f0, f1, f2, ql⟩ := three_cells qb) | (have qb := box_after hbC; obtain ⟨q0, q1, q2, f0, f1, f2, ql⟩ := three_cells qb) | (have qb := (hbC.block _ (lt_of_block qb)).trans qb; obtain ⟨q0, q1, q2, f0, f1, f2, ql⟩ := three_cells qb) | skip))
    all_goals
      go_wp2_with fail
      go_meet
      case rel =>
        first
          | exact ⟨_, _, rfl, rfl, Lib.hid (by first | exact Nat.le_refl _ | exact hBI.size | exact hBJ.size | exact hBC.size), Lib.hid (by repeat (first | with_reducible exact Below.refl _ _ | with_reducible refine Below.andThen ?_ hbI rfl | with_reducible refine Below.andThen ?_ hbJ rfl | with_reducible refine Below.andThen ?_ hbC rfl | with_reducible refine Below.alloc1 ?_ _ rfl | with_reducible refine Below.drew ?_ | with_reducible refine Below.set3 ?_ (by first | exact Nat.le_refl _ | exact hBI.size | exact hBJ.size | exact hBC.size) _ _ _)), Lib.hid (FBox.born hf)⟩
          | exact ⟨_, _, rfl, rfl, Lib.hid (by first | exact Nat.le_refl _ | exact hBI.size | exact hBJ.size | exact hBC.size), Lib.hid (Below.set3 hBC (by first | exact Nat.le_refl _ | exact hBI.size | exact hBJ.size | exact hBC.size) _ _ _), Lib.hid (FBox.made qb hf)⟩
  obtain ⟨b9, fy, rfl, rfl, LEb9, HBn, BXb9⟩ := hcut
  obtain ⟨w9, rfl⟩ : ∃ w9 : World, w9 = wc := ⟨_, rfl⟩
  have SC9 := Lib.hid (SC6.out.next HBn.out)
  have BI9 := Lib.hid (BI6.out.next HBn.out)
  have BF9 := Lib.hid (BF6.out.next HBn.out)
  have BG9 := BXb9
  clear HBn BXb9 LEb9 SC6 BI6 BF6 CJ6 CK6 CY k0 k1 k2 k3 kl j0 j1 j2 j3 jl
  obtain ⟨k0, k1, k2, k3, kl⟩ := four_cells SC9.out.b0
  obtain ⟨ia, ic, rfl, -, -⟩ := BI9.out.smp.sl
  obtain ⟨i0, i1, i2, -, -, -, il⟩ := three_cells BI9.out.blk
  have CK9 := Lib.hid (fun W (h : Below w9.heap.size w9 W) => CK.out W (SC9.out.c.below h))
  have CZ9 := Lib.hid (fun W k (h : Below w9.heap.size w9 W) (hk : Smp .f32 us W k) => CZ.out W _ k (BI9.out.smp.below h) hk)
  generalize (cvals .f32 A).length = na at *
  go_wp2_with fail
  go_cut [11, 12] from 14 (fun s1 s2 wx => ∃ b11 fz, s1 = .pointer (some ⟨b11, 0, none⟩) ∧ s2 = .int .i64 0 ∧ Hid (w9.heap.size ≤ b11) ∧ Hid (Below w9.heap.size w9 wx) ∧ Hid (FBox f t fz Z b11 wx))
  case first =>
    go_region_held3 (fun W => W.cell? ⟨w.heap.size, 0, none⟩ = some (.int .i64 l) ∧ W.cell? ⟨w.heap.size, 1, none⟩ = some (.int .i64 s) ∧ W.cell? ⟨w.heap.size, 2, none⟩ = some (.slice pa np pc) ∧ W.cell? ⟨w.heap.size, 3, none⟩ = some (.slice ca nc cc) ∧ W.cell? ⟨b5, 0, none⟩ = some (.int .i64 la) ∧ W.cell? ⟨b5, 1, none⟩ = some (.int .i64 sa) ∧ W.cell? ⟨b5, 2, none⟩ = some (.slice ia na ic)) (with_reducible refine ⟨Below.keepc ?_ k0, Below.keepc ?_ k1, Below.keepc ?_ k2, Below.keepc ?_ k3, Below.keepc ?_ i0, Below.keepc ?_ i1, Below.keepc ?_ i2⟩ <;> (repeat (first | with_reducible exact Below.refl _ _ | with_reducible refine Below.andThen ?_ hbI rfl | with_reducible refine Below.andThen ?_ hbJ rfl | with_reducible refine Below.andThen ?_ hbC rfl | with_reducible refine Below.alloc1 ?_ _ rfl | with_reducible refine Below.drew ?_ | with_reducible refine Below.set3 ?_ (by first | exact Nat.le_refl _ | exact hBI.size | exact hBJ.size | exact hBC.size) _ _ _)) <;> done)
      (first
        | (go_at_call 17; (with_reducible refine (CK9.out _ (by repeat (first | with_reducible exact Below.refl _ _ | with_reducible refine Below.andThen ?_ hbI rfl | with_reducible refine Below.andThen ?_ hbJ rfl | with_reducible refine Below.andThen ?_ hbC rfl | with_reducible refine Below.alloc1 ?_ _ rfl | with_reducible refine Below.drew ?_ | with_reducible refine Below.set3 ?_ (by first | exact Nat.le_refl _ | exact hBI.size | exact hBJ.size | exact hBC.size) _ _ _))).mono ?_); rintro e wJ ⟨vJ, rfl, hbJ, hsJ⟩; have hBJ : Below w9.heap.size w9 wJ := (by repeat (first | with_reducible exact Below.refl _ _ | with_reducible refine Below.andThen ?_ hbI rfl | with_reducible refine Below.andThen ?_ hbJ rfl | with_reducible refine Below.andThen ?_ hbC rfl | with_reducible refine Below.alloc1 ?_ _ rfl | with_reducible refine Below.drew ?_ | with_reducible refine Below.set3 ?_ (by first | exact Nat.le_refl _ | exact hBI.size | exact hBJ.size | exact hBC.size) _ _ _)); first | (have qb := box_after_drew hbJ; obtain ⟨q0, q1, q2, f0, f1, f2, ql⟩ := three_cells qb) | (have qb := box_after hbJ; obtain ⟨q0, q1, q2, f0, f1, f2, ql⟩ := three_cells qb) | (have qb := (hbJ.block _ (lt_of_block qb)).trans qb; obtain ⟨q0, q1, q2, f0, f1, f2, ql⟩ := three_cells qb) | skip)
        | (go_at_call 16; (with_reducible refine (CZ9.out _ _ (by repeat (first | with_reducible exact Below.refl _ _ | with_reducible refine Below.andThen ?_ hbI rfl | with_reducible refine Below.andThen ?_ hbJ rfl | with_reducible refine Below.andThen ?_ hbC rfl | with_reducible refine Below.alloc1 ?_ _ rfl | with_reducible refine Below.drew ?_ | with_reducible refine Below.set3 ?_ (by first | exact Nat.le_refl _ | exact hBI.size | exact hBJ.size | exact hBC.size) _ _ _)) (by repeat (first | exact hsI | exact hsJ | refine Smp.alloc ?_ _ | refine Smp.drew ?_ | refine Smp.below ?_ hbI | refine Smp.below ?_ hbJ))).mono ?_); rintro e wC ⟨fv, rfl, hbC, hf⟩; obtain ⟨fa, fc, rfl, hfl, -⟩ := hf.sl; have hBC : Below w9.heap.size w9 wC := (by repeat (first | with_reducible exact Below.refl _ _ | with_reducible refine Below.andThen ?_ hbI rfl | with_reducible refine Below.andThen ?_ hbJ rfl | with_reducible refine Below.andThen ?_ hbC rfl | with_reducible refine Below.alloc1 ?_ _ rfl | with_reducible refine Below.drew ?_ | with_reducible refine Below.set3 ?_ (by first | exact Nat.le_refl _ | exact hBI.size | exact hBJ.size | exact hBC.size) _ _ _)); first | (have qb := box_after_drew hbC; obtain ⟨q0, q1, q2, f0, f1, f2, ql⟩ := three_cells qb) | (have qb := box_after hbC; obtain ⟨q0, q1, q2, f0, f1, f2, ql⟩ := three_cells qb) | (have qb := (hbC.block _ (lt_of_block qb)).trans qb; obtain ⟨q0, q1, q2, f0, f1, f2, ql⟩ := three_cells qb) | skip))
    all_goals
      go_wp2_with fail
      go_meet
      case rel =>
        first
          | exact ⟨_, _, rfl, rfl, Lib.hid (by first | exact Nat.le_refl _ | exact hBI.size | exact hBJ.size | exact hBC.size), Lib.hid (by repeat (first | with_reducible exact Below.refl _ _ | with_reducible refine Below.andThen ?_ hbI rfl | with_reducible refine Below.andThen ?_ hbJ rfl | with_reducible refine Below.andThen ?_ hbC rfl | with_reducible refine Below.alloc1 ?_ _ rfl | with_reducible refine Below.drew ?_ | with_reducible refine Below.set3 ?_ (by first | exact Nat.le_refl _ | exact hBI.size | exact hBJ.size | exact hBC.size) _ _ _)), Lib.hid (FBox.born hf)⟩
          | exact ⟨_, _, rfl, rfl, Lib.hid (by first | exact Nat.le_refl _ | exact hBI.size | exact hBJ.size | exact hBC.size), Lib.hid (Below.set3 hBC (by first | exact Nat.le_refl _ | exact hBI.size | exact hBJ.size | exact hBC.size) _ _ _), Lib.hid (FBox.made qb hf)⟩
  obtain ⟨b11, fz, rfl, rfl, LEb11, HBn, BXb11⟩ := hcut
  obtain ⟨wA, rfl⟩ : ∃ wA : World, wA = wc := ⟨_, rfl⟩
  have SCA := Lib.hid (SC9.out.next HBn.out)
  have BFA := Lib.hid (BF9.out.next HBn.out)
  have BGA := Lib.hid (BG9.out.next HBn.out)
  have BHA := BXb11
  clear HBn BXb11 LEb11 SC9 BI9 BF9 BG9 CK9 CZ9 CZ CI CJ CK k0 k1 k2 k3 kl i0 i1 i2 il
  have VF := Lib.hid BFA.out.smp.sl
  have VG := Lib.hid BGA.out.smp.sl
  have VH := Lib.hid BHA.out.smp.sl
  obtain ⟨xa, xc, rfl, xl, -⟩ := BFA.out.smp.sl
  obtain ⟨ya, yc, rfl, yl, -⟩ := BGA.out.smp.sl
  obtain ⟨za, zc, rfl, zl, -⟩ := BHA.out.smp.sl
  rw [show (cvals .f64 X).length = n from by simp [cvals, HLN.out.1]] at VF BFA
  rw [show (cvals .f64 Y).length = n from by simp [cvals, HLN.out.2.1]] at VG BGA
  rw [show (cvals .f64 Z).length = n from by simp [cvals, HLN.out.2.2.1]] at VH BHA
  obtain ⟨x0, x1, x2, -, -, -, xl⟩ := three_cells BFA.out.blk
  obtain ⟨y0, y1, y2, -, -, -, yl⟩ := three_cells BGA.out.blk
  obtain ⟨u0, u1, u2, -, -, -, ul⟩ := three_cells BHA.out.blk
  have hn4 := HLN.out.2.2.2
  go_wp2_with fail
  go_loopw [13] (fun i wr => ∃ k : Nat, k ≤ n ∧ i = .int .i64 k ∧ Hid (Below wA.heap.size wA wr)) (fun i _ => n - (intOf i).toNat)
  case atStart => exact ⟨0, Nat.zero_le _, rfl, Below.refl _ _⟩
  case round =>
    obtain ⟨k, hk, rfl, HBZ⟩ := hrel
    obtain ⟨wz, rfl⟩ : ∃ wz : World, wz = wr := ⟨_, rfl⟩
    obtain ⟨x0, x1, x2, -, -, -, xl⟩ := three_cells (BFA.out.next HBZ.out).blk
    obtain ⟨y0, y1, y2, -, -, -, yl⟩ := three_cells (BGA.out.next HBZ.out).blk
    obtain ⟨u0, u1, u2, -, -, -, ul⟩ := three_cells (BHA.out.next HBZ.out).blk
    by_cases hlt : k < n
    · obtain ⟨-, p1, o1, rfl, q1, g1⟩ := VF.out.at (by omega)
      obtain ⟨-, p2, o2, rfl, q2, g2⟩ := VG.out.at (by omega)
      obtain ⟨-, p3, o3, rfl, q3, g3⟩ := VH.out.at (by omega)
      obtain ⟨a, b, c, d, eX, eY, eZ, ba, bb, bc, bd⟩ := HPT.out k hlt
      have d1 : wz.cell? ⟨p1, o1 + k, none⟩ = some (.complex .f64 (enc Ieee.double a) (enc Ieee.double b)) := Below.keepc HBZ.out ((g1 k _ (cvals_get (by have := HLN.out; omega))).trans (by rw [eX]))
      have d2 : wz.cell? ⟨p2, o2 + k, none⟩ = some (.complex .f64 (enc Ieee.double c) (enc Ieee.double d)) := Below.keepc HBZ.out ((g2 k _ (cvals_get (by have := HLN.out; omega))).trans (by rw [eY]))
      have d3 : wz.cell? ⟨p3, o3 + k, none⟩ = some (.complex .f64 (enc Ieee.double (a + c)) (enc Ieee.double (b + d))) := Below.keepc HBZ.out ((g3 k _ (cvals_get (by have := HLN.out; omega))).trans (by rw [eZ]))
      have hadd : ∀ w, (binOp .add 57 (.complex .f64 (enc Ieee.double a) (enc Ieee.double b)) (.complex .f64 (enc Ieee.double c) (enc Ieee.double d))).run Tryd.prog w = .ok (.complex .f64 (enc Ieee.double (a + c)) (enc Ieee.double (b + d))) w := fun w =>
        run_sum_step _ a b c d _ _ (Rep.enc _ c) (Rep.enc _ d) (Nat.le_trans ba (by decide)) (Nat.le_trans bb (by decide)) (Nat.le_trans bc (by decide)) (Nat.le_trans bd (by decide)) (Nat.le_trans (show (a + c).natAbs ≤ 786048 by omega) (by decide)) (Nat.le_trans (show (b + d).natAbs ≤ 786048 by omega) (by decide)) w
      have o1e : (FloatKind.f64.format.order (enc Ieee.double (a + c)) (enc Ieee.double (a + c)) == some .eq) = true := order_self (show (a + c).natAbs ≤ 2 ^ 53 from Nat.le_trans (show (a + c).natAbs ≤ 786048 by omega) (by decide))
      have o2e : (FloatKind.f64.format.order (enc Ieee.double (b + d)) (enc Ieee.double (b + d)) == some .eq) = true := order_self (show (b + d).natAbs ≤ 2 ^ 53 from Nat.le_trans (show (b + d).natAbs ≤ 786048 by omega) (by decide))
      generalize enc Ieee.double (a + c) = P at *
      generalize enc Ieee.double (b + d) = Q at *
      generalize enc Ieee.double a = P1 at *
      generalize enc Ieee.double b = Q1 at *
      generalize enc Ieee.double c = P2 at *
      generalize enc Ieee.double d = Q2 at *
      have hki : (k : Int) < n := by omega
      clear g1 g2 g3 q1 q2 q3 eX eY eZ ba bb bc bd
      go_wp2_with fail
      go_quiet (fail)
      go_wp2_with fail
      go_roundw
      case rel => exact ⟨k + 1, by omega, by go_num, HBZ.out.trans (below_drewN' _ _ _)⟩
      case measure => simp [intOf]; omega
    · have e : n = k := by omega
      subst e
      go_wp2_with fail
      go_ret
      exact ⟨rfl, SCA.out.hb.trans (HBZ.out.mono SCA.out.hb.size)⟩

/-- THE LAW, FOR ALL PAIRS OF SCENES -/
theorem linear_any (l s l' s' : Int) (pv cv pv' cv' : Value) (xs cs xs2 cs2 : List Nat) (w : World) (hp : Fls .f32 xs w pv) (hc : Fls .f32 cs w cv) (hp' : Fls .f32 xs2 w pv') (hc' : Fls .f32 cs2 w cv') (hl : I64 l) (hs : I64 s) (hl' : I64 l') (hs' : I64 s')
    (hz : ∀ z ∈ pairsOf xs, z.1 < 2 ^ 32 ∧ z.2 < 2 ^ 32) (hy : ∀ z ∈ pairsOf xs2, z.1 < 2 ^ 32 ∧ z.2 < 2 ^ 32) (hu : ∀ z ∈ pairsOf cs, z.1 < 2 ^ 32 ∧ z.2 < 2 ^ 32) (ht : Tab w) :
    Calls Tryd.prog 4 #[.agg #[.int .i64 l, .int .i64 s, pv, cv], .agg #[.int .i64 l', .int .i64 s', pv', cv']] w fun e w' => e = .returned (.bool true) ∧ Below w.heap.size w w' := by
  cases h1 : SmallB xs.length cs.length with
  | false => exact linear_long l s l' s' pv cv pv' cv' xs cs xs2 cs2 w hp hc hp' hc' (.inl h1) ht
  | true =>
    cases h2 : SmallB xs2.length cs2.length with
    | false => exact linear_long l s l' s' pv cv pv' cv' xs cs xs2 cs2 w hp hc hp' hc' (.inr h2) ht
    | true => exact linear_short l s l' s' pv cv pv' cv' xs cs xs2 cs2 w hp hc hp' hc' hl hs hl' hs' hz hy hu h1 h2 ht
end Go.Proofs.YtmiaglkkjncfnaaDoor
