import Derived.Test.YtmiaglkkjncfnaaDoorMf
import Derived.Deep.RegionHeld3
import Derived.Deep.CutRange
import Derived.OrdersHeld
namespace Go.Proofs.YtmiaglkkjncfnaaDoor
open Go.RowKit Go.Proofs.YtmiaglkkjncfnaaDoor.Flt

/-- two numbers in a box -/
structure ByIn (a b : Int) (N : Nat) (W : World) : Prop where
  blk : W.heap[N]? = some (.cells #[.int .i64 a, .int .i64 b] 59 (0, 0))
theorem ByIn.next {a b : Int} {N : Nat} {W W' : World} (h : ByIn a b N W) (hb : Below W.heap.size W W') : ByIn a b N W' := ⟨(hb.block _ (lt_of_block h.blk)).trans h.blk⟩

set_option maxRecDepth 100000 in
theorem adds_long (l s l' s' : Int) (pv cv pv' cv' : Value) (xs cs xs2 cs2 : List Nat) (a b : Int) (w : World) (hp : Fls .f32 xs w pv) (hc : Fls .f32 cs w cv) (hp' : Fls .f32 xs2 w pv') (hc' : Fls .f32 cs2 w cv') (hsm : SmallB xs.length cs.length = false ∨ SmallB xs2.length cs2.length = false) (ht : Tab w) :
    Calls Tryd.prog 5 #[.agg #[.int .i64 l, .int .i64 s, pv, cv], .agg #[.int .i64 l', .int .i64 s', pv', cv'], .agg #[.int .i64 a, .int .i64 b]] w fun e w' => e = .returned (.bool true) ∧ Below w.heap.size w w' := by
  have CA := Lib.hid (fun W (h : Sc2 l s pv cv l' s' pv' cv' xs cs xs2 cs2 w W) => awake_any W (ht.below h.hb))
  have CS1 := Lib.hid (fun W (h : Sc2 l s pv cv l' s' pv' cv' xs cs xs2 cs2 w W) => Small_any l s pv cv xs cs W h.p h.c)
  have CS2 := Lib.hid (fun W (h : Sc2 l s pv cv l' s' pv' cv' xs cs xs2 cs2 w W) => Small_any l' s' pv' cv' xs2 cs2 W h.p' h.c')
  have HS0 : Hid (∀ W0, W0 = ((w.alloc (.cells #[.int .i64 l, .int .i64 s, pv, cv] 46)).alloc (.cells #[.int .i64 l', .int .i64 s', pv', cv'] 46)).alloc (.cells #[.int .i64 a, .int .i64 b] 59) → Sc2 l s pv cv l' s' pv' cv' xs cs xs2 cs2 w W0 ∧ ByIn a b (w.heap.size + 1 + 1) W0) := by
    rintro W0 rfl
    refine ⟨(Sc2.start hp hc hp' hc').next ((Below.refl _ _).alloc (Nat.le_refl _) _), ⟨?_⟩⟩
    have := heap_alloc_new ((w.alloc (.cells #[.int .i64 l, .int .i64 s, pv, cv] 46)).alloc (.cells #[.int .i64 l', .int .i64 s', pv', cv'] 46)) (.cells #[.int .i64 a, .int .i64 b] 59)
    rwa [World.size_alloc, World.size_alloc] at this
  have hsm2 : SmallB xs.length cs.length = false ∨ (SmallB xs.length cs.length = true ∧ SmallB xs2.length cs2.length = false) := by
    cases h : SmallB xs.length cs.length
    · exact .inl rfl
    · rcases hsm with hsm | hsm
      · rw [hsm] at h; cases h
      · exact .inr ⟨rfl, hsm⟩
  obtain ⟨pa, pc, rfl, -, -⟩ := hp.sl
  obtain ⟨ca, cc, rfl, -, -⟩ := hc.sl
  obtain ⟨ra, rc, rfl, -, -⟩ := hp'.sl
  obtain ⟨da, dc, rfl, -, -⟩ := hc'.sl
  generalize (fvals .f32 xs).length = np at *
  generalize (fvals .f32 cs).length = nc at *
  generalize (fvals .f32 xs2).length = nr at *
  generalize (fvals .f32 cs2).length = nd at *
  generalize SmallB xs.length cs.length = B1 at *
  generalize SmallB xs2.length cs2.length = B2 at *
  clear hp hc hp' hc' hsm ht
  rcases hsm2 with rfl | ⟨rfl, rfl⟩
  all_goals
    go_enter Tryd.func5, Tryd.ntmps5
    go_wp2_with fail
    obtain ⟨W0, hW0⟩ : ∃ W0, W0 = ((w.alloc (.cells #[.int .i64 l, .int .i64 s, .slice pa np pc, .slice ca nc cc] 46)).alloc (.cells #[.int .i64 l', .int .i64 s', .slice ra nr rc, .slice da nd dc] 46)).alloc (.cells #[.int .i64 a, .int .i64 b] 59) := ⟨_, rfl⟩
    have SC0 := Lib.hid (HS0.out W0 hW0).1
    have BY0 := Lib.hid (HS0.out W0 hW0).2
    rw [← hW0]
    clear hW0 HS0
    refine (CA.out _ SC0.out).mono ?_
    rintro e w1 ⟨rfl, hb⟩
    have SC1 := Lib.hid (SC0.out.next hb)
    have BY1 := Lib.hid (BY0.out.next hb)
    clear hb SC0 BY0 CA
    obtain ⟨k0, k1, k2, k3, kl⟩ := four_cells SC1.out.b0
    obtain ⟨j0, j1, j2, j3, jl⟩ := four_cells SC1.out.b1
  · go_wp2_with fail
    refine (CS1.out _ SC1.out).mono ?_
    rintro e w2 ⟨rfl, hb⟩
    have SC2 := Lib.hid (SC1.out.next hb)
    clear hb SC1 k0 k1 k2 k3 kl j0 j1 j2 j3 jl
    go_wp2_with fail
    go_ret
    exact ⟨rfl, SC2.out.hb⟩
  · go_wp2_with fail
    refine (CS1.out _ SC1.out).mono ?_
    rintro e w2 ⟨rfl, hb⟩
    have SC2 := Lib.hid (SC1.out.next hb)
    have BY2 := Lib.hid (BY1.out.next hb)
    clear hb SC1 BY1 k0 k1 k2 k3 kl j0 j1 j2 j3 jl
    obtain ⟨k0, k1, k2, k3, kl⟩ := four_cells SC2.out.b0
    obtain ⟨j0, j1, j2, j3, jl⟩ := four_cells SC2.out.b1
    go_wp2_with fail
    refine (CS2.out _ SC2.out).mono ?_
    rintro e w3 ⟨rfl, hb⟩
    have SC3 := Lib.hid (SC2.out.next hb)
    have BY3 := Lib.hid (BY2.out.next hb)
    clear hb SC2 BY2 k0 k1 k2 k3 kl j0 j1 j2 j3 jl CS1 CS2
    go_wp2_with fail
    go_ret
    exact ⟨rfl, SC3.out.hb⟩

set_option maxRecDepth 100000 in
set_option maxHeartbeats 40000000 in
theorem adds_short (l s l' s' : Int) (pv cv pv' cv' : Value) (xs cs xs2 cs2 : List Nat) (a b : Int) (w : World) (hp : Fls .f32 xs w pv) (hc : Fls .f32 cs w cv) (hp' : Fls .f32 xs2 w pv') (hc' : Fls .f32 cs2 w cv') (hl : I64 l) (hs : I64 s) (hl' : I64 l') (hs' : I64 s')
    (hz : ∀ z ∈ pairsOf xs, z.1 < 2 ^ 32 ∧ z.2 < 2 ^ 32) (hy : ∀ z ∈ pairsOf xs2, z.1 < 2 ^ 32 ∧ z.2 < 2 ^ 32) (hs1 : SmallB xs.length cs.length = true) (hs2 : SmallB xs2.length cs2.length = true) (ht : Tab w) :
    Calls Tryd.prog 5 #[.agg #[.int .i64 l, .int .i64 s, pv, cv], .agg #[.int .i64 l', .int .i64 s', pv', cv'], .agg #[.int .i64 a, .int .i64 b]] w fun e w' => e = .returned (.bool true) ∧ Below w.heap.size w w' := by
  have CA := Lib.hid (fun W (h : Sc2 l s pv cv l' s' pv' cv' xs cs xs2 cs2 w W) => awake_any W (ht.below h.hb))
  have CS1 := Lib.hid (fun W (h : Sc2 l s pv cv l' s' pv' cv' xs cs xs2 cs2 w W) => Small_any l s pv cv xs cs W h.p h.c)
  have CS2 := Lib.hid (fun W (h : Sc2 l s pv cv l' s' pv' cv' xs cs xs2 cs2 w W) => Small_any l' s' pv' cv' xs2 cs2 W h.p' h.c')
  have HS0 : Hid (∀ W0, W0 = ((w.alloc (.cells #[.int .i64 l, .int .i64 s, pv, cv] 46)).alloc (.cells #[.int .i64 l', .int .i64 s', pv', cv'] 46)).alloc (.cells #[.int .i64 a, .int .i64 b] 59) → Sc2 l s pv cv l' s' pv' cv' xs cs xs2 cs2 w W0 ∧ ByIn a b (w.heap.size + 1 + 1) W0) := by
    rintro W0 rfl
    refine ⟨(Sc2.start hp hc hp' hc').next ((Below.refl _ _).alloc (Nat.le_refl _) _), ⟨?_⟩⟩
    have := heap_alloc_new ((w.alloc (.cells #[.int .i64 l, .int .i64 s, pv, cv] 46)).alloc (.cells #[.int .i64 l', .int .i64 s', pv', cv'] 46)) (.cells #[.int .i64 a, .int .i64 b] 59)
    rwa [World.size_alloc, World.size_alloc] at this
  rw [hs1] at CS1
  rw [hs2] at CS2
  have hlen : xs.length ≤ 100000 := by
    unfold SmallB at hs1
    simp at hs1
    omega
  have hlen2 : xs2.length ≤ 100000 := by
    unfold SmallB at hs2
    simp at hs2
    omega
  have CI := Lib.hid (fun W (h : Fls .f32 xs W pv) => lawImage_any l s pv cv xs W h hlen)
  have CJ := Lib.hid (fun W (h : Fls .f32 xs2 W pv') => lawImage_any l' s' pv' cv' xs2 W h hlen2)
  have CR := Lib.hid (fun W v (hv : Smp .f32 (pairsOf xs) W v) => refCheckImage_any l s v (pairsOf xs) W hv.sl)
  have CQ := Lib.hid (fun W v (hv : Smp .f32 (pairsOf xs2) W v) => refCheckImage_any l' s' v (pairsOf xs2) W hv.sl)
  have CW1 := Lib.hid (fun w => Within_any a (-64) 64 w)
  have CW2 := Lib.hid (fun w => Within_any b (-64) 64 w)
  obtain ⟨la, sa, A, EA, hA, hRA⟩ := adds_E l s l' s' (pairsOf xs) (pairsOf xs2) hl hs hl' hs' hz hy
  obtain ⟨ls, ss, B, ES, hS, hRS⟩ := shift_E l s (pairsOf xs) a b hl hs hz
  have CAd := Lib.hid hA
  have CSh := Lib.hid hS
  have HRA := Lib.hid hRA
  have HRS := Lib.hid hRS
  have CNo := Lib.hid noImage_any
  clear hA hRA hS hRS
  generalize (dataErr .f32 2047 l s (pairsOf xs)).1 = D1 at *
  generalize (dataErr .f32 2047 l s (pairsOf xs)).2 = D2 at *
  generalize (dataErr .f32 2047 l' s' (pairsOf xs2)).1 = K1 at *
  generalize (dataErr .f32 2047 l' s' (pairsOf xs2)).2 = K2 at *
  generalize pairsOf xs = zs at *
  generalize pairsOf xs2 = ys at *
  obtain ⟨pa, pc, rfl, -, -⟩ := hp.sl
  obtain ⟨ca, cc, rfl, -, -⟩ := hc.sl
  obtain ⟨ra, rc, rfl, -, -⟩ := hp'.sl
  obtain ⟨da, dc, rfl, -, -⟩ := hc'.sl
  generalize (fvals .f32 xs).length = np at *
  generalize (fvals .f32 cs).length = nc at *
  generalize (fvals .f32 xs2).length = nr at *
  generalize (fvals .f32 cs2).length = nd at *
  clear hp hc hp' hc' hs1 hs2 ht hlen hlen2 hz hy hl hs hl' hs'
  go_enter Tryd.func5, Tryd.ntmps5
  go_wp2_with fail
  obtain ⟨W0, hW0⟩ : ∃ W0, W0 = ((w.alloc (.cells #[.int .i64 l, .int .i64 s, .slice pa np pc, .slice ca nc cc] 46)).alloc (.cells #[.int .i64 l', .int .i64 s', .slice ra nr rc, .slice da nd dc] 46)).alloc (.cells #[.int .i64 a, .int .i64 b] 59) := ⟨_, rfl⟩
  have SC0 := Lib.hid (HS0.out W0 hW0).1
  have BY0 := Lib.hid (HS0.out W0 hW0).2
  rw [← hW0]
  clear hW0 HS0
  refine (CA.out _ SC0.out).mono ?_
  rintro e w1 ⟨rfl, hb⟩
  have SC1 := Lib.hid (SC0.out.next hb)
  have BY1 := Lib.hid (BY0.out.next hb)
  clear hb SC0 BY0 CA
  obtain ⟨k0, k1, k2, k3, kl⟩ := four_cells SC1.out.b0
  obtain ⟨j0, j1, j2, j3, jl⟩ := four_cells SC1.out.b1
  go_wp2_with fail
  refine (CS1.out _ SC1.out).mono ?_
  rintro e w2 ⟨rfl, hb⟩
  have SC2 := Lib.hid (SC1.out.next hb)
  have BY2 := Lib.hid (BY1.out.next hb)
  clear hb SC1 BY1 k0 k1 k2 k3 kl j0 j1 j2 j3 jl
  obtain ⟨k0, k1, k2, k3, kl⟩ := four_cells SC2.out.b0
  obtain ⟨j0, j1, j2, j3, jl⟩ := four_cells SC2.out.b1
  go_wp2_with fail
  refine (CS2.out _ SC2.out).mono ?_
  rintro e w3 ⟨rfl, hb⟩
  have SC3 := Lib.hid (SC2.out.next hb)
  have BY3 := Lib.hid (BY2.out.next hb)
  clear hb SC2 BY2 k0 k1 k2 k3 kl j0 j1 j2 j3 jl CS1 CS2
  obtain ⟨k0, k1, k2, k3, kl⟩ := four_cells SC3.out.b0
  obtain ⟨j0, j1, j2, j3, jl⟩ := four_cells SC3.out.b1
  have CI3 := Lib.hid (fun W (h : Below w3.heap.size w3 W) => CI.out W (SC3.out.p.below h))
  have CJ3 := Lib.hid (fun W (h : Below w3.heap.size w3 W) => CJ.out W (SC3.out.p'.below h))
  go_wp2_with fail
  go_cut [7, 8] from 15 (fun s1 s2 wx => ∃ b7 av, s1 = .pointer (some ⟨b7, 0, none⟩) ∧ s2 = .int .i64 EA ∧ Hid (w3.heap.size ≤ b7) ∧ Hid (Below w3.heap.size w3 wx) ∧ Hid (IBox la sa av A b7 wx))
  case first =>
    go_region_held3 (fun W => W.cell? ⟨w.heap.size, 0, none⟩ = some (.int .i64 l) ∧ W.cell? ⟨w.heap.size, 1, none⟩ = some (.int .i64 s) ∧ W.cell? ⟨w.heap.size, 2, none⟩ = some (.slice pa np pc) ∧ W.cell? ⟨w.heap.size, 3, none⟩ = some (.slice ca nc cc) ∧ W.cell? ⟨w.heap.size + 1, 0, none⟩ = some (.int .i64 l') ∧ W.cell? ⟨w.heap.size + 1, 1, none⟩ = some (.int .i64 s') ∧ W.cell? ⟨w.heap.size + 1, 2, none⟩ = some (.slice ra nr rc) ∧ W.cell? ⟨w.heap.size + 1, 3, none⟩ = some (.slice da nd dc)) (with_reducible refine ⟨Below.keepc ?_ k0, Below.keepc ?_ k1, Below.keepc ?_ k2, Below.keepc ?_ k3, Below.keepc ?_ j0, Below.keepc ?_ j1, Below.keepc ?_ j2, Below.keepc ?_ j3⟩ <;> (repeat (first | with_reducible exact Below.refl _ _ | with_reducible refine Below.andThen ?_ hbI rfl | with_reducible refine Below.andThen ?_ hbJ rfl | with_reducible refine Below.andThen ?_ hbC rfl | with_reducible refine Below.andThen ?_ hbD rfl | with_reducible refine Below.alloc1 ?_ _ rfl | with_reducible refine Below.drew ?_ | with_reducible refine Below.set3 ?_ (by first | exact Nat.le_refl _ | exact hBI.size | exact hBJ.size | exact hBC.size) _ _ _)) <;> done)
      (first
        | (go_at_call 15; (with_reducible refine (CI3.out _ (by repeat (first | with_reducible exact Below.refl _ _ | with_reducible refine Below.andThen ?_ hbI rfl | with_reducible refine Below.andThen ?_ hbJ rfl | with_reducible refine Below.andThen ?_ hbC rfl | with_reducible refine Below.andThen ?_ hbD rfl | with_reducible refine Below.alloc1 ?_ _ rfl | with_reducible refine Below.drew ?_ | with_reducible refine Below.set3 ?_ (by first | exact Nat.le_refl _ | exact hBI.size | exact hBJ.size | exact hBC.size) _ _ _))).mono ?_); rintro e wI ⟨vI, rfl, hbI, hsI⟩; obtain ⟨iaI, icI, rfl, -, -⟩ := hsI.sl; have hBI : Below w3.heap.size w3 wI := (by repeat (first | with_reducible exact Below.refl _ _ | with_reducible refine Below.andThen ?_ hbI rfl | with_reducible refine Below.andThen ?_ hbJ rfl | with_reducible refine Below.andThen ?_ hbC rfl | with_reducible refine Below.andThen ?_ hbD rfl | with_reducible refine Below.alloc1 ?_ _ rfl | with_reducible refine Below.drew ?_ | with_reducible refine Below.set3 ?_ (by first | exact Nat.le_refl _ | exact hBI.size | exact hBJ.size | exact hBC.size) _ _ _)); first | (have qb := box_after_drew hbI; obtain ⟨q0, q1, q2, f0, f1, f2, ql⟩ := three_cells qb) | (have qb := box_after hbI; obtain ⟨q0, q1, q2, f0, f1, f2, ql⟩ := three_cells qb) | (have qb := (hbI.block _ (lt_of_block qb)).trans qb; obtain ⟨q0, q1, q2, f0, f1, f2, ql⟩ := three_cells qb) | skip)
        | (go_at_call 15; (with_reducible refine (CJ3.out _ (by repeat (first | with_reducible exact Below.refl _ _ | with_reducible refine Below.andThen ?_ hbI rfl | with_reducible refine Below.andThen ?_ hbJ rfl | with_reducible refine Below.andThen ?_ hbC rfl | with_reducible refine Below.andThen ?_ hbD rfl | with_reducible refine Below.alloc1 ?_ _ rfl | with_reducible refine Below.drew ?_ | with_reducible refine Below.set3 ?_ (by first | exact Nat.le_refl _ | exact hBI.size | exact hBJ.size | exact hBC.size) _ _ _))).mono ?_); rintro e wJ ⟨vJ, rfl, hbJ, hsJ⟩; obtain ⟨iaJ, icJ, rfl, -, -⟩ := hsJ.sl; have hBJ : Below w3.heap.size w3 wJ := (by repeat (first | with_reducible exact Below.refl _ _ | with_reducible refine Below.andThen ?_ hbI rfl | with_reducible refine Below.andThen ?_ hbJ rfl | with_reducible refine Below.andThen ?_ hbC rfl | with_reducible refine Below.andThen ?_ hbD rfl | with_reducible refine Below.alloc1 ?_ _ rfl | with_reducible refine Below.drew ?_ | with_reducible refine Below.set3 ?_ (by first | exact Nat.le_refl _ | exact hBI.size | exact hBJ.size | exact hBC.size) _ _ _)); first | (have qb := box_after_drew hbJ; obtain ⟨q0, q1, q2, f0, f1, f2, ql⟩ := three_cells qb) | (have qb := box_after hbJ; obtain ⟨q0, q1, q2, f0, f1, f2, ql⟩ := three_cells qb) | (have qb := (hbJ.block _ (lt_of_block qb)).trans qb; obtain ⟨q0, q1, q2, f0, f1, f2, ql⟩ := three_cells qb) | skip)
        | (go_at_call 14; (with_reducible refine (CAd.out _ _ _ (by repeat (first | exact hsI | exact hsJ | refine Smp.alloc ?_ _ | refine Smp.drew ?_ | refine Smp.below ?_ hbI | refine Smp.below ?_ hbJ)) (by repeat (first | exact hsI | exact hsJ | refine Smp.alloc ?_ _ | refine Smp.drew ?_ | refine Smp.below ?_ hbI | refine Smp.below ?_ hbJ))).mono ?_); rintro e wC ⟨fv, rfl, hbC, hf⟩; obtain ⟨fa, fc, rfl, hfl, -⟩ := hf.sl; have hBC : Below w3.heap.size w3 wC := (by repeat (first | with_reducible exact Below.refl _ _ | with_reducible refine Below.andThen ?_ hbI rfl | with_reducible refine Below.andThen ?_ hbJ rfl | with_reducible refine Below.andThen ?_ hbC rfl | with_reducible refine Below.andThen ?_ hbD rfl | with_reducible refine Below.alloc1 ?_ _ rfl | with_reducible refine Below.drew ?_ | with_reducible refine Below.set3 ?_ (by first | exact Nat.le_refl _ | exact hBI.size | exact hBJ.size | exact hBC.size) _ _ _)); first | (have qb := box_after_drew hbC; obtain ⟨q0, q1, q2, f0, f1, f2, ql⟩ := three_cells qb) | (have qb := box_after hbC; obtain ⟨q0, q1, q2, f0, f1, f2, ql⟩ := three_cells qb) | (have qb := (hbC.block _ (lt_of_block qb)).trans qb; obtain ⟨q0, q1, q2, f0, f1, f2, ql⟩ := three_cells qb) | skip))
    all_goals
      go_wp2_with fail
      go_meet
      case rel =>
        first
          | exact ⟨_, _, rfl, rfl, Lib.hid (by first | exact Nat.le_refl _ | exact hBI.size | exact hBJ.size | exact hBC.size), Lib.hid (by repeat (first | with_reducible exact Below.refl _ _ | with_reducible refine Below.andThen ?_ hbI rfl | with_reducible refine Below.andThen ?_ hbJ rfl | with_reducible refine Below.andThen ?_ hbC rfl | with_reducible refine Below.andThen ?_ hbD rfl | with_reducible refine Below.alloc1 ?_ _ rfl | with_reducible refine Below.drew ?_ | with_reducible refine Below.set3 ?_ (by first | exact Nat.le_refl _ | exact hBI.size | exact hBJ.size | exact hBC.size) _ _ _)), Lib.hid (IBox.born hf)⟩
          | exact ⟨_, _, rfl, rfl, Lib.hid (by first | exact Nat.le_refl _ | exact hBI.size | exact hBJ.size | exact hBC.size), Lib.hid (Below.set3 hBC (by first | exact Nat.le_refl _ | exact hBI.size | exact hBJ.size | exact hBC.size) _ _ _), Lib.hid (IBox.made qb hf)⟩
  obtain ⟨b7, av, rfl, rfl, LEb7, HBn, BXb7⟩ := hcut
  obtain ⟨w5, rfl⟩ : ∃ w5 : World, w5 = wc := ⟨_, rfl⟩
  have SC5 := Lib.hid (SC3.out.next HBn.out)
  have BY5 := Lib.hid (BY3.out.next HBn.out)
  have BA5 := BXb7
  clear HBn BXb7 LEb7 SC3 BY3 CI3 CJ3 CAd k0 k1 k2 k3 kl j0 j1 j2 j3 jl
  obtain ⟨k0, k1, k2, k3, kl⟩ := four_cells SC5.out.b0
  obtain ⟨y0, y1, -, -, yl⟩ := two_cells BY5.out.blk
  have CI5 := Lib.hid (fun W (h : Below w5.heap.size w5 W) => CI.out W (SC5.out.p.below h))
  go_wp2_with fail
  go_cut [9, 10] from 15 (fun s1 s2 wx => ∃ b9 bv, s1 = .pointer (some ⟨b9, 0, none⟩) ∧ s2 = .int .i64 ES ∧ Hid (w5.heap.size ≤ b9) ∧ Hid (Below w5.heap.size w5 wx) ∧ Hid (IBox ls ss bv B b9 wx))
  case first =>
    go_region_held3 (fun W => W.cell? ⟨w.heap.size, 0, none⟩ = some (.int .i64 l) ∧ W.cell? ⟨w.heap.size, 1, none⟩ = some (.int .i64 s) ∧ W.cell? ⟨w.heap.size, 2, none⟩ = some (.slice pa np pc) ∧ W.cell? ⟨w.heap.size, 3, none⟩ = some (.slice ca nc cc) ∧ W.cell? ⟨w.heap.size + 1 + 1, 0, none⟩ = some (.int .i64 a) ∧ W.cell? ⟨w.heap.size + 1 + 1, 1, none⟩ = some (.int .i64 b)) (with_reducible refine ⟨Below.keepc ?_ k0, Below.keepc ?_ k1, Below.keepc ?_ k2, Below.keepc ?_ k3, Below.keepc ?_ y0, Below.keepc ?_ y1⟩ <;> (repeat (first | with_reducible exact Below.refl _ _ | with_reducible refine Below.andThen ?_ hbI rfl | with_reducible refine Below.andThen ?_ hbJ rfl | with_reducible refine Below.andThen ?_ hbC rfl | with_reducible refine Below.andThen ?_ hbD rfl | with_reducible refine Below.alloc1 ?_ _ rfl | with_reducible refine Below.drew ?_ | with_reducible refine Below.set3 ?_ (by first | exact Nat.le_refl _ | exact hBI.size | exact hBJ.size | exact hBC.size) _ _ _)) <;> done)
      (first
        | (go_at_call 15; (with_reducible refine (CI5.out _ (by repeat (first | with_reducible exact Below.refl _ _ | with_reducible refine Below.andThen ?_ hbI rfl | with_reducible refine Below.andThen ?_ hbJ rfl | with_reducible refine Below.andThen ?_ hbC rfl | with_reducible refine Below.andThen ?_ hbD rfl | with_reducible refine Below.alloc1 ?_ _ rfl | with_reducible refine Below.drew ?_ | with_reducible refine Below.set3 ?_ (by first | exact Nat.le_refl _ | exact hBI.size | exact hBJ.size | exact hBC.size) _ _ _))).mono ?_); rintro e wI ⟨vI, rfl, hbI, hsI⟩; obtain ⟨iaI, icI, rfl, -, -⟩ := hsI.sl; have hBI : Below w5.heap.size w5 wI := (by repeat (first | with_reducible exact Below.refl _ _ | with_reducible refine Below.andThen ?_ hbI rfl | with_reducible refine Below.andThen ?_ hbJ rfl | with_reducible refine Below.andThen ?_ hbC rfl | with_reducible refine Below.andThen ?_ hbD rfl | with_reducible refine Below.alloc1 ?_ _ rfl | with_reducible refine Below.drew ?_ | with_reducible refine Below.set3 ?_ (by first | exact Nat.le_refl _ | exact hBI.size | exact hBJ.size | exact hBC.size) _ _ _)); first | (have qb := box_after_drew hbI; obtain ⟨q0, q1, q2, f0, f1, f2, ql⟩ := three_cells qb) | (have qb := box_after hbI; obtain ⟨q0, q1, q2, f0, f1, f2, ql⟩ := three_cells qb) | (have qb := (hbI.block _ (lt_of_block qb)).trans qb; obtain ⟨q0, q1, q2, f0, f1, f2, ql⟩ := three_cells qb) | skip)
        | (go_at_call 18; (with_reducible refine (CSh.out _ _ (by repeat (first | exact hsI | exact hsJ | refine Smp.alloc ?_ _ | refine Smp.drew ?_ | refine Smp.below ?_ hbI | refine Smp.below ?_ hbJ))).mono ?_); rintro e wC ⟨fv, rfl, hbC, hf⟩; obtain ⟨fa, fc, rfl, hfl, -⟩ := hf.sl; have hBC : Below w5.heap.size w5 wC := (by repeat (first | with_reducible exact Below.refl _ _ | with_reducible refine Below.andThen ?_ hbI rfl | with_reducible refine Below.andThen ?_ hbJ rfl | with_reducible refine Below.andThen ?_ hbC rfl | with_reducible refine Below.andThen ?_ hbD rfl | with_reducible refine Below.alloc1 ?_ _ rfl | with_reducible refine Below.drew ?_ | with_reducible refine Below.set3 ?_ (by first | exact Nat.le_refl _ | exact hBI.size | exact hBJ.size | exact hBC.size) _ _ _)); first | (have qb := box_after_drew hbC; obtain ⟨q0, q1, q2, f0, f1, f2, ql⟩ := three_cells qb) | (have qb := box_after hbC; obtain ⟨q0, q1, q2, f0, f1, f2, ql⟩ := three_cells qb) | (have qb := (hbC.block _ (lt_of_block qb)).trans qb; obtain ⟨q0, q1, q2, f0, f1, f2, ql⟩ := three_cells qb) | skip))
    all_goals
      go_wp2_with fail
      go_meet
      case rel =>
        first
          | exact ⟨_, _, rfl, rfl, Lib.hid (by first | exact Nat.le_refl _ | exact hBI.size | exact hBJ.size | exact hBC.size), Lib.hid (by repeat (first | with_reducible exact Below.refl _ _ | with_reducible refine Below.andThen ?_ hbI rfl | with_reducible refine Below.andThen ?_ hbJ rfl | with_reducible refine Below.andThen ?_ hbC rfl | with_reducible refine Below.andThen ?_ hbD rfl | with_reducible refine Below.alloc1 ?_ _ rfl | with_reducible refine Below.drew ?_ | with_reducible refine Below.set3 ?_ (by first | exact Nat.le_refl _ | exact hBI.size | exact hBJ.size | exact hBC.size) _ _ _)), Lib.hid (IBox.born hf)⟩
          | exact ⟨_, _, rfl, rfl, Lib.hid (by first | exact Nat.le_refl _ | exact hBI.size | exact hBJ.size | exact hBC.size), Lib.hid (Below.set3 hBC (by first | exact Nat.le_refl _ | exact hBI.size | exact hBJ.size | exact hBC.size) _ _ _), Lib.hid (IBox.made qb hf)⟩
  obtain ⟨b9, bv, rfl, rfl, LEb9, HBn, BXb9⟩ := hcut
  obtain ⟨w6, rfl⟩ : ∃ w6 : World, w6 = wc := ⟨_, rfl⟩
  have SC6 := Lib.hid (SC5.out.next HBn.out)
  have BY6 := Lib.hid (BY5.out.next HBn.out)
  have BA6 := Lib.hid (BA5.out.next HBn.out)
  have BB6 := BXb9
  clear HBn BXb9 LEb9 SC5 BY5 BA5 CI5 CSh k0 k1 k2 k3 kl y0 y1 yl
  obtain ⟨k0, k1, k2, k3, kl⟩ := four_cells SC6.out.b0
  go_wp2_with fail
  refine (CI.out _ SC6.out.p).mono ?_
  rintro e w7 ⟨v7, rfl, hb, hsv⟩
  have SC7 := Lib.hid (SC6.out.next hb)
  have BY7 := Lib.hid (BY6.out.next hb)
  have BA7 := Lib.hid (BA6.out.next hb)
  have BB7 := Lib.hid (BB6.out.next hb)
  have V7 := Lib.hid hsv
  clear hb hsv SC6 BY6 BA6 BB6 k0 k1 k2 k3 kl
  obtain ⟨va7, vc7, rfl, -, -⟩ := V7.out.sl
  go_wp2_with fail
  refine (CR.out _ _ V7.out).mono ?_
  rintro e w8 ⟨rfl, hb⟩
  have SC8 := Lib.hid (SC7.out.next hb)
  have BY8 := Lib.hid (BY7.out.next hb)
  have BA8 := Lib.hid (BA7.out.next hb)
  have BB8 := Lib.hid (BB7.out.next hb)
  clear hb V7 SC7 BY7 BA7 BB7
  obtain ⟨k0, k1, k2, k3, kl⟩ := four_cells SC8.out.b0
  obtain ⟨y0, y1, -, -, yl⟩ := two_cells BY8.out.blk
  obtain ⟨ba, bc, hbv, -, -⟩ := BB8.out.smp.sl
  obtain ⟨nb, hnb⟩ : ∃ nb, nb = (cvals .f32 B).length := ⟨_, rfl⟩
  rw [← hnb] at hbv
  subst hbv
  have HNB := Lib.hid hnb
  obtain ⟨g0, g1, g2, -, -, -, gl⟩ := three_cells BB8.out.blk
  have CI8 := Lib.hid (fun W (h : Below w8.heap.size w8 W) => CI.out W (SC8.out.p.below h))
  clear hnb
  have HRS2 : (D2 ≠ 0 ∧ ls = 0 ∧ ss = 0 ∧ B = [] ∧ ES = D2) ∨ (D2 = 0 ∧ ¬ (-64 ≤ a ∧ a ≤ 64) ∧ ls = 0 ∧ ss = 0 ∧ B = [] ∧ ES = 2) ∨ (D2 = 0 ∧ (-64 ≤ a ∧ a ≤ 64) ∧ ¬ (-64 ≤ b ∧ b ≤ 64) ∧ ls = 0 ∧ ss = 0 ∧ B = [] ∧ ES = 2) ∨
       (D2 = 0 ∧ (-64 ≤ a ∧ a ≤ 64) ∧ (-64 ≤ b ∧ b ≤ 64) ∧ ES = 0 ∧ Hid (∀ W v, Smp .f32 zs W v → Calls Tryd.prog 22 #[.agg #[.int .i64 l, .int .i64 s, v], .agg #[.int .i64 a, .int .i64 b]] W (ImgR ls ss B W))) := HRS.out
  have HRA2 : (D2 ≠ 0 ∧ la = 0 ∧ sa = 0 ∧ A = [] ∧ EA = D2) ∨ (D2 = 0 ∧ K2 ≠ 0 ∧ la = 0 ∧ sa = 0 ∧ A = [] ∧ EA = K2) ∨
       (D2 = 0 ∧ K2 = 0 ∧ Hid (∀ W v u, Smp .f32 zs W v → Smp .f32 ys W u → Calls Tryd.prog 23 #[.agg #[.int .i64 l, .int .i64 s, v], .agg #[.int .i64 l', .int .i64 s', u]] W (ImgE la sa A EA W))) := HRA.out
  clear HRS HRA
  rcases HRS2 with ⟨hD, rfl, rfl, rfl, hES⟩ | ⟨hD, h1, rfl, rfl, rfl, hES⟩ | ⟨hD, h1, h2, rfl, rfl, rfl, hES⟩ | ⟨hD, h1, h2, hES, CRS⟩
  · subst hES
    have hd1 : (ES == 0) = false := by rw [beq_eq_false_iff_ne]; exact hD
    have hd2 : (ES != 0) = true := by rw [bne_iff_ne]; exact hD
    have hn0 : nb = 0 := HNB.out
    subst hn0
    go_wp2_with fail
    go_cut [89] from 15 (fun s1 wx => s1 = .bool false ∧ Hid (Below w8.heap.size w8 wx))
    case first =>
      clear HRA2 CJ CQ CR CI CW1 CW2
      refine wp_region_held_drew (S := (fun W => W.cell? ⟨b9, 0, none⟩ = some (.int .i64 0) ∧ W.cell? ⟨b9, 1, none⟩ = some (.int .i64 0) ∧ W.cell? ⟨b9, 2, none⟩ = some (.slice ba 0 bc))) (by kernel_rfl) ?_ (fun hHeld => ?_)
      · (with_reducible refine ⟨Below.keepc ?_ g0, Below.keepc ?_ g1, Below.keepc ?_ g2⟩ <;> (repeat (first | with_reducible exact Below.refl _ _ | with_reducible refine Below.andThen ?_ hbI rfl | with_reducible refine Below.andThen ?_ hbJ rfl | with_reducible refine Below.andThen ?_ hbC rfl | with_reducible refine Below.andThen ?_ hbD rfl | with_reducible refine Below.alloc1 ?_ _ rfl | with_reducible refine Below.drew ?_ | with_reducible refine Below.set3 ?_ (by first | exact Nat.le_refl _ | exact hBI.size | exact hBJ.size | exact hBC.size) _ _ _)) <;> done)
      refine wpAnyH_take (i := 0) (oi := { dst := some 61, op := Op.move (Operand.tmp 12), type := 3, pos := "law.go:394", after := #[], guard := none }) (v := ?_) rfl (by kernel_rfl) (by kernel_rfl) (by kernel_rfl) (fun _ _ _ h => h) (Or.inl ⟨by rfl, ?_⟩) (by assumption) ?_
      rotate_left 1
      · intro W hSw
        (try dsimp only at hSw)
        go_simp
        try with_reducible rfl
      (try simp only [Act.put, List.setIfInBounds_toArray, List.set_cons_zero, List.set_cons_succ])
      refine wpAnyH_take (i := 1) (oi := { dst := some 62, op := Op.binOp BinOp.neq 3 (Operand.tmp 61) (Operand.const (Value.int IntKind.i64 0)) 3, type := 4, pos := "law.go:394", after := #[{ on := 0, ground := Ground.data }], guard := none }) (v := ?_) rfl (by kernel_rfl) (by kernel_rfl) (by kernel_rfl) (fun _ _ _ h => h) (Or.inl ⟨by rfl, ?_⟩) (by assumption) ?_
      rotate_left 1
      · intro W hSw
        (try dsimp only at hSw)
        go_simp
        try with_reducible rfl
      (try simp only [Act.put, List.setIfInBounds_toArray, List.set_cons_zero, List.set_cons_succ])
      refine wpAnyH_take (i := 2) (oi := { dst := some 63, op := Op.move (Operand.tmp 62), type := 4, pos := "law.go:394", after := #[{ on := 1, ground := Ground.data }], guard := none }) (v := ?_) rfl (by kernel_rfl) (by kernel_rfl) (by kernel_rfl) (fun _ _ _ h => h) (Or.inl ⟨by rfl, ?_⟩) (by assumption) ?_
      rotate_left 1
      · intro W hSw
        (try dsimp only at hSw)
        go_simp
        try with_reducible rfl
      (try simp only [Act.put, List.setIfInBounds_toArray, List.set_cons_zero, List.set_cons_succ])
      refine wpAnyH_take (i := 3) (oi := { dst := some 64, op := Op.move (Operand.tmp 10), type := 32, pos := "law.go:394", after := #[{ on := 2, ground := Ground.guard }], guard := some (2, true) }) (v := ?_) rfl (by kernel_rfl) (by kernel_rfl) (by kernel_rfl) (fun _ _ _ h => h) (Or.inl ⟨by rfl, ?_⟩) (by assumption) ?_
      rotate_left 1
      · intro W hSw
        (try dsimp only at hSw)
        go_simp
        try with_reducible rfl
      (try simp only [Act.put, List.setIfInBounds_toArray, List.set_cons_zero, List.set_cons_succ])
      refine wpAnyH_take (i := 4) (oi := { dst := some 65, op := Op.move (Operand.tmp 12), type := 3, pos := "law.go:394", after := #[{ on := 2, ground := Ground.guard }], guard := some (2, true) }) (v := ?_) rfl (by kernel_rfl) (by kernel_rfl) (by kernel_rfl) (fun _ _ _ h => h) (Or.inl ⟨by rfl, ?_⟩) (by assumption) ?_
      rotate_left 1
      · intro W hSw
        (try dsimp only at hSw)
        go_simp
        try with_reducible rfl
      (try simp only [Act.put, List.setIfInBounds_toArray, List.set_cons_zero, List.set_cons_succ])
      refine wpAnyH_take (i := 5) (oi := { dst := some 66, op := Op.binOp BinOp.neq 3 (Operand.tmp 64) (Operand.tmp 65) 3, type := 4, pos := "law.go:394", after := #[{ on := 3, ground := Ground.data }, { on := 4, ground := Ground.data }, { on := 2, ground := Ground.guard }], guard := some (2, true) }) (v := ?_) rfl (by kernel_rfl) (by kernel_rfl) (by kernel_rfl) (fun _ _ _ h => h) (Or.inl ⟨by rfl, ?_⟩) (by assumption) ?_
      rotate_left 1
      · intro W hSw
        (try dsimp only at hSw)
        go_simp
        try with_reducible rfl
      (try simp only [Act.put, List.setIfInBounds_toArray, List.set_cons_zero, List.set_cons_succ])
      refine wpAnyH_take (i := 6) (oi := { dst := some 67, op := Op.move (Operand.tmp 66), type := 4, pos := "law.go:394", after := #[{ on := 5, ground := Ground.data }, { on := 2, ground := Ground.chain }, { on := 2, ground := Ground.guard }], guard := some (2, true) }) (v := ?_) rfl (by kernel_rfl) (by kernel_rfl) (by kernel_rfl) (fun _ _ _ h => h) (Or.inl ⟨by rfl, ?_⟩) (by assumption) ?_
      rotate_left 1
      · intro W hSw
        (try dsimp only at hSw)
        go_simp
        try with_reducible rfl
      (try simp only [Act.put, List.setIfInBounds_toArray, List.set_cons_zero, List.set_cons_succ])
      refine wpAnyH_take (i := 7) (oi := { dst := some 68, op := Op.load 50 (Operand.tmp 9), type := 50, pos := "law.go:394", after := #[{ on := 6, ground := Ground.guard }], guard := some (6, false) }) (v := ?_) rfl (by kernel_rfl) (by kernel_rfl) (by kernel_rfl) (fun _ _ _ h => h) (Or.inl ⟨by rfl, ?_⟩) (by assumption) ?_
      rotate_left 1
      · intro W hSw
        (try dsimp only at hSw)
        go_simp
        try with_reducible rfl
      (try simp only [Act.put, List.setIfInBounds_toArray, List.set_cons_zero, List.set_cons_succ])
      refine wpAnyH_ready (rs := [8]) (by kernel_rfl) (by simp) ?_
      refine AllReadyH.cons (o := { dst := some 69, op := Op.call { callee := Callee.value (Operand.func 20), args := #[Operand.tmp 68], argTypes := #[50] }, type := 4, pos := "law.go:394", after := #[{ on := 7, ground := Ground.data }, { on := 6, ground := Ground.chain }, { on := 6, ground := Ground.guard }], guard := some (6, false) }) rfl (fun K hK => ?_) AllReadyH.nil
      go_simp
      go_at_call 20; (with_reducible refine (CNo.out ba bc _).mono ?_); rintro e wI ⟨rfl, hbI⟩; have hBI : Below w8.heap.size w8 wI := (by repeat (first | with_reducible exact Below.refl _ _ | with_reducible refine Below.andThen ?_ hbI rfl | with_reducible refine Below.andThen ?_ hbJ rfl | with_reducible refine Below.andThen ?_ hbC rfl | with_reducible refine Below.andThen ?_ hbD rfl | with_reducible refine Below.alloc1 ?_ _ rfl | with_reducible refine Below.drew ?_ | with_reducible refine Below.set3 ?_ (by first | exact Nat.le_refl _ | exact hBI.size | exact hBJ.size | exact hBC.size) _ _ _))
      refine hK.out _ _ ?_ (fun hHeld => ?_)
      · (with_reducible refine ⟨Below.keepc ?_ g0, Below.keepc ?_ g1, Below.keepc ?_ g2⟩ <;> (repeat (first | with_reducible exact Below.refl _ _ | with_reducible refine Below.andThen ?_ hbI rfl | with_reducible refine Below.andThen ?_ hbJ rfl | with_reducible refine Below.andThen ?_ hbC rfl | with_reducible refine Below.andThen ?_ hbD rfl | with_reducible refine Below.alloc1 ?_ _ rfl | with_reducible refine Below.drew ?_ | with_reducible refine Below.set3 ?_ (by first | exact Nat.le_refl _ | exact hBI.size | exact hBJ.size | exact hBC.size) _ _ _)) <;> done)
      clear hK K
      (try simp only [Act.put, List.setIfInBounds_toArray, List.set_cons_zero, List.set_cons_succ])
      refine wpAnyH_take (i := 9) (oi := { dst := some 70, op := Op.unOp UnOp.not 4 (Operand.tmp 69), type := 4, pos := "law.go:394", after := #[{ on := 8, ground := Ground.data }, { on := 6, ground := Ground.guard }], guard := some (6, false) }) (v := ?_) rfl (by kernel_rfl) (by kernel_rfl) (by kernel_rfl) (fun _ _ _ h => h) (Or.inl ⟨by rfl, ?_⟩) (by assumption) ?_
      rotate_left 1
      · intro W hSw
        (try dsimp only at hSw)
        go_simp
        try with_reducible rfl
      (try simp only [Act.put, List.setIfInBounds_toArray, List.set_cons_zero, List.set_cons_succ])
      refine wpAnyH_take (i := 10) (oi := { dst := some 71, op := Op.pick (Operand.tmp 67) (Operand.const (Value.bool true)) (Operand.tmp 70), type := 4, pos := "law.go:394", after := #[{ on := 6, ground := Ground.data }, { on := 9, ground := Ground.data }, { on := 2, ground := Ground.guard }], guard := some (2, true) }) (v := ?_) rfl (by kernel_rfl) (by kernel_rfl) (by kernel_rfl) (fun _ _ _ h => h) (Or.inl ⟨by rfl, ?_⟩) (by assumption) ?_
      rotate_left 1
      · intro W hSw
        (try dsimp only at hSw)
        go_simp
        try with_reducible rfl
      (try simp only [Act.put, List.setIfInBounds_toArray, List.set_cons_zero, List.set_cons_succ])
      refine wpAnyH_take (i := 11) (oi := { dst := some 72, op := Op.pick (Operand.tmp 63) (Operand.tmp 71) (Operand.const (Value.bool false)), type := 4, pos := "law.go:394", after := #[{ on := 2, ground := Ground.data }, { on := 10, ground := Ground.data }], guard := none }) (v := ?_) rfl (by kernel_rfl) (by kernel_rfl) (by kernel_rfl) (fun _ _ _ h => h) (Or.inl ⟨by rfl, ?_⟩) (by assumption) ?_
      rotate_left 1
      · intro W hSw
        (try dsimp only at hSw)
        go_simp
        try with_reducible rfl
      (try simp only [Act.put, List.setIfInBounds_toArray, List.set_cons_zero, List.set_cons_succ])
      refine wpAnyH_take (i := 12) (oi := { dst := some 73, op := Op.move (Operand.tmp 72), type := 4, pos := "law.go:394", after := #[{ on := 11, ground := Ground.data }, { on := 8, ground := Ground.chain }], guard := none }) (v := ?_) rfl (by kernel_rfl) (by kernel_rfl) (by kernel_rfl) (fun _ _ _ h => h) (Or.inl ⟨by rfl, ?_⟩) (by assumption) ?_
      rotate_left 1
      · intro W hSw
        (try dsimp only at hSw)
        go_simp
        try with_reducible rfl
      (try simp only [Act.put, List.setIfInBounds_toArray, List.set_cons_zero, List.set_cons_succ])
      refine wpAnyH_take (i := 13) (oi := { dst := some 74, op := Op.move (Operand.tmp 12), type := 3, pos := "law.go:394", after := #[{ on := 12, ground := Ground.guard }], guard := some (12, false) }) (v := ?_) rfl (by kernel_rfl) (by kernel_rfl) (by kernel_rfl) (fun _ _ _ h => h) (Or.inl ⟨by rfl, ?_⟩) (by assumption) ?_
      rotate_left 1
      · intro W hSw
        (try dsimp only at hSw)
        go_simp
        try with_reducible rfl
      (try simp only [Act.put, List.setIfInBounds_toArray, List.set_cons_zero, List.set_cons_succ])
      refine wpAnyH_take (i := 14) (oi := { dst := some 75, op := Op.binOp BinOp.eql 3 (Operand.tmp 74) (Operand.const (Value.int IntKind.i64 0)) 3, type := 4, pos := "law.go:394", after := #[{ on := 13, ground := Ground.data }, { on := 12, ground := Ground.guard }], guard := some (12, false) }) (v := ?_) rfl (by kernel_rfl) (by kernel_rfl) (by kernel_rfl) (fun _ _ _ h => h) (Or.inl ⟨by rfl, ?_⟩) (by assumption) ?_
      rotate_left 1
      · intro W hSw
        (try dsimp only at hSw)
        go_simp
        try with_reducible rfl
      (try simp only [Act.put, List.setIfInBounds_toArray, List.set_cons_zero, List.set_cons_succ])
      refine wpAnyH_take (i := 15) (oi := { dst := some 76, op := Op.move (Operand.tmp 75), type := 4, pos := "law.go:394", after := #[{ on := 14, ground := Ground.data }, { on := 12, ground := Ground.chain }, { on := 12, ground := Ground.guard }], guard := some (12, false) }) (v := ?_) rfl (by kernel_rfl) (by kernel_rfl) (by kernel_rfl) (fun _ _ _ h => h) (Or.inl ⟨by rfl, ?_⟩) (by assumption) ?_
      rotate_left 1
      · intro W hSw
        (try dsimp only at hSw)
        go_simp
        try with_reducible rfl
      (try simp only [Act.put, List.setIfInBounds_toArray, List.set_cons_zero, List.set_cons_succ])
      refine wpAnyH_take (i := 16) (oi := { dst := some 77, op := Op.move (Operand.tmp 10), type := 32, pos := "law.go:394", after := #[{ on := 15, ground := Ground.guard }], guard := some (15, true) }) (v := undef) rfl (by kernel_rfl) (by kernel_rfl) (by kernel_rfl) (fun _ _ _ h => h) (Or.inr ⟨by rfl, rfl⟩) (by assumption) ?_
      (try simp only [Act.put, List.setIfInBounds_toArray, List.set_cons_zero, List.set_cons_succ])
      refine wpAnyH_take (i := 17) (oi := { dst := some 78, op := Op.binOp BinOp.neq 32 (Operand.tmp 77) (Operand.const (Value.int IntKind.i64 0)) 32, type := 4, pos := "law.go:394", after := #[{ on := 16, ground := Ground.data }, { on := 15, ground := Ground.guard }], guard := some (15, true) }) (v := undef) rfl (by kernel_rfl) (by kernel_rfl) (by kernel_rfl) (fun _ _ _ h => h) (Or.inr ⟨by rfl, rfl⟩) (by assumption) ?_
      (try simp only [Act.put, List.setIfInBounds_toArray, List.set_cons_zero, List.set_cons_succ])
      refine wpAnyH_take (i := 18) (oi := { dst := some 79, op := Op.move (Operand.tmp 78), type := 4, pos := "law.go:394", after := #[{ on := 17, ground := Ground.data }, { on := 15, ground := Ground.chain }, { on := 15, ground := Ground.guard }], guard := some (15, true) }) (v := undef) rfl (by kernel_rfl) (by kernel_rfl) (by kernel_rfl) (fun _ _ _ h => h) (Or.inr ⟨by rfl, rfl⟩) (by assumption) ?_
      (try simp only [Act.put, List.setIfInBounds_toArray, List.set_cons_zero, List.set_cons_succ])
      refine wpAnyH_take (i := 19) (oi := { dst := some 80, op := Op.load 50 (Operand.tmp 9), type := 50, pos := "law.go:394", after := #[{ on := 18, ground := Ground.guard }], guard := some (18, false) }) (v := undef) rfl (by kernel_rfl) (by kernel_rfl) (by kernel_rfl) (fun _ _ _ h => h) (Or.inr ⟨by rfl, rfl⟩) (by assumption) ?_
      (try simp only [Act.put, List.setIfInBounds_toArray, List.set_cons_zero, List.set_cons_succ])
      refine wpAnyH_take (i := 20) (oi := { dst := some 81, op := Op.load 46 (Operand.tmp 3), type := 46, pos := "law.go:394", after := #[{ on := 18, ground := Ground.guard }], guard := some (18, false) }) (v := undef) rfl (by kernel_rfl) (by kernel_rfl) (by kernel_rfl) (fun _ _ _ h => h) (Or.inr ⟨by rfl, rfl⟩) (by assumption) ?_
      (try simp only [Act.put, List.setIfInBounds_toArray, List.set_cons_zero, List.set_cons_succ])
      refine wpAnyH_take (i := 21) (oi := { dst := some 82, op := Op.call { callee := Callee.value (Operand.func 15), args := #[Operand.tmp 81], argTypes := #[46] }, type := 50, pos := "law.go:394", after := #[{ on := 20, ground := Ground.data }, { on := 18, ground := Ground.chain }, { on := 18, ground := Ground.guard }], guard := some (18, false) }) (v := undef) rfl (by kernel_rfl) (by kernel_rfl) (by kernel_rfl) (fun _ _ _ h => h) (Or.inr ⟨by rfl, rfl⟩) (by assumption) ?_
      (try simp only [Act.put, List.setIfInBounds_toArray, List.set_cons_zero, List.set_cons_succ])
      refine wpAnyH_take (i := 22) (oi := { dst := some 83, op := Op.load 59 (Operand.tmp 5), type := 59, pos := "law.go:394", after := #[{ on := 18, ground := Ground.guard }], guard := some (18, false) }) (v := undef) rfl (by kernel_rfl) (by kernel_rfl) (by kernel_rfl) (fun _ _ _ h => h) (Or.inr ⟨by rfl, rfl⟩) (by assumption) ?_
      (try simp only [Act.put, List.setIfInBounds_toArray, List.set_cons_zero, List.set_cons_succ])
      refine wpAnyH_take (i := 23) (oi := { dst := some 84, op := Op.call { callee := Callee.value (Operand.func 22), args := #[Operand.tmp 82, Operand.tmp 83], argTypes := #[50, 59] }, type := 50, pos := "law.go:394", after := #[{ on := 21, ground := Ground.data }, { on := 22, ground := Ground.data }, { on := 21, ground := Ground.chain }, { on := 18, ground := Ground.guard }], guard := some (18, false) }) (v := undef) rfl (by kernel_rfl) (by kernel_rfl) (by kernel_rfl) (fun _ _ _ h => h) (Or.inr ⟨by rfl, rfl⟩) (by assumption) ?_
      (try simp only [Act.put, List.setIfInBounds_toArray, List.set_cons_zero, List.set_cons_succ])
      refine wpAnyH_take (i := 24) (oi := { dst := some 85, op := Op.call { callee := Callee.value (Operand.func 21), args := #[Operand.tmp 80, Operand.tmp 84], argTypes := #[50, 50] }, type := 4, pos := "law.go:394", after := #[{ on := 19, ground := Ground.data }, { on := 23, ground := Ground.data }, { on := 23, ground := Ground.chain }, { on := 18, ground := Ground.guard }], guard := some (18, false) }) (v := undef) rfl (by kernel_rfl) (by kernel_rfl) (by kernel_rfl) (fun _ _ _ h => h) (Or.inr ⟨by rfl, rfl⟩) (by assumption) ?_
      (try simp only [Act.put, List.setIfInBounds_toArray, List.set_cons_zero, List.set_cons_succ])
      refine wpAnyH_take (i := 25) (oi := { dst := some 86, op := Op.unOp UnOp.not 4 (Operand.tmp 85), type := 4, pos := "law.go:394", after := #[{ on := 24, ground := Ground.data }, { on := 18, ground := Ground.guard }], guard := some (18, false) }) (v := undef) rfl (by kernel_rfl) (by kernel_rfl) (by kernel_rfl) (fun _ _ _ h => h) (Or.inr ⟨by rfl, rfl⟩) (by assumption) ?_
      (try simp only [Act.put, List.setIfInBounds_toArray, List.set_cons_zero, List.set_cons_succ])
      refine wpAnyH_take (i := 26) (oi := { dst := some 87, op := Op.pick (Operand.tmp 79) (Operand.const (Value.bool true)) (Operand.tmp 86), type := 4, pos := "law.go:394", after := #[{ on := 18, ground := Ground.data }, { on := 25, ground := Ground.data }, { on := 15, ground := Ground.guard }], guard := some (15, true) }) (v := undef) rfl (by kernel_rfl) (by kernel_rfl) (by kernel_rfl) (fun _ _ _ h => h) (Or.inr ⟨by rfl, rfl⟩) (by assumption) ?_
      (try simp only [Act.put, List.setIfInBounds_toArray, List.set_cons_zero, List.set_cons_succ])
      refine wpAnyH_take (i := 27) (oi := { dst := some 88, op := Op.pick (Operand.tmp 76) (Operand.tmp 87) (Operand.const (Value.bool false)), type := 4, pos := "law.go:394", after := #[{ on := 15, ground := Ground.data }, { on := 26, ground := Ground.data }, { on := 12, ground := Ground.guard }], guard := some (12, false) }) (v := ?_) rfl (by kernel_rfl) (by kernel_rfl) (by kernel_rfl) (fun _ _ _ h => h) (Or.inl ⟨by rfl, ?_⟩) (by assumption) ?_
      rotate_left 1
      · intro W hSw
        (try dsimp only at hSw)
        go_simp
        try with_reducible rfl
      (try simp only [Act.put, List.setIfInBounds_toArray, List.set_cons_zero, List.set_cons_succ])
      refine wpAnyH_take (i := 28) (oi := { dst := some 89, op := Op.pick (Operand.tmp 73) (Operand.const (Value.bool true)) (Operand.tmp 88), type := 4, pos := "law.go:394", after := #[{ on := 12, ground := Ground.data }, { on := 27, ground := Ground.data }], guard := none }) (v := ?_) rfl (by kernel_rfl) (by kernel_rfl) (by kernel_rfl) (fun _ _ _ h => h) (Or.inl ⟨by rfl, ?_⟩) (by assumption) ?_
      rotate_left 1
      · intro W hSw
        (try dsimp only at hSw)
        go_simp
        try with_reducible rfl
      (try simp only [Act.put, List.setIfInBounds_toArray, List.set_cons_zero, List.set_cons_succ])
      refine wpAnyH_done (by kernel_rfl) ?_ _
      go_wp2_with fail
      go_meet
      case rel => exact ⟨rfl, Lib.hid (by repeat (first | with_reducible exact Below.refl _ _ | with_reducible refine Below.andThen ?_ hbI rfl | with_reducible refine Below.andThen ?_ hbJ rfl | with_reducible refine Below.andThen ?_ hbC rfl | with_reducible refine Below.andThen ?_ hbD rfl | with_reducible refine Below.alloc1 ?_ _ rfl | with_reducible refine Below.drew ?_ | with_reducible refine Below.set3 ?_ (by first | exact Nat.le_refl _ | exact hBI.size | exact hBJ.size | exact hBC.size) _ _ _))⟩
    obtain ⟨rfl, HBn⟩ := hcut
    obtain ⟨w9, rfl⟩ : ∃ w9 : World, w9 = wc := ⟨_, rfl⟩
    have SC9 := Lib.hid (SC8.out.next HBn.out)
    have BA9 := Lib.hid (BA8.out.next HBn.out)
    clear HBn SC8 BY8 BA8 BB8 CI8 k0 k1 k2 k3 kl y0 y1 yl g0 g1 g2 gl CNo
    rcases HRA2 with ⟨-, rfl, rfl, rfl, hEA⟩ | ⟨hD2, -⟩ | ⟨hD2, -⟩
    · subst hEA
      have SCz := Lib.hid (SC9.out.next ((Below.refl _ _).alloc (Nat.le_refl _) (.cells #[.int .i64 0, .int .i64 0, .slice none 0 0] 50)))
      have BAz := Lib.hid (BA9.out.next ((Below.refl _ _).alloc (Nat.le_refl _) (.cells #[.int .i64 0, .int .i64 0, .slice none 0 0] 50)))
      have BZz : Hid (IBox 0 0 (.slice none 0 0) [] w9.heap.size (w9.alloc (.cells #[.int .i64 0, .int .i64 0, .slice none 0 0] 50))) := IBox.born (smp_nil32 _)
      have CZ := Lib.hid (SameImage_true 0 0 av (.slice none 0 0) [] _ BAz.out.smp.sl BZz.out.smp.sl)
      obtain ⟨aa, ac, rfl, -, -⟩ := BAz.out.smp.sl
      obtain ⟨h0, h1, h2, -, -, -, hl2⟩ := three_cells BAz.out.blk
      obtain ⟨r0, r1, r2, -, -, -, rl2⟩ := three_cells BZz.out.blk
      go_wp2_with fail
      refine CZ.out.mono ?_
      rintro e wE ⟨rfl, hb⟩
      have SCE := Lib.hid (SCz.out.next hb)
      go_wp2_with fail
      go_ret
      exact ⟨rfl, SCE.out.hb⟩
    · exact absurd hD2 hD
    · exact absurd hD2 hD
  · subst hD hES
    rw [decide_eq_false h1] at CW1
    have hn0 : nb = 0 := HNB.out
    subst hn0
    go_wp2_with fail
    refine (CW1.out _).mono ?_
    rintro e w' ⟨rfl, rfl⟩
    go_wp2_with fail
    go_cut [89] from 15 (fun s1 wx => s1 = .bool false ∧ Hid (Below w8.heap.size w8 wx))
    case first =>
      clear HRA2 CJ CQ CR CI CW1 CW2
      refine wp_region_held_drew (S := (fun W => W.cell? ⟨b9, 0, none⟩ = some (.int .i64 0) ∧ W.cell? ⟨b9, 1, none⟩ = some (.int .i64 0) ∧ W.cell? ⟨b9, 2, none⟩ = some (.slice ba 0 bc))) (by kernel_rfl) ?_ (fun hHeld => ?_)
      · (with_reducible refine ⟨Below.keepc ?_ g0, Below.keepc ?_ g1, Below.keepc ?_ g2⟩ <;> (repeat (first | with_reducible exact Below.refl _ _ | with_reducible refine Below.andThen ?_ hbI rfl | with_reducible refine Below.andThen ?_ hbJ rfl | with_reducible refine Below.andThen ?_ hbC rfl | with_reducible refine Below.andThen ?_ hbD rfl | with_reducible refine Below.alloc1 ?_ _ rfl | with_reducible refine Below.drew ?_ | with_reducible refine Below.set3 ?_ (by first | exact Nat.le_refl _ | exact hBI.size | exact hBJ.size | exact hBC.size) _ _ _)) <;> done)
      refine wpAnyH_take (i := 0) (oi := { dst := some 61, op := Op.move (Operand.tmp 12), type := 3, pos := "law.go:394", after := #[], guard := none }) (v := ?_) rfl (by kernel_rfl) (by kernel_rfl) (by kernel_rfl) (fun _ _ _ h => h) (Or.inl ⟨by rfl, ?_⟩) (by assumption) ?_
      rotate_left 1
      · intro W hSw
        (try dsimp only at hSw)
        go_simp
        try with_reducible rfl
      (try simp only [Act.put, List.setIfInBounds_toArray, List.set_cons_zero, List.set_cons_succ])
      refine wpAnyH_take (i := 1) (oi := { dst := some 62, op := Op.binOp BinOp.neq 3 (Operand.tmp 61) (Operand.const (Value.int IntKind.i64 0)) 3, type := 4, pos := "law.go:394", after := #[{ on := 0, ground := Ground.data }], guard := none }) (v := ?_) rfl (by kernel_rfl) (by kernel_rfl) (by kernel_rfl) (fun _ _ _ h => h) (Or.inl ⟨by rfl, ?_⟩) (by assumption) ?_
      rotate_left 1
      · intro W hSw
        (try dsimp only at hSw)
        go_simp
        try with_reducible rfl
      (try simp only [Act.put, List.setIfInBounds_toArray, List.set_cons_zero, List.set_cons_succ])
      refine wpAnyH_take (i := 2) (oi := { dst := some 63, op := Op.move (Operand.tmp 62), type := 4, pos := "law.go:394", after := #[{ on := 1, ground := Ground.data }], guard := none }) (v := ?_) rfl (by kernel_rfl) (by kernel_rfl) (by kernel_rfl) (fun _ _ _ h => h) (Or.inl ⟨by rfl, ?_⟩) (by assumption) ?_
      rotate_left 1
      · intro W hSw
        (try dsimp only at hSw)
        go_simp
        try with_reducible rfl
      (try simp only [Act.put, List.setIfInBounds_toArray, List.set_cons_zero, List.set_cons_succ])
      refine wpAnyH_take (i := 3) (oi := { dst := some 64, op := Op.move (Operand.tmp 10), type := 32, pos := "law.go:394", after := #[{ on := 2, ground := Ground.guard }], guard := some (2, true) }) (v := ?_) rfl (by kernel_rfl) (by kernel_rfl) (by kernel_rfl) (fun _ _ _ h => h) (Or.inl ⟨by rfl, ?_⟩) (by assumption) ?_
      rotate_left 1
      · intro W hSw
        (try dsimp only at hSw)
        go_simp
        try with_reducible rfl
      (try simp only [Act.put, List.setIfInBounds_toArray, List.set_cons_zero, List.set_cons_succ])
      refine wpAnyH_take (i := 4) (oi := { dst := some 65, op := Op.move (Operand.tmp 12), type := 3, pos := "law.go:394", after := #[{ on := 2, ground := Ground.guard }], guard := some (2, true) }) (v := ?_) rfl (by kernel_rfl) (by kernel_rfl) (by kernel_rfl) (fun _ _ _ h => h) (Or.inl ⟨by rfl, ?_⟩) (by assumption) ?_
      rotate_left 1
      · intro W hSw
        (try dsimp only at hSw)
        go_simp
        try with_reducible rfl
      (try simp only [Act.put, List.setIfInBounds_toArray, List.set_cons_zero, List.set_cons_succ])
      refine wpAnyH_take (i := 5) (oi := { dst := some 66, op := Op.binOp BinOp.neq 3 (Operand.tmp 64) (Operand.tmp 65) 3, type := 4, pos := "law.go:394", after := #[{ on := 3, ground := Ground.data }, { on := 4, ground := Ground.data }, { on := 2, ground := Ground.guard }], guard := some (2, true) }) (v := ?_) rfl (by kernel_rfl) (by kernel_rfl) (by kernel_rfl) (fun _ _ _ h => h) (Or.inl ⟨by rfl, ?_⟩) (by assumption) ?_
      rotate_left 1
      · intro W hSw
        (try dsimp only at hSw)
        go_simp
        try with_reducible rfl
      (try simp only [Act.put, List.setIfInBounds_toArray, List.set_cons_zero, List.set_cons_succ])
      refine wpAnyH_take (i := 6) (oi := { dst := some 67, op := Op.move (Operand.tmp 66), type := 4, pos := "law.go:394", after := #[{ on := 5, ground := Ground.data }, { on := 2, ground := Ground.chain }, { on := 2, ground := Ground.guard }], guard := some (2, true) }) (v := ?_) rfl (by kernel_rfl) (by kernel_rfl) (by kernel_rfl) (fun _ _ _ h => h) (Or.inl ⟨by rfl, ?_⟩) (by assumption) ?_
      rotate_left 1
      · intro W hSw
        (try dsimp only at hSw)
        go_simp
        try with_reducible rfl
      (try simp only [Act.put, List.setIfInBounds_toArray, List.set_cons_zero, List.set_cons_succ])
      refine wpAnyH_take (i := 7) (oi := { dst := some 68, op := Op.load 50 (Operand.tmp 9), type := 50, pos := "law.go:394", after := #[{ on := 6, ground := Ground.guard }], guard := some (6, false) }) (v := ?_) rfl (by kernel_rfl) (by kernel_rfl) (by kernel_rfl) (fun _ _ _ h => h) (Or.inl ⟨by rfl, ?_⟩) (by assumption) ?_
      rotate_left 1
      · intro W hSw
        (try dsimp only at hSw)
        go_simp
        try with_reducible rfl
      (try simp only [Act.put, List.setIfInBounds_toArray, List.set_cons_zero, List.set_cons_succ])
      refine wpAnyH_ready (rs := [8]) (by kernel_rfl) (by simp) ?_
      refine AllReadyH.cons (o := { dst := some 69, op := Op.call { callee := Callee.value (Operand.func 20), args := #[Operand.tmp 68], argTypes := #[50] }, type := 4, pos := "law.go:394", after := #[{ on := 7, ground := Ground.data }, { on := 6, ground := Ground.chain }, { on := 6, ground := Ground.guard }], guard := some (6, false) }) rfl (fun K hK => ?_) AllReadyH.nil
      go_simp
      go_at_call 20; (with_reducible refine (CNo.out ba bc _).mono ?_); rintro e wI ⟨rfl, hbI⟩; have hBI : Below w8.heap.size w8 wI := (by repeat (first | with_reducible exact Below.refl _ _ | with_reducible refine Below.andThen ?_ hbI rfl | with_reducible refine Below.andThen ?_ hbJ rfl | with_reducible refine Below.andThen ?_ hbC rfl | with_reducible refine Below.andThen ?_ hbD rfl | with_reducible refine Below.alloc1 ?_ _ rfl | with_reducible refine Below.drew ?_ | with_reducible refine Below.set3 ?_ (by first | exact Nat.le_refl _ | exact hBI.size | exact hBJ.size | exact hBC.size) _ _ _))
      refine hK.out _ _ ?_ (fun hHeld => ?_)
      · (with_reducible refine ⟨Below.keepc ?_ g0, Below.keepc ?_ g1, Below.keepc ?_ g2⟩ <;> (repeat (first | with_reducible exact Below.refl _ _ | with_reducible refine Below.andThen ?_ hbI rfl | with_reducible refine Below.andThen ?_ hbJ rfl | with_reducible refine Below.andThen ?_ hbC rfl | with_reducible refine Below.andThen ?_ hbD rfl | with_reducible refine Below.alloc1 ?_ _ rfl | with_reducible refine Below.drew ?_ | with_reducible refine Below.set3 ?_ (by first | exact Nat.le_refl _ | exact hBI.size | exact hBJ.size | exact hBC.size) _ _ _)) <;> done)
      clear hK K
      (try simp only [Act.put, List.setIfInBounds_toArray, List.set_cons_zero, List.set_cons_succ])
      refine wpAnyH_take (i := 9) (oi := { dst := some 70, op := Op.unOp UnOp.not 4 (Operand.tmp 69), type := 4, pos := "law.go:394", after := #[{ on := 8, ground := Ground.data }, { on := 6, ground := Ground.guard }], guard := some (6, false) }) (v := ?_) rfl (by kernel_rfl) (by kernel_rfl) (by kernel_rfl) (fun _ _ _ h => h) (Or.inl ⟨by rfl, ?_⟩) (by assumption) ?_
      rotate_left 1
      · intro W hSw
        (try dsimp only at hSw)
        go_simp
        try with_reducible rfl
      (try simp only [Act.put, List.setIfInBounds_toArray, List.set_cons_zero, List.set_cons_succ])
      refine wpAnyH_take (i := 10) (oi := { dst := some 71, op := Op.pick (Operand.tmp 67) (Operand.const (Value.bool true)) (Operand.tmp 70), type := 4, pos := "law.go:394", after := #[{ on := 6, ground := Ground.data }, { on := 9, ground := Ground.data }, { on := 2, ground := Ground.guard }], guard := some (2, true) }) (v := ?_) rfl (by kernel_rfl) (by kernel_rfl) (by kernel_rfl) (fun _ _ _ h => h) (Or.inl ⟨by rfl, ?_⟩) (by assumption) ?_
      rotate_left 1
      · intro W hSw
        (try dsimp only at hSw)
        go_simp
        try with_reducible rfl
      (try simp only [Act.put, List.setIfInBounds_toArray, List.set_cons_zero, List.set_cons_succ])
      refine wpAnyH_take (i := 11) (oi := { dst := some 72, op := Op.pick (Operand.tmp 63) (Operand.tmp 71) (Operand.const (Value.bool false)), type := 4, pos := "law.go:394", after := #[{ on := 2, ground := Ground.data }, { on := 10, ground := Ground.data }], guard := none }) (v := ?_) rfl (by kernel_rfl) (by kernel_rfl) (by kernel_rfl) (fun _ _ _ h => h) (Or.inl ⟨by rfl, ?_⟩) (by assumption) ?_
      rotate_left 1
      · intro W hSw
        (try dsimp only at hSw)
        go_simp
        try with_reducible rfl
      (try simp only [Act.put, List.setIfInBounds_toArray, List.set_cons_zero, List.set_cons_succ])
      refine wpAnyH_take (i := 12) (oi := { dst := some 73, op := Op.move (Operand.tmp 72), type := 4, pos := "law.go:394", after := #[{ on := 11, ground := Ground.data }, { on := 8, ground := Ground.chain }], guard := none }) (v := ?_) rfl (by kernel_rfl) (by kernel_rfl) (by kernel_rfl) (fun _ _ _ h => h) (Or.inl ⟨by rfl, ?_⟩) (by assumption) ?_
      rotate_left 1
      · intro W hSw
        (try dsimp only at hSw)
        go_simp
        try with_reducible rfl
      (try simp only [Act.put, List.setIfInBounds_toArray, List.set_cons_zero, List.set_cons_succ])
      refine wpAnyH_take (i := 13) (oi := { dst := some 74, op := Op.move (Operand.tmp 12), type := 3, pos := "law.go:394", after := #[{ on := 12, ground := Ground.guard }], guard := some (12, false) }) (v := ?_) rfl (by kernel_rfl) (by kernel_rfl) (by kernel_rfl) (fun _ _ _ h => h) (Or.inl ⟨by rfl, ?_⟩) (by assumption) ?_
      rotate_left 1
      · intro W hSw
        (try dsimp only at hSw)
        go_simp
        try with_reducible rfl
      (try simp only [Act.put, List.setIfInBounds_toArray, List.set_cons_zero, List.set_cons_succ])
      refine wpAnyH_take (i := 14) (oi := { dst := some 75, op := Op.binOp BinOp.eql 3 (Operand.tmp 74) (Operand.const (Value.int IntKind.i64 0)) 3, type := 4, pos := "law.go:394", after := #[{ on := 13, ground := Ground.data }, { on := 12, ground := Ground.guard }], guard := some (12, false) }) (v := ?_) rfl (by kernel_rfl) (by kernel_rfl) (by kernel_rfl) (fun _ _ _ h => h) (Or.inl ⟨by rfl, ?_⟩) (by assumption) ?_
      rotate_left 1
      · intro W hSw
        (try dsimp only at hSw)
        go_simp
        try with_reducible rfl
      (try simp only [Act.put, List.setIfInBounds_toArray, List.set_cons_zero, List.set_cons_succ])
      refine wpAnyH_take (i := 15) (oi := { dst := some 76, op := Op.move (Operand.tmp 75), type := 4, pos := "law.go:394", after := #[{ on := 14, ground := Ground.data }, { on := 12, ground := Ground.chain }, { on := 12, ground := Ground.guard }], guard := some (12, false) }) (v := ?_) rfl (by kernel_rfl) (by kernel_rfl) (by kernel_rfl) (fun _ _ _ h => h) (Or.inl ⟨by rfl, ?_⟩) (by assumption) ?_
      rotate_left 1
      · intro W hSw
        (try dsimp only at hSw)
        go_simp
        try with_reducible rfl
      (try simp only [Act.put, List.setIfInBounds_toArray, List.set_cons_zero, List.set_cons_succ])
      refine wpAnyH_take (i := 16) (oi := { dst := some 77, op := Op.move (Operand.tmp 10), type := 32, pos := "law.go:394", after := #[{ on := 15, ground := Ground.guard }], guard := some (15, true) }) (v := undef) rfl (by kernel_rfl) (by kernel_rfl) (by kernel_rfl) (fun _ _ _ h => h) (Or.inr ⟨by rfl, rfl⟩) (by assumption) ?_
      (try simp only [Act.put, List.setIfInBounds_toArray, List.set_cons_zero, List.set_cons_succ])
      refine wpAnyH_take (i := 17) (oi := { dst := some 78, op := Op.binOp BinOp.neq 32 (Operand.tmp 77) (Operand.const (Value.int IntKind.i64 0)) 32, type := 4, pos := "law.go:394", after := #[{ on := 16, ground := Ground.data }, { on := 15, ground := Ground.guard }], guard := some (15, true) }) (v := undef) rfl (by kernel_rfl) (by kernel_rfl) (by kernel_rfl) (fun _ _ _ h => h) (Or.inr ⟨by rfl, rfl⟩) (by assumption) ?_
      (try simp only [Act.put, List.setIfInBounds_toArray, List.set_cons_zero, List.set_cons_succ])
      refine wpAnyH_take (i := 18) (oi := { dst := some 79, op := Op.move (Operand.tmp 78), type := 4, pos := "law.go:394", after := #[{ on := 17, ground := Ground.data }, { on := 15, ground := Ground.chain }, { on := 15, ground := Ground.guard }], guard := some (15, true) }) (v := undef) rfl (by kernel_rfl) (by kernel_rfl) (by kernel_rfl) (fun _ _ _ h => h) (Or.inr ⟨by rfl, rfl⟩) (by assumption) ?_
      (try simp only [Act.put, List.setIfInBounds_toArray, List.set_cons_zero, List.set_cons_succ])
      refine wpAnyH_take (i := 19) (oi := { dst := some 80, op := Op.load 50 (Operand.tmp 9), type := 50, pos := "law.go:394", after := #[{ on := 18, ground := Ground.guard }], guard := some (18, false) }) (v := undef) rfl (by kernel_rfl) (by kernel_rfl) (by kernel_rfl) (fun _ _ _ h => h) (Or.inr ⟨by rfl, rfl⟩) (by assumption) ?_
      (try simp only [Act.put, List.setIfInBounds_toArray, List.set_cons_zero, List.set_cons_succ])
      refine wpAnyH_take (i := 20) (oi := { dst := some 81, op := Op.load 46 (Operand.tmp 3), type := 46, pos := "law.go:394", after := #[{ on := 18, ground := Ground.guard }], guard := some (18, false) }) (v := undef) rfl (by kernel_rfl) (by kernel_rfl) (by kernel_rfl) (fun _ _ _ h => h) (Or.inr ⟨by rfl, rfl⟩) (by assumption) ?_
      (try simp only [Act.put, List.setIfInBounds_toArray, List.set_cons_zero, List.set_cons_succ])
      refine wpAnyH_take (i := 21) (oi := { dst := some 82, op := Op.call { callee := Callee.value (Operand.func 15), args := #[Operand.tmp 81], argTypes := #[46] }, type := 50, pos := "law.go:394", after := #[{ on := 20, ground := Ground.data }, { on := 18, ground := Ground.chain }, { on := 18, ground := Ground.guard }], guard := some (18, false) }) (v := undef) rfl (by kernel_rfl) (by kernel_rfl) (by kernel_rfl) (fun _ _ _ h => h) (Or.inr ⟨by rfl, rfl⟩) (by assumption) ?_
      (try simp only [Act.put, List.setIfInBounds_toArray, List.set_cons_zero, List.set_cons_succ])
      refine wpAnyH_take (i := 22) (oi := { dst := some 83, op := Op.load 59 (Operand.tmp 5), type := 59, pos := "law.go:394", after := #[{ on := 18, ground := Ground.guard }], guard := some (18, false) }) (v := undef) rfl (by kernel_rfl) (by kernel_rfl) (by kernel_rfl) (fun _ _ _ h => h) (Or.inr ⟨by rfl, rfl⟩) (by assumption) ?_
      (try simp only [Act.put, List.setIfInBounds_toArray, List.set_cons_zero, List.set_cons_succ])
      refine wpAnyH_take (i := 23) (oi := { dst := some 84, op := Op.call { callee := Callee.value (Operand.func 22), args := #[Operand.tmp 82, Operand.tmp 83], argTypes := #[50, 59] }, type := 50, pos := "law.go:394", after := #[{ on := 21, ground := Ground.data }, { on := 22, ground := Ground.data }, { on := 21, ground := Ground.chain }, { on := 18, ground := Ground.guard }], guard := some (18, false) }) (v := undef) rfl (by kernel_rfl) (by kernel_rfl) (by kernel_rfl) (fun _ _ _ h => h) (Or.inr ⟨by rfl, rfl⟩) (by assumption) ?_
      (try simp only [Act.put, List.setIfInBounds_toArray, List.set_cons_zero, List.set_cons_succ])
      refine wpAnyH_take (i := 24) (oi := { dst := some 85, op := Op.call { callee := Callee.value (Operand.func 21), args := #[Operand.tmp 80, Operand.tmp 84], argTypes := #[50, 50] }, type := 4, pos := "law.go:394", after := #[{ on := 19, ground := Ground.data }, { on := 23, ground := Ground.data }, { on := 23, ground := Ground.chain }, { on := 18, ground := Ground.guard }], guard := some (18, false) }) (v := undef) rfl (by kernel_rfl) (by kernel_rfl) (by kernel_rfl) (fun _ _ _ h => h) (Or.inr ⟨by rfl, rfl⟩) (by assumption) ?_
      (try simp only [Act.put, List.setIfInBounds_toArray, List.set_cons_zero, List.set_cons_succ])
      refine wpAnyH_take (i := 25) (oi := { dst := some 86, op := Op.unOp UnOp.not 4 (Operand.tmp 85), type := 4, pos := "law.go:394", after := #[{ on := 24, ground := Ground.data }, { on := 18, ground := Ground.guard }], guard := some (18, false) }) (v := undef) rfl (by kernel_rfl) (by kernel_rfl) (by kernel_rfl) (fun _ _ _ h => h) (Or.inr ⟨by rfl, rfl⟩) (by assumption) ?_
      (try simp only [Act.put, List.setIfInBounds_toArray, List.set_cons_zero, List.set_cons_succ])
      refine wpAnyH_take (i := 26) (oi := { dst := some 87, op := Op.pick (Operand.tmp 79) (Operand.const (Value.bool true)) (Operand.tmp 86), type := 4, pos := "law.go:394", after := #[{ on := 18, ground := Ground.data }, { on := 25, ground := Ground.data }, { on := 15, ground := Ground.guard }], guard := some (15, true) }) (v := undef) rfl (by kernel_rfl) (by kernel_rfl) (by kernel_rfl) (fun _ _ _ h => h) (Or.inr ⟨by rfl, rfl⟩) (by assumption) ?_
      (try simp only [Act.put, List.setIfInBounds_toArray, List.set_cons_zero, List.set_cons_succ])
      refine wpAnyH_take (i := 27) (oi := { dst := some 88, op := Op.pick (Operand.tmp 76) (Operand.tmp 87) (Operand.const (Value.bool false)), type := 4, pos := "law.go:394", after := #[{ on := 15, ground := Ground.data }, { on := 26, ground := Ground.data }, { on := 12, ground := Ground.guard }], guard := some (12, false) }) (v := ?_) rfl (by kernel_rfl) (by kernel_rfl) (by kernel_rfl) (fun _ _ _ h => h) (Or.inl ⟨by rfl, ?_⟩) (by assumption) ?_
      rotate_left 1
      · intro W hSw
        (try dsimp only at hSw)
        go_simp
        try with_reducible rfl
      (try simp only [Act.put, List.setIfInBounds_toArray, List.set_cons_zero, List.set_cons_succ])
      refine wpAnyH_take (i := 28) (oi := { dst := some 89, op := Op.pick (Operand.tmp 73) (Operand.const (Value.bool true)) (Operand.tmp 88), type := 4, pos := "law.go:394", after := #[{ on := 12, ground := Ground.data }, { on := 27, ground := Ground.data }], guard := none }) (v := ?_) rfl (by kernel_rfl) (by kernel_rfl) (by kernel_rfl) (fun _ _ _ h => h) (Or.inl ⟨by rfl, ?_⟩) (by assumption) ?_
      rotate_left 1
      · intro W hSw
        (try dsimp only at hSw)
        go_simp
        try with_reducible rfl
      (try simp only [Act.put, List.setIfInBounds_toArray, List.set_cons_zero, List.set_cons_succ])
      refine wpAnyH_done (by kernel_rfl) ?_ _
      go_wp2_with fail
      go_meet
      case rel => exact ⟨rfl, Lib.hid (by repeat (first | with_reducible exact Below.refl _ _ | with_reducible refine Below.andThen ?_ hbI rfl | with_reducible refine Below.andThen ?_ hbJ rfl | with_reducible refine Below.andThen ?_ hbC rfl | with_reducible refine Below.andThen ?_ hbD rfl | with_reducible refine Below.alloc1 ?_ _ rfl | with_reducible refine Below.drew ?_ | with_reducible refine Below.set3 ?_ (by first | exact Nat.le_refl _ | exact hBI.size | exact hBJ.size | exact hBC.size) _ _ _))⟩
    obtain ⟨rfl, HBn⟩ := hcut
    obtain ⟨w9, rfl⟩ : ∃ w9 : World, w9 = wc := ⟨_, rfl⟩
    have SC9 := Lib.hid (SC8.out.next HBn.out)
    have BA9 := Lib.hid (BA8.out.next HBn.out)
    clear HBn SC8 BY8 BA8 BB8 CI8 k0 k1 k2 k3 kl y0 y1 yl g0 g1 g2 gl CNo
    obtain ⟨j0, j1, j2, j3, jl⟩ := four_cells SC9.out.b1
    go_wp2_with fail
    refine (CJ.out _ SC9.out.p').mono ?_
    rintro e w10 ⟨v10, rfl, hb, hsv⟩
    have SC10 := Lib.hid (SC9.out.next hb)
    have BA10 := Lib.hid (BA9.out.next hb)
    have V10 := Lib.hid hsv
    clear hb hsv SC9 BA9 j0 j1 j2 j3 jl
    obtain ⟨va10, vc10, rfl, -, -⟩ := V10.out.sl
    go_wp2_with fail
    refine (CQ.out _ _ V10.out).mono ?_
    rintro e w11 ⟨rfl, hb⟩
    have SC11 := Lib.hid (SC10.out.next hb)
    have BA11 := Lib.hid (BA10.out.next hb)
    clear hb V10 SC10 BA10
    rcases HRA2 with ⟨hD, -⟩ | ⟨-, hKn, rfl, rfl, rfl, hK⟩ | ⟨-, hK, CRA⟩
    · exact absurd rfl hD
    · subst hK
      have hk1 : (EA == 0) = false := by rw [beq_eq_false_iff_ne]; exact hKn
      have SCz := Lib.hid (SC11.out.next ((Below.refl _ _).alloc (Nat.le_refl _) (.cells #[.int .i64 0, .int .i64 0, .slice none 0 0] 50)))
      have BAz := Lib.hid (BA11.out.next ((Below.refl _ _).alloc (Nat.le_refl _) (.cells #[.int .i64 0, .int .i64 0, .slice none 0 0] 50)))
      have BZz : Hid (IBox 0 0 (.slice none 0 0) [] w11.heap.size (w11.alloc (.cells #[.int .i64 0, .int .i64 0, .slice none 0 0] 50))) := IBox.born (smp_nil32 _)
      have CZ := Lib.hid (SameImage_true 0 0 av (.slice none 0 0) [] _ BAz.out.smp.sl BZz.out.smp.sl)
      obtain ⟨aa, ac, rfl, -, -⟩ := BAz.out.smp.sl
      obtain ⟨h0, h1, h2, -, -, -, hl2⟩ := three_cells BAz.out.blk
      obtain ⟨r0, r1, r2, -, -, -, rl2⟩ := three_cells BZz.out.blk
      go_wp2_with fail
      refine CZ.out.mono ?_
      rintro e wE ⟨rfl, hb⟩
      have SCE := Lib.hid (SCz.out.next hb)
      go_wp2_with fail
      go_ret
      exact ⟨rfl, SCE.out.hb⟩
    · subst hK
      obtain ⟨k0, k1, k2, k3, kl⟩ := four_cells SC11.out.b0
      obtain ⟨j0, j1, j2, j3, jl⟩ := four_cells SC11.out.b1
      have CI11 := Lib.hid (fun W (h : Below w11.heap.size w11 W) => CI.out W (SC11.out.p.below h))
      have CJ11 := Lib.hid (fun W (h : Below w11.heap.size w11 W) => CJ.out W (SC11.out.p'.below h))
      go_wp2_with fail
      go_cut [13] from 15 (fun s1 wx => ∃ rv, s1 = .int .i64 EA ∧ Hid (Below w11.heap.size w11 wx) ∧ Hid (IBox la sa rv A w11.heap.size wx))
      case first =>
        go_region_held3 (fun W => W.cell? ⟨w.heap.size, 0, none⟩ = some (.int .i64 l) ∧ W.cell? ⟨w.heap.size, 1, none⟩ = some (.int .i64 s) ∧ W.cell? ⟨w.heap.size, 2, none⟩ = some (.slice pa np pc) ∧ W.cell? ⟨w.heap.size, 3, none⟩ = some (.slice ca nc cc) ∧ W.cell? ⟨w.heap.size + 1, 0, none⟩ = some (.int .i64 l') ∧ W.cell? ⟨w.heap.size + 1, 1, none⟩ = some (.int .i64 s') ∧ W.cell? ⟨w.heap.size + 1, 2, none⟩ = some (.slice ra nr rc) ∧ W.cell? ⟨w.heap.size + 1, 3, none⟩ = some (.slice da nd dc)) (with_reducible refine ⟨Below.keepc ?_ k0, Below.keepc ?_ k1, Below.keepc ?_ k2, Below.keepc ?_ k3, Below.keepc ?_ j0, Below.keepc ?_ j1, Below.keepc ?_ j2, Below.keepc ?_ j3⟩ <;> (repeat (first | with_reducible exact Below.refl _ _ | with_reducible refine Below.andThen ?_ hbI rfl | with_reducible refine Below.andThen ?_ hbJ rfl | with_reducible refine Below.andThen ?_ hbC rfl | with_reducible refine Below.andThen ?_ hbD rfl | with_reducible refine Below.alloc1 ?_ _ rfl | with_reducible refine Below.drew ?_ | with_reducible refine Below.set3 ?_ (by first | exact Nat.le_refl _ | exact hBI.size | exact hBJ.size | exact hBC.size) _ _ _)) <;> done)
          (first
            | (go_at_call 15; (with_reducible refine (CI11.out _ (by repeat (first | with_reducible exact Below.refl _ _ | with_reducible refine Below.andThen ?_ hbI rfl | with_reducible refine Below.andThen ?_ hbJ rfl | with_reducible refine Below.andThen ?_ hbC rfl | with_reducible refine Below.andThen ?_ hbD rfl | with_reducible refine Below.alloc1 ?_ _ rfl | with_reducible refine Below.drew ?_ | with_reducible refine Below.set3 ?_ (by first | exact Nat.le_refl _ | exact hBI.size | exact hBJ.size | exact hBC.size) _ _ _))).mono ?_); rintro e wI ⟨vI, rfl, hbI, hsI⟩; obtain ⟨iaI, icI, rfl, -, -⟩ := hsI.sl; have hBI : Below w11.heap.size w11 wI := (by repeat (first | with_reducible exact Below.refl _ _ | with_reducible refine Below.andThen ?_ hbI rfl | with_reducible refine Below.andThen ?_ hbJ rfl | with_reducible refine Below.andThen ?_ hbC rfl | with_reducible refine Below.andThen ?_ hbD rfl | with_reducible refine Below.alloc1 ?_ _ rfl | with_reducible refine Below.drew ?_ | with_reducible refine Below.set3 ?_ (by first | exact Nat.le_refl _ | exact hBI.size | exact hBJ.size | exact hBC.size) _ _ _)); first | (have qb := box_after_drew hbI; obtain ⟨q0, q1, q2, f0, f1, f2, ql⟩ := three_cells qb) | (have qb := box_after hbI; obtain ⟨q0, q1, q2, f0, f1, f2, ql⟩ := three_cells qb) | (have qb := (hbI.block _ (lt_of_block qb)).trans qb; obtain ⟨q0, q1, q2, f0, f1, f2, ql⟩ := three_cells qb) | skip)
            | (go_at_call 15; (with_reducible refine (CJ11.out _ (by repeat (first | with_reducible exact Below.refl _ _ | with_reducible refine Below.andThen ?_ hbI rfl | with_reducible refine Below.andThen ?_ hbJ rfl | with_reducible refine Below.andThen ?_ hbC rfl | with_reducible refine Below.andThen ?_ hbD rfl | with_reducible refine Below.alloc1 ?_ _ rfl | with_reducible refine Below.drew ?_ | with_reducible refine Below.set3 ?_ (by first | exact Nat.le_refl _ | exact hBI.size | exact hBJ.size | exact hBC.size) _ _ _))).mono ?_); rintro e wJ ⟨vJ, rfl, hbJ, hsJ⟩; obtain ⟨iaJ, icJ, rfl, -, -⟩ := hsJ.sl; have hBJ : Below w11.heap.size w11 wJ := (by repeat (first | with_reducible exact Below.refl _ _ | with_reducible refine Below.andThen ?_ hbI rfl | with_reducible refine Below.andThen ?_ hbJ rfl | with_reducible refine Below.andThen ?_ hbC rfl | with_reducible refine Below.andThen ?_ hbD rfl | with_reducible refine Below.alloc1 ?_ _ rfl | with_reducible refine Below.drew ?_ | with_reducible refine Below.set3 ?_ (by first | exact Nat.le_refl _ | exact hBI.size | exact hBJ.size | exact hBC.size) _ _ _)); first | (have qb := box_after_drew hbJ; obtain ⟨q0, q1, q2, f0, f1, f2, ql⟩ := three_cells qb) | (have qb := box_after hbJ; obtain ⟨q0, q1, q2, f0, f1, f2, ql⟩ := three_cells qb) | (have qb := (hbJ.block _ (lt_of_block qb)).trans qb; obtain ⟨q0, q1, q2, f0, f1, f2, ql⟩ := three_cells qb) | skip)
            | (go_at_call 23; (with_reducible refine (CRA.out _ _ _ (by repeat (first | exact hsI | exact hsJ | refine Smp.alloc ?_ _ | refine Smp.drew ?_ | refine Smp.below ?_ hbI | refine Smp.below ?_ hbJ)) (by repeat (first | exact hsI | exact hsJ | refine Smp.alloc ?_ _ | refine Smp.drew ?_ | refine Smp.below ?_ hbI | refine Smp.below ?_ hbJ))).mono ?_); rintro e wC ⟨fv, rfl, hbC, hf⟩; obtain ⟨fa, fc, rfl, hfl, -⟩ := hf.sl; have hBC : Below w11.heap.size w11 wC := (by repeat (first | with_reducible exact Below.refl _ _ | with_reducible refine Below.andThen ?_ hbI rfl | with_reducible refine Below.andThen ?_ hbJ rfl | with_reducible refine Below.andThen ?_ hbC rfl | with_reducible refine Below.andThen ?_ hbD rfl | with_reducible refine Below.alloc1 ?_ _ rfl | with_reducible refine Below.drew ?_ | with_reducible refine Below.set3 ?_ (by first | exact Nat.le_refl _ | exact hBI.size | exact hBJ.size | exact hBC.size) _ _ _)); first | (have qb := box_after_drew hbC; obtain ⟨q0, q1, q2, f0, f1, f2, ql⟩ := three_cells qb) | (have qb := box_after hbC; obtain ⟨q0, q1, q2, f0, f1, f2, ql⟩ := three_cells qb) | (have qb := (hbC.block _ (lt_of_block qb)).trans qb; obtain ⟨q0, q1, q2, f0, f1, f2, ql⟩ := three_cells qb) | skip))
        all_goals
          go_wp2_with fail
          go_meet
          case rel => exact ⟨_, rfl, Lib.hid (Below.set3 hBC (Nat.le_refl _) _ _ _), Lib.hid (IBox.made qb hf)⟩
      obtain ⟨rv, rfl, HBn, BR⟩ := hcut
      obtain ⟨w12, rfl⟩ : ∃ w12 : World, w12 = wc := ⟨_, rfl⟩
      have SC12 := Lib.hid (SC11.out.next HBn.out)
      have BA12 := Lib.hid (BA11.out.next HBn.out)
      clear HBn SC11 BA11 CI11 CJ11 CRA k0 k1 k2 k3 kl j0 j1 j2 j3 jl
      have CZ := Lib.hid (SameImage_true la sa av rv A w12 BA12.out.smp.sl BR.out.smp.sl)
      obtain ⟨aa, ac, rfl, -, -⟩ := BA12.out.smp.sl
      obtain ⟨ra2, rc2, rfl, -, -⟩ := BR.out.smp.sl
      obtain ⟨h0, h1, h2, -, -, -, hl2⟩ := three_cells BA12.out.blk
      obtain ⟨r0, r1, r2, -, -, -, rl2⟩ := three_cells BR.out.blk
      go_wp2_with fail
      refine CZ.out.mono ?_
      rintro e wE ⟨rfl, hb⟩
      have SCE := Lib.hid (SC12.out.next hb)
      go_wp2_with fail
      go_ret
      exact ⟨rfl, SCE.out.hb⟩
  · subst hD hES
    rw [decide_eq_true h1] at CW1
    rw [decide_eq_false h2] at CW2
    have hn0 : nb = 0 := HNB.out
    subst hn0
    go_wp2_with fail
    refine (CW1.out _).mono ?_
    rintro e w' ⟨rfl, rfl⟩
    go_wp2_with fail
    refine (CW2.out _).mono ?_
    rintro e w' ⟨rfl, rfl⟩
    go_wp2_with fail
    go_cut [89] from 15 (fun s1 wx => s1 = .bool false ∧ Hid (Below w8.heap.size w8 wx))
    case first =>
      clear HRA2 CJ CQ CR CI CW1 CW2
      refine wp_region_held_drew (S := (fun W => W.cell? ⟨b9, 0, none⟩ = some (.int .i64 0) ∧ W.cell? ⟨b9, 1, none⟩ = some (.int .i64 0) ∧ W.cell? ⟨b9, 2, none⟩ = some (.slice ba 0 bc))) (by kernel_rfl) ?_ (fun hHeld => ?_)
      · (with_reducible refine ⟨Below.keepc ?_ g0, Below.keepc ?_ g1, Below.keepc ?_ g2⟩ <;> (repeat (first | with_reducible exact Below.refl _ _ | with_reducible refine Below.andThen ?_ hbI rfl | with_reducible refine Below.andThen ?_ hbJ rfl | with_reducible refine Below.andThen ?_ hbC rfl | with_reducible refine Below.andThen ?_ hbD rfl | with_reducible refine Below.alloc1 ?_ _ rfl | with_reducible refine Below.drew ?_ | with_reducible refine Below.set3 ?_ (by first | exact Nat.le_refl _ | exact hBI.size | exact hBJ.size | exact hBC.size) _ _ _)) <;> done)
      refine wpAnyH_take (i := 0) (oi := { dst := some 61, op := Op.move (Operand.tmp 12), type := 3, pos := "law.go:394", after := #[], guard := none }) (v := ?_) rfl (by kernel_rfl) (by kernel_rfl) (by kernel_rfl) (fun _ _ _ h => h) (Or.inl ⟨by rfl, ?_⟩) (by assumption) ?_
      rotate_left 1
      · intro W hSw
        (try dsimp only at hSw)
        go_simp
        try with_reducible rfl
      (try simp only [Act.put, List.setIfInBounds_toArray, List.set_cons_zero, List.set_cons_succ])
      refine wpAnyH_take (i := 1) (oi := { dst := some 62, op := Op.binOp BinOp.neq 3 (Operand.tmp 61) (Operand.const (Value.int IntKind.i64 0)) 3, type := 4, pos := "law.go:394", after := #[{ on := 0, ground := Ground.data }], guard := none }) (v := ?_) rfl (by kernel_rfl) (by kernel_rfl) (by kernel_rfl) (fun _ _ _ h => h) (Or.inl ⟨by rfl, ?_⟩) (by assumption) ?_
      rotate_left 1
      · intro W hSw
        (try dsimp only at hSw)
        go_simp
        try with_reducible rfl
      (try simp only [Act.put, List.setIfInBounds_toArray, List.set_cons_zero, List.set_cons_succ])
      refine wpAnyH_take (i := 2) (oi := { dst := some 63, op := Op.move (Operand.tmp 62), type := 4, pos := "law.go:394", after := #[{ on := 1, ground := Ground.data }], guard := none }) (v := ?_) rfl (by kernel_rfl) (by kernel_rfl) (by kernel_rfl) (fun _ _ _ h => h) (Or.inl ⟨by rfl, ?_⟩) (by assumption) ?_
      rotate_left 1
      · intro W hSw
        (try dsimp only at hSw)
        go_simp
        try with_reducible rfl
      (try simp only [Act.put, List.setIfInBounds_toArray, List.set_cons_zero, List.set_cons_succ])
      refine wpAnyH_take (i := 3) (oi := { dst := some 64, op := Op.move (Operand.tmp 10), type := 32, pos := "law.go:394", after := #[{ on := 2, ground := Ground.guard }], guard := some (2, true) }) (v := ?_) rfl (by kernel_rfl) (by kernel_rfl) (by kernel_rfl) (fun _ _ _ h => h) (Or.inl ⟨by rfl, ?_⟩) (by assumption) ?_
      rotate_left 1
      · intro W hSw
        (try dsimp only at hSw)
        go_simp
        try with_reducible rfl
      (try simp only [Act.put, List.setIfInBounds_toArray, List.set_cons_zero, List.set_cons_succ])
      refine wpAnyH_take (i := 4) (oi := { dst := some 65, op := Op.move (Operand.tmp 12), type := 3, pos := "law.go:394", after := #[{ on := 2, ground := Ground.guard }], guard := some (2, true) }) (v := ?_) rfl (by kernel_rfl) (by kernel_rfl) (by kernel_rfl) (fun _ _ _ h => h) (Or.inl ⟨by rfl, ?_⟩) (by assumption) ?_
      rotate_left 1
      · intro W hSw
        (try dsimp only at hSw)
        go_simp
        try with_reducible rfl
      (try simp only [Act.put, List.setIfInBounds_toArray, List.set_cons_zero, List.set_cons_succ])
      refine wpAnyH_take (i := 5) (oi := { dst := some 66, op := Op.binOp BinOp.neq 3 (Operand.tmp 64) (Operand.tmp 65) 3, type := 4, pos := "law.go:394", after := #[{ on := 3, ground := Ground.data }, { on := 4, ground := Ground.data }, { on := 2, ground := Ground.guard }], guard := some (2, true) }) (v := ?_) rfl (by kernel_rfl) (by kernel_rfl) (by kernel_rfl) (fun _ _ _ h => h) (Or.inl ⟨by rfl, ?_⟩) (by assumption) ?_
      rotate_left 1
      · intro W hSw
        (try dsimp only at hSw)
        go_simp
        try with_reducible rfl
      (try simp only [Act.put, List.setIfInBounds_toArray, List.set_cons_zero, List.set_cons_succ])
      refine wpAnyH_take (i := 6) (oi := { dst := some 67, op := Op.move (Operand.tmp 66), type := 4, pos := "law.go:394", after := #[{ on := 5, ground := Ground.data }, { on := 2, ground := Ground.chain }, { on := 2, ground := Ground.guard }], guard := some (2, true) }) (v := ?_) rfl (by kernel_rfl) (by kernel_rfl) (by kernel_rfl) (fun _ _ _ h => h) (Or.inl ⟨by rfl, ?_⟩) (by assumption) ?_
      rotate_left 1
      · intro W hSw
        (try dsimp only at hSw)
        go_simp
        try with_reducible rfl
      (try simp only [Act.put, List.setIfInBounds_toArray, List.set_cons_zero, List.set_cons_succ])
      refine wpAnyH_take (i := 7) (oi := { dst := some 68, op := Op.load 50 (Operand.tmp 9), type := 50, pos := "law.go:394", after := #[{ on := 6, ground := Ground.guard }], guard := some (6, false) }) (v := ?_) rfl (by kernel_rfl) (by kernel_rfl) (by kernel_rfl) (fun _ _ _ h => h) (Or.inl ⟨by rfl, ?_⟩) (by assumption) ?_
      rotate_left 1
      · intro W hSw
        (try dsimp only at hSw)
        go_simp
        try with_reducible rfl
      (try simp only [Act.put, List.setIfInBounds_toArray, List.set_cons_zero, List.set_cons_succ])
      refine wpAnyH_ready (rs := [8]) (by kernel_rfl) (by simp) ?_
      refine AllReadyH.cons (o := { dst := some 69, op := Op.call { callee := Callee.value (Operand.func 20), args := #[Operand.tmp 68], argTypes := #[50] }, type := 4, pos := "law.go:394", after := #[{ on := 7, ground := Ground.data }, { on := 6, ground := Ground.chain }, { on := 6, ground := Ground.guard }], guard := some (6, false) }) rfl (fun K hK => ?_) AllReadyH.nil
      go_simp
      go_at_call 20; (with_reducible refine (CNo.out ba bc _).mono ?_); rintro e wI ⟨rfl, hbI⟩; have hBI : Below w8.heap.size w8 wI := (by repeat (first | with_reducible exact Below.refl _ _ | with_reducible refine Below.andThen ?_ hbI rfl | with_reducible refine Below.andThen ?_ hbJ rfl | with_reducible refine Below.andThen ?_ hbC rfl | with_reducible refine Below.andThen ?_ hbD rfl | with_reducible refine Below.alloc1 ?_ _ rfl | with_reducible refine Below.drew ?_ | with_reducible refine Below.set3 ?_ (by first | exact Nat.le_refl _ | exact hBI.size | exact hBJ.size | exact hBC.size) _ _ _))
      refine hK.out _ _ ?_ (fun hHeld => ?_)
      · (with_reducible refine ⟨Below.keepc ?_ g0, Below.keepc ?_ g1, Below.keepc ?_ g2⟩ <;> (repeat (first | with_reducible exact Below.refl _ _ | with_reducible refine Below.andThen ?_ hbI rfl | with_reducible refine Below.andThen ?_ hbJ rfl | with_reducible refine Below.andThen ?_ hbC rfl | with_reducible refine Below.andThen ?_ hbD rfl | with_reducible refine Below.alloc1 ?_ _ rfl | with_reducible refine Below.drew ?_ | with_reducible refine Below.set3 ?_ (by first | exact Nat.le_refl _ | exact hBI.size | exact hBJ.size | exact hBC.size) _ _ _)) <;> done)
      clear hK K
      (try simp only [Act.put, List.setIfInBounds_toArray, List.set_cons_zero, List.set_cons_succ])
      refine wpAnyH_take (i := 9) (oi := { dst := some 70, op := Op.unOp UnOp.not 4 (Operand.tmp 69), type := 4, pos := "law.go:394", after := #[{ on := 8, ground := Ground.data }, { on := 6, ground := Ground.guard }], guard := some (6, false) }) (v := ?_) rfl (by kernel_rfl) (by kernel_rfl) (by kernel_rfl) (fun _ _ _ h => h) (Or.inl ⟨by rfl, ?_⟩) (by assumption) ?_
      rotate_left 1
      · intro W hSw
        (try dsimp only at hSw)
        go_simp
        try with_reducible rfl
      (try simp only [Act.put, List.setIfInBounds_toArray, List.set_cons_zero, List.set_cons_succ])
      refine wpAnyH_take (i := 10) (oi := { dst := some 71, op := Op.pick (Operand.tmp 67) (Operand.const (Value.bool true)) (Operand.tmp 70), type := 4, pos := "law.go:394", after := #[{ on := 6, ground := Ground.data }, { on := 9, ground := Ground.data }, { on := 2, ground := Ground.guard }], guard := some (2, true) }) (v := ?_) rfl (by kernel_rfl) (by kernel_rfl) (by kernel_rfl) (fun _ _ _ h => h) (Or.inl ⟨by rfl, ?_⟩) (by assumption) ?_
      rotate_left 1
      · intro W hSw
        (try dsimp only at hSw)
        go_simp
        try with_reducible rfl
      (try simp only [Act.put, List.setIfInBounds_toArray, List.set_cons_zero, List.set_cons_succ])
      refine wpAnyH_take (i := 11) (oi := { dst := some 72, op := Op.pick (Operand.tmp 63) (Operand.tmp 71) (Operand.const (Value.bool false)), type := 4, pos := "law.go:394", after := #[{ on := 2, ground := Ground.data }, { on := 10, ground := Ground.data }], guard := none }) (v := ?_) rfl (by kernel_rfl) (by kernel_rfl) (by kernel_rfl) (fun _ _ _ h => h) (Or.inl ⟨by rfl, ?_⟩) (by assumption) ?_
      rotate_left 1
      · intro W hSw
        (try dsimp only at hSw)
        go_simp
        try with_reducible rfl
      (try simp only [Act.put, List.setIfInBounds_toArray, List.set_cons_zero, List.set_cons_succ])
      refine wpAnyH_take (i := 12) (oi := { dst := some 73, op := Op.move (Operand.tmp 72), type := 4, pos := "law.go:394", after := #[{ on := 11, ground := Ground.data }, { on := 8, ground := Ground.chain }], guard := none }) (v := ?_) rfl (by kernel_rfl) (by kernel_rfl) (by kernel_rfl) (fun _ _ _ h => h) (Or.inl ⟨by rfl, ?_⟩) (by assumption) ?_
      rotate_left 1
      · intro W hSw
        (try dsimp only at hSw)
        go_simp
        try with_reducible rfl
      (try simp only [Act.put, List.setIfInBounds_toArray, List.set_cons_zero, List.set_cons_succ])
      refine wpAnyH_take (i := 13) (oi := { dst := some 74, op := Op.move (Operand.tmp 12), type := 3, pos := "law.go:394", after := #[{ on := 12, ground := Ground.guard }], guard := some (12, false) }) (v := ?_) rfl (by kernel_rfl) (by kernel_rfl) (by kernel_rfl) (fun _ _ _ h => h) (Or.inl ⟨by rfl, ?_⟩) (by assumption) ?_
      rotate_left 1
      · intro W hSw
        (try dsimp only at hSw)
        go_simp
        try with_reducible rfl
      (try simp only [Act.put, List.setIfInBounds_toArray, List.set_cons_zero, List.set_cons_succ])
      refine wpAnyH_take (i := 14) (oi := { dst := some 75, op := Op.binOp BinOp.eql 3 (Operand.tmp 74) (Operand.const (Value.int IntKind.i64 0)) 3, type := 4, pos := "law.go:394", after := #[{ on := 13, ground := Ground.data }, { on := 12, ground := Ground.guard }], guard := some (12, false) }) (v := ?_) rfl (by kernel_rfl) (by kernel_rfl) (by kernel_rfl) (fun _ _ _ h => h) (Or.inl ⟨by rfl, ?_⟩) (by assumption) ?_
      rotate_left 1
      · intro W hSw
        (try dsimp only at hSw)
        go_simp
        try with_reducible rfl
      (try simp only [Act.put, List.setIfInBounds_toArray, List.set_cons_zero, List.set_cons_succ])
      refine wpAnyH_take (i := 15) (oi := { dst := some 76, op := Op.move (Operand.tmp 75), type := 4, pos := "law.go:394", after := #[{ on := 14, ground := Ground.data }, { on := 12, ground := Ground.chain }, { on := 12, ground := Ground.guard }], guard := some (12, false) }) (v := ?_) rfl (by kernel_rfl) (by kernel_rfl) (by kernel_rfl) (fun _ _ _ h => h) (Or.inl ⟨by rfl, ?_⟩) (by assumption) ?_
      rotate_left 1
      · intro W hSw
        (try dsimp only at hSw)
        go_simp
        try with_reducible rfl
      (try simp only [Act.put, List.setIfInBounds_toArray, List.set_cons_zero, List.set_cons_succ])
      refine wpAnyH_take (i := 16) (oi := { dst := some 77, op := Op.move (Operand.tmp 10), type := 32, pos := "law.go:394", after := #[{ on := 15, ground := Ground.guard }], guard := some (15, true) }) (v := undef) rfl (by kernel_rfl) (by kernel_rfl) (by kernel_rfl) (fun _ _ _ h => h) (Or.inr ⟨by rfl, rfl⟩) (by assumption) ?_
      (try simp only [Act.put, List.setIfInBounds_toArray, List.set_cons_zero, List.set_cons_succ])
      refine wpAnyH_take (i := 17) (oi := { dst := some 78, op := Op.binOp BinOp.neq 32 (Operand.tmp 77) (Operand.const (Value.int IntKind.i64 0)) 32, type := 4, pos := "law.go:394", after := #[{ on := 16, ground := Ground.data }, { on := 15, ground := Ground.guard }], guard := some (15, true) }) (v := undef) rfl (by kernel_rfl) (by kernel_rfl) (by kernel_rfl) (fun _ _ _ h => h) (Or.inr ⟨by rfl, rfl⟩) (by assumption) ?_
      (try simp only [Act.put, List.setIfInBounds_toArray, List.set_cons_zero, List.set_cons_succ])
      refine wpAnyH_take (i := 18) (oi := { dst := some 79, op := Op.move (Operand.tmp 78), type := 4, pos := "law.go:394", after := #[{ on := 17, ground := Ground.data }, { on := 15, ground := Ground.chain }, { on := 15, ground := Ground.guard }], guard := some (15, true) }) (v := undef) rfl (by kernel_rfl) (by kernel_rfl) (by kernel_rfl) (fun _ _ _ h => h) (Or.inr ⟨by rfl, rfl⟩) (by assumption) ?_
      (try simp only [Act.put, List.setIfInBounds_toArray, List.set_cons_zero, List.set_cons_succ])
      refine wpAnyH_take (i := 19) (oi := { dst := some 80, op := Op.load 50 (Operand.tmp 9), type := 50, pos := "law.go:394", after := #[{ on := 18, ground := Ground.guard }], guard := some (18, false) }) (v := undef) rfl (by kernel_rfl) (by kernel_rfl) (by kernel_rfl) (fun _ _ _ h => h) (Or.inr ⟨by rfl, rfl⟩) (by assumption) ?_
      (try simp only [Act.put, List.setIfInBounds_toArray, List.set_cons_zero, List.set_cons_succ])
      refine wpAnyH_take (i := 20) (oi := { dst := some 81, op := Op.load 46 (Operand.tmp 3), type := 46, pos := "law.go:394", after := #[{ on := 18, ground := Ground.guard }], guard := some (18, false) }) (v := undef) rfl (by kernel_rfl) (by kernel_rfl) (by kernel_rfl) (fun _ _ _ h => h) (Or.inr ⟨by rfl, rfl⟩) (by assumption) ?_
      (try simp only [Act.put, List.setIfInBounds_toArray, List.set_cons_zero, List.set_cons_succ])
      refine wpAnyH_take (i := 21) (oi := { dst := some 82, op := Op.call { callee := Callee.value (Operand.func 15), args := #[Operand.tmp 81], argTypes := #[46] }, type := 50, pos := "law.go:394", after := #[{ on := 20, ground := Ground.data }, { on := 18, ground := Ground.chain }, { on := 18, ground := Ground.guard }], guard := some (18, false) }) (v := undef) rfl (by kernel_rfl) (by kernel_rfl) (by kernel_rfl) (fun _ _ _ h => h) (Or.inr ⟨by rfl, rfl⟩) (by assumption) ?_
      (try simp only [Act.put, List.setIfInBounds_toArray, List.set_cons_zero, List.set_cons_succ])
      refine wpAnyH_take (i := 22) (oi := { dst := some 83, op := Op.load 59 (Operand.tmp 5), type := 59, pos := "law.go:394", after := #[{ on := 18, ground := Ground.guard }], guard := some (18, false) }) (v := undef) rfl (by kernel_rfl) (by kernel_rfl) (by kernel_rfl) (fun _ _ _ h => h) (Or.inr ⟨by rfl, rfl⟩) (by assumption) ?_
      (try simp only [Act.put, List.setIfInBounds_toArray, List.set_cons_zero, List.set_cons_succ])
      refine wpAnyH_take (i := 23) (oi := { dst := some 84, op := Op.call { callee := Callee.value (Operand.func 22), args := #[Operand.tmp 82, Operand.tmp 83], argTypes := #[50, 59] }, type := 50, pos := "law.go:394", after := #[{ on := 21, ground := Ground.data }, { on := 22, ground := Ground.data }, { on := 21, ground := Ground.chain }, { on := 18, ground := Ground.guard }], guard := some (18, false) }) (v := undef) rfl (by kernel_rfl) (by kernel_rfl) (by kernel_rfl) (fun _ _ _ h => h) (Or.inr ⟨by rfl, rfl⟩) (by assumption) ?_
      (try simp only [Act.put, List.setIfInBounds_toArray, List.set_cons_zero, List.set_cons_succ])
      refine wpAnyH_take (i := 24) (oi := { dst := some 85, op := Op.call { callee := Callee.value (Operand.func 21), args := #[Operand.tmp 80, Operand.tmp 84], argTypes := #[50, 50] }, type := 4, pos := "law.go:394", after := #[{ on := 19, ground := Ground.data }, { on := 23, ground := Ground.data }, { on := 23, ground := Ground.chain }, { on := 18, ground := Ground.guard }], guard := some (18, false) }) (v := undef) rfl (by kernel_rfl) (by kernel_rfl) (by kernel_rfl) (fun _ _ _ h => h) (Or.inr ⟨by rfl, rfl⟩) (by assumption) ?_
      (try simp only [Act.put, List.setIfInBounds_toArray, List.set_cons_zero, List.set_cons_succ])
      refine wpAnyH_take (i := 25) (oi := { dst := some 86, op := Op.unOp UnOp.not 4 (Operand.tmp 85), type := 4, pos := "law.go:394", after := #[{ on := 24, ground := Ground.data }, { on := 18, ground := Ground.guard }], guard := some (18, false) }) (v := undef) rfl (by kernel_rfl) (by kernel_rfl) (by kernel_rfl) (fun _ _ _ h => h) (Or.inr ⟨by rfl, rfl⟩) (by assumption) ?_
      (try simp only [Act.put, List.setIfInBounds_toArray, List.set_cons_zero, List.set_cons_succ])
      refine wpAnyH_take (i := 26) (oi := { dst := some 87, op := Op.pick (Operand.tmp 79) (Operand.const (Value.bool true)) (Operand.tmp 86), type := 4, pos := "law.go:394", after := #[{ on := 18, ground := Ground.data }, { on := 25, ground := Ground.data }, { on := 15, ground := Ground.guard }], guard := some (15, true) }) (v := undef) rfl (by kernel_rfl) (by kernel_rfl) (by kernel_rfl) (fun _ _ _ h => h) (Or.inr ⟨by rfl, rfl⟩) (by assumption) ?_
      (try simp only [Act.put, List.setIfInBounds_toArray, List.set_cons_zero, List.set_cons_succ])
      refine wpAnyH_take (i := 27) (oi := { dst := some 88, op := Op.pick (Operand.tmp 76) (Operand.tmp 87) (Operand.const (Value.bool false)), type := 4, pos := "law.go:394", after := #[{ on := 15, ground := Ground.data }, { on := 26, ground := Ground.data }, { on := 12, ground := Ground.guard }], guard := some (12, false) }) (v := ?_) rfl (by kernel_rfl) (by kernel_rfl) (by kernel_rfl) (fun _ _ _ h => h) (Or.inl ⟨by rfl, ?_⟩) (by assumption) ?_
      rotate_left 1
      · intro W hSw
        (try dsimp only at hSw)
        go_simp
        try with_reducible rfl
      (try simp only [Act.put, List.setIfInBounds_toArray, List.set_cons_zero, List.set_cons_succ])
      refine wpAnyH_take (i := 28) (oi := { dst := some 89, op := Op.pick (Operand.tmp 73) (Operand.const (Value.bool true)) (Operand.tmp 88), type := 4, pos := "law.go:394", after := #[{ on := 12, ground := Ground.data }, { on := 27, ground := Ground.data }], guard := none }) (v := ?_) rfl (by kernel_rfl) (by kernel_rfl) (by kernel_rfl) (fun _ _ _ h => h) (Or.inl ⟨by rfl, ?_⟩) (by assumption) ?_
      rotate_left 1
      · intro W hSw
        (try dsimp only at hSw)
        go_simp
        try with_reducible rfl
      (try simp only [Act.put, List.setIfInBounds_toArray, List.set_cons_zero, List.set_cons_succ])
      refine wpAnyH_done (by kernel_rfl) ?_ _
      go_wp2_with fail
      go_meet
      case rel => exact ⟨rfl, Lib.hid (by repeat (first | with_reducible exact Below.refl _ _ | with_reducible refine Below.andThen ?_ hbI rfl | with_reducible refine Below.andThen ?_ hbJ rfl | with_reducible refine Below.andThen ?_ hbC rfl | with_reducible refine Below.andThen ?_ hbD rfl | with_reducible refine Below.alloc1 ?_ _ rfl | with_reducible refine Below.drew ?_ | with_reducible refine Below.set3 ?_ (by first | exact Nat.le_refl _ | exact hBI.size | exact hBJ.size | exact hBC.size) _ _ _))⟩
    obtain ⟨rfl, HBn⟩ := hcut
    obtain ⟨w9, rfl⟩ : ∃ w9 : World, w9 = wc := ⟨_, rfl⟩
    have SC9 := Lib.hid (SC8.out.next HBn.out)
    have BA9 := Lib.hid (BA8.out.next HBn.out)
    clear HBn SC8 BY8 BA8 BB8 CI8 k0 k1 k2 k3 kl y0 y1 yl g0 g1 g2 gl CNo
    obtain ⟨j0, j1, j2, j3, jl⟩ := four_cells SC9.out.b1
    go_wp2_with fail
    refine (CJ.out _ SC9.out.p').mono ?_
    rintro e w10 ⟨v10, rfl, hb, hsv⟩
    have SC10 := Lib.hid (SC9.out.next hb)
    have BA10 := Lib.hid (BA9.out.next hb)
    have V10 := Lib.hid hsv
    clear hb hsv SC9 BA9 j0 j1 j2 j3 jl
    obtain ⟨va10, vc10, rfl, -, -⟩ := V10.out.sl
    go_wp2_with fail
    refine (CQ.out _ _ V10.out).mono ?_
    rintro e w11 ⟨rfl, hb⟩
    have SC11 := Lib.hid (SC10.out.next hb)
    have BA11 := Lib.hid (BA10.out.next hb)
    clear hb V10 SC10 BA10
    rcases HRA2 with ⟨hD, -⟩ | ⟨-, hKn, rfl, rfl, rfl, hK⟩ | ⟨-, hK, CRA⟩
    · exact absurd rfl hD
    · subst hK
      have hk1 : (EA == 0) = false := by rw [beq_eq_false_iff_ne]; exact hKn
      have SCz := Lib.hid (SC11.out.next ((Below.refl _ _).alloc (Nat.le_refl _) (.cells #[.int .i64 0, .int .i64 0, .slice none 0 0] 50)))
      have BAz := Lib.hid (BA11.out.next ((Below.refl _ _).alloc (Nat.le_refl _) (.cells #[.int .i64 0, .int .i64 0, .slice none 0 0] 50)))
      have BZz : Hid (IBox 0 0 (.slice none 0 0) [] w11.heap.size (w11.alloc (.cells #[.int .i64 0, .int .i64 0, .slice none 0 0] 50))) := IBox.born (smp_nil32 _)
      have CZ := Lib.hid (SameImage_true 0 0 av (.slice none 0 0) [] _ BAz.out.smp.sl BZz.out.smp.sl)
      obtain ⟨aa, ac, rfl, -, -⟩ := BAz.out.smp.sl
      obtain ⟨h0, h1, h2, -, -, -, hl2⟩ := three_cells BAz.out.blk
      obtain ⟨r0, r1, r2, -, -, -, rl2⟩ := three_cells BZz.out.blk
      go_wp2_with fail
      refine CZ.out.mono ?_
      rintro e wE ⟨rfl, hb⟩
      have SCE := Lib.hid (SCz.out.next hb)
      go_wp2_with fail
      go_ret
      exact ⟨rfl, SCE.out.hb⟩
    · subst hK
      obtain ⟨k0, k1, k2, k3, kl⟩ := four_cells SC11.out.b0
      obtain ⟨j0, j1, j2, j3, jl⟩ := four_cells SC11.out.b1
      have CI11 := Lib.hid (fun W (h : Below w11.heap.size w11 W) => CI.out W (SC11.out.p.below h))
      have CJ11 := Lib.hid (fun W (h : Below w11.heap.size w11 W) => CJ.out W (SC11.out.p'.below h))
      go_wp2_with fail
      go_cut [13] from 15 (fun s1 wx => ∃ rv, s1 = .int .i64 EA ∧ Hid (Below w11.heap.size w11 wx) ∧ Hid (IBox la sa rv A w11.heap.size wx))
      case first =>
        go_region_held3 (fun W => W.cell? ⟨w.heap.size, 0, none⟩ = some (.int .i64 l) ∧ W.cell? ⟨w.heap.size, 1, none⟩ = some (.int .i64 s) ∧ W.cell? ⟨w.heap.size, 2, none⟩ = some (.slice pa np pc) ∧ W.cell? ⟨w.heap.size, 3, none⟩ = some (.slice ca nc cc) ∧ W.cell? ⟨w.heap.size + 1, 0, none⟩ = some (.int .i64 l') ∧ W.cell? ⟨w.heap.size + 1, 1, none⟩ = some (.int .i64 s') ∧ W.cell? ⟨w.heap.size + 1, 2, none⟩ = some (.slice ra nr rc) ∧ W.cell? ⟨w.heap.size + 1, 3, none⟩ = some (.slice da nd dc)) (with_reducible refine ⟨Below.keepc ?_ k0, Below.keepc ?_ k1, Below.keepc ?_ k2, Below.keepc ?_ k3, Below.keepc ?_ j0, Below.keepc ?_ j1, Below.keepc ?_ j2, Below.keepc ?_ j3⟩ <;> (repeat (first | with_reducible exact Below.refl _ _ | with_reducible refine Below.andThen ?_ hbI rfl | with_reducible refine Below.andThen ?_ hbJ rfl | with_reducible refine Below.andThen ?_ hbC rfl | with_reducible refine Below.andThen ?_ hbD rfl | with_reducible refine Below.alloc1 ?_ _ rfl | with_reducible refine Below.drew ?_ | with_reducible refine Below.set3 ?_ (by first | exact Nat.le_refl _ | exact hBI.size | exact hBJ.size | exact hBC.size) _ _ _)) <;> done)
          (first
            | (go_at_call 15; (with_reducible refine (CI11.out _ (by repeat (first | with_reducible exact Below.refl _ _ | with_reducible refine Below.andThen ?_ hbI rfl | with_reducible refine Below.andThen ?_ hbJ rfl | with_reducible refine Below.andThen ?_ hbC rfl | with_reducible refine Below.andThen ?_ hbD rfl | with_reducible refine Below.alloc1 ?_ _ rfl | with_reducible refine Below.drew ?_ | with_reducible refine Below.set3 ?_ (by first | exact Nat.le_refl _ | exact hBI.size | exact hBJ.size | exact hBC.size) _ _ _))).mono ?_); rintro e wI ⟨vI, rfl, hbI, hsI⟩; obtain ⟨iaI, icI, rfl, -, -⟩ := hsI.sl; have hBI : Below w11.heap.size w11 wI := (by repeat (first | with_reducible exact Below.refl _ _ | with_reducible refine Below.andThen ?_ hbI rfl | with_reducible refine Below.andThen ?_ hbJ rfl | with_reducible refine Below.andThen ?_ hbC rfl | with_reducible refine Below.andThen ?_ hbD rfl | with_reducible refine Below.alloc1 ?_ _ rfl | with_reducible refine Below.drew ?_ | with_reducible refine Below.set3 ?_ (by first | exact Nat.le_refl _ | exact hBI.size | exact hBJ.size | exact hBC.size) _ _ _)); first | (have qb := box_after_drew hbI; obtain ⟨q0, q1, q2, f0, f1, f2, ql⟩ := three_cells qb) | (have qb := box_after hbI; obtain ⟨q0, q1, q2, f0, f1, f2, ql⟩ := three_cells qb) | (have qb := (hbI.block _ (lt_of_block qb)).trans qb; obtain ⟨q0, q1, q2, f0, f1, f2, ql⟩ := three_cells qb) | skip)
            | (go_at_call 15; (with_reducible refine (CJ11.out _ (by repeat (first | with_reducible exact Below.refl _ _ | with_reducible refine Below.andThen ?_ hbI rfl | with_reducible refine Below.andThen ?_ hbJ rfl | with_reducible refine Below.andThen ?_ hbC rfl | with_reducible refine Below.andThen ?_ hbD rfl | with_reducible refine Below.alloc1 ?_ _ rfl | with_reducible refine Below.drew ?_ | with_reducible refine Below.set3 ?_ (by first | exact Nat.le_refl _ | exact hBI.size | exact hBJ.size | exact hBC.size) _ _ _))).mono ?_); rintro e wJ ⟨vJ, rfl, hbJ, hsJ⟩; obtain ⟨iaJ, icJ, rfl, -, -⟩ := hsJ.sl; have hBJ : Below w11.heap.size w11 wJ := (by repeat (first | with_reducible exact Below.refl _ _ | with_reducible refine Below.andThen ?_ hbI rfl | with_reducible refine Below.andThen ?_ hbJ rfl | with_reducible refine Below.andThen ?_ hbC rfl | with_reducible refine Below.andThen ?_ hbD rfl | with_reducible refine Below.alloc1 ?_ _ rfl | with_reducible refine Below.drew ?_ | with_reducible refine Below.set3 ?_ (by first | exact Nat.le_refl _ | exact hBI.size | exact hBJ.size | exact hBC.size) _ _ _)); first | (have qb := box_after_drew hbJ; obtain ⟨q0, q1, q2, f0, f1, f2, ql⟩ := three_cells qb) | (have qb := box_after hbJ; obtain ⟨q0, q1, q2, f0, f1, f2, ql⟩ := three_cells qb) | (have qb := (hbJ.block _ (lt_of_block qb)).trans qb; obtain ⟨q0, q1, q2, f0, f1, f2, ql⟩ := three_cells qb) | skip)
            | (go_at_call 23; (with_reducible refine (CRA.out _ _ _ (by repeat (first | exact hsI | exact hsJ | refine Smp.alloc ?_ _ | refine Smp.drew ?_ | refine Smp.below ?_ hbI | refine Smp.below ?_ hbJ)) (by repeat (first | exact hsI | exact hsJ | refine Smp.alloc ?_ _ | refine Smp.drew ?_ | refine Smp.below ?_ hbI | refine Smp.below ?_ hbJ))).mono ?_); rintro e wC ⟨fv, rfl, hbC, hf⟩; obtain ⟨fa, fc, rfl, hfl, -⟩ := hf.sl; have hBC : Below w11.heap.size w11 wC := (by repeat (first | with_reducible exact Below.refl _ _ | with_reducible refine Below.andThen ?_ hbI rfl | with_reducible refine Below.andThen ?_ hbJ rfl | with_reducible refine Below.andThen ?_ hbC rfl | with_reducible refine Below.andThen ?_ hbD rfl | with_reducible refine Below.alloc1 ?_ _ rfl | with_reducible refine Below.drew ?_ | with_reducible refine Below.set3 ?_ (by first | exact Nat.le_refl _ | exact hBI.size | exact hBJ.size | exact hBC.size) _ _ _)); first | (have qb := box_after_drew hbC; obtain ⟨q0, q1, q2, f0, f1, f2, ql⟩ := three_cells qb) | (have qb := box_after hbC; obtain ⟨q0, q1, q2, f0, f1, f2, ql⟩ := three_cells qb) | (have qb := (hbC.block _ (lt_of_block qb)).trans qb; obtain ⟨q0, q1, q2, f0, f1, f2, ql⟩ := three_cells qb) | skip))
        all_goals
          go_wp2_with fail
          go_meet
          case rel => exact ⟨_, rfl, Lib.hid (Below.set3 hBC (Nat.le_refl _) _ _ _), Lib.hid (IBox.made qb hf)⟩
      obtain ⟨rv, rfl, HBn, BR⟩ := hcut
      obtain ⟨w12, rfl⟩ : ∃ w12 : World, w12 = wc := ⟨_, rfl⟩
      have SC12 := Lib.hid (SC11.out.next HBn.out)
      have BA12 := Lib.hid (BA11.out.next HBn.out)
      clear HBn SC11 BA11 CI11 CJ11 CRA k0 k1 k2 k3 kl j0 j1 j2 j3 jl
      have CZ := Lib.hid (SameImage_true la sa av rv A w12 BA12.out.smp.sl BR.out.smp.sl)
      obtain ⟨aa, ac, rfl, -, -⟩ := BA12.out.smp.sl
      obtain ⟨ra2, rc2, rfl, -, -⟩ := BR.out.smp.sl
      obtain ⟨h0, h1, h2, -, -, -, hl2⟩ := three_cells BA12.out.blk
      obtain ⟨r0, r1, r2, -, -, -, rl2⟩ := three_cells BR.out.blk
      go_wp2_with fail
      refine CZ.out.mono ?_
      rintro e wE ⟨rfl, hb⟩
      have SCE := Lib.hid (SC12.out.next hb)
      go_wp2_with fail
      go_ret
      exact ⟨rfl, SCE.out.hb⟩
  · subst hD hES
    rw [decide_eq_true h1] at CW1
    rw [decide_eq_true h2] at CW2
    have CSame := Lib.hid (fun W u (h : Below w8.heap.size w8 W) (hu : Smp .f32 B W u) => SameImage_true ls ss (.slice ba nb bc) u B W (BB8.out.smp.below h).sl hu.sl)
    go_wp2_with fail
    refine (CW1.out _).mono ?_
    rintro e w' ⟨rfl, rfl⟩
    go_wp2_with fail
    refine (CW2.out _).mono ?_
    rintro e w' ⟨rfl, rfl⟩
    go_wp2_with fail
    go_cut [89] from 15 (fun s1 wx => s1 = .bool false ∧ Hid (Below w8.heap.size w8 wx))
    case first =>
      clear HRA2 CJ CQ CR CI CW1 CW2
      refine wp_region_held_drew (S := (fun W => W.cell? ⟨b9, 0, none⟩ = some (.int .i64 ls) ∧ W.cell? ⟨b9, 1, none⟩ = some (.int .i64 ss) ∧ W.cell? ⟨b9, 2, none⟩ = some (.slice ba nb bc) ∧ W.cell? ⟨w.heap.size, 0, none⟩ = some (.int .i64 l) ∧ W.cell? ⟨w.heap.size, 1, none⟩ = some (.int .i64 s) ∧ W.cell? ⟨w.heap.size, 2, none⟩ = some (.slice pa np pc) ∧ W.cell? ⟨w.heap.size, 3, none⟩ = some (.slice ca nc cc) ∧ W.cell? ⟨w.heap.size + 1 + 1, 0, none⟩ = some (.int .i64 a) ∧ W.cell? ⟨w.heap.size + 1 + 1, 1, none⟩ = some (.int .i64 b))) (by kernel_rfl) ?_ (fun hHeld => ?_)
      · (with_reducible refine ⟨Below.keepc ?_ g0, Below.keepc ?_ g1, Below.keepc ?_ g2, Below.keepc ?_ k0, Below.keepc ?_ k1, Below.keepc ?_ k2, Below.keepc ?_ k3, Below.keepc ?_ y0, Below.keepc ?_ y1⟩ <;> (repeat (first | with_reducible exact Below.refl _ _ | with_reducible refine Below.andThen ?_ hbI rfl | with_reducible refine Below.andThen ?_ hbJ rfl | with_reducible refine Below.andThen ?_ hbC rfl | with_reducible refine Below.andThen ?_ hbD rfl | with_reducible refine Below.alloc1 ?_ _ rfl | with_reducible refine Below.drew ?_ | with_reducible refine Below.set3 ?_ (by first | exact Nat.le_refl _ | exact hBI.size | exact hBJ.size | exact hBC.size) _ _ _)) <;> done)
      refine wpAnyH_take (i := 0) (oi := { dst := some 61, op := Op.move (Operand.tmp 12), type := 3, pos := "law.go:394", after := #[], guard := none }) (v := ?_) rfl (by kernel_rfl) (by kernel_rfl) (by kernel_rfl) (fun _ _ _ h => h) (Or.inl ⟨by rfl, ?_⟩) (by assumption) ?_
      rotate_left 1
      · intro W hSw
        (try dsimp only at hSw)
        go_simp
        try with_reducible rfl
      (try simp only [Act.put, List.setIfInBounds_toArray, List.set_cons_zero, List.set_cons_succ])
      refine wpAnyH_take (i := 1) (oi := { dst := some 62, op := Op.binOp BinOp.neq 3 (Operand.tmp 61) (Operand.const (Value.int IntKind.i64 0)) 3, type := 4, pos := "law.go:394", after := #[{ on := 0, ground := Ground.data }], guard := none }) (v := ?_) rfl (by kernel_rfl) (by kernel_rfl) (by kernel_rfl) (fun _ _ _ h => h) (Or.inl ⟨by rfl, ?_⟩) (by assumption) ?_
      rotate_left 1
      · intro W hSw
        (try dsimp only at hSw)
        go_simp
        try with_reducible rfl
      (try simp only [Act.put, List.setIfInBounds_toArray, List.set_cons_zero, List.set_cons_succ])
      refine wpAnyH_take (i := 2) (oi := { dst := some 63, op := Op.move (Operand.tmp 62), type := 4, pos := "law.go:394", after := #[{ on := 1, ground := Ground.data }], guard := none }) (v := ?_) rfl (by kernel_rfl) (by kernel_rfl) (by kernel_rfl) (fun _ _ _ h => h) (Or.inl ⟨by rfl, ?_⟩) (by assumption) ?_
      rotate_left 1
      · intro W hSw
        (try dsimp only at hSw)
        go_simp
        try with_reducible rfl
      (try simp only [Act.put, List.setIfInBounds_toArray, List.set_cons_zero, List.set_cons_succ])
      refine wpAnyH_take (i := 3) (oi := { dst := some 64, op := Op.move (Operand.tmp 10), type := 32, pos := "law.go:394", after := #[{ on := 2, ground := Ground.guard }], guard := some (2, true) }) (v := undef) rfl (by kernel_rfl) (by kernel_rfl) (by kernel_rfl) (fun _ _ _ h => h) (Or.inr ⟨by rfl, rfl⟩) (by assumption) ?_
      (try simp only [Act.put, List.setIfInBounds_toArray, List.set_cons_zero, List.set_cons_succ])
      refine wpAnyH_take (i := 4) (oi := { dst := some 65, op := Op.move (Operand.tmp 12), type := 3, pos := "law.go:394", after := #[{ on := 2, ground := Ground.guard }], guard := some (2, true) }) (v := undef) rfl (by kernel_rfl) (by kernel_rfl) (by kernel_rfl) (fun _ _ _ h => h) (Or.inr ⟨by rfl, rfl⟩) (by assumption) ?_
      (try simp only [Act.put, List.setIfInBounds_toArray, List.set_cons_zero, List.set_cons_succ])
      refine wpAnyH_take (i := 5) (oi := { dst := some 66, op := Op.binOp BinOp.neq 3 (Operand.tmp 64) (Operand.tmp 65) 3, type := 4, pos := "law.go:394", after := #[{ on := 3, ground := Ground.data }, { on := 4, ground := Ground.data }, { on := 2, ground := Ground.guard }], guard := some (2, true) }) (v := undef) rfl (by kernel_rfl) (by kernel_rfl) (by kernel_rfl) (fun _ _ _ h => h) (Or.inr ⟨by rfl, rfl⟩) (by assumption) ?_
      (try simp only [Act.put, List.setIfInBounds_toArray, List.set_cons_zero, List.set_cons_succ])
      refine wpAnyH_take (i := 6) (oi := { dst := some 67, op := Op.move (Operand.tmp 66), type := 4, pos := "law.go:394", after := #[{ on := 5, ground := Ground.data }, { on := 2, ground := Ground.chain }, { on := 2, ground := Ground.guard }], guard := some (2, true) }) (v := undef) rfl (by kernel_rfl) (by kernel_rfl) (by kernel_rfl) (fun _ _ _ h => h) (Or.inr ⟨by rfl, rfl⟩) (by assumption) ?_
      (try simp only [Act.put, List.setIfInBounds_toArray, List.set_cons_zero, List.set_cons_succ])
      refine wpAnyH_take (i := 7) (oi := { dst := some 68, op := Op.load 50 (Operand.tmp 9), type := 50, pos := "law.go:394", after := #[{ on := 6, ground := Ground.guard }], guard := some (6, false) }) (v := undef) rfl (by kernel_rfl) (by kernel_rfl) (by kernel_rfl) (fun _ _ _ h => h) (Or.inr ⟨by rfl, rfl⟩) (by assumption) ?_
      (try simp only [Act.put, List.setIfInBounds_toArray, List.set_cons_zero, List.set_cons_succ])
      refine wpAnyH_take (i := 8) (oi := { dst := some 69, op := Op.call { callee := Callee.value (Operand.func 20), args := #[Operand.tmp 68], argTypes := #[50] }, type := 4, pos := "law.go:394", after := #[{ on := 7, ground := Ground.data }, { on := 6, ground := Ground.chain }, { on := 6, ground := Ground.guard }], guard := some (6, false) }) (v := undef) rfl (by kernel_rfl) (by kernel_rfl) (by kernel_rfl) (fun _ _ _ h => h) (Or.inr ⟨by rfl, rfl⟩) (by assumption) ?_
      (try simp only [Act.put, List.setIfInBounds_toArray, List.set_cons_zero, List.set_cons_succ])
      refine wpAnyH_take (i := 9) (oi := { dst := some 70, op := Op.unOp UnOp.not 4 (Operand.tmp 69), type := 4, pos := "law.go:394", after := #[{ on := 8, ground := Ground.data }, { on := 6, ground := Ground.guard }], guard := some (6, false) }) (v := undef) rfl (by kernel_rfl) (by kernel_rfl) (by kernel_rfl) (fun _ _ _ h => h) (Or.inr ⟨by rfl, rfl⟩) (by assumption) ?_
      (try simp only [Act.put, List.setIfInBounds_toArray, List.set_cons_zero, List.set_cons_succ])
      refine wpAnyH_take (i := 10) (oi := { dst := some 71, op := Op.pick (Operand.tmp 67) (Operand.const (Value.bool true)) (Operand.tmp 70), type := 4, pos := "law.go:394", after := #[{ on := 6, ground := Ground.data }, { on := 9, ground := Ground.data }, { on := 2, ground := Ground.guard }], guard := some (2, true) }) (v := undef) rfl (by kernel_rfl) (by kernel_rfl) (by kernel_rfl) (fun _ _ _ h => h) (Or.inr ⟨by rfl, rfl⟩) (by assumption) ?_
      (try simp only [Act.put, List.setIfInBounds_toArray, List.set_cons_zero, List.set_cons_succ])
      refine wpAnyH_take (i := 11) (oi := { dst := some 72, op := Op.pick (Operand.tmp 63) (Operand.tmp 71) (Operand.const (Value.bool false)), type := 4, pos := "law.go:394", after := #[{ on := 2, ground := Ground.data }, { on := 10, ground := Ground.data }], guard := none }) (v := ?_) rfl (by kernel_rfl) (by kernel_rfl) (by kernel_rfl) (fun _ _ _ h => h) (Or.inl ⟨by rfl, ?_⟩) (by assumption) ?_
      rotate_left 1
      · intro W hSw
        (try dsimp only at hSw)
        go_simp
        try with_reducible rfl
      (try simp only [Act.put, List.setIfInBounds_toArray, List.set_cons_zero, List.set_cons_succ])
      refine wpAnyH_take (i := 12) (oi := { dst := some 73, op := Op.move (Operand.tmp 72), type := 4, pos := "law.go:394", after := #[{ on := 11, ground := Ground.data }, { on := 8, ground := Ground.chain }], guard := none }) (v := ?_) rfl (by kernel_rfl) (by kernel_rfl) (by kernel_rfl) (fun _ _ _ h => h) (Or.inl ⟨by rfl, ?_⟩) (by assumption) ?_
      rotate_left 1
      · intro W hSw
        (try dsimp only at hSw)
        go_simp
        try with_reducible rfl
      (try simp only [Act.put, List.setIfInBounds_toArray, List.set_cons_zero, List.set_cons_succ])
      refine wpAnyH_take (i := 13) (oi := { dst := some 74, op := Op.move (Operand.tmp 12), type := 3, pos := "law.go:394", after := #[{ on := 12, ground := Ground.guard }], guard := some (12, false) }) (v := ?_) rfl (by kernel_rfl) (by kernel_rfl) (by kernel_rfl) (fun _ _ _ h => h) (Or.inl ⟨by rfl, ?_⟩) (by assumption) ?_
      rotate_left 1
      · intro W hSw
        (try dsimp only at hSw)
        go_simp
        try with_reducible rfl
      (try simp only [Act.put, List.setIfInBounds_toArray, List.set_cons_zero, List.set_cons_succ])
      refine wpAnyH_take (i := 14) (oi := { dst := some 75, op := Op.binOp BinOp.eql 3 (Operand.tmp 74) (Operand.const (Value.int IntKind.i64 0)) 3, type := 4, pos := "law.go:394", after := #[{ on := 13, ground := Ground.data }, { on := 12, ground := Ground.guard }], guard := some (12, false) }) (v := ?_) rfl (by kernel_rfl) (by kernel_rfl) (by kernel_rfl) (fun _ _ _ h => h) (Or.inl ⟨by rfl, ?_⟩) (by assumption) ?_
      rotate_left 1
      · intro W hSw
        (try dsimp only at hSw)
        go_simp
        try with_reducible rfl
      (try simp only [Act.put, List.setIfInBounds_toArray, List.set_cons_zero, List.set_cons_succ])
      refine wpAnyH_take (i := 15) (oi := { dst := some 76, op := Op.move (Operand.tmp 75), type := 4, pos := "law.go:394", after := #[{ on := 14, ground := Ground.data }, { on := 12, ground := Ground.chain }, { on := 12, ground := Ground.guard }], guard := some (12, false) }) (v := ?_) rfl (by kernel_rfl) (by kernel_rfl) (by kernel_rfl) (fun _ _ _ h => h) (Or.inl ⟨by rfl, ?_⟩) (by assumption) ?_
      rotate_left 1
      · intro W hSw
        (try dsimp only at hSw)
        go_simp
        try with_reducible rfl
      (try simp only [Act.put, List.setIfInBounds_toArray, List.set_cons_zero, List.set_cons_succ])
      refine wpAnyH_take (i := 16) (oi := { dst := some 77, op := Op.move (Operand.tmp 10), type := 32, pos := "law.go:394", after := #[{ on := 15, ground := Ground.guard }], guard := some (15, true) }) (v := ?_) rfl (by kernel_rfl) (by kernel_rfl) (by kernel_rfl) (fun _ _ _ h => h) (Or.inl ⟨by rfl, ?_⟩) (by assumption) ?_
      rotate_left 1
      · intro W hSw
        (try dsimp only at hSw)
        go_simp
        try with_reducible rfl
      (try simp only [Act.put, List.setIfInBounds_toArray, List.set_cons_zero, List.set_cons_succ])
      refine wpAnyH_take (i := 17) (oi := { dst := some 78, op := Op.binOp BinOp.neq 32 (Operand.tmp 77) (Operand.const (Value.int IntKind.i64 0)) 32, type := 4, pos := "law.go:394", after := #[{ on := 16, ground := Ground.data }, { on := 15, ground := Ground.guard }], guard := some (15, true) }) (v := ?_) rfl (by kernel_rfl) (by kernel_rfl) (by kernel_rfl) (fun _ _ _ h => h) (Or.inl ⟨by rfl, ?_⟩) (by assumption) ?_
      rotate_left 1
      · intro W hSw
        (try dsimp only at hSw)
        go_simp
        try with_reducible rfl
      (try simp only [Act.put, List.setIfInBounds_toArray, List.set_cons_zero, List.set_cons_succ])
      refine wpAnyH_take (i := 18) (oi := { dst := some 79, op := Op.move (Operand.tmp 78), type := 4, pos := "law.go:394", after := #[{ on := 17, ground := Ground.data }, { on := 15, ground := Ground.chain }, { on := 15, ground := Ground.guard }], guard := some (15, true) }) (v := ?_) rfl (by kernel_rfl) (by kernel_rfl) (by kernel_rfl) (fun _ _ _ h => h) (Or.inl ⟨by rfl, ?_⟩) (by assumption) ?_
      rotate_left 1
      · intro W hSw
        (try dsimp only at hSw)
        go_simp
        try with_reducible rfl
      (try simp only [Act.put, List.setIfInBounds_toArray, List.set_cons_zero, List.set_cons_succ])
      refine wpAnyH_take (i := 19) (oi := { dst := some 80, op := Op.load 50 (Operand.tmp 9), type := 50, pos := "law.go:394", after := #[{ on := 18, ground := Ground.guard }], guard := some (18, false) }) (v := ?_) rfl (by kernel_rfl) (by kernel_rfl) (by kernel_rfl) (fun _ _ _ h => h) (Or.inl ⟨by rfl, ?_⟩) (by assumption) ?_
      rotate_left 1
      · intro W hSw
        (try dsimp only at hSw)
        go_simp
        try with_reducible rfl
      (try simp only [Act.put, List.setIfInBounds_toArray, List.set_cons_zero, List.set_cons_succ])
      refine wpAnyH_take (i := 20) (oi := { dst := some 81, op := Op.load 46 (Operand.tmp 3), type := 46, pos := "law.go:394", after := #[{ on := 18, ground := Ground.guard }], guard := some (18, false) }) (v := ?_) rfl (by kernel_rfl) (by kernel_rfl) (by kernel_rfl) (fun _ _ _ h => h) (Or.inl ⟨by rfl, ?_⟩) (by assumption) ?_
      rotate_left 1
      · intro W hSw
        (try dsimp only at hSw)
        go_simp
        try with_reducible rfl
      (try simp only [Act.put, List.setIfInBounds_toArray, List.set_cons_zero, List.set_cons_succ])
      refine wpAnyH_take (i := 22) (oi := { dst := some 83, op := Op.load 59 (Operand.tmp 5), type := 59, pos := "law.go:394", after := #[{ on := 18, ground := Ground.guard }], guard := some (18, false) }) (v := ?_) rfl (by kernel_rfl) (by kernel_rfl) (by kernel_rfl) (fun _ _ _ h => h) (Or.inl ⟨by rfl, ?_⟩) (by assumption) ?_
      rotate_left 1
      · intro W hSw
        (try dsimp only at hSw)
        go_simp
        try with_reducible rfl
      (try simp only [Act.put, List.setIfInBounds_toArray, List.set_cons_zero, List.set_cons_succ])
      refine wpAnyH_ready (rs := [21]) (by kernel_rfl) (by simp) ?_
      refine AllReadyH.cons (o := { dst := some 82, op := Op.call { callee := Callee.value (Operand.func 15), args := #[Operand.tmp 81], argTypes := #[46] }, type := 50, pos := "law.go:394", after := #[{ on := 20, ground := Ground.data }, { on := 18, ground := Ground.chain }, { on := 18, ground := Ground.guard }], guard := some (18, false) }) rfl (fun K hK => ?_) AllReadyH.nil
      go_simp
      go_at_call 15; (with_reducible refine (CI8.out _ (by repeat (first | with_reducible exact Below.refl _ _ | with_reducible refine Below.andThen ?_ hbI rfl | with_reducible refine Below.andThen ?_ hbJ rfl | with_reducible refine Below.andThen ?_ hbC rfl | with_reducible refine Below.andThen ?_ hbD rfl | with_reducible refine Below.alloc1 ?_ _ rfl | with_reducible refine Below.drew ?_ | with_reducible refine Below.set3 ?_ (by first | exact Nat.le_refl _ | exact hBI.size | exact hBJ.size | exact hBC.size) _ _ _))).mono ?_); rintro e wI ⟨vI, rfl, hbI, hsI⟩; obtain ⟨iaI, icI, rfl, -, -⟩ := hsI.sl; have hBI : Below w8.heap.size w8 wI := (by repeat (first | with_reducible exact Below.refl _ _ | with_reducible refine Below.andThen ?_ hbI rfl | with_reducible refine Below.andThen ?_ hbJ rfl | with_reducible refine Below.andThen ?_ hbC rfl | with_reducible refine Below.andThen ?_ hbD rfl | with_reducible refine Below.alloc1 ?_ _ rfl | with_reducible refine Below.drew ?_ | with_reducible refine Below.set3 ?_ (by first | exact Nat.le_refl _ | exact hBI.size | exact hBJ.size | exact hBC.size) _ _ _))
      refine hK.out _ _ ?_ (fun hHeld => ?_)
      · (with_reducible refine ⟨Below.keepc ?_ g0, Below.keepc ?_ g1, Below.keepc ?_ g2, Below.keepc ?_ k0, Below.keepc ?_ k1, Below.keepc ?_ k2, Below.keepc ?_ k3, Below.keepc ?_ y0, Below.keepc ?_ y1⟩ <;> (repeat (first | with_reducible exact Below.refl _ _ | with_reducible refine Below.andThen ?_ hbI rfl | with_reducible refine Below.andThen ?_ hbJ rfl | with_reducible refine Below.andThen ?_ hbC rfl | with_reducible refine Below.andThen ?_ hbD rfl | with_reducible refine Below.alloc1 ?_ _ rfl | with_reducible refine Below.drew ?_ | with_reducible refine Below.set3 ?_ (by first | exact Nat.le_refl _ | exact hBI.size | exact hBJ.size | exact hBC.size) _ _ _)) <;> done)
      clear hK K
      (try simp only [Act.put, List.setIfInBounds_toArray, List.set_cons_zero, List.set_cons_succ])
      refine wpAnyH_ready (rs := [23]) (by kernel_rfl) (by simp) ?_
      refine AllReadyH.cons (o := { dst := some 84, op := Op.call { callee := Callee.value (Operand.func 22), args := #[Operand.tmp 82, Operand.tmp 83], argTypes := #[50, 59] }, type := 50, pos := "law.go:394", after := #[{ on := 21, ground := Ground.data }, { on := 22, ground := Ground.data }, { on := 21, ground := Ground.chain }, { on := 18, ground := Ground.guard }], guard := some (18, false) }) rfl (fun K hK => ?_) AllReadyH.nil
      go_simp
      go_at_call 22; (with_reducible refine (CRS.out _ _ (by repeat (first | exact hsI | exact hsJ | refine Smp.alloc ?_ _ | refine Smp.drew ?_ | refine Smp.below ?_ hbI | refine Smp.below ?_ hbJ))).mono ?_); rintro e wC ⟨fv, rfl, hbC, hf⟩; obtain ⟨fa, fc, rfl, hfl, -⟩ := hf.sl; have hBC : Below w8.heap.size w8 wC := (by repeat (first | with_reducible exact Below.refl _ _ | with_reducible refine Below.andThen ?_ hbI rfl | with_reducible refine Below.andThen ?_ hbJ rfl | with_reducible refine Below.andThen ?_ hbC rfl | with_reducible refine Below.andThen ?_ hbD rfl | with_reducible refine Below.alloc1 ?_ _ rfl | with_reducible refine Below.drew ?_ | with_reducible refine Below.set3 ?_ (by first | exact Nat.le_refl _ | exact hBI.size | exact hBJ.size | exact hBC.size) _ _ _))
      refine hK.out _ _ ?_ (fun hHeld => ?_)
      · (with_reducible refine ⟨Below.keepc ?_ g0, Below.keepc ?_ g1, Below.keepc ?_ g2, Below.keepc ?_ k0, Below.keepc ?_ k1, Below.keepc ?_ k2, Below.keepc ?_ k3, Below.keepc ?_ y0, Below.keepc ?_ y1⟩ <;> (repeat (first | with_reducible exact Below.refl _ _ | with_reducible refine Below.andThen ?_ hbI rfl | with_reducible refine Below.andThen ?_ hbJ rfl | with_reducible refine Below.andThen ?_ hbC rfl | with_reducible refine Below.andThen ?_ hbD rfl | with_reducible refine Below.alloc1 ?_ _ rfl | with_reducible refine Below.drew ?_ | with_reducible refine Below.set3 ?_ (by first | exact Nat.le_refl _ | exact hBI.size | exact hBJ.size | exact hBC.size) _ _ _)) <;> done)
      clear hK K
      (try simp only [Act.put, List.setIfInBounds_toArray, List.set_cons_zero, List.set_cons_succ])
      refine wpAnyH_ready (rs := [24]) (by kernel_rfl) (by simp) ?_
      refine AllReadyH.cons (o := { dst := some 85, op := Op.call { callee := Callee.value (Operand.func 21), args := #[Operand.tmp 80, Operand.tmp 84], argTypes := #[50, 50] }, type := 4, pos := "law.go:394", after := #[{ on := 19, ground := Ground.data }, { on := 23, ground := Ground.data }, { on := 23, ground := Ground.chain }, { on := 18, ground := Ground.guard }], guard := some (18, false) }) rfl (fun K hK => ?_) AllReadyH.nil
      go_simp
      go_at_call 21; (with_reducible refine (CSame.out _ _ (by repeat (first | with_reducible exact Below.refl _ _ | with_reducible refine Below.andThen ?_ hbI rfl | with_reducible refine Below.andThen ?_ hbJ rfl | with_reducible refine Below.andThen ?_ hbC rfl | with_reducible refine Below.andThen ?_ hbD rfl | with_reducible refine Below.alloc1 ?_ _ rfl | with_reducible refine Below.drew ?_ | with_reducible refine Below.set3 ?_ (by first | exact Nat.le_refl _ | exact hBI.size | exact hBJ.size | exact hBC.size) _ _ _)) hf).mono ?_); rintro e wD ⟨rfl, hbD⟩; have hBD : Below w8.heap.size w8 wD := (by repeat (first | with_reducible exact Below.refl _ _ | with_reducible refine Below.andThen ?_ hbI rfl | with_reducible refine Below.andThen ?_ hbJ rfl | with_reducible refine Below.andThen ?_ hbC rfl | with_reducible refine Below.andThen ?_ hbD rfl | with_reducible refine Below.alloc1 ?_ _ rfl | with_reducible refine Below.drew ?_ | with_reducible refine Below.set3 ?_ (by first | exact Nat.le_refl _ | exact hBI.size | exact hBJ.size | exact hBC.size) _ _ _))
      refine hK.out _ _ ?_ (fun hHeld => ?_)
      · (with_reducible refine ⟨Below.keepc ?_ g0, Below.keepc ?_ g1, Below.keepc ?_ g2, Below.keepc ?_ k0, Below.keepc ?_ k1, Below.keepc ?_ k2, Below.keepc ?_ k3, Below.keepc ?_ y0, Below.keepc ?_ y1⟩ <;> (repeat (first | with_reducible exact Below.refl _ _ | with_reducible refine Below.andThen ?_ hbI rfl | with_reducible refine Below.andThen ?_ hbJ rfl | with_reducible refine Below.andThen ?_ hbC rfl | with_reducible refine Below.andThen ?_ hbD rfl | with_reducible refine Below.alloc1 ?_ _ rfl | with_reducible refine Below.drew ?_ | with_reducible refine Below.set3 ?_ (by first | exact Nat.le_refl _ | exact hBI.size | exact hBJ.size | exact hBC.size) _ _ _)) <;> done)
      clear hK K
      (try simp only [Act.put, List.setIfInBounds_toArray, List.set_cons_zero, List.set_cons_succ])
      refine wpAnyH_take (i := 25) (oi := { dst := some 86, op := Op.unOp UnOp.not 4 (Operand.tmp 85), type := 4, pos := "law.go:394", after := #[{ on := 24, ground := Ground.data }, { on := 18, ground := Ground.guard }], guard := some (18, false) }) (v := ?_) rfl (by kernel_rfl) (by kernel_rfl) (by kernel_rfl) (fun _ _ _ h => h) (Or.inl ⟨by rfl, ?_⟩) (by assumption) ?_
      rotate_left 1
      · intro W hSw
        (try dsimp only at hSw)
        go_simp
        try with_reducible rfl
      (try simp only [Act.put, List.setIfInBounds_toArray, List.set_cons_zero, List.set_cons_succ])
      refine wpAnyH_take (i := 26) (oi := { dst := some 87, op := Op.pick (Operand.tmp 79) (Operand.const (Value.bool true)) (Operand.tmp 86), type := 4, pos := "law.go:394", after := #[{ on := 18, ground := Ground.data }, { on := 25, ground := Ground.data }, { on := 15, ground := Ground.guard }], guard := some (15, true) }) (v := ?_) rfl (by kernel_rfl) (by kernel_rfl) (by kernel_rfl) (fun _ _ _ h => h) (Or.inl ⟨by rfl, ?_⟩) (by assumption) ?_
      rotate_left 1
      · intro W hSw
        (try dsimp only at hSw)
        go_simp
        try with_reducible rfl
      (try simp only [Act.put, List.setIfInBounds_toArray, List.set_cons_zero, List.set_cons_succ])
      refine wpAnyH_take (i := 27) (oi := { dst := some 88, op := Op.pick (Operand.tmp 76) (Operand.tmp 87) (Operand.const (Value.bool false)), type := 4, pos := "law.go:394", after := #[{ on := 15, ground := Ground.data }, { on := 26, ground := Ground.data }, { on := 12, ground := Ground.guard }], guard := some (12, false) }) (v := ?_) rfl (by kernel_rfl) (by kernel_rfl) (by kernel_rfl) (fun _ _ _ h => h) (Or.inl ⟨by rfl, ?_⟩) (by assumption) ?_
      rotate_left 1
      · intro W hSw
        (try dsimp only at hSw)
        go_simp
        try with_reducible rfl
      (try simp only [Act.put, List.setIfInBounds_toArray, List.set_cons_zero, List.set_cons_succ])
      refine wpAnyH_take (i := 28) (oi := { dst := some 89, op := Op.pick (Operand.tmp 73) (Operand.const (Value.bool true)) (Operand.tmp 88), type := 4, pos := "law.go:394", after := #[{ on := 12, ground := Ground.data }, { on := 27, ground := Ground.data }], guard := none }) (v := ?_) rfl (by kernel_rfl) (by kernel_rfl) (by kernel_rfl) (fun _ _ _ h => h) (Or.inl ⟨by rfl, ?_⟩) (by assumption) ?_
      rotate_left 1
      · intro W hSw
        (try dsimp only at hSw)
        go_simp
        try with_reducible rfl
      (try simp only [Act.put, List.setIfInBounds_toArray, List.set_cons_zero, List.set_cons_succ])
      refine wpAnyH_done (by kernel_rfl) ?_ _
      go_wp2_with fail
      go_meet
      case rel => exact ⟨rfl, Lib.hid (by repeat (first | with_reducible exact Below.refl _ _ | with_reducible refine Below.andThen ?_ hbI rfl | with_reducible refine Below.andThen ?_ hbJ rfl | with_reducible refine Below.andThen ?_ hbC rfl | with_reducible refine Below.andThen ?_ hbD rfl | with_reducible refine Below.alloc1 ?_ _ rfl | with_reducible refine Below.drew ?_ | with_reducible refine Below.set3 ?_ (by first | exact Nat.le_refl _ | exact hBI.size | exact hBJ.size | exact hBC.size) _ _ _))⟩
    obtain ⟨rfl, HBn⟩ := hcut
    obtain ⟨w9, rfl⟩ : ∃ w9 : World, w9 = wc := ⟨_, rfl⟩
    have SC9 := Lib.hid (SC8.out.next HBn.out)
    have BA9 := Lib.hid (BA8.out.next HBn.out)
    clear HBn SC8 BY8 BA8 BB8 CI8 k0 k1 k2 k3 kl y0 y1 yl g0 g1 g2 gl CNo
    obtain ⟨j0, j1, j2, j3, jl⟩ := four_cells SC9.out.b1
    go_wp2_with fail
    refine (CJ.out _ SC9.out.p').mono ?_
    rintro e w10 ⟨v10, rfl, hb, hsv⟩
    have SC10 := Lib.hid (SC9.out.next hb)
    have BA10 := Lib.hid (BA9.out.next hb)
    have V10 := Lib.hid hsv
    clear hb hsv SC9 BA9 j0 j1 j2 j3 jl
    obtain ⟨va10, vc10, rfl, -, -⟩ := V10.out.sl
    go_wp2_with fail
    refine (CQ.out _ _ V10.out).mono ?_
    rintro e w11 ⟨rfl, hb⟩
    have SC11 := Lib.hid (SC10.out.next hb)
    have BA11 := Lib.hid (BA10.out.next hb)
    clear hb V10 SC10 BA10
    rcases HRA2 with ⟨hD, -⟩ | ⟨-, hKn, rfl, rfl, rfl, hK⟩ | ⟨-, hK, CRA⟩
    · exact absurd rfl hD
    · subst hK
      have hk1 : (EA == 0) = false := by rw [beq_eq_false_iff_ne]; exact hKn
      have SCz := Lib.hid (SC11.out.next ((Below.refl _ _).alloc (Nat.le_refl _) (.cells #[.int .i64 0, .int .i64 0, .slice none 0 0] 50)))
      have BAz := Lib.hid (BA11.out.next ((Below.refl _ _).alloc (Nat.le_refl _) (.cells #[.int .i64 0, .int .i64 0, .slice none 0 0] 50)))
      have BZz : Hid (IBox 0 0 (.slice none 0 0) [] w11.heap.size (w11.alloc (.cells #[.int .i64 0, .int .i64 0, .slice none 0 0] 50))) := IBox.born (smp_nil32 _)
      have CZ := Lib.hid (SameImage_true 0 0 av (.slice none 0 0) [] _ BAz.out.smp.sl BZz.out.smp.sl)
      obtain ⟨aa, ac, rfl, -, -⟩ := BAz.out.smp.sl
      obtain ⟨h0, h1, h2, -, -, -, hl2⟩ := three_cells BAz.out.blk
      obtain ⟨r0, r1, r2, -, -, -, rl2⟩ := three_cells BZz.out.blk
      go_wp2_with fail
      refine CZ.out.mono ?_
      rintro e wE ⟨rfl, hb⟩
      have SCE := Lib.hid (SCz.out.next hb)
      go_wp2_with fail
      go_ret
      exact ⟨rfl, SCE.out.hb⟩
    · subst hK
      obtain ⟨k0, k1, k2, k3, kl⟩ := four_cells SC11.out.b0
      obtain ⟨j0, j1, j2, j3, jl⟩ := four_cells SC11.out.b1
      have CI11 := Lib.hid (fun W (h : Below w11.heap.size w11 W) => CI.out W (SC11.out.p.below h))
      have CJ11 := Lib.hid (fun W (h : Below w11.heap.size w11 W) => CJ.out W (SC11.out.p'.below h))
      go_wp2_with fail
      go_cut [13] from 15 (fun s1 wx => ∃ rv, s1 = .int .i64 EA ∧ Hid (Below w11.heap.size w11 wx) ∧ Hid (IBox la sa rv A w11.heap.size wx))
      case first =>
        go_region_held3 (fun W => W.cell? ⟨w.heap.size, 0, none⟩ = some (.int .i64 l) ∧ W.cell? ⟨w.heap.size, 1, none⟩ = some (.int .i64 s) ∧ W.cell? ⟨w.heap.size, 2, none⟩ = some (.slice pa np pc) ∧ W.cell? ⟨w.heap.size, 3, none⟩ = some (.slice ca nc cc) ∧ W.cell? ⟨w.heap.size + 1, 0, none⟩ = some (.int .i64 l') ∧ W.cell? ⟨w.heap.size + 1, 1, none⟩ = some (.int .i64 s') ∧ W.cell? ⟨w.heap.size + 1, 2, none⟩ = some (.slice ra nr rc) ∧ W.cell? ⟨w.heap.size + 1, 3, none⟩ = some (.slice da nd dc)) (with_reducible refine ⟨Below.keepc ?_ k0, Below.keepc ?_ k1, Below.keepc ?_ k2, Below.keepc ?_ k3, Below.keepc ?_ j0, Below.keepc ?_ j1, Below.keepc ?_ j2, Below.keepc ?_ j3⟩ <;> (repeat (first | with_reducible exact Below.refl _ _ | with_reducible refine Below.andThen ?_ hbI rfl | with_reducible refine Below.andThen ?_ hbJ rfl | with_reducible refine Below.andThen ?_ hbC rfl | with_reducible refine Below.andThen ?_ hbD rfl | with_reducible refine Below.alloc1 ?_ _ rfl | with_reducible refine Below.drew ?_ | with_reducible refine Below.set3 ?_ (by first | exact Nat.le_refl _ | exact hBI.size | exact hBJ.size | exact hBC.size) _ _ _)) <;> done)
          (first
            | (go_at_call 15; (with_reducible refine (CI11.out _ (by repeat (first | with_reducible exact Below.refl _ _ | with_reducible refine Below.andThen ?_ hbI rfl | with_reducible refine Below.andThen ?_ hbJ rfl | with_reducible refine Below.andThen ?_ hbC rfl | with_reducible refine Below.andThen ?_ hbD rfl | with_reducible refine Below.alloc1 ?_ _ rfl | with_reducible refine Below.drew ?_ | with_reducible refine Below.set3 ?_ (by first | exact Nat.le_refl _ | exact hBI.size | exact hBJ.size | exact hBC.size) _ _ _))).mono ?_); rintro e wI ⟨vI, rfl, hbI, hsI⟩; obtain ⟨iaI, icI, rfl, -, -⟩ := hsI.sl; have hBI : Below w11.heap.size w11 wI := (by repeat (first | with_reducible exact Below.refl _ _ | with_reducible refine Below.andThen ?_ hbI rfl | with_reducible refine Below.andThen ?_ hbJ rfl | with_reducible refine Below.andThen ?_ hbC rfl | with_reducible refine Below.andThen ?_ hbD rfl | with_reducible refine Below.alloc1 ?_ _ rfl | with_reducible refine Below.drew ?_ | with_reducible refine Below.set3 ?_ (by first | exact Nat.le_refl _ | exact hBI.size | exact hBJ.size | exact hBC.size) _ _ _)); first | (have qb := box_after_drew hbI; obtain ⟨q0, q1, q2, f0, f1, f2, ql⟩ := three_cells qb) | (have qb := box_after hbI; obtain ⟨q0, q1, q2, f0, f1, f2, ql⟩ := three_cells qb) | (have qb := (hbI.block _ (lt_of_block qb)).trans qb; obtain ⟨q0, q1, q2, f0, f1, f2, ql⟩ := three_cells qb) | skip)
            | (go_at_call 15; (with_reducible refine (CJ11.out _ (by repeat (first | with_reducible exact Below.refl _ _ | with_reducible refine Below.andThen ?_ hbI rfl | with_reducible refine Below.andThen ?_ hbJ rfl | with_reducible refine Below.andThen ?_ hbC rfl | with_reducible refine Below.andThen ?_ hbD rfl | with_reducible refine Below.alloc1 ?_ _ rfl | with_reducible refine Below.drew ?_ | with_reducible refine Below.set3 ?_ (by first | exact Nat.le_refl _ | exact hBI.size | exact hBJ.size | exact hBC.size) _ _ _))).mono ?_); rintro e wJ ⟨vJ, rfl, hbJ, hsJ⟩; obtain ⟨iaJ, icJ, rfl, -, -⟩ := hsJ.sl; have hBJ : Below w11.heap.size w11 wJ := (by repeat (first | with_reducible exact Below.refl _ _ | with_reducible refine Below.andThen ?_ hbI rfl | with_reducible refine Below.andThen ?_ hbJ rfl | with_reducible refine Below.andThen ?_ hbC rfl | with_reducible refine Below.andThen ?_ hbD rfl | with_reducible refine Below.alloc1 ?_ _ rfl | with_reducible refine Below.drew ?_ | with_reducible refine Below.set3 ?_ (by first | exact Nat.le_refl _ | exact hBI.size | exact hBJ.size | exact hBC.size) _ _ _)); first | (have qb := box_after_drew hbJ; obtain ⟨q0, q1, q2, f0, f1, f2, ql⟩ := three_cells qb) | (have qb := box_after hbJ; obtain ⟨q0, q1, q2, f0, f1, f2, ql⟩ := three_cells qb) | (have qb := (hbJ.block _ (lt_of_block qb)).trans qb; obtain ⟨q0, q1, q2, f0, f1, f2, ql⟩ := three_cells qb) | skip)
            | (go_at_call 23; (with_reducible refine (CRA.out _ _ _ (by repeat (first | exact hsI | exact hsJ | refine Smp.alloc ?_ _ | refine Smp.drew ?_ | refine Smp.below ?_ hbI | refine Smp.below ?_ hbJ)) (by repeat (first | exact hsI | exact hsJ | refine Smp.alloc ?_ _ | refine Smp.drew ?_ | refine Smp.below ?_ hbI | refine Smp.below ?_ hbJ))).mono ?_); rintro e wC ⟨fv, rfl, hbC, hf⟩; obtain ⟨fa, fc, rfl, hfl, -⟩ := hf.sl; have hBC : Below w11.heap.size w11 wC := (by repeat (first | with_reducible exact Below.refl _ _ | with_reducible refine Below.andThen ?_ hbI rfl | with_reducible refine Below.andThen ?_ hbJ rfl | with_reducible refine Below.andThen ?_ hbC rfl | with_reducible refine Below.andThen ?_ hbD rfl | with_reducible refine Below.alloc1 ?_ _ rfl | with_reducible refine Below.drew ?_ | with_reducible refine Below.set3 ?_ (by first | exact Nat.le_refl _ | exact hBI.size | exact hBJ.size | exact hBC.size) _ _ _)); first | (have qb := box_after_drew hbC; obtain ⟨q0, q1, q2, f0, f1, f2, ql⟩ := three_cells qb) | (have qb := box_after hbC; obtain ⟨q0, q1, q2, f0, f1, f2, ql⟩ := three_cells qb) | (have qb := (hbC.block _ (lt_of_block qb)).trans qb; obtain ⟨q0, q1, q2, f0, f1, f2, ql⟩ := three_cells qb) | skip))
        all_goals
          go_wp2_with fail
          go_meet
          case rel => exact ⟨_, rfl, Lib.hid (Below.set3 hBC (Nat.le_refl _) _ _ _), Lib.hid (IBox.made qb hf)⟩
      obtain ⟨rv, rfl, HBn, BR⟩ := hcut
      obtain ⟨w12, rfl⟩ : ∃ w12 : World, w12 = wc := ⟨_, rfl⟩
      have SC12 := Lib.hid (SC11.out.next HBn.out)
      have BA12 := Lib.hid (BA11.out.next HBn.out)
      clear HBn SC11 BA11 CI11 CJ11 CRA k0 k1 k2 k3 kl j0 j1 j2 j3 jl
      have CZ := Lib.hid (SameImage_true la sa av rv A w12 BA12.out.smp.sl BR.out.smp.sl)
      obtain ⟨aa, ac, rfl, -, -⟩ := BA12.out.smp.sl
      obtain ⟨ra2, rc2, rfl, -, -⟩ := BR.out.smp.sl
      obtain ⟨h0, h1, h2, -, -, -, hl2⟩ := three_cells BA12.out.blk
      obtain ⟨r0, r1, r2, -, -, -, rl2⟩ := three_cells BR.out.blk
      go_wp2_with fail
      refine CZ.out.mono ?_
      rintro e wE ⟨rfl, hb⟩
      have SCE := Lib.hid (SC12.out.next hb)
      go_wp2_with fail
      go_ret
      exact ⟨rfl, SCE.out.hb⟩

/-- THE LAW, FOR ALL PAIRS OF SCENES AND SHIFTS -/
theorem adds_any (l s l' s' : Int) (pv cv pv' cv' : Value) (xs cs xs2 cs2 : List Nat) (a b : Int) (w : World) (hp : Fls .f32 xs w pv) (hc : Fls .f32 cs w cv) (hp' : Fls .f32 xs2 w pv') (hc' : Fls .f32 cs2 w cv') (hl : I64 l) (hs : I64 s) (hl' : I64 l') (hs' : I64 s')
    (hz : ∀ z ∈ pairsOf xs, z.1 < 2 ^ 32 ∧ z.2 < 2 ^ 32) (hy : ∀ z ∈ pairsOf xs2, z.1 < 2 ^ 32 ∧ z.2 < 2 ^ 32) (ht : Tab w) :
    Calls Tryd.prog 5 #[.agg #[.int .i64 l, .int .i64 s, pv, cv], .agg #[.int .i64 l', .int .i64 s', pv', cv'], .agg #[.int .i64 a, .int .i64 b]] w fun e w' => e = .returned (.bool true) ∧ Below w.heap.size w w' := by
  cases h1 : SmallB xs.length cs.length with
  | false => exact adds_long l s l' s' pv cv pv' cv' xs cs xs2 cs2 a b w hp hc hp' hc' (.inl h1) ht
  | true =>
    cases h2 : SmallB xs2.length cs2.length with
    | false => exact adds_long l s l' s' pv cv pv' cv' xs cs xs2 cs2 a b w hp hc hp' hc' (.inr h2) ht
    | true => exact adds_short l s l' s' pv cv pv' cv' xs cs xs2 cs2 a b w hp hc hp' hc' hl hs hl' hs' hz hy h1 h2 ht
end Go.Proofs.YtmiaglkkjncfnaaDoor
