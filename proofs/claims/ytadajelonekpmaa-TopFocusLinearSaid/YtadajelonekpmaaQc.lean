import Derived.Test.YtadajelonekpmaaQd
import Derived.Test.YtadajelonekpmaaQd
import Derived.Test.YtadajelonekpmaaSb
import Derived.Test.YtadajelonekpmaaGf
import Derived.Deep.RegionHeld3
import Derived.Deep.CutRange
namespace Go.Proofs.Ytadajelonekpmaa
open Go.RowKit Go.Proofs.Ytadajelonekpmaa.Flt Go.Proofs.Ytadajelonekpmaa.Orb

set_option maxRecDepth 100000 in
set_option maxHeartbeats 4000000 in
theorem tfoc_long (l s l' s' : Int) (pv cv pv' cv' av : Value) (xs cs xs2 cs2 acs : List Nat) (w : World) (hp : Fls .f32 xs w pv) (hc : Fls .f32 cs w cv) (hp' : Fls .f32 xs2 w pv') (hc' : Fls .f32 cs2 w cv') (ha : Fls .f32 acs w av) (hsm : SmallB xs.length cs.length = false ∨ SmallB xs2.length cs2.length = false ∨ 70 < acs.length) :
    Calls Try.prog 4 #[.agg #[.int .i64 l, .int .i64 s, pv, cv], .agg #[.int .i64 l', .int .i64 s', pv', cv'], av] w fun e w' => e = .returned (.bool true) ∧ Below w.heap.size w w' := by
  have CA := Lib.hid (fun W (_ : Sc2 l s pv cv l' s' pv' cv' xs cs xs2 cs2 w W) => compressed_any W)
  have CS1 := Lib.hid (fun W (h : Sc2 l s pv cv l' s' pv' cv' xs cs xs2 cs2 w W) => Small_any l s pv cv xs cs W h.p h.c)
  have CS2 := Lib.hid (fun W (h : Sc2 l s pv cv l' s' pv' cv' xs cs xs2 cs2 w W) => Small_any l' s' pv' cv' xs2 cs2 W h.p' h.c')
  have HS0 : Hid (∀ W0, W0 = (w.alloc (.cells #[.int .i64 l, .int .i64 s, pv, cv] 24)).alloc (.cells #[.int .i64 l', .int .i64 s', pv', cv'] 24) → Sc2 l s pv cv l' s' pv' cv' xs cs xs2 cs2 w W0) := by
    rintro W0 rfl
    exact Sc2.start hp hc hp' hc'
  have hsm2 : SmallB xs.length cs.length = false ∨ (SmallB xs.length cs.length = true ∧ SmallB xs2.length cs2.length = false) ∨ (SmallB xs.length cs.length = true ∧ SmallB xs2.length cs2.length = true ∧ 70 < acs.length) := by
    cases h : SmallB xs.length cs.length
    · exact .inl rfl
    · cases h2 : SmallB xs2.length cs2.length
      · exact .inr (.inl ⟨rfl, rfl⟩)
      · rcases hsm with hsm | hsm | hsm
        · rw [hsm] at h; cases h
        · rw [hsm] at h2; cases h2
        · exact .inr (.inr ⟨rfl, rfl, hsm⟩)
  have hna : (fvals .f32 acs).length = acs.length := by simp [fvals]
  obtain ⟨pa, pc, rfl, -, -⟩ := hp.sl
  obtain ⟨ca, cc, rfl, -, -⟩ := hc.sl
  obtain ⟨ra, rc, rfl, -, -⟩ := hp'.sl
  obtain ⟨da, dc, rfl, -, -⟩ := hc'.sl
  obtain ⟨aa, ac, rfl, -, -⟩ := ha.sl
  generalize (fvals .f32 xs).length = np at *
  generalize (fvals .f32 cs).length = nc at *
  generalize (fvals .f32 xs2).length = nr at *
  generalize (fvals .f32 cs2).length = nd at *
  rw [hna]
  generalize acs.length = na at *
  generalize SmallB xs.length cs.length = B1 at *
  generalize SmallB xs2.length cs2.length = B2 at *
  clear hp hc hp' hc' ha hsm hna
  rcases hsm2 with rfl | ⟨rfl, rfl⟩ | ⟨rfl, rfl, hn⟩
  all_goals
    go_enter Try.func4, Try.ntmps4
    go_wp2_with fail
    obtain ⟨W0, hW0⟩ : ∃ W0, W0 = (w.alloc (.cells #[.int .i64 l, .int .i64 s, .slice pa np pc, .slice ca nc cc] 24)).alloc (.cells #[.int .i64 l', .int .i64 s', .slice ra nr rc, .slice da nd dc] 24) := ⟨_, rfl⟩
    have SC0 := Lib.hid (HS0.out W0 hW0)
    rw [← hW0]
    clear hW0 HS0
    refine (CA.out _ SC0.out).mono ?_
    rintro e w1 ⟨rfl, hb⟩
    have SC1 := Lib.hid (SC0.out.next hb)
    clear hb SC0 CA
    obtain ⟨k0, k1, k2, k3, kl⟩ := four_cells SC1.out.b0
    obtain ⟨j0, j1, j2, j3, jl⟩ := four_cells SC1.out.b1
    go_wp2_with fail
    refine (CS1.out _ SC1.out).mono ?_
    rintro e w2 ⟨rfl, hb⟩
    have SC2 := Lib.hid (SC1.out.next hb)
    clear hb SC1 k0 k1 k2 k3 kl j0 j1 j2 j3 jl CS1
  · go_wp2_with fail
    go_ret
    exact ⟨rfl, SC2.out.hb⟩
  · skip
    obtain ⟨k0, k1, k2, k3, kl⟩ := four_cells SC2.out.b0
    obtain ⟨j0, j1, j2, j3, jl⟩ := four_cells SC2.out.b1
    go_wp2_with fail
    refine (CS2.out _ SC2.out).mono ?_
    rintro e w3 ⟨rfl, hb⟩
    have SC3 := Lib.hid (SC2.out.next hb)
    clear hb SC2 k0 k1 k2 k3 kl j0 j1 j2 j3 jl CS2
    go_wp2_with fail
    go_ret
    exact ⟨rfl, SC3.out.hb⟩
  · have hn2 : (70 : Int) < (na : Int) := by omega
    obtain ⟨k0, k1, k2, k3, kl⟩ := four_cells SC2.out.b0
    obtain ⟨j0, j1, j2, j3, jl⟩ := four_cells SC2.out.b1
    go_wp2_with fail
    refine (CS2.out _ SC2.out).mono ?_
    rintro e w3 ⟨rfl, hb⟩
    have SC3 := Lib.hid (SC2.out.next hb)
    clear hb SC2 k0 k1 k2 k3 kl j0 j1 j2 j3 jl CS2
    go_wp2_with fail
    go_ret
    exact ⟨rfl, SC3.out.hb⟩

theorem torder_self {a : Int} (h : a.natAbs ≤ 2 ^ 53) : (FloatKind.f64.format.order (enc Ieee.double a) (enc Ieee.double a) == some .eq) = true := by
  have h2 : FloatKind.f64.format.order (enc Ieee.double a) (enc Ieee.double a) = some (compare a a) := order_rep good_double (Rep.enc _ a) (Rep.enc _ a) h h
  rw [h2]
  simp [compare, compareOfLessAndEq]

set_option maxRecDepth 100000 in
set_option maxHeartbeats 40000000 in
theorem tfoc_short (l s l' s' : Int) (pv cv pv' cv' av : Value) (xs cs xs2 cs2 acs : List Nat) (w : World) (hp : Fls .f32 xs w pv) (hc : Fls .f32 cs w cv) (hp' : Fls .f32 xs2 w pv') (hc' : Fls .f32 cs2 w cv') (ha : Fls .f32 acs w av) (hl : I64 l) (hs : I64 s) (hl' : I64 l') (hs' : I64 s')
    (hz : ∀ z ∈ pairsOf xs, z.1 < 2 ^ 32 ∧ z.2 < 2 ^ 32) (hy : ∀ z ∈ pairsOf xs2, z.1 < 2 ^ 32 ∧ z.2 < 2 ^ 32) (hu : ∀ z ∈ pairsOf cs, z.1 < 2 ^ 32 ∧ z.2 < 2 ^ 32) (hv : ∀ z ∈ pairsOf acs, z.1 < 2 ^ 32 ∧ z.2 < 2 ^ 32) (hs1 : SmallB xs.length cs.length = true) (hs2 : SmallB xs2.length cs2.length = true) (hs3 : acs.length ≤ 70) :
    Calls Try.prog 4 #[.agg #[.int .i64 l, .int .i64 s, pv, cv], .agg #[.int .i64 l', .int .i64 s', pv', cv'], av] w fun e w' => e = .returned (.bool true) ∧ Below w.heap.size w w' := by
  have CA := Lib.hid (fun W (_ : Sc2 l s pv cv l' s' pv' cv' xs cs xs2 cs2 w W) => compressed_any W)
  have CS1 := Lib.hid (fun W (h : Sc2 l s pv cv l' s' pv' cv' xs cs xs2 cs2 w W) => Small_any l s pv cv xs cs W h.p h.c)
  have CS2 := Lib.hid (fun W (h : Sc2 l s pv cv l' s' pv' cv' xs cs xs2 cs2 w W) => Small_any l' s' pv' cv' xs2 cs2 W h.p' h.c')
  have HS0 : Hid (∀ W0, W0 = (w.alloc (.cells #[.int .i64 l, .int .i64 s, pv, cv] 24)).alloc (.cells #[.int .i64 l', .int .i64 s', pv', cv'] 24) → Sc2 l s pv cv l' s' pv' cv' xs cs xs2 cs2 w W0) := by
    rintro W0 rfl
    exact Sc2.start hp hc hp' hc'
  rw [hs1] at CS1
  rw [hs2] at CS2
  have hlen : xs.length ≤ 100000 ∧ cs.length ≤ 100000 := by
    unfold SmallB at hs1
    simp at hs1
    omega
  have hlen2 : xs2.length ≤ 100000 := by
    unfold SmallB at hs2
    simp at hs2
    omega
  have CI := Lib.hid (fun W (h : Fls .f32 xs W pv) => lawImage_any l s pv cv xs W h hlen.1)
  have CJ := Lib.hid (fun W (h : Fls .f32 xs2 W pv') => lawImage_any l' s' pv' cv' xs2 W h hlen2)
  have CK := Lib.hid (fun W (h : Fls .f32 cs W cv) => lawCode_any l s pv cv cs W h hlen.2)
  have CV : Hid (∀ W, Below w.heap.size w W → Calls Try.prog 15 #[.int .i64 0, .int .i64 0, av] W fun e w' => ∃ b n c, e = .returned (.agg #[.int .i64 0, .int .i64 0, .slice b n c]) ∧ Below W.heap.size W w' ∧ SmpK (pairsOf acs) w' (.slice b n c)) := by
    intro W hW
    refine (Image_any 0 0 av acs W (ha.below hW).sl (by omega)).mono ?_
    rintro e w' ⟨v, rfl, hb, ho⟩
    have hq : (pairsOf acs).length ≤ 100000 := by rw [pairsOf_length]; omega
    have hS : SmpK (pairsOf acs) w' v := ⟨⟨Sl.of_owns ho (by omega)⟩, cap_owns ho, fun m c hv => by
      rcases ho.2 with ⟨h, -⟩ | ⟨g, cp, -, h, -⟩
      · rw [hv] at h; cases h; exact ⟨rfl, rfl⟩
      · rw [hv] at h; cases h⟩
    obtain ⟨va, vn, vc, rfl⟩ : ∃ va vn vc, v = .slice va vn vc := by
      rcases ho.2 with ⟨h, -⟩ | ⟨g, cp, -, h, -⟩
      · exact ⟨_, _, _, h⟩
      · exact ⟨_, _, _, h⟩
    exact ⟨_, _, _, rfl, hb, hS⟩
  have hn35 : (pairsOf acs).length ≤ 35 := by rw [pairsOf_length]; omega
  obtain ⟨la, sa, A, hA, -, hA0⟩ := added_E l s l' s' (pairsOf xs) (pairsOf xs2) hl hs hl' hs' hz hy
  generalize addErr l s (pairsOf xs) l' s' (pairsOf xs2) = EA at *
  have CAd := Lib.hid hA
  have HK := Lib.hid (fun (h : EA = 0) => tfoc_K l s l' s' la sa (pairsOf xs) (pairsOf xs2) A (pairsOf cs) (pairsOf acs) hl hs hl' hs' hz hy hu hv (by obtain ⟨x1, x2, x3, x4, x5, x6, -⟩ := hA0 h; exact ⟨x1, x2, x3, x4, x5, x6⟩))
  clear hA hA0
  generalize pairsOf xs = zs at *
  generalize pairsOf xs2 = ys at *
  generalize pairsOf cs = us at *
  generalize pairsOf acs = vs at *
  have hna : (fvals .f32 acs).length = acs.length := by simp [fvals]
  obtain ⟨pa, pc, rfl, -, -⟩ := hp.sl
  obtain ⟨ca, cc, rfl, -, -⟩ := hc.sl
  obtain ⟨ra, rc, rfl, -, -⟩ := hp'.sl
  obtain ⟨da, dc, rfl, -, -⟩ := hc'.sl
  obtain ⟨aa, ac, rfl, -, -⟩ := ha.sl
  generalize (fvals .f32 xs).length = np at *
  generalize (fvals .f32 cs).length = nc at *
  generalize (fvals .f32 xs2).length = nr at *
  generalize (fvals .f32 cs2).length = nd at *
  rw [hna] at CV ⊢
  generalize acs.length = na at *
  clear hp hc hp' hc' ha hs1 hs2 hlen hlen2 hz hy hu hv hl hs hl' hs' hna
  go_enter Try.func4, Try.ntmps4
  go_wp2_with fail
  obtain ⟨W0, hW0⟩ : ∃ W0, W0 = (w.alloc (.cells #[.int .i64 l, .int .i64 s, .slice pa np pc, .slice ca nc cc] 24)).alloc (.cells #[.int .i64 l', .int .i64 s', .slice ra nr rc, .slice da nd dc] 24) := ⟨_, rfl⟩
  have SC0 := Lib.hid (HS0.out W0 hW0)
  rw [← hW0]
  clear hW0 HS0
  refine (CA.out _ SC0.out).mono ?_
  rintro e w1 ⟨rfl, hb⟩
  have SC1 := Lib.hid (SC0.out.next hb)
  clear hb SC0 CA
  obtain ⟨k0, k1, k2, k3, kl⟩ := four_cells SC1.out.b0
  obtain ⟨j0, j1, j2, j3, jl⟩ := four_cells SC1.out.b1
  go_wp2_with fail
  refine (CS1.out _ SC1.out).mono ?_
  rintro e w2 ⟨rfl, hb⟩
  have SC2 := Lib.hid (SC1.out.next hb)
  clear hb SC1 k0 k1 k2 k3 kl j0 j1 j2 j3 jl CS1
  obtain ⟨k0, k1, k2, k3, kl⟩ := four_cells SC2.out.b0
  obtain ⟨j0, j1, j2, j3, jl⟩ := four_cells SC2.out.b1
  go_wp2_with fail
  refine (CS2.out _ SC2.out).mono ?_
  rintro e w3 ⟨rfl, hb⟩
  have SC3 := Lib.hid (SC2.out.next hb)
  clear hb SC2 k0 k1 k2 k3 kl j0 j1 j2 j3 jl CS2
  have hn2 : ¬ (70 : Int) < (na : Int) := by omega
  go_wp2_with fail
  refine (CV.out _ SC3.out.hb).mono ?_
  rintro e w4 ⟨va, vn, vc, rfl, hb, hsv⟩
  have SC4 := Lib.hid (SC3.out.next hb)
  have SV4 := Lib.hid hsv
  have hfd : ∀ w : World, (Instr.field 29 (.agg #[.int .i64 0, .int .i64 0, .slice va vn vc]) 2).run Try.prog w = .ok (.slice va vn vc) w := fun _ => by kernel_rfl
  clear hb hsv SC3 CV
  obtain ⟨k0, k1, k2, k3, kl⟩ := four_cells SC4.out.b0
  obtain ⟨j0, j1, j2, j3, jl⟩ := four_cells SC4.out.b1
  have CI4 := Lib.hid (fun W (h : Below w4.heap.size w4 W) => CI.out W (SC4.out.p.below h))
  have CJ4 := Lib.hid (fun W (h : Below w4.heap.size w4 W) => CJ.out W (SC4.out.p'.below h))
  go_wp2_with fail
  go_cut [8, 9] from 18 (fun s1 s2 wx => ∃ b5 iv, s1 = .pointer (some ⟨b5, 0, none⟩) ∧ s2 = .int .i64 EA ∧ Hid (w4.heap.size ≤ b5) ∧ Hid (Below w4.heap.size w4 wx) ∧ Hid (IBox la sa iv A b5 wx))
  case first =>
    go_region_held3 (fun W => W.cell? ⟨w.heap.size, 0, none⟩ = some (.int .i64 l) ∧ W.cell? ⟨w.heap.size, 1, none⟩ = some (.int .i64 s) ∧ W.cell? ⟨w.heap.size, 2, none⟩ = some (.slice pa np pc) ∧ W.cell? ⟨w.heap.size, 3, none⟩ = some (.slice ca nc cc) ∧ W.cell? ⟨w.heap.size + 1, 0, none⟩ = some (.int .i64 l') ∧ W.cell? ⟨w.heap.size + 1, 1, none⟩ = some (.int .i64 s') ∧ W.cell? ⟨w.heap.size + 1, 2, none⟩ = some (.slice ra nr rc) ∧ W.cell? ⟨w.heap.size + 1, 3, none⟩ = some (.slice da nd dc)) (with_reducible refine ⟨Below.keepc ?_ k0, Below.keepc ?_ k1, Below.keepc ?_ k2, Below.keepc ?_ k3, Below.keepc ?_ j0, Below.keepc ?_ j1, Below.keepc ?_ j2, Below.keepc ?_ j3⟩ <;> (repeat (first | with_reducible exact Below.refl _ _ | with_reducible refine Below.andThen ?_ hbI rfl | with_reducible refine Below.andThen ?_ hbJ rfl | with_reducible refine Below.andThen ?_ hbC rfl | with_reducible refine Below.alloc1 ?_ _ rfl | with_reducible refine Below.drew ?_ | with_reducible refine Below.set3 ?_ (by first | exact Nat.le_refl _ | exact hBI.size | exact hBJ.size | exact hBC.size) _ _ _)) <;> done)
      (first
        | (go_at_call 7; (with_reducible refine (CI4.out _ (by repeat (first | with_reducible exact Below.refl _ _ | with_reducible refine Below.andThen ?_ hbI rfl | with_reducible refine Below.andThen ?_ hbJ rfl | with_reducible refine Below.andThen ?_ hbC rfl | with_reducible refine Below.alloc1 ?_ _ rfl | with_reducible refine Below.drew ?_ | with_reducible refine Below.set3 ?_ (by first | exact Nat.le_refl _ | exact hBI.size | exact hBJ.size | exact hBC.size) _ _ _))).mono ?_); rintro e wI ⟨vI, rfl, hbI, hsI⟩; have hBI : Below w4.heap.size w4 wI := (by repeat (first | with_reducible exact Below.refl _ _ | with_reducible refine Below.andThen ?_ hbI rfl | with_reducible refine Below.andThen ?_ hbJ rfl | with_reducible refine Below.andThen ?_ hbC rfl | with_reducible refine Below.alloc1 ?_ _ rfl | with_reducible refine Below.drew ?_ | with_reducible refine Below.set3 ?_ (by first | exact Nat.le_refl _ | exact hBI.size | exact hBJ.size | exact hBC.size) _ _ _)); first | (have qb := box_after_drew hbI; obtain ⟨q0, q1, q2, f0, f1, f2, ql⟩ := three_cells qb) | (have qb := box_after hbI; obtain ⟨q0, q1, q2, f0, f1, f2, ql⟩ := three_cells qb) | (have qb := (hbI.block _ (lt_of_block qb)).trans qb; obtain ⟨q0, q1, q2, f0, f1, f2, ql⟩ := three_cells qb) | skip)
        | (go_at_call 7; (with_reducible refine (CJ4.out _ (by repeat (first | with_reducible exact Below.refl _ _ | with_reducible refine Below.andThen ?_ hbI rfl | with_reducible refine Below.andThen ?_ hbJ rfl | with_reducible refine Below.andThen ?_ hbC rfl | with_reducible refine Below.alloc1 ?_ _ rfl | with_reducible refine Below.drew ?_ | with_reducible refine Below.set3 ?_ (by first | exact Nat.le_refl _ | exact hBI.size | exact hBJ.size | exact hBC.size) _ _ _))).mono ?_); rintro e wJ ⟨vJ, rfl, hbJ, hsJ⟩; have hBJ : Below w4.heap.size w4 wJ := (by repeat (first | with_reducible exact Below.refl _ _ | with_reducible refine Below.andThen ?_ hbI rfl | with_reducible refine Below.andThen ?_ hbJ rfl | with_reducible refine Below.andThen ?_ hbC rfl | with_reducible refine Below.alloc1 ?_ _ rfl | with_reducible refine Below.drew ?_ | with_reducible refine Below.set3 ?_ (by first | exact Nat.le_refl _ | exact hBI.size | exact hBJ.size | exact hBC.size) _ _ _)); first | (have qb := box_after_drew hbJ; obtain ⟨q0, q1, q2, f0, f1, f2, ql⟩ := three_cells qb) | (have qb := box_after hbJ; obtain ⟨q0, q1, q2, f0, f1, f2, ql⟩ := three_cells qb) | (have qb := (hbJ.block _ (lt_of_block qb)).trans qb; obtain ⟨q0, q1, q2, f0, f1, f2, ql⟩ := three_cells qb) | skip)
        | (go_at_call 16; (with_reducible refine (CAd.out _ _ _ (by repeat (first | exact hsI | exact hsJ | refine Smp.alloc ?_ _ | refine Smp.drew ?_ | refine Smp.below ?_ hbI | refine Smp.below ?_ hbJ)) (by repeat (first | exact hsI | exact hsJ | refine Smp.alloc ?_ _ | refine Smp.drew ?_ | refine Smp.below ?_ hbI | refine Smp.below ?_ hbJ))).mono ?_); rintro e wC ⟨fv, rfl, hbC, hf⟩; obtain ⟨fa, fc, rfl, hfl, -⟩ := hf.sl; have hBC : Below w4.heap.size w4 wC := (by repeat (first | with_reducible exact Below.refl _ _ | with_reducible refine Below.andThen ?_ hbI rfl | with_reducible refine Below.andThen ?_ hbJ rfl | with_reducible refine Below.andThen ?_ hbC rfl | with_reducible refine Below.alloc1 ?_ _ rfl | with_reducible refine Below.drew ?_ | with_reducible refine Below.set3 ?_ (by first | exact Nat.le_refl _ | exact hBI.size | exact hBJ.size | exact hBC.size) _ _ _)); first | (have qb := box_after_drew hbC; obtain ⟨q0, q1, q2, f0, f1, f2, ql⟩ := three_cells qb) | (have qb := box_after hbC; obtain ⟨q0, q1, q2, f0, f1, f2, ql⟩ := three_cells qb) | (have qb := (hbC.block _ (lt_of_block qb)).trans qb; obtain ⟨q0, q1, q2, f0, f1, f2, ql⟩ := three_cells qb) | skip))
    all_goals
      go_wp2_with fail
      go_meet
      case rel =>
        first
          | exact ⟨_, _, rfl, rfl, Lib.hid (by first | exact Nat.le_refl _ | exact hBI.size | exact hBJ.size | exact hBC.size), Lib.hid (by repeat (first | with_reducible exact Below.refl _ _ | with_reducible refine Below.andThen ?_ hbI rfl | with_reducible refine Below.andThen ?_ hbJ rfl | with_reducible refine Below.andThen ?_ hbC rfl | with_reducible refine Below.alloc1 ?_ _ rfl | with_reducible refine Below.drew ?_ | with_reducible refine Below.set3 ?_ (by first | exact Nat.le_refl _ | exact hBI.size | exact hBJ.size | exact hBC.size) _ _ _)), Lib.hid (IBox.born hf)⟩
          | exact ⟨_, _, rfl, rfl, Lib.hid (by first | exact Nat.le_refl _ | exact hBI.size | exact hBJ.size | exact hBC.size), Lib.hid (Below.set3 hBC (by first | exact Nat.le_refl _ | exact hBI.size | exact hBJ.size | exact hBC.size) _ _ _), Lib.hid (IBox.made qb hf)⟩
  obtain ⟨b5, iv, rfl, rfl, LEb5, HBn, BXb5⟩ := hcut
  obtain ⟨w5, rfl⟩ : ∃ w5 : World, w5 = wc := ⟨_, rfl⟩
  have SC5 := Lib.hid (SC4.out.next HBn.out)
  have SV5 := Lib.hid (SV4.out.next HBn.out)
  have BI5 := BXb5
  clear HBn BXb5 LEb5 SC4 SV4 CI4 CJ4 CAd k0 k1 k2 k3 kl j0 j1 j2 j3 jl hfd
  have HR : ((EA != 0) = true) ∨ (EA = 0) := by
    by_cases h : EA = 0
    · exact .inr h
    · exact .inl (by rw [bne_iff_ne]; exact h)
  rcases HR with hE | rfl
  · go_wp2_with fail
    go_ret
    exact ⟨rfl, SC5.out.hb⟩
  have HK0 := Lib.hid (HK.out rfl)
  clear HK
  obtain ⟨k0, k1, k2, k3, kl⟩ := four_cells SC5.out.b0
  obtain ⟨j0, j1, j2, j3, jl⟩ := four_cells SC5.out.b1
  obtain ⟨i0, i1, i2, -, -, -, il⟩ := three_cells BI5.out.blk
  have CI5 := Lib.hid (fun W (h : Below w5.heap.size w5 W) => CI.out W (SC5.out.p.below h))
  have CJ5 := Lib.hid (fun W (h : Below w5.heap.size w5 W) => CJ.out W (SC5.out.p'.below h))
  go_wp2_with fail
  go_cut [10] from 18 (fun s1 wx => ∃ bI v0 v1, s1 = .slice (some ⟨bI, 0, none⟩) 3 3 ∧ Hid (Below w5.heap.size w5 wx) ∧ Hid (wx.heap[bI]? = some (.cells #[.int .i64 l, .int .i64 s, v0, .int .i64 l', .int .i64 s', v1, .int .i64 la, .int .i64 sa, iv] 29 (0, 0)) ∧ Smp .f32 zs wx v0 ∧ Smp .f32 ys wx v1))
  case first =>
    go_region_held3 (fun W => W.cell? ⟨w.heap.size, 0, none⟩ = some (.int .i64 l) ∧ W.cell? ⟨w.heap.size, 1, none⟩ = some (.int .i64 s) ∧ W.cell? ⟨w.heap.size, 2, none⟩ = some (.slice pa np pc) ∧ W.cell? ⟨w.heap.size, 3, none⟩ = some (.slice ca nc cc) ∧ W.cell? ⟨w.heap.size + 1, 0, none⟩ = some (.int .i64 l') ∧ W.cell? ⟨w.heap.size + 1, 1, none⟩ = some (.int .i64 s') ∧ W.cell? ⟨w.heap.size + 1, 2, none⟩ = some (.slice ra nr rc) ∧ W.cell? ⟨w.heap.size + 1, 3, none⟩ = some (.slice da nd dc) ∧ W.cell? ⟨b5, 0, none⟩ = some (.int .i64 la) ∧ W.cell? ⟨b5, 1, none⟩ = some (.int .i64 sa) ∧ W.cell? ⟨b5, 2, none⟩ = some iv) (with_reducible refine ⟨Below.keepc ?_ k0, Below.keepc ?_ k1, Below.keepc ?_ k2, Below.keepc ?_ k3, Below.keepc ?_ j0, Below.keepc ?_ j1, Below.keepc ?_ j2, Below.keepc ?_ j3, Below.keepc ?_ i0, Below.keepc ?_ i1, Below.keepc ?_ i2⟩ <;> (repeat (first | with_reducible exact Below.refl _ _ | with_reducible refine Below.andThen ?_ hbI rfl | with_reducible refine Below.andThen ?_ hbJ rfl | with_reducible refine Below.andThen ?_ hbC rfl | with_reducible refine Below.alloc1 ?_ _ rfl | with_reducible refine Below.drew ?_ | with_reducible refine Below.set3 ?_ (by first | exact Nat.le_refl _ | exact hBI.size | exact hBJ.size | exact hBC.size) _ _ _)) <;> done)
      (first
        | (go_at_call 7; (with_reducible refine (CI5.out _ (by repeat (first | with_reducible exact Below.refl _ _ | with_reducible refine Below.andThen ?_ hbI rfl | with_reducible refine Below.andThen ?_ hbJ rfl | with_reducible refine Below.andThen ?_ hbC rfl | with_reducible refine Below.alloc1 ?_ _ rfl | with_reducible refine Below.drew ?_ | with_reducible refine Below.set3 ?_ (by first | exact Nat.le_refl _ | exact hBI.size | exact hBJ.size | exact hBC.size) _ _ _))).mono ?_); rintro e wI ⟨vI, rfl, hbI, hsI⟩; have hBI : Below w5.heap.size w5 wI := (by repeat (first | with_reducible exact Below.refl _ _ | with_reducible refine Below.andThen ?_ hbI rfl | with_reducible refine Below.andThen ?_ hbJ rfl | with_reducible refine Below.andThen ?_ hbC rfl | with_reducible refine Below.alloc1 ?_ _ rfl | with_reducible refine Below.drew ?_ | with_reducible refine Below.set3 ?_ (by first | exact Nat.le_refl _ | exact hBI.size | exact hBJ.size | exact hBC.size) _ _ _)); first | (have qb := box_after_drew hbI; obtain ⟨q0, q1, q2, f0, f1, f2, ql⟩ := three_cells qb) | (have qb := box_after hbI; obtain ⟨q0, q1, q2, f0, f1, f2, ql⟩ := three_cells qb) | (have qb := (hbI.block _ (lt_of_block qb)).trans qb; obtain ⟨q0, q1, q2, f0, f1, f2, ql⟩ := three_cells qb) | skip)
        | (go_at_call 7; (with_reducible refine (CJ5.out _ (by repeat (first | with_reducible exact Below.refl _ _ | with_reducible refine Below.andThen ?_ hbI rfl | with_reducible refine Below.andThen ?_ hbJ rfl | with_reducible refine Below.andThen ?_ hbC rfl | with_reducible refine Below.alloc1 ?_ _ rfl | with_reducible refine Below.drew ?_ | with_reducible refine Below.set3 ?_ (by first | exact Nat.le_refl _ | exact hBI.size | exact hBJ.size | exact hBC.size) _ _ _))).mono ?_); rintro e wJ ⟨vJ, rfl, hbJ, hsJ⟩; have hBJ : Below w5.heap.size w5 wJ := (by repeat (first | with_reducible exact Below.refl _ _ | with_reducible refine Below.andThen ?_ hbI rfl | with_reducible refine Below.andThen ?_ hbJ rfl | with_reducible refine Below.andThen ?_ hbC rfl | with_reducible refine Below.alloc1 ?_ _ rfl | with_reducible refine Below.drew ?_ | with_reducible refine Below.set3 ?_ (by first | exact Nat.le_refl _ | exact hBI.size | exact hBJ.size | exact hBC.size) _ _ _)); first | (have qb := box_after_drew hbJ; obtain ⟨q0, q1, q2, f0, f1, f2, ql⟩ := three_cells qb) | (have qb := box_after hbJ; obtain ⟨q0, q1, q2, f0, f1, f2, ql⟩ := three_cells qb) | (have qb := (hbJ.block _ (lt_of_block qb)).trans qb; obtain ⟨q0, q1, q2, f0, f1, f2, ql⟩ := three_cells qb) | skip))
    all_goals
      go_wp2_with fail
      go_meet
      case rel =>
        exact ⟨_, _, _, rfl, Lib.hid (by repeat (first | with_reducible exact Below.refl _ _ | with_reducible refine Below.andThen ?_ hbI rfl | with_reducible refine Below.andThen ?_ hbJ rfl | with_reducible refine Below.andThen ?_ hbC rfl | with_reducible refine Below.alloc1 ?_ _ rfl | with_reducible refine Below.drew ?_ | with_reducible refine Below.set3 ?_ (by first | exact Nat.le_refl _ | exact hBI.size | exact hBJ.size | exact hBC.size) _ _ _)), Lib.hid ⟨heap_alloc_new _ _, (by repeat (first | exact hsI | exact hsJ | refine Smp.alloc ?_ _ | refine Smp.drew ?_ | refine Smp.below ?_ hbI | refine Smp.below ?_ hbJ)), (by repeat (first | exact hsI | exact hsJ | refine Smp.alloc ?_ _ | refine Smp.drew ?_ | refine Smp.below ?_ hbI | refine Smp.below ?_ hbJ))⟩⟩
  obtain ⟨bI, v0, v1, rfl, HBn, BX⟩ := hcut
  obtain ⟨w6, rfl⟩ : ∃ w6 : World, w6 = wc := ⟨_, rfl⟩
  have SC6 := Lib.hid (SC5.out.next HBn.out)
  have SV6 := Lib.hid (SV5.out.next HBn.out)
  have BG6 : Hid (Imgs (Lf l l' la) (Lf s s' sa) (Zf zs ys A) bI (Vf v0 v1 iv) w6) := ⟨BX.out.1, BX.out.2.1, BX.out.2.2, BI5.out.smp.below HBn.out⟩
  clear HBn BX SC5 SV5 BI5 CI5 CJ5 CI CJ k0 k1 k2 k3 kl j0 j1 j2 j3 jl i0 i1 i2 il
  obtain ⟨D, HD⟩ := HK0.out
  have HDC := Lib.hid HD.c
  have HDF := Lib.hid HD.f
  have HDE := Lib.hid HD.e
  clear HK0 HD
  generalize Lf l l' la = LL at *
  generalize Lf s s' sa = SS at *
  generalize Zf zs ys A = ZZ at *
  generalize Vf v0 v1 iv = VV at *
  clear zs ys A v0 v1 iv
  go_wp2_with fail
  go_loopw [11, 12] (fun lv i wr => ∃ (k : Nat) (v : Value), k ≤ 3 ∧ i = .int .i64 k ∧ v = lv ∧ Hid (TfL D w6 k v wr)) (fun _ i _ => 3 - (intOf i).toNat)
  case atStart => exact ⟨0, _, Nat.zero_le _, rfl, rfl, TfL.start D w6⟩
  case round =>
    obtain ⟨k, lv, hk, rfl, rfl, IK⟩ := hrel
    obtain ⟨wz, rfl⟩ : ∃ wz : World, wz = wr := ⟨_, rfl⟩
    have SCz := Lib.hid (SC6.out.next IK.out.hb)
    have SVz := Lib.hid (SV6.out.next IK.out.hb)
    have BGz := Lib.hid (BG6.out.next IK.out.hb)
    by_cases hlt : k < 3
    · obtain ⟨k0, k1, k2, k3, kl⟩ := four_cells SCz.out.b0
      obtain ⟨i0, i1, i2, is⟩ := BGz.out.at k hlt
      have IS := Lib.hid is
      have CKz := Lib.hid (fun W (h : Below wz.heap.size wz W) => CK.out W (SCz.out.c.below h))
      have CCz := Lib.hid (fun W u (h : Below wz.heap.size wz W) (hu : Smp .f32 us W u) => HDC.out k hlt W _ u (IS.out.below h) hu)
      have CFz := Lib.hid (HDF.out k hlt)
      obtain ⟨lk, hlk⟩ : ∃ x, x = LL k := ⟨_, rfl⟩
      obtain ⟨sk, hsk⟩ : ∃ x, x = SS k := ⟨_, rfl⟩
      obtain ⟨vk, hvk⟩ : ∃ x, x = VV k := ⟨_, rfl⟩
      obtain ⟨EX, hEX⟩ : ∃ x, x = D.EX k := ⟨_, rfl⟩
      rw [← hlk] at i0 CCz
      rw [← hsk] at i1 CCz
      rw [← hvk] at i2 CCz
      rw [← hEX] at CCz CFz
      have HEX := Lib.hid hEX
      clear hlk hsk hvk is IS hEX
      have hk3 : (k : Int) < 3 := by omega
      go_wp2_with fail
      go_cut [13, 14] from 52 to 81 (fun s1 s2 wx => ∃ b7 fx, s1 = .pointer (some ⟨b7, 0, none⟩) ∧ s2 = .int .i64 EX ∧ Hid (wz.heap.size ≤ b7) ∧ Hid (Below wz.heap.size wz wx) ∧ Hid (FBox (D.lx k) (D.sx k) fx (D.X k) b7 wx))
      case first =>
        go_region_held3 (fun W => W.cell? ⟨w.heap.size, 0, none⟩ = some (.int .i64 l) ∧ W.cell? ⟨w.heap.size, 1, none⟩ = some (.int .i64 s) ∧ W.cell? ⟨w.heap.size, 2, none⟩ = some (.slice pa np pc) ∧ W.cell? ⟨w.heap.size, 3, none⟩ = some (.slice ca nc cc) ∧ W.cell? ⟨bI, k * 3, none⟩ = some (.int .i64 lk) ∧ W.cell? ⟨bI, k * 3 + 1, none⟩ = some (.int .i64 sk) ∧ W.cell? ⟨bI, k * 3 + 2, none⟩ = some vk) (with_reducible refine ⟨Below.keepc ?_ k0, Below.keepc ?_ k1, Below.keepc ?_ k2, Below.keepc ?_ k3, Below.keepc ?_ i0, Below.keepc ?_ i1, Below.keepc ?_ i2⟩ <;> (repeat (first | with_reducible exact Below.refl _ _ | with_reducible refine Below.andThen ?_ hbI rfl | with_reducible refine Below.andThen ?_ hbJ rfl | with_reducible refine Below.andThen ?_ hbC rfl | with_reducible refine Below.alloc1 ?_ _ rfl | with_reducible refine Below.drew ?_ | with_reducible refine Below.set3 ?_ (by first | exact Nat.le_refl _ | exact hBI.size | exact hBJ.size | exact hBC.size) _ _ _)) <;> done)
          (first
            | (go_at_call 8; (with_reducible refine (CKz.out _ (by repeat (first | with_reducible exact Below.refl _ _ | with_reducible refine Below.andThen ?_ hbI rfl | with_reducible refine Below.andThen ?_ hbJ rfl | with_reducible refine Below.andThen ?_ hbC rfl | with_reducible refine Below.alloc1 ?_ _ rfl | with_reducible refine Below.drew ?_ | with_reducible refine Below.set3 ?_ (by first | exact Nat.le_refl _ | exact hBI.size | exact hBJ.size | exact hBC.size) _ _ _))).mono ?_); rintro e wJ ⟨vJ, rfl, hbJ, hsJ⟩; have hBJ : Below wz.heap.size wz wJ := (by repeat (first | with_reducible exact Below.refl _ _ | with_reducible refine Below.andThen ?_ hbI rfl | with_reducible refine Below.andThen ?_ hbJ rfl | with_reducible refine Below.andThen ?_ hbC rfl | with_reducible refine Below.alloc1 ?_ _ rfl | with_reducible refine Below.drew ?_ | with_reducible refine Below.set3 ?_ (by first | exact Nat.le_refl _ | exact hBI.size | exact hBJ.size | exact hBC.size) _ _ _)); first | (have qb := box_after_drew hbJ; obtain ⟨q0, q1, q2, f0, f1, f2, ql⟩ := three_cells qb) | (have qb := box_after hbJ; obtain ⟨q0, q1, q2, f0, f1, f2, ql⟩ := three_cells qb) | (have qb := (hbJ.block _ (lt_of_block qb)).trans qb; obtain ⟨q0, q1, q2, f0, f1, f2, ql⟩ := three_cells qb) | skip)
            | (go_at_call 9; (with_reducible refine (CCz.out _ _ (by repeat (first | with_reducible exact Below.refl _ _ | with_reducible refine Below.andThen ?_ hbI rfl | with_reducible refine Below.andThen ?_ hbJ rfl | with_reducible refine Below.andThen ?_ hbC rfl | with_reducible refine Below.alloc1 ?_ _ rfl | with_reducible refine Below.drew ?_ | with_reducible refine Below.set3 ?_ (by first | exact Nat.le_refl _ | exact hBI.size | exact hBJ.size | exact hBC.size) _ _ _)) (by repeat (first | exact hsI | exact hsJ | refine Smp.alloc ?_ _ | refine Smp.drew ?_ | refine Smp.below ?_ hbI | refine Smp.below ?_ hbJ))).mono ?_); rintro e wC ⟨fv, rfl, hbC, hf⟩; obtain ⟨fa, fc, rfl, hfl, -⟩ := hf.sl; have hBC : Below wz.heap.size wz wC := (by repeat (first | with_reducible exact Below.refl _ _ | with_reducible refine Below.andThen ?_ hbI rfl | with_reducible refine Below.andThen ?_ hbJ rfl | with_reducible refine Below.andThen ?_ hbC rfl | with_reducible refine Below.alloc1 ?_ _ rfl | with_reducible refine Below.drew ?_ | with_reducible refine Below.set3 ?_ (by first | exact Nat.le_refl _ | exact hBI.size | exact hBJ.size | exact hBC.size) _ _ _)); first | (have qb := box_after_drew hbC; obtain ⟨q0, q1, q2, f0, f1, f2, ql⟩ := three_cells qb) | (have qb := box_after hbC; obtain ⟨q0, q1, q2, f0, f1, f2, ql⟩ := three_cells qb) | (have qb := (hbC.block _ (lt_of_block qb)).trans qb; obtain ⟨q0, q1, q2, f0, f1, f2, ql⟩ := three_cells qb) | skip))
        all_goals
          go_wp2_with fail
          go_meet
          case rel =>
            first
              | exact ⟨_, _, rfl, rfl, Lib.hid (by first | exact Nat.le_refl _ | exact hBI.size | exact hBJ.size | exact hBC.size), Lib.hid (by repeat (first | with_reducible exact Below.refl _ _ | with_reducible refine Below.andThen ?_ hbI rfl | with_reducible refine Below.andThen ?_ hbJ rfl | with_reducible refine Below.andThen ?_ hbC rfl | with_reducible refine Below.alloc1 ?_ _ rfl | with_reducible refine Below.drew ?_ | with_reducible refine Below.set3 ?_ (by first | exact Nat.le_refl _ | exact hBI.size | exact hBJ.size | exact hBC.size) _ _ _)), Lib.hid (FBox.born hf)⟩
              | exact ⟨_, _, rfl, rfl, Lib.hid (by first | exact Nat.le_refl _ | exact hBI.size | exact hBJ.size | exact hBC.size), Lib.hid (Below.set3 hBC (by first | exact Nat.le_refl _ | exact hBI.size | exact hBJ.size | exact hBC.size) _ _ _), Lib.hid (FBox.made qb hf)⟩
      obtain ⟨b7, fx, rfl, rfl, LEb7, HBn, BXb7⟩ := hcut
      obtain ⟨w7, rfl⟩ : ∃ w7 : World, w7 = wc := ⟨_, rfl⟩
      have SC7 := Lib.hid (SCz.out.next HBn.out)
      have SV7 := Lib.hid (SVz.out.next HBn.out)
      have BX7 := BXb7
      have HB7 := Lib.hid (Orb.andThen IK.out.hb HBn.out)
      have HZ7 := Lib.hid HBn.out
      clear HBn BXb7 LEb7 SCz SVz BGz CKz CCz k0 k1 k2 k3 kl i0 i1 i2
      have HR : ((EX != 0) = true) ∨ (EX = 0) := by
        by_cases h : EX = 0
        · exact .inr h
        · exact .inl (by rw [bne_iff_ne]; exact h)
      rcases HR with hE | rfl
      · go_wp2_with fail
        go_ret
        exact ⟨rfl, SC7.out.hb⟩
      have CF7 := Lib.hid (CFz.out rfl)
      clear CFz
      obtain ⟨EY, hEY⟩ : ∃ x, x = D.EY k := ⟨_, rfl⟩
      rw [← hEY] at CF7
      have HEY := Lib.hid hEY
      clear hEY
      go_wp2_with fail
      go_cut [15, 16] from 52 to 81 (fun s1 s2 wx => ∃ b v, s1 = .pointer (some ⟨b, 0, none⟩) ∧ s2 = .int .i64 EY ∧ Hid (Below w7.heap.size w7 wx) ∧ Hid (FBox (D.ly k) (D.sy k) v (D.Y k) b wx) ∧ Hid (∀ b, v.ownBlock = some b → w7.heap.size ≤ b))
      case first =>
        refine region_vals2 (R17 w7 (.agg #[.int .i64 (D.lx k), .int .i64 (D.sx k), fx]) (.slice va vn vc) vs (D.Y k) (D.ly k) (D.sy k) EY) (by kernel_rfl) (by kernel_rfl) (by kernel_rfl) (fun _ => R17.start) ?_ ?_
        · refine Steps.gval (k' := 1) rfl (fun _ => by kernel_rfl) (fun _ _ => by kernel_rfl) ?_ ?_
          · intro lv yv WQ hd hn hI
            refine ⟨.agg #[.int .i64 (D.lx k), .int .i64 (D.sx k), fx], ?_, fun w' hb => (hI.below hb).s0⟩
            have hq := keepb hI.hb BX7.out.blk
            clear hI hd hn
            simp only [putAll, Act.put, List.setIfInBounds_toArray, List.set_cons_succ, List.set_cons_zero]
            obtain ⟨zq0, zq1, zq2⟩ := cells3 hq
            unfold Oper.quietAt
            go_simp
          refine Steps.own (k' := 2) rfl (fun _ => by kernel_rfl) (fun _ _ => by kernel_rfl) ?_ ?_
          · intro lv yv WQ hd hn hI
            refine ⟨.slice (some ⟨WQ.heap.size, 0, none⟩) 0 0, WQ.alloc (.cells #[] 54), ?_, hI.s1 hI.hb.size⟩
            clear hI hd hn
            simp only [putAll, Act.put, List.setIfInBounds_toArray, List.set_cons_succ, List.set_cons_zero]
            go_simp
          refine Steps.gval (k' := 3) rfl (fun _ => by kernel_rfl) (fun _ _ => by kernel_rfl) ?_ ?_
          · intro lv yv WQ hd hn hI
            refine ⟨.slice va vn vc, ?_, fun w' hb => (hI.below hb).s2⟩
            clear hI hd hn
            simp only [putAll, Act.put, List.setIfInBounds_toArray, List.set_cons_succ, List.set_cons_zero]
            unfold Oper.quietAt
            go_simp
          refine Steps.gen (k' := 4) rfl (fun _ => by kernel_rfl) (fun _ _ => by kernel_rfl) ?_ ?_
          · intro lv yv WQ K hd hn hI hK
            have d1 := dep_of hd 1 (by kernel_rfl)
            have d2 := dep_of hd 2 (by kernel_rfl)
            obtain ⟨b, e1, hle, hc⟩ := hI.f1 d1 hn
            refine append_code (b := b) (va := va) (vn := vn) (vc := vc) rfl (.tmp 70) (.tmp 71) rfl ?_ ?_ hc (SV7.out.next hI.hb) hn35 ?_
            · exact (show _ = yv 1 by kernel_rfl).trans e1
            · exact (show _ = yv 2 by kernel_rfl).trans (hI.f2 d2)
            · intro v W' hg hs
              exact hK _ _ (hI.s3 hn hle hc hg hs)
          refine Steps.gen (k' := 5) rfl (fun _ => by kernel_rfl) (fun _ _ => by kernel_rfl) ?_ ?_
          · intro lv yv WQ K hd hn hI hK
            have d0 := dep_of hd 0 (by kernel_rfl)
            have d3 := dep_of hd 3 (by kernel_rfl)
            refine wp_enter 17 #[.agg #[.int .i64 (D.lx k), .int .i64 (D.sx k), fx], yv 3] ?_ ?_
            · have e0 := hI.f0 d0
              clear hI hK hd hn
              simp only [putAll, Act.put, List.setIfInBounds_toArray, List.set_cons_succ, List.set_cons_zero]
              rw [e0]
              go_simp
            · refine (CF7.out WQ _ _ (BX7.out.smp.below hI.hb) (hI.f3 d3)).mono ?_
              rintro e w' ⟨v, rfl, hb, hs, hf⟩
              exact ⟨_, rfl, hK _ _ ((hI.below hb).s4 d3 hs (fun b h => Nat.le_trans hI.hb.size (hf b h)))⟩
          refine Steps.gval (k' := 6) rfl (fun _ => by kernel_rfl) (fun _ _ => by kernel_rfl) ?_ ?_
          · intro lv yv WQ hd hn hI
            have d4 := dep_of hd 4 (by kernel_rfl)
            refine ⟨yv 4, ?_, fun w' hb => (hI.below hb).s5 d4⟩
            clear hI hd hn
            simp only [putAll, Act.put, List.setIfInBounds_toArray, List.set_cons_succ, List.set_cons_zero]
            unfold Oper.quietAt
            go_simp
          refine Steps.gval (k' := 7) rfl (fun _ => by kernel_rfl) (fun _ _ => by kernel_rfl) ?_ ?_
          · intro lv yv WQ hd hn hI
            have d5 := dep_of hd 5 (by kernel_rfl)
            obtain ⟨v, e, hs, hf⟩ := (hI.f5 d5).2
            refine ⟨.agg #[.int .i64 (D.ly k), .int .i64 (D.sy k), v], ?_, fun w' hb => (hI.below hb).s6 d5 (hs.below hb) hf⟩
            clear hI hd hn
            simp only [putAll, Act.put, List.setIfInBounds_toArray, List.set_cons_succ, List.set_cons_zero]
            rw [e]
            unfold Oper.quietAt
            go_simp
          refine Steps.gval (k' := 8) rfl (fun _ => by kernel_rfl) (fun _ _ => by kernel_rfl) ?_ ?_
          · intro lv yv WQ hd hn hI
            have d5 := dep_of hd 5 (by kernel_rfl)
            obtain ⟨v, e, hs, hf⟩ := (hI.f5 d5).2
            refine ⟨.int .i64 EY, ?_, fun w' hb => (hI.below hb).s7⟩
            clear hI hd hn
            simp only [putAll, Act.put, List.setIfInBounds_toArray, List.set_cons_succ, List.set_cons_zero]
            rw [e]
            unfold Oper.quietAt
            go_simp
          refine Steps.own (k' := 9) rfl (fun _ => by kernel_rfl) (fun _ _ => by kernel_rfl) ?_ ?_
          · intro lv yv WQ hd hn hI
            refine ⟨.pointer (some ⟨WQ.heap.size, 0, none⟩), WQ.alloc (.cells #[.int .i64 0, .int .i64 0, .slice none 0 0] 34), ?_, hI.s8 hn⟩
            clear hI hd hn
            simp only [putAll, Act.put, List.setIfInBounds_toArray, List.set_cons_succ, List.set_cons_zero]
            go_simp
          refine Steps.sto' (k' := 10) rfl (fun _ => by kernel_rfl) rfl ?_ ?_
          · intro lv yv WQ hd hn hI
            have d8 := dep_of hd 8 (by kernel_rfl)
            have d6 := dep_of hd 6 (by kernel_rfl)
            obtain ⟨b, e8, hle, hc⟩ := hI.f8 d8 hn
            obtain ⟨v, e6, hs, hf⟩ := (hI.f6 d6).2
            obtain ⟨ya, yc, rfl, -, -⟩ := hs.sl
            refine ⟨(((WQ.setCell ⟨b, 0, none⟩ (.int .i64 (D.ly k))).setCell ⟨b, 1, none⟩ (.int .i64 (D.sy k))).setCell ⟨b, 2, none⟩ _), ?_, hI.s9 d8 d6 e8 hle hc hs hf⟩
            obtain ⟨zq0, zq1, zq2⟩ := cells3 hc
            obtain ⟨zf0, zf1, zf2⟩ := free3 hc
            clear hI hd hn hs hf hc
            simp only [putAll, Act.put, List.setIfInBounds_toArray, List.set_cons_succ, List.set_cons_zero]
            rw [e8, e6]
            go_simp
          refine Steps.gval (k' := 11) rfl (fun _ => by kernel_rfl) (fun _ _ => by kernel_rfl) ?_ ?_
          · intro lv yv WQ hd hn hI
            have d7 := dep_of hd 7 (by kernel_rfl)
            have e7 := hI.f7 d7
            refine ⟨.int .i64 EY, ?_, fun w' hb => (hI.below hb).sA⟩
            clear hI hd hn
            simp only [putAll, Act.put, List.setIfInBounds_toArray, List.set_cons_succ, List.set_cons_zero]
            rw [e7]
            unfold Oper.quietAt
            go_simp
          exact Steps.nil
        intro lv yv WE hl hI
        have eA := hI.fA (hl 10 (by decide))
        obtain ⟨b, v, e8, hle, hc, hf⟩ := (hI.f9 (hl 9 (by decide))).2
        have HBE := Lib.hid hI.hb
        have HCE := Lib.hid (And.intro hc hf)
        clear hI hl hc hf
        simp only [putAll, Act.put, List.setIfInBounds_toArray, List.set_cons_succ, List.set_cons_zero]
        rw [e8, eA]
        clear e8 eA
        go_wp2_with fail
        go_meet
        case rel => exact ⟨_, _, rfl, rfl, HBE, HCE.out.1, HCE.out.2⟩
      obtain ⟨b8, vy, rfl, rfl, HBn, BX8, HF8⟩ := hcut
      obtain ⟨w8, rfl⟩ : ∃ w8 : World, w8 = wc := ⟨_, rfl⟩
      have SC8 := Lib.hid (SC7.out.next HBn.out)
      have HB8 := Lib.hid (Orb.andThen HB7.out HBn.out)
      have HR : ((EY != 0) = true) ∨ (EY = 0) := by
        by_cases h : EY = 0
        · exact .inr h
        · exact .inl (by rw [bne_iff_ne]; exact h)
      rcases HR with hE | rfl
      · go_wp2_with fail
        go_ret
        exact ⟨rfl, SC8.out.hb⟩
      obtain ⟨V, ho, hV⟩ := IK.out.row
      have RO7 := own_kept ho HZ7.out
      have RO8 := Lib.hid (own_kept RO7 HBn.out)
      have HFar : Hid (Apart (D.Y k) vy lv) := apart_new RO7 HF8.out
      have HV8 : Hid (∀ j, j < k → Smp .f64 (D.Y j) w8 (V j) ∧ Apart (D.Y j) (V j) lv) := fun j hj => ⟨((hV j hj).1.below HZ7.out).below HBn.out, (hV j hj).2⟩
      have HER := Lib.hid IK.out.err
      obtain ⟨ya, yc, rfl, -, -⟩ := BX8.out.smp.sl
      generalize (cvals .f64 (D.Y k)).length = ny at *
      obtain ⟨q0, q1, q2, -, -, -, ql⟩ := three_cells BX8.out.blk
      obtain ⟨z0, hi, hz0, hz1, hz2⟩ := info_parts Try.infoFld
      have HI := Lib.hid (And.intro hi (And.intro hz0 (And.intro hz1 hz2)))
      have HSM := Lib.hid BX8.out.smp
      have HAdd : Hid (∀ g cap w', w'.ownsRow w6.heap.size 34 3 (.slice (some ⟨g, 0, none⟩) (k + 1) cap) (k + 1) (rowV D V k ++ fldV D k (.slice ya ny yc)) → (w8.alloc (.cells #[.int .i64 (D.ly k), .int .i64 (D.sy k), .slice ya ny yc] 34)).grownBy w' lv.ownBlock → (lv.ownBlock = some g ∨ g = w8.heap.size + 1) → TfL D w6 (k + 1) (.slice (some ⟨g, 0, none⟩) (k + 1) cap) w') := by
        intro g cap w' h1 h2 h3
        have n8 := new_below w8 (.cells #[.int .i64 (D.ly k), .int .i64 (D.sy k), .slice ya ny yc] 34)
        exact TfL.next ((Orb.andThen HB8.out n8).grown h2 (Orb.andThen HB8.out n8).size (fun b hb => (RO8.out.lt b hb).1)) HER.out HEX.out.symm HEY.out.symm (fun j hj => ⟨(HV8.out j hj).1.below n8, (HV8.out j hj).2⟩) (HSM.out.below n8) HFar.out h1 h2 (by rw [World.size_alloc]; exact h3)
      have HZ := HB8.out.size
      clear hi hz0 hz1 hz2 ho hV RO7 HFar HV8 HER HSM BX8 HBn HZ7 HB7 SV7 BX7 CF7 HEX HEY HF8 IK SC7
      go_wp2_with (at_builtin; refine wpList_append_lies _ (by rfl) (.tmp 78) (.tmp 80) 50 (by rfl) w6.heap.size 34 z0 (.agg #[.int .i64 0, .int .i64 0, .slice none 0 0]) 3 40 Try.underlying50 HI.out.1 HI.out.2.1 HI.out.2.2.1 HI.out.2.2.2 rfl (by decide) lv k (rowV D V k) ?a1 ?a2 ⟨w8.heap.size, 0, none⟩ 1 1 (fldV D k (.slice ya ny yc)) ?a3 ?a4 ?a5 ?a6 ?a7 ?a8 ?a9 ?b1 (w8.heap.size + 1) ?b2 ?_)
      case a1 => rfl
      case a2 => exact RO8.out.alloc _
      case a3 => rfl
      case a4 => rfl
      case a5 => exact World.news_of_block (heap_alloc_new _ _)
      case a6 => intro u hu; unfold fldV at hu; simp at hu; rcases hu with rfl | rfl | rfl <;> rfl
      case a7 => decide
      case a8 => unfold maxLen; omega
      case a9 => omega
      case b1 => simp; omega
      case b2 => simp
      intro g cap w9 hown hgrow hgg _
      have HN := Lib.hid (HAdd.out g cap w9 hown hgrow hgg)
      clear hown hgrow hgg HAdd RO8
      go_wp2_with fail
      go_roundw
      case rel => exact ⟨k + 1, _, by omega, by go_num, rfl, HN⟩
      case measure => simp [intOf]; omega
    · have e : k = 3 := by omega
      subst e
      obtain ⟨g, cap, V, hlv, hg, hS, p0, p1, p2⟩ := IK.out.cells
      subst hlv
      have HE := HDE.out (fun j hj => IK.out.err j hj)
      have S0 := hS 0 (by decide)
      have S1 := hS 1 (by decide)
      have S2 := hS 2 (by decide)
      clear hS IK SVz BGz BG6 SV6 HDE HDC HDF CK
      generalize D.Y 0 = X at *
      generalize D.Y 1 = Y at *
      generalize D.Y 2 = Z at *
      generalize V 0 = f0 at *
      generalize V 1 = f1 at *
      generalize V 2 = f2 at *
      clear V
      obtain ⟨N, l0, l1, l2, hN, hpt⟩ := HE
      have HPT := Lib.hid hpt
      have HLN := Lib.hid (And.intro l0 (And.intro l1 l2))
      have VF := Lib.hid S0.sl
      have VG := Lib.hid S1.sl
      have VH := Lib.hid S2.sl
      obtain ⟨xa, xc, rfl, xl, -⟩ := S0.sl
      obtain ⟨ya, yc, rfl, yl, -⟩ := S1.sl
      obtain ⟨za, zc, rfl, zl, -⟩ := S2.sl
      rw [show (cvals .f64 X).length = N from by simp [cvals, l0]] at VF p0 xl
      rw [show (cvals .f64 Y).length = N from by simp [cvals, l1]] at VG p1 yl
      rw [show (cvals .f64 Z).length = N from by simp [cvals, l2]] at VH p2 zl
      clear S0 S1 S2 l0 l1 l2 hpt
      go_wp2_with fail
      go_quiet (fail)
      go_wp2_with fail
      go_loopw [17] (fun i wr => ∃ k : Nat, k ≤ N ∧ i = .int .i64 k ∧ Hid (Below wz.heap.size wz wr)) (fun i _ => N - (intOf i).toNat)
      case atStart => exact ⟨0, Nat.zero_le _, rfl, Lib.hid (below_drewN' _ _ _)⟩
      case round =>
        obtain ⟨k, hk, rfl, HBZ⟩ := hrel
        obtain ⟨wy, rfl⟩ : ∃ wy : World, wy = wr := ⟨_, rfl⟩
        have m0 := keepc HBZ.out p0
        have m1 := keepc HBZ.out p1
        have m2 := keepc HBZ.out p2
        by_cases hlt : k < N
        · obtain ⟨-, b1, o1, rfl, q1, g1⟩ := VF.out.at (by omega)
          obtain ⟨-, b2, o2, rfl, q2, g2⟩ := VG.out.at (by omega)
          obtain ⟨-, b3, o3, rfl, q3, g3⟩ := VH.out.at (by omega)
          obtain ⟨a, b, c, d, eX, eY, eZ, ba, bb, bc, bd⟩ := HPT.out k hlt
          have d1 : wy.cell? ⟨b1, o1 + k, none⟩ = some (.complex .f64 (enc Ieee.double a) (enc Ieee.double b)) := keepc HBZ.out ((g1 k _ (cvals_get (by have := HLN.out; omega))).trans (by rw [eX]))
          have d2 : wy.cell? ⟨b2, o2 + k, none⟩ = some (.complex .f64 (enc Ieee.double c) (enc Ieee.double d)) := keepc HBZ.out ((g2 k _ (cvals_get (by have := HLN.out; omega))).trans (by rw [eY]))
          have d3 : wy.cell? ⟨b3, o3 + k, none⟩ = some (.complex .f64 (enc Ieee.double (a + c)) (enc Ieee.double (b + d))) := keepc HBZ.out ((g3 k _ (cvals_get (by have := HLN.out; omega))).trans (by rw [eZ]))
          have hadd : ∀ w, (binOp .add 43 (.complex .f64 (enc Ieee.double a) (enc Ieee.double b)) (.complex .f64 (enc Ieee.double c) (enc Ieee.double d))).run Try.prog w = .ok (.complex .f64 (enc Ieee.double (a + c)) (enc Ieee.double (b + d))) w := fun w =>
            run_sum_step _ a b c d _ _ (Rep.enc _ c) (Rep.enc _ d) (Nat.le_trans ba (by decide)) (Nat.le_trans bb (by decide)) (Nat.le_trans bc (by decide)) (Nat.le_trans bd (by decide)) (Nat.le_trans (show (a + c).natAbs ≤ 384000000000 by omega) (by decide)) (Nat.le_trans (show (b + d).natAbs ≤ 384000000000 by omega) (by decide)) w
          have o1e : (FloatKind.f64.format.order (enc Ieee.double (a + c)) (enc Ieee.double (a + c)) == some .eq) = true := torder_self (show (a + c).natAbs ≤ 2 ^ 53 from Nat.le_trans (show (a + c).natAbs ≤ 384000000000 by omega) (by decide))
          have o2e : (FloatKind.f64.format.order (enc Ieee.double (b + d)) (enc Ieee.double (b + d)) == some .eq) = true := torder_self (show (b + d).natAbs ≤ 2 ^ 53 from Nat.le_trans (show (b + d).natAbs ≤ 384000000000 by omega) (by decide))
          generalize enc Ieee.double (a + c) = P at *
          generalize enc Ieee.double (b + d) = Q at *
          generalize enc Ieee.double a = P1 at *
          generalize enc Ieee.double b = Q1 at *
          generalize enc Ieee.double c = P2 at *
          generalize enc Ieee.double d = Q2 at *
          have hki : (k : Int) < N := by omega
          clear g1 g2 g3 q1 q2 q3 eX eY eZ ba bb bc bd p0 p1 p2
          go_wp2_with fail
          go_quiet (fail)
          go_wp2_with fail
          go_roundw
          case rel => exact ⟨k + 1, by omega, by go_num, HBZ.out.trans (below_drewN' _ _ _)⟩
          case measure => simp [intOf]; omega
        · have e : N = k := by omega
          subst e
          clear p0 p1 p2
          go_wp2_with fail
          go_ret
          exact ⟨rfl, SCz.out.hb.trans (HBZ.out.mono SCz.out.hb.size)⟩

/-- THE LAW, FOR ALL PAIRS OF SCENES AND ALL CODES -/
theorem tfoc_any (l s l' s' : Int) (pv cv pv' cv' av : Value) (xs cs xs2 cs2 acs : List Nat) (w : World) (hp : Fls .f32 xs w pv) (hc : Fls .f32 cs w cv) (hp' : Fls .f32 xs2 w pv') (hc' : Fls .f32 cs2 w cv') (ha : Fls .f32 acs w av) (hl : I64 l) (hs : I64 s) (hl' : I64 l') (hs' : I64 s')
    (hz : ∀ z ∈ pairsOf xs, z.1 < 2 ^ 32 ∧ z.2 < 2 ^ 32) (hy : ∀ z ∈ pairsOf xs2, z.1 < 2 ^ 32 ∧ z.2 < 2 ^ 32) (hu : ∀ z ∈ pairsOf cs, z.1 < 2 ^ 32 ∧ z.2 < 2 ^ 32) (hv : ∀ z ∈ pairsOf acs, z.1 < 2 ^ 32 ∧ z.2 < 2 ^ 32) :
    Calls Try.prog 4 #[.agg #[.int .i64 l, .int .i64 s, pv, cv], .agg #[.int .i64 l', .int .i64 s', pv', cv'], av] w fun e w' => e = .returned (.bool true) ∧ Below w.heap.size w w' := by
  cases h1 : SmallB xs.length cs.length with
  | false => exact tfoc_long l s l' s' pv cv pv' cv' av xs cs xs2 cs2 acs w hp hc hp' hc' ha (.inl h1)
  | true =>
    cases h2 : SmallB xs2.length cs2.length with
    | false => exact tfoc_long l s l' s' pv cv pv' cv' av xs cs xs2 cs2 acs w hp hc hp' hc' ha (.inr (.inl h2))
    | true =>
      rcases Nat.lt_or_ge 70 acs.length with h3 | h3
      · exact tfoc_long l s l' s' pv cv pv' cv' av xs cs xs2 cs2 acs w hp hc hp' hc' ha (.inr (.inr h3))
      · exact tfoc_short l s l' s' pv cv pv' cv' av xs cs xs2 cs2 acs w hp hc hp' hc' ha hl hs hl' hs' hz hy hu hv h1 h2 h3
end Go.Proofs.Ytadajelonekpmaa
