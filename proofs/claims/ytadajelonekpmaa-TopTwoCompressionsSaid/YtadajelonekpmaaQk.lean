import Derived.Test.YtadajelonekpmaaQj
import Derived.Test.YtadajelonekpmaaSb
import Derived.Test.YtadajelonekpmaaGf
import Derived.Deep.RegionHeld3
import Derived.Deep.CutRange
import Derived.Deep.Quiet
namespace Go.Proofs.Ytadajelonekpmaa
open Go.RowKit Go.Proofs.Ytadajelonekpmaa.Flt

set_option maxRecDepth 100000 in
set_option maxHeartbeats 4000000 in
theorem two_long (l s : Int) (pv cv : Value) (xs cs : List Nat) (w : World) (hp : Fls .f32 xs w pv) (hc : Fls .f32 cs w cv) (hsm : SmallB xs.length cs.length = false ∨ 4 < l) :
    Calls Try.prog 3 #[.agg #[.int .i64 l, .int .i64 s, pv, cv]] w fun e w' => e = .returned (.bool true) ∧ Below w.heap.size w w' := by
  have CA := Lib.hid (fun W (_ : ScIn l s pv cv xs cs w W) => compressed_any W)
  have CS1 := Lib.hid (fun W (h : ScIn l s pv cv xs cs w W) => Small_any l s pv cv xs cs W h.p h.c)
  have HS0 : Hid (∀ W0, W0 = w.alloc (.cells #[.int .i64 l, .int .i64 s, pv, cv] 24) → ScIn l s pv cv xs cs w W0) := by
    rintro W0 rfl
    exact ScIn.start hp hc
  have hsm2 : SmallB xs.length cs.length = false ∨ (SmallB xs.length cs.length = true ∧ 4 < l) := by
    cases h : SmallB xs.length cs.length
    · exact .inl rfl
    · rcases hsm with hsm | hsm
      · rw [hsm] at h; cases h
      · exact .inr ⟨rfl, hsm⟩
  obtain ⟨pa, pc, rfl, -, -⟩ := hp.sl
  obtain ⟨ca, cc, rfl, -, -⟩ := hc.sl
  generalize (fvals .f32 xs).length = np at *
  generalize (fvals .f32 cs).length = nc at *
  generalize SmallB xs.length cs.length = B1 at *
  clear hp hc hsm
  rcases hsm2 with rfl | ⟨rfl, hn⟩
  all_goals
    go_enter Try.func3, Try.ntmps3
    go_wp2_with fail
    obtain ⟨W0, hW0⟩ : ∃ W0, W0 = w.alloc (.cells #[.int .i64 l, .int .i64 s, .slice pa np pc, .slice ca nc cc] 24) := ⟨_, rfl⟩
    have SC0 := Lib.hid (HS0.out W0 hW0)
    rw [← hW0]
    clear hW0 HS0
    refine (CA.out _ SC0.out).mono ?_
    rintro e w1 ⟨rfl, hb⟩
    have SC1 := Lib.hid (SC0.out.next hb)
    clear hb SC0 CA
    obtain ⟨k0, k1, k2, k3, kl⟩ := four_cells SC1.out.blk
    go_wp2_with fail
    refine (CS1.out _ SC1.out).mono ?_
    rintro e w2 ⟨rfl, hb⟩
    have SC2 := Lib.hid (SC1.out.next hb)
    clear hb SC1 k0 k1 k2 k3 kl CS1
  · go_wp2_with fail
    go_ret
    exact ⟨rfl, SC2.out.hb⟩
  · obtain ⟨k0, k1, k2, k3, kl⟩ := four_cells SC2.out.blk
    go_wp2_with fail
    go_ret
    exact ⟨rfl, SC2.out.hb⟩

theorem worder_self {a : Int} (h : a.natAbs ≤ 2 ^ 53) : (FloatKind.f64.format.order (enc Ieee.double a) (enc Ieee.double a) == some .eq) = true := by
  rw [order_same h]
  rfl

set_option maxRecDepth 100000 in
set_option maxHeartbeats 40000000 in
theorem two_short (l s : Int) (pv cv : Value) (xs cs : List Nat) (w : World) (hp : Fls .f32 xs w pv) (hc : Fls .f32 cs w cv) (hl : I64 l) (hs : I64 s)
    (hz : ∀ z ∈ pairsOf xs, z.1 < 2 ^ 32 ∧ z.2 < 2 ^ 32) (hu : ∀ z ∈ pairsOf cs, z.1 < 2 ^ 32 ∧ z.2 < 2 ^ 32) (hs1 : SmallB xs.length cs.length = true) (hl4 : ¬ 4 < l) :
    Calls Try.prog 3 #[.agg #[.int .i64 l, .int .i64 s, pv, cv]] w fun e w' => e = .returned (.bool true) ∧ Below w.heap.size w w' := by
  have CA := Lib.hid (fun W (_ : ScIn l s pv cv xs cs w W) => compressed_any W)
  have CS1 := Lib.hid (fun W (h : ScIn l s pv cv xs cs w W) => Small_any l s pv cv xs cs W h.p h.c)
  have HS0 : Hid (∀ W0, W0 = w.alloc (.cells #[.int .i64 l, .int .i64 s, pv, cv] 24) → ScIn l s pv cv xs cs w W0) := by
    rintro W0 rfl
    exact ScIn.start hp hc
  rw [hs1] at CS1
  have hlen : xs.length ≤ 100000 ∧ cs.length ≤ 100000 := by
    unfold SmallB at hs1
    simp at hs1
    omega
  have CI := Lib.hid (fun W (h : Fls .f32 xs W pv) => lawImage_any l s pv cv xs W h hlen.1)
  have CIC := Lib.hid (fun W (h : Fls .f32 xs W pv) => lawImageC_any l s pv cv xs W h hlen.1)
  have CK := Lib.hid (fun W (h : Fls .f32 cs W cv) => lawCode_any l s pv cv cs W h hlen.2)
  obtain ⟨lx, sx, X, EX, hX, hF⟩ := two_P l s (pairsOf xs) (pairsOf cs) hl hs hz hu
  have CX := Lib.hid hX
  have HF := Lib.hid hF
  clear hX hF
  generalize pairsOf xs = zs at *
  generalize pairsOf cs = us at *
  obtain ⟨pa, pc, rfl, -, -⟩ := hp.sl
  obtain ⟨ca, cc, rfl, -, -⟩ := hc.sl
  generalize (fvals .f32 xs).length = np at *
  generalize (fvals .f32 cs).length = nc at *
  clear hp hc hs1 hlen hz hu hl hs
  go_enter Try.func3, Try.ntmps3
  go_wp2_with fail
  obtain ⟨W0, hW0⟩ : ∃ W0, W0 = w.alloc (.cells #[.int .i64 l, .int .i64 s, .slice pa np pc, .slice ca nc cc] 24) := ⟨_, rfl⟩
  have SC0 := Lib.hid (HS0.out W0 hW0)
  rw [← hW0]
  clear hW0 HS0
  refine (CA.out _ SC0.out).mono ?_
  rintro e w1 ⟨rfl, hb⟩
  have SC1 := Lib.hid (SC0.out.next hb)
  clear hb SC0 CA
  obtain ⟨k0, k1, k2, k3, kl⟩ := four_cells SC1.out.blk
  go_wp2_with fail
  refine (CS1.out _ SC1.out).mono ?_
  rintro e w2 ⟨rfl, hb⟩
  have SC2 := Lib.hid (SC1.out.next hb)
  clear hb SC1 k0 k1 k2 k3 kl CS1
  obtain ⟨k0, k1, k2, k3, kl⟩ := four_cells SC2.out.blk
  have CI2 := Lib.hid (fun W (h : Below w2.heap.size w2 W) => CIC.out W (SC2.out.p.below h))
  have CK2 := Lib.hid (fun W (h : Below w2.heap.size w2 W) => CK.out W (SC2.out.c.below h))
  go_wp2_with fail
  go_cut [3, 4] from 20 (fun s1 s2 wx => ∃ b iv kv, s1 = .pointer (some ⟨b, 0, none⟩) ∧ s2 = kv ∧ Hid (Below w2.heap.size w2 wx) ∧ Hid (IBx l s iv zs b wx) ∧ Hid (Smp .f32 us wx kv))
  case first =>
    go_region_held3 (fun W => W.cell? ⟨w.heap.size, 0, none⟩ = some (.int .i64 l) ∧ W.cell? ⟨w.heap.size, 1, none⟩ = some (.int .i64 s) ∧ W.cell? ⟨w.heap.size, 2, none⟩ = some (.slice pa np pc) ∧ W.cell? ⟨w.heap.size, 3, none⟩ = some (.slice ca nc cc)) (with_reducible refine ⟨Below.keepc ?_ k0, Below.keepc ?_ k1, Below.keepc ?_ k2, Below.keepc ?_ k3⟩ <;> (repeat (first | with_reducible exact Below.refl _ _ | with_reducible refine Below.andThen ?_ hbI rfl | with_reducible refine Below.andThen ?_ hbJ rfl | with_reducible refine Below.andThen ?_ hbC rfl | with_reducible refine Below.alloc1 ?_ _ rfl | with_reducible refine Below.drew ?_ | with_reducible refine Below.set3 ?_ (by first | exact Nat.le_refl _ | exact hBI.size | exact hBJ.size | exact hBC.size) _ _ _)) <;> done)
      (first
        | (go_at_call 7; (with_reducible refine (CI2.out _ (by repeat (first | with_reducible exact Below.refl _ _ | with_reducible refine Below.andThen ?_ hbI rfl | with_reducible refine Below.andThen ?_ hbJ rfl | with_reducible refine Below.andThen ?_ hbC rfl | with_reducible refine Below.alloc1 ?_ _ rfl | with_reducible refine Below.drew ?_ | with_reducible refine Below.set3 ?_ (by first | exact Nat.le_refl _ | exact hBI.size | exact hBJ.size | exact hBC.size) _ _ _))).mono ?_); rintro e wI ⟨vI, rfl, hbI, hsI⟩; obtain ⟨va, vc, rfl, hvl, -⟩ := hsI.sl; have hBI : Below w2.heap.size w2 wI := (by repeat (first | with_reducible exact Below.refl _ _ | with_reducible refine Below.andThen ?_ hbI rfl | with_reducible refine Below.andThen ?_ hbJ rfl | with_reducible refine Below.andThen ?_ hbC rfl | with_reducible refine Below.alloc1 ?_ _ rfl | with_reducible refine Below.drew ?_ | with_reducible refine Below.set3 ?_ (by first | exact Nat.le_refl _ | exact hBI.size | exact hBJ.size | exact hBC.size) _ _ _)); first | (have qb := box_after_drew hbI; obtain ⟨q0, q1, q2, f0, f1, f2, ql⟩ := three_cells qb) | (have qb := box_after hbI; obtain ⟨q0, q1, q2, f0, f1, f2, ql⟩ := three_cells qb) | (have qb := (hbI.block _ (lt_of_block qb)).trans qb; obtain ⟨q0, q1, q2, f0, f1, f2, ql⟩ := three_cells qb) | skip)
        | (go_at_call 8; (with_reducible refine (CK2.out _ (by repeat (first | with_reducible exact Below.refl _ _ | with_reducible refine Below.andThen ?_ hbI rfl | with_reducible refine Below.andThen ?_ hbJ rfl | with_reducible refine Below.andThen ?_ hbC rfl | with_reducible refine Below.alloc1 ?_ _ rfl | with_reducible refine Below.drew ?_ | with_reducible refine Below.set3 ?_ (by first | exact Nat.le_refl _ | exact hBI.size | exact hBJ.size | exact hBC.size) _ _ _))).mono ?_); rintro e wJ ⟨vJ, rfl, hbJ, hsJ⟩; have hBJ : Below w2.heap.size w2 wJ := (by repeat (first | with_reducible exact Below.refl _ _ | with_reducible refine Below.andThen ?_ hbI rfl | with_reducible refine Below.andThen ?_ hbJ rfl | with_reducible refine Below.andThen ?_ hbC rfl | with_reducible refine Below.alloc1 ?_ _ rfl | with_reducible refine Below.drew ?_ | with_reducible refine Below.set3 ?_ (by first | exact Nat.le_refl _ | exact hBI.size | exact hBJ.size | exact hBC.size) _ _ _)); first | (have qb := box_after_drew hbJ; obtain ⟨q0, q1, q2, f0, f1, f2, ql⟩ := three_cells qb) | (have qb := box_after hbJ; obtain ⟨q0, q1, q2, f0, f1, f2, ql⟩ := three_cells qb) | (have qb := (hbJ.block _ (lt_of_block qb)).trans qb; obtain ⟨q0, q1, q2, f0, f1, f2, ql⟩ := three_cells qb) | skip))
    all_goals
      go_wp2_with fail
      go_meet
      case rel =>
        first
          | with_reducible exact ⟨_, _, _, rfl, rfl, Lib.hid (by repeat (first | with_reducible exact Below.refl _ _ | with_reducible refine Below.andThen ?_ hbI rfl | with_reducible refine Below.andThen ?_ hbJ rfl | with_reducible refine Below.andThen ?_ hbC rfl | with_reducible refine Below.alloc1 ?_ _ rfl | with_reducible refine Below.drew ?_ | with_reducible refine Below.set3 ?_ (by first | exact Nat.le_refl _ | exact hBI.size | exact hBJ.size | exact hBC.size) _ _ _)), Lib.hid (IBx.born (by repeat (first | with_reducible exact hsI | with_reducible refine SmpC.alloc1 ?_ _ | with_reducible refine SmpC.drew1 ?_ | with_reducible refine SmpC.below ?_ hbJ))), Lib.hid (by repeat (first | with_reducible exact hsI | with_reducible exact hsJ | with_reducible refine Smp.alloc ?_ _ | with_reducible refine Smp.drew ?_ | with_reducible refine Smp.below ?_ hbI | with_reducible refine Smp.below ?_ hbJ))⟩
          | with_reducible exact ⟨_, _, _, rfl, rfl, Lib.hid (Below.set3 (by repeat (first | with_reducible exact Below.refl _ _ | with_reducible refine Below.andThen ?_ hbI rfl | with_reducible refine Below.andThen ?_ hbJ rfl | with_reducible refine Below.andThen ?_ hbC rfl | with_reducible refine Below.alloc1 ?_ _ rfl | with_reducible refine Below.drew ?_ | with_reducible refine Below.set3 ?_ (by first | exact Nat.le_refl _ | exact hBI.size | exact hBJ.size | exact hBC.size) _ _ _)) (by first | exact Nat.le_refl _ | exact hBI.size | exact hBJ.size | exact hBC.size) _ _ _), Lib.hid (IBx.made qb (by repeat (first | with_reducible exact hsI | with_reducible refine SmpC.alloc1 ?_ _ | with_reducible refine SmpC.drew1 ?_ | with_reducible refine SmpC.below ?_ hbJ))), Lib.hid (smp_set3 (by repeat (first | with_reducible exact hsI | with_reducible exact hsJ | with_reducible refine Smp.alloc ?_ _ | with_reducible refine Smp.drew ?_ | with_reducible refine Smp.below ?_ hbI | with_reducible refine Smp.below ?_ hbJ)) qb _ _ _)⟩
          | (fail)
  obtain ⟨b3, iv, kv, rfl, rfl, HBn, BX3, KV3⟩ := hcut
  obtain ⟨w3, rfl⟩ : ∃ w3 : World, w3 = wc := ⟨_, rfl⟩
  have SC3 := Lib.hid (SC2.out.next HBn.out)
  clear HBn SC2 CI2 CK2 CIC k0 k1 k2 k3 kl
  obtain ⟨k0, k1, k2, k3, kl⟩ := four_cells SC3.out.blk
  obtain ⟨ia, ic, rfl, -, -⟩ := BX3.out.smp.sl
  obtain ⟨ka, kc, rfl, -, -⟩ := KV3.out.sl
  have CI3 := Lib.hid (fun W (h : Below w3.heap.size w3 W) => CI.out W (SC3.out.p.below h))
  have CK3 := Lib.hid (fun W (h : Below w3.heap.size w3 W) => CK.out W (SC3.out.c.below h))
  generalize hni : (cvals .f32 zs).length = ni at *
  generalize hnk : (cvals .f32 us).length = nk at *
  have HNI := Lib.hid (And.intro hni hnk)
  clear hni hnk
  go_wp2_with fail
  go_cut [5, 6] from 20 (fun s1 s2 wx => ∃ b5 fx, s1 = .pointer (some ⟨b5, 0, none⟩) ∧ s2 = .int .i64 EX ∧ Hid (w3.heap.size ≤ b5) ∧ Hid (Below w3.heap.size w3 wx) ∧ Hid (FBox lx sx fx X b5 wx))
  case first =>
    go_region_held3 (fun W => W.cell? ⟨w.heap.size, 0, none⟩ = some (.int .i64 l) ∧ W.cell? ⟨w.heap.size, 1, none⟩ = some (.int .i64 s) ∧ W.cell? ⟨w.heap.size, 2, none⟩ = some (.slice pa np pc) ∧ W.cell? ⟨w.heap.size, 3, none⟩ = some (.slice ca nc cc)) (with_reducible refine ⟨Below.keepc ?_ k0, Below.keepc ?_ k1, Below.keepc ?_ k2, Below.keepc ?_ k3⟩ <;> (repeat (first | with_reducible exact Below.refl _ _ | with_reducible refine Below.andThen ?_ hbI rfl | with_reducible refine Below.andThen ?_ hbJ rfl | with_reducible refine Below.andThen ?_ hbC rfl | with_reducible refine Below.alloc1 ?_ _ rfl | with_reducible refine Below.drew ?_ | with_reducible refine Below.set3 ?_ (by first | exact Nat.le_refl _ | exact hBI.size | exact hBJ.size | exact hBC.size) _ _ _)) <;> done)
      (first
        | (go_at_call 7; (with_reducible refine (CI3.out _ (by repeat (first | with_reducible exact Below.refl _ _ | with_reducible refine Below.andThen ?_ hbI rfl | with_reducible refine Below.andThen ?_ hbJ rfl | with_reducible refine Below.andThen ?_ hbC rfl | with_reducible refine Below.alloc1 ?_ _ rfl | with_reducible refine Below.drew ?_ | with_reducible refine Below.set3 ?_ (by first | exact Nat.le_refl _ | exact hBI.size | exact hBJ.size | exact hBC.size) _ _ _))).mono ?_); rintro e wI ⟨vI, rfl, hbI, hsI⟩; have hBI : Below w3.heap.size w3 wI := (by repeat (first | with_reducible exact Below.refl _ _ | with_reducible refine Below.andThen ?_ hbI rfl | with_reducible refine Below.andThen ?_ hbJ rfl | with_reducible refine Below.andThen ?_ hbC rfl | with_reducible refine Below.alloc1 ?_ _ rfl | with_reducible refine Below.drew ?_ | with_reducible refine Below.set3 ?_ (by first | exact Nat.le_refl _ | exact hBI.size | exact hBJ.size | exact hBC.size) _ _ _)); first | (have qb := box_after_drew hbI; obtain ⟨q0, q1, q2, f0, f1, f2, ql⟩ := three_cells qb) | (have qb := box_after hbI; obtain ⟨q0, q1, q2, f0, f1, f2, ql⟩ := three_cells qb) | (have qb := (hbI.block _ (lt_of_block qb)).trans qb; obtain ⟨q0, q1, q2, f0, f1, f2, ql⟩ := three_cells qb) | skip)
        | (go_at_call 8; (with_reducible refine (CK3.out _ (by repeat (first | with_reducible exact Below.refl _ _ | with_reducible refine Below.andThen ?_ hbI rfl | with_reducible refine Below.andThen ?_ hbJ rfl | with_reducible refine Below.andThen ?_ hbC rfl | with_reducible refine Below.alloc1 ?_ _ rfl | with_reducible refine Below.drew ?_ | with_reducible refine Below.set3 ?_ (by first | exact Nat.le_refl _ | exact hBI.size | exact hBJ.size | exact hBC.size) _ _ _))).mono ?_); rintro e wJ ⟨vJ, rfl, hbJ, hsJ⟩; have hBJ : Below w3.heap.size w3 wJ := (by repeat (first | with_reducible exact Below.refl _ _ | with_reducible refine Below.andThen ?_ hbI rfl | with_reducible refine Below.andThen ?_ hbJ rfl | with_reducible refine Below.andThen ?_ hbC rfl | with_reducible refine Below.alloc1 ?_ _ rfl | with_reducible refine Below.drew ?_ | with_reducible refine Below.set3 ?_ (by first | exact Nat.le_refl _ | exact hBI.size | exact hBJ.size | exact hBC.size) _ _ _)); first | (have qb := box_after_drew hbJ; obtain ⟨q0, q1, q2, f0, f1, f2, ql⟩ := three_cells qb) | (have qb := box_after hbJ; obtain ⟨q0, q1, q2, f0, f1, f2, ql⟩ := three_cells qb) | (have qb := (hbJ.block _ (lt_of_block qb)).trans qb; obtain ⟨q0, q1, q2, f0, f1, f2, ql⟩ := three_cells qb) | skip)
        | (go_at_call 9; (with_reducible refine (CX.out _ _ _ (by repeat (first | with_reducible exact hsI | with_reducible exact hsJ | with_reducible refine Smp.alloc ?_ _ | with_reducible refine Smp.drew ?_ | with_reducible refine Smp.below ?_ hbI | with_reducible refine Smp.below ?_ hbJ)) (by repeat (first | with_reducible exact hsI | with_reducible exact hsJ | with_reducible refine Smp.alloc ?_ _ | with_reducible refine Smp.drew ?_ | with_reducible refine Smp.below ?_ hbI | with_reducible refine Smp.below ?_ hbJ))).mono ?_); rintro e wC ⟨fv, rfl, hbC, hf⟩; obtain ⟨fa, fc, rfl, hfl, -⟩ := hf.sl; have hBC : Below w3.heap.size w3 wC := (by repeat (first | with_reducible exact Below.refl _ _ | with_reducible refine Below.andThen ?_ hbI rfl | with_reducible refine Below.andThen ?_ hbJ rfl | with_reducible refine Below.andThen ?_ hbC rfl | with_reducible refine Below.alloc1 ?_ _ rfl | with_reducible refine Below.drew ?_ | with_reducible refine Below.set3 ?_ (by first | exact Nat.le_refl _ | exact hBI.size | exact hBJ.size | exact hBC.size) _ _ _)); first | (have qb := box_after_drew hbC; obtain ⟨q0, q1, q2, f0, f1, f2, ql⟩ := three_cells qb) | (have qb := box_after hbC; obtain ⟨q0, q1, q2, f0, f1, f2, ql⟩ := three_cells qb) | (have qb := (hbC.block _ (lt_of_block qb)).trans qb; obtain ⟨q0, q1, q2, f0, f1, f2, ql⟩ := three_cells qb) | skip))
    all_goals
      go_wp2_with fail
      go_meet
      case rel =>
        first
          | exact ⟨_, _, rfl, rfl, Lib.hid (by first | exact Nat.le_refl _ | exact hBI.size | exact hBJ.size | exact hBC.size), Lib.hid (by repeat (first | with_reducible exact Below.refl _ _ | with_reducible refine Below.andThen ?_ hbI rfl | with_reducible refine Below.andThen ?_ hbJ rfl | with_reducible refine Below.andThen ?_ hbC rfl | with_reducible refine Below.alloc1 ?_ _ rfl | with_reducible refine Below.drew ?_ | with_reducible refine Below.set3 ?_ (by first | exact Nat.le_refl _ | exact hBI.size | exact hBJ.size | exact hBC.size) _ _ _)), Lib.hid (FBox.born hf)⟩
          | exact ⟨_, _, rfl, rfl, Lib.hid (by first | exact Nat.le_refl _ | exact hBI.size | exact hBJ.size | exact hBC.size), Lib.hid (Below.set3 hBC (by first | exact Nat.le_refl _ | exact hBI.size | exact hBJ.size | exact hBC.size) _ _ _), Lib.hid (FBox.made qb hf)⟩
  obtain ⟨b5, fx, rfl, rfl, LEb5, HBn, BXb5⟩ := hcut
  obtain ⟨w4, rfl⟩ : ∃ w4 : World, w4 = wc := ⟨_, rfl⟩
  have SC4 := Lib.hid (SC3.out.next HBn.out)
  have IB4 := Lib.hid (BX3.out.next HBn.out)
  have KV4 := Lib.hid (KV3.out.below HBn.out)
  have FB4 := BXb5
  clear HBn BXb5 LEb5 SC3 BX3 KV3 CI3 CK3 CX CI CK k0 k1 k2 k3 kl
  have HR : ((EX != 0) = true) ∨ (EX = 0) := by
    by_cases h : EX = 0
    · exact .inr h
    · exact .inl (by rw [bne_iff_ne]; exact h)
  rcases HR with hE | rfl
  · go_wp2_with fail
    go_ret
    exact ⟨rfl, SC4.out.hb⟩
  obtain ⟨L, S, m, S', N, rfl, rfl, rfl, rfl, hm, m1, m32, mS, S64, L1, L64, hS', hN, hzl, RZ, RU, hX⟩ := HF.out rfl
  clear HF
  have hni : ni = L * S := by have := HNI.out.1; simp [cvals] at this; omega
  have hnk : nk = m := by have := HNI.out.2; simp [cvals] at this; omega
  subst hnk
  have hXl : (cvals .f64 X).length = N := by rw [hX]; simp [cvals, compList]
  obtain ⟨fa, fc, rfl, -, -⟩ := FB4.out.smp.sl
  rw [hXl] at FB4

  have hL4 : L ≤ 4 := by omega
  have hLS : L * S ≤ 4096 := Nat.le_trans (Nat.mul_le_mul L64 S64) (by decide)
  have hN4 : N ≤ 4096 := by rw [hN]; exact Nat.le_trans (Nat.mul_le_mul L64 (show S' ≤ 64 by omega)) (by decide)
  have HZ := Lib.hid (And.intro hzl (And.intro RZ (And.intro RU (And.intro hX (And.intro hN (And.intro hm hni))))))
  have PU := Lib.hid (parted_any us _ false w4 KV4.out (fun i hi => let ⟨a, b, c, d⟩ := RU i hi; ⟨a, b, Nat.le_trans c (by decide), Nat.le_trans d (by decide)⟩) (by omega))
  have PV := Lib.hid (fun W (h : Below w4.heap.size w4 W) => parted_any us _ true W (KV4.out.below h) (fun i hi => let ⟨a, b, c, d⟩ := RU i hi; ⟨a, b, Nat.le_trans c (by decide), Nat.le_trans d (by decide)⟩) (by omega))
  obtain ⟨x0, x1, x2, -, -, -, xl⟩ := three_cells FB4.out.blk
  obtain ⟨y0, y1, y2, -, -, -, yl⟩ := three_cells IB4.out.blk
  have ew : IntKind.i64.wrap ((L : Int) * (S' : Int)) = (N : Int) := by rw [← Int.natCast_mul, ← hN]; exact IntWalk.i64_in _ ⟨by omega, by omega⟩
  have ew2 : wrap64 ((L : Int) * (S' : Int)) = (N : Int) := by rw [← Int.natCast_mul, ← hN, IntWalk.wrap64_in]; omega
  have eS : ((S' : Int) != (S : Int) - (nk : Int) + 1) = false := by
    have : (S' : Int) = (S : Int) - (nk : Int) + 1 := by omega
    rw [this]
    simp
  have hcap := (IB4.out.smp.cap _ _ _ rfl).1
  have hcap2 := (IB4.out.smp.cap _ _ _ rfl).2
  clear hm hzl RZ RU hX hN hXl HNI KV4 hni
  go_wp2_with fail
  refine PU.out.mono ?_
  rintro e w5 ⟨bu, rfl, hb, hu⟩
  have CV5 := Lib.hid (PV.out w5 hb)
  have U5 := Lib.hid hu
  have SC5 := Lib.hid (SC4.out.next hb)
  have IB5 := Lib.hid (IB4.out.next hb)
  have FB5 := Lib.hid (FB4.out.next hb)
  clear hb hu PU PV SC4 IB4 FB4 x0 x1 x2 xl y0 y1 y2 yl ew ew2 eS
  go_wp2_with fail
  refine CV5.out.mono ?_
  rintro e w6 ⟨bv, rfl, hb, hv⟩
  have V6 := Lib.hid hv
  have U6 := Lib.hid (U5.out.below hb)
  have SC6 := Lib.hid (SC5.out.next hb)
  have IB6 := Lib.hid (IB5.out.next hb)
  have FB6 := Lib.hid (FB5.out.next hb)
  clear hb hv CV5 U5 SC5 IB5 FB5
  go_wp2_with fail
  go_loopw [9] (fun i wr => ∃ q : Nat, q ≤ L ∧ i = .int .i64 q ∧ Hid (Below w6.heap.size w6 wr)) (fun i _ => L - (intOf i).toNat)
  case atStart => exact ⟨0, Nat.zero_le _, rfl, Lib.hid (Below.refl _ _)⟩
  case round =>
    obtain ⟨l, hl, rfl, HBq⟩ := hrel
    obtain ⟨w10, rfl⟩ : ∃ w10 : World, w10 = wr := ⟨_, rfl⟩
    have SC10 := Lib.hid (SC6.out.next HBq.out)
    have IB10 := Lib.hid (IB6.out.next HBq.out)
    have FB10 := Lib.hid (FB6.out.next HBq.out)
    have U10 := Lib.hid (U6.out.below HBq.out)
    have V10 := Lib.hid (V6.out.below HBq.out)
    have HZZ10 := Lib.hid HBq.out
    obtain ⟨y0, y1, y2, -, -, -, yl⟩ := three_cells IB10.out.blk
    by_cases hlt : l < L
    · have hq : l * S + S ≤ ni := by rw [HZ.out.2.2.2.2.2.2, ← Nat.succ_mul]; exact Nat.mul_le_mul_right _ hlt
      have hni : ni ≤ 4096 := by rw [HZ.out.2.2.2.2.2.2]; exact hLS
      have M1 : Hid (wrap64 ((l : Int) * S) = ((l * S : Nat) : Int)) := by unfold Hid; rw [IntWalk.wrap64_in]; exact (Int.natCast_mul l S).symm; rw [← Int.natCast_mul]; omega
      have M2 : Hid (wrap64 (((l : Int) + 1) * S) = ((l * S + S : Nat) : Int)) := by
        have e : ((l : Int) + 1) * S = ((l * S + S : Nat) : Int) := by rw [Int.add_mul, Int.natCast_add, Int.natCast_mul]; simp
        unfold Hid
        rw [e, IntWalk.wrap64_in]; omega
      obtain ⟨tq, htq⟩ : ∃ tq, tq = l * S' := ⟨_, rfl⟩
      have htN : tq + S' ≤ N := by rw [HZ.out.2.2.2.2.1, htq, ← Nat.succ_mul]; exact Nat.mul_le_mul_right _ hlt
      have M3 : Hid (IntKind.i64.wrap ((l : Int) * (S' : Int)) = (tq : Int)) := by unfold Hid; rw [← Int.natCast_mul, ← htq]; exact IntWalk.i64_in _ ⟨by omega, by omega⟩
      have HTQ := Lib.hid htq
      clear htq
      obtain ⟨q, hqd⟩ : ∃ q, q = l * S := ⟨_, rfl⟩
      rw [← hqd] at M1 M2 hq
      obtain ⟨r, hr⟩ : ∃ r, r = q + S := ⟨_, rfl⟩
      rw [← hr] at M2 hq
      have HQ := Lib.hid (And.intro hqd hr)
      have s1 : q ≤ r := by omega
      have s2 : r ≤ ic := by omega
      have s4 : ¬ ic = q := by omega
      have s5 : q < ic := by omega
      have esz : r - q = S := by omega
      obtain ⟨hnz, bi, oi, rfl, hrow⟩ := row_of (q := q) (S := S) (cap := ic) IB10.out.smp.sl (by omega) (by omega) hni
      have RW10 := Lib.hid hrow
      have hrl : ((zs.drop q).take S).length = S := by have := HZ.out.1; simp; omega
      have CRf := Lib.hid (fun W (h : Smp .f32 ((zs.drop q).take S) W (.slice (some ⟨bi, oi + q, none⟩) S (ic - q))) => parted_any _ _ false W h (row_right HZ.out.2.1 q S) (by omega))
      have CRt := Lib.hid (fun W (h : Smp .f32 ((zs.drop q).take S) W (.slice (some ⟨bi, oi + q, none⟩) S (ic - q))) => parted_any _ _ true W h (row_right HZ.out.2.1 q S) (by omega))
      have HT : Hid (∀ s, s < S' → sgnP (((corList (padL (partL false ((zs.drop q).take S)) 128) (padL (partL false us) 128)).getD s 0 + (corList (padL (partL true ((zs.drop q).take S)) 128) (padL (partL true us) 128)).getD s 0) % 998244353) = cRe zs us (q + s) us.length ∧
          sgnP (((corList (padL (partL true ((zs.drop q).take S)) 128) (padL (partL false us) 128)).getD s 0 - (corList (padL (partL false ((zs.drop q).take S)) 128) (padL (partL true us) 128)).getD s 0) % 998244353) = cIm zs us (q + s) us.length ∧
          X.getD (tq + s) (0, 0) = (enc Ieee.double (cRe zs us (q + s) us.length), enc Ieee.double (cIm zs us (q + s) us.length)) ∧ (cRe zs us (q + s) us.length).natAbs ≤ 393024 ∧ (cIm zs us (q + s) us.length).natAbs ≤ 393024) := by
        intro s hs
        obtain ⟨z1, z2, z3, z4, z5, z6, z7⟩ := HZ.out
        obtain ⟨e1, e2⟩ := two_sgn ((zs.drop q).take S) q s (by omega) (by omega) (by omega) (row_re zs q S) (by omega) z2 z3
        have hget : X.getD (tq + s) (0, 0) = (enc Ieee.double (cRe zs us (q + s) us.length), enc Ieee.double (cIm zs us (q + s) us.length)) := by
          rw [z4, HTQ.out, HQ.out.1]
          exact comp_get zs us S S' N l s hs (by have := HTQ.out; omega)
        obtain ⟨b1, b2⟩ := c_b z2 z3 (q + s) us.length (by omega) (by omega) (Nat.le_refl _)
        exact ⟨e1, e2, hget, b1, b2⟩
      have hbb : ∀ b c s, 0 ≤ (corList (padL (partL b ((zs.drop q).take S)) 128) (padL (partL c us) 128)).getD s 0 ∧ (corList (padL (partL b ((zs.drop q).take S)) 128) (padL (partL c us) 128)).getD s 0 < 998244353 := fun b c s =>
        getD_off (listErr_ok (cor_err _ _ (padL_err _ 128 (by decide) (by decide +kernel)))).2.2 s
      have HBB := Lib.hid hbb
      have hlc : ∀ b c, (corList (padL (partL b ((zs.drop q).take S)) 128) (padL (partL c us) 128)).length = 128 := fun b c => by rw [corList_length, padL_length]
      have HLC := Lib.hid hlc
      clear hqd hr hrow hrl hbb hlc hnz
      have e1 := M1.out
      have e2 := M2.out
      go_wp2_with fail
      clear e1 e2 y0 y1 y2 yl
      try simp only [esz]
      refine (CRf.out _ RW10.out).mono ?_
      rintro e w11 ⟨br, rfl, hb, hr⟩
      have RR := Lib.hid hr
      clear hr
      have HZZ11 := Lib.hid (HZZ10.out.trans (hb.mono HZZ10.out.size))
      have SC11 := Lib.hid (SC10.out.next hb)
      have IB11 := Lib.hid (IB10.out.next hb)
      have FB11 := Lib.hid (FB10.out.next hb)
      have U11 := Lib.hid (U10.out.below hb)
      have V11 := Lib.hid (V10.out.below hb)
      have RW11 := Lib.hid (RW10.out.below hb)
      clear hb HZZ10 SC10 IB10 FB10 U10 V10 RW10
      go_wp2_with fail
      refine (copyG U11.out (by rw [padL_length]; decide)).mono ?_
      rintro e w12 ⟨cu, rfl, hb, hcu⟩
      have RS := Lib.hid (RR.out.below hb)
      have CU := Lib.hid hcu
      clear hcu RR
      have HZZ12 := Lib.hid (HZZ11.out.trans (hb.mono HZZ11.out.size))
      have SC12 := Lib.hid (SC11.out.next hb)
      have IB12 := Lib.hid (IB11.out.next hb)
      have FB12 := Lib.hid (FB11.out.next hb)
      have U12 := Lib.hid (U11.out.below hb)
      have V12 := Lib.hid (V11.out.below hb)
      have RW12 := Lib.hid (RW11.out.below hb)
      clear hb HZZ11 SC11 IB11 FB11 U11 V11 RW11
      go_wp2_with fail
      refine (corG8 RS.out CU.out).mono ?_
      rintro e w13 ⟨rA, cA, rfl, hb, hr⟩
      have RA13 := Lib.hid hr
      clear hr RS CU
      have HZZ13 := Lib.hid (HZZ12.out.trans (hb.mono HZZ12.out.size))
      have SC13 := Lib.hid (SC12.out.next hb)
      have IB13 := Lib.hid (IB12.out.next hb)
      have FB13 := Lib.hid (FB12.out.next hb)
      have U13 := Lib.hid (U12.out.below hb)
      have V13 := Lib.hid (V12.out.below hb)
      have RW13 := Lib.hid (RW12.out.below hb)
      clear hb HZZ12 SC12 IB12 FB12 U12 V12 RW12
      go_wp2_with fail
      refine (CRt.out _ RW13.out).mono ?_
      rintro e w14 ⟨br, rfl, hb, hr⟩
      have RR := Lib.hid hr
      clear hr
      have HZZ14 := Lib.hid (HZZ13.out.trans (hb.mono HZZ13.out.size))
      have SC14 := Lib.hid (SC13.out.next hb)
      have IB14 := Lib.hid (IB13.out.next hb)
      have FB14 := Lib.hid (FB13.out.next hb)
      have U14 := Lib.hid (U13.out.below hb)
      have V14 := Lib.hid (V13.out.below hb)
      have RW14 := Lib.hid (RW13.out.below hb)
      have RA14 := Lib.hid (RA13.out.below hb)
      clear hb HZZ13 SC13 IB13 FB13 U13 V13 RW13 RA13
      go_wp2_with fail
      refine (copyG V14.out (by rw [padL_length]; decide)).mono ?_
      rintro e w15 ⟨cu, rfl, hb, hcu⟩
      have RS := Lib.hid (RR.out.below hb)
      have CU := Lib.hid hcu
      clear hcu RR
      have HZZ15 := Lib.hid (HZZ14.out.trans (hb.mono HZZ14.out.size))
      have SC15 := Lib.hid (SC14.out.next hb)
      have IB15 := Lib.hid (IB14.out.next hb)
      have FB15 := Lib.hid (FB14.out.next hb)
      have U15 := Lib.hid (U14.out.below hb)
      have V15 := Lib.hid (V14.out.below hb)
      have RW15 := Lib.hid (RW14.out.below hb)
      have RA15 := Lib.hid (RA14.out.below hb)
      clear hb HZZ14 SC14 IB14 FB14 U14 V14 RW14 RA14
      go_wp2_with fail
      refine (corG8 RS.out CU.out).mono ?_
      rintro e w16 ⟨rB, cB, rfl, hb, hr⟩
      have RB16 := Lib.hid hr
      clear hr RS CU
      have HZZ16 := Lib.hid (HZZ15.out.trans (hb.mono HZZ15.out.size))
      have SC16 := Lib.hid (SC15.out.next hb)
      have IB16 := Lib.hid (IB15.out.next hb)
      have FB16 := Lib.hid (FB15.out.next hb)
      have U16 := Lib.hid (U15.out.below hb)
      have V16 := Lib.hid (V15.out.below hb)
      have RW16 := Lib.hid (RW15.out.below hb)
      have RA16 := Lib.hid (RA15.out.below hb)
      clear hb HZZ15 SC15 IB15 FB15 U15 V15 RW15 RA15
      go_wp2_with fail
      refine (CRt.out _ RW16.out).mono ?_
      rintro e w17 ⟨br, rfl, hb, hr⟩
      have RR := Lib.hid hr
      clear hr
      have HZZ17 := Lib.hid (HZZ16.out.trans (hb.mono HZZ16.out.size))
      have SC17 := Lib.hid (SC16.out.next hb)
      have IB17 := Lib.hid (IB16.out.next hb)
      have FB17 := Lib.hid (FB16.out.next hb)
      have U17 := Lib.hid (U16.out.below hb)
      have V17 := Lib.hid (V16.out.below hb)
      have RW17 := Lib.hid (RW16.out.below hb)
      have RA17 := Lib.hid (RA16.out.below hb)
      have RB17 := Lib.hid (RB16.out.below hb)
      clear hb HZZ16 SC16 IB16 FB16 U16 V16 RW16 RA16 RB16
      go_wp2_with fail
      refine (copyG U17.out (by rw [padL_length]; decide)).mono ?_
      rintro e w18 ⟨cu, rfl, hb, hcu⟩
      have RS := Lib.hid (RR.out.below hb)
      have CU := Lib.hid hcu
      clear hcu RR
      have HZZ18 := Lib.hid (HZZ17.out.trans (hb.mono HZZ17.out.size))
      have SC18 := Lib.hid (SC17.out.next hb)
      have IB18 := Lib.hid (IB17.out.next hb)
      have FB18 := Lib.hid (FB17.out.next hb)
      have U18 := Lib.hid (U17.out.below hb)
      have V18 := Lib.hid (V17.out.below hb)
      have RW18 := Lib.hid (RW17.out.below hb)
      have RA18 := Lib.hid (RA17.out.below hb)
      have RB18 := Lib.hid (RB17.out.below hb)
      clear hb HZZ17 SC17 IB17 FB17 U17 V17 RW17 RA17 RB17
      go_wp2_with fail
      refine (corG8 RS.out CU.out).mono ?_
      rintro e w19 ⟨rC, cC, rfl, hb, hr⟩
      have RC19 := Lib.hid hr
      clear hr RS CU
      have HZZ19 := Lib.hid (HZZ18.out.trans (hb.mono HZZ18.out.size))
      have SC19 := Lib.hid (SC18.out.next hb)
      have IB19 := Lib.hid (IB18.out.next hb)
      have FB19 := Lib.hid (FB18.out.next hb)
      have U19 := Lib.hid (U18.out.below hb)
      have V19 := Lib.hid (V18.out.below hb)
      have RW19 := Lib.hid (RW18.out.below hb)
      have RA19 := Lib.hid (RA18.out.below hb)
      have RB19 := Lib.hid (RB18.out.below hb)
      clear hb HZZ18 SC18 IB18 FB18 U18 V18 RW18 RA18 RB18
      go_wp2_with fail
      refine (CRf.out _ RW19.out).mono ?_
      rintro e w20 ⟨br, rfl, hb, hr⟩
      have RR := Lib.hid hr
      clear hr
      have HZZ20 := Lib.hid (HZZ19.out.trans (hb.mono HZZ19.out.size))
      have SC20 := Lib.hid (SC19.out.next hb)
      have IB20 := Lib.hid (IB19.out.next hb)
      have FB20 := Lib.hid (FB19.out.next hb)
      have U20 := Lib.hid (U19.out.below hb)
      have V20 := Lib.hid (V19.out.below hb)
      have RW20 := Lib.hid (RW19.out.below hb)
      have RA20 := Lib.hid (RA19.out.below hb)
      have RB20 := Lib.hid (RB19.out.below hb)
      have RC20 := Lib.hid (RC19.out.below hb)
      clear hb HZZ19 SC19 IB19 FB19 U19 V19 RW19 RA19 RB19 RC19
      go_wp2_with fail
      refine (copyG V20.out (by rw [padL_length]; decide)).mono ?_
      rintro e w21 ⟨cu, rfl, hb, hcu⟩
      have RS := Lib.hid (RR.out.below hb)
      have CU := Lib.hid hcu
      clear hcu RR
      have HZZ21 := Lib.hid (HZZ20.out.trans (hb.mono HZZ20.out.size))
      have SC21 := Lib.hid (SC20.out.next hb)
      have IB21 := Lib.hid (IB20.out.next hb)
      have FB21 := Lib.hid (FB20.out.next hb)
      have U21 := Lib.hid (U20.out.below hb)
      have V21 := Lib.hid (V20.out.below hb)
      have RW21 := Lib.hid (RW20.out.below hb)
      have RA21 := Lib.hid (RA20.out.below hb)
      have RB21 := Lib.hid (RB20.out.below hb)
      have RC21 := Lib.hid (RC20.out.below hb)
      clear hb HZZ20 SC20 IB20 FB20 U20 V20 RW20 RA20 RB20 RC20
      go_wp2_with fail
      refine (corG8 RS.out CU.out).mono ?_
      rintro e w22 ⟨rD, cD, rfl, hb, hr⟩
      have RD22 := Lib.hid hr
      clear hr RS CU
      have HZZ22 := Lib.hid (HZZ21.out.trans (hb.mono HZZ21.out.size))
      have SC22 := Lib.hid (SC21.out.next hb)
      have IB22 := Lib.hid (IB21.out.next hb)
      have FB22 := Lib.hid (FB21.out.next hb)
      have U22 := Lib.hid (U21.out.below hb)
      have V22 := Lib.hid (V21.out.below hb)
      have RW22 := Lib.hid (RW21.out.below hb)
      have RA22 := Lib.hid (RA21.out.below hb)
      have RB22 := Lib.hid (RB21.out.below hb)
      have RC22 := Lib.hid (RC21.out.below hb)
      clear hb HZZ21 SC21 IB21 FB21 U21 V21 RW21 RA21 RB21 RC21
      have HH : Hid (∀ W, Below w22.heap.size w22 W → Below w6.heap.size w6 W) := fun W h => HZZ22.out.trans (h.mono HZZ22.out.size)
      obtain ⟨x0, x1, x2, -, -, -, xl⟩ := three_cells FB22.out.blk
      go_wp2_with fail
      go_loopw [19] (fun i wr => ∃ s : Nat, s ≤ S' ∧ i = .int .i64 s ∧ Hid (Below w22.heap.size w22 wr)) (fun i _ => S' - (intOf i).toNat)
      case atStart => exact ⟨0, Nat.zero_le _, rfl, Lib.hid (Below.refl _ _)⟩
      case round =>
        obtain ⟨s, hs, rfl, HBs⟩ := hrel
        obtain ⟨wy, rfl⟩ : ∃ wy : World, wy = wr := ⟨_, rfl⟩
        obtain ⟨x0, x1, x2, -, -, -, xl⟩ := three_cells (FB22.out.next HBs.out).blk
        by_cases hst : s < S'
        · obtain ⟨e1, e2, e3, b1, b2⟩ := HT.out s hst
          have kA := Got.at RA22.out HBs.out (by rw [HLC.out]) (show s < 128 by omega)
          have kB := Got.at RB22.out HBs.out (by rw [HLC.out]) (show s < 128 by omega)
          have kC := Got.at RC22.out HBs.out (by rw [HLC.out]) (show s < 128 by omega)
          have kD := Got.at RD22.out HBs.out (by rw [HLC.out]) (show s < 128 by omega)
          obtain ⟨pA, oA, rfl, dA⟩ := kA
          obtain ⟨pB, oB, rfl, dB⟩ := kB
          obtain ⟨pC, oC, rfl, dC⟩ := kC
          obtain ⟨pD, oD, rfl, dD⟩ := kD
          have VF := FB22.out.smp.sl
          obtain ⟨hxl, pF, oF, rfl, -, gF⟩ := VF.at (by omega)
          have dF : wy.cell? ⟨pF, oF + (tq + s), none⟩ = some (.complex .f64 (X.getD (tq + s) (0, 0)).1 (X.getD (tq + s) (0, 0)).2) := Below.keepc HBs.out (gF (tq + s) _ (cvals_get (by simp [cvals] at hxl; omega)))
          rw [e3] at dF
          obtain ⟨a0, a1⟩ := HBB.out false false s
          obtain ⟨a2, a3⟩ := HBB.out true true s
          obtain ⟨a4, a5⟩ := HBB.out true false s
          obtain ⟨a6, a7⟩ := HBB.out false true s
          have CSx := Lib.hid (fun w => signed_any ((corList (padL (partL false ((zs.drop q).take S)) 128) (padL (partL false us) 128)).getD s 0 + (corList (padL (partL true ((zs.drop q).take S)) 128) (padL (partL true us) 128)).getD s 0) w)
          have CSy := Lib.hid (fun w => signed_any ((corList (padL (partL true ((zs.drop q).take S)) 128) (padL (partL false us) 128)).getD s 0 - (corList (padL (partL false ((zs.drop q).take S)) 128) (padL (partL true us) 128)).getD s 0) w)
          rw [e1] at CSx
          rw [e2] at CSy
          have CSum := Lib.hid (fun w => Sum_any (cRe zs us (q + s) us.length) (cIm zs us (q + s) us.length) w)
          have oX := worder_self (a := cRe zs us (q + s) us.length) (Nat.le_trans b1 (by decide))
          have oY := worder_self (a := cIm zs us (q + s) us.length) (Nat.le_trans b2 (by decide))
          generalize (corList (padL (partL false ((zs.drop q).take S)) 128) (padL (partL false us) 128)).getD s 0 = gA at *
          generalize (corList (padL (partL true ((zs.drop q).take S)) 128) (padL (partL true us) 128)).getD s 0 = gB at *
          generalize (corList (padL (partL true ((zs.drop q).take S)) 128) (padL (partL false us) 128)).getD s 0 = gC at *
          generalize (corList (padL (partL false ((zs.drop q).take S)) 128) (padL (partL true us) 128)).getD s 0 = gD at *
          generalize enc Ieee.double (cRe zs us (q + s) us.length) = P at *
          generalize enc Ieee.double (cIm zs us (q + s) us.length) = Q at *
          generalize cRe zs us (q + s) us.length = vRe at *
          generalize cIm zs us (q + s) us.length = vIm at *
          have m3 := M3.out
          obtain ⟨t, ht⟩ : ∃ t, t = tq + s := ⟨_, rfl⟩
          have w1 : IntKind.i64.wrap ((tq : Int) + (s : Int)) = (t : Int) := by
            rw [ht]
            rw [IntWalk.i64_in _ ⟨by omega, by omega⟩]
            omega
          rw [← ht] at dF
          obtain ⟨sAB, hAB⟩ : ∃ x, x = gA + gB := ⟨_, rfl⟩
          obtain ⟨dCD, hCD⟩ : ∃ x, x = gC - gD := ⟨_, rfl⟩
          rw [← hAB] at CSx
          rw [← hCD] at CSy
          have w2 : IntKind.i64.wrap (gA + gB) = sAB := by rw [hAB]; exact IntWalk.i64_in _ ⟨by omega, by omega⟩
          have w3 : IntKind.i64.wrap (gC - gD) = dCD := by rw [hCD]; exact IntWalk.i64_in _ ⟨by omega, by omega⟩
          have W1 := Lib.hid w1
          have W2 := Lib.hid w2
          have W3 := Lib.hid w3
          clear w1 w2 w3 m3
          have htn : (t : Int) < (N : Int) := by omega
          have hs128 : (s : Int) < 128 := by omega
          have hsS : (s : Int) < (S' : Int) := by omega
          have HST := Lib.hid (And.intro hst hl)
          clear e1 e2 e3 b1 b2 VF hxl gF a0 a1 a2 a3 a4 a5 a6 a7 ht hAB hCD s1 s2 s4 s5 esz hq hni htN hcap hcap2 hLS hN4 hL4 hs hst hlt hl m1 m32 mS S64 L1 L64 hS' hl4
          go_wp2_with fail
          refine wp_region_quiet (C := fun W' => Below wy.heap.size wy W') (by kernel_rfl) (by kernel_rfl) (Below.refl _ wy).drew ?_
          refine Go.BigFrame.wpQuiet_want (by rfl) (fun K hK => ⟨.pointer (some ⟨b5, 2, none⟩), fun WQ hWQ => ?_, hK _ ?_⟩)
          · clear hK
            unfold Oper.quietAt
            go_simp
          clear hK K
          simp only [Act.put, List.setIfInBounds_toArray, List.set_cons_succ, List.set_cons_zero]
          refine Go.BigFrame.wpQuiet_want (by rfl) (fun K hK => ⟨.slice (some ⟨pF, oF, none⟩) N fc, fun WQ hWQ => ?_, hK _ ?_⟩)
          · clear hK
            have zq := Below.keepc hWQ x2
            unfold Oper.quietAt
            go_simp
          clear hK K
          simp only [Act.put, List.setIfInBounds_toArray, List.set_cons_succ, List.set_cons_zero]
          refine Go.BigFrame.wpQuiet_want (by rfl) (fun K hK => ⟨.int .i64 l, fun WQ hWQ => ?_, hK _ ?_⟩)
          · clear hK
            unfold Oper.quietAt
            go_simp
          clear hK K
          simp only [Act.put, List.setIfInBounds_toArray, List.set_cons_succ, List.set_cons_zero]
          refine Go.BigFrame.wpQuiet_want (by rfl) (fun K hK => ⟨.pointer (some ⟨b5, 1, none⟩), fun WQ hWQ => ?_, hK _ ?_⟩)
          · clear hK
            unfold Oper.quietAt
            go_simp
          clear hK K
          simp only [Act.put, List.setIfInBounds_toArray, List.set_cons_succ, List.set_cons_zero]
          refine Go.BigFrame.wpQuiet_want (by rfl) (fun K hK => ⟨.int .i64 S', fun WQ hWQ => ?_, hK _ ?_⟩)
          · clear hK
            have zq := Below.keepc hWQ x1
            unfold Oper.quietAt
            go_simp
          clear hK K
          simp only [Act.put, List.setIfInBounds_toArray, List.set_cons_succ, List.set_cons_zero]
          refine Go.BigFrame.wpQuiet_want (by rfl) (fun K hK => ⟨.int .i64 tq, fun WQ hWQ => ?_, hK _ ?_⟩)
          · clear hK
            have zq := M3.out
            unfold Oper.quietAt
            go_simp
          clear hK K
          simp only [Act.put, List.setIfInBounds_toArray, List.set_cons_succ, List.set_cons_zero]
          refine Go.BigFrame.wpQuiet_want (by rfl) (fun K hK => ⟨.int .i64 s, fun WQ hWQ => ?_, hK _ ?_⟩)
          · clear hK
            unfold Oper.quietAt
            go_simp
          clear hK K
          simp only [Act.put, List.setIfInBounds_toArray, List.set_cons_succ, List.set_cons_zero]
          refine Go.BigFrame.wpQuiet_want (by rfl) (fun K hK => ⟨.int .i64 t, fun WQ hWQ => ?_, hK _ ?_⟩)
          · clear hK
            have zq := W1.out
            unfold Oper.quietAt
            go_simp
          clear hK K
          simp only [Act.put, List.setIfInBounds_toArray, List.set_cons_succ, List.set_cons_zero]
          refine Go.BigFrame.wpQuiet_want (by rfl) (fun K hK => ⟨.pointer (some ⟨pF, oF + t, none⟩), fun WQ hWQ => ?_, hK _ ?_⟩)
          · clear hK
            have zq := htn
            unfold Oper.quietAt
            go_simp
          clear hK K
          simp only [Act.put, List.setIfInBounds_toArray, List.set_cons_succ, List.set_cons_zero]
          refine Go.BigFrame.wpQuiet_want (by rfl) (fun K hK => ⟨.complex .f64 P Q, fun WQ hWQ => ?_, hK _ ?_⟩)
          · clear hK
            have zq := Below.keepc hWQ dF
            unfold Oper.quietAt
            go_simp
          clear hK K
          simp only [Act.put, List.setIfInBounds_toArray, List.set_cons_succ, List.set_cons_zero]
          refine Go.BigFrame.wpQuiet_want (by rfl) (fun K hK => ⟨.slice (some ⟨pA, oA, none⟩) 128 cA, fun WQ hWQ => ?_, hK _ ?_⟩)
          · clear hK
            unfold Oper.quietAt
            go_simp
          clear hK K
          simp only [Act.put, List.setIfInBounds_toArray, List.set_cons_succ, List.set_cons_zero]
          refine Go.BigFrame.wpQuiet_want (by rfl) (fun K hK => ⟨.int .i64 s, fun WQ hWQ => ?_, hK _ ?_⟩)
          · clear hK
            unfold Oper.quietAt
            go_simp
          clear hK K
          simp only [Act.put, List.setIfInBounds_toArray, List.set_cons_succ, List.set_cons_zero]
          refine Go.BigFrame.wpQuiet_want (by rfl) (fun K hK => ⟨.pointer (some ⟨pA, oA + s, none⟩), fun WQ hWQ => ?_, hK _ ?_⟩)
          · clear hK
            have zq := hs128
            unfold Oper.quietAt
            go_simp
          clear hK K
          simp only [Act.put, List.setIfInBounds_toArray, List.set_cons_succ, List.set_cons_zero]
          refine Go.BigFrame.wpQuiet_want (by rfl) (fun K hK => ⟨.int .i64 gA, fun WQ hWQ => ?_, hK _ ?_⟩)
          · clear hK
            have zq := Below.keepc hWQ dA
            unfold Oper.quietAt
            go_simp
          clear hK K
          simp only [Act.put, List.setIfInBounds_toArray, List.set_cons_succ, List.set_cons_zero]
          refine Go.BigFrame.wpQuiet_want (by rfl) (fun K hK => ⟨.slice (some ⟨pB, oB, none⟩) 128 cB, fun WQ hWQ => ?_, hK _ ?_⟩)
          · clear hK
            unfold Oper.quietAt
            go_simp
          clear hK K
          simp only [Act.put, List.setIfInBounds_toArray, List.set_cons_succ, List.set_cons_zero]
          refine Go.BigFrame.wpQuiet_want (by rfl) (fun K hK => ⟨.int .i64 s, fun WQ hWQ => ?_, hK _ ?_⟩)
          · clear hK
            unfold Oper.quietAt
            go_simp
          clear hK K
          simp only [Act.put, List.setIfInBounds_toArray, List.set_cons_succ, List.set_cons_zero]
          refine Go.BigFrame.wpQuiet_want (by rfl) (fun K hK => ⟨.pointer (some ⟨pB, oB + s, none⟩), fun WQ hWQ => ?_, hK _ ?_⟩)
          · clear hK
            have zq := hs128
            unfold Oper.quietAt
            go_simp
          clear hK K
          simp only [Act.put, List.setIfInBounds_toArray, List.set_cons_succ, List.set_cons_zero]
          refine Go.BigFrame.wpQuiet_want (by rfl) (fun K hK => ⟨.int .i64 gB, fun WQ hWQ => ?_, hK _ ?_⟩)
          · clear hK
            have zq := Below.keepc hWQ dB
            unfold Oper.quietAt
            go_simp
          clear hK K
          simp only [Act.put, List.setIfInBounds_toArray, List.set_cons_succ, List.set_cons_zero]
          refine Go.BigFrame.wpQuiet_want (by rfl) (fun K hK => ⟨.int .i64 sAB, fun WQ hWQ => ?_, hK _ ?_⟩)
          · clear hK
            have zq := W2.out
            unfold Oper.quietAt
            go_simp
          clear hK K
          simp only [Act.put, List.setIfInBounds_toArray, List.set_cons_succ, List.set_cons_zero]
          refine Go.BigFrame.wpQuiet_want (by rfl) (fun K hK => ⟨.int .i64 vRe, fun WQ hWQ => ?_, hK _ ?_⟩)
          · clear hK
            unfold Oper.quietAt
            go_simp
            exact (CSx.out WQ).mono (fun e w' h => ⟨h.1, h.2 ▸ hWQ⟩)
          clear hK K
          simp only [Act.put, List.setIfInBounds_toArray, List.set_cons_succ, List.set_cons_zero]
          refine Go.BigFrame.wpQuiet_want (by rfl) (fun K hK => ⟨.slice (some ⟨pC, oC, none⟩) 128 cC, fun WQ hWQ => ?_, hK _ ?_⟩)
          · clear hK
            unfold Oper.quietAt
            go_simp
          clear hK K
          simp only [Act.put, List.setIfInBounds_toArray, List.set_cons_succ, List.set_cons_zero]
          refine Go.BigFrame.wpQuiet_want (by rfl) (fun K hK => ⟨.int .i64 s, fun WQ hWQ => ?_, hK _ ?_⟩)
          · clear hK
            unfold Oper.quietAt
            go_simp
          clear hK K
          simp only [Act.put, List.setIfInBounds_toArray, List.set_cons_succ, List.set_cons_zero]
          refine Go.BigFrame.wpQuiet_want (by rfl) (fun K hK => ⟨.pointer (some ⟨pC, oC + s, none⟩), fun WQ hWQ => ?_, hK _ ?_⟩)
          · clear hK
            have zq := hs128
            unfold Oper.quietAt
            go_simp
          clear hK K
          simp only [Act.put, List.setIfInBounds_toArray, List.set_cons_succ, List.set_cons_zero]
          refine Go.BigFrame.wpQuiet_want (by rfl) (fun K hK => ⟨.int .i64 gC, fun WQ hWQ => ?_, hK _ ?_⟩)
          · clear hK
            have zq := Below.keepc hWQ dC
            unfold Oper.quietAt
            go_simp
          clear hK K
          simp only [Act.put, List.setIfInBounds_toArray, List.set_cons_succ, List.set_cons_zero]
          refine Go.BigFrame.wpQuiet_want (by rfl) (fun K hK => ⟨.slice (some ⟨pD, oD, none⟩) 128 cD, fun WQ hWQ => ?_, hK _ ?_⟩)
          · clear hK
            unfold Oper.quietAt
            go_simp
          clear hK K
          simp only [Act.put, List.setIfInBounds_toArray, List.set_cons_succ, List.set_cons_zero]
          refine Go.BigFrame.wpQuiet_want (by rfl) (fun K hK => ⟨.int .i64 s, fun WQ hWQ => ?_, hK _ ?_⟩)
          · clear hK
            unfold Oper.quietAt
            go_simp
          clear hK K
          simp only [Act.put, List.setIfInBounds_toArray, List.set_cons_succ, List.set_cons_zero]
          refine Go.BigFrame.wpQuiet_want (by rfl) (fun K hK => ⟨.pointer (some ⟨pD, oD + s, none⟩), fun WQ hWQ => ?_, hK _ ?_⟩)
          · clear hK
            have zq := hs128
            unfold Oper.quietAt
            go_simp
          clear hK K
          simp only [Act.put, List.setIfInBounds_toArray, List.set_cons_succ, List.set_cons_zero]
          refine Go.BigFrame.wpQuiet_want (by rfl) (fun K hK => ⟨.int .i64 gD, fun WQ hWQ => ?_, hK _ ?_⟩)
          · clear hK
            have zq := Below.keepc hWQ dD
            unfold Oper.quietAt
            go_simp
          clear hK K
          simp only [Act.put, List.setIfInBounds_toArray, List.set_cons_succ, List.set_cons_zero]
          refine Go.BigFrame.wpQuiet_want (by rfl) (fun K hK => ⟨.int .i64 dCD, fun WQ hWQ => ?_, hK _ ?_⟩)
          · clear hK
            have zq := W3.out
            unfold Oper.quietAt
            go_simp
          clear hK K
          simp only [Act.put, List.setIfInBounds_toArray, List.set_cons_succ, List.set_cons_zero]
          refine Go.BigFrame.wpQuiet_want (by rfl) (fun K hK => ⟨.int .i64 vIm, fun WQ hWQ => ?_, hK _ ?_⟩)
          · clear hK
            unfold Oper.quietAt
            go_simp
            exact (CSy.out WQ).mono (fun e w' h => ⟨h.1, h.2 ▸ hWQ⟩)
          clear hK K
          simp only [Act.put, List.setIfInBounds_toArray, List.set_cons_succ, List.set_cons_zero]
          refine Go.BigFrame.wpQuiet_want (by rfl) (fun K hK => ⟨.complex .f64 P Q, fun WQ hWQ => ?_, hK _ ?_⟩)
          · clear hK
            unfold Oper.quietAt
            go_simp
            exact (CSum.out WQ).mono (fun e w' h => ⟨h.1, h.2 ▸ hWQ⟩)
          clear hK K
          simp only [Act.put, List.setIfInBounds_toArray, List.set_cons_succ, List.set_cons_zero]
          refine Go.BigFrame.wpQuiet_want (by rfl) (fun K hK => ⟨.bool false, fun WQ hWQ => ?_, hK _ ?_⟩)
          · clear hK
            have z1 := oX
            have z2 := oY
            unfold Oper.quietAt
            go_simp
          clear hK K
          simp only [Act.put, List.setIfInBounds_toArray, List.set_cons_succ, List.set_cons_zero]
          refine wpQuiet_nil ?_
          intro W8 hb8
          have HB8 := Lib.hid (HBs.out.trans (hb8.mono HBs.out.size))
          clear hb8
          go_wp2_with fail
          go_roundw
          case rel => exact ⟨s + 1, by have := HST.out; omega, by go_num, HB8⟩
          case measure =>
            have := HST.out
            simp [intOf]
            omega
        · have HBx : Hid (Below w6.heap.size w6 wy) := HH.out wy HBs.out
          go_wp2_with fail
          go_roundw
          case rel => exact ⟨l + 1, by omega, by go_num, HBx⟩
          case measure => simp [intOf]; omega
    · go_wp2_with fail
      go_ret
      exact ⟨rfl, SC10.out.hb⟩

/-- THE LAW, FOR ALL SCENES -/
theorem two_any (l s : Int) (pv cv : Value) (xs cs : List Nat) (w : World) (hp : Fls .f32 xs w pv) (hc : Fls .f32 cs w cv) (hl : I64 l) (hs : I64 s) (hz : ∀ z ∈ pairsOf xs, z.1 < 2 ^ 32 ∧ z.2 < 2 ^ 32) (hu : ∀ z ∈ pairsOf cs, z.1 < 2 ^ 32 ∧ z.2 < 2 ^ 32) :
    Calls Try.prog 3 #[.agg #[.int .i64 l, .int .i64 s, pv, cv]] w fun e w' => e = .returned (.bool true) ∧ Below w.heap.size w w' := by
  cases h1 : SmallB xs.length cs.length with
  | false => exact two_long l s pv cv xs cs w hp hc (.inl h1)
  | true =>
    by_cases h4 : 4 < l
    · exact two_long l s pv cv xs cs w hp hc (.inr h4)
    · exact two_short l s pv cv xs cs w hp hc hl hs hz hu h1 h4
end Go.Proofs.Ytadajelonekpmaa
