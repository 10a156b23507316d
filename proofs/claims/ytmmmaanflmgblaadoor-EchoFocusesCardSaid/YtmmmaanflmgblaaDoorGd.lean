import Derived.Test.YtmmmaanflmgblaaDoorGc
namespace Go.Proofs.YtmmmaanflmgblaaDoor
open Go.RowKit Go.Proofs.YtmmmaanflmgblaaDoor.Flt

theorem below_new2 (w : World) (A B : Obj) : Below w.heap.size w ((w.alloc A).alloc B) := ((Below.refl _ _).alloc (Nat.le_refl _) _).alloc (by simp) _
theorem alloc2_blocks (w : World) (A B : Obj) : ((w.alloc A).alloc B).heap[w.heap.size]? = some A ∧ ((w.alloc A).alloc B).heap[w.heap.size + 1]? = some B := by
  refine ⟨?_, ?_⟩
  · rw [Below.heap_alloc _ _ _ (by simp), heap_alloc_new]
  · have := heap_alloc_new (w.alloc A) B
    rwa [World.size_alloc] at this
set_option maxRecDepth 100000 in
set_option maxHeartbeats 1000000 in
theorem Peak_bad (l s : Int) (v : Value) (zs : List (Nat × Nat)) (w : World) (hl : I64 l) (hs : I64 s) (hv : Sl w v (cvals .f64 zs)) (hz : ∀ z ∈ zs, z.1 < 2 ^ 64 ∧ z.2 < 2 ^ 64) (hE : (dataErr .f64 1000000000 l s zs).2 ≠ 0) :
    Calls Tryd.prog 24 #[.agg #[.int .i64 l, .int .i64 s, v]] w fun e w' => e = .returned (.tuple #[.agg #[.int .i64 0, .int .i64 0], .int .i64 0, .int .i64 (dataErr .f64 1000000000 l s zs).2]) ∧ Below w.heap.size w w' := by
  obtain ⟨W0, hW0⟩ : ∃ W0, W0 = (w.alloc (.cells #[.int .i64 l, .int .i64 s, v] 49)).alloc (.cells #[.int .i64 0, .int .i64 0] 51) := ⟨_, rfl⟩
  have hb : Below w.heap.size w W0 := by rw [hW0]; exact below_new2 _ _ _
  have C := Lib.hid (CheckField_any l s v zs W0 hl hs (hv.below hb (Nat.le_refl _)) hz)
  have H1 : Hid (W0.heap[w.heap.size + 1]? = some (.cells #[.int .i64 0, .int .i64 0] 51 (0, 0))) := by rw [hW0]; exact (alloc2_blocks w _ _).2
  have HB := Lib.hid hb
  have HW0 := Lib.hid hW0
  obtain ⟨va, vc, rfl, -, -⟩ := hv
  have hd : ((dataErr .f64 1000000000 l s zs).2 != 0) = true := by rw [bne_iff_ne]; exact hE
  generalize (cvals .f64 zs).length = n at *
  generalize (dataErr .f64 1000000000 l s zs).1 = D1 at *
  generalize (dataErr .f64 1000000000 l s zs).2 = D2 at *
  clear hl hs hz hb hW0 hE
  go_enter Tryd.func24, Tryd.ntmps24
  go_wp2_with fail
  rw [← HW0.out]
  refine C.out.mono ?_
  rintro e w2 ⟨rfl, hb2⟩
  have H2 : Hid (w2.heap[w.heap.size + 1]? = some (.cells #[.int .i64 0, .int .i64 0] 51 (0, 0))) := (hb2.block _ (lt_of_block H1.out)).trans H1.out
  have HB2 := Lib.hid (HB.out.trans (hb2.mono HB.out.size))
  obtain ⟨z0, z1, y0, y1, lz⟩ := two_cells H2.out
  clear hb2
  go_wp2_with fail
  refine bodyPost_ret (v := .tuple #[.agg #[.int .i64 0, .int .i64 0], .int .i64 0, .int .i64 D2]) (by simp [results, Tryd.results24, go_sem, z0, z1]) rfl ⟨rfl, ?_⟩
  exact (HB2.out.setCell (p := ⟨w.heap.size + 1, 0, none⟩) (by show w.heap.size ≤ w.heap.size + 1; omega) _).setCell (p := ⟨w.heap.size + 1, 1, none⟩) (by show w.heap.size ≤ w.heap.size + 1; omega) _

set_option maxRecDepth 100000 in
set_option maxHeartbeats 4000000 in
theorem Peak_ok (L S : Nat) (v : Value) (zs : List (Nat × Nat)) (w : World) (hv : Sl w v (cvals .f64 zs)) (hz : ∀ z ∈ zs, z.1 < 2 ^ 64 ∧ z.2 < 2 ^ 64) (hL1 : 1 ≤ L) (hL : L ≤ 64) (hS1 : 1 ≤ S) (hS : S ≤ 64) (hlen : zs.length = L * S) (RR : Right .f64 1000000000 zs) (hE : (dataErr .f64 1000000000 L S zs).2 = 0) :
    Calls Tryd.prog 24 #[.agg #[.int .i64 L, .int .i64 S, v]] w fun e w' => e = .returned (.tuple #[.agg #[.int .i64 (bestI (enAt zs) zs.length / S : Nat), .int .i64 (bestI (enAt zs) zs.length % S : Nat)], .int .i64 (enAt zs (bestI (enAt zs) zs.length)), .int .i64 0]) ∧ Below w.heap.size w w' := by
  obtain ⟨W0, hW0⟩ : ∃ W0, W0 = (w.alloc (.cells #[.int .i64 L, .int .i64 S, v] 49)).alloc (.cells #[.int .i64 0, .int .i64 0] 51) := ⟨_, rfl⟩
  have hb : Below w.heap.size w W0 := by rw [hW0]; exact below_new2 _ _ _
  have C := Lib.hid (CheckField_any L S v zs W0 ⟨by omega, by omega⟩ ⟨by omega, by omega⟩ (hv.below hb (Nat.le_refl _)) hz)
  have H1 : Hid (W0.heap[w.heap.size]? = some (.cells #[.int .i64 L, .int .i64 S, v] 49 (0, 0)) ∧ W0.heap[w.heap.size + 1]? = some (.cells #[.int .i64 0, .int .i64 0] 51 (0, 0))) := by rw [hW0]; exact alloc2_blocks w _ _
  have HB := Lib.hid hb
  have HW0 := Lib.hid hW0
  rw [hE] at C
  obtain ⟨n, hn⟩ : ∃ n, n = zs.length := ⟨_, rfl⟩
  have hn4 : zs.length ≤ 4096 := by rw [hlen]; exact Nat.le_trans (Nat.mul_le_mul hL hS) (by decide)
  have hn1 : 1 ≤ zs.length := by rw [hlen]; exact Nat.mul_pos hL1 hS1
  have CE : Hid (∀ W, Sl W v (cvals .f64 zs) → Calls Tryd.prog 67 #[v] W fun e w' => ∃ g c, e = .returned (.slice (some ⟨g, 0, none⟩) zs.length c) ∧ W.heap.size ≤ g ∧ Below W.heap.size W w' ∧ Sl w' (.slice (some ⟨g, 0, none⟩) zs.length c) (ivals (enList zs))) := fun W h => energiesOf_any v zs W h RR hn4
  have CG : Hid (∀ W v, Sl W v (ivals (enList zs)) → Calls Tryd.prog 68 #[v] W fun e w' => e = .returned (.int .i64 (bestI (enAt zs) zs.length : Nat)) ∧ W = w') := fun W v h => by
    have := firstGreatest_any v (enList zs) W h
    rw [enList_length, bestI_congr zs.length (g := enAt zs) (fun i hi => enList_get zs i hi)] at this
    exact this
  have hbl := bestI_lt (enAt zs) zs.length hn1
  have HG : Hid ((enList zs).getD (bestI (enAt zs) zs.length) 0 = enAt zs (bestI (enAt zs) zs.length) ∧ (enList zs).length = zs.length) := ⟨enList_get zs _ hbl, enList_length zs⟩
  have HV := Lib.hid (hv.below hb (Nat.le_refl _))
  obtain ⟨va, vc, rfl, -, -⟩ := hv
  rw [show (cvals .f64 zs).length = zs.length from by simp [cvals]] at *
  rw [← hn] at *
  generalize bestI (enAt zs) n = b at *
  generalize enAt zs b = E at *
  generalize (dataErr .f64 1000000000 (L : Int) S zs).1 = D1 at *
  obtain ⟨bq, hbq⟩ : ∃ bq, bq = b / S := ⟨_, rfl⟩
  obtain ⟨br, hbr⟩ : ∃ br, br = b % S := ⟨_, rfl⟩
  rw [← hbq, ← hbr]
  have HQ := Lib.hid (And.intro hbq hbr)
  have HX := Lib.hid hn
  clear hz hb hW0 hE RR hlen hn hbq hbr
  go_enter Tryd.func24, Tryd.ntmps24
  go_wp2_with fail
  rw [← HW0.out]
  refine C.out.mono ?_
  rintro e w2 ⟨rfl, hb2⟩
  have H2 : Hid (w2.heap[w.heap.size]? = some (.cells #[.int .i64 L, .int .i64 S, .slice va n vc] 49 (0, 0)) ∧ w2.heap[w.heap.size + 1]? = some (.cells #[.int .i64 0, .int .i64 0] 51 (0, 0))) := ⟨(hb2.block _ (lt_of_block H1.out.1)).trans H1.out.1, (hb2.block _ (lt_of_block H1.out.2)).trans H1.out.2⟩
  have HB2 := Lib.hid (HB.out.trans (hb2.mono HB.out.size))
  have HV2 := Lib.hid (HV.out.below hb2 (Nat.le_refl _))
  obtain ⟨c0, c1, c2, -, -, -, lc⟩ := three_cells H2.out.1
  clear hb2 HV C HB H1 HW0
  go_wp2_with fail
  refine (CE.out _ HV2.out).mono ?_
  rintro e w3 ⟨b1, ec, rfl, hg3, hb3, hs3⟩
  have hne : b1 ≠ w.heap.size + 1 := by have := lt_of_block H2.out.2; omega
  have H3 : Hid (w3.heap[w.heap.size]? = some (.cells #[.int .i64 L, .int .i64 S, .slice va n vc] 49 (0, 0)) ∧ w3.heap[w.heap.size + 1]? = some (.cells #[.int .i64 0, .int .i64 0] 51 (0, 0))) := ⟨(hb3.block _ (lt_of_block H2.out.1)).trans H2.out.1, (hb3.block _ (lt_of_block H2.out.2)).trans H2.out.2⟩
  have HB3 := Lib.hid (HB2.out.trans (hb3.mono HB2.out.size))
  have HS3 := Lib.hid hs3
  clear hb3 hs3 hg3 HB2 HV2 H2 c0 c1 c2 lc CE
  go_wp2_with fail
  refine (CG.out _ _ HS3.out).mono ?_
  rintro e w' ⟨rfl, rfl⟩
  obtain ⟨c0, c1, c2, -, -, -, lc⟩ := three_cells H3.out.1
  obtain ⟨z0, z1, y0, y1, lz⟩ := two_cells H3.out.2
  obtain ⟨-, b1', o1, hbb, q1, g1⟩ := HS3.out.at (by omega)
  cases hbb
  have d1 : w3.cell? ⟨b1, b, none⟩ = some (.int .i64 E) := by
    have := g1 b _ (ivals_get (by have := HG.out.2; omega))
    rwa [HG.out.1, Nat.zero_add] at this
  have hb5 : (b : Int) < n := by omega
  have hS0 : ¬ S = 0 := by omega
  have hq : bq ≤ b := by rw [HQ.out.1]; exact Nat.div_le_self _ _
  have m0 : (b : Int) / S = bq := by rw [HQ.out.1, Int.natCast_ediv]
  have m1 : IntKind.i64.wrap ((b : Int) / S) = bq := by rw [m0]; exact IntWalk.i64_in _ ⟨by omega, by omega⟩
  have m1w : wrap64 ((b : Int) / S) = bq := by rw [m0]; exact IntWalk.wrap64_in _ ⟨by omega, by omega⟩
  have m2 : (b : Int) % S = br := by rw [HQ.out.2, Int.natCast_emod]
  have d2 : ((w3.setCell ⟨w.heap.size + 1, 0, none⟩ (.int .i64 bq)).setCell ⟨w.heap.size + 1, 1, none⟩ (.int .i64 br)).cell? ⟨b1, b, none⟩ = some (.int .i64 E) := by
    rw [← d1]
    exact World.cell?_of_block ((Below.heap_setCell _ _ _ _ hne).trans (Below.heap_setCell _ _ _ _ hne))
  clear g1 q1 CG
  go_wp2_with fail
  go_region
  all_goals
    go_wp2_with fail
    refine bodyPost_ret (v := .tuple #[.agg #[.int .i64 bq, .int .i64 br], .int .i64 E, .int .i64 0]) (by simp [results, Tryd.results24, go_sem, z0, z1]) rfl ⟨rfl, ?_⟩
    exact ((HB3.out.setCell (p := ⟨w.heap.size + 1, 0, none⟩) (by show w.heap.size ≤ w.heap.size + 1; omega) _).setCell (p := ⟨w.heap.size + 1, 1, none⟩) (by show w.heap.size ≤ w.heap.size + 1; omega) _).drew
end Go.Proofs.YtmmmaanflmgblaaDoor
