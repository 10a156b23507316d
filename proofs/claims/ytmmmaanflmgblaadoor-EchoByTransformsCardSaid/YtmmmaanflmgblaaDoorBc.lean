import Derived.Test.YtmmmaanflmgblaaDoorBa
import Derived.Deep.RegionHeld3
namespace Go.Proofs.YtmmmaanflmgblaaDoor
open Go.RowKit Go.Proofs.YtmmmaanflmgblaaDoor.Flt

theorem some_step (ys : List Int) (k : Nat) (h : k < ys.length) : (ys.take (k + 1)).any (fun y => y != 0) = ((ys.take k).any (fun y => y != 0) || (ys.getD k 0 != 0)) := by
  rw [List.take_succ_eq_append_getElem h, List.any_append]
  simp [List.getD_eq_getElem?_getD, List.getElem?_eq_getElem h]

/-- a region that ends in one of two orders, which differ in two places: the rest is walked once -/
theorem wp_split {P : Program} {c : Code} {K : Exit → Act → World → Prop} {a : Act} {w : World} (F : Nat → Nat → Act) (C : Nat → Nat → World → Prop)
    (h1 : Code.wp P c (fun e a W => e = .normal ∧ ∃ x y, C x y W ∧ a = F x y) a w) (h2 : ∀ x y W, C x y W → K .normal (F x y) W) : Code.wp P c K a w :=
  Code.wp_mono (fun e a W h => by
    obtain ⟨rfl, x, y, hc, rfl⟩ := h
    exact h2 x y W hc) h1

/-- two lists of zeros, new -/
structure BtStart (ba bb : Nat) (w W : World) : Prop where
  hb : Below w.heap.size w W
  hs : W.heap.size = w.heap.size + 2
  ha : W.heap[ba]? = some (.cells (padTo [] 0) 3 (0, 0))
  hc : W.heap[bb]? = some (.cells (padTo [] 0) 3 (0, 0))
  h1 : w.heap.size ≤ ba ∧ w.heap.size ≤ bb ∧ ba < w.heap.size + 2 ∧ bb < w.heap.size + 2 ∧ ba ≠ bb
theorem BtStart.mk2 (w : World) : BtStart w.heap.size (w.heap.size + 1) w (((w.alloc (.cells (padTo [] 0) 3)).alloc (.cells (padTo [] 0) 3)).drew) ∧ BtStart (w.heap.size + 1) w.heap.size w (((w.alloc (.cells (padTo [] 0) 3)).alloc (.cells (padTo [] 0) 3)).drew) := by
  have b1 : Below w.heap.size w (((w.alloc (.cells (padTo [] 0) 3)).alloc (.cells (padTo [] 0) 3)).drew) := (((Below.refl _ _).alloc (Nat.le_refl _) _).alloc (by simp) _).drew
  have h0 : (((w.alloc (.cells (padTo [] 0) 3)).alloc (.cells (padTo [] 0) 3)).drew).heap[w.heap.size]? = some (.cells (padTo [] 0) 3 (0, 0)) := by
    show ((w.alloc (.cells (padTo [] 0) 3)).alloc (.cells (padTo [] 0) 3)).heap[w.heap.size]? = _
    rw [Below.heap_alloc _ _ _ (by simp)]; exact heap_alloc_new _ _
  have h1 : (((w.alloc (.cells (padTo [] 0) 3)).alloc (.cells (padTo [] 0) 3)).drew).heap[w.heap.size + 1]? = some (.cells (padTo [] 0) 3 (0, 0)) := by
    show ((w.alloc (.cells (padTo [] 0) 3)).alloc (.cells (padTo [] 0) 3)).heap[w.heap.size + 1]? = _
    have := heap_alloc_new (w.alloc (.cells (padTo [] 0) 3)) (.cells (padTo [] 0) 3)
    rwa [World.size_alloc] at this
  have hs : (((w.alloc (.cells (padTo [] 0) 3)).alloc (.cells (padTo [] 0) 3)).drew).heap.size = w.heap.size + 2 := by
    show ((w.alloc (.cells (padTo [] 0) 3)).alloc (.cells (padTo [] 0) 3)).heap.size = _
    simp
  exact ⟨⟨b1, hs, h0, h1, by omega⟩, ⟨b1, hs, h1, h0, by omega⟩⟩

theorem realS_words (xs : List Int) : ∀ z ∈ realS xs, z.1 < 2 ^ 32 ∧ z.2 < 2 ^ 32 := by
  intro z hz
  obtain ⟨x, -, rfl⟩ := List.mem_map.1 hz
  exact ⟨rep_lt (f := Ieee.single) (n := x) (.inl rfl), rep_lt (f := Ieee.single) (n := 0) (.inl rfl)⟩

/-- a real line, compressed by a real code -/
theorem bt_comp (xs ys : List Int) (n m S' : Nat) (iv cv : Value) (W : World) (hi : Smp .f32 (realS xs) W iv) (hc : Smp .f32 (realS ys) W cv) (hn : xs.length = n) (hm : ys.length = m) (h1 : 1 ≤ n) (h2 : n ≤ 64) (h3 : 1 ≤ m) (h4 : m ≤ 32) (h5 : m ≤ n) (hS : S' = n - m + 1)
    (hx : ∀ x ∈ xs, x.natAbs ≤ 2047) (hy : ∀ x ∈ ys, x.natAbs ≤ 3) (h0 : ∃ x ∈ ys, x ≠ 0) :
    Calls Tryd.prog 47 #[.agg #[.int .i64 1, .int .i64 n, iv], cv] W fun e w' => ∃ fa fc, e = .returned (.tuple #[.agg #[.int .i64 1, .int .i64 S', .slice fa S' fc], .int .i64 0]) ∧ Below W.heap.size W w' ∧ Smp .f64 (compList (realS xs) (realS ys) n S' S') w' (.slice fa S' fc) := by
  subst hS
  have C := Compress_ok 1 n m iv cv (realS xs) (realS ys) W hi.sl hc.sl (realS_words xs) (realS_words ys) (by decide) (by decide) h1 h2 (by rw [realS_length, hm]) (by rw [← hn] at h1 h2 ⊢; exact real_image xs h1 h2 hx) (by rw [← hm] at h3 h4; exact real_code ys h3 h4 hy h0) h5
  refine C.mono ?_
  rintro e w' ⟨g, rfl, -, hb, ho⟩
  rw [Nat.one_mul] at ho ⊢
  exact ⟨_, _, rfl, hb, ⟨Sl.of_owns ho (by omega)⟩⟩

set_option maxRecDepth 100000 in
set_option maxHeartbeats 8000000 in
theorem byTr_ok (va vb : Value) (xs ys : List Int) (w : World) (ha : Got xs w va) (hb : Got ys w vb) (h1 : 1 ≤ xs.length) (h2 : xs.length ≤ 40) (h3 : 1 ≤ ys.length) (h4 : ys.length ≤ 20) (h5 : ys.length ≤ xs.length) (ht : Tab w) :
    Calls Tryd.prog 10 #[va, vb] w fun e w' => e = .returned (.bool true) ∧ Below w.heap.size w w' := by
  have CA := Lib.hid (awake_any w ht)
  have A0 := Lib.hid ha
  have B0 := Lib.hid hb
  obtain ⟨aa, ac, rfl, hla, -⟩ := ha.sl
  obtain ⟨ab, bc, rfl, hlb, -⟩ := hb.sl
  obtain ⟨n, hn⟩ : ∃ n, n = xs.length := ⟨_, rfl⟩
  obtain ⟨m, hm⟩ : ∃ m, m = ys.length := ⟨_, rfl⟩
  have ex : (ivals xs).length = n := by simp [ivals, hn]
  have ey : (ivals ys).length = m := by simp [ivals, hm]
  rw [ex] at A0 ⊢
  rw [ey] at B0 ⊢
  rw [← hn] at h1 h2 h5
  rw [← hm] at h3 h4 h5
  have HN := Lib.hid (And.intro hn hm)
  have CSm := Lib.hid (fun a b w => Sample_any a b w)
  obtain ⟨i0, hi, hz0, hz1, hz2⟩ := info_parts Tryd.info109
  have HI := Lib.hid (And.intro hi (And.intro hz0 (And.intro hz1 hz2)))
  clear ha hb ht hla hlb hn hm ex ey hi hz0 hz1 hz2
  have hmk : ∀ w : World, (Instr.makeSlice 77 (.int .i64 64) (.int .i64 64)).run Tryd.prog w = .ok (.slice (some ⟨w.heap.size, 0, none⟩) 64 64) (w.alloc (.cells (padTo [] 0) 3)) := fun _ => by kernel_rfl
  have hd5 : decide (n < m) = false := by rw [decide_eq_false_iff_not]; omega
  go_enter Tryd.func10, Tryd.ntmps10
  go_wp2_with fail
  refine CA.out.mono ?_
  rintro e w1 ⟨rfl, hb1⟩
  have HB1 := Lib.hid hb1
  have A1 := Lib.hid (A0.out.below hb1)
  have B1 := Lib.hid (B0.out.below hb1)
  clear hb1 A0 B0 CA
  go_wp2_with fail
  apply wp_split (C := fun ba bb W => Hid (BtStart ba bb w1 W))
  case h1 =>
    have HS := BtStart.mk2 w1
    obtain ⟨N, hN⟩ : ∃ N, N = w1.heap.size := ⟨_, rfl⟩
    obtain ⟨M, hM⟩ : ∃ M, M = w1.heap.size + 1 := ⟨_, rfl⟩
    go_region
    · rw [← hM, ← hN]
      exact ⟨rfl, N, M, by subst hN hM; exact HS.1, rfl⟩
    · rw [← hM, ← hN]
      exact ⟨rfl, M, N, by subst hN hM; exact HS.2, rfl⟩
  intro ba bb W HS
  go_wp2_with fail
  obtain ⟨bi, hbi⟩ : ∃ bi, bi = W.heap.size := ⟨_, rfl⟩
  have HL : Hid ((w1.heap.size ≤ ba ∧ w1.heap.size ≤ bb ∧ ba < bi ∧ bb < bi ∧ ba ≠ bb) ∧ w1.heap.size ≤ bi) := by
    have h1 := HS.out.h1
    have h2 := HS.out.hs
    refine ⟨⟨h1.1, h1.2.1, ?_, ?_, h1.2.2.2.2⟩, ?_⟩ <;> omega
  have I0 : Hid (BtA xs n ba bb bi w1 0 0 (.slice none 0 0) (W.alloc (.cells #[.int .i64 1, .int .i64 n, .slice none 0 0] 32)) ∧ ∀ i, i < 0 → (xs.getD i 0).natAbs ≤ 2047) := by
    refine ⟨⟨HS.out.hb.alloc HS.out.hb.size _, ?_, ?_, ?_, World.ownsRow_nil _ _ _ _⟩, fun i h => absurd h (Nat.not_lt_zero _)⟩
    · rw [padTo_zero]; exact (Below.heap_alloc _ _ _ (lt_of_block HS.out.ha)).trans HS.out.ha
    · exact (Below.heap_alloc _ _ _ (lt_of_block HS.out.hc)).trans HS.out.hc
    · rw [hbi]; exact heap_alloc_new _ _
  rw [← hbi]
  clear hbi HS hmk
  go_loopw [10] (fun i wr => ∃ (k : Nat) (v : Value), k ≤ n ∧ i = .int .i64 k ∧ Hid (BtA xs n ba bb bi w1 k k v wr ∧ ∀ i, i < k → (xs.getD i 0).natAbs ≤ 2047)) (fun i _ => n - (intOf i).toNat)
  case atStart => exact ⟨0, _, Nat.zero_le _, rfl, I0⟩
  case round =>
    clear I0
    obtain ⟨k, v, hk, rfl, IK⟩ := hrel
    obtain ⟨wz, rfl⟩ : ∃ wz : World, wz = wr := ⟨_, rfl⟩
    by_cases hlt : k < n
    · obtain ⟨-, b1, o1, rfl, q1, g1⟩ := A1.out.sl.at (by omega)
      have hkx : k < xs.length := by have := HN.out.1; omega
      have d1 : wz.cell? ⟨b1, o1 + k, none⟩ = some (.int .i64 (xs.getD k 0)) := (IK.out.1.hb.cell (p := ⟨b1, o1 + k, none⟩) q1).trans (g1 k _ (ivals_get hkx))
      have CW := Lib.hid (fun w => Within_any (xs.getD k 0) (-2047) 2047 w)
      by_cases hx : (xs.getD k 0).natAbs ≤ 2047
      · rw [decide_eq_true (by omega)] at CW
        have CM := Lib.hid (fun w => Mod_any (xs.getD k 0) 998244353 (by decide) (by decide) w)
        have d3 : wz.cell? ⟨ba, k, none⟩ = some (.int .i64 0) := by
          have := cell_of_row wz ba k _ _ _ IK.out.1.ha
          rw [padTo_get xs k k (by omega), if_neg (by omega)] at this
          exact this
        have d4 : wz.frozen? ⟨ba, k, none⟩ = false := frozen_of_row wz ba k _ _ IK.out.1.ha
        have IY := Lib.hid (IK.out.1.store HL.out.1.1 HL.out.1.2.2.1 HL.out.1.2.2.2.2)
        have HX : Hid (∀ i, i < k + 1 → (xs.getD i 0).natAbs ≤ 2047) := fun i hi => by
          rcases Nat.lt_or_ge i k with h | h
          · exact IK.out.2 i h
          · rw [show i = k from by omega]; exact hx
        have CS := Lib.hid (fun w => CSm.out (xs.getD k 0) 0 (by omega) (by decide) w)
        obtain ⟨X, hX⟩ : ∃ X, X = enc Ieee.single (xs.getD k 0) := ⟨_, rfl⟩
        obtain ⟨Y, hY⟩ : ∃ Y, Y = enc Ieee.single 0 := ⟨_, rfl⟩
        rw [← hX, ← hY] at CS
        have HXY := Lib.hid (And.intro hX hY)
        obtain ⟨x, hx0⟩ : ∃ x, x = xs.getD k 0 := ⟨_, rfl⟩
        rw [← hx0] at d1 CW CM IY CS
        clear hX hY g1 hx hx0
        have hblt : b1 < w1.heap.size := q1
        have d0 : w1.cell? ⟨b1, o1 + k, none⟩ = some (.int .i64 x) := (IK.out.1.hb.cell (p := ⟨b1, o1 + k, none⟩) q1).symm.trans d1
        go_wp2_with fail
        refine (CW.out _).mono ?_
        rintro e w' ⟨rfl, rfl⟩
        go_wp2_with fail
        refine (CM.out _).mono ?_
        rintro e w' ⟨rfl, rfl⟩
        go_wp2_with fail
        obtain ⟨wy, hwy⟩ : ∃ wy, wy = wz.setCell ⟨ba, k, none⟩ (.int .i64 (x % 998244353)) := ⟨_, rfl⟩
        rw [← hwy] at IY ⊢
        have dy : wy.cell? ⟨b1, o1 + k, none⟩ = some (.int .i64 x) := (IY.out.hb.cell (p := ⟨b1, o1 + k, none⟩) hblt).trans d0
        obtain ⟨c0, c1, c2, f0, f1, f2, l1⟩ := three_cells IY.out.hi
        have hby : b1 < wy.heap.size := Nat.lt_of_lt_of_le hblt IY.out.hb.size
        have hkn2 : (k : Int) < n := by omega
        have P1 : Hid (((wy.alloc (.cells #[.complex .f32 X Y] 79)).drew).ownsRow (bi + 1) 79 1 v k (cvals .f32 (realS (xs.take k)))) := IY.out.ho.alloc _
        have P2 : Hid (∀ (j : Nat) (u : Value), [Value.complex .f32 X Y][j]? = some u → ((wy.alloc (.cells #[.complex .f32 X Y] 79)).drew).cell? ((⟨wy.heap.size, 0, none⟩ : Addr).add j) = some u) := cell1_new _ _ _
        have P3 : Hid (∀ u ∈ [Value.complex .f32 X Y], u.oneCell' = true) := by intro u hu; simp at hu; rw [hu]; rfl
        have P4 : Hid (k + 1 ≤ maxLen) := by unfold Hid maxLen; omega
        have P5 : Hid ((k + 1) * 8 ≤ 140737488355328) := by unfold Hid; omega
        have P6 : Hid (bi + 1 ≤ ((wy.alloc (.cells #[.complex .f32 X Y] 79)).drew).heap.size) := by unfold Hid; simp [World.drew]; omega
        have P7 : Hid (((wy.alloc (.cells #[.complex .f32 X Y] 79)).drew).heap.size = wy.heap.size + 1) := by unfold Hid; simp [World.drew]
        clear hwy d0 d1 d3 d4 CW CM IK q1
        go_region_law ((first | (refine step_append_lies _ rfl (.tmp 79) (.tmp 85) 30 rfl (bi + 1) 79 i0 (.complex .f32 0 0) 1 8 Tryd.underlying30 HI.out.1 HI.out.2.1 HI.out.2.2.1 HI.out.2.2.2 rfl Nat.zero_lt_one v k (cvals .f32 (realS (xs.take k))) rfl P1.out ⟨wy.heap.size, 0, none⟩ 1 1 [.complex .f32 X Y] rfl rfl P2.out P3.out Nat.zero_lt_one P4.out P5.out P6.out (wy.heap.size + 1) P7.out ?_; intro g cap' w' hown' hgrow hor hlt'; have HA := Lib.hid (IY.out.after (W := (wy.alloc (.cells #[.complex .f32 X Y] 79)).drew) (.cells #[.complex .f32 X Y] 79) rfl rfl rfl rfl hgrow HL.out.1.2.2.1 HL.out.1.2.2.2.1 HL.out.2); have HO := Lib.hid hown'; obtain ⟨b0, b1, b2, b3, b4, b5, b6⟩ := three_cells HA.out.2.2.2; clear hown' hgrow hor) | (go_simp; go_at_call 38; refine (CS.out _).mono ?_; rintro e w' ⟨rfl, rfl⟩)))
        all_goals
          go_wp2_with fail
          go_roundw
          case rel =>
            refine ⟨k + 1, .slice (some ⟨g, 0, none⟩) (k + 1) cap', by omega, by go_num, ?_, HX.out⟩
            have HO' := HO.out
            rw [HXY.out.1, HXY.out.2] at HO'
            exact BtA.next HA.out HL.out.1.2.2.1 HL.out.1.2.2.2.1 HL.out.2 HO' hkx
          case measure => simp [intOf]; omega
      · rw [decide_eq_false (by omega)] at CW
        have HB := Lib.hid (HB1.out.trans (IK.out.1.hb.mono HB1.out.size))
        clear g1 IK hx
        generalize xs.getD k 0 = x at *
        go_wp2_with fail
        refine (CW.out _).mono ?_
        rintro e w' ⟨rfl, rfl⟩
        go_wp2_with fail
        go_ret
        exact ⟨rfl, HB.out⟩
    · have e : n = k := by omega
      subst e
      have HXs : Hid (∀ i, i < n → (xs.getD i 0).natAbs ≤ 2047) := IK.out.2
      obtain ⟨K, hK⟩ : ∃ K, K = wz.heap.size := ⟨_, rfl⟩
      have I2 : Hid (BtB xs ys n ba bb bi K v w1 0 0 (.slice none 0 0) wz ∧ ∀ i, i < 0 → (ys.getD i 0).natAbs ≤ 3) := by
        have I := IK.out.1
        have l1 := lt_of_block I.hi
        refine ⟨⟨I.hb, I.ha, ?_, I.hi, ?_, ⟨by omega, fun i e => ?_, by omega⟩, World.ownsRow_nil _ _ _ _⟩, fun i h => absurd h (Nat.not_lt_zero _)⟩
        · rw [padTo_zero]; exact I.hc
        · have := I.ho
          rwa [List.take_of_length_le (by have := HN.out.1; omega)] at this
        · rw [hK]; exact (I.ho.lt i e).2
      clear IK hK
      go_wp2_with fail
      go_loopw [8, 9, 11] (fun cv sv i wr => ∃ (k : Nat) (v2 : Value), k ≤ m ∧ i = .int .i64 k ∧ v2 = cv ∧ sv = .bool ((ys.take k).any (fun y => y != 0)) ∧ Hid (BtB xs ys n ba bb bi K v w1 k k v2 wr ∧ ∀ i, i < k → (ys.getD i 0).natAbs ≤ 3)) (fun _ _ i _ => m - (intOf i).toNat)
      case atStart => exact ⟨0, _, Nat.zero_le _, rfl, rfl, rfl, I2⟩
      case round =>
        clear I2
        obtain ⟨k, v2, hk, rfl, rfl, rfl, IK⟩ := hrel
        obtain ⟨wz, rfl⟩ : ∃ wz : World, wz = wr := ⟨_, rfl⟩
        by_cases hlt : k < m
        · obtain ⟨-, b1, o1, rfl, q1, g1⟩ := B1.out.sl.at (by omega)
          have hky : k < ys.length := by have := HN.out.2; omega
          have d1 : wz.cell? ⟨b1, o1 + k, none⟩ = some (.int .i64 (ys.getD k 0)) := (IK.out.1.hb.cell (p := ⟨b1, o1 + k, none⟩) q1).trans (g1 k _ (ivals_get hky))
          have CW := Lib.hid (fun w => Within_any (ys.getD k 0) (-3) 3 w)
          by_cases hx : (ys.getD k 0).natAbs ≤ 3
          · rw [decide_eq_true (by omega)] at CW
            have CM := Lib.hid (fun w => Mod_any (ys.getD k 0) 998244353 (by decide) (by decide) w)
            have d3 : wz.cell? ⟨bb, k, none⟩ = some (.int .i64 0) := by
              have := cell_of_row wz bb k _ _ _ IK.out.1.hc
              rw [padTo_get ys k k (by omega), if_neg (by omega)] at this
              exact this
            have d4 : wz.frozen? ⟨bb, k, none⟩ = false := frozen_of_row wz bb k _ _ IK.out.1.hc
            have IY := Lib.hid (IK.out.1.store HL.out.1.2.1 HL.out.1.2.2.2.1 HL.out.1.2.2.2.2)
            have HX : Hid (∀ i, i < k + 1 → (ys.getD i 0).natAbs ≤ 3) := fun i hi => by
              rcases Nat.lt_or_ge i k with h | h
              · exact IK.out.2 i h
              · rw [show i = k from by omega]; exact hx
            have HF := Lib.hid (some_step ys k hky)
            have CS := Lib.hid (fun w => CSm.out (ys.getD k 0) 0 (by omega) (by decide) w)
            obtain ⟨X, hX⟩ : ∃ X, X = enc Ieee.single (ys.getD k 0) := ⟨_, rfl⟩
            obtain ⟨Y, hY⟩ : ∃ Y, Y = enc Ieee.single 0 := ⟨_, rfl⟩
            rw [← hX, ← hY] at CS
            have HXY := Lib.hid (And.intro hX hY)
            obtain ⟨x, hx0⟩ : ∃ x, x = ys.getD k 0 := ⟨_, rfl⟩
            rw [← hx0] at d1 CW CM IY CS HF
            have hblt : b1 < w1.heap.size := q1
            have d0 : w1.cell? ⟨b1, o1 + k, none⟩ = some (.int .i64 x) := (IK.out.1.hb.cell (p := ⟨b1, o1 + k, none⟩) q1).symm.trans d1
            have dy : (wz.setCell ⟨bb, k, none⟩ (.int .i64 (x % 998244353))).cell? ⟨b1, o1 + k, none⟩ = some (.int .i64 x) := (IY.out.hb.cell (p := ⟨b1, o1 + k, none⟩) hblt).trans d0
            generalize (ys.take k).any (fun y => y != 0) = fl at *
            clear hX hY g1 hx hx0
            cases fl
            all_goals
              go_wp2_with fail
              refine (CW.out _).mono ?_
              rintro e w' ⟨rfl, rfl⟩
              go_wp2_with fail
              refine (CM.out _).mono ?_
              rintro e w' ⟨rfl, rfl⟩
              go_wp2_with fail
              refine (CS.out _).mono ?_
              rintro e w' ⟨rfl, rfl⟩
              obtain ⟨wy, hwy⟩ : ∃ wy, wy = wz.setCell ⟨bb, k, none⟩ (.int .i64 (x % 998244353)) := ⟨_, rfl⟩
              rw [← hwy] at IY ⊢
              clear hwy d0 d1 d3 d4 dy CW CM IK q1
              go_wp2_with (at_builtin; refine wpList_append_own _ (by rfl) (.tmp 116) (.tmp 122) 30 (by rfl) K 79 i0 (.complex .f32 0 0) 1 8 Tryd.underlying30 HI.out.1 HI.out.2.1 HI.out.2.2.1 HI.out.2.2.2 rfl (by decide) v2 k (cvals .f32 (realS (ys.take k))) (by rfl) (IY.out.ho.alloc _) ⟨wy.heap.size, 0, none⟩ 1 1 [.complex .f32 X Y] (by rfl) rfl (cell1_new _ _ _) (by intro u hu; simp at hu; rw [hu]; rfl) (by unfold maxLen; omega) (by omega) (by have := IY.out.hK.2.2; simp; omega) ?_)
              intro v' w' hown hgrow _
              have HB : Hid (BtB xs ys n ba bb bi K v w1 (k + 1) (k + 1) v' w') := by
                rw [HXY.out.1, HXY.out.2] at hown
                exact IY.out.next _ rfl rfl rfl rfl hgrow HL.out.1.2.2.1 HL.out.1.2.2.2.1 HL.out.2 hown hky
              clear hown hgrow
              go_wp2_with fail
              go_roundw
              case rel => exact ⟨k + 1, _, by omega, by go_num, rfl, by rw [HF.out]; first | rfl | simp, HB.out, HX.out⟩
              case measure => simp [intOf]; omega
          · rw [decide_eq_false (by omega)] at CW
            have HB := Lib.hid (HB1.out.trans (IK.out.1.hb.mono HB1.out.size))
            clear g1 IK hx
            generalize ys.getD k 0 = x at *
            go_wp2_with fail
            refine (CW.out _).mono ?_
            rintro e w' ⟨rfl, rfl⟩
            go_wp2_with fail
            go_ret
            exact ⟨rfl, HB.out⟩
        · have e : m = k := by omega
          subst e
          have I := IK.out.1
          have HYs := IK.out.2
          have GA : Hid (Got (padL xs 64) wz (.slice (some ⟨ba, 0, none⟩) 64 64)) := got_pad I.ha (by have := HN.out.1; omega)
          have GB : Hid (Got (padL ys 64) wz (.slice (some ⟨bb, 0, none⟩) 64 64)) := got_pad I.hc (by have := HN.out.2; omega)
          have SI : Hid (Smp .f32 (realS xs) wz v) := ⟨Sl.of_owns I.hr (by omega)⟩
          have SC : Hid (Smp .f32 (realS ys) wz v2) := ⟨by have := I.ho; rw [List.take_of_length_le (by have := HN.out.2; omega)] at this; exact Sl.of_owns this (by omega)⟩
          have HBz := Lib.hid (HB1.out.trans (I.hb.mono HB1.out.size))
          have hi3 := I.hi
          have hxs : ∀ x ∈ xs, x.natAbs ≤ 2047 := by
            intro x hx
            obtain ⟨i, hi, rfl⟩ := List.getElem_of_mem hx
            have := HXs.out i (by have := HN.out.1; omega)
            rwa [List.getD_eq_getElem?_getD, List.getElem?_eq_getElem hi] at this
          have hys : ∀ x ∈ ys, x.natAbs ≤ 3 := by
            intro x hx
            obtain ⟨i, hi, rfl⟩ := List.getElem_of_mem hx
            have := HYs i (by have := HN.out.2; omega)
            rwa [List.getD_eq_getElem?_getD, List.getElem?_eq_getElem hi] at this
          rw [List.take_of_length_le (show ys.length ≤ m by have := HN.out.2; omega)]
          by_cases hs : ys.any (fun y => y != 0) = true
          · have h0 : ∃ x ∈ ys, x ≠ 0 := by
              obtain ⟨x, hx, hx0⟩ := List.any_eq_true.1 hs
              exact ⟨x, hx, by simpa using hx0⟩
            obtain ⟨S', hS'⟩ : ∃ S', S' = n - m + 1 := ⟨_, rfl⟩
            have hSi : (n : Int) - m + 1 = S' := by omega
            have CC := Lib.hid (bt_comp xs ys n m S' v v2 wz SI.out SC.out HN.out.1.symm HN.out.2.symm h1 (by omega) h3 (by omega) h5 hS' hxs hys h0)
            -- what the transforms are
            have eA : listErr (padL xs 64) = 0 := padL_err xs 64 (by decide) (by decide)
            have eB : listErr (padL ys 64) = 0 := padL_err ys 64 (by decide) (by decide)
            have HV : Hid (∀ s, s < S' → (compList (realS xs) (realS ys) n S' S').getD s (0, 0) = (enc Ieee.double (sgnP ((corList (padL xs 64) (padL ys 64)).getD s 0)), enc Ieee.double 0) ∧ (sgnP ((corList (padL xs 64) (padL ys 64)).getD s 0)).natAbs ≤ 1000000000) := by
              intro s hs2
              have hc := comp_get (realS xs) (realS ys) n S' S' 0 s hs2 (by omega)
              rw [Nat.zero_mul, Nat.zero_add, Nat.zero_mul, Nat.zero_add, realS_length] at hc
              obtain ⟨r1, r2⟩ := comp_real xs ys hxs hys s
              have hg := cor_sgn xs ys 64 s (by omega) (by have := HN.out.2; omega) (by have := HN.out.2; omega) (by decide) (by decide) (getD_bd hxs) (getD_bd hys)
              have hb := getD_off (listErr_ok (cor_err (padL xs 64) (padL ys 64) eA)).2.2 s
              refine ⟨by rw [hc, r1, r2, hg], ?_⟩
              unfold sgnP
              split <;> omega
            have PR : Hid (∀ k, k < 64 → (trList (corList (padL xs 64) (padL ys 64)) (rootN 64) 1).getD k 0 = (trList (padL xs 64) (rootN 64) 1).getD k 0 * (trList (padL ys 64) (rootN 64) 1).getD ((64 - k) % 64) 0 % 998244353) := by
              intro k hk
              have := cor_prod (padL xs 64) (padL ys 64) k (by rw [padL_length]; exact hk) (by rw [padL_length, padL_length]) eA (by rw [padL_length]; decide)
              rwa [corList_length, padL_length, padL_length] at this
            have bD : Hid (∀ i, 0 ≤ (corList (padL xs 64) (padL ys 64)).getD i 0 ∧ (corList (padL xs 64) (padL ys 64)).getD i 0 < 998244353) := fun i => getD_off (listErr_ok (cor_err _ _ eA)).2.2 i
            have bX : Hid (∀ i, 0 ≤ (trList (padL xs 64) (rootN 64) 1).getD i 0 ∧ (trList (padL xs 64) (rootN 64) 1).getD i 0 < 998244353) := fun i => getD_off (listErr_ok (tr_err (padL xs 64) _ _ eA)).2.2 i
            have bY : Hid (∀ i, 0 ≤ (trList (padL ys 64) (rootN 64) 1).getD i 0 ∧ (trList (padL ys 64) (rootN 64) 1).getD i 0 < 998244353) := fun i => getD_off (listErr_ok (tr_err (padL ys 64) _ _ eB)).2.2 i
            have TX : Hid (∀ v W, Got (padL xs 64) W v → Calls Tryd.prog 49 #[v] W fun e w' => ∃ v', e = .returned (.tuple #[v', .int .i64 0]) ∧ Below W.heap.size W w' ∧ Got (trList (padL xs 64) (rootN 64) 1) w' v') := fun v W h => by
              have := transG h eA
              rwa [padL_length] at this
            have TY : Hid (∀ v W, Got (padL ys 64) W v → Calls Tryd.prog 49 #[v] W fun e w' => ∃ v', e = .returned (.tuple #[v', .int .i64 0]) ∧ Below W.heap.size W w' ∧ Got (trList (padL ys 64) (rootN 64) 1) w' v') := fun v W h => by
              have := transG h eB
              rwa [padL_length] at this
            have TI : Hid (∀ v W, Got (trList (corList (padL xs 64) (padL ys 64)) (rootN 64) 1) W v → Calls Tryd.prog 51 #[v] W fun e w' => ∃ v', e = .returned (.tuple #[v', .int .i64 0]) ∧ Below W.heap.size W w' ∧ Got (corList (padL xs 64) (padL ys 64)) w' v') := fun v W h => by
              have e := cor_err (padL xs 64) (padL ys 64) eA
              have := invG h (tr_err _ _ _ e)
              have hb := (tr_back (corList (padL xs 64) (padL ys 64)) e (by rw [corList_length, padL_length]; decide)).1
              rw [corList_length, padL_length] at hb
              rw [trList_length, corList_length, padL_length, hb] at this
              exact this
            have TC : Hid (∀ v v' W, Got (padL xs 64) W v → Got (padL ys 64) W v' → Calls Tryd.prog 52 #[v, v'] W fun e w' => ∃ v'', e = .returned (.tuple #[v'', .int .i64 0]) ∧ Below W.heap.size W w' ∧ Got (corList (padL xs 64) (padL ys 64)) w' v'') := fun v v' W h h' => corG h h' eA eB (by rw [padL_length, padL_length])
            have HL : Hid ((padL xs 64).length = 64 ∧ (padL ys 64).length = 64 ∧ (corList (padL xs 64) (padL ys 64)).length = 64 ∧ (trList (padL xs 64) (rootN 64) 1).length = 64 ∧ (trList (padL ys 64) (rootN 64) 1).length = 64 ∧ (trList (corList (padL xs 64) (padL ys 64)) (rootN 64) 1).length = 64) :=
              ⟨padL_length _ _, padL_length _ _, by rw [corList_length, padL_length], by rw [trList_length, padL_length], by rw [trList_length, padL_length], by rw [trList_length, corList_length, padL_length]⟩
            generalize trList (corList (padL xs 64) (padL ys 64)) (rootN 64) 1 = Z at *
            generalize trList (padL xs 64) (rootN 64) 1 = X at *
            generalize trList (padL ys 64) (rootN 64) 1 = Y at *
            generalize corList (padL xs 64) (padL ys 64) = D at *
            generalize compList (realS xs) (realS ys) n S' S' = C at *
            generalize padL xs 64 = P at *
            generalize padL ys 64 = Q at *
            obtain ⟨va, vn, vc, rfl⟩ : ∃ va vn vc, v = .slice va vn vc := by
              rcases I.hr.2 with ⟨h, -⟩ | ⟨g, cp, -, h, -⟩
              · exact ⟨_, _, _, h⟩
              · exact ⟨_, _, _, h⟩
            obtain ⟨c0, c1, c2, -, -, -, l1⟩ := three_cells hi3
            clear I HYs IK hxs hys h0 eA eB SI SC hi3 hS' HXs CSm A1 B1 HB1 HI
            rw [hs]
            clear hs
            go_wp2_with fail
            refine CC.out.mono ?_
            rintro e w3 ⟨fa, fc, rfl, hb, hf⟩
            have HB3 := Lib.hid (HBz.out.trans (hb.mono HBz.out.size))
            have GA3 := Lib.hid ((GA.out.below hb).below (below_new w3 (.cells #[.int .i64 1, .int .i64 S', .slice fa S' fc] 49)))
            have GB3 := Lib.hid ((GB.out.below hb).below (below_new w3 (.cells #[.int .i64 1, .int .i64 S', .slice fa S' fc] 49)))
            have FB3 := Lib.hid (FBox.born (l := 1) (s := S') hf)
            have HB3' := Lib.hid (HB3.out.alloc HB3.out.size (.cells #[.int .i64 1, .int .i64 S', .slice fa S' fc] 49))
            obtain ⟨w4, hw4⟩ : ∃ w4, w4 = w3.alloc (.cells #[.int .i64 1, .int .i64 S', .slice fa S' fc] 49) := ⟨_, rfl⟩
            obtain ⟨fb, hfb⟩ : ∃ fb, fb = w3.heap.size := ⟨_, rfl⟩
            rw [← hw4] at GA3 GB3 FB3 HB3'
            rw [← hfb] at FB3
            clear hb hf HBz GA GB CC c0 c1 c2 l1 HB3
            go_wp2_with fail
            rw [← hw4, ← hfb]
            clear hw4 hfb
            refine (copyG GA3.out (by have := HL.out.1; omega)).mono ?_
            rintro e w5 ⟨c1, rfl, hb, hc⟩
            have HB5 := Lib.hid (HB3'.out.trans (hb.mono HB3'.out.size))
            have GA5 := Lib.hid (GA3.out.below hb)
            have GB5 := Lib.hid (GB3.out.below hb)
            have FB5 := Lib.hid (FB3.out.next hb)
            have HC := Lib.hid hc
            clear hb hc HB3' GA3 GB3 FB3
            go_wp2_with fail
            refine (TX.out _ _ HC.out).mono ?_
            rintro e w6 ⟨x, rfl, hb, hx⟩
            have HB6 := Lib.hid (HB5.out.trans (hb.mono HB5.out.size))
            have GA6 := Lib.hid (GA5.out.below hb)
            have GB6 := Lib.hid (GB5.out.below hb)
            have FB6 := Lib.hid (FB5.out.next hb)
            have X6 := Lib.hid hx
            clear hb hx HC HB5 GA5 GB5 FB5 TX
            go_wp2_with fail
            refine (copyG GB6.out (by have := HL.out.2.1; omega)).mono ?_
            rintro e w7 ⟨c2, rfl, hb, hc⟩
            have HB7 := Lib.hid (HB6.out.trans (hb.mono HB6.out.size))
            have GA7 := Lib.hid (GA6.out.below hb)
            have GB7 := Lib.hid (GB6.out.below hb)
            have FB7 := Lib.hid (FB6.out.next hb)
            have X7 := Lib.hid (X6.out.below hb)
            have HC := Lib.hid hc
            clear hb hc HB6 GA6 GB6 FB6 X6
            go_wp2_with fail
            refine (TY.out _ _ HC.out).mono ?_
            rintro e w8 ⟨y, rfl, hb, hy⟩
            have HB8 := Lib.hid (HB7.out.trans (hb.mono HB7.out.size))
            have GA8 := Lib.hid (GA7.out.below hb)
            have GB8 := Lib.hid (GB7.out.below hb)
            have FB8 := Lib.hid (FB7.out.next hb)
            have X8 := Lib.hid (X7.out.below hb)
            have Y8 := Lib.hid hy
            clear hb hy HC HB7 GA7 GB7 FB7 X7 TY
            obtain ⟨xa, xc, rfl, -, -⟩ := X8.out.sl
            obtain ⟨ya, yc, rfl, -, -⟩ := Y8.out.sl
            have ex : (ivals X).length = 64 := by rw [show (ivals X).length = X.length from by simp [ivals]]; exact HL.out.2.2.2.1
            have ey : (ivals Y).length = 64 := by rw [show (ivals Y).length = Y.length from by simp [ivals]]; exact HL.out.2.2.2.2.1
            rw [ex] at X8 ⊢
            rw [ey] at Y8 ⊢
            clear ex ey
            obtain ⟨q0, q1, q2, -, -, -, ql⟩ := three_cells FB8.out.blk
            obtain ⟨j0, hj, hj0, hj1, hj2⟩ := info_parts Tryd.infoInt
            have HJ := Lib.hid (And.intro hj (And.intro hj0 (And.intro hj1 hj2)))
            clear hj hj0 hj1 hj2
            go_wp2_with fail
            go_loopw [18, 19] (fun zv i wr => ∃ (k : Nat) (v3 : Value), k ≤ 64 ∧ i = .int .i64 k ∧ v3 = zv ∧ Hid (Build Z w8 k v3 wr)) (fun _ i _ => 64 - (intOf i).toNat)
            case atStart => exact ⟨0, _, Nat.zero_le _, rfl, rfl, Build.start _ _⟩
            case round =>
              obtain ⟨k, v3, hk, rfl, rfl, IK⟩ := hrel
              obtain ⟨wz, rfl⟩ : ∃ wz : World, wz = wr := ⟨_, rfl⟩
              by_cases hlt : k < 64
              · obtain ⟨t, ht⟩ : ∃ t, t = (64 - k) % 64 := ⟨_, rfl⟩
                have ht' : t < 64 := by rw [ht]; exact Nat.mod_lt _ (by omega)
                obtain ⟨-, b1, o1, rfl, q1, g1⟩ := X8.out.sl.at (by omega)
                obtain ⟨-, b2, o2, rfl, q2, g2⟩ := Y8.out.sl.at (by omega)
                have d1 : wz.cell? ⟨b1, o1 + k, none⟩ = some (.int .i64 (X.getD k 0)) := (IK.out.hb.cell (p := ⟨b1, o1 + k, none⟩) q1).trans (g1 k _ (ivals_get (by have := HL.out.2.2.2.1; omega)))
                have d2 : wz.cell? ⟨b2, o2 + t, none⟩ = some (.int .i64 (Y.getD t 0)) := (IK.out.hb.cell (p := ⟨b2, o2 + t, none⟩) q2).trans (g2 t _ (ivals_get (by have := HL.out.2.2.2.2.1; omega)))
                have HZ : Hid (Z.getD k 0 = X.getD k 0 * Y.getD t 0 % 998244353) := by have := PR.out k hlt; rw [← ht] at this; exact this
                obtain ⟨x0, x1⟩ := bX.out k
                obtain ⟨y0, y1⟩ := bY.out t
                generalize X.getD k 0 = p at *
                generalize Y.getD t 0 = r at *
                obtain ⟨m1, m2⟩ := prodI_b x0 x1 y0 y1
                have W1 := Lib.hid (fun w => Within_any p 0 998244352 w)
                rw [decide_eq_true (by omega)] at W1
                have W2 := Lib.hid (fun w => Within_any r 0 998244352 w)
                rw [decide_eq_true (by omega)] at W2
                have e2 : ((64 : Int) - k) % 64 = t := by rw [ht]; omega
                have e3 : (t : Int) < 64 := by omega
                have e4 : (0 : Int) ≤ (t : Int) := by omega
                have r1 : (IntKind.i64.wrap (64 - (k : Int))).tmod 64 = t := by
                  rw [IntWalk.i64_in _ ⟨by omega, by omega⟩, Int.tmod_eq_emod_of_nonneg (by omega)]; exact e2
                have r2 : (IntKind.i64.wrap (p * r)).tmod 998244353 = p * r % 998244353 := by
                  rw [IntWalk.i64_in _ ⟨by omega, by omega⟩, Int.tmod_eq_emod_of_nonneg (by omega)]
                have P1 : Hid (((wz.alloc (.cells #[.int .i64 (p * r % 998244353)] 3)).drew).ownsRow w8.heap.size 3 1 v3 k (ivals (Z.take k))) := IK.out.ho.alloc _
                have P2 : Hid (∀ (j : Nat) (u : Value), [Value.int .i64 (p * r % 998244353)][j]? = some u → ((wz.alloc (.cells #[.int .i64 (p * r % 998244353)] 3)).drew).cell? ((⟨wz.heap.size, 0, none⟩ : Addr).add j) = some u) := cell1_new _ _ _
                have P3 : Hid (∀ u ∈ [Value.int .i64 (p * r % 998244353)], u.oneCell' = true) := by intro u hu; simp at hu; rw [hu]; rfl
                have P4 : Hid (k + 1 ≤ maxLen) := by unfold Hid maxLen; omega
                have P5 : Hid ((k + 1) * 8 ≤ 140737488355328) := by unfold Hid; omega
                have P6 : Hid (w8.heap.size ≤ ((wz.alloc (.cells #[.int .i64 (p * r % 998244353)] 3)).drew).heap.size) := by have := IK.out.hb.size; unfold Hid; simp [World.drew]; omega
                have P7 : Hid (((wz.alloc (.cells #[.int .i64 (p * r % 998244353)] 3)).drew).heap.size = wz.heap.size + 1) := by unfold Hid; simp [World.drew]
                clear ht g1 g2 q1 q2 q0 ql
                go_wp2_with fail
                refine (W1.out _).mono ?_
                rintro e w' ⟨rfl, rfl⟩
                go_wp2_with fail
                refine (W2.out _).mono ?_
                rintro e w' ⟨rfl, rfl⟩
                go_wp2_with fail
                go_region_law ((refine step_append_lies _ rfl (.tmp 196) (.tmp 209) 77 rfl w8.heap.size 3 j0 (.int .i64 0) 1 8 Tryd.underlying77 HJ.out.1 HJ.out.2.1 HJ.out.2.2.1 HJ.out.2.2.2 rfl Nat.zero_lt_one v3 k (ivals (Z.take k)) rfl P1.out ⟨wz.heap.size, 0, none⟩ 1 1 [.int .i64 (p * r % 998244353)] rfl rfl P2.out P3.out Nat.zero_lt_one P4.out P5.out P6.out (wz.heap.size + 1) P7.out ?_; intro g cap' w' hown' hgrow hor hlt'; have HA := Lib.hid (Build.next IK.out (by have := HL.out.2.2.2.2.2; omega) HZ.out hown' (by exact ⟨hgrow.os, hgrow.tape, hgrow.output, hgrow.size, hgrow.block⟩)); clear hown' hgrow hor))
                all_goals
                  go_wp2_with fail
                  go_roundw
                  case rel => exact ⟨k + 1, _, by omega, by go_num, rfl, HA.out⟩
                  case measure => simp [intOf]; omega
              · have hk64 : ¬ (k : Int) < 64 := by omega
                have GZ : Hid (Got Z wz v3) := by
                  have := IK.out.ho
                  rw [List.take_of_length_le (by have := HL.out.2.2.2.2.2; omega)] at this
                  exact Got.of (by omega) this
                have HB9 := Lib.hid (HB8.out.trans (IK.out.hb.mono HB8.out.size))
                have GA9 := Lib.hid (GA8.out.below IK.out.hb)
                have GB9 := Lib.hid (GB8.out.below IK.out.hb)
                have FB9 := Lib.hid (FB8.out.next IK.out.hb)
                clear IK HB8 GA8 GB8 FB8 X8 Y8 PR bX bY HJ q0 q1 q2 ql hk hlt
                go_wp2_with fail
                refine (TI.out _ _ GZ.out).mono ?_
                rintro e w10 ⟨d, rfl, hb, hd⟩
                have HB10 := Lib.hid (HB9.out.trans (hb.mono HB9.out.size))
                have GA10 := Lib.hid (GA9.out.below hb)
                have GB10 := Lib.hid (GB9.out.below hb)
                have FB10 := Lib.hid (FB9.out.next hb)
                have D10 := Lib.hid hd
                clear hb hd HB9 GA9 GB9 FB9 GZ TI
                go_wp2_with fail
                refine (TC.out _ _ _ GA10.out GB10.out).mono ?_
                rintro e w11 ⟨d2, rfl, hb, hd⟩
                have HB11 := Lib.hid (HB10.out.trans (hb.mono HB10.out.size))
                have FB11 := Lib.hid (FB10.out.next hb)
                have D11 := Lib.hid (D10.out.below hb)
                have E11 := Lib.hid hd
                clear hb hd HB10 GA10 GB10 FB10 D10 TC
                obtain ⟨da, dc, rfl, -, -⟩ := D11.out.sl
                have ed : (ivals D).length = 64 := by rw [show (ivals D).length = D.length from by simp [ivals]]; exact HL.out.2.2.1
                rw [ed] at D11 ⊢
                clear ed
                go_wp2_with fail
                refine (intsG D11.out E11.out).mono ?_
                rintro e w12 ⟨rfl, hb⟩
                have HB12 := Lib.hid (HB11.out.trans (hb.mono HB11.out.size))
                have FB12 := Lib.hid (FB11.out.next hb)
                have D12 := Lib.hid (D11.out.below hb)
                clear hb HB11 FB11 D11 E11
                have HS' : S' ≤ 64 := by omega
                go_wp2_with fail
                go_loopw [24, 25] (fun i _ wr => ∃ s : Nat, s ≤ S' ∧ i = .int .i64 s ∧ ∃ q, wr = w12.drewN q) (fun i _ _ => S' - (intOf i).toNat)
                case atStart => exact ⟨0, Nat.zero_le _, rfl, 0, rfl⟩
                case round =>
                  obtain ⟨s, hs, rfl, q, hq⟩ := hrel
                  obtain ⟨wq, rfl⟩ : ∃ wq : World, wq = wr := ⟨_, rfl⟩
                  obtain ⟨c0, c1, c2, -, -, -, l1⟩ := three_cells FB12.out.blk
                  have k2 : wq.cell? ⟨fb, 2, none⟩ = some (.slice fa S' fc) := by rw [hq]; exact c2
                  by_cases hlt : s < S'
                  · obtain ⟨hC, hcb⟩ := HV.out s hlt
                    obtain ⟨-, b1, o1, rfl, -, g1⟩ := D12.out.sl.at (by omega)
                    obtain ⟨hl2, b2, o2, rfl, -, g2⟩ := FB12.out.smp.sl.at (by omega)
                    have hCl : s < C.length := by simp only [cvals, List.length_map] at hl2; omega
                    have kd : wq.cell? ⟨b1, o1 + s, none⟩ = some (.int .i64 (D.getD s 0)) := by rw [hq]; exact g1 s _ (ivals_get (by have := HL.out.2.2.1; omega))
                    have kf : wq.cell? ⟨b2, o2 + s, none⟩ = some (.complex .f64 (C.getD s (0, 0)).1 (C.getD s (0, 0)).2) := by rw [hq]; exact g2 s _ (cvals_get hCl)
                    rw [hC] at kf
                    have oX := order_same (n := sgnP (D.getD s 0)) (by omega)
                    have oZ := order_same (n := 0) (by decide)
                    have CSum := Lib.hid (fun w => Sum_any (sgnP (D.getD s 0)) 0 w)
                    obtain ⟨b3, b4⟩ := bD.out s
                    have HQ := Lib.hid hq
                    generalize enc Ieee.double (sgnP (D.getD s 0)) = X0 at *
                    generalize enc Ieee.double 0 = Z0 at *
                    have hsg : (499122176 < D.getD s 0 ∧ sgnP (D.getD s 0) = D.getD s 0 - 998244353) ∨ (¬ 499122176 < D.getD s 0 ∧ sgnP (D.getD s 0) = D.getD s 0) := by
                      unfold sgnP
                      by_cases h : 499122176 < D.getD s 0
                      · exact .inl ⟨h, by rw [if_pos h]⟩
                      · exact .inr ⟨h, by rw [if_neg h]⟩
                    generalize sgnP (D.getD s 0) = sg at *
                    generalize D.getD s 0 = ds at *
                    clear g1 g2 hC hcb hl2 hCl hq c0 c1 c2
                    rcases hsg with ⟨hgt, rfl⟩ | ⟨hgt, rfl⟩
                    all_goals
                      go_wp2_with fail
                      go_quiet ((go_at_call 54; exact Calls.quiet_of_same ((CSum.out _).mono fun e w' ⟨h1, h2⟩ => ⟨h1, h2.symm⟩)))
                      go_wp2_with fail
                      go_roundw
                      case rel => exact ⟨s + 1, by omega, by go_num, _, by rw [HQ.out, World.drewN_drewN]⟩
                      case measure => simp [intOf]; omega
                  · go_wp2_with fail
                    go_ret
                    exact ⟨rfl, by first | exact HB12.out.trans (below_drewN' _ _ _) | (rw [hq]; exact HB12.out.trans (below_drewN' _ _ _))⟩
          · rw [Bool.not_eq_true] at hs
            rw [hs]
            clear hs hxs hys IK I HYs GA GB SI SC
            go_wp2_with fail
            go_ret
            exact ⟨rfl, HBz.out⟩
end Go.Proofs.YtmmmaanflmgblaaDoor
