import Derived.Test.YtmiaglkkjncfnaaDoorMd
namespace Go.Proofs.YtmiaglkkjncfnaaDoor
open Go.RowKit Go.Proofs.YtmiaglkkjncfnaaDoor.Flt

/-- what lies at a line and a sample of a shifted image -/
theorem shAt_at (zs : List (Nat × Nat)) {L S l s : Nat} (a b : Int) (_hS : 0 < S) (_hl : l < L) (hs : s < S) :
    (∀ u v : Nat, (l : Int) - a = u → (s : Int) - b = v → u < L → v < S → shAt zs L S a b (L * S) (l * S + s) = (enc Ieee.single (re .f32 zs (u * S + v)), enc Ieee.single (im .f32 zs (u * S + v))) ∧ u * S + v < L * S) ∧
    (¬ (0 ≤ (l : Int) - a ∧ (l : Int) - a ≤ L - 1) ∨ ¬ (0 ≤ (s : Int) - b ∧ (s : Int) - b ≤ S - 1) → shAt zs L S a b (L * S) (l * S + s) = (0, 0)) := by
  obtain ⟨d1, d2⟩ := div_mod_mk (q := l) (r := s) (S := S) hs
  constructor
  · intro u v hu hv huL hvS
    have hj : u * S + v < L * S := by
      have : u * S + S ≤ L * S := by rw [← Nat.succ_mul]; exact Nat.mul_le_mul_right _ huL
      omega
    refine ⟨?_, hj⟩
    unfold shAt shSrc
    rw [d1, d2, if_pos (by omega)]
    have e1 : ((l : Int) - a).toNat = u := by omega
    have e2 : ((s : Int) - b).toNat = v := by omega
    rw [e1, e2]
    dsimp only
    rw [if_pos hj]
  · intro h
    unfold shAt shSrc
    rw [d1, d2, if_neg (by omega)]

set_option maxRecDepth 100000 in
set_option maxHeartbeats 8000000 in
/-- THE REFERENCE's SHIFT -/
theorem refShifted_ok (L S : Nat) (iv : Value) (zs : List (Nat × Nat)) (a b : Int) (w : World) (hiv : Sl w iv (cvals .f32 zs)) (hL : L ≤ 64) (hS1 : 1 ≤ S) (hS : S ≤ 64) (hlz : zs.length = L * S) (RZ : Right .f32 2047 zs) (ha : -64 ≤ a ∧ a ≤ 64) (hb : -64 ≤ b ∧ b ≤ 64) :
    Calls Tryd.prog 22 #[.agg #[.int .i64 L, .int .i64 S, iv], .agg #[.int .i64 a, .int .i64 b]] w (ImgR L S (shList zs L S a b (L * S)) w) := by
  have HIV := Lib.hid hiv
  obtain ⟨iad, icap, rfl, hil, -⟩ := hiv
  obtain ⟨n, hn⟩ : ∃ n, n = L * S := ⟨_, rfl⟩
  have e1 : (cvals .f32 zs).length = n := by simp [cvals, hlz, hn]
  rw [e1] at hil HIV ⊢
  have hn4 : n ≤ 4096 := by rw [hn]; exact Nat.le_trans (Nat.mul_le_mul hL hS) (by decide)
  have HN : Hid (zs.length = n) := by rw [Hid, hlz, hn]
  have HLS := Lib.hid hn
  obtain ⟨C, hC⟩ : ∃ C, C = shList zs L S a b (L * S) := ⟨_, rfl⟩
  rw [← hC]
  have HCl : Hid (C.length = n) := by rw [Hid, hC, shList_length, hn]
  have HG : Hid (∀ l s, l < L → s < S → l * S + s < n ∧ C.getD (l * S + s) (0, 0) = shAt zs L S a b (L * S) (l * S + s)) := fun l s h1 h2 => by
    have h3 : l * S + S ≤ L * S := by rw [← Nat.succ_mul]; exact Nat.mul_le_mul_right _ h1
    exact ⟨by omega, by rw [hC]; exact shList_get zs L S a b _ _ (by omega)⟩
  have HR := Lib.hid RZ
  obtain ⟨i0, hi, hz0, hz1, hz2⟩ := info_parts info79k
  have HI := Lib.hid (And.intro hi (And.intro hz0 (And.intro hz1 hz2)))
  have HE0 : Hid (enc Ieee.single 0 = 0) := enc_zero _
  clear hn hlz e1 RZ hi hz0 hz1 hz2 hC
  obtain ⟨W0, hW0⟩ : ∃ W0, W0 = (((w.alloc (.cells #[.int .i64 L, .int .i64 S, .slice iad n icap] 50)).alloc (.cells #[.int .i64 a, .int .i64 b] 59)).alloc (.cells #[.int .i64 0, .int .i64 0, .slice none 0 0] 50)).alloc (.cells #[.int .i64 L, .int .i64 S, .slice none 0 0] 50) := ⟨_, rfl⟩
  obtain ⟨a0, a1, a2, a3⟩ := alloc4_blocks w (.cells #[.int .i64 L, .int .i64 S, .slice iad n icap] 50) (.cells #[.int .i64 a, .int .i64 b] 59) (.cells #[.int .i64 0, .int .i64 0, .slice none 0 0] 50) (.cells #[.int .i64 L, .int .i64 S, .slice none 0 0] 50)
  have hb0 := below_new4 w (.cells #[.int .i64 L, .int .i64 S, .slice iad n icap] 50) (.cells #[.int .i64 a, .int .i64 b] 59) (.cells #[.int .i64 0, .int .i64 0, .slice none 0 0] 50) (.cells #[.int .i64 L, .int .i64 S, .slice none 0 0] 50)
  rw [← hW0] at a0 a1 a2 a3 hb0
  have HA0 := Lib.hid (And.intro a0 (And.intro a1 a2))
  have I0 : Hid (BuInv (w.heap.size + 1 + 1 + 1) L S C W0 w 0 (.slice none 0 0) W0) := ⟨fun i _ => rfl, a3, hb0, World.ownsRow_nil _ _ _ _⟩
  have HW0 := Lib.hid hW0
  clear a0 a1 a2 a3 hb0 hW0
  go_enter Tryd.func22, Tryd.ntmps22
  go_wp2_with fail
  rw [← HW0.out]
  go_loopw [6] (fun i wr => ∃ (l : Nat) (v : Value), l ≤ L ∧ i = .int .i64 l ∧ Hid (BuInv (w.heap.size + 1 + 1 + 1) L S C W0 w (l * S) v wr)) (fun i _ => L - (intOf i).toNat)
  case atStart => exact ⟨0, _, Nat.zero_le _, rfl, by rw [Nat.zero_mul]; exact I0⟩
  case round =>
    clear I0
    obtain ⟨l, v0, hl, rfl, IK⟩ := hrel
    obtain ⟨wo, rfl⟩ : ∃ wo : World, wo = wr := ⟨_, rfl⟩
    have A0 := (IK.out.hk w.heap.size (by omega)).trans HA0.out.1
    obtain ⟨c0, c1, c2, -, -, -, l0⟩ := three_cells A0
    clear A0
    by_cases hlt : l < L
    · go_wp2_with fail
      go_loopw [7] (fun i wr => ∃ (s : Nat) (v : Value), s ≤ S ∧ i = .int .i64 s ∧ Hid (BuInv (w.heap.size + 1 + 1 + 1) L S C W0 w (l * S + s) v wr)) (fun i _ => S - (intOf i).toNat)
      case atStart => exact ⟨0, v0, Nat.zero_le _, rfl, IK⟩
      case round =>
        clear IK c0 c1 c2 l0
        obtain ⟨s, v, hs, rfl, IS⟩ := hrel
        obtain ⟨wz, rfl⟩ : ∃ wz : World, wz = wr := ⟨_, rfl⟩
        have A0 := (IS.out.hk w.heap.size (by omega)).trans HA0.out.1
        have A1' := (IS.out.hk (w.heap.size + 1) (by omega)).trans HA0.out.2.1
        obtain ⟨c0, c1, c2, -, -, -, l0⟩ := three_cells A0
        obtain ⟨k0, k1, -, -, l1⟩ := two_cells A1'
        obtain ⟨x0, x1, x2, y0, y1, y2, l2⟩ := three_cells IS.out.h2
        clear A0 A1'
        by_cases hlt2 : s < S
        · obtain ⟨ht4, hg⟩ := HG.out l s hlt hlt2
          obtain ⟨hv1, hv2⟩ := shAt_at zs a b hS1 hlt hlt2
          have HV1 := Lib.hid hv1
          have HV2 := Lib.hid hv2
          have HGt := Lib.hid hg
          obtain ⟨t, ht⟩ : ∃ t, t = l * S + s := ⟨_, rfl⟩
          rw [← ht] at HV1 HV2 HGt IS ht4
          have HTE := Lib.hid ht
          have HT : Hid (t < C.length) := by rw [Hid, HCl.out]; exact ht4
          have CW1 := Lib.hid (fun w => Within_any ((l : Int) - a) 0 ((L : Int) - 1) w)
          have CW2 := Lib.hid (fun w => Within_any ((s : Int) - b) 0 ((S : Int) - 1) w)
          have hcase : (¬ (0 ≤ (l : Int) - a ∧ (l : Int) - a ≤ (L : Int) - 1) ∧ Hid (C.getD t (0, 0) = (0, 0))) ∨ ((0 ≤ (l : Int) - a ∧ (l : Int) - a ≤ (L : Int) - 1) ∧ ¬ (0 ≤ (s : Int) - b ∧ (s : Int) - b ≤ (S : Int) - 1) ∧ Hid (C.getD t (0, 0) = (0, 0))) ∨ ((0 ≤ (l : Int) - a ∧ (l : Int) - a ≤ (L : Int) - 1) ∧ (0 ≤ (s : Int) - b ∧ (s : Int) - b ≤ (S : Int) - 1)) := by
            by_cases h1 : 0 ≤ (l : Int) - a ∧ (l : Int) - a ≤ (L : Int) - 1
            · by_cases h2 : 0 ≤ (s : Int) - b ∧ (s : Int) - b ≤ (S : Int) - 1
              · exact .inr (.inr ⟨h1, h2⟩)
              · exact .inr (.inl ⟨h1, h2, HGt.out.trans (HV2.out (.inr h2))⟩)
            · exact .inl ⟨h1, HGt.out.trans (HV2.out (.inl h1))⟩
          clear ht hv1 hv2 hg HV2
          rcases hcase with ⟨w1, HC0⟩ | ⟨w1, w2, HC0⟩ | ⟨w1, w2⟩
          · rw [decide_eq_false w1] at CW1
            clear w1 HV1 HGt
            have CSm := Lib.hid (fun w => Sample_any 0 0 (by decide) (by decide) w)
            rw [HE0.out] at CSm
            have HC := HC0
            have A1 : Hid (((wz.alloc (.cells #[.complex .f32 0 0] 70)).drew).ownsRow (w.heap.size + 1 + 1 + 1 + 1) 70 1 v t (cvals .f32 (C.take t))) := IS.out.ho.alloc _
            have A2 : Hid (∀ (j : Nat) (u : Value), [Value.complex .f32 0 0][j]? = some u → ((wz.alloc (.cells #[.complex .f32 0 0] 70)).drew).cell? ((⟨wz.heap.size, 0, none⟩ : Addr).add j) = some u) := cell1_new _ _ _
            have A3 : Hid (∀ u ∈ [Value.complex .f32 0 0], u.oneCell' = true) := by intro u hu; simp at hu; rw [hu]; rfl
            have A4 : Hid (t + 1 ≤ maxLen) := by unfold Hid maxLen; omega
            have A5 : Hid ((t + 1) * 8 ≤ 140737488355328) := by unfold Hid; omega
            have A6 : Hid (w.heap.size + 1 + 1 + 1 + 1 ≤ ((wz.alloc (.cells #[.complex .f32 0 0] 70)).drew).heap.size) := by have := lt_of_block IS.out.h2; unfold Hid; simp [World.drew]; omega
            have A7 : Hid (((wz.alloc (.cells #[.complex .f32 0 0] 70)).drew).heap.size = wz.heap.size + 1) := by unfold Hid; simp [World.drew]
            go_wp2_with fail
            refine (CW1.out _).mono ?_
            rintro e w' ⟨rfl, rfl⟩
            go_wp2_with fail
            go_region_law ((first | (go_simp; go_at_call 53; refine (CSm.out _).mono ?_; rintro e w' ⟨rfl, rfl⟩) | (refine step_append_lies _ rfl (.tmp 66) (.tmp 70) 48 rfl (w.heap.size + 1 + 1 + 1 + 1) 70 i0 (.complex .f32 0 0) 1 8 Tryd.underlying48 HI.out.1 HI.out.2.1 HI.out.2.2.1 HI.out.2.2.2 rfl Nat.zero_lt_one v t (cvals .f32 (C.take t)) rfl A1.out ⟨wz.heap.size, 0, none⟩ 1 1 [.complex .f32 0 0] rfl rfl A2.out A3.out Nat.zero_lt_one A4.out A5.out A6.out (wz.heap.size + 1) A7.out ?_; intro g cap' w' hown' hgrow hor hlt'; have HA := Lib.hid (IS.out.after (by omega) (W := (wz.alloc (.cells #[.complex .f32 0 0] 70)).drew) (.cells #[.complex .f32 0 0] 70) rfl rfl rfl rfl hgrow); have HO := Lib.hid hown'; obtain ⟨b0, b1, b2, b3, b4, b5, b6⟩ := three_cells HA.out.2.1; clear hown' hgrow hor)))
            all_goals
              go_wp2_with fail
              go_roundw
              case rel =>
                refine ⟨s + 1, .slice (some ⟨g, 0, none⟩) (t + 1) cap', by omega, by go_num, ?_⟩
                have := BuInv.next HA.out (by omega) HO.out HT.out HC.out
                rw [show l * S + (s + 1) = t + 1 from by have := HTE.out; omega]
                exact this
              case measure => simp [intOf]; omega
          · rw [decide_eq_true w1] at CW1
            rw [decide_eq_false w2] at CW2
            clear w1 w2 HV1 HGt
            have CSm := Lib.hid (fun w => Sample_any 0 0 (by decide) (by decide) w)
            rw [HE0.out] at CSm
            have HC := HC0
            have A1 : Hid (((wz.alloc (.cells #[.complex .f32 0 0] 70)).drew).ownsRow (w.heap.size + 1 + 1 + 1 + 1) 70 1 v t (cvals .f32 (C.take t))) := IS.out.ho.alloc _
            have A2 : Hid (∀ (j : Nat) (u : Value), [Value.complex .f32 0 0][j]? = some u → ((wz.alloc (.cells #[.complex .f32 0 0] 70)).drew).cell? ((⟨wz.heap.size, 0, none⟩ : Addr).add j) = some u) := cell1_new _ _ _
            have A3 : Hid (∀ u ∈ [Value.complex .f32 0 0], u.oneCell' = true) := by intro u hu; simp at hu; rw [hu]; rfl
            have A4 : Hid (t + 1 ≤ maxLen) := by unfold Hid maxLen; omega
            have A5 : Hid ((t + 1) * 8 ≤ 140737488355328) := by unfold Hid; omega
            have A6 : Hid (w.heap.size + 1 + 1 + 1 + 1 ≤ ((wz.alloc (.cells #[.complex .f32 0 0] 70)).drew).heap.size) := by have := lt_of_block IS.out.h2; unfold Hid; simp [World.drew]; omega
            have A7 : Hid (((wz.alloc (.cells #[.complex .f32 0 0] 70)).drew).heap.size = wz.heap.size + 1) := by unfold Hid; simp [World.drew]
            go_wp2_with fail
            refine (CW1.out _).mono ?_
            rintro e w' ⟨rfl, rfl⟩
            go_wp2_with fail
            refine (CW2.out _).mono ?_
            rintro e w' ⟨rfl, rfl⟩
            go_wp2_with fail
            go_region_law ((first | (go_simp; go_at_call 53; refine (CSm.out _).mono ?_; rintro e w' ⟨rfl, rfl⟩) | (refine step_append_lies _ rfl (.tmp 66) (.tmp 70) 48 rfl (w.heap.size + 1 + 1 + 1 + 1) 70 i0 (.complex .f32 0 0) 1 8 Tryd.underlying48 HI.out.1 HI.out.2.1 HI.out.2.2.1 HI.out.2.2.2 rfl Nat.zero_lt_one v t (cvals .f32 (C.take t)) rfl A1.out ⟨wz.heap.size, 0, none⟩ 1 1 [.complex .f32 0 0] rfl rfl A2.out A3.out Nat.zero_lt_one A4.out A5.out A6.out (wz.heap.size + 1) A7.out ?_; intro g cap' w' hown' hgrow hor hlt'; have HA := Lib.hid (IS.out.after (by omega) (W := (wz.alloc (.cells #[.complex .f32 0 0] 70)).drew) (.cells #[.complex .f32 0 0] 70) rfl rfl rfl rfl hgrow); have HO := Lib.hid hown'; obtain ⟨b0, b1, b2, b3, b4, b5, b6⟩ := three_cells HA.out.2.1; clear hown' hgrow hor)))
            all_goals
              go_wp2_with fail
              go_roundw
              case rel =>
                refine ⟨s + 1, .slice (some ⟨g, 0, none⟩) (t + 1) cap', by omega, by go_num, ?_⟩
                have := BuInv.next HA.out (by omega) HO.out HT.out HC.out
                rw [show l * S + (s + 1) = t + 1 from by have := HTE.out; omega]
                exact this
              case measure => simp [intOf]; omega
          · rw [decide_eq_true w1] at CW1
            rw [decide_eq_true w2] at CW2
            obtain ⟨un, hu⟩ : ∃ un : Nat, (l : Int) - a = un := ⟨((l : Int) - a).toNat, by omega⟩
            obtain ⟨vn, hv⟩ : ∃ vn : Nat, (s : Int) - b = vn := ⟨((s : Int) - b).toNat, by omega⟩
            obtain ⟨hval, hjn⟩ := HV1.out un vn hu hv (by omega) (by omega)
            rw [← HLS.out] at hjn
            have hjz : un * S + vn < zs.length := by have := HN.out; omega
            have HC0 := Lib.hid (HGt.out.trans hval)
            obtain ⟨-, b1, o1, rfl, q1, h1⟩ := HIV.out.at (by omega)
            have d1 : wz.cell? ⟨b1, o1 + (un * S + vn), none⟩ = some (.complex .f32 (zs.getD (un * S + vn) (0, 0)).1 (zs.getD (un * S + vn) (0, 0)).2) := (IS.out.hb.cell (p := ⟨b1, o1 + (un * S + vn), none⟩) q1).trans (h1 _ _ (cvals_get hjz))
            obtain ⟨ra1, ra2, ra3, ra4⟩ := HR.out (un * S + vn) hjz
            have CP1 := Lib.hid (fun w => refParts_any _ _ _ _ ra1 ra2 (by omega) (by omega) w)
            have CSm := Lib.hid (fun w => Sample_any (re .f32 zs (un * S + vn)) (im .f32 zs (un * S + vn)) (by omega) (by omega) w)
            have hpp4 : un * S ≤ 4096 := by omega
            obtain ⟨pp, hpp⟩ : ∃ pp, pp = un * S := ⟨_, rfl⟩
            have HPP : Hid ((un : Int) * (S : Int) = (pp : Int)) := by rw [Hid, hpp, Int.natCast_mul]
            rw [← hpp] at d1 CP1 CSm HC0 hjn hpp4
            obtain ⟨jn, hjj⟩ : ∃ jn, jn = pp + vn := ⟨_, rfl⟩
            rw [← hjj] at d1 CP1 CSm HC0 hjn
            have hj5 : (pp : Int) + (s : Int) - b = (jn : Int) := by omega
            have hun : un < 64 := by omega
            generalize (zs.getD jn (0, 0)).1 = z1 at *
            generalize (zs.getD jn (0, 0)).2 = z2 at *
            generalize enc Ieee.single (re .f32 zs jn) = X at *
            generalize enc Ieee.single (im .f32 zs jn) = Y at *
            generalize re .f32 zs jn = r1 at *
            generalize im .f32 zs jn = r2 at *
            have HC := HC0
            have HU := Lib.hid hu
            clear w1 w2 HV1 HGt hval hjz ra1 ra2 ra3 ra4 h1 q1 hv hpp hjj hu
            have A1 : Hid (((wz.alloc (.cells #[.complex .f32 X Y] 70)).drew).ownsRow (w.heap.size + 1 + 1 + 1 + 1) 70 1 v t (cvals .f32 (C.take t))) := IS.out.ho.alloc _
            have A2 : Hid (∀ (j : Nat) (u : Value), [Value.complex .f32 X Y][j]? = some u → ((wz.alloc (.cells #[.complex .f32 X Y] 70)).drew).cell? ((⟨wz.heap.size, 0, none⟩ : Addr).add j) = some u) := cell1_new _ _ _
            have A3 : Hid (∀ u ∈ [Value.complex .f32 X Y], u.oneCell' = true) := by intro u hu; simp at hu; rw [hu]; rfl
            have A4 : Hid (t + 1 ≤ maxLen) := by unfold Hid maxLen; omega
            have A5 : Hid ((t + 1) * 8 ≤ 140737488355328) := by unfold Hid; omega
            have A6 : Hid (w.heap.size + 1 + 1 + 1 + 1 ≤ ((wz.alloc (.cells #[.complex .f32 X Y] 70)).drew).heap.size) := by have := lt_of_block IS.out.h2; unfold Hid; simp [World.drew]; omega
            have A7 : Hid (((wz.alloc (.cells #[.complex .f32 X Y] 70)).drew).heap.size = wz.heap.size + 1) := by unfold Hid; simp [World.drew]
            go_wp2_with fail
            refine (CW1.out _).mono ?_
            rintro e w' ⟨rfl, rfl⟩
            go_wp2_with fail
            refine (CW2.out _).mono ?_
            rintro e w' ⟨rfl, rfl⟩
            have hu := HU.out
            have hp5 := HPP.out
            go_wp2_with fail
            refine (CP1.out _).mono ?_
            rintro e w' ⟨rfl, rfl⟩
            clear hu hp5
            go_wp2_with fail
            go_region_law ((first | (go_simp; go_at_call 53; refine (CSm.out _).mono ?_; rintro e w' ⟨rfl, rfl⟩) | (refine step_append_lies _ rfl (.tmp 66) (.tmp 70) 48 rfl (w.heap.size + 1 + 1 + 1 + 1) 70 i0 (.complex .f32 0 0) 1 8 Tryd.underlying48 HI.out.1 HI.out.2.1 HI.out.2.2.1 HI.out.2.2.2 rfl Nat.zero_lt_one v t (cvals .f32 (C.take t)) rfl A1.out ⟨wz.heap.size, 0, none⟩ 1 1 [.complex .f32 X Y] rfl rfl A2.out A3.out Nat.zero_lt_one A4.out A5.out A6.out (wz.heap.size + 1) A7.out ?_; intro g cap' w' hown' hgrow hor hlt'; have HA := Lib.hid (IS.out.after (by omega) (W := (wz.alloc (.cells #[.complex .f32 X Y] 70)).drew) (.cells #[.complex .f32 X Y] 70) rfl rfl rfl rfl hgrow); have HO := Lib.hid hown'; obtain ⟨b0, b1, b2, b3, b4, b5, b6⟩ := three_cells HA.out.2.1; clear hown' hgrow hor)))
            all_goals
              go_wp2_with fail
              go_roundw
              case rel =>
                refine ⟨s + 1, .slice (some ⟨g, 0, none⟩) (t + 1) cap', by omega, by go_num, ?_⟩
                have := BuInv.next HA.out (by omega) HO.out HT.out HC.out
                rw [show l * S + (s + 1) = t + 1 from by have := HTE.out; omega]
                exact this
              case measure => simp [intOf]; omega
        · obtain rfl : s = S := by omega
          go_wp2_with fail
          go_roundw
          case rel => exact ⟨l + 1, v, by omega, by go_num, by rw [Nat.succ_mul]; exact IS⟩
          case measure => simp [intOf]; omega
    · obtain rfl : l = L := by omega
      obtain ⟨z0, z1, z2, u0, u1, u2, l3⟩ := three_cells ((IK.out.hk (w.heap.size + 1 + 1) (by omega)).trans HA0.out.2.2)
      obtain ⟨x0, x1, x2, y0, y1, y2, l2⟩ := three_cells IK.out.h2
      obtain ⟨va, vn, vc, rfl⟩ : ∃ va vn vc, v0 = .slice va vn vc := by
        rcases IK.out.ho.2 with ⟨h, -⟩ | ⟨g, cp, -, h, -⟩
        · exact ⟨_, _, _, h⟩
        · exact ⟨_, _, _, h⟩
      have HB := Lib.hid IK.out.hb
      have HO : Hid (wo.ownsRow (w.heap.size + 1 + 1 + 1 + 1) 70 1 (.slice va vn vc) n (cvals .f32 C)) := by
        have := IK.out.ho
        rw [← HLS.out, List.take_of_length_le (by have := HCl.out; omega)] at this
        exact this
      clear IK
      go_wp2_with fail
      refine bodyPost_ret (v := .agg #[.int .i64 l, .int .i64 S, .slice va vn vc]) (by simp [results, Tryd.results22, go_sem, z0, z1, z2]) rfl ⟨.slice va vn vc, rfl, Below.set3 HB.out (by omega) _ _ _, ⟨?_⟩⟩
      exact Sl.of_owns (sl_setCell (sl_setCell (sl_setCell HO.out ⟨w.heap.size + 1 + 1, 0, none⟩ _ (by show w.heap.size + 1 + 1 < _; omega)) ⟨w.heap.size + 1 + 1, 1, none⟩ _ (by show w.heap.size + 1 + 1 < _; omega)) ⟨w.heap.size + 1 + 1, 2, none⟩ _ (by show w.heap.size + 1 + 1 < _; omega)) (by omega)
end Go.Proofs.YtmiaglkkjncfnaaDoor
