import Derived.Test.YtmiaglkkjncfnaaDoorMb
namespace Go.Proofs.YtmiaglkkjncfnaaDoor
open Go.RowKit Go.Proofs.YtmiaglkkjncfnaaDoor.Flt

set_option maxRecDepth 100000 in
set_option maxHeartbeats 4000000 in
theorem Shifted_ok (L S : Nat) (iv : Value) (zs : List (Nat × Nat)) (a b : Int) (w : World) (hiv : Sl w iv (cvals .f32 zs)) (hL : L ≤ 64) (hS1 : 1 ≤ S) (hS : S ≤ 64) (hlz : zs.length = L * S) (RZ : Right .f32 2047 zs) (ha : -64 ≤ a ∧ a ≤ 64) (hb : -64 ≤ b ∧ b ≤ 64)
    (hez : (dataErr .f32 2047 L S zs).2 = 0) :
    Calls Tryd.prog 18 #[.agg #[.int .i64 L, .int .i64 S, iv], .agg #[.int .i64 a, .int .i64 b]] w (ImgE L S (shList zs L S a b (L * S)) 0 w) := by
  obtain ⟨W0, hW0⟩ : ∃ W0, W0 = ((w.alloc (.cells #[.int .i64 L, .int .i64 S, iv] 50)).alloc (.cells #[.int .i64 a, .int .i64 b] 59)).alloc (.cells #[.int .i64 0, .int .i64 0, .slice none 0 0] 50) := ⟨_, rfl⟩
  have hB0 : Below w.heap.size w W0 := by rw [hW0]; exact (((Below.refl _ _).alloc (Nat.le_refl _) _).alloc (by simp) _).alloc (by simp; omega) _
  have C1 := Lib.hid (CheckImage_any L S iv zs W0 ⟨by omega, by omega⟩ ⟨by omega, by omega⟩ (hiv.below hB0 (Nat.le_refl _)))
  rw [hez] at C1
  generalize (dataErr .f32 2047 (L : Int) S zs).1 = D1 at *
  have HIV := Lib.hid hiv
  obtain ⟨iad, icap, rfl, hil, -⟩ := hiv
  obtain ⟨n, hn⟩ : ∃ n, n = L * S := ⟨_, rfl⟩
  have e1 : (cvals .f32 zs).length = n := by simp [cvals, hlz, hn]
  rw [e1] at C1 hil HIV hW0 ⊢
  have hn4 : n ≤ 4096 := by rw [hn]; exact Nat.le_trans (Nat.mul_le_mul hL hS) (by decide)
  have HN : Hid (zs.length = n) := by rw [Hid, hlz, hn]
  have HLS := Lib.hid hn
  have CN := Lib.hid (fun W => newImage_any L S hL hS W)
  rw [← hn] at CN
  have B1 := Lib.hid (fun w => beyond64_any a w)
  have B2 := Lib.hid (fun w => beyond64_any b w)
  rw [decide_eq_false (by omega)] at B1 B2
  have HR := Lib.hid RZ
  obtain ⟨a0, a1, a2⟩ := alloc3_blocks w (.cells #[.int .i64 L, .int .i64 S, .slice iad n icap] 50) (.cells #[.int .i64 a, .int .i64 b] 59) (.cells #[.int .i64 0, .int .i64 0, .slice none 0 0] 50)
  rw [← hW0] at a0 a1 a2
  have HB0 := Lib.hid (And.intro hB0 (And.intro a0 (And.intro a1 a2)))
  have HW0 := Lib.hid hW0
  rw [← hn]
  clear hB0 a0 a1 a2 hW0 hn hlz e1 RZ hez
  go_enter Tryd.func18, Tryd.ntmps18
  go_wp2_with fail
  rw [← HW0.out]
  refine C1.out.mono ?_
  rintro e w2 ⟨rfl, hb2⟩
  have HB2 := Lib.hid (HB0.out.1.trans (hb2.mono HB0.out.1.size))
  have HN2 : Hid (w2.heap[w.heap.size]? = some (.cells #[.int .i64 L, .int .i64 S, .slice iad n icap] 50 (0, 0)) ∧ w2.heap[w.heap.size + 1]? = some (.cells #[.int .i64 a, .int .i64 b] 59 (0, 0)) ∧ w2.heap[w.heap.size + 1 + 1]? = some (.cells #[.int .i64 0, .int .i64 0, .slice none 0 0] 50 (0, 0))) :=
    ⟨(hb2.block _ (lt_of_block HB0.out.2.1)).trans HB0.out.2.1, (hb2.block _ (lt_of_block HB0.out.2.2.1)).trans HB0.out.2.2.1, (hb2.block _ (lt_of_block HB0.out.2.2.2)).trans HB0.out.2.2.2⟩
  clear hb2 HB0 HW0 C1
  obtain ⟨c0, c1, c2, -, -, -, l0⟩ := three_cells HN2.out.1
  obtain ⟨k0, k1, -, -, l1⟩ := two_cells HN2.out.2.1
  go_wp2_with fail
  refine (B1.out _).mono ?_
  rintro e w' ⟨rfl, rfl⟩
  go_wp2_with fail
  refine (B2.out _).mono ?_
  rintro e w' ⟨rfl, rfl⟩
  go_wp2_with fail
  refine (CN.out _).mono ?_
  rintro e w3 ⟨g, rfl, hg, hb3, hown⟩
  have hsz : w.heap.size + 1 + 1 < w2.heap.size := lt_of_block HN2.out.2.2
  have I0 : Hid (ShInv zs L S n a b iad icap w3.heap.size g w 0 (w3.alloc (.cells #[.int .i64 L, .int .i64 S, .slice (some ⟨g, 0, none⟩) n n] 50))) := by
    have hs3 := hb3.size
    have old : ∀ i, i ≤ w.heap.size + 1 + 1 → (w3.alloc (.cells #[.int .i64 L, .int .i64 S, .slice (some ⟨g, 0, none⟩) n n] 50)).heap[i]? = w2.heap[i]? := fun i hi =>
      (Below.heap_alloc _ _ _ (by omega)).trans (hb3.block i (by omega))
    refine ⟨(old _ (by omega)).trans HN2.out.1, (old _ (by omega)).trans HN2.out.2.1, (old _ (by omega)).trans HN2.out.2.2, heap_alloc_new _ _, ?_, ?_⟩
    · exact (HB2.out.trans (hb3.mono (by omega))).alloc (by omega) _
    · rw [shList_zero, ← HLS.out]
      obtain ⟨p1, p2⟩ := hown.alloc (.cells #[.int .i64 L, .int .i64 S, .slice (some ⟨g, 0, none⟩) n n] 50)
      refine ⟨p1, ?_⟩
      rcases p2 with p2 | ⟨g', cap, cur, p3, p4, p5⟩
      · exact .inl p2
      · exact .inr ⟨g', cap, cur, p3, by omega, p5⟩
  have HGN : Hid (w.heap.size + 1 + 1 < g) := Nat.lt_of_lt_of_le hsz hg
  have d0 := (three_cells I0.out.h0).2.2.1
  clear hb3 hown hg hsz HN2 HB2 c0 c1 c2 l0 k0 k1 l1 CN
  go_wp2_with fail
  go_loopw [39] (fun i wr => ∃ k : Nat, k ≤ n ∧ i = .int .i64 k ∧ Hid (ShInv zs L S n a b iad icap w3.heap.size g w k wr)) (fun i _ => n - (intOf i).toNat)
  case atStart => exact ⟨0, Nat.zero_le _, rfl, I0⟩
  case round =>
    obtain ⟨k, hk, rfl, IK⟩ := hrel
    clear I0 d0
    obtain ⟨wz, rfl⟩ : ∃ wz : World, wz = wr := ⟨_, rfl⟩
    obtain ⟨c0, c1, c2, -, -, -, l0⟩ := three_cells IK.out.h0
    obtain ⟨k0, k1, -, -, l1⟩ := two_cells IK.out.h1
    by_cases hlt : k < n
    · have hkz : k < zs.length := by have := HN.out; omega
      obtain ⟨-, b1, o1, rfl, q1, h1⟩ := HIV.out.at (by omega)
      have d1 : wz.cell? ⟨b1, o1 + k, none⟩ = some (.complex .f32 (zs.getD k (0, 0)).1 (zs.getD k (0, 0)).2) := (IK.out.hb.cell (p := ⟨b1, o1 + k, none⟩) q1).trans (h1 _ _ (cvals_get hkz))
      obtain ⟨ra1, ra2, ra3, ra4⟩ := HR.out k hkz
      have CPl := Lib.hid (fun w => plain_any _ _ _ _ ra1 ra2 (Nat.le_trans ra3 (by decide)) (Nat.le_trans ra4 (by decide)) w)
      have hkn : k < L * S := by rw [← HLS.out]; exact hlt
      have HNo : Hid (shDst L S a b k = none → shList zs L S a b (k + 1) = shList zs L S a b k) := fun h => shList_none (by omega) hkn h
      have HSo : Hid (∀ d, shDst L S a b k = some d → cvals .f32 (shList zs L S a b (k + 1)) = (cvals .f32 (shList zs L S a b k)).set d (.complex .f32 (enc Ieee.single (re .f32 zs k)) (enc Ieee.single (im .f32 zs k)))) := fun d h => shList_some (by omega) hkn h
      have HLt : Hid (∀ d, shDst L S a b k = some d → d < n) := fun d h => by rw [HLS.out]; exact shDst_lt h
      have HDf : Hid (shDst L S a b k = if 0 ≤ ((k / S : Nat) : Int) + a ∧ ((k / S : Nat) : Int) + a < L ∧ 0 ≤ ((k % S : Nat) : Int) + b ∧ ((k % S : Nat) : Int) + b < S then some ((((k / S : Nat) : Int) + a).toNat * S + (((k % S : Nat) : Int) + b).toNat) else none) := rfl
      have hq1 : k / S < 4097 := Nat.lt_of_le_of_lt (Nat.div_le_self _ _) (by omega)
      have hq2 : k % S < S := Nat.mod_lt _ (by omega)
      have HM : Hid ((k : Int) / S = ((k / S : Nat) : Int) ∧ (k : Int) % S = ((k % S : Nat) : Int)) := ⟨by rw [Int.natCast_ediv], by rw [Int.natCast_emod]⟩
      obtain ⟨kq, hkq⟩ : ∃ x, x = k / S := ⟨_, rfl⟩
      obtain ⟨kr, hkr⟩ : ∃ x, x = k % S := ⟨_, rfl⟩
      rw [← hkq] at hq1
      rw [← hkr] at hq2
      rw [← hkq, ← hkr] at HM HDf
      clear hkq hkr
      have m3 : IntKind.i64.wrap ((kq : Int) + a) = (kq : Int) + a := IntWalk.i64_in _ ⟨by omega, by omega⟩
      have m4 : IntKind.i64.wrap ((kr : Int) + b) = (kr : Int) + b := IntWalk.i64_in _ ⟨by omega, by omega⟩
      have m5 : IntKind.i64.wrap (kq : Int) = (kq : Int) := IntWalk.i64_in _ ⟨by omega, by omega⟩
      have m6 : wrap64 (kq : Int) = (kq : Int) := IntWalk.wrap64_in _ ⟨by omega, by omega⟩
      have hS0 : ¬ S = 0 := by omega
      generalize (zs.getD k (0, 0)).1 = z1 at *
      generalize (zs.getD k (0, 0)).2 = z2 at *
      generalize enc Ieee.single (re .f32 zs k) = PX at *
      generalize enc Ieee.single (im .f32 zs k) = PY at *
      clear ra1 ra2 ra3 ra4 h1 hkz hkn
      have m0 := HM.out.1
      have m2 := HM.out.2
      go_wp2_with fail
      go_quiet (fail)
      obtain ⟨wy, hwy⟩ : ∃ wy, wy = wz.drewN nq := ⟨_, rfl⟩
      have IY : Hid (ShInv zs L S n a b (some ⟨b1, o1, none⟩) icap w3.heap.size g w k wy) := by rw [hwy]; exact IK.out.drewN _
      rw [← hwy]
      clear hwy IK c0 c1 c2 l0 k0 k1 l1 m0 m2 HM m5 m6 d1
      obtain ⟨c0, c1, c2, -, -, -, l0⟩ := three_cells IY.out.h0
      obtain ⟨g0, g1, g2, -, -, -, l3⟩ := three_cells IY.out.h3
      obtain ⟨X, hX⟩ : ∃ X, X = (kq : Int) + a := ⟨_, rfl⟩
      obtain ⟨Y, hY⟩ : ∃ Y, Y = (kr : Int) + b := ⟨_, rfl⟩
      rw [← hX, ← hY]
      rw [← hX, ← hY] at HDf
      clear m3 m4
      by_cases hin : 0 ≤ X ∧ X < L ∧ 0 ≤ Y ∧ Y < S
      · obtain ⟨h1, h2, h3, h4⟩ := hin
        have HD := Lib.hid (HDf.out.trans (if_pos ⟨h1, h2, h3, h4⟩))
        obtain ⟨xn, rfl⟩ : ∃ xn : Nat, X = xn := ⟨X.toNat, by omega⟩
        obtain ⟨yn, rfl⟩ : ∃ yn : Nat, Y = yn := ⟨Y.toNat, by omega⟩
        rw [Int.toNat_natCast, Int.toNat_natCast] at HD
        have hdn := HLt.out _ HD.out
        have HS2 := Lib.hid (HSo.out _ HD.out)
        obtain ⟨pp, hpp⟩ : ∃ x, x = xn * S := ⟨_, rfl⟩
        have HPP := Lib.hid hpp
        rw [← hpp] at hdn HS2
        clear hpp hX hY HD HDf HNo HSo HLt
        have hxl : xn < L := by omega
        have hyl : yn < S := by omega
        have t1 : decide (xn < L) = true := decide_eq_true hxl
        have t2 : decide (yn < S) = true := decide_eq_true hyl
        have t3 : (0 : Int) ≤ (xn : Int) := by omega
        have t4 : (0 : Int) ≤ (yn : Int) := by omega
        obtain ⟨d, hd⟩ : ∃ x, x = pp + yn := ⟨_, rfl⟩
        rw [← hd] at hdn HS2
        have r1 : (pp : Int) + (yn : Int) = (d : Int) := by omega
        have r2 : IntKind.i64.wrap (d : Int) = (d : Int) := IntWalk.i64_in _ ⟨by omega, by omega⟩
        have r3 : IntKind.i64.wrap (pp : Int) = (pp : Int) := IntWalk.i64_in _ ⟨by omega, by omega⟩
        have r5 : IntKind.i64.wrap ((pp : Int) + (yn : Int)) = (d : Int) := by rw [r1]; exact r2
        have hdi : (d : Int) < n := by omega
        have hd0 : (0 : Int) ≤ (d : Int) := by omega
        have l4 := (IY.out.ho.lt g rfl).2
        obtain ⟨old, hold, hoc⟩ : ∃ old, (cvals .f32 (shList zs L S a b k))[d]? = some old ∧ old.oneCell' = true := by
          have hlen : d < (shList zs L S a b k).length := by rw [shList_length, ← HLS.out]; exact hdn
          exact ⟨_, cvals_get hlen, rfl⟩
        have c4 : wy.cell? ⟨g, d, none⟩ = some old := (IY.out.ho.cellAt d (by omega)).trans hold
        have c5 : wy.frozen? ⟨g, d, none⟩ = false := IY.out.ho.frozenAt d
        have hGg := IY.out.ne
        have hGg' : g ≠ w3.heap.size := fun h => hGg h.symm
        have hgn := HGN.out
        have HIN : Hid (ShInv zs L S n a b (some ⟨b1, o1, none⟩) icap w3.heap.size g w (k + 1) (wy.drew.setCell ⟨g, d, none⟩ (.complex .f32 PX PY))) := IY.out.next (q := 1) hGg hgn HS2.out
        have hst : (store ⟨g, d, none⟩ (.complex .f32 PX PY)).run Tryd.prog wy.drew = .ok () (wy.drew.setCell ⟨g, d, none⟩ (.complex .f32 PX PY)) := run_store_ok (u := old) _ _ rfl c4 c5
        have c6 : wy.drew.cell? ⟨g, d, none⟩ = some old := c4
        have c7 : wy.drew.frozen? ⟨g, d, none⟩ = false := c5
        have hn1 : g ≠ w.heap.size := by omega
        have r4 : (xn : Int) * (S : Int) = (pp : Int) := by rw [HPP.out, Int.natCast_mul]
        clear hgn q1 hd HS2 hold IY
        go_wp2_with fail
        go_region_held3 (fun W => W.cell? ⟨w3.heap.size, 2, none⟩ = some (.slice (some ⟨g, 0, none⟩) n n) ∧ W.cell? ⟨w.heap.size, 1, none⟩ = some (.int .i64 S)) (go_keep) (first | (go_at_call 42; refine (CPl.out _).mono ?_; rintro e w' ⟨rfl, rfl⟩))
        go_wp2_with fail
        go_roundw
        case rel => exact ⟨k + 1, by omega, by go_num, HIN.out⟩
        case measure => simp [intOf]; omega
      · have HN2 := Lib.hid (HNo.out (HDf.out.trans (if_neg hin)))
        have hcs : (decide (0 ≤ X) = false) ∨ (decide (0 ≤ X) = true ∧ decide (X < (L : Int)) = false) ∨ (decide (0 ≤ X) = true ∧ decide (X < (L : Int)) = true ∧ decide (0 ≤ Y) = false) ∨ (decide (0 ≤ X) = true ∧ decide (X < (L : Int)) = true ∧ decide (0 ≤ Y) = true ∧ decide (Y < (S : Int)) = false) := by
          by_cases h1 : 0 ≤ X
          · by_cases h2 : X < L
            · by_cases h3 : 0 ≤ Y
              · exact .inr (.inr (.inr ⟨decide_eq_true h1, decide_eq_true h2, decide_eq_true h3, decide_eq_false (fun h4 => hin ⟨h1, h2, h3, h4⟩)⟩))
              · exact .inr (.inr (.inl ⟨decide_eq_true h1, decide_eq_true h2, decide_eq_false h3⟩))
            · exact .inr (.inl ⟨decide_eq_true h1, decide_eq_false h2⟩)
          · exact .inl (decide_eq_false h1)
        have IN : Hid (ShInv zs L S n a b (some ⟨b1, o1, none⟩) icap w3.heap.size g w (k + 1) wy) := ⟨IY.out.h0, IY.out.h1, IY.out.h2, IY.out.h3, IY.out.hb, by rw [HN2.out]; exact IY.out.ho⟩
        clear hin HN2 HDf HNo HSo HLt hX hY IY
        rcases hcs with t1 | ⟨t1, t2⟩ | ⟨t1, t2, t3⟩ | ⟨t1, t2, t3, t4⟩
        all_goals
          go_wp2_with fail
          go_roundw
          case rel => exact ⟨k + 1, by omega, by go_num, IN.out⟩
          case measure => simp [intOf]; omega
    · obtain rfl : k = n := by omega
      obtain ⟨z0, z1, z2, y0, y1, y2, l2⟩ := three_cells IK.out.h2
      obtain ⟨g0, g1, g2, -, -, -, l3⟩ := three_cells IK.out.h3
      have HO := Lib.hid IK.out.ho
      have HB := Lib.hid IK.out.hb
      have hgn := HGN.out
      clear IK
      go_wp2_with fail
      refine bodyPost_ret (v := .tuple #[.agg #[.int .i64 L, .int .i64 S, .slice (some ⟨g, 0, none⟩) k k], .int .i64 0]) (by simp [results, Tryd.results18, go_sem, z0, z1, z2]) rfl ⟨.slice (some ⟨g, 0, none⟩) k k, rfl, Below.set3 HB.out (by omega) _ _ _, ⟨?_⟩⟩
      have hne : (Value.slice (some ⟨g, 0, none⟩) k k).ownBlock ≠ some (w.heap.size + 1 + 1) := by
        intro h
        simp only [Value.ownBlock, Option.some.injEq] at h
        omega
      exact Sl.of_owns (ownsRow_setCell_other (ownsRow_setCell_other (ownsRow_setCell_other HO.out hne _) hne _) hne _) (by omega)
end Go.Proofs.YtmiaglkkjncfnaaDoor
