import Derived.Test.YtmmmaanflmgblaaDoorIb
namespace Go.Proofs.YtmmmaanflmgblaaDoor
open Go.RowKit Go.Proofs.YtmmmaanflmgblaaDoor.Flt

/-- the first s samples of the line l are zeros -/
def emptyTo (zs : List (Nat × Nat)) (S l s : Nat) : Bool := ((zs.drop (l * S)).take s).all (isZ .f32)
theorem emptyTo_step (zs : List (Nat × Nat)) (S l s : Nat) (h : l * S + s < zs.length) : emptyTo zs S l (s + 1) = (emptyTo zs S l s && isZ .f32 (zs.getD (l * S + s) (0, 0))) := by
  unfold emptyTo
  rw [List.take_succ_eq_append_getElem (by simp; omega), List.all_append]
  simp [List.getD_eq_getElem?_getD, List.getElem?_eq_getElem h]

/-- the reference's ranges, behind a line that is empty, or not -/
theorem GpInv.same {lv sv : Int} {iv : Value} {L L' : List (Nat × Nat)} {w : World} {v : Value} {wr : World} (h : GpInv lv sv iv L w v wr) (e : L' = L) : GpInv lv sv iv L' w v wr := by rw [e]; exact h

set_option maxRecDepth 100000 in
set_option maxHeartbeats 4000000 in
theorem refGaps_ok (L S : Nat) (v : Value) (zs : List (Nat × Nat)) (w : World) (hv : Sl w v (cvals .f32 zs)) (hL : L ≤ 64) (hS1 : 1 ≤ S) (hS : S ≤ 64) (hlen : zs.length = L * S) :
    Calls Tryd.prog 19 #[.agg #[.int .i64 L, .int .i64 S, v]] w fun e w' => ∃ v', e = .returned v' ∧ Below w.heap.size w w' ∧ w'.ownsRow (w.heap.size + 1) 69 2 v' (rangesTo (emptyL zs S) L).length (rvals (rangesTo (emptyL zs S) L)) := by
  obtain ⟨W0, hW0⟩ : ∃ W0, W0 = w.alloc (.cells #[.int .i64 L, .int .i64 S, v] 32) := ⟨_, rfl⟩
  have hb : Below w.heap.size w W0 := by rw [hW0]; exact (Below.refl _ _).alloc (Nat.le_refl _) _
  have H0 : W0.heap[w.heap.size]? = some (.cells #[.int .i64 L, .int .i64 S, v] 32 (0, 0)) := by rw [hW0]; exact heap_alloc_new _ _
  have HW0 := Lib.hid hW0
  have HV := Lib.hid hv
  obtain ⟨ad, cap, rfl, hvl, -⟩ := hv
  have hnc : (cvals .f32 zs).length = zs.length := by simp [cvals]
  rw [hnc] at hvl HV H0 HW0 ⊢
  obtain ⟨n, hn⟩ : ∃ n, n = zs.length := ⟨_, rfl⟩
  rw [← hn] at hvl HV H0 HW0 hlen ⊢
  have HN := Lib.hid (And.intro hn hlen)
  have hn4 : n ≤ 4096 := by rw [hlen]; exact Nat.le_trans (Nat.mul_le_mul hL hS) (by decide)
  obtain ⟨i0, hi, hz0, hz1, hz2⟩ := info_parts info69
  have HI := Lib.hid (And.intro hi (And.intro hz0 (And.intro hz1 hz2)))
  have I0 : Hid (GpInv L S (.slice ad n cap) [] w (.slice none 0 0) W0) := ⟨hb, H0, World.ownsRow_nil _ _ _ _⟩
  clear hb hW0 hnc hn hlen hi hz0 hz1 hz2 H0
  go_enter Tryd.func19, Tryd.ntmps19
  go_wp2_with fail
  rw [← HW0.out]
  go_loopw [3, 4] (fun gv i wr => ∃ (l : Nat) (v' : Value), l ≤ L ∧ i = .int .i64 l ∧ v' = gv ∧ Hid (GpInv L S (.slice ad n cap) (rangesTo (emptyL zs S) l) w v' wr)) (fun _ i _ => L - (intOf i).toNat)
  case atStart => exact ⟨0, _, Nat.zero_le _, rfl, rfl, I0⟩
  case round =>
    clear I0
    obtain ⟨l, v', hl, rfl, rfl, IK⟩ := hrel
    obtain ⟨wz, rfl⟩ : ∃ wz : World, wz = wr := ⟨_, rfl⟩
    obtain ⟨c0, c1, c2, -, -, -, lc⟩ := three_cells IK.out.hx
    by_cases hlt : l < L
    · have hq : l * S + S ≤ n := by rw [HN.out.2, ← Nat.succ_mul]; exact Nat.mul_le_mul_right _ hlt
      have HRT : Hid (rangesTo (emptyL zs S) (l + 1) = if emptyL zs S l then growR (rangesTo (emptyL zs S) l) l else rangesTo (emptyL zs S) l) := rfl
      have hbd := rangesTo_length (emptyL zs S) l
      have hhi := rangesTo_bound (emptyL zs S) l ((rangesTo (emptyL zs S) l).length - 1)
      have HEm : Hid (emptyTo zs S l S = emptyL zs S l) := rfl
      have HSt : Hid (∀ s, s < S → emptyTo zs S l (s + 1) = (emptyTo zs S l s && isZ .f32 (zs.getD (l * S + s) (0, 0)))) := fun s hs => emptyTo_step zs S l s (by have := HN.out.1; omega)
      obtain ⟨q, hqq⟩ : ∃ q, q = l * S := ⟨_, rfl⟩
      have hqi : (l : Int) * S = q := by rw [hqq, Int.natCast_mul]
      rw [← hqq] at hq HSt
      obtain ⟨-, b1, o1, rfl, q1, g1⟩ := HV.out.at (by omega)
      have HG : Hid (∀ s, s < S → wz.cell? ⟨b1, o1 + (q + s), none⟩ = some (.complex .f32 (zs.getD (q + s) (0, 0)).1 (zs.getD (q + s) (0, 0)).2)) := fun s hs => (IK.out.hb.cell (p := ⟨b1, o1 + (q + s), none⟩) q1).trans (g1 (q + s) _ (cvals_get (by have := HN.out.1; omega)))
      clear hqq g1
      go_wp2_with fail
      go_loop [5, 6] (fun ev i => ∃ s : Nat, s ≤ S ∧ i = .int .i64 s ∧ ev = .bool (emptyTo zs S l s)) (fun _ i => S - (intOf i).toNat)
      case atStart => exact ⟨0, Nat.zero_le _, rfl, by unfold emptyTo; rfl⟩
      case round =>
        obtain ⟨s, hs, rfl, rfl⟩ := hrel
        by_cases hls : s < S
        · have d1 := HG.out s hls
          have HS1 := Lib.hid (HSt.out s hls)
          have hzt := isZ_tests (z := zs.getD (q + s) (0, 0))
          generalize emptyTo zs S l s = em at *
          generalize isZ .f32 (zs.getD (q + s) (0, 0)) = zb at *
          generalize (zs.getD (q + s) (0, 0)).1 = z1 at *
          generalize (zs.getD (q + s) (0, 0)).2 = z2 at *
          have hqs : (q : Int) + s = ((q + s : Nat) : Int) := by omega
          have hqn : q + s < n := by omega
          generalize q + s = t at *
          have htn : (t : Int) < n := by omega
          cases em
          · have HS2 : Hid (emptyTo zs S l (s + 1) = false) := HS1.out
            clear HS1
            go_wp2_with fail
            go_round
            case rel => exact ⟨s + 1, by omega, by go_num, by rw [HS2.out]⟩
            case measure => simp [intOf]; omega
          · have HS2 : Hid (emptyTo zs S l (s + 1) = zb) := by have := HS1.out; rw [Bool.true_and] at this; exact this
            clear HS1
            go_wp2_with fail
            go_round
            case rel => exact ⟨s + 1, by omega, by go_num, by rw [HS2.out, ← hzt]⟩
            case measure => simp [intOf]; omega
        · have e : S = s := by omega
          subst e
          have he : emptyTo zs S l S = emptyL zs S l := HEm.out
          rw [he]
          clear HG HSt HEm he
          obtain ⟨RL, hRL⟩ : ∃ RL, RL = rangesTo (emptyL zs S) l := ⟨_, rfl⟩
          rw [← hRL] at hbd hhi IK HRT
          generalize emptyL zs S l = em at *
          clear hRL
          cases em
          · have HN1 : Hid (rangesTo (emptyL zs S) (l + 1) = RL) := HRT.out
            go_wp2_with fail
            go_roundw
            case rel => exact ⟨l + 1, _, by omega, by go_num, rfl, by rw [HN1.out]; exact IK⟩
            case measure => simp [intOf]; omega
          · have HN1 : Hid (rangesTo (emptyL zs S) (l + 1) = growR RL l) := HRT.out
            by_cases h0 : 0 < RL.length
            · obtain ⟨g, cp, rfl, hg1, hg2⟩ := IK.out.ho.form h0
              have d1 : wz.cell? ⟨g, (RL.length - 1) * 2 + 1, none⟩ = some (.int .i64 ((RL.getD (RL.length - 1) (0, 0)).2 : Nat)) := (IK.out.ho.cellAt ((RL.length - 1) * 2 + 1) (by omega)).trans (by rw [show (RL.length - 1) * 2 + 1 = 2 * (RL.length - 1) + 1 from by omega]; exact rvals_hi RL (RL.length - 1) (by omega))
              have d2 : wz.frozen? ⟨g, (RL.length - 1) * 2 + 1, none⟩ = false := IK.out.ho.frozenAt _
              obtain ⟨k, hk⟩ : ∃ k, k = RL.length := ⟨_, rfl⟩
              rw [← hk] at d1 d2 h0 hbd hhi ⊢
              obtain ⟨hi2, hhi2⟩ : ∃ hi2, hi2 = (RL.getD (k - 1) (0, 0)).2 := ⟨_, rfl⟩
              rw [← hhi2] at d1 hhi
              by_cases hh : hi2 + 1 = l
              · have IN := Lib.hid (IK.out.put (l := l) rfl (by omega) (by rw [← hk, ← hhi2]; exact hh))
                rw [← hk] at IN
                have hbq : ((hi2 : Int) == (l : Int) - 1) = true := by rw [beq_iff_eq]; omega
                clear hk hhi2 hh
                go_wp2_with fail
                go_roundw
                case rel => exact ⟨l + 1, _, by omega, by go_num, rfl, by rw [HN1.out]; exact IN⟩
                case measure => simp [intOf]; omega
              · have hbq : ((hi2 : Int) == (l : Int) - 1) = false := by rw [beq_eq_false_iff_ne]; omega
                have HAdd : Hid (∀ v' w', w'.ownsRow (w.heap.size + 1) 69 2 v' (k + 1) (rvals RL ++ [.int .i64 (l : Nat), .int .i64 (l : Nat)]) → (wz.alloc (.cells #[.int .i64 l, .int .i64 l] 69)).grownBy w' (Value.slice (some ⟨g, 0, none⟩) k cp).ownBlock → GpInv L S (.slice (some ⟨b1, o1, none⟩) n cap) (growR RL l) w v' w') := fun v' w' h1 h2 => by
                  rw [hk] at h1
                  exact IK.out.add (by rw [← hk, ← hhi2]; omega) h1 h2
                have HO := Lib.hid IK.out.ho
                rw [← hk] at HO
                clear hk hhi2 hh IK
                go_wp2_with (at_builtin; refine wpList_append_own _ (by rfl) (.tmp 57) (.tmp 61) 34 (by rfl) (w.heap.size + 1) 69 i0 (.agg #[.int .i64 0, .int .i64 0]) 2 16 Tryd.underlying34 HI.out.1 HI.out.2.1 HI.out.2.2.1 HI.out.2.2.2 rfl (by decide) (.slice (some ⟨g, 0, none⟩) k cp) k (rvals RL) (by rfl) (HO.out.alloc _) ⟨wz.heap.size, 0, none⟩ 1 1 [.int .i64 l, .int .i64 l] (by rfl) rfl (two_new _ _ _ _) (by intro u hu; simp at hu; rw [hu]; rfl) (by unfold maxLen; omega) (by omega) (by simp; omega) ?_)
                intro v2 w4 hown hgrow _
                have HN := Lib.hid (HAdd.out v2 w4 hown hgrow)
                clear hown hgrow HAdd HO
                go_wp2_with fail
                go_roundw
                case rel => exact ⟨l + 1, _, by omega, by go_num, rfl, by rw [HN1.out]; exact HN⟩
                case measure => simp [intOf]; omega
            · obtain ⟨va, vc, rfl⟩ : ∃ va vc, v' = .slice va 0 vc := by
                have hk0 : RL.length = 0 := by omega
                rcases IK.out.ho.2 with ⟨h, -⟩ | ⟨g, cp, -, h, -⟩
                · exact ⟨_, _, h⟩
                · rw [hk0] at h; exact ⟨_, _, h⟩
              have hk0 : RL.length = 0 := by omega
              have HAdd : Hid (∀ v' w', w'.ownsRow (w.heap.size + 1) 69 2 v' (0 + 1) (rvals RL ++ [.int .i64 (l : Nat), .int .i64 (l : Nat)]) → (wz.alloc (.cells #[.int .i64 l, .int .i64 l] 69)).grownBy w' (Value.slice va 0 vc).ownBlock → GpInv L S (.slice (some ⟨b1, o1, none⟩) n cap) (growR RL l) w v' w') := fun v' w' h1 h2 => by
                rw [← hk0] at h1
                exact IK.out.add (by omega) h1 h2
              have HO := Lib.hid IK.out.ho
              rw [hk0] at HO
              clear hk0 h0 hbd hhi IK
              go_wp2_with (at_builtin; refine wpList_append_own _ (by rfl) (.tmp 57) (.tmp 61) 34 (by rfl) (w.heap.size + 1) 69 i0 (.agg #[.int .i64 0, .int .i64 0]) 2 16 Tryd.underlying34 HI.out.1 HI.out.2.1 HI.out.2.2.1 HI.out.2.2.2 rfl (by decide) (.slice va 0 vc) 0 (rvals RL) (by rfl) (HO.out.alloc _) ⟨wz.heap.size, 0, none⟩ 1 1 [.int .i64 l, .int .i64 l] (by rfl) rfl (two_new _ _ _ _) (by intro u hu; simp at hu; rw [hu]; rfl) (by unfold maxLen; omega) (by omega) (by simp; omega) ?_)
              intro v2 w4 hown hgrow _
              have HN := Lib.hid (HAdd.out v2 w4 hown hgrow)
              clear hown hgrow HAdd HO
              go_wp2_with fail
              go_roundw
              case rel => exact ⟨l + 1, _, by omega, by go_num, rfl, by rw [HN1.out]; exact HN⟩
              case measure => simp [intOf]; omega
    · have e : L = l := by omega
      subst e
      have HF := Lib.hid IK.out
      clear IK
      go_wp2_with fail
      go_ret
      exact ⟨_, rfl, HF.out.hb, HF.out.ho⟩

/-- a slice that reads as ranges -/
structure Rgs (L : List (Nat × Nat)) (W : World) (v : Value) : Prop where
  form : ∃ ad cap, v = .slice ad L.length cap ∧ (L.length = 0 ∨ ∃ b off, ad = some ⟨b, off, none⟩ ∧ b < W.heap.size ∧ ∀ j x, (rvals L)[j]? = some x → W.cell? ⟨b, off + j, none⟩ = some x)
theorem Rgs.below {L : List (Nat × Nat)} {W W' : World} {v : Value} (h : Rgs L W v) (hb : Below W.heap.size W W') : Rgs L W' v := by
  obtain ⟨ad, cap, hv, h⟩ := h.form
  refine ⟨ad, cap, hv, ?_⟩
  rcases h with h | ⟨b, off, h1, h2, h3⟩
  · exact .inl h
  · exact .inr ⟨b, off, h1, Nat.lt_of_lt_of_le h2 hb.size, fun j x hx => (hb.cell (p := ⟨b, off + j, none⟩) h2).trans (h3 j x hx)⟩
theorem Rgs.of_owns {L : List (Nat × Nat)} {W : World} {v : Value} {B : Nat} (h : W.ownsRow B 69 2 v L.length (rvals L)) : Rgs L W v := by
  rcases h.2 with ⟨h1, h2⟩ | ⟨g, cap, cur, h1, h2, h3, h4, h5, h6, h7⟩
  · exact ⟨none, 0, by rw [h1, h2], .inl h2⟩
  · refine ⟨some ⟨g, 0, none⟩, cap, h1, .inr ⟨g, 0, rfl, lt_of_block h3, fun j x hx => ?_⟩⟩
    have hj : j < L.length * 2 := by
      rcases Nat.lt_or_ge j (L.length * 2) with h | h
      · exact h
      · rw [rvals_none L j (by omega)] at hx; cases hx
    subst h1
    rw [Nat.zero_add]
    exact (h.cellAt j hj).trans hx

set_option maxRecDepth 100000 in
set_option maxHeartbeats 1000000 in
/-- TWO EQUAL LISTS OF RANGES -/
theorem Ranges_true (va vb : Value) (L : List (Nat × Nat)) (w : World) (hle : L.length ≤ 1000000) (ha : Rgs L w va) (hb : Rgs L w vb) :
    Calls Tryd.prog 18 #[va, vb] w fun e w' => e = .returned (.bool true) ∧ ∃ q, w' = w.drewN q := by
  obtain ⟨aa, ac, rfl, ha2⟩ := ha.form
  obtain ⟨ba, bc, rfl, hb2⟩ := hb.form
  obtain ⟨n, hn⟩ : ∃ n, n = L.length := ⟨_, rfl⟩
  rw [← hn] at ha2 hb2 ha hb hle ⊢
  have HA := Lib.hid ha2
  have HB := Lib.hid hb2
  have HN := Lib.hid hn
  have hEq := eq_range
  have hGd := guard_range
  clear ha hb ha2 hb2 hn
  go_enter Tryd.func18, Tryd.ntmps18
  go_wp2_with fail
  go_loopw [5] (fun i wr => ∃ k : Nat, k ≤ n ∧ i = .int .i64 k ∧ ∃ q, wr = w.drewN q) (fun i _ => n - (intOf i).toNat)
  case atStart => exact ⟨0, Nat.zero_le _, rfl, 0, rfl⟩
  case round =>
    obtain ⟨k, hk, rfl, q, hq⟩ := hrel
    obtain ⟨wq, rfl⟩ : ∃ wq : World, wq = wr := ⟨_, rfl⟩
    by_cases hlt : k < n
    · have hA : n = 0 ∨ ∃ b off, aa = some ⟨b, off, none⟩ ∧ b < w.heap.size ∧ ∀ j x, (rvals L)[j]? = some x → w.cell? ⟨b, off + j, none⟩ = some x := HA.out
      have hB : n = 0 ∨ ∃ b off, ba = some ⟨b, off, none⟩ ∧ b < w.heap.size ∧ ∀ j x, (rvals L)[j]? = some x → w.cell? ⟨b, off + j, none⟩ = some x := HB.out
      rcases hA with h | ⟨b1, o1, rfl, -, h1⟩
      · omega
      rcases hB with h | ⟨b2, o2, rfl, -, h2⟩
      · omega
      have c1 : wq.cell? ⟨b1, o1 + k * 2, none⟩ = some (.int .i64 ((L.getD k (0, 0)).1 : Nat)) := by rw [hq, Nat.mul_comm k 2]; exact h1 _ _ (rvals_lo L k (by have := HN.out; omega))
      have c2 : wq.cell? ⟨b1, o1 + k * 2 + 1, none⟩ = some (.int .i64 ((L.getD k (0, 0)).2 : Nat)) := by rw [hq, Nat.mul_comm k 2, Nat.add_assoc]; exact h1 _ _ (rvals_hi L k (by have := HN.out; omega))
      have c3 : wq.cell? ⟨b2, o2 + k * 2, none⟩ = some (.int .i64 ((L.getD k (0, 0)).1 : Nat)) := by rw [hq, Nat.mul_comm k 2]; exact h2 _ _ (rvals_lo L k (by have := HN.out; omega))
      have c4 : wq.cell? ⟨b2, o2 + k * 2 + 1, none⟩ = some (.int .i64 ((L.getD k (0, 0)).2 : Nat)) := by rw [hq, Nat.mul_comm k 2, Nat.add_assoc]; exact h2 _ _ (rvals_hi L k (by have := HN.out; omega))
      have HQ := Lib.hid hq
      generalize (L.getD k (0, 0)).1 = x at *
      generalize (L.getD k (0, 0)).2 = y at *
      clear h1 h2 HA HB hq
      go_wp2_with fail
      go_region
      go_wp2_with fail
      go_roundw
      case rel => exact ⟨k + 1, by omega, by go_num, _, by rw [HQ.out]; first | rfl | exact World.drewN_drewN _ _ 1⟩
      case measure => simp [intOf]; omega
    · go_wp2_with fail
      go_ret
      exact ⟨rfl, q, by first | rfl | exact hq⟩
end Go.Proofs.YtmmmaanflmgblaaDoor
