import Derived.Test.YtmmmaanflmgblaaDoorGd
namespace Go.Proofs.YtmmmaanflmgblaaDoor
open Go.RowKit Go.Proofs.YtmmmaanflmgblaaDoor.Flt

set_option maxRecDepth 100000 in
set_option maxHeartbeats 1000000 in
theorem refEnergy_any (L S : Nat) (v : Value) (zs : List (Nat × Nat)) (l s : Nat) (w : World) (hv : Sl w v (cvals .f64 zs)) (hz : ∀ z ∈ zs, z.1 < 2 ^ 64 ∧ z.2 < 2 ^ 64) (RR : Right .f64 1000000000 zs) (_hS : S ≤ 64) (hlen : zs.length ≤ 4096) (ht : l * S + s < zs.length) :
    Calls Tryd.prog 29 #[.agg #[.int .i64 L, .int .i64 S, v], .int .i64 l, .int .i64 s] w fun e w' => e = .returned (.int .i64 (enAt zs (l * S + s))) ∧ Below w.heap.size w w' := by
  obtain ⟨W0, hW0⟩ : ∃ W0, W0 = w.alloc (.cells #[.int .i64 L, .int .i64 S, v] 49) := ⟨_, rfl⟩
  have hb : Below w.heap.size w W0 := by rw [hW0]; exact (Below.refl _ _).alloc (Nat.le_refl _) _
  have H0 : W0.heap[w.heap.size]? = some (.cells #[.int .i64 L, .int .i64 S, v] 49 (0, 0)) := by rw [hW0]; exact heap_alloc_new _ _
  obtain ⟨p, hp⟩ : ∃ p, p = l * S := ⟨_, rfl⟩
  have hpi : (l : Int) * S = p := by rw [hp, Int.natCast_mul]
  rw [← hp] at ht ⊢
  have hpj : (p : Int) + s = ((p + s : Nat) : Int) := by omega
  obtain ⟨t, htt⟩ : ∃ t, t = p + s := ⟨_, rfl⟩
  rw [← htt] at hpj ht ⊢
  obtain ⟨a1, a2, a3, a4⟩ := RR t ht
  have hzt : (zs.getD t (0, 0)) ∈ zs := by rw [List.getD_eq_getElem?_getD, List.getElem?_eq_getElem ht]; exact List.getElem_mem ht
  have CP := Lib.hid (fun w => basePart_any (zs.getD t (0, 0)).1 (zs.getD t (0, 0)).2 (re .f64 zs t) (im .f64 zs t) (rep_wv good_double a1 (by show (re .f64 zs t).natAbs ≤ 2 ^ 53; omega)) (rep_wv good_double a2 (by show (im .f64 zs t).natAbs ≤ 2 ^ 53; omega)) (hz _ hzt).1 (hz _ hzt).2 (by omega) (by omega) w)
  have HE : Hid (enAt zs t = re .f64 zs t * re .f64 zs t + im .f64 zs t * im .f64 zs t) := rfl
  obtain ⟨m1, m2⟩ := sq_b a3
  obtain ⟨m3, m4⟩ := sq_b a4
  have HV := hv.below hb (Nat.le_refl _)
  obtain ⟨va, vc, rfl, hvl, -⟩ := hv
  have hn : (cvals .f64 zs).length = zs.length := by simp [cvals]
  rw [hn] at hvl H0 HV hW0 ⊢
  obtain ⟨-, b1, o1, rfl, q1, g1⟩ := HV.at (by omega)
  have d1 : W0.cell? ⟨b1, o1 + t, none⟩ = some (.complex .f64 (zs.getD t (0, 0)).1 (zs.getD t (0, 0)).2) := g1 t _ (cvals_get ht)
  obtain ⟨c0, c1, c2, -, -, -, lc⟩ := three_cells H0
  generalize enAt zs t = E at *
  generalize re .f64 zs t = a at *
  generalize im .f64 zs t = b at *
  generalize (zs.getD t (0, 0)).1 = z1 at *
  generalize (zs.getD t (0, 0)).2 = z2 at *
  have ht2 : (t : Int) < zs.length := by omega
  generalize zs.length = n at *
  have HB := Lib.hid hb
  clear g1 a1 a2 hp htt hn hzt hz RR hb H0 HV
  rw [HE.out]
  subst hW0
  go_enter Tryd.func29, Tryd.ntmps29
  go_wp2_with fail
  refine (CP.out _).mono ?_
  rintro e w' ⟨rfl, rfl⟩
  go_wp2_with fail
  go_ret
  exact ⟨rfl, HB.out⟩

/-- what holds at the head of the reference's loops, behind t samples -/
structure PkInv (zs : List (Nat × Nat)) (L S : Nat) (v : Value) (w : World) (t : Nat) (wr : World) : Prop where
  hb : Below w.heap.size w wr
  hx : wr.heap[w.heap.size]? = some (.cells #[.int .i64 L, .int .i64 S, v] 49 (0, 0))
  hr : wr.heap[w.heap.size + 1]? = some (.cells #[.int .i64 0, .int .i64 0] 51 (0, 0))
  hp : wr.heap[w.heap.size + 2]? = some (.cells #[.int .i64 (bestI (enAt zs) t / S : Nat), .int .i64 (bestI (enAt zs) t % S : Nat)] 51 (0, 0))
def mostAt (zs : List (Nat × Nat)) (t : Nat) : Int := if t = 0 then -1 else enAt zs (bestI (enAt zs) t)

theorem PkInv.next {zs : List (Nat × Nat)} {L S : Nat} {v : Value} {w wr w' : World} {t : Nat} (h : PkInv zs L S v w t wr) (hb : Below wr.heap.size wr w') : PkInv zs L S v w t w' :=
  ⟨h.hb.trans (hb.mono h.hb.size), (hb.block _ (lt_of_block h.hx)).trans h.hx, (hb.block _ (lt_of_block h.hr)).trans h.hr, (hb.block _ (lt_of_block h.hp)).trans h.hp⟩
theorem PkInv.keep {zs : List (Nat × Nat)} {L S : Nat} {v : Value} {w wr : World} {t : Nat} (h : PkInv zs L S v w t wr) (e : bestI (enAt zs) (t + 1) = bestI (enAt zs) t) : PkInv zs L S v w (t + 1) wr :=
  ⟨h.hb, h.hx, h.hr, by rw [e]; exact h.hp⟩
theorem PkInv.put {zs : List (Nat × Nat)} {L S : Nat} {v : Value} {w wr : World} {t l s : Nat} (h : PkInv zs L S v w t wr) (e : bestI (enAt zs) (t + 1) = t) (hl : t / S = l) (hs : t % S = s) :
    PkInv zs L S v w (t + 1) ((wr.setCell ⟨w.heap.size + 2, 0, none⟩ (.int .i64 l)).setCell ⟨w.heap.size + 2, 1, none⟩ (.int .i64 s)) := by
  refine ⟨(h.hb.setCell (p := ⟨w.heap.size + 2, 0, none⟩) (by show w.heap.size ≤ w.heap.size + 2; omega) _).setCell (p := ⟨w.heap.size + 2, 1, none⟩) (by show w.heap.size ≤ w.heap.size + 2; omega) _, ?_, ?_, ?_⟩
  · exact (Below.heap_setCell _ _ _ _ (by show w.heap.size ≠ w.heap.size + 2; omega)).trans ((Below.heap_setCell _ _ _ _ (by show w.heap.size ≠ w.heap.size + 2; omega)).trans h.hx)
  · exact (Below.heap_setCell _ _ _ _ (by show w.heap.size + 1 ≠ w.heap.size + 2; omega)).trans ((Below.heap_setCell _ _ _ _ (by show w.heap.size + 1 ≠ w.heap.size + 2; omega)).trans h.hr)
  · rw [e, hl, hs]
    have h1 : (wr.setCell ⟨w.heap.size + 2, 0, none⟩ (.int .i64 l)).heap[w.heap.size + 2]? = some (.cells #[.int .i64 l, .int .i64 (bestI (enAt zs) t % S : Nat)] 51 (0, 0)) := by
      rw [heap_setCell_same _ _ _ _ _ _ h.hp]; rfl
    rw [heap_setCell_same _ _ _ _ _ _ h1]; rfl

set_option maxRecDepth 100000 in
set_option maxHeartbeats 4000000 in
theorem refPeak_any (L S : Nat) (v : Value) (zs : List (Nat × Nat)) (w : World) (hv : Sl w v (cvals .f64 zs)) (hz : ∀ z ∈ zs, z.1 < 2 ^ 64 ∧ z.2 < 2 ^ 64) (RR : Right .f64 1000000000 zs) (hL1 : 1 ≤ L) (hL : L ≤ 64) (hS1 : 1 ≤ S) (hS : S ≤ 64) (hlen : zs.length = L * S) :
    Calls Tryd.prog 27 #[.agg #[.int .i64 L, .int .i64 S, v]] w fun e w' => e = .returned (.tuple #[.agg #[.int .i64 (bestI (enAt zs) zs.length / S : Nat), .int .i64 (bestI (enAt zs) zs.length % S : Nat)], .int .i64 (enAt zs (bestI (enAt zs) zs.length))]) ∧ Below w.heap.size w w' := by
  have hn4 : zs.length ≤ 4096 := by rw [hlen]; exact Nat.le_trans (Nat.mul_le_mul hL hS) (by decide)
  have hn1 : 1 ≤ zs.length := by rw [hlen]; exact Nat.mul_pos hL1 hS1
  have CE : Hid (∀ W (l s : Nat), Sl W v (cvals .f64 zs) → l < L → s < S → Calls Tryd.prog 29 #[.agg #[.int .i64 L, .int .i64 S, v], .int .i64 l, .int .i64 s] W fun e w' => e = .returned (.int .i64 (enAt zs (l * S + s))) ∧ Below W.heap.size W w') := fun W l s h hl hs => by
    have h4 : l * S + S ≤ L * S := by rw [← Nat.succ_mul]; exact Nat.mul_le_mul_right _ hl
    exact refEnergy_any L S v zs l s W h hz RR hS hn4 (by omega)
  have HB : Hid (∀ l s, l < L → s < S → 0 ≤ enAt zs (l * S + s) ∧ enAt zs (l * S + s) ≤ 2000000000000000000 ∧ l * S + s < zs.length) := fun l s hl hs => by
    have h4 : l * S + S ≤ L * S := by rw [← Nat.succ_mul]; exact Nat.mul_le_mul_right _ hl
    have := en_b RR (l * S + s) (by omega)
    exact ⟨this.1, this.2, by omega⟩
  have HM : Hid (∀ t, t ≤ zs.length → -1 ≤ mostAt zs t ∧ mostAt zs t ≤ 2000000000000000000) := fun t ht => by
    unfold mostAt
    split
    · omega
    · have := en_b RR (bestI (enAt zs) t) (by have := bestI_lt (enAt zs) t (by omega); omega)
      omega
  have HV := Lib.hid hv
  obtain ⟨va, vc, rfl, hvl, -⟩ := hv
  have hnc : (cvals .f64 zs).length = zs.length := by simp [cvals]
  rw [hnc] at hvl HV CE ⊢
  obtain ⟨n, hn⟩ : ∃ n, n = zs.length := ⟨_, rfl⟩
  rw [← hn] at hvl HV CE HB HM hn4 hn1 hlen ⊢
  have HN := Lib.hid (And.intro hn hlen)
  obtain ⟨B, hB⟩ : ∃ B, B = bestI (enAt zs) n := ⟨_, rfl⟩
  rw [← hB]
  obtain ⟨bq, hbq⟩ : ∃ bq, bq = B / S := ⟨_, rfl⟩
  obtain ⟨br, hbr⟩ : ∃ br, br = B % S := ⟨_, rfl⟩
  obtain ⟨EE, hEE⟩ : ∃ EE, EE = enAt zs B := ⟨_, rfl⟩
  rw [← hbq, ← hbr, ← hEE]
  have HQ := Lib.hid (And.intro hB (And.intro hbq (And.intro hbr hEE)))
  clear hz RR hnc hn hlen hB hbq hbr hEE
  go_enter Tryd.func27, Tryd.ntmps27
  go_wp2_with fail
  go_loopw [5, 6] (fun mv i wr => ∃ l : Nat, l ≤ L ∧ i = .int .i64 l ∧ mv = .int .i64 (mostAt zs (l * S)) ∧ Hid (PkInv zs L S (.slice va n vc) w (l * S) wr)) (fun _ i _ => L - (intOf i).toNat)
  case atStart =>
    obtain ⟨a1, a2, a3⟩ := alloc3_blocks w (.cells #[.int .i64 L, .int .i64 S, .slice va n vc] 49) (.cells #[.int .i64 0, .int .i64 0] 51) (.cells #[.int .i64 0, .int .i64 0] 51)
    refine ⟨0, Nat.zero_le _, rfl, by rw [Nat.zero_mul]; rfl, ?_⟩
    rw [Nat.zero_mul]
    refine ⟨(((Below.refl _ _).alloc (Nat.le_refl _) _).alloc (by simp) _).alloc (by simp; omega) _, a1, a2, ?_⟩
    rw [show bestI (enAt zs) 0 = 0 from rfl, Nat.zero_div, Nat.zero_mod]
    exact a3
  case round =>
    obtain ⟨l, hl, rfl, rfl, IK⟩ := hrel
    obtain ⟨wo, rfl⟩ : ∃ wo : World, wo = wr := ⟨_, rfl⟩
    obtain ⟨c0, c1, c2, -, -, -, lc⟩ := three_cells IK.out.hx
    by_cases hll : l < L
    · obtain ⟨M0, hM0⟩ : ∃ M0, M0 = mostAt zs (l * S) := ⟨_, rfl⟩
      rw [← hM0]
      have HM0 := Lib.hid hM0
      clear hM0
      go_wp2_with fail
      go_loopw [5, 7] (fun mv i wr => ∃ s : Nat, s ≤ S ∧ i = .int .i64 s ∧ mv = .int .i64 (mostAt zs (l * S + s)) ∧ Hid (PkInv zs L S (.slice va n vc) w (l * S + s) wr)) (fun _ i _ => S - (intOf i).toNat)
      case atStart => exact ⟨0, Nat.zero_le _, rfl, by rw [HM0.out, Nat.add_zero], IK⟩
      case round =>
        clear IK c0 c1 c2 lc
        obtain ⟨s, hs, rfl, rfl, IS⟩ := hrel
        obtain ⟨wz, rfl⟩ : ∃ wz : World, wz = wr := ⟨_, rfl⟩
        obtain ⟨c0, c1, c2, -, -, -, lc⟩ := three_cells IS.out.hx
        by_cases hls : s < S
        · obtain ⟨e1, e2, e3⟩ := HB.out l s hll hls
          obtain ⟨m1, m2⟩ := HM.out (l * S + s) (by omega)
          have CE1 := Lib.hid (fun W h => CE.out W l s h hll hls)
          have hd1 : (l * S + s) / S = l := by rw [Nat.mul_comm, Nat.mul_add_div (by omega), Nat.div_eq_of_lt hls, Nat.add_zero]
          have hd2 : (l * S + s) % S = s := by rw [Nat.mul_comm, Nat.mul_add_mod, Nat.mod_eq_of_lt hls]
          have HV1 := Lib.hid (HV.out.below IS.out.hb (Nat.le_refl _))
          obtain ⟨t, ht⟩ : ∃ t, t = l * S + s := ⟨_, rfl⟩
          have HT := Lib.hid ht
          rw [← ht] at e1 e2 e3 m1 m2 CE1 hd1 hd2 IS ⊢
          have HD := Lib.hid (And.intro hd1 hd2)
          have HMo : Hid (mostAt zs (t + 1) = if mostAt zs t < enAt zs t then enAt zs t else mostAt zs t) := by
            unfold Hid mostAt
            rw [if_neg (by omega)]
            by_cases h0 : t = 0
            · subst h0; rw [if_pos rfl, if_pos (by omega)]
              have : bestI (enAt zs) (0 + 1) = 0 := by rw [bestI]; split <;> rfl
              rw [this]
            · rw [if_neg h0, bestI]; split <;> rfl
          have HBe : Hid ((mostAt zs t < enAt zs t → bestI (enAt zs) (t + 1) = t) ∧ (¬ mostAt zs t < enAt zs t → bestI (enAt zs) (t + 1) = bestI (enAt zs) t)) := by
            unfold Hid mostAt
            by_cases h0 : t = 0
            · subst h0
              rw [if_pos rfl]
              exact ⟨fun _ => by rw [bestI]; split <;> rfl, fun h => by omega⟩
            · rw [if_neg h0, bestI]
              exact ⟨fun h => if_pos h, fun h => if_neg h⟩
          generalize enAt zs t = E at *
          obtain ⟨M, hM⟩ : ∃ M, M = mostAt zs t := ⟨_, rfl⟩
          rw [← hM] at m1 m2 HMo HBe ⊢
          clear hM ht hd1 hd2
          by_cases hME : M < E
          · have hbe := HBe.out.1 hME
            have HMo2 : Hid (mostAt zs (t + 1) = E) := HMo.out.trans (if_pos hME)
            go_wp2_with fail
            refine (CE1.out _ HV1.out).mono ?_
            rintro e w2 ⟨rfl, hb2⟩
            have I2 := Lib.hid (IS.out.next hb2)
            have HV2 := Lib.hid (HV1.out.below hb2 (Nat.le_refl _))
            clear c0 c1 c2 lc hb2 IS HV1
            obtain ⟨c0, c1, c2, -, -, -, lc⟩ := three_cells I2.out.hx
            go_wp2_with fail
            refine (CE1.out _ HV2.out).mono ?_
            rintro e w3 ⟨rfl, hb3⟩
            have I3 := Lib.hid (I2.out.next hb3)
            have I4 := Lib.hid (I3.out.put hbe HD.out.1 HD.out.2)
            clear c0 c1 c2 lc hb3 I2 HV2
            obtain ⟨z0, z1, y0, y1, lz⟩ := two_cells I3.out.hp
            clear I3 hbe HBe
            go_wp2_with fail
            go_roundw
            case rel =>
              refine ⟨s + 1, by omega, by go_num, ?_, ?_⟩
              · rw [show l * S + (s + 1) = t + 1 from by have := HT.out; omega, HMo2.out]
              · rw [show l * S + (s + 1) = t + 1 from by have := HT.out; omega]; exact I4
            case measure => simp [intOf]; omega
          · have hbe := HBe.out.2 hME
            have HMo2 : Hid (mostAt zs (t + 1) = M) := HMo.out.trans (if_neg hME)
            go_wp2_with fail
            refine (CE1.out _ HV1.out).mono ?_
            rintro e w2 ⟨rfl, hb2⟩
            have I2 := Lib.hid ((IS.out.next hb2).keep hbe)
            clear c0 c1 c2 lc hb2 IS HV1 hbe HBe
            go_wp2_with fail
            go_roundw
            case rel =>
              refine ⟨s + 1, by omega, by go_num, ?_, ?_⟩
              · rw [show l * S + (s + 1) = t + 1 from by have := HT.out; omega, HMo2.out]
              · rw [show l * S + (s + 1) = t + 1 from by have := HT.out; omega]; exact I2
            case measure => simp [intOf]; omega
        · have e : S = s := by omega
          subst e
          have IN : Hid (PkInv zs L S (.slice va n vc) w ((l + 1) * S) wz) := by
            unfold Hid
            rw [Nat.succ_mul]; exact IS.out
          have HE : Hid (mostAt zs (l * S + S) = mostAt zs ((l + 1) * S)) := by unfold Hid; rw [Nat.succ_mul]
          obtain ⟨M, hM⟩ : ∃ M, M = mostAt zs (l * S + S) := ⟨_, rfl⟩
          rw [← hM] at HE ⊢
          clear IS hM
          go_wp2_with fail
          go_roundw
          case rel => exact ⟨l + 1, by omega, by go_num, by rw [HE.out], IN.out⟩
          case measure => simp [intOf]; omega
    · have e : L = l := by omega
      subst e
      have hM : mostAt zs (L * S) = EE := by
        rw [← HN.out.2]
        unfold mostAt
        rw [if_neg (by omega), ← HQ.out.1, ← HQ.out.2.2.2]
      rw [hM]
      have hpp := IK.out.hp
      rw [← HN.out.2, ← HQ.out.1, ← HQ.out.2.1, ← HQ.out.2.2.1] at hpp
      obtain ⟨x0, x1, -, -, lx⟩ := two_cells hpp
      obtain ⟨z0, z1, y0, y1, lz⟩ := two_cells IK.out.hr
      have HBo := Lib.hid IK.out.hb
      clear IK hM hpp
      go_wp2_with fail
      refine bodyPost_ret (v := .tuple #[.agg #[.int .i64 bq, .int .i64 br], .int .i64 EE]) (by simp [results, Tryd.results27, go_sem, z0, z1]) rfl ⟨rfl, ?_⟩
      exact (HBo.out.setCell (p := ⟨w.heap.size + 1, 0, none⟩) (by show w.heap.size ≤ w.heap.size + 1; omega) _).setCell (p := ⟨w.heap.size + 1, 1, none⟩) (by show w.heap.size ≤ w.heap.size + 1; omega) _
end Go.Proofs.YtmmmaanflmgblaaDoor
