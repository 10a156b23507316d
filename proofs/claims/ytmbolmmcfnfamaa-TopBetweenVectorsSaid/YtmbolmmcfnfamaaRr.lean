import Derived.Test.YtmbolmmcfnfamaaRq
import Derived.Outline
import Derived.IntWalk
import Derived.BigQuiet
namespace Go.Proofs.Ytmbolmmcfnfamaa.Orb
open Go.RowKit Lib


set_option maxRecDepth 100000 in
set_option maxHeartbeats 4000000 in
/-- THE REFERENCE's CHECK -/
theorem refCheckOrbit_any (v : Value) (nm : ByteArray) (hs : nm.size ≤ 1000) (bend : Int) (L : List St) (w : World) (hv : OV w v nm bend L) :
    Calls Try.prog 44 #[v] w fun e w' => e = .returned (.tuple #[.int .i64 (orbE (nameE nm) bend L).1, .int .i64 (orbE (nameE nm) bend L).2]) ∧ Below w.heap.size w w' := by
  obtain ⟨p, cap, rfl, hcap, hcap2, hS⟩ := hv.form
  obtain ⟨n, hn⟩ : ∃ n, n = L.length := ⟨_, rfl⟩
  rw [← hn] at hcap hS ⊢
  have C1 := Lib.hid (fun W => IsName_any nm hs W)
  have C2 := Lib.hid (fun W => isError_any bend W)
  have hw : (nameB nm = false ∧ orbE (nameE nm) bend L = (0, 4)) ∨ (nameB nm = true ∧ decide (0 ≤ bend ∧ bend ≤ 100000) = false ∧ orbE (nameE nm) bend L = (0, 2)) ∨
      (nameB nm = true ∧ decide (0 ≤ bend ∧ bend ≤ 100000) = true ∧ n < 2 ∧ orbE (nameE nm) bend L = (0, 10)) ∨ (nameB nm = true ∧ decide (0 ≤ bend ∧ bend ≤ 100000) = true ∧ ¬ n < 2 ∧ 40 < n ∧ orbE (nameE nm) bend L = (0, 8)) ∨
      (nameB nm = true ∧ decide (0 ≤ bend ∧ bend ≤ 100000) = true ∧ 2 ≤ n ∧ n ≤ 40 ∧ orbE (nameE nm) bend L = chkFrom L 0) := by
    unfold orbE nameE
    cases h1 : nameB nm with
    | false => left; exact ⟨rfl, rfl⟩
    | true =>
      right
      rw [if_pos rfl]
      by_cases h2 : 0 ≤ bend ∧ bend ≤ 100000
      · right
        have z2 : rangeE bend 0 100000 = 0 := if_pos h2
        rw [z2, ← hn]
        by_cases h3 : n < 2
        · left
          have z3 : countE (n : Int) = 10 := if_pos (by omega)
          rw [z3]; exact ⟨rfl, decide_eq_true h2, h3, rfl⟩
        · right
          by_cases h4 : 40 < n
          · left
            have z3 : countE (n : Int) = 8 := by unfold countE; rw [if_neg (by omega), if_pos (by omega)]
            rw [z3]; exact ⟨rfl, decide_eq_true h2, h3, h4, rfl⟩
          · right
            have z3 : countE (n : Int) = 0 := by unfold countE; rw [if_neg (by omega), if_neg (by omega)]
            rw [z3]; exact ⟨rfl, decide_eq_true h2, by omega, by omega, rfl⟩
      · left
        have z2 : rangeE bend 0 100000 = 2 := if_neg h2
        rw [z2]; exact ⟨rfl, decide_eq_false h2, rfl⟩
  obtain ⟨R1, R2, hR⟩ : ∃ R1 R2, (R1, R2) = orbE (nameE nm) bend L := ⟨_, _, rfl⟩
  rw [← hR] at hw ⊢
  clear hR
  generalize nameB nm = B1 at *
  generalize decide (0 ≤ bend ∧ bend ≤ 100000) = B2 at *
  have HL := Lib.hid hn
  have HS := Lib.hid hS
  obtain ⟨W0, hW0⟩ : ∃ W0, W0 = w.alloc (.cells #[.string nm, .int .i64 bend, .slice p n cap] 24) := ⟨_, rfl⟩
  have HW0 := Lib.hid hW0
  have HB := Lib.hid (show Below w.heap.size w W0 by rw [hW0]; exact new_below _ _)
  have HK := Lib.hid (show W0.heap[w.heap.size]? = some (.cells #[.string nm, .int .i64 bend, .slice p n cap] 24 (0, 0)) by rw [hW0]; exact heap_alloc_new _ _)
  clear hn hS hv hW0
  obtain ⟨k0, k1, k2⟩ := cells3 HK.out
  rcases hw with ⟨rfl, hE⟩ | ⟨rfl, rfl, hE⟩ | ⟨rfl, rfl, h3, hE⟩ | ⟨rfl, rfl, h3, h4, hE⟩ | ⟨rfl, rfl, h3, h4, hE⟩
  all_goals
    have HE := Lib.hid hE
    clear hE
    go_enter Try.func44, Try.ntmps44
    go_wp2_with fail
    rw [← HW0.out]
    refine (C1.out _).mono ?_
    rintro e w1 ⟨rfl, rfl⟩
    go_wp2_with fail
  · go_ret2
    exact ⟨by cases HE.out; rfl, HB.out⟩
  all_goals
    refine (C2.out _).mono ?_
    rintro e w1 ⟨rfl, rfl⟩
    go_wp2_with fail
  · go_ret2
    exact ⟨by cases HE.out; rfl, HB.out⟩
  · go_ret2
    exact ⟨by cases HE.out; rfl, HB.out⟩
  · go_ret2
    exact ⟨by cases HE.out; rfl, HB.out⟩
  · obtain ⟨b, o, rfl, hSt⟩ := HS.out (by omega)
    have HST := Lib.hid hSt
    clear hSt HS C1 C2
    go_loopw [4] (fun i wr => ∃ k : Nat, k ≤ n ∧ i = .int .i64 k ∧ Hid (Below w.heap.size w wr ∧ wr.heap[w.heap.size]? = some (.cells #[.string nm, .int .i64 bend, .slice (some ⟨b, o, none⟩) n cap] 24 (0, 0))) ∧ Hid ((R1, R2) = chkFrom L k) ∧ Hid (∀ j, j < k → stepE L j = 0)) (fun i _ => n - (intV i).toNat)
    case atStart => exact ⟨0, Nat.zero_le _, rfl, ⟨HB.out, HK.out⟩, HE.out, fun j h => absurd h (Nat.not_lt_zero j)⟩
    case round =>
      obtain ⟨k, hk, rfl, HW, HX, HP⟩ := hrel
      obtain ⟨wz, rfl⟩ : ∃ wz : World, wz = wr := ⟨_, rfl⟩
      clear k0 k1 k2
      obtain ⟨k0, k1, k2⟩ := cells3 HW.out.2
      have hsz : w.heap.size < wz.heap.size := lt_of_block HW.out.2
      by_cases hlt : k < n
      case neg =>
        have HF : Hid ((R1, R2) = ((0 : Int), (0 : Int))) := HX.out.trans (chkFrom_end L k (by have := HL.out; omega))
        go_wp2_with fail
        go_ret2
        exact ⟨by cases HF.out; rfl, HW.out.1⟩
      obtain ⟨c0, c1, c2, c3, c4⟩ := (HST.out.next HW.out.1) k (by have := HL.out; omega)
      have HP2 : Hid (stepE L k = 0 → ∀ j, j < k + 1 → stepE L j = 0) := by
        intro h j hj
        by_cases e : j = k
        · rw [e]; exact h
        · exact HP.out j (by omega)
      have HG : Hid (0 < k → 0 ≤ (gt L 0).t ∧ (gt L 0).t ≤ 1000000000 ∧ 0 ≤ (gt L (k - 1)).t ∧ (gt L (k - 1)).t ≤ 1000000000) := by
        intro h
        have key : ∀ j, j < k → StOk (gt L j) := by
          intro j hj
          have := HP.out j hj
          unfold stepE at this
          rw [firstE_zero_iff] at this
          exact (stE_zero _).1 (this _ (by simp))
        exact ⟨(key 0 h).t0, (key 0 h).t1, (key (k - 1) (by omega)).t0, (key (k - 1) (by omega)).t1⟩
      have CSt := Lib.hid (fun W => CheckState_any (gt L k).t (gt L k).x (gt L k).y (gt L k).z (gt L k).e W)
      have eta : stE ⟨(gt L k).t, (gt L k).x, (gt L k).y, (gt L k).z, (gt L k).e⟩ = stE (gt L k) := rfl
      rw [eta] at CSt
      have HX1 : Hid (stepE L k = 0 → (R1, R2) = chkFrom L (k + 1)) := fun h => HX.out.trans (chkFrom_step L k (by have := HL.out; omega) h)
      have HX2 : Hid (stepE L k ≠ 0 → (R1, R2) = ((k : Int), stepE L k)) := fun h => HX.out.trans (chkFrom_bad L k (by have := HL.out; omega) h)
      -- the five ways
      have hw : (∃ e, stE (gt L k) = e ∧ (e != 0) = true ∧ Hid ((R1, R2) = ((k : Int), e))) ∨ (stE (gt L k) = 0 ∧ 0 ≤ (gt L k).t ∧ (gt L k).t ≤ 1000000000 ∧
          ((k = 0 ∧ Hid (stepE L k = 0)) ∨ (0 < k ∧ (gt L k).t ≤ (gt L (k - 1)).t ∧ Hid ((R1, R2) = ((k : Int), 9))) ∨ (0 < k ∧ ¬ (gt L k).t ≤ (gt L (k - 1)).t ∧ 20000 < (gt L k).t - (gt L 0).t ∧ Hid ((R1, R2) = ((k : Int), 8))) ∨ (0 < k ∧ ¬ (gt L k).t ≤ (gt L (k - 1)).t ∧ ¬ 20000 < (gt L k).t - (gt L 0).t ∧ Hid (stepE L k = 0)))) := by
        by_cases h : stE (gt L k) = 0
        · right
          have hok := (stE_zero _).1 h
          refine ⟨h, hok.t0, hok.t1, ?_⟩
          have hst : stepE L k = orderE L k (gt L k).t := by
            unfold stepE; rw [h]
            show (if (0 : Int) = 0 then firstE [orderE L k (gt L k).t] else 0) = _
            rw [if_pos rfl]
            show (if orderE L k (gt L k).t = 0 then 0 else orderE L k (gt L k).t) = _
            split
            · rename_i h9; exact h9.symm
            · rfl
          by_cases hk0 : k = 0
          · left; exact ⟨hk0, by unfold Hid; rw [hst, hk0]; rfl⟩
          · right
            by_cases a1 : (gt L k).t ≤ (gt L (k - 1)).t
            · left
              have h9 : stepE L k = 9 := by rw [hst]; unfold orderE; rw [if_neg hk0, if_pos a1]
              exact ⟨by omega, a1, by unfold Hid; have := HX2.out (by rw [h9]; decide); rw [h9] at this; exact this⟩
            · right
              by_cases a2 : 20000 < (gt L k).t - (gt L 0).t
              · left
                have h8 : stepE L k = 8 := by rw [hst]; unfold orderE; rw [if_neg hk0, if_neg a1, if_pos a2]
                exact ⟨by omega, a1, a2, by unfold Hid; have := HX2.out (by rw [h8]; decide); rw [h8] at this; exact this⟩
              · right
                have h0 : stepE L k = 0 := by rw [hst]; unfold orderE; rw [if_neg hk0, if_neg a1, if_neg a2]
                exact ⟨by omega, a1, a2, h0⟩
        · left
          refine ⟨_, rfl, by rw [bne_iff_ne]; exact h, ?_⟩
          have hst : stepE L k = stE (gt L k) := if_neg h
          have := HX2.out (by rw [hst]; exact h)
          rw [hst] at this
          exact this
      have HC0 : Hid (∀ W, Below w.heap.size w W → W.cell? ⟨b, o, none⟩ = some (.int .i64 (gt L 0).t)) := by
        intro W hW
        have := (HST.out.next hW 0 (by have := HL.out; omega)).1
        rw [Nat.zero_mul, Nat.add_zero] at this
        exact this
      have HCP : Hid (∀ W, Below w.heap.size w W → W.cell? ⟨b, o + (k - 1) * 5, none⟩ = some (.int .i64 (gt L (k - 1)).t)) := fun W hW => (HST.out.next hW (k - 1) (by have := HL.out; omega)).1
      have hZ : Hid (k = 0 → (gt L 0).t = (gt L k).t) := by intro h; rw [h]
      have G2 : 0 < k → 0 ≤ (gt L 0).t ∧ (gt L 0).t ≤ 1000000000 := fun h => ⟨(HG.out h).1, (HG.out h).2.1⟩
      clear HX eta HG HX2
      generalize stE (gt L k) = e4 at *
      generalize (gt L (k - 1)).t = xp at *
      generalize (gt L 0).t = x0 at *
      generalize (gt L k).t = xt at *
      generalize (gt L k).x = xx at *
      generalize (gt L k).y = xy at *
      generalize (gt L k).z = xz at *
      generalize (gt L k).e = xe at *
      rcases hw with ⟨e, rfl, hne, HF⟩ | ⟨rfl, t0, t1, hw⟩
      all_goals
        go_wp2_with fail
        obtain ⟨W3, hW3⟩ : ∃ W3, W3 = wz.alloc (.cells #[.int .i64 xt, .int .i64 xx, .int .i64 xy, .int .i64 xz, .int .i64 xe] 45) := ⟨_, rfl⟩
        have hbz : Below wz.heap.size wz W3 := by rw [hW3]; exact new_below _ _
        have HB3 := Lib.hid (trans' HW.out.1 hbz)
        have HK3 := Lib.hid (keepb hbz HW.out.2)
        have HS3 := Lib.hid (show W3.heap[wz.heap.size]? = some (.cells #[.int .i64 xt, .int .i64 xx, .int .i64 xy, .int .i64 xz, .int .i64 xe] 45 (0, 0)) by rw [hW3]; exact heap_alloc_new _ _)
        rw [← hW3]
        clear hW3 hbz c0 c1 c2 c3 c4 k0 k1 k2 HW
        refine (CSt.out _).mono ?_
        rintro e w4 ⟨rfl, hb⟩
        have HB4 := Lib.hid (trans' HB3.out hb)
        have HK4 := Lib.hid (keepb hb HK3.out)
        have HS4 := Lib.hid (keepb hb HS3.out)
        clear hb HB3 HK3 HS3
        obtain ⟨k0, k1, k2⟩ := cells3 HK4.out
        obtain ⟨c0, c1, c2, c3, c4⟩ := cells5 HS4.out
        go_wp2_with fail
      · go_ret2
        exact ⟨by cases HF.out; rfl, HB4.out⟩
      · have z0 := HC0.out w4 HB4.out
        rcases hw with ⟨hk0, HF⟩ | ⟨hk0, a1, HF⟩ | ⟨hk0, a1, a2, HF⟩ | ⟨hk0, a1, a2, HF⟩
        · have hx : x0 = xt := hZ.out hk0
          have hg : decide (0 < k) = false := by rw [decide_eq_false_iff_not]; omega
          subst hx
          have hk0' := Lib.hid hk0
          clear hk0
          go_quiet (fail)
          clear hg
          go_wp2_with fail
          obtain ⟨wq, hwq⟩ : ∃ wq, wq = w4.drewN nq := ⟨_, rfl⟩
          have hbq : Below w4.heap.size w4 wq := by rw [hwq]; (repeat (first | with_reducible exact Below.refl _ _ | with_reducible refine alloc1 ?_ _ | with_reducible refine Below.drew ?_ | with_reducible refine drewN1 ?_ _ | with_reducible refine setC ?_ (by omega) _))
          rw [← hwq]
          have HB5 := Lib.hid (trans' HB4.out hbq)
          have HK5 := Lib.hid (keepb hbq HK4.out)
          have HS5 := Lib.hid (keepb hbq HS4.out)
          clear hwq hbq k0 k1 k2 c0 c1 c2 c3 c4 z0
          obtain ⟨k0, k1, k2⟩ := cells3 HK5.out
          obtain ⟨c0, c1, c2, c3, c4⟩ := cells5 HS5.out
          have z0 := HC0.out wq HB5.out
          have hn0 : (0 : Int) < (n : Int) := by omega
          have wd : IntKind.i64.wrap (x0 - x0) = x0 - x0 := IntWalk.i64_in _ (by omega)
          go_quiet (fail)
          clear wd
          go_wp2_with fail
          go_roundw
          case rel => exact ⟨k + 1, by omega, by go_num, ⟨trans' HB5.out (by (repeat (first | with_reducible exact Below.refl _ _ | with_reducible refine alloc1 ?_ _ | with_reducible refine Below.drew ?_ | with_reducible refine drewN1 ?_ _ | with_reducible refine setC ?_ (by omega) _))), keepb (by (repeat (first | with_reducible exact Below.refl _ _ | with_reducible refine alloc1 ?_ _ | with_reducible refine Below.drew ?_ | with_reducible refine drewN1 ?_ _ | with_reducible refine setC ?_ (by omega) _))) HK5.out⟩, HX1.out HF.out, HP2.out HF.out⟩
          case measure => simp [intV]; omega
        · have g2 := G2 hk0
          have hg : decide (0 < k) = true := by rw [decide_eq_true_eq]; exact hk0
          have zp := HCP.out w4 HB4.out
          have y1 : IntKind.i64.wrap ((k : Int) - 1) = (k : Int) - 1 := IntWalk.i64_in _ (by omega)
          have y2 : ((k : Int) - 1).toNat = k - 1 := by omega
          have y3 : (0 : Int) ≤ (k : Int) - 1 := by omega
          have y4 : (k : Int) - 1 < (n : Int) := by omega
          go_quiet (fail)
          clear y1 y2 y3 y4 zp hg
          go_wp2_with fail
          go_ret2
          exact ⟨by cases HF.out; rfl, trans' HB4.out (by (repeat (first | with_reducible exact Below.refl _ _ | with_reducible refine alloc1 ?_ _ | with_reducible refine Below.drew ?_ | with_reducible refine drewN1 ?_ _ | with_reducible refine setC ?_ (by omega) _)))⟩
        · have g2 := G2 hk0
          have hg : decide (0 < k) = true := by rw [decide_eq_true_eq]; exact hk0
          have zp := HCP.out w4 HB4.out
          have y1 : IntKind.i64.wrap ((k : Int) - 1) = (k : Int) - 1 := IntWalk.i64_in _ (by omega)
          have y2 : ((k : Int) - 1).toNat = k - 1 := by omega
          have y3 : (0 : Int) ≤ (k : Int) - 1 := by omega
          have y4 : (k : Int) - 1 < (n : Int) := by omega
          go_quiet (fail)
          clear y1 y2 y3 y4 zp hg
          go_wp2_with fail
          obtain ⟨wq, hwq⟩ : ∃ wq, wq = w4.drewN nq := ⟨_, rfl⟩
          have hbq : Below w4.heap.size w4 wq := by rw [hwq]; (repeat (first | with_reducible exact Below.refl _ _ | with_reducible refine alloc1 ?_ _ | with_reducible refine Below.drew ?_ | with_reducible refine drewN1 ?_ _ | with_reducible refine setC ?_ (by omega) _))
          rw [← hwq]
          have HB5 := Lib.hid (trans' HB4.out hbq)
          have HK5 := Lib.hid (keepb hbq HK4.out)
          have HS5 := Lib.hid (keepb hbq HS4.out)
          clear hwq hbq k0 k1 k2 c0 c1 c2 c3 c4 z0
          obtain ⟨k0, k1, k2⟩ := cells3 HK5.out
          obtain ⟨c0, c1, c2, c3, c4⟩ := cells5 HS5.out
          have z0 := HC0.out wq HB5.out
          have hn0 : (0 : Int) < (n : Int) := by omega
          have wd : IntKind.i64.wrap (xt - x0) = xt - x0 := IntWalk.i64_in _ (by omega)
          go_quiet (fail)
          clear wd
          go_wp2_with fail
          go_ret2
          exact ⟨by cases HF.out; rfl, trans' HB5.out (by (repeat (first | with_reducible exact Below.refl _ _ | with_reducible refine alloc1 ?_ _ | with_reducible refine Below.drew ?_ | with_reducible refine drewN1 ?_ _ | with_reducible refine setC ?_ (by omega) _)))⟩
        · have g2 := G2 hk0
          have hg : decide (0 < k) = true := by rw [decide_eq_true_eq]; exact hk0
          have zp := HCP.out w4 HB4.out
          have y1 : IntKind.i64.wrap ((k : Int) - 1) = (k : Int) - 1 := IntWalk.i64_in _ (by omega)
          have y2 : ((k : Int) - 1).toNat = k - 1 := by omega
          have y3 : (0 : Int) ≤ (k : Int) - 1 := by omega
          have y4 : (k : Int) - 1 < (n : Int) := by omega
          go_quiet (fail)
          clear y1 y2 y3 y4 zp hg
          go_wp2_with fail
          obtain ⟨wq, hwq⟩ : ∃ wq, wq = w4.drewN nq := ⟨_, rfl⟩
          have hbq : Below w4.heap.size w4 wq := by rw [hwq]; (repeat (first | with_reducible exact Below.refl _ _ | with_reducible refine alloc1 ?_ _ | with_reducible refine Below.drew ?_ | with_reducible refine drewN1 ?_ _ | with_reducible refine setC ?_ (by omega) _))
          rw [← hwq]
          have HB5 := Lib.hid (trans' HB4.out hbq)
          have HK5 := Lib.hid (keepb hbq HK4.out)
          have HS5 := Lib.hid (keepb hbq HS4.out)
          clear hwq hbq k0 k1 k2 c0 c1 c2 c3 c4 z0
          obtain ⟨k0, k1, k2⟩ := cells3 HK5.out
          obtain ⟨c0, c1, c2, c3, c4⟩ := cells5 HS5.out
          have z0 := HC0.out wq HB5.out
          have hn0 : (0 : Int) < (n : Int) := by omega
          have wd : IntKind.i64.wrap (xt - x0) = xt - x0 := IntWalk.i64_in _ (by omega)
          go_quiet (fail)
          clear wd
          go_wp2_with fail
          go_roundw
          case rel => exact ⟨k + 1, by omega, by go_num, ⟨trans' HB5.out (by (repeat (first | with_reducible exact Below.refl _ _ | with_reducible refine alloc1 ?_ _ | with_reducible refine Below.drew ?_ | with_reducible refine drewN1 ?_ _ | with_reducible refine setC ?_ (by omega) _))), keepb (by (repeat (first | with_reducible exact Below.refl _ _ | with_reducible refine alloc1 ?_ _ | with_reducible refine Below.drew ?_ | with_reducible refine drewN1 ?_ _ | with_reducible refine setC ?_ (by omega) _))) HK5.out⟩, HX1.out HF.out, HP2.out HF.out⟩
          case measure => simp [intV]; omega
end Go.Proofs.Ytmbolmmcfnfamaa.Orb
