import Derived.Test.YtodpjhhogcfodaaYb
import Derived.Test.YtodpjhhogcfodaaYh
import Derived.Test.YtodpjhhogcfodaaRl
import Derived.BigQuiet
import Derived.StillTailTactics
import Derived.IntWalk
import Derived.Deep.RegionHeld3
import Derived.Outline
namespace Go.Proofs.Ytodpjhhogcfodaa.Orb
open Go.RowKit Lib

theorem tri_read {w : World} {b k : Nat} {N : Nat → Int} {t : TypeId} (hk : k < 3) (h : w.heap[b]? = some (.cells #[.int .i64 (N 0), .int .i64 (N 1), .int .i64 (N 2)] t (0, 0))) :
    w.cell? ⟨b, k, none⟩ = some (.int .i64 (N k)) := by
  rw [cell_of_row _ _ _ _ _ _ h]
  match k, hk with
  | 0, _ => rfl
  | 1, _ => rfl
  | 2, _ => rfl

set_option maxRecDepth 100000 in
set_option maxHeartbeats 8000000 in
/-- THE REFERENCE'S SQUARES -/
theorem refSquaresC_any (LO HI CO : Nat → Int) (hB : ∀ k, k < 3 → (-110000000 ≤ LO k ∧ LO k ≤ 110000000) ∧ (-110000000 ≤ HI k ∧ HI k ≤ 110000000) ∧ (-100000000 ≤ CO k ∧ CO k ≤ 100000000)) (hle : ∀ k, k < 3 → LO k ≤ HI k) (w : World) :
    Calls Try.prog 30 #[.agg #[.int .i64 (LO 0), .int .i64 (HI 0), .int .i64 (LO 1), .int .i64 (HI 1), .int .i64 (LO 2), .int .i64 (HI 2)], .agg #[.int .i64 (CO 0), .int .i64 (CO 1), .int .i64 (CO 2)]] w fun e w' => e = .returned (.agg #[.int .i64 (sqLo LO HI CO 3), .int .i64 (sqHi LO HI CO 3)]) ∧ Below w.heap.size w w' := by
  have CC := Lib.hid (fun W => refCoordinates_any (CO 0) (CO 1) (CO 2) W)
  have HBD := Lib.hid hB
  have HLE := Lib.hid hle
  have HSZ := Lib.hid (sq_size LO HI CO hB)
  have HSL := Lib.hid (fun k => show sqLo LO HI CO (k + 1) = sqLo LO HI CO k + near1 (LO k) (HI k) (CO k) * near1 (LO k) (HI k) (CO k) from rfl)
  have HSH := Lib.hid (fun k => show sqHi LO HI CO (k + 1) = sqHi LO HI CO k + far1 (LO k) (HI k) (CO k) * far1 (LO k) (HI k) (CO k) from rfl)
  have HS0 := Lib.hid (show sqLo LO HI CO 0 = 0 ∧ sqHi LO HI CO 0 = 0 from ⟨rfl, rfl⟩)
  clear hB hle
  generalize sqLo LO HI CO = SL at *
  generalize sqHi LO HI CO = SH at *
  go_enter Try.func30, Try.ntmps30
  go_wp2_with fail
  obtain ⟨W0, hW0⟩ : ∃ W0, W0 = (((w.alloc (.cells #[.int .i64 (LO 0), .int .i64 (HI 0), .int .i64 (LO 1), .int .i64 (HI 1), .int .i64 (LO 2), .int .i64 (HI 2)] 49)).alloc (.cells #[.int .i64 (CO 0), .int .i64 (CO 1), .int .i64 (CO 2)] 26)).alloc (.cells #[.int .i64 0, .int .i64 0] 42)).alloc (.cells #[.int .i64 0, .int .i64 0] 42) := ⟨_, rfl⟩
  rw [← hW0]
  have HB0 := Lib.hid (show Below w.heap.size w W0 by rw [hW0]; (repeat (first | with_reducible exact Below.refl _ _ | with_reducible refine alloc1 ?_ _ | with_reducible refine Below.drew ?_ | with_reducible refine drewN1 ?_ _ | with_reducible refine setC ?_ (by omega) _)))
  have HX0 := Lib.hid (show W0.heap[w.heap.size]? = some (.cells (boxCells LO HI 3) 49 (0, 0)) by
    have : W0.heap[w.heap.size]? = some (.cells #[.int .i64 (LO 0), .int .i64 (HI 0), .int .i64 (LO 1), .int .i64 (HI 1), .int .i64 (LO 2), .int .i64 (HI 2)] 49 (0, 0)) := by rw [hW0]; (repeat (first | ((with_reducible refine hnew ?_); (simp; done)) | with_reducible refine hdrew ?_ | with_reducible refine hold ?_))
    exact this)
  have HQ0 := Lib.hid (show W0.heap[w.heap.size + 1 + 1]? = some (.cells #[.int .i64 0, .int .i64 0] 42 (0, 0)) by rw [hW0]; (repeat (first | ((with_reducible refine hnew ?_); (simp; done)) | with_reducible refine hdrew ?_ | with_reducible refine hold ?_)))
  have HU0 := Lib.hid (show W0.heap[w.heap.size + 1 + 1 + 1]? = some (.cells #[.int .i64 0, .int .i64 0] 42 (0, 0)) by rw [hW0]; (repeat (first | ((with_reducible refine hnew ?_); (simp; done)) | with_reducible refine hdrew ?_ | with_reducible refine hold ?_)))
  clear hW0
  refine (CC.out _).mono ?_
  rintro e w1 ⟨rfl, hb⟩
  have HB1 := Lib.hid (trans' HB0.out hb)
  have HX1 := Lib.hid (keepb hb HX0.out)
  have HQ1 := Lib.hid (keepb hb HQ0.out)
  have HU1 := Lib.hid (keepb hb HU0.out)
  clear hb HB0 HX0 HQ0 HU0 CC
  go_upto_region 3 with fail
  obtain ⟨W2, hW2⟩ : ∃ W2, W2 = w1.alloc (.cells #[.int .i64 (CO 0), .int .i64 (CO 1), .int .i64 (CO 2)] 82) := ⟨_, rfl⟩
  rw [← hW2]
  have hb2 : Below w1.heap.size w1 W2 := by rw [hW2]; exact new_below _ _
  have HA2 := Lib.hid (show W2.heap[w1.heap.size]? = some (.cells #[.int .i64 (CO 0), .int .i64 (CO 1), .int .i64 (CO 2)] 82 (0, 0)) by rw [hW2]; exact heap_alloc_new _ _)
  have HB2 := Lib.hid (trans' HB1.out hb2)
  have HX2 := Lib.hid (keepb hb2 HX1.out)
  have HQ2 := Lib.hid (keepb hb2 HQ1.out)
  have HU2 := Lib.hid (keepb hb2 HU1.out)
  have HLT := Lib.hid (lt_of_block HU1.out)
  clear hW2 hb2 HB1 HX1 HQ1 HU1
  go_wp2_with fail
  go_loopw [7] (fun i wr => ∃ k : Nat, k ≤ 3 ∧ i = .int .i64 k ∧ Hid (Below w.heap.size w wr) ∧ Hid (wr.heap[w.heap.size]? = some (.cells (boxCells LO HI 3) 49 (0, 0))) ∧ Hid (wr.heap[w1.heap.size]? = some (.cells #[.int .i64 (CO 0), .int .i64 (CO 1), .int .i64 (CO 2)] 82 (0, 0))) ∧ Hid (wr.heap[w.heap.size + 1 + 1]? = some (.cells #[.int .i64 0, .int .i64 0] 42 (0, 0))) ∧ Hid (wr.heap[w.heap.size + 1 + 1 + 1]? = some (.cells #[.int .i64 (SL k), .int .i64 (SH k)] 42 (0, 0)))) (fun i _ => 3 - (intV i).toNat)
  case atStart => exact ⟨0, Nat.zero_le _, rfl, HB2, HX2, HA2, HQ2, by rw [HS0.out.1, HS0.out.2]; exact HU2⟩
  case round =>
    obtain ⟨k, hk, rfl, HBZ, HXZ, HAZ, HQZ, HUZ⟩ := hrel
    obtain ⟨wz, rfl⟩ : ∃ wz : World, wz = wr := ⟨_, rfl⟩
    clear HB2 HX2 HA2 HQ2 HU2
    by_cases hlt : k < 3
    · obtain ⟨r0, r1⟩ := box_read hlt HXZ.out
      have a0 := tri_read hlt HAZ.out
      obtain ⟨⟨b1, b2⟩, ⟨b3, b4⟩, b5, b6⟩ := HBD.out k hlt
      have hlh := HLE.out k hlt
      obtain ⟨n1, n2, n3, n4⟩ := near1_bd (LO k) (HI k) (CO k) b1 b2 b3 b4 b5 b6
      have q1 := sq_bd (near1 (LO k) (HI k) (CO k)) (by omega) (by omega)
      have q2 := sq_bd (far1 (LO k) (HI k) (CO k)) (by omega) (by omega)
      obtain ⟨p1, p2, p3, p4⟩ := HSZ.out k hk
      have rn := ref_near (LO k) (HI k) (CO k) hlh
      have rf := ref_far (LO k) (HI k) (CO k) hlh
      have d1 : near1 (LO k) (HI k) (CO k) = max (max 0 (LO k - CO k)) (CO k - HI k) := rfl
      have d2 : far1 (LO k) (HI k) (CO k) = max (HI k - CO k) (CO k - LO k) := rfl
      rw [← d1] at rn
      rw [← d2] at rf
      have s1 := HSL.out k
      have s2 := HSH.out k
      rw [← rn] at s1 q1
      rw [← rf] at s2 q2
      have g1 := sq_bd (CO k - LO k) (by omega) (by omega)
      have g2 := sq_bd (CO k - HI k) (by omega) (by omega)
      clear rn rf d1 d2 n1 n2 n3 n4
      generalize hav : (CO k - LO k) * (CO k - LO k) = A2 at *
      generalize hbv : (CO k - HI k) * (CO k - HI k) = B2 at *
      have e3 : IntKind.i64.wrap ((CO k - LO k) * (CO k - LO k)) = A2 := by rw [hav]; exact IntWalk.i64_in _ (by omega)
      have e4 : IntKind.i64.wrap ((CO k - HI k) * (CO k - HI k)) = B2 := by rw [hbv]; exact IntWalk.i64_in _ (by omega)
      have S1 := Lib.hid s1
      have S2 := Lib.hid s2
      have CW := Lib.hid (fun W => Within_any (CO k) (LO k) (HI k) W)
      clear s1 s2 hav hbv
      generalize LO k = lk at *
      generalize HI k = hk' at *
      generalize CO k = ck at *
      generalize SL k = sl at *
      generalize SH k = sh at *
      have e1 : IntKind.i64.wrap (ck - lk) = ck - lk := IntWalk.i64_in _ (by omega)
      have e2 : IntKind.i64.wrap (ck - hk') = ck - hk' := IntWalk.i64_in _ (by omega)
      have x0 : (0 : Int) ≤ (k : Int) := by omega
      have x1 : (k : Int) < 3 := by omega
      have HRD := Lib.hid (And.intro r0 (And.intro r1 a0))
      go_upto_region 6 with fail
      go_quiet (fail)
      obtain ⟨wq, hwq⟩ : ∃ wq, wq = wz.drewN nq := ⟨_, rfl⟩
      have hbq : Below wz.heap.size wz wq := by rw [hwq]; (repeat (first | with_reducible exact Below.refl _ _ | with_reducible refine alloc1 ?_ _ | with_reducible refine Below.drew ?_ | with_reducible refine drewN1 ?_ _ | with_reducible refine setC ?_ (by omega) _))
      rw [← hwq]
      have HXQ := Lib.hid (keepb hbq HXZ.out)
      have HAQ := Lib.hid (keepb hbq HAZ.out)
      have HQQ := Lib.hid (keepb hbq HQZ.out)
      have HUQ := Lib.hid (keepb hbq HUZ.out)
      have HBQ := Lib.hid (trans' HBZ.out hbq)
      have r0 := keepc hbq HRD.out.1
      have r1 := keepc hbq HRD.out.2.1
      have a0 := keepc hbq HRD.out.2.2
      clear hwq hbq HXZ HAZ HQZ HUZ HBZ HRD
      have HRQ := Lib.hid (And.intro r0 (And.intro r1 a0))
      generalize hin : decide (lk ≤ ck ∧ ck ≤ hk') = inb at *
      have HIN := Lib.hid hin
      clear hin
      go_upto_region 7 with fail
      go_region_held3 (fun W => W.cell? ⟨w.heap.size, k * 2, none⟩ = some (.int .i64 lk) ∧ W.cell? ⟨w.heap.size, k * 2 + 1, none⟩ = some (.int .i64 hk') ∧ W.cell? ⟨w1.heap.size, k, none⟩ = some (.int .i64 ck)) (with_reducible refine ⟨keepc ?_ r0, keepc ?_ r1, keepc ?_ a0⟩ <;> (repeat (first | with_reducible exact Below.refl _ _ | with_reducible refine alloc1 ?_ _ | with_reducible refine Below.drew ?_ | with_reducible refine drewN1 ?_ _ | with_reducible refine setC ?_ (by omega) _)) <;> done)
        (first
          | (go_at_call 20; (with_reducible refine (CW.out _).mono ?_); rintro e w1 ⟨rfl, rfl⟩))
      obtain ⟨wp, hwp⟩ : ∃ wp, wp = wq.drew := ⟨_, rfl⟩
      have hbp : Below wq.heap.size wq wp := by rw [hwp]; (repeat (first | with_reducible exact Below.refl _ _ | with_reducible refine alloc1 ?_ _ | with_reducible refine Below.drew ?_ | with_reducible refine drewN1 ?_ _ | with_reducible refine setC ?_ (by omega) _))
      rw [← hwp]
      have HXP := Lib.hid (keepb hbp HXQ.out)
      have HAP := Lib.hid (keepb hbp HAQ.out)
      have HQP := Lib.hid (keepb hbp HQQ.out)
      have HUP := Lib.hid (keepb hbp HUQ.out)
      have HBP := Lib.hid (trans' HBQ.out hbp)
      clear hwp hbp HXQ HAQ HQQ HUQ HBQ r0 r1 a0 HRQ e1 e2
      obtain ⟨y0, y1, f0, f1⟩ := two_cells HUP.out
      have HNE := Lib.hid (show w1.heap.size ≠ w.heap.size + 1 + 1 + 1 from fun h => by have := HLT.out; omega)
      cases inb with
      | true =>
        have hi := of_decide_eq_true HIN.out
        rw [if_pos hi, Int.add_zero] at S1
        clear hi HIN
        by_cases hm : A2 < B2
        · have hmx : max A2 B2 = B2 := by omega
          rw [hmx] at S2
          have e6 : IntKind.i64.wrap (sh + B2) = sh + B2 := IntWalk.i64_in _ (by omega)
          clear hmx
          go_wp2_with fail
          go_roundw
          case rel => exact ⟨k + 1, by omega, by go_num, Lib.hid (setC HBP.out (by omega) _), Lib.hid (heap_ne (by omega) HXP.out), Lib.hid (heap_ne HNE.out HAP.out), Lib.hid (heap_ne (by omega) HQP.out), Lib.hid (by rw [S1.out, S2.out]; exact set_block HUP.out)⟩
          case measure => simp [intV]; omega
        · have hmx : max A2 B2 = A2 := by omega
          rw [hmx] at S2
          have e6 : IntKind.i64.wrap (sh + A2) = sh + A2 := IntWalk.i64_in _ (by omega)
          clear hmx
          go_wp2_with fail
          go_roundw
          case rel => exact ⟨k + 1, by omega, by go_num, Lib.hid (setC HBP.out (by omega) _), Lib.hid (heap_ne (by omega) HXP.out), Lib.hid (heap_ne HNE.out HAP.out), Lib.hid (heap_ne (by omega) HQP.out), Lib.hid (by rw [S1.out, S2.out]; exact set_block HUP.out)⟩
          case measure => simp [intV]; omega
      | false =>
        have hi := of_decide_eq_false HIN.out
        rw [if_neg hi] at S1
        clear hi HIN
        by_cases hm : A2 < B2
        · have hmx : max A2 B2 = B2 := by omega
          have hmn : min A2 B2 = A2 := by omega
          rw [hmx] at S2
          rw [hmn] at S1
          have hm2 : ¬ B2 < A2 := by omega
          have e6 : IntKind.i64.wrap (sh + B2) = sh + B2 := IntWalk.i64_in _ (by omega)
          have e7 : IntKind.i64.wrap (sl + A2) = sl + A2 := IntWalk.i64_in _ (by omega)
          clear hmx hmn
          go_wp2_with fail
          go_roundw
          case rel => exact ⟨k + 1, by omega, by go_num, Lib.hid (setC (setC HBP.out (by omega) _) (by omega) _), Lib.hid (heap_ne (by omega) (heap_ne (by omega) HXP.out)), Lib.hid (heap_ne HNE.out (heap_ne HNE.out HAP.out)), Lib.hid (heap_ne (by omega) (heap_ne (by omega) HQP.out)), Lib.hid (by rw [S1.out, S2.out]; exact set_block (set_block HUP.out))⟩
          case measure => simp [intV]; omega
        · by_cases hm2 : B2 < A2
          · have hmx : max A2 B2 = A2 := by omega
            have hmn : min A2 B2 = B2 := by omega
            rw [hmx] at S2
            rw [hmn] at S1
            have e6 : IntKind.i64.wrap (sh + A2) = sh + A2 := IntWalk.i64_in _ (by omega)
            have e7 : IntKind.i64.wrap (sl + B2) = sl + B2 := IntWalk.i64_in _ (by omega)
            clear hmx hmn
            go_wp2_with fail
            go_roundw
            case rel => exact ⟨k + 1, by omega, by go_num, Lib.hid (setC (setC HBP.out (by omega) _) (by omega) _), Lib.hid (heap_ne (by omega) (heap_ne (by omega) HXP.out)), Lib.hid (heap_ne HNE.out (heap_ne HNE.out HAP.out)), Lib.hid (heap_ne (by omega) (heap_ne (by omega) HQP.out)), Lib.hid (by rw [S1.out, S2.out]; exact set_block (set_block HUP.out))⟩
            case measure => simp [intV]; omega
          · obtain rfl : A2 = B2 := by omega
            have hmx : max A2 A2 = A2 := by omega
            have hmn : min A2 A2 = A2 := by omega
            rw [hmx] at S2
            rw [hmn] at S1
            have e6 : IntKind.i64.wrap (sh + A2) = sh + A2 := IntWalk.i64_in _ (by omega)
            have e7 : IntKind.i64.wrap (sl + A2) = sl + A2 := IntWalk.i64_in _ (by omega)
            clear hmx hmn
            go_wp2_with fail
            go_roundw
            case rel => exact ⟨k + 1, by omega, by go_num, Lib.hid (setC (setC HBP.out (by omega) _) (by omega) _), Lib.hid (heap_ne (by omega) (heap_ne (by omega) HXP.out)), Lib.hid (heap_ne HNE.out (heap_ne HNE.out HAP.out)), Lib.hid (heap_ne (by omega) (heap_ne (by omega) HQP.out)), Lib.hid (by rw [S1.out, S2.out]; exact set_block (set_block HUP.out))⟩
            case measure => simp [intV]; omega
    · obtain rfl : k = 3 := by omega
      obtain ⟨y0, y1, g0, g1⟩ := two_cells HUZ.out
      obtain ⟨q0, q1, f0, f1⟩ := two_cells HQZ.out
      have hlt2 := lt_of_block HQZ.out
      go_wp2_with fail
      refine bodyPost_ret (v := .agg #[.int .i64 (SL 3), .int .i64 (SH 3)]) (by simp [results, Try.results30, go_sem, q0, q1]) rfl ⟨rfl, ?_⟩
      exact setC (setC HBZ.out (by omega) _) (by omega) _

theorem refSquares_any (LO HI : Nat → Int) (x y z : Int) (hB : ∀ k, k < 3 → (-110000000 ≤ LO k ∧ LO k ≤ 110000000) ∧ (-110000000 ≤ HI k ∧ HI k ≤ 110000000)) (hp : placeE x y z = 0) (hle : ∀ k, k < 3 → LO k ≤ HI k) (w : World) :
    Calls Try.prog 30 #[.agg #[.int .i64 (LO 0), .int .i64 (HI 0), .int .i64 (LO 1), .int .i64 (HI 1), .int .i64 (LO 2), .int .i64 (HI 2)], .agg #[.int .i64 x, .int .i64 y, .int .i64 z]] w fun e w' => e = .returned (.agg #[.int .i64 (sqLo LO HI (cc3 x y z) 3), .int .i64 (sqHi LO HI (cc3 x y z) 3)]) ∧ Below w.heap.size w w' :=
  refSquaresC_any LO HI (cc3 x y z) (fun k hk => ⟨(hB k hk).1, (hB k hk).2, by
    obtain ⟨⟨p1, p2⟩, ⟨p3, p4⟩, p5, p6⟩ := (placeE_zero x y z).1 hp
    unfold cc3
    split
    · omega
    · split <;> omega⟩) hle w

set_option maxRecDepth 100000 in
set_option maxHeartbeats 2000000 in
theorem refDistances_any (a b : Int) (h0 : 0 ≤ a) (h1 : a < 288230376151711744) (h2 : 0 ≤ b) (h3 : b < 288230376151711744) (w : World) :
    Calls Try.prog 32 #[.agg #[.int .i64 a, .int .i64 b]] w fun e w' => e = .returned (.agg #[.int .i64 (rootI a), .int .i64 (upOf b (rootI b))]) ∧ Below w.heap.size w w' := by
  have C1 := Lib.hid (fun W => refRoot_any a h0 h1 W)
  have C2 := Lib.hid (fun W => refRootUp_any b h2 h3 W)
  generalize rootI a = ra at *
  generalize upOf b (rootI b) = rb at *
  clear h0 h1 h2 h3
  go_enter Try.func32, Try.ntmps32
  go_upto_region 1 with fail
  obtain ⟨W0, hW0⟩ : ∃ W0, W0 = (w.alloc (.cells #[.int .i64 a, .int .i64 b] 42)).alloc (.cells #[.int .i64 0, .int .i64 0] 42) := ⟨_, rfl⟩
  rw [← hW0]
  have HB0 := Lib.hid (show Below w.heap.size w W0 by rw [hW0]; (repeat (first | with_reducible exact Below.refl _ _ | with_reducible refine alloc1 ?_ _ | with_reducible refine Below.drew ?_ | with_reducible refine drewN1 ?_ _ | with_reducible refine setC ?_ (by omega) _)))
  have HX0 := Lib.hid (show W0.heap[w.heap.size]? = some (.cells #[.int .i64 a, .int .i64 b] 42 (0, 0)) by rw [hW0]; (repeat (first | ((with_reducible refine hnew ?_); (simp; done)) | with_reducible refine hdrew ?_ | with_reducible refine hold ?_)))
  have HQ0 := Lib.hid (show W0.heap[w.heap.size + 1]? = some (.cells #[.int .i64 0, .int .i64 0] 42 (0, 0)) by rw [hW0]; (repeat (first | ((with_reducible refine hnew ?_); (simp; done)) | with_reducible refine hdrew ?_ | with_reducible refine hold ?_)))
  clear hW0
  obtain ⟨a0, a1, -, -⟩ := two_cells HX0.out
  refine region_tail 7 (by kernel_rfl) (by kernel_rfl) (fun W hW => ?_)
  simp only [List.take_succ_cons, List.take_zero, List.drop_succ_cons, List.drop_zero]
  have HBW := Lib.hid (show Below w.heap.size w W by rw [hW]; exact HB0.out.drew)
  have HXW := Lib.hid (show W.heap[w.heap.size]? = some (.cells #[.int .i64 a, .int .i64 b] 42 (0, 0)) by rw [hW]; exact HX0.out)
  have HQW := Lib.hid (show W.heap[w.heap.size + 1]? = some (.cells #[.int .i64 0, .int .i64 0] 42 (0, 0)) by rw [hW]; exact HQ0.out)
  clear hW a0 a1 HB0 HX0 HQ0
  obtain ⟨a0, a1, -, -⟩ := two_cells HXW.out
  obtain ⟨q0, q1, f0, f1⟩ := two_cells HQW.out
  have hlt := lt_of_block HQW.out
  still_step
  still_step
  still_call (same (C1.out _))
  still_step
  still_step
  still_call (same (C2.out _))
  still_step
  refine wpStill_nil ?_
  go_wp2_with fail
  refine bodyPost_ret (v := .agg #[.int .i64 ra, .int .i64 rb]) (by simp [results, Try.results32, go_sem, q0, q1]) rfl ⟨rfl, ?_⟩
  exact setC (setC HBW.out (by omega) _) (by omega) _
end Go.Proofs.Ytodpjhhogcfodaa.Orb
