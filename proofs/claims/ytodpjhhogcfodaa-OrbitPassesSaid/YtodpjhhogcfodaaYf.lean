import Derived.Test.YtodpjhhogcfodaaYd
import Derived.Test.YtodpjhhogcfodaaYe
import Derived.Outline
namespace Go.Proofs.Ytodpjhhogcfodaa.Orb
open Go.RowKit Lib

theorem firstE_psE (e a b : Int) : firstE [e, a, b] = if e ≠ 0 then e else if a ≠ 0 then a else b := by
  unfold firstE
  by_cases h : e = 0
  · by_cases h2 : a = 0
    · simp [h, h2, firstE]
      intro h; exact h.symm
    · simp [h, h2, firstE]
  · simp [h]
theorem placeE_cases (x y z : Int) : (placeB x y z = true ∧ placeE x y z = 0) ∨ (placeB x y z = false ∧ placeE x y z = 2) := by
  cases h : placeB x y z with
  | true => exact .inl ⟨rfl, (placeB_iff x y z).1 h⟩
  | false =>
    right
    refine ⟨rfl, ?_⟩
    have h2 : ¬ placeE x y z = 0 := fun h3 => by rw [(placeB_iff x y z).2 h3] at h; cases h
    unfold placeE rangeE at *
    simp only [firstE] at *
    repeat' split at h2
    all_goals first | (exact absurd rfl h2) | skip
    all_goals simp_all

set_option maxRecDepth 100000 in
set_option maxHeartbeats 16000000 in
theorem passes_any (v : Value) (nm : ByteArray) (bend : Int) (L : List St) (hI : ∀ k, (gt L k).t ≤ 9223372036854775807) (x y z most : Int) (w : World) (hv : OV w v nm bend L) :
    Calls Try.prog 3 #[v, .agg #[.int .i64 x, .int .i64 y, .int .i64 z], .int .i64 most] w fun e w' => e = .returned (.bool true) ∧ Below w.heap.size w w' := by
  have CA := Lib.hid awake_any
  have CF := Lib.hid (fun W (h : Below w.heap.size w W) => Brief_any v nm bend L W (hv.next h))
  obtain ⟨p, cap, hvf, -, -, -⟩ := hv.form
  cases hf : briefB nm.size (nameE nm) bend L with
  | false =>
    rw [hf] at CF
    subst hvf
    clear hv hf hI
    generalize L.length = n at *
    go_enter Try.func3, Try.ntmps3
    go_wp2_with fail
    obtain ⟨w0, hW⟩ : ∃ w0, w0 = (w.alloc (.cells #[.string nm, .int .i64 bend, .slice p n cap] 24)).alloc (.cells #[.int .i64 x, .int .i64 y, .int .i64 z] 26) := ⟨_, rfl⟩
    rw [← hW]
    have HB0 := Lib.hid (show Below w.heap.size w w0 by rw [hW]; (repeat (first | with_reducible exact Below.refl _ _ | with_reducible refine alloc1 ?_ _ | with_reducible refine Below.drew ?_ | with_reducible refine drewN1 ?_ _ | with_reducible refine setC ?_ (by omega) _)))
    have HP0 := Lib.hid (show w0.heap[w.heap.size]? = some (.cells #[.string nm, .int .i64 bend, .slice p n cap] 24 (0, 0)) by rw [hW]; (repeat (first | ((with_reducible refine hnew ?_); (simp; done)) | with_reducible refine hdrew ?_ | with_reducible refine hold ?_)))
    clear hW
    refine (CA.out _).mono ?_
    rintro e w1 ⟨rfl, hb⟩
    have HB1 := Lib.hid (trans' HB0.out hb)
    have HP1 := Lib.hid (keepb hb HP0.out)
    clear hb HB0 HP0
    obtain ⟨k0, k1, k2⟩ := cells3 HP1.out
    go_wp2_with fail
    refine (CF.out _ HB1.out).mono ?_
    rintro e w2 ⟨rfl, hb⟩
    have HB2 := Lib.hid (trans' HB1.out hb)
    have HP2 := Lib.hid (keepb hb HP1.out)
    clear hb HB1 HP1
    go_wp2_with fail
    go_ret
    exact ⟨rfl, HB2.out⟩
  | true =>
    rw [hf] at CF
    obtain ⟨hfe, hbr⟩ := briefB_true hf
    obtain ⟨hs1, hn1⟩ := fewB_true hfe
    have CY := Lib.hid (fun W (h : Below w.heap.size w W) => Copy_any v nm bend L (by omega) W (hv.next h))
    obtain ⟨c, hc⟩ : ∃ c, c = psE (nameE nm) bend L x y z most := ⟨_, rfl⟩
    obtain ⟨PT, hPT⟩ : ∃ PT : Int → List (Int × Int), PT = fun m => passTo L x y z (m * m) (ticksOf (fst L) (nTicks L)) := ⟨_, rfl⟩
    have CP : Hid (∀ m v2 W, OV W v2 nm bend L → Calls Try.prog 16 #[v2, .agg #[.int .i64 x, .int .i64 y, .int .i64 z], .int .i64 m] W (PassR (psE (nameE nm) bend L x y z m) (PT m) W)) := fun m v2 W h => by
      rw [hPT]; exact Passes_any v2 nm (by omega) bend L hI x y z m W h
    have CE := Lib.hid (fun W (h : Below w.heap.size w W) => refErr_any v nm (by omega) bend L W (hv.next h))
    have CI := Lib.hid (fun W => IsPlace_any x y z W)
    have CW := Lib.hid (fun W => Within_any most 0 100000000 W)
    have CR : Hid (c = 0 → ∀ W, Below w.heap.size w W → Calls Try.prog 22 #[v, .agg #[.int .i64 x, .int .i64 y, .int .i64 z], .int .i64 most] W (GrownR (PT most) W)) := fun h0 W h => by
      obtain ⟨-, -, hR, hpl, m0, m1⟩ := psE_zero (hc ▸ h0)
      rw [hPT]; exact refPasses_any v nm bend L hR x y z most hpl m0 m1 W (hv.next h)
    have HG : Hid (c = 0 → psE (nameE nm) bend L x y z (min (2 * most) 100000000) = 0 ∧ (∀ m, GoodI (PT m) ∧ (PT m).length ≤ 299) ∧ cntI (PT most) ≤ cntI (PT (min (2 * most) 100000000)) ∧ 0 ≤ most ∧ most ≤ 100000000) := fun h0 => by
      obtain ⟨hE, hne, hR, hpl, m0, m1⟩ := psE_zero (hc ▸ h0)
      have n0 := hR.n0
      have n1 := hR.n1
      have hlo : 0 ≤ fst L := (hR.st 0 (by omega)).t0
      have hhi : lst L ≤ 1000000000 := (hR.st (L.length - 1) (by omega)).t1
      have hle : fst L ≤ lst L := hR.le 0 (L.length - 1) (Nat.zero_le _) (by omega)
      have hnt : (nTicks L : Int) = lst L - fst L + 1 := by unfold nTicks; omega
      have h200 := hbr hE
      refine ⟨?_, fun m => ?_, ?_, m0, m1⟩
      · unfold psE
        rw [firstE_zero_iff]
        intro e he
        simp at he
        rcases he with rfl | rfl | rfl
        · exact hE
        · exact hpl
        · exact (rangeE_zero _ _ _).2 (by omega)
      · rw [hPT]
        refine ⟨?_, ?_⟩
        · show GoodI (passTo L x y z (m * m) (ticksOf (fst L) (nTicks L)))
          rw [passTo_F]
          refine passF_good _ _ _ fun t ht => ?_
          obtain ⟨i, hi, rfl⟩ := List.mem_map.1 ht
          have := List.mem_range.1 hi
          omega
        · have := passTo_length L x y z (m * m) (ticksOf (fst L) (nTicks L))
          rw [ticksOf_len] at this
          show (passTo L x y z (m * m) (ticksOf (fst L) (nTicks L))).length ≤ 299
          omega
      · rw [hPT]
        show cntI (passTo L x y z (most * most) _) ≤ cntI (passTo L x y z (min (2 * most) 100000000 * min (2 * most) 100000000) _)
        rw [passTo_F, passTo_F]
        exact passF_mono _ _ _ (sq_mono m0 (by omega)) _
    have HCC := Lib.hid (show ((orbE (nameE nm) bend L).2 ≠ 0 ∧ c = (orbE (nameE nm) bend L).2) ∨ ((orbE (nameE nm) bend L).2 = 0 ∧ placeB x y z = false ∧ c = 2) ∨ ((orbE (nameE nm) bend L).2 = 0 ∧ placeB x y z = true ∧ decide (0 ≤ most ∧ most ≤ 100000000) = false ∧ c = 2) ∨ ((orbE (nameE nm) bend L).2 = 0 ∧ placeB x y z = true ∧ decide (0 ≤ most ∧ most ≤ 100000000) = true ∧ c = 0) by
      have h : c = firstE [(orbE (nameE nm) bend L).2, placeE x y z, rangeE most 0 100000000] := hc
      rw [firstE_psE] at h
      by_cases h1 : (orbE (nameE nm) bend L).2 = 0
      · right
        rw [if_neg (by simpa using h1)] at h
        rcases placeE_cases x y z with ⟨h2, h3⟩ | ⟨h2, h3⟩
        · right
          rw [if_neg (by simpa using h3)] at h
          by_cases h4 : 0 ≤ most ∧ most ≤ 100000000
          · right; exact ⟨h1, h2, decide_eq_true h4, h.trans (if_pos h4)⟩
          · left; exact ⟨h1, h2, decide_eq_false h4, h.trans (if_neg h4)⟩
        · left
          exact ⟨h1, h2, by rw [h, h3]; rfl⟩
      · left; exact ⟨h1, h.trans (if_pos h1)⟩)
    have CPM := Lib.hid (show ∀ v2 W, OV W v2 nm bend L → Calls Try.prog 16 #[v2, .agg #[.int .i64 x, .int .i64 y, .int .i64 z], .int .i64 most] W (PassR c (PT most) W) from fun v2 W h => by rw [hc]; exact CP.out most v2 W h)
    have CPX := Lib.hid (show c = 0 → ∀ v2 W, OV W v2 nm bend L → Calls Try.prog 16 #[v2, .agg #[.int .i64 x, .int .i64 y, .int .i64 z], .int .i64 (min (2 * most) 100000000)] W (PassR 0 (PT (min (2 * most) 100000000)) W) from fun h0 v2 W h => by
      have := CP.out (min (2 * most) 100000000) v2 W h
      rwa [(HG.out h0).1] at this)
    have HG2 := Lib.hid (show c = 0 → (∀ m, GoodI (PT m) ∧ (PT m).length ≤ 299) ∧ cntI (PT most) ≤ cntI (PT (min (2 * most) 100000000)) ∧ 0 ≤ most ∧ most ≤ 100000000 from fun h0 => (HG.out h0).2)
    clear HG hc hPT CP hbr hfe
    subst hvf
    clear hv hI hf hs1 hn1
    generalize (orbE (nameE nm) bend L).2 = e1 at *
    generalize placeB x y z = pb at *
    generalize decide (0 ≤ most ∧ most ≤ 100000000) = mb at *
    generalize L.length = n at *
    go_enter Try.func3, Try.ntmps3
    go_wp2_with fail
    obtain ⟨w0, hW⟩ : ∃ w0, w0 = (w.alloc (.cells #[.string nm, .int .i64 bend, .slice p n cap] 24)).alloc (.cells #[.int .i64 x, .int .i64 y, .int .i64 z] 26) := ⟨_, rfl⟩
    rw [← hW]
    have HB0 := Lib.hid (show Below w.heap.size w w0 by rw [hW]; (repeat (first | with_reducible exact Below.refl _ _ | with_reducible refine alloc1 ?_ _ | with_reducible refine Below.drew ?_ | with_reducible refine drewN1 ?_ _ | with_reducible refine setC ?_ (by omega) _)))
    have HP0 := Lib.hid (show w0.heap[w.heap.size]? = some (.cells #[.string nm, .int .i64 bend, .slice p n cap] 24 (0, 0)) by rw [hW]; (repeat (first | ((with_reducible refine hnew ?_); (simp; done)) | with_reducible refine hdrew ?_ | with_reducible refine hold ?_)))
    have HY0 := Lib.hid (show w0.heap[w.heap.size + 1]? = some (.cells #[.int .i64 x, .int .i64 y, .int .i64 z] 26 (0, 0)) by rw [hW]; (repeat (first | ((with_reducible refine hnew ?_); (simp; done)) | with_reducible refine hdrew ?_ | with_reducible refine hold ?_)))
    clear hW
    refine (CA.out _).mono ?_
    rintro e w1 ⟨rfl, hb⟩
    have HB1 := Lib.hid (trans' HB0.out hb)
    have HP1 := Lib.hid (keepb hb HP0.out)
    have HY1 := Lib.hid (keepb hb HY0.out)
    clear hb HB0 HP0 HY0
    obtain ⟨k0, k1, k2⟩ := cells3 HP1.out
    go_wp2_with fail
    refine (CF.out _ HB1.out).mono ?_
    rintro e w2 ⟨rfl, hb⟩
    have HB2 := Lib.hid (trans' HB1.out hb)
    have HP2 := Lib.hid (keepb hb HP1.out)
    have HY2 := Lib.hid (keepb hb HY1.out)
    clear hb HB1 HP1 HY1
    clear k0 k1 k2 CA CF
    obtain ⟨k0, k1, k2⟩ := cells3 HP2.out
    obtain ⟨y0, y1, y2⟩ := cells3 HY2.out
    go_upto_region 5 with fail
    go_region_held3 (fun W => W.cell? ⟨w.heap.size, 0, none⟩ = some (.string nm) ∧ W.cell? ⟨w.heap.size, 1, none⟩ = some (.int .i64 bend) ∧ W.cell? ⟨w.heap.size, 2, none⟩ = some (.slice p n cap) ∧ W.cell? ⟨w.heap.size + 1, 0, none⟩ = some (.int .i64 x) ∧ W.cell? ⟨w.heap.size + 1, 1, none⟩ = some (.int .i64 y) ∧ W.cell? ⟨w.heap.size + 1, 2, none⟩ = some (.int .i64 z))
      (with_reducible refine ⟨keepc ?_ k0, keepc ?_ k1, keepc ?_ k2, keepc ?_ y0, keepc ?_ y1, keepc ?_ y2⟩ <;> (repeat (first | with_reducible exact Below.refl _ _ | with_reducible refine andThen ?_ hbP | with_reducible refine andThen ?_ hbY | with_reducible refine alloc1 ?_ _ | with_reducible refine Below.drew ?_ | with_reducible refine drewN1 ?_ _ | with_reducible refine setC ?_ (by omega) _)) <;> done)
      (first
        | (go_at_call 17; (with_reducible refine (CY.out _ (trans' HB2.out (by (repeat (first | with_reducible exact Below.refl _ _ | with_reducible refine alloc1 ?_ _ | with_reducible refine Below.drew ?_ | with_reducible refine drewN1 ?_ _ | with_reducible refine setC ?_ (by omega) _))))).mono ?_); rintro e wY ⟨v3, rfl, hbY, hv3⟩)
        | (go_at_call 16; (with_reducible refine (CPM.out _ _ hv3).mono ?_); rintro e wP ⟨vP, rfl, hbP, hoP⟩))
    have hb3 : Below w2.heap.size w2 wP := andThen (andThen ((Below.refl _ w2).drew) hbY) hbP
    have HB3 := Lib.hid (trans' HB2.out hb3)
    have HP3 := Lib.hid (keepb hb3 HP2.out)
    have HY3 := Lib.hid (keepb hb3 HY2.out)
    have HO3 : Hid ((c = 0 → Rgs (PT most) wP vP) ∧ (c ≠ 0 → vP = .slice none 0 0)) := by
      refine ⟨fun h => ?_, fun h => ?_⟩
      · rcases hoP with ⟨-, h2⟩ | ⟨h2, -⟩
        · exact Rgs.of_owns h2
        · exact absurd h h2
      · rcases hoP with ⟨h2, -⟩ | ⟨-, h2⟩
        · exact absurd h2 h
        · exact h2
    clear hb3 hbY hbP hoP hv3 k0 k1 k2 y0 y1 y2 HB2 HP2 HY2 CPM
    obtain ⟨k0, k1, k2⟩ := cells3 HP3.out
    obtain ⟨y0, y1, y2⟩ := cells3 HY3.out
    go_wp2_with fail
    refine (CE.out _ HB3.out).mono ?_
    rintro e w4 ⟨rfl, hb⟩
    have HB4 := Lib.hid (trans' HB3.out hb)
    have HP4 := Lib.hid (keepb hb HP3.out)
    have HY4 := Lib.hid (keepb hb HY3.out)
    have HO4 : Hid ((c = 0 → Rgs (PT most) w4 vP) ∧ (c ≠ 0 → vP = .slice none 0 0)) := ⟨fun h => (HO3.out.1 h).below hb, HO3.out.2⟩
    clear hb k0 k1 k2 y0 y1 y2 HB3 HP3 HY3 HO3 CE
    rcases HCC.out with ⟨h1, h2⟩ | ⟨h1, h2, h3⟩ | ⟨h1, h2, h3, h4⟩ | ⟨h1, h2, h3, h4⟩
    · have hne : (e1 == 0) = false := by rw [beq_eq_false_iff_ne]; exact h1
      have hne2 : (e1 != 0) = true := by rw [bne_iff_ne]; exact h1
      obtain rfl := HO4.out.2 (by rw [h2]; exact h1)
      clear HCC h1 HO4 CR CPX HG2
      subst h2
      go_wp2_with fail
      go_ret
      exact ⟨rfl, HB4.out⟩
    · obtain rfl := HO4.out.2 (by rw [h3]; decide)
      clear HCC HO4 CR CPX HG2
      subst h1 h2 h3
      obtain ⟨y0, y1, y2⟩ := cells3 HY4.out
      go_wp2_with fail
      refine (CI.out _).mono ?_
      rintro e w5 ⟨rfl, hb⟩
      have HB5 := Lib.hid (trans' HB4.out hb)
      clear hb HB4
      go_wp2_with fail
      go_ret
      exact ⟨rfl, HB5.out⟩
    · obtain rfl := HO4.out.2 (by rw [h4]; decide)
      clear HCC HO4 CR CPX HG2
      subst h1 h2 h3 h4
      obtain ⟨y0, y1, y2⟩ := cells3 HY4.out
      go_wp2_with fail
      refine (CI.out _).mono ?_
      rintro e w5 ⟨rfl, hb⟩
      have HB5 := Lib.hid (trans' HB4.out hb)
      clear hb HB4
      go_wp2_with fail
      refine (CW.out _).mono ?_
      rintro e w6 ⟨rfl, rfl⟩
      go_wp2_with fail
      go_ret
      exact ⟨rfl, HB5.out⟩
    · have HOV := Lib.hid (HO4.out.1 h4)
      have CRR := Lib.hid (CR.out h4)
      have CPY := Lib.hid (CPX.out h4)
      obtain ⟨hgood, hcnt, m0, m1⟩ := HG2.out h4
      have HGO := Lib.hid hgood
      have HCT := Lib.hid hcnt
      clear HCC HO4 CR CPX HG2 hgood hcnt
      subst h1 h2 h3 h4
      obtain ⟨y0, y1, y2⟩ := cells3 HY4.out
      go_wp2_with fail
      refine (CI.out _).mono ?_
      rintro e w5 ⟨rfl, hb⟩
      have HB5 := Lib.hid (trans' HB4.out hb)
      have HP5 := Lib.hid (keepb hb HP4.out)
      have HY5 := Lib.hid (keepb hb HY4.out)
      have HO5 := Lib.hid (HOV.out.below hb)
      clear hb y0 y1 y2 HB4 HP4 HY4 HOV
      go_wp2_with fail
      refine (CW.out _).mono ?_
      rintro e w6 ⟨rfl, rfl⟩
      obtain ⟨k0, k1, k2⟩ := cells3 HP5.out
      obtain ⟨y0, y1, y2⟩ := cells3 HY5.out
      have hmul : IntKind.i64.wrap (2 * most) = 2 * most := IntWalk.i64_in _ (by omega)
      have CP1 := Lib.hid (fun (h : 2 * most ≤ 100000000) => by have := CPY.out; rw [show min (2 * most) 100000000 = 2 * most from by omega] at this; exact this)
      have CPI : Hid (∀ v2 W, OV W v2 nm bend L → Calls Try.prog 16 #[v2, .agg #[.int .i64 x, .int .i64 y, .int .i64 z], .int .i64 (if 100000000 < 2 * most then 100000000 else 2 * most)] W (PassR 0 (PT (min (2 * most) 100000000)) W)) := by
        rw [show (if 100000000 < 2 * most then 100000000 else 2 * most) = min (2 * most) 100000000 by split <;> omega]
        exact CPY
      have CPB := Lib.hid (fun (h : 100000000 < 2 * most) => by have := CPY.out; rw [show min (2 * most) 100000000 = 100000000 from by omega] at this; exact this)
      have HMB := Lib.hid (fun (h : 100000000 < 2 * most) => show min (2 * most) 100000000 = 100000000 by omega)
      have HM1 := Lib.hid (fun (h : 2 * most ≤ 100000000) => show min (2 * most) 100000000 = 2 * most by omega)
      rcases (show (2 * most < 100000000 ∧ ¬ 100000000 < 2 * most) ∨ (100000000 < 2 * most ∧ ¬ 2 * most < 100000000) ∨ (¬ 100000000 < 2 * most ∧ ¬ 2 * most < 100000000) by omega) with ⟨g1, g2⟩ | ⟨g1, g2⟩ | ⟨g1, g2⟩
      all_goals
       go_upto_region 11 with fail
       go_region_held3 (fun W => W.cell? ⟨w.heap.size, 0, none⟩ = some (.string nm) ∧ W.cell? ⟨w.heap.size, 1, none⟩ = some (.int .i64 bend) ∧ W.cell? ⟨w.heap.size, 2, none⟩ = some (.slice p n cap) ∧ W.cell? ⟨w.heap.size + 1, 0, none⟩ = some (.int .i64 x) ∧ W.cell? ⟨w.heap.size + 1, 1, none⟩ = some (.int .i64 y) ∧ W.cell? ⟨w.heap.size + 1, 2, none⟩ = some (.int .i64 z))
         (with_reducible refine ⟨keepc ?_ k0, keepc ?_ k1, keepc ?_ k2, keepc ?_ y0, keepc ?_ y1, keepc ?_ y2⟩ <;> (repeat (first | with_reducible exact Below.refl _ _ | with_reducible refine andThen ?_ hbP | with_reducible refine andThen ?_ hbY | with_reducible refine alloc1 ?_ _ | with_reducible refine Below.drew ?_ | with_reducible refine drewN1 ?_ _ | with_reducible refine setC ?_ (by omega) _)) <;> done)
         (first
           | (go_at_call 17; (with_reducible refine (CY.out _ (trans' HB5.out (by (repeat (first | with_reducible exact Below.refl _ _ | with_reducible refine alloc1 ?_ _ | with_reducible refine Below.drew ?_ | with_reducible refine drewN1 ?_ _ | with_reducible refine setC ?_ (by omega) _))))).mono ?_); rintro e wY ⟨v3, rfl, hbY, hv3⟩)
           | (go_at_call 16; (with_reducible refine (CP1.out (by omega) _ _ hv3).mono ?_); rintro e wP ⟨vX, rfl, hbP, hoX⟩; rw [← HM1.out (by omega)] at hoX)
           | (go_at_call 16; (with_reducible refine (CPB.out g1 _ _ hv3).mono ?_); rintro e wP ⟨vX, rfl, hbP, hoX⟩; rw [← HMB.out g1] at hoX)
           | (go_at_call 16; (with_reducible refine (CPI.out _ _ hv3).mono ?_); rintro e wP ⟨vX, rfl, hbP, hoX⟩))
       all_goals
         have hb6 : Below w5.heap.size w5 wP := andThen (andThen ((Below.refl _ w5).drew) hbY) hbP
         have HB6 := Lib.hid (trans' HB5.out hb6)
         have HP6 := Lib.hid (keepb hb6 HP5.out)
         have HY6 := Lib.hid (keepb hb6 HY5.out)
         have HO6 := Lib.hid (HO5.out.below hb6)
         have HX6 : Hid (Rgs (PT (min (2 * most) 100000000)) wP vX) := by
           rcases hoX with ⟨-, h2⟩ | ⟨h2, -⟩
           · exact Rgs.of_owns h2
           · exact absurd rfl h2
         clear hb6 hbY hbP hoX hv3 k0 k1 k2 y0 y1 y2 HB5 HP5 HY5 HO5 hmul HM1 HMB CP1 CPB CPI CPY CY CI CW
         obtain ⟨k0, k1, k2⟩ := cells3 HP6.out
         obtain ⟨y0, y1, y2⟩ := cells3 HY6.out
         go_wp2_with fail
         refine (CRR.out _ HB6.out).mono ?_
         rintro e w7 ⟨vR, rfl, hb, hr⟩
         have HB7 := Lib.hid (trans' HB6.out hb)
         have HO7 := Lib.hid (HO6.out.below hb)
         have HX7 := Lib.hid (HX6.out.below hb)
         have HR7 := Lib.hid hr.rgs
         clear hb hr k0 k1 k2 y0 y1 y2 HB6 HP6 HY6 HO6 HX6
         go_wp2_with fail
         refine (Ranges_true _ _ _ _ (by have := (HGO.out most).2; omega) HO7.out HR7.out).mono ?_
         rintro e w8 ⟨rfl, q, rfl⟩
         have HB8 := Lib.hid (drewN1 HB7.out q)
         have HO8 := Lib.hid (HO7.out.below (drewN1 (Below.refl _ _) q))
         have HX8 := Lib.hid (HX7.out.below (drewN1 (Below.refl _ _) q))
         obtain ⟨w8, hw8⟩ : ∃ w8, w8 = w7.drewN q := ⟨_, rfl⟩
         rw [← hw8] at HB8 HO8 HX8 ⊢
         clear HB7 HO7 HX7 HR7 hw8
         go_wp2_with fail
         refine (lawTicks_any _ _ (HGO.out _).1 (HGO.out _).2 _ HX8.out).mono ?_
         rintro e w9 ⟨rfl, hb⟩
         have HB9 := Lib.hid (trans' HB8.out hb)
         have HO9 := Lib.hid (HO8.out.below hb)
         clear hb HB8 HO8 HX8
         go_wp2_with fail
         refine (lawTicks_any _ _ (HGO.out _).1 (HGO.out _).2 _ HO9.out).mono ?_
         rintro e w10 ⟨rfl, hb⟩
         have HB10 := Lib.hid (trans' HB9.out hb)
         clear hb HB9 HO9 m0 m1
         have hct := HCT.out
         go_wp2_with fail
         go_ret
         exact ⟨rfl, HB10.out⟩
end Go.Proofs.Ytodpjhhogcfodaa.Orb
