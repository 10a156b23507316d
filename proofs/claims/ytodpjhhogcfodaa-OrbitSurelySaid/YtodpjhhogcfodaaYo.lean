import Derived.Test.YtodpjhhogcfodaaYn
import Derived.Test.YtodpjhhogcfodaaYe
import Derived.Test.YtodpjhhogcfodaaSx
import Derived.Outline
namespace Go.Proofs.Ytodpjhhogcfodaa.Orb
open Go.RowKit Lib

theorem opE_place (ne bend : Int) (L : List St) (x y z : Int) : ((orbE ne bend L).2 ≠ 0 ∧ opE ne bend L x y z = (orbE ne bend L).2) ∨ ((orbE ne bend L).2 = 0 ∧ placeB x y z = false ∧ opE ne bend L x y z = 2) ∨ ((orbE ne bend L).2 = 0 ∧ placeB x y z = true ∧ placeE x y z = 0 ∧ opE ne bend L x y z = 0) := by
  unfold opE
  by_cases h : (orbE ne bend L).2 = 0
  · right
    rcases placeE_cases x y z with ⟨h1, h2⟩ | ⟨h1, h2⟩
    · right; exact ⟨h, h1, h2, by rw [h, h2]; rfl⟩
    · left; exact ⟨h, h1, by rw [h, h2]; rfl⟩
  · left
    exact ⟨h, by simp [firstE, h]⟩

set_option maxRecDepth 100000 in
set_option maxHeartbeats 8000000 in
theorem proofs_any (v : Value) (nm : ByteArray) (bend : Int) (L : List St) (hI : ∀ k, (gt L k).t ≤ 9223372036854775807) (x y z lo hi wt : Int) (w : World) (hv : OV w v nm bend L) :
    Calls Try.prog 7 #[v, .agg #[.int .i64 x, .int .i64 y, .int .i64 z], .agg #[.int .i64 lo, .int .i64 hi, .int .i64 wt]] w fun e w' => e = .returned (.bool true) ∧ Below w.heap.size w w' := by
  have CA := Lib.hid awake_any
  have CF := Lib.hid (fun W (h : Below w.heap.size w W) => Brief_any v nm bend L W (hv.next h))
  obtain ⟨p, cap, hvf, -, -, -⟩ := hv.form
  cases hf : briefB nm.size (nameE nm) bend L with
  | false =>
    rw [hf] at CF
    subst hvf
    clear hv hf hI
    generalize L.length = n at *
    go_enter Try.func7, Try.ntmps7
    go_wp2_with fail
    obtain ⟨w0, hW⟩ : ∃ w0, w0 = ((w.alloc (.cells #[.string nm, .int .i64 bend, .slice p n cap] 24)).alloc (.cells #[.int .i64 x, .int .i64 y, .int .i64 z] 26)).alloc (.cells #[.int .i64 lo, .int .i64 hi, .int .i64 wt] 73) := ⟨_, rfl⟩
    rw [← hW]
    have HB0 := Lib.hid (show Below w.heap.size w w0 by rw [hW]; (repeat (first | with_reducible exact Below.refl _ _ | with_reducible refine alloc1 ?_ _ | with_reducible refine Below.drew ?_ | with_reducible refine drewN1 ?_ _ | with_reducible refine setC ?_ (by omega) _)))
    have HP0 := Lib.hid (show w0.heap[w.heap.size]? = some (.cells #[.string nm, .int .i64 bend, .slice p n cap] 24 (0, 0)) by rw [hW]; (repeat (first | ((with_reducible refine hnew ?_); (simp; done)) | with_reducible refine hdrew ?_ | with_reducible refine hold ?_)))
    clear hW
    refine (CA.out _).mono ?_
    rintro e w1 ⟨rfl, hb⟩
    have HB1 := Lib.hid (trans' HB0.out hb)
    have HP1 := Lib.hid (keepb hb HP0.out)
    clear hb HB0 HP0
    obtain ⟨k0, k1, k2⟩ := cells3 HP1.out
    go_wp2_with fail
    refine (CF.out _ HB1.out).mono ?_
    rintro e w2 ⟨rfl, hb⟩
    have HB2 := Lib.hid (trans' HB1.out hb)
    have HP2 := Lib.hid (keepb hb HP1.out)
    clear hb HB1 HP1
    go_wp2_with fail
    go_ret
    exact ⟨rfl, HB2.out⟩
  | true =>
    rw [hf] at CF
    obtain ⟨hfe, -⟩ := briefB_true hf
    obtain ⟨hs1, hn1⟩ := fewB_true hfe
    have CY := Lib.hid (fun W (h : Below w.heap.size w W) => Copy_any v nm bend L (by omega) W (hv.next h))
    have CK := Lib.hid (fun v2 W (h : OV W v2 nm bend L) => CheckNearest_any v2 nm (by omega) bend L (by omega) hI x y z lo hi wt W h)
    have CE := Lib.hid (fun W (h : Below w.heap.size w W) => refErr_any v nm (by omega) bend L W (hv.next h))
    have CI := Lib.hid (fun W => IsPlace_any x y z W)
    have CR : Hid ((orbE (nameE nm) bend L).2 = 0 → placeE x y z = 0 → ∀ W, Below w.heap.size w W → Calls Try.prog 42 #[v, .agg #[.int .i64 x, .int .i64 y, .int .i64 z], .agg #[.int .i64 lo, .int .i64 hi, .int .i64 wt]] W fun e w' => e = .returned (.tuple #[.int .i64 (chN (nameE nm) bend L x y z lo hi wt).1, .int .i64 (chN (nameE nm) bend L x y z lo hi wt).2]) ∧ Below W.heap.size W w') := fun h1 h2 W hb => by
      rw [chN_right h1 h2]
      exact refCheckNearest_any v nm bend L (Rt.of h1).2 x y z lo hi wt h2 W (hv.next hb)
    have HCC := Lib.hid (opE_place (nameE nm) bend L x y z)
    have HCW := Lib.hid (fun h => @chN_wrong (nameE nm) bend L x y z lo hi wt h)
    subst hvf
    clear hv hI hf hs1 hn1 hfe
    generalize opE (nameE nm) bend L x y z = c at *
    generalize (orbE (nameE nm) bend L).2 = e1 at *
    generalize placeB x y z = pb at *
    generalize placeE x y z = pe at *
    generalize chN (nameE nm) bend L x y z lo hi wt = R at *
    obtain ⟨r1, r2⟩ := R
    dsimp only at *
    generalize L.length = n at *
    go_enter Try.func7, Try.ntmps7
    go_wp2_with fail
    obtain ⟨w0, hW⟩ : ∃ w0, w0 = ((w.alloc (.cells #[.string nm, .int .i64 bend, .slice p n cap] 24)).alloc (.cells #[.int .i64 x, .int .i64 y, .int .i64 z] 26)).alloc (.cells #[.int .i64 lo, .int .i64 hi, .int .i64 wt] 73) := ⟨_, rfl⟩
    rw [← hW]
    have HB0 := Lib.hid (show Below w.heap.size w w0 by rw [hW]; (repeat (first | with_reducible exact Below.refl _ _ | with_reducible refine alloc1 ?_ _ | with_reducible refine Below.drew ?_ | with_reducible refine drewN1 ?_ _ | with_reducible refine setC ?_ (by omega) _)))
    have HP0 := Lib.hid (show w0.heap[w.heap.size]? = some (.cells #[.string nm, .int .i64 bend, .slice p n cap] 24 (0, 0)) by rw [hW]; (repeat (first | ((with_reducible refine hnew ?_); (simp; done)) | with_reducible refine hdrew ?_ | with_reducible refine hold ?_)))
    have HY0 := Lib.hid (show w0.heap[w.heap.size + 1]? = some (.cells #[.int .i64 x, .int .i64 y, .int .i64 z] 26 (0, 0)) by rw [hW]; (repeat (first | ((with_reducible refine hnew ?_); (simp; done)) | with_reducible refine hdrew ?_ | with_reducible refine hold ?_)))
    have HM0 := Lib.hid (show w0.heap[w.heap.size + 1 + 1]? = some (.cells #[.int .i64 lo, .int .i64 hi, .int .i64 wt] 73 (0, 0)) by rw [hW]; (repeat (first | ((with_reducible refine hnew ?_); (simp; done)) | with_reducible refine hdrew ?_ | with_reducible refine hold ?_)))
    clear hW
    refine (CA.out _).mono ?_
    rintro e w1 ⟨rfl, hb⟩
    have HB1 := Lib.hid (trans' HB0.out hb)
    have HP1 := Lib.hid (keepb hb HP0.out)
    have HY1 := Lib.hid (keepb hb HY0.out)
    have HM1 := Lib.hid (keepb hb HM0.out)
    clear hb HB0 HP0 HY0 HM0
    obtain ⟨k0, k1, k2⟩ := cells3 HP1.out
    go_wp2_with fail
    refine (CF.out _ HB1.out).mono ?_
    rintro e w2 ⟨rfl, hb⟩
    have HB2 := Lib.hid (trans' HB1.out hb)
    have HP2 := Lib.hid (keepb hb HP1.out)
    have HY2 := Lib.hid (keepb hb HY1.out)
    have HM2 := Lib.hid (keepb hb HM1.out)
    clear hb HB1 HP1 HY1 HM1
    clear k0 k1 k2 CA CF
    obtain ⟨k0, k1, k2⟩ := cells3 HP2.out
    obtain ⟨y0, y1, y2⟩ := cells3 HY2.out
    obtain ⟨m0, m1, m2⟩ := cells3 HM2.out
    go_upto_region 5 with fail
    go_region_held3 (fun W => W.cell? ⟨w.heap.size, 0, none⟩ = some (.string nm) ∧ W.cell? ⟨w.heap.size, 1, none⟩ = some (.int .i64 bend) ∧ W.cell? ⟨w.heap.size, 2, none⟩ = some (.slice p n cap) ∧ W.cell? ⟨w.heap.size + 1, 0, none⟩ = some (.int .i64 x) ∧ W.cell? ⟨w.heap.size + 1, 1, none⟩ = some (.int .i64 y) ∧ W.cell? ⟨w.heap.size + 1, 2, none⟩ = some (.int .i64 z) ∧ W.cell? ⟨w.heap.size + 1 + 1, 0, none⟩ = some (.int .i64 lo) ∧ W.cell? ⟨w.heap.size + 1 + 1, 1, none⟩ = some (.int .i64 hi) ∧ W.cell? ⟨w.heap.size + 1 + 1, 2, none⟩ = some (.int .i64 wt))
      (with_reducible refine ⟨keepc ?_ k0, keepc ?_ k1, keepc ?_ k2, keepc ?_ y0, keepc ?_ y1, keepc ?_ y2, keepc ?_ m0, keepc ?_ m1, keepc ?_ m2⟩ <;> (repeat (first | with_reducible exact Below.refl _ _ | with_reducible refine andThen ?_ hbP | with_reducible refine andThen ?_ hbY | with_reducible refine alloc1 ?_ _ | with_reducible refine Below.drew ?_ | with_reducible refine drewN1 ?_ _ | with_reducible refine setC ?_ (by omega) _)) <;> done)
      (first
        | (go_at_call 17; (with_reducible refine (CY.out _ (trans' HB2.out (by (repeat (first | with_reducible exact Below.refl _ _ | with_reducible refine alloc1 ?_ _ | with_reducible refine Below.drew ?_ | with_reducible refine drewN1 ?_ _ | with_reducible refine setC ?_ (by omega) _))))).mono ?_); rintro e wY ⟨v3, rfl, hbY, hv3⟩)
        | (go_at_call 41; (with_reducible refine (CK.out _ _ hv3).mono ?_); rintro e wP ⟨rfl, hbP⟩))
    have hb3 : Below w2.heap.size w2 wP := andThen (andThen ((Below.refl _ w2).drew) hbY) hbP
    have HB3 := Lib.hid (trans' HB2.out hb3)
    have HP3 := Lib.hid (keepb hb3 HP2.out)
    have HY3 := Lib.hid (keepb hb3 HY2.out)
    have HM3 := Lib.hid (keepb hb3 HM2.out)
    clear hb3 hbY hbP hv3 k0 k1 k2 y0 y1 y2 m0 m1 m2 HB2 HP2 HY2 HM2 CK CY
    obtain ⟨k0, k1, k2⟩ := cells3 HP3.out
    go_wp2_with fail
    refine (CE.out _ HB3.out).mono ?_
    rintro e w4 ⟨rfl, hb⟩
    have HB4 := Lib.hid (trans' HB3.out hb)
    have HP4 := Lib.hid (keepb hb HP3.out)
    have HY4 := Lib.hid (keepb hb HY3.out)
    have HM4 := Lib.hid (keepb hb HM3.out)
    clear hb HB3 HP3 HY3 HM3
    clear k0 k1 k2 CE
    rcases HCC.out with ⟨h1, h2⟩ | ⟨h1, h2, h3⟩ | ⟨h1, h2, h3, h4⟩
    · have hne : (e1 == 0) = false := by rw [beq_eq_false_iff_ne]; exact h1
      have hcw := HCW.out (by rw [h2]; exact h1)
      rw [h2] at hcw
      obtain ⟨rfl, rfl⟩ := Prod.mk.inj hcw
      clear hcw HCC HCW CR h2
      go_wp2_with fail
      go_ret
      exact ⟨rfl, HB4.out⟩
    · have hcw := HCW.out (by rw [h3]; decide)
      rw [h3] at hcw
      obtain ⟨rfl, rfl⟩ := Prod.mk.inj hcw
      clear hcw HCC HCW CR h3
      subst h1 h2
      obtain ⟨y0, y1, y2⟩ := cells3 HY4.out
      go_wp2_with fail
      refine (CI.out _).mono ?_
      rintro e w5 ⟨rfl, hb⟩
      have HB5 := Lib.hid (trans' HB4.out hb)
      clear hb HB4
      go_wp2_with fail
      go_ret
      exact ⟨rfl, HB5.out⟩
    · have CRR := Lib.hid (CR.out h1 h3)
      clear HCC HCW CR h3 h4
      subst h1 h2
      obtain ⟨y0, y1, y2⟩ := cells3 HY4.out
      go_wp2_with fail
      refine (CI.out _).mono ?_
      rintro e w5 ⟨rfl, hb⟩
      have HB5 := Lib.hid (trans' HB4.out hb)
      have HP5 := Lib.hid (keepb hb HP4.out)
      have HY5 := Lib.hid (keepb hb HY4.out)
      have HM5 := Lib.hid (keepb hb HM4.out)
      clear hb HB4 HP4 HY4 HM4
      clear y0 y1 y2
      obtain ⟨k0, k1, k2⟩ := cells3 HP5.out
      obtain ⟨y0, y1, y2⟩ := cells3 HY5.out
      obtain ⟨m0, m1, m2⟩ := cells3 HM5.out
      go_wp2_with fail
      refine (CRR.out _ HB5.out).mono ?_
      rintro e w6 ⟨rfl, hb⟩
      have HB6 := Lib.hid (trans' HB5.out hb)
      clear hb HB5
      go_wp2_with fail
      go_ret
      exact ⟨rfl, HB6.out⟩
end Go.Proofs.Ytodpjhhogcfodaa.Orb
