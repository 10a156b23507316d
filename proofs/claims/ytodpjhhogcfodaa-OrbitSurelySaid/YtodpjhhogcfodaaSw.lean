import Derived.Test.YtodpjhhogcfodaaSv
import Derived.Deep.RegionHeld3
import Derived.Outline
namespace Go.Proofs.Ytodpjhhogcfodaa.Orb
open Go.RowKit Lib

/-- the four ways of OrbitSides -/
theorem sd_ways (ne bend : Int) (L : List St) (arc x y z : Int) :
    ((orbE ne bend L).2 ≠ 0 ∧ sdE ne bend L arc x y z = (orbE ne bend L).2) ∨
    ((orbE ne bend L).2 = 0 ∧ decide (0 ≤ arc ∧ arc ≤ (L.length : Int) - 2) = false ∧ sdE ne bend L arc x y z = 6) ∨
    ((orbE ne bend L).2 = 0 ∧ decide (0 ≤ arc ∧ arc ≤ (L.length : Int) - 2) = true ∧ placeB x y z = false ∧ sdE ne bend L arc x y z = 2) ∨
    ((orbE ne bend L).2 = 0 ∧ decide (0 ≤ arc ∧ arc ≤ (L.length : Int) - 2) = true ∧ placeB x y z = true ∧ sdE ne bend L arc x y z = 0) := by
  by_cases h1 : (orbE ne bend L).2 = 0
  · right
    by_cases h2 : 0 ≤ arc ∧ arc ≤ (L.length : Int) - 2
    · right
      have ha : arcE L.length arc = 0 := if_pos (by omega)
      cases h3 : placeB x y z with
      | false =>
        left
        refine ⟨h1, decide_eq_true h2, rfl, ?_⟩
        unfold sdE
        rw [h1, ha, show firstE [0, 0, placeE x y z] = firstE [placeE x y z] from rfl]
        have hp : placeE x y z ≠ 0 := fun h => by rw [(placeB_iff x y z).2 h] at h3; cases h3
        have hp2 : placeE x y z = 2 := by
          unfold placeE rangeE at hp ⊢
          by_cases q1 : -100000000 ≤ x ∧ x ≤ 100000000 <;> by_cases q2 : -100000000 ≤ y ∧ y ≤ 100000000 <;> by_cases q3 : -100000000 ≤ z ∧ z ≤ 100000000 <;>
            (first | rw [if_pos q1] at hp ⊢ | rw [if_neg q1] at hp ⊢) <;> (first | rw [if_pos q2] at hp ⊢ | rw [if_neg q2] at hp ⊢) <;> (first | rw [if_pos q3] at hp ⊢ | rw [if_neg q3] at hp ⊢) <;>
            first | rfl | exact absurd rfl hp
        rw [hp2]; rfl
      | true =>
        right
        refine ⟨h1, decide_eq_true h2, rfl, ?_⟩
        unfold sdE
        rw [h1, ha, (placeB_iff x y z).1 h3]; rfl
    · left
      have ha : arcE L.length arc = 6 := if_neg (by omega)
      refine ⟨h1, decide_eq_false h2, ?_⟩
      unfold sdE
      rw [h1, ha]; rfl
  · left
    refine ⟨h1, ?_⟩
    unfold sdE
    exact firstE_hit [(orbE ne bend L).2, arcE L.length arc, placeE x y z] 0 _ rfl h1

set_option maxRecDepth 100000 in
set_option maxHeartbeats 8000000 in
theorem sides_any (v : Value) (nm : ByteArray) (bend : Int) (L : List St) (hI : ∀ k, (gt L k).t ≤ 9223372036854775807) (arc x y z : Int) (w : World) (hv : OV w v nm bend L) :
    Calls Try.prog 12 #[v, .int .i64 arc, .agg #[.int .i64 x, .int .i64 y, .int .i64 z]] w fun e w' => e = .returned (.bool true) ∧ Below w.heap.size w w' := by
  have CA := Lib.hid awake_any
  have CF := Lib.hid (fun W (h : Below w.heap.size w W) => Few_any v nm bend L W (hv.next h))
  cases hf : fewB nm.size L.length with
  | false =>
    rw [hf] at CF
    obtain ⟨p, cap, rfl, -, -, -⟩ := hv.form
    clear hv hf hI
    generalize L.length = n at *
    go_enter Try.func12, Try.ntmps12
    go_wp2_with fail
    obtain ⟨W0, hW0⟩ : ∃ W0, W0 = (w.alloc (.cells #[.string nm, .int .i64 bend, .slice p n cap] 24)).alloc (.cells #[.int .i64 x, .int .i64 y, .int .i64 z] 26) := ⟨_, rfl⟩
    rw [← hW0]
    have HB0 := Lib.hid (show Below w.heap.size w W0 by rw [hW0]; (repeat (first | with_reducible exact Below.refl _ _ | with_reducible refine alloc1 ?_ _ | with_reducible refine Below.drew ?_ | with_reducible refine drewN1 ?_ _ | with_reducible refine setC ?_ (by omega) _)))
    have HP0 := Lib.hid (show W0.heap[w.heap.size]? = some (.cells #[.string nm, .int .i64 bend, .slice p n cap] 24 (0, 0)) by rw [hW0]; (repeat (first | ((with_reducible refine hnew ?_); (simp; done)) | with_reducible refine hdrew ?_ | with_reducible refine hold ?_)))
    clear hW0
    refine (CA.out _).mono ?_
    rintro e w1 ⟨rfl, hb⟩
    have HB1 := Lib.hid (trans' HB0.out hb)
    obtain ⟨k0, k1, k2⟩ := cells3 (keepb hb HP0.out)
    clear hb
    go_wp2_with fail
    refine (CF.out _ HB1.out).mono ?_
    rintro e w2 ⟨rfl, hb⟩
    have HB2 := Lib.hid (trans' HB1.out hb)
    clear hb
    go_wp2_with fail
    go_ret
    exact ⟨rfl, HB2.out⟩
  | true =>
    rw [hf] at CF
    obtain ⟨hs1, hn1⟩ := fewB_true hf
    have CY := Lib.hid (fun W (h : Below w.heap.size w W) => Copy_any v nm bend L (by omega) W (hv.next h))
    have CS := Lib.hid (fun v2 W (h : OV W v2 nm bend L) => SideOf_any v2 nm (by omega) bend L (by omega) hI arc x y z W h)
    have CE := Lib.hid (fun W (h : Below w.heap.size w W) => refErr_any v nm (by omega) bend L W (hv.next h))
    have CW := Lib.hid (fun W => Within_any arc 0 ((L.length : Int) - 2) W)
    have CP := Lib.hid (fun W => IsPlace_any x y z W)
    have CR := Lib.hid (show sdE (nameE nm) bend L arc x y z = 0 → ∃ r, sideI (turnI (gt L arc.toNat) (gt L (arc.toNat + 1)) x y) = r ∧ ∀ W, Below w.heap.size w W → Calls Try.prog 62 #[v, .int .i64 arc, .agg #[.int .i64 x, .int .i64 y, .int .i64 z]] W fun e w' => e = .returned (.int .i64 r) ∧ Below W.heap.size W w' by
      intro h0
      obtain ⟨-, hR, a0, a1, hp⟩ := sdE_zero h0
      refine ⟨_, rfl, fun W h => ?_⟩
      have := refSideOf_any v nm bend L arc.toNat (by omega) (by omega) (hR.st _ (by omega)) (hR.st _ (by omega)) x y z hp W (hv.next h)
      rwa [show ((arc.toNat : Nat) : Int) = arc from by omega] at this)
    have hwy := sd_ways (nameE nm) bend L arc x y z
    obtain ⟨p, cap, hvf, -, -, -⟩ := hv.form
    generalize hsr : sideI (turnI (gt L arc.toNat) (gt L (arc.toNat + 1)) x y) = sr at *
    generalize sdE (nameE nm) bend L arc x y z = E at *
    generalize (orbE (nameE nm) bend L).2 = c at *
    generalize placeB x y z = pb at *
    have hwr : IntKind.i64.wrap ((L.length : Int) - 2) = (L.length : Int) - 2 := IntWalk.i64_in _ (by omega)
    clear hv hI hf hsr hs1 hn1
    subst hvf
    generalize hln : L.length = n at *
    generalize decide (0 ≤ arc ∧ arc ≤ (n : Int) - 2) = wb at *
    clear hln
    have hz : (E = 0 ∧ Hid (zif E sr = sr)) ∨ (E ≠ 0 ∧ Hid (zif E sr = 0)) := by
      by_cases h : E = 0
      · exact .inl ⟨h, if_pos h⟩
      · exact .inr ⟨h, if_neg h⟩
    have HZ := Lib.hid hz
    clear hz
    generalize zif E sr = zr at *
    have HWY := Lib.hid hwy
    clear hwy
    go_enter Try.func12, Try.ntmps12
    go_wp2_with fail
    obtain ⟨W0, hW0⟩ : ∃ W0, W0 = (w.alloc (.cells #[.string nm, .int .i64 bend, .slice p n cap] 24)).alloc (.cells #[.int .i64 x, .int .i64 y, .int .i64 z] 26) := ⟨_, rfl⟩
    rw [← hW0]
    have HB0 := Lib.hid (show Below w.heap.size w W0 by rw [hW0]; (repeat (first | with_reducible exact Below.refl _ _ | with_reducible refine alloc1 ?_ _ | with_reducible refine Below.drew ?_ | with_reducible refine drewN1 ?_ _ | with_reducible refine setC ?_ (by omega) _)))
    have HP0 := Lib.hid (show W0.heap[w.heap.size]? = some (.cells #[.string nm, .int .i64 bend, .slice p n cap] 24 (0, 0)) by rw [hW0]; (repeat (first | ((with_reducible refine hnew ?_); (simp; done)) | with_reducible refine hdrew ?_ | with_reducible refine hold ?_)))
    have HY0 := Lib.hid (show W0.heap[w.heap.size + 1]? = some (.cells #[.int .i64 x, .int .i64 y, .int .i64 z] 26 (0, 0)) by rw [hW0]; (repeat (first | ((with_reducible refine hnew ?_); (simp; done)) | with_reducible refine hdrew ?_ | with_reducible refine hold ?_)))
    clear hW0
    refine (CA.out _).mono ?_
    rintro e w1 ⟨rfl, hb⟩
    have HB1 := Lib.hid (trans' HB0.out hb)
    have HP1 := Lib.hid (keepb hb HP0.out)
    have HY1 := Lib.hid (keepb hb HY0.out)
    obtain ⟨k0, k1, k2⟩ := cells3 HP1.out
    clear hb HB0 HP0 HY0
    go_wp2_with fail
    refine (CF.out _ HB1.out).mono ?_
    rintro e w2 ⟨rfl, hb⟩
    have HB2 := Lib.hid (trans' HB1.out hb)
    have HP2 := Lib.hid (keepb hb HP1.out)
    have HY2 := Lib.hid (keepb hb HY1.out)
    clear hb k0 k1 k2 HB1 HP1 HY1
    obtain ⟨k0, k1, k2⟩ := cells3 HP2.out
    obtain ⟨y0, y1, y2⟩ := cells3 HY2.out
    go_upto_region 5 with fail
    go_region_held3 (fun W => W.cell? ⟨w.heap.size, 0, none⟩ = some (.string nm) ∧ W.cell? ⟨w.heap.size, 1, none⟩ = some (.int .i64 bend) ∧ W.cell? ⟨w.heap.size, 2, none⟩ = some (.slice p n cap) ∧ W.cell? ⟨w.heap.size + 1, 0, none⟩ = some (.int .i64 x) ∧ W.cell? ⟨w.heap.size + 1, 1, none⟩ = some (.int .i64 y) ∧ W.cell? ⟨w.heap.size + 1, 2, none⟩ = some (.int .i64 z)) (with_reducible refine ⟨keepc ?_ k0, keepc ?_ k1, keepc ?_ k2, keepc ?_ y0, keepc ?_ y1, keepc ?_ y2⟩ <;> (repeat (first | with_reducible exact Below.refl _ _ | with_reducible refine andThen ?_ hbC | with_reducible refine andThen ?_ hbS | with_reducible refine alloc1 ?_ _ | with_reducible refine Below.drew ?_ | with_reducible refine drewN1 ?_ _ | with_reducible refine setC ?_ (by omega) _)) <;> done)
      (first
        | (go_at_call 17; (with_reducible refine (CY.out _ (trans' HB2.out (by (repeat (first | with_reducible exact Below.refl _ _ | with_reducible refine alloc1 ?_ _ | with_reducible refine Below.drew ?_ | with_reducible refine drewN1 ?_ _ | with_reducible refine setC ?_ (by omega) _))))).mono ?_); rintro e wC ⟨v2, rfl, hbC, hv2⟩)
        | (go_at_call 61; (with_reducible refine (CS.out _ _ hv2).mono ?_); rintro e wS ⟨rfl, hbS⟩))
    all_goals
      trace "WAY"
      have HB5 := Lib.hid (show Below w2.heap.size w2 wS by (repeat (first | with_reducible exact Below.refl _ _ | with_reducible refine andThen ?_ hbC | with_reducible refine andThen ?_ hbS | with_reducible refine alloc1 ?_ _ | with_reducible refine Below.drew ?_ | with_reducible refine drewN1 ?_ _ | with_reducible refine setC ?_ (by omega) _)))
      have HB6 := Lib.hid (trans' HB2.out HB5.out)
      have HP6 := Lib.hid (keepb HB5.out HP2.out)
      have HY6 := Lib.hid (keepb HB5.out HY2.out)
      clear hbC hbS hv2 k0 k1 k2 y0 y1 y2 HB5 HB2 HP2 HY2
      obtain ⟨k0, k1, k2⟩ := cells3 HP6.out
      go_wp2_with fail
      refine (CE.out _ HB6.out).mono ?_
      rintro e w7 ⟨rfl, hb⟩
      have HB7 := Lib.hid (trans' HB6.out hb)
      have HP7 := Lib.hid (keepb hb HP6.out)
      have HY7 := Lib.hid (keepb hb HY6.out)
      clear hb HB6 HP6 HY6 k0 k1 k2 CY CS CE CF CA
      obtain ⟨k0, k1, k2⟩ := cells3 HP7.out
      obtain ⟨y0, y1, y2⟩ := cells3 HY7.out
      rcases HWY.out with ⟨h1, h2⟩ | ⟨h1, h2, h3⟩ | ⟨h1, h2, h3, h4⟩ | ⟨h1, h2, h3, h4⟩
      · subst h2
        have hz : zr = 0 := by
          rcases HZ.out with ⟨h, -⟩ | ⟨-, h⟩
          · exact absurd h h1
          · exact h
        subst hz
        have h2 : (E == 0) = false := by rw [beq_eq_false_iff_ne]; exact h1
        have h3 : (E != 0) = true := by rw [bne_iff_ne]; exact h1
        clear HZ HWY CR
        go_wp2_with fail
        go_ret
        exact ⟨rfl, HB7.out⟩
      · subst h1 h2 h3
        have hz : zr = 0 := by
          rcases HZ.out with ⟨h, -⟩ | ⟨-, h⟩
          · exact absurd h (by decide)
          · exact h
        subst hz
        clear HZ HWY CR
        go_wp2_with fail
        refine (CW.out _).mono ?_
        rintro e w8 ⟨rfl, rfl⟩
        go_wp2_with fail
        go_ret
        exact ⟨rfl, HB7.out⟩
      · subst h1 h2 h3 h4
        have hz : zr = 0 := by
          rcases HZ.out with ⟨h, -⟩ | ⟨-, h⟩
          · exact absurd h (by decide)
          · exact h
        subst hz
        clear HZ HWY CR
        go_wp2_with fail
        refine (CW.out _).mono ?_
        rintro e w8 ⟨rfl, rfl⟩
        go_wp2_with fail
        refine (CP.out _).mono ?_
        rintro e w8 ⟨rfl, hb⟩
        have HB8 := Lib.hid (trans' HB7.out hb)
        clear hb
        go_wp2_with fail
        go_ret
        exact ⟨rfl, HB8.out⟩
      · subst h1 h2 h3 h4
        have hz : zr = sr := by
          rcases HZ.out with ⟨-, h⟩ | ⟨h, -⟩
          · exact h
          · exact absurd rfl h
        subst hz
        obtain ⟨r, hr, hcall⟩ := CR.out (by first | rfl | trivial)
        subst hr
        have CRW := Lib.hid hcall
        clear HZ HWY CR hcall
        go_wp2_with fail
        refine (CW.out _).mono ?_
        rintro e w8 ⟨rfl, rfl⟩
        go_wp2_with fail
        refine (CP.out _).mono ?_
        rintro e w8 ⟨rfl, hb⟩
        have HB8 := Lib.hid (trans' HB7.out hb)
        have hP8 := keepb hb HP7.out
        have hY8 := keepb hb HY7.out
        clear hb k0 k1 k2 y0 y1 y2
        obtain ⟨k0, k1, k2⟩ := cells3 hP8
        obtain ⟨y0, y1, y2⟩ := cells3 hY8
        clear hP8 hY8
        go_wp2_with fail
        refine (CRW.out _ HB8.out).mono ?_
        rintro e w9 ⟨rfl, hb⟩
        have HB9 := Lib.hid (trans' HB8.out hb)
        clear hb
        go_wp2_with fail
        go_ret
        exact ⟨rfl, HB9.out⟩
end Go.Proofs.Ytodpjhhogcfodaa.Orb
