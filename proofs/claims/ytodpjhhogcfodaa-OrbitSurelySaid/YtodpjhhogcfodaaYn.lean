import Derived.Test.YtodpjhhogcfodaaYm
import Derived.Test.YtodpjhhogcfodaaSx
import Derived.Deep.RegionHeld3
import Derived.Deep.Quiet
import Derived.BigQuiet
import Derived.Outline
namespace Go.Proofs.Ytodpjhhogcfodaa.Orb
open Go.RowKit Lib

/-- what a claim comes to, as the reference has it -/
def chR (bend : Int) (L : List St) (x y z lo hi wt : Int) : Int × Int :=
  if (fst L ≤ lo ∧ lo ≤ lst L) ∧ (fst L ≤ hi ∧ hi ≤ lst L) ∧ (fst L ≤ wt ∧ wt ≤ lst L) then (if hi < lo then (0, 9) else if outB (sLo bend L x y z) (sHi bend L x y z wt) lo hi (ticksOf (fst L) (nTicks L)) = true then (0, 22) else (hi - lo + 1, 0)) else (0, 2)
theorem tickE_is (L : List St) (h0 : 0 < L.length) (t : Int) : tickE L t = if fst L ≤ t ∧ t ≤ lst L then 0 else 2 := by
  unfold tickE hasB
  rw [decide_eq_true h0, Bool.true_and]
  by_cases h : fst L ≤ t ∧ t ≤ lst L
  · rw [if_pos h, decide_eq_true h.1, decide_eq_true h.2]; rfl
  · rw [if_neg h, if_neg]
    simp
    omega
theorem chN_right {ne bend : Int} {L : List St} {x y z lo hi wt : Int} (h : (orbE ne bend L).2 = 0) (hp : placeE x y z = 0) : chN ne bend L x y z lo hi wt = chR bend L x y z lo hi wt := by
  have hn := (Rt.of h).2.n0
  unfold chN chR chE
  rw [h, hp, tickE_is L (by omega), tickE_is L (by omega), tickE_is L (by omega)]
  by_cases h1 : fst L ≤ lo ∧ lo ≤ lst L
  · by_cases h2 : fst L ≤ hi ∧ hi ≤ lst L
    · by_cases h3 : fst L ≤ wt ∧ wt ≤ lst L
      · rw [if_pos h1, if_pos h2, if_pos h3, if_neg (show ¬ firstE [0, 0, 0, 0, 0] ≠ 0 by decide), if_pos (⟨h1, h2, h3⟩ : (fst L ≤ lo ∧ lo ≤ lst L) ∧ (fst L ≤ hi ∧ hi ≤ lst L) ∧ (fst L ≤ wt ∧ wt ≤ lst L))]
      · rw [if_pos h1, if_pos h2, if_neg h3, if_pos (show firstE [0, 0, 0, 0, 2] ≠ 0 by decide), if_neg (show ¬ ((fst L ≤ lo ∧ lo ≤ lst L) ∧ (fst L ≤ hi ∧ hi ≤ lst L) ∧ (fst L ≤ wt ∧ wt ≤ lst L)) from fun k => h3 k.2.2)]; rfl
    · rw [if_pos h1, if_neg h2, if_neg (show ¬ ((fst L ≤ lo ∧ lo ≤ lst L) ∧ (fst L ≤ hi ∧ hi ≤ lst L) ∧ (fst L ≤ wt ∧ wt ≤ lst L)) from fun k => h2 k.2.1), if_pos (by simp [firstE])]; rfl
  · rw [if_neg h1, if_neg (show ¬ ((fst L ≤ lo ∧ lo ≤ lst L) ∧ (fst L ≤ hi ∧ hi ≤ lst L) ∧ (fst L ≤ wt ∧ wt ≤ lst L)) from fun k => h1 k.1), if_pos (by simp [firstE])]; rfl
theorem chN_wrong {ne bend : Int} {L : List St} {x y z lo hi wt : Int} (h : opE ne bend L x y z ≠ 0) : chN ne bend L x y z lo hi wt = (0, opE ne bend L x y z) := by
  have e : chE ne bend L x y z lo hi wt = opE ne bend L x y z := by
    unfold chE opE at *
    by_cases h1 : (orbE ne bend L).2 = 0
    · by_cases h2 : placeE x y z = 0
      · exact absurd (by simp [firstE, h1, h2]) h
      · simp [firstE, h1, h2]
    · simp [firstE, h1]
  unfold chN
  rw [e, if_pos h]

set_option maxRecDepth 100000 in
set_option maxHeartbeats 8000000 in
/-- THE REFERENCE'S CHECK OF A CLAIM -/
theorem refCheckNearest_any (v : Value) (nm : ByteArray) (bend : Int) (L : List St) (hR : Rt bend L) (x y z lo hi wt : Int) (hp : placeE x y z = 0) (w : World) (hv : OV w v nm bend L) :
    Calls Try.prog 42 #[v, .agg #[.int .i64 x, .int .i64 y, .int .i64 z], .agg #[.int .i64 lo, .int .i64 hi, .int .i64 wt]] w fun e w' => e = .returned (.tuple #[.int .i64 (chR bend L x y z lo hi wt).1, .int .i64 (chR bend L x y z lo hi wt).2]) ∧ Below w.heap.size w w' := by
  have n0 := hR.n0
  have n1 := hR.n1
  have hlo : 0 ≤ fst L := (hR.st 0 (by omega)).t0
  have hhi : lst L ≤ 1000000000 := (hR.st (L.length - 1) (by omega)).t1
  have hle : fst L ≤ lst L := hR.le 0 (L.length - 1) (Nat.zero_le _) (by omega)
  have hnt : (nTicks L : Int) = lst L - fst L + 1 := by unfold nTicks; omega
  have CO := Lib.hid (fun W (h : Below w.heap.size w W) => First_any v nm bend L (by omega) W (hv.next h))
  have CL := Lib.hid (fun W (h : Below w.heap.size w W) => Last_any v nm bend L (by omega) (by omega) W (hv.next h))
  have CH := Lib.hid (fun t W (h : Below w.heap.size w W) => Has_any v nm bend L (by omega) (by omega) t W (hv.next h))
  have CX : Hid (∀ t, fst L ≤ t → t ≤ lst L → ∀ W, Below w.heap.size w W → Calls Try.prog 31 #[v, .int .i64 t] W fun e w' => e = .returned (.agg #[.int .i64 (loC bend L t 0), .int .i64 (hiC bend L t 0), .int .i64 (loC bend L t 1), .int .i64 (hiC bend L t 1), .int .i64 (loC bend L t 2), .int .i64 (hiC bend L t 2)]) ∧ Below W.heap.size W w') := fun t a b W hb => refBoxAt_any v nm bend L hR t a b W (hv.next hb)
  have CQ : Hid (∀ t, fst L ≤ t → t ≤ lst L → ∀ W, Calls Try.prog 30 #[.agg #[.int .i64 (loC bend L t 0), .int .i64 (hiC bend L t 0), .int .i64 (loC bend L t 1), .int .i64 (hiC bend L t 1), .int .i64 (loC bend L t 2), .int .i64 (hiC bend L t 2)], .agg #[.int .i64 x, .int .i64 y, .int .i64 z]] W fun e w' => e = .returned (.agg #[.int .i64 (sLo bend L x y z t), .int .i64 (sHi bend L x y z t)]) ∧ Below W.heap.size W w') := fun t a b W => by
    obtain ⟨-, -, s3, s4, -⟩ := sq_range hR a b hp
    exact refSquares_any _ _ x y z s3 hp s4 W
  have HSN := Lib.hid (fun pre t => outB_snoc (sLo bend L x y z) (sHi bend L x y z wt) lo hi pre t)
  have HPR := Lib.hid (fun k m (h : k ≤ m) => @outB_pre (sLo bend L x y z) (sHi bend L x y z wt) lo hi _ _ (ticksOf_pre (fst L) k m h))
  obtain ⟨sp, cap, rfl, -, -, -⟩ := hv.form
  have HC : Hid (chR bend L x y z lo hi wt = if (fst L ≤ lo ∧ lo ≤ lst L) ∧ (fst L ≤ hi ∧ hi ≤ lst L) ∧ (fst L ≤ wt ∧ wt ≤ lst L) then (if hi < lo then (0, 9) else if outB (sLo bend L x y z) (sHi bend L x y z wt) lo hi (ticksOf (fst L) (nTicks L)) = true then (0, 22) else (hi - lo + 1, 0)) else (0, 2)) := rfl
  have HT := Lib.hid (And.intro hlo (And.intro hhi (And.intro hnt hle)))
  clear hv hR hp n0 n1 hlo hhi hle hnt
  generalize chR bend L x y z lo hi wt = R at *
  generalize loC bend L = LO at *
  generalize hiC bend L = HI at *
  generalize sLo bend L x y z = FL at *
  generalize sHi bend L x y z = FH at *
  generalize nTicks L = m at *
  generalize fst L = f at *
  generalize lst L = la at *
  generalize L.length = n at *
  have CHl := Lib.hid (CH.out lo)
  have CHh := Lib.hid (CH.out hi)
  have CHw := Lib.hid (CH.out wt)
  have hw : (decide (f ≤ lo ∧ lo ≤ la) = false ∧ Hid (R = (0, 2))) ∨ (decide (f ≤ lo ∧ lo ≤ la) = true ∧ decide (f ≤ hi ∧ hi ≤ la) = false ∧ Hid (R = (0, 2))) ∨ (decide (f ≤ lo ∧ lo ≤ la) = true ∧ decide (f ≤ hi ∧ hi ≤ la) = true ∧ decide (f ≤ wt ∧ wt ≤ la) = false ∧ Hid (R = (0, 2))) ∨
      (decide (f ≤ lo ∧ lo ≤ la) = true ∧ decide (f ≤ hi ∧ hi ≤ la) = true ∧ decide (f ≤ wt ∧ wt ≤ la) = true ∧ ((f ≤ lo ∧ lo ≤ la) ∧ (f ≤ hi ∧ hi ≤ la) ∧ (f ≤ wt ∧ wt ≤ la)) ∧ Hid (R = if hi < lo then (0, 9) else if outB FL (FH wt) lo hi (ticksOf f m) = true then (0, 22) else (hi - lo + 1, 0))) := by
    by_cases h1 : f ≤ lo ∧ lo ≤ la
    · right
      by_cases h2 : f ≤ hi ∧ hi ≤ la
      · right
        by_cases h3 : f ≤ wt ∧ wt ≤ la
        · right; exact ⟨decide_eq_true h1, decide_eq_true h2, decide_eq_true h3, ⟨h1, h2, h3⟩, Lib.hid (HC.out.trans (if_pos ⟨h1, h2, h3⟩))⟩
        · left; exact ⟨decide_eq_true h1, decide_eq_true h2, decide_eq_false h3, Lib.hid (HC.out.trans (if_neg fun k => h3 k.2.2))⟩
      · left; exact ⟨decide_eq_true h1, decide_eq_false h2, Lib.hid (HC.out.trans (if_neg fun k => h2 k.2.1))⟩
    · left; exact ⟨decide_eq_false h1, Lib.hid (HC.out.trans (if_neg fun k => h1 k.1))⟩
  clear HC CH
  obtain ⟨W0, hW0⟩ : ∃ W0, W0 = ((w.alloc (.cells #[.string nm, .int .i64 bend, .slice sp n cap] 24)).alloc (.cells #[.int .i64 x, .int .i64 y, .int .i64 z] 26)).alloc (.cells #[.int .i64 lo, .int .i64 hi, .int .i64 wt] 73) := ⟨_, rfl⟩
  have HW0 := Lib.hid hW0
  have HB0 := Lib.hid (show Below w.heap.size w W0 by rw [hW0]; (repeat (first | with_reducible exact Below.refl _ _ | with_reducible refine alloc1 ?_ _ | with_reducible refine Below.drew ?_ | with_reducible refine drewN1 ?_ _ | with_reducible refine setC ?_ (by omega) _)))
  have HP0 := Lib.hid (show W0.heap[w.heap.size]? = some (.cells #[.string nm, .int .i64 bend, .slice sp n cap] 24 (0, 0)) by rw [hW0]; (repeat (first | ((with_reducible refine hnew ?_); (simp; done)) | with_reducible refine hdrew ?_ | with_reducible refine hold ?_)))
  have HY0 := Lib.hid (show W0.heap[w.heap.size + 1]? = some (.cells #[.int .i64 x, .int .i64 y, .int .i64 z] 26 (0, 0)) by rw [hW0]; (repeat (first | ((with_reducible refine hnew ?_); (simp; done)) | with_reducible refine hdrew ?_ | with_reducible refine hold ?_)))
  have HM0 := Lib.hid (show W0.heap[w.heap.size + 1 + 1]? = some (.cells #[.int .i64 lo, .int .i64 hi, .int .i64 wt] 73 (0, 0)) by rw [hW0]; (repeat (first | ((with_reducible refine hnew ?_); (simp; done)) | with_reducible refine hdrew ?_ | with_reducible refine hold ?_)))
  clear hW0
  obtain ⟨k0, k1, k2⟩ := cells3 HP0.out
  obtain ⟨m0, m1, m2⟩ := cells3 HM0.out
  have HKM := Lib.hid (And.intro HP0.out HM0.out)
  rcases hw with ⟨h1, HR⟩ | ⟨h1, h2, HR⟩ | ⟨h1, h2, h3, HR⟩ | ⟨h1, h2, h3, hin, HR⟩
  · rw [h1] at CHl
    clear h1
    go_enter Try.func42, Try.ntmps42
    go_upto_region 1 with fail
    rw [← HW0.out]
    go_wp2_with fail
    refine (CHl.out _ HB0.out).mono ?_
    rintro e w1 ⟨rfl, hb⟩
    have HB1 := Lib.hid (trans' HB0.out hb)
    clear hb
    go_wp2_with fail
    go_ret2
    exact ⟨by rw [HR.out]; rfl, HB1.out⟩
  · rw [h1] at CHl
    rw [h2] at CHh
    clear h1 h2
    go_enter Try.func42, Try.ntmps42
    go_upto_region 1 with fail
    rw [← HW0.out]
    go_wp2_with fail
    refine (CHl.out _ HB0.out).mono ?_
    rintro e w1 ⟨rfl, hb⟩
    have HB1 := Lib.hid (trans' HB0.out hb)
    have HP1 := Lib.hid (keepb hb HP0.out)
    have HM1 := Lib.hid (keepb hb HM0.out)
    clear hb HB0 HP0 HM0
    clear k0 k1 k2 m0 m1 m2
    obtain ⟨k0, k1, k2⟩ := cells3 HP1.out
    obtain ⟨m0, m1, m2⟩ := cells3 HM1.out
    go_wp2_with fail
    refine (CHh.out _ HB1.out).mono ?_
    rintro e w2 ⟨rfl, hb⟩
    have HB2 := Lib.hid (trans' HB1.out hb)
    clear hb HB1
    go_wp2_with fail
    go_ret2
    exact ⟨by rw [HR.out]; rfl, HB2.out⟩
  · rw [h1] at CHl
    rw [h2] at CHh
    rw [h3] at CHw
    clear h1 h2 h3
    go_enter Try.func42, Try.ntmps42
    go_upto_region 1 with fail
    rw [← HW0.out]
    go_wp2_with fail
    refine (CHl.out _ HB0.out).mono ?_
    rintro e w1 ⟨rfl, hb⟩
    have HB1 := Lib.hid (trans' HB0.out hb)
    have HP1 := Lib.hid (keepb hb HP0.out)
    have HM1 := Lib.hid (keepb hb HM0.out)
    clear hb HB0 HP0 HM0
    clear k0 k1 k2 m0 m1 m2
    obtain ⟨k0, k1, k2⟩ := cells3 HP1.out
    obtain ⟨m0, m1, m2⟩ := cells3 HM1.out
    go_wp2_with fail
    refine (CHh.out _ HB1.out).mono ?_
    rintro e w2 ⟨rfl, hb⟩
    have HB2 := Lib.hid (trans' HB1.out hb)
    have HP2 := Lib.hid (keepb hb HP1.out)
    have HM2 := Lib.hid (keepb hb HM1.out)
    clear hb HB1 HP1 HM1
    clear k0 k1 k2 m0 m1 m2
    obtain ⟨k0, k1, k2⟩ := cells3 HP2.out
    obtain ⟨m0, m1, m2⟩ := cells3 HM2.out
    go_wp2_with fail
    refine (CHw.out _ HB2.out).mono ?_
    rintro e w3 ⟨rfl, hb⟩
    have HB3 := Lib.hid (trans' HB2.out hb)
    clear hb HB2
    go_wp2_with fail
    go_ret2
    exact ⟨by rw [HR.out]; rfl, HB3.out⟩
  · rw [h1] at CHl
    rw [h2] at CHh
    rw [h3] at CHw
    obtain ⟨⟨l0, l1⟩, ⟨g0, g1⟩, u0, u1⟩ := hin
    have CXW := Lib.hid (CX.out wt u0 u1)
    have CQW := Lib.hid (CQ.out wt u0 u1)
    have HBD := Lib.hid (show 0 ≤ lo ∧ lo ≤ 1000000000 ∧ 0 ≤ hi ∧ hi ≤ 1000000000 by have := HT.out.1; have := HT.out.2.1; omega)
    clear h1 h2 h3 l0 l1 g0 g1 u0 u1
    go_enter Try.func42, Try.ntmps42
    go_upto_region 1 with fail
    rw [← HW0.out]
    go_wp2_with fail
    refine (CHl.out _ HB0.out).mono ?_
    rintro e w1 ⟨rfl, hb⟩
    have HB1 := Lib.hid (trans' HB0.out hb)
    have HP1 := Lib.hid (keepb hb HP0.out)
    have HY1 := Lib.hid (keepb hb HY0.out)
    have HM1 := Lib.hid (keepb hb HM0.out)
    clear hb HB0 HP0 HY0 HM0
    clear k0 k1 k2 m0 m1 m2 HKM
    obtain ⟨k0, k1, k2⟩ := cells3 HP1.out
    obtain ⟨m0, m1, m2⟩ := cells3 HM1.out
    go_wp2_with fail
    refine (CHh.out _ HB1.out).mono ?_
    rintro e w2 ⟨rfl, hb⟩
    have HB2 := Lib.hid (trans' HB1.out hb)
    have HP2 := Lib.hid (keepb hb HP1.out)
    have HY2 := Lib.hid (keepb hb HY1.out)
    have HM2 := Lib.hid (keepb hb HM1.out)
    clear hb HB1 HP1 HY1 HM1
    clear k0 k1 k2 m0 m1 m2
    obtain ⟨k0, k1, k2⟩ := cells3 HP2.out
    obtain ⟨m0, m1, m2⟩ := cells3 HM2.out
    go_wp2_with fail
    refine (CHw.out _ HB2.out).mono ?_
    rintro e w3 ⟨rfl, hb⟩
    have HB3 := Lib.hid (trans' HB2.out hb)
    have HP3 := Lib.hid (keepb hb HP2.out)
    have HY3 := Lib.hid (keepb hb HY2.out)
    have HM3 := Lib.hid (keepb hb HM2.out)
    clear hb HB2 HP2 HY2 HM2
    clear k0 k1 k2 m0 m1 m2 CHl CHh CHw
    obtain ⟨k0, k1, k2⟩ := cells3 HP3.out
    obtain ⟨y0, y1, y2⟩ := cells3 HY3.out
    obtain ⟨m0, m1, m2⟩ := cells3 HM3.out
    by_cases hlt : hi < lo
    · have HR2 := Lib.hid (HR.out.trans (if_pos hlt))
      go_wp2_with fail
      go_ret2
      exact ⟨by rw [HR2.out]; rfl, HB3.out⟩
    · have HR2 := Lib.hid (HR.out.trans (if_neg hlt))
      have FH1 := fld_hi (FL wt) (FH wt)
      go_upto_region 5 with fail
      go_region_held3 (fun W => W.cell? ⟨w.heap.size, 0, none⟩ = some (.string nm) ∧ W.cell? ⟨w.heap.size, 1, none⟩ = some (.int .i64 bend) ∧ W.cell? ⟨w.heap.size, 2, none⟩ = some (.slice sp n cap) ∧ W.cell? ⟨w.heap.size + 1, 0, none⟩ = some (.int .i64 x) ∧ W.cell? ⟨w.heap.size + 1, 1, none⟩ = some (.int .i64 y) ∧ W.cell? ⟨w.heap.size + 1, 2, none⟩ = some (.int .i64 z) ∧ W.cell? ⟨w.heap.size + 1 + 1, 2, none⟩ = some (.int .i64 wt))
        (with_reducible refine ⟨keepc ?_ k0, keepc ?_ k1, keepc ?_ k2, keepc ?_ y0, keepc ?_ y1, keepc ?_ y2, keepc ?_ m2⟩ <;> (repeat (first | with_reducible exact Below.refl _ _ | with_reducible refine andThen ?_ hbS | with_reducible refine andThen ?_ hbN | with_reducible refine alloc1 ?_ _ | with_reducible refine Below.drew ?_ | with_reducible refine drewN1 ?_ _ | with_reducible refine setC ?_ (by omega) _)) <;> done)
        (first
          | (go_at_call 31; (with_reducible refine (CXW.out _ (trans' HB3.out (by (repeat (first | with_reducible exact Below.refl _ _ | with_reducible refine alloc1 ?_ _ | with_reducible refine Below.drew ?_ | with_reducible refine drewN1 ?_ _ | with_reducible refine setC ?_ (by omega) _))))).mono ?_); rintro e wN ⟨rfl, hbN⟩)
          | (go_at_call 30; (with_reducible refine (CQW.out _).mono ?_); rintro e wS ⟨rfl, hbS⟩))
      have hb := andThen (andThen ((Below.refl _ w3).drew) hbN) hbS
      obtain ⟨w4, hw4⟩ : ∃ w4, w4 = wS := ⟨_, rfl⟩
      rw [← hw4] at hb ⊢
      have HB4 := Lib.hid (trans' HB3.out hb)
      have HP4 := Lib.hid (keepb hb HP3.out)
      have HY4 := Lib.hid (keepb hb HY3.out)
      have HM4 := Lib.hid (keepb hb HM3.out)
      clear hb hbN hbS k0 k1 k2 y0 y1 y2 m0 m1 m2 HB3 HP3 HY3 HM3 hw4 FH1 CXW CQW
      obtain ⟨k0, k1, k2⟩ := cells3 HP4.out
      go_wp2_with fail
      refine (CO.out _ HB4.out).mono ?_
      rintro e w5 ⟨rfl, hb⟩
      have HB5 := Lib.hid (trans' HB4.out hb)
      have HP5 := Lib.hid (keepb hb HP4.out)
      have HY5 := Lib.hid (keepb hb HY4.out)
      have HM5 := Lib.hid (keepb hb HM4.out)
      clear hb HB4 HP4 HY4 HM4
      clear k0 k1 k2
      go_wp2_with fail
      go_loopw [9] (fun t wr => ∃ k : Nat, k ≤ m ∧ t = .int .i64 (f + k) ∧ Hid (outB FL (FH wt) lo hi (ticksOf f k) = false) ∧ Hid (Below w.heap.size w wr) ∧ Hid (wr.heap[w.heap.size]? = some (.cells #[.string nm, .int .i64 bend, .slice sp n cap] 24 (0, 0))) ∧ Hid (wr.heap[w.heap.size + 1]? = some (.cells #[.int .i64 x, .int .i64 y, .int .i64 z] 26 (0, 0))) ∧ Hid (wr.heap[w.heap.size + 1 + 1]? = some (.cells #[.int .i64 lo, .int .i64 hi, .int .i64 wt] 73 (0, 0)))) (fun t _ => (la + 1 - intV t).toNat)
      case atStart => exact ⟨0, Nat.zero_le _, by simp, Lib.hid rfl, HB5, HP5, HY5, HM5⟩
      case round =>
        obtain ⟨k, hk, rfl, HO, HBK, HPK, HYK, HMK⟩ := hrel
        obtain ⟨wz, rfl⟩ : ∃ wz : World, wz = wr := ⟨_, rfl⟩
        clear HB5 HP5 HY5 HM5
        obtain ⟨k0, k1, k2⟩ := cells3 HPK.out
        by_cases hkm : k < m
        · have hle2 : f + (k : Int) ≤ la := by have := HT.out.2.2.1; omega
          have htt2 : f + (k : Int) ≤ 1000000000 := by have := HT.out.2.1; omega
          have htt1 : 0 ≤ f + (k : Int) := by have := HT.out.1; omega
          have CX1 := Lib.hid (CX.out (f + (k : Int)) (by omega) hle2)
          have CQ1 := Lib.hid (CQ.out (f + (k : Int)) (by omega) hle2)
          have HQT : Hid (outB FL (FH wt) lo hi (ticksOf f (k + 1)) = ((decide (f + (k : Int) < lo) || decide (hi < f + (k : Int))) && decide (FL (f + (k : Int)) ≤ FH wt))) := by
            have h := HSN.out (ticksOf f k) (f + (k : Int))
            rw [HO.out, Bool.false_or, ← ticksOf_succ] at h
            exact h
          have CW := Lib.hid (fun W => Within_any (f + (k : Int)) lo hi W)
          have HPM := Lib.hid (fun h => HPR.out (k + 1) m (by omega) h)
          have HFL := Lib.hid (fld_lo (FL (f + (k : Int))) (FH (f + (k : Int))))
          go_wp2_with fail
          refine (CL.out _ HBK.out).mono ?_
          rintro e w2 ⟨rfl, hb⟩
          have HB2 := Lib.hid (trans' HBK.out hb)
          have HP2 := Lib.hid (keepb hb HPK.out)
          have HY2 := Lib.hid (keepb hb HYK.out)
          have HM2 := Lib.hid (keepb hb HMK.out)
          clear hb HBK HPK HYK HMK
          clear k0 k1 k2 CX CQ HSN HPR HO
          by_cases c1 : lo ≤ f + (k : Int) ∧ f + (k : Int) ≤ hi
          · rw [decide_eq_true c1] at CW
            have HQ := Lib.hid (HQT.out.trans (by rw [decide_eq_false (show ¬ f + (k : Int) < lo by omega), decide_eq_false (show ¬ hi < f + (k : Int) by omega)]; first | done | rfl))
            go_upto_region 9 with fail
            refine wp_region_quiet (C := fun W' => Below w2.heap.size w2 W') (by kernel_rfl) (by kernel_rfl) (Below.refl _ w2).drew ?_
            refine Go.BigFrame.wpQuiet_want (by rfl) (fun K hK => ⟨.int .i64 (f + (k : Int)), fun WQ hWQ => ?_, hK _ ?_⟩)
            · clear hK
              unfold Oper.quietAt
              go_simp
            clear hK K
            simp only [Act.put, List.setIfInBounds_toArray, List.set_cons_succ, List.set_cons_zero]
            refine Go.BigFrame.wpQuiet_want (by rfl) (fun K hK => ⟨.pointer (some ⟨w.heap.size + 1 + 1, 0, none⟩), fun WQ hWQ => ?_, hK _ ?_⟩)
            · clear hK
              unfold Oper.quietAt
              go_simp
            clear hK K
            simp only [Act.put, List.setIfInBounds_toArray, List.set_cons_succ, List.set_cons_zero]
            refine Go.BigFrame.wpQuiet_want (by rfl) (fun K hK => ⟨.pointer (some ⟨w.heap.size + 1 + 1, 0, none⟩), fun WQ hWQ => ?_, hK _ ?_⟩)
            · clear hK
              unfold Oper.quietAt
              go_simp
            clear hK K
            simp only [Act.put, List.setIfInBounds_toArray, List.set_cons_succ, List.set_cons_zero]
            refine Go.BigFrame.wpQuiet_want (by rfl) (fun K hK => ⟨.int .i64 lo, fun WQ hWQ => ?_, hK _ ?_⟩)
            · clear hK
              obtain ⟨q0, q1, q2⟩ := cells3 (keepb hWQ HM2.out)
              unfold Oper.quietAt
              go_simp
            clear hK K
            simp only [Act.put, List.setIfInBounds_toArray, List.set_cons_succ, List.set_cons_zero]
            refine Go.BigFrame.wpQuiet_want (by rfl) (fun K hK => ⟨.pointer (some ⟨w.heap.size + 1 + 1, 0, none⟩), fun WQ hWQ => ?_, hK _ ?_⟩)
            · clear hK
              unfold Oper.quietAt
              go_simp
            clear hK K
            simp only [Act.put, List.setIfInBounds_toArray, List.set_cons_succ, List.set_cons_zero]
            refine Go.BigFrame.wpQuiet_want (by rfl) (fun K hK => ⟨.pointer (some ⟨w.heap.size + 1 + 1, 1, none⟩), fun WQ hWQ => ?_, hK _ ?_⟩)
            · clear hK
              unfold Oper.quietAt
              go_simp
            clear hK K
            simp only [Act.put, List.setIfInBounds_toArray, List.set_cons_succ, List.set_cons_zero]
            refine Go.BigFrame.wpQuiet_want (by rfl) (fun K hK => ⟨.int .i64 hi, fun WQ hWQ => ?_, hK _ ?_⟩)
            · clear hK
              obtain ⟨q0, q1, q2⟩ := cells3 (keepb hWQ HM2.out)
              unfold Oper.quietAt
              go_simp
            clear hK K
            simp only [Act.put, List.setIfInBounds_toArray, List.set_cons_succ, List.set_cons_zero]
            refine Go.BigFrame.wpQuiet_want (by rfl) (fun K hK => ⟨.bool true, fun WQ hWQ => ?_, hK _ ?_⟩)
            · clear hK
              unfold Oper.quietAt
              go_simp
              exact (CW.out WQ).mono (fun e w' h => ⟨h.1, h.2 ▸ hWQ⟩)
            clear hK K
            simp only [Act.put, List.setIfInBounds_toArray, List.set_cons_succ, List.set_cons_zero]
            refine Go.BigFrame.wpQuiet_want (by rfl) (fun K hK => ⟨.bool false, fun WQ hWQ => ?_, hK _ ?_⟩)
            · clear hK
              unfold Oper.quietAt
              go_simp
            clear hK K
            simp only [Act.put, List.setIfInBounds_toArray, List.set_cons_succ, List.set_cons_zero]
            refine Go.BigFrame.wpQuiet_want (by rfl) (fun K hK => ⟨.bool false, fun WQ hWQ => ?_, hK _ ?_⟩)
            · clear hK
              unfold Oper.quietAt
              go_simp
            clear hK K
            simp only [Act.put, List.setIfInBounds_toArray, List.set_cons_succ, List.set_cons_zero]
            go_big_quiet_skip
            go_big_quiet_skip
            go_big_quiet_skip
            go_big_quiet_skip
            go_big_quiet_skip
            go_big_quiet_skip
            go_big_quiet_skip
            go_big_quiet_skip
            refine Go.BigFrame.wpQuiet_want (by rfl) (fun K hK => ⟨.bool false, fun WQ hWQ => ?_, hK _ ?_⟩)
            · clear hK
              unfold Oper.quietAt
              go_simp
            clear hK K
            simp only [Act.put, List.setIfInBounds_toArray, List.set_cons_succ, List.set_cons_zero]
            refine wpQuiet_nil ?_
            intro W8 hb
            have HB8 := Lib.hid (trans' HB2.out hb)
            have HP8 := Lib.hid (keepb hb HP2.out)
            have HY8 := Lib.hid (keepb hb HY2.out)
            have HM8 := Lib.hid (keepb hb HM2.out)
            clear hb
            go_wp2_with fail
            go_roundw
            case rel => exact ⟨k + 1, by omega, by go_num, HQ, HB8, HP8, HY8, HM8⟩
            case measure => simp [intV]; omega
          · rw [decide_eq_false c1] at CW
            have hor : (decide (f + (k : Int) < lo) || decide (hi < f + (k : Int))) = true := by simp; omega
            rw [hor, Bool.true_and] at HQT
            by_cases c3 : FL (f + (k : Int)) ≤ FH wt
            · rw [decide_eq_true c3] at HQT
              go_upto_region 9 with fail
              refine wp_region_quiet (C := fun W' => Below w2.heap.size w2 W') (by kernel_rfl) (by kernel_rfl) (Below.refl _ w2).drew ?_
              refine Go.BigFrame.wpQuiet_want (by rfl) (fun K hK => ⟨.int .i64 (f + (k : Int)), fun WQ hWQ => ?_, hK _ ?_⟩)
              · clear hK
                unfold Oper.quietAt
                go_simp
              clear hK K
              simp only [Act.put, List.setIfInBounds_toArray, List.set_cons_succ, List.set_cons_zero]
              refine Go.BigFrame.wpQuiet_want (by rfl) (fun K hK => ⟨.pointer (some ⟨w.heap.size + 1 + 1, 0, none⟩), fun WQ hWQ => ?_, hK _ ?_⟩)
              · clear hK
                unfold Oper.quietAt
                go_simp
              clear hK K
              simp only [Act.put, List.setIfInBounds_toArray, List.set_cons_succ, List.set_cons_zero]
              refine Go.BigFrame.wpQuiet_want (by rfl) (fun K hK => ⟨.pointer (some ⟨w.heap.size + 1 + 1, 0, none⟩), fun WQ hWQ => ?_, hK _ ?_⟩)
              · clear hK
                unfold Oper.quietAt
                go_simp
              clear hK K
              simp only [Act.put, List.setIfInBounds_toArray, List.set_cons_succ, List.set_cons_zero]
              refine Go.BigFrame.wpQuiet_want (by rfl) (fun K hK => ⟨.int .i64 lo, fun WQ hWQ => ?_, hK _ ?_⟩)
              · clear hK
                obtain ⟨q0, q1, q2⟩ := cells3 (keepb hWQ HM2.out)
                unfold Oper.quietAt
                go_simp
              clear hK K
              simp only [Act.put, List.setIfInBounds_toArray, List.set_cons_succ, List.set_cons_zero]
              refine Go.BigFrame.wpQuiet_want (by rfl) (fun K hK => ⟨.pointer (some ⟨w.heap.size + 1 + 1, 0, none⟩), fun WQ hWQ => ?_, hK _ ?_⟩)
              · clear hK
                unfold Oper.quietAt
                go_simp
              clear hK K
              simp only [Act.put, List.setIfInBounds_toArray, List.set_cons_succ, List.set_cons_zero]
              refine Go.BigFrame.wpQuiet_want (by rfl) (fun K hK => ⟨.pointer (some ⟨w.heap.size + 1 + 1, 1, none⟩), fun WQ hWQ => ?_, hK _ ?_⟩)
              · clear hK
                unfold Oper.quietAt
                go_simp
              clear hK K
              simp only [Act.put, List.setIfInBounds_toArray, List.set_cons_succ, List.set_cons_zero]
              refine Go.BigFrame.wpQuiet_want (by rfl) (fun K hK => ⟨.int .i64 hi, fun WQ hWQ => ?_, hK _ ?_⟩)
              · clear hK
                obtain ⟨q0, q1, q2⟩ := cells3 (keepb hWQ HM2.out)
                unfold Oper.quietAt
                go_simp
              clear hK K
              simp only [Act.put, List.setIfInBounds_toArray, List.set_cons_succ, List.set_cons_zero]
              refine Go.BigFrame.wpQuiet_want (by rfl) (fun K hK => ⟨.bool false, fun WQ hWQ => ?_, hK _ ?_⟩)
              · clear hK
                unfold Oper.quietAt
                go_simp
                exact (CW.out WQ).mono (fun e w' h => ⟨h.1, h.2 ▸ hWQ⟩)
              clear hK K
              simp only [Act.put, List.setIfInBounds_toArray, List.set_cons_succ, List.set_cons_zero]
              refine Go.BigFrame.wpQuiet_want (by rfl) (fun K hK => ⟨.bool true, fun WQ hWQ => ?_, hK _ ?_⟩)
              · clear hK
                unfold Oper.quietAt
                go_simp
              clear hK K
              simp only [Act.put, List.setIfInBounds_toArray, List.set_cons_succ, List.set_cons_zero]
              refine Go.BigFrame.wpQuiet_want (by rfl) (fun K hK => ⟨.bool true, fun WQ hWQ => ?_, hK _ ?_⟩)
              · clear hK
                unfold Oper.quietAt
                go_simp
              clear hK K
              simp only [Act.put, List.setIfInBounds_toArray, List.set_cons_succ, List.set_cons_zero]
              refine Go.BigFrame.wpQuiet_want (by rfl) (fun K hK => ⟨.agg #[.string nm, .int .i64 bend, .slice sp n cap], fun WQ hWQ => ?_, hK _ ?_⟩)
              · clear hK
                obtain ⟨q0, q1, q2⟩ := cells3 (keepb hWQ HP2.out)
                unfold Oper.quietAt
                go_simp
              clear hK K
              simp only [Act.put, List.setIfInBounds_toArray, List.set_cons_succ, List.set_cons_zero]
              refine Go.BigFrame.wpQuiet_want (by rfl) (fun K hK => ⟨.int .i64 (f + (k : Int)), fun WQ hWQ => ?_, hK _ ?_⟩)
              · clear hK
                unfold Oper.quietAt
                go_simp
              clear hK K
              simp only [Act.put, List.setIfInBounds_toArray, List.set_cons_succ, List.set_cons_zero]
              refine Go.BigFrame.wpQuiet_want (by rfl) (fun K hK => ⟨.agg #[.int .i64 (LO (f + (k : Int)) 0), .int .i64 (HI (f + (k : Int)) 0), .int .i64 (LO (f + (k : Int)) 1), .int .i64 (HI (f + (k : Int)) 1), .int .i64 (LO (f + (k : Int)) 2), .int .i64 (HI (f + (k : Int)) 2)], fun WQ hWQ => ?_, hK _ ?_⟩)
              · clear hK
                unfold Oper.quietAt
                go_simp
                exact (CX1.out WQ (trans' HB2.out hWQ)).mono (fun e w' h => ⟨h.1, andThen hWQ h.2⟩)
              clear hK K
              simp only [Act.put, List.setIfInBounds_toArray, List.set_cons_succ, List.set_cons_zero]
              refine Go.BigFrame.wpQuiet_want (by rfl) (fun K hK => ⟨.agg #[.int .i64 x, .int .i64 y, .int .i64 z], fun WQ hWQ => ?_, hK _ ?_⟩)
              · clear hK
                obtain ⟨q0, q1, q2⟩ := cells3 (keepb hWQ HY2.out)
                unfold Oper.quietAt
                go_simp
              clear hK K
              simp only [Act.put, List.setIfInBounds_toArray, List.set_cons_succ, List.set_cons_zero]
              refine Go.BigFrame.wpQuiet_want (by rfl) (fun K hK => ⟨.agg #[.int .i64 (FL (f + (k : Int))), .int .i64 (FH (f + (k : Int)))], fun WQ hWQ => ?_, hK _ ?_⟩)
              · clear hK
                unfold Oper.quietAt
                go_simp
                exact (CQ1.out WQ).mono (fun e w' h => ⟨h.1, andThen hWQ h.2⟩)
              clear hK K
              simp only [Act.put, List.setIfInBounds_toArray, List.set_cons_succ, List.set_cons_zero]
              refine Go.BigFrame.wpQuiet_want (by rfl) (fun K hK => ⟨.int .i64 (FL (f + (k : Int))), fun WQ hWQ => ?_, hK _ ?_⟩)
              · clear hK
                have hf := HFL.out
                unfold Oper.quietAt
                go_simp
              clear hK K
              simp only [Act.put, List.setIfInBounds_toArray, List.set_cons_succ, List.set_cons_zero]
              refine Go.BigFrame.wpQuiet_want (by rfl) (fun K hK => ⟨.int .i64 (FH wt), fun WQ hWQ => ?_, hK _ ?_⟩)
              · clear hK
                unfold Oper.quietAt
                go_simp
              clear hK K
              simp only [Act.put, List.setIfInBounds_toArray, List.set_cons_succ, List.set_cons_zero]
              refine Go.BigFrame.wpQuiet_want (by rfl) (fun K hK => ⟨.bool true, fun WQ hWQ => ?_, hK _ ?_⟩)
              · clear hK
                unfold Oper.quietAt
                go_simp
              clear hK K
              simp only [Act.put, List.setIfInBounds_toArray, List.set_cons_succ, List.set_cons_zero]
              refine Go.BigFrame.wpQuiet_want (by rfl) (fun K hK => ⟨.bool true, fun WQ hWQ => ?_, hK _ ?_⟩)
              · clear hK
                unfold Oper.quietAt
                go_simp
              clear hK K
              simp only [Act.put, List.setIfInBounds_toArray, List.set_cons_succ, List.set_cons_zero]
              refine wpQuiet_nil ?_
              intro W8 hb
              have HB8 := Lib.hid (trans' HB2.out hb)
              have HR3 := Lib.hid (HR2.out.trans (if_pos (HPM.out HQT.out)))
              clear hb
              go_wp2_with fail
              go_ret2
              exact ⟨by rw [HR3.out]; rfl, HB8.out⟩
            · rw [decide_eq_false c3] at HQT
              go_upto_region 9 with fail
              refine wp_region_quiet (C := fun W' => Below w2.heap.size w2 W') (by kernel_rfl) (by kernel_rfl) (Below.refl _ w2).drew ?_
              refine Go.BigFrame.wpQuiet_want (by rfl) (fun K hK => ⟨.int .i64 (f + (k : Int)), fun WQ hWQ => ?_, hK _ ?_⟩)
              · clear hK
                unfold Oper.quietAt
                go_simp
              clear hK K
              simp only [Act.put, List.setIfInBounds_toArray, List.set_cons_succ, List.set_cons_zero]
              refine Go.BigFrame.wpQuiet_want (by rfl) (fun K hK => ⟨.pointer (some ⟨w.heap.size + 1 + 1, 0, none⟩), fun WQ hWQ => ?_, hK _ ?_⟩)
              · clear hK
                unfold Oper.quietAt
                go_simp
              clear hK K
              simp only [Act.put, List.setIfInBounds_toArray, List.set_cons_succ, List.set_cons_zero]
              refine Go.BigFrame.wpQuiet_want (by rfl) (fun K hK => ⟨.pointer (some ⟨w.heap.size + 1 + 1, 0, none⟩), fun WQ hWQ => ?_, hK _ ?_⟩)
              · clear hK
                unfold Oper.quietAt
                go_simp
              clear hK K
              simp only [Act.put, List.setIfInBounds_toArray, List.set_cons_succ, List.set_cons_zero]
              refine Go.BigFrame.wpQuiet_want (by rfl) (fun K hK => ⟨.int .i64 lo, fun WQ hWQ => ?_, hK _ ?_⟩)
              · clear hK
                obtain ⟨q0, q1, q2⟩ := cells3 (keepb hWQ HM2.out)
                unfold Oper.quietAt
                go_simp
              clear hK K
              simp only [Act.put, List.setIfInBounds_toArray, List.set_cons_succ, List.set_cons_zero]
              refine Go.BigFrame.wpQuiet_want (by rfl) (fun K hK => ⟨.pointer (some ⟨w.heap.size + 1 + 1, 0, none⟩), fun WQ hWQ => ?_, hK _ ?_⟩)
              · clear hK
                unfold Oper.quietAt
                go_simp
              clear hK K
              simp only [Act.put, List.setIfInBounds_toArray, List.set_cons_succ, List.set_cons_zero]
              refine Go.BigFrame.wpQuiet_want (by rfl) (fun K hK => ⟨.pointer (some ⟨w.heap.size + 1 + 1, 1, none⟩), fun WQ hWQ => ?_, hK _ ?_⟩)
              · clear hK
                unfold Oper.quietAt
                go_simp
              clear hK K
              simp only [Act.put, List.setIfInBounds_toArray, List.set_cons_succ, List.set_cons_zero]
              refine Go.BigFrame.wpQuiet_want (by rfl) (fun K hK => ⟨.int .i64 hi, fun WQ hWQ => ?_, hK _ ?_⟩)
              · clear hK
                obtain ⟨q0, q1, q2⟩ := cells3 (keepb hWQ HM2.out)
                unfold Oper.quietAt
                go_simp
              clear hK K
              simp only [Act.put, List.setIfInBounds_toArray, List.set_cons_succ, List.set_cons_zero]
              refine Go.BigFrame.wpQuiet_want (by rfl) (fun K hK => ⟨.bool false, fun WQ hWQ => ?_, hK _ ?_⟩)
              · clear hK
                unfold Oper.quietAt
                go_simp
                exact (CW.out WQ).mono (fun e w' h => ⟨h.1, h.2 ▸ hWQ⟩)
              clear hK K
              simp only [Act.put, List.setIfInBounds_toArray, List.set_cons_succ, List.set_cons_zero]
              refine Go.BigFrame.wpQuiet_want (by rfl) (fun K hK => ⟨.bool true, fun WQ hWQ => ?_, hK _ ?_⟩)
              · clear hK
                unfold Oper.quietAt
                go_simp
              clear hK K
              simp only [Act.put, List.setIfInBounds_toArray, List.set_cons_succ, List.set_cons_zero]
              refine Go.BigFrame.wpQuiet_want (by rfl) (fun K hK => ⟨.bool true, fun WQ hWQ => ?_, hK _ ?_⟩)
              · clear hK
                unfold Oper.quietAt
                go_simp
              clear hK K
              simp only [Act.put, List.setIfInBounds_toArray, List.set_cons_succ, List.set_cons_zero]
              refine Go.BigFrame.wpQuiet_want (by rfl) (fun K hK => ⟨.agg #[.string nm, .int .i64 bend, .slice sp n cap], fun WQ hWQ => ?_, hK _ ?_⟩)
              · clear hK
                obtain ⟨q0, q1, q2⟩ := cells3 (keepb hWQ HP2.out)
                unfold Oper.quietAt
                go_simp
              clear hK K
              simp only [Act.put, List.setIfInBounds_toArray, List.set_cons_succ, List.set_cons_zero]
              refine Go.BigFrame.wpQuiet_want (by rfl) (fun K hK => ⟨.int .i64 (f + (k : Int)), fun WQ hWQ => ?_, hK _ ?_⟩)
              · clear hK
                unfold Oper.quietAt
                go_simp
              clear hK K
              simp only [Act.put, List.setIfInBounds_toArray, List.set_cons_succ, List.set_cons_zero]
              refine Go.BigFrame.wpQuiet_want (by rfl) (fun K hK => ⟨.agg #[.int .i64 (LO (f + (k : Int)) 0), .int .i64 (HI (f + (k : Int)) 0), .int .i64 (LO (f + (k : Int)) 1), .int .i64 (HI (f + (k : Int)) 1), .int .i64 (LO (f + (k : Int)) 2), .int .i64 (HI (f + (k : Int)) 2)], fun WQ hWQ => ?_, hK _ ?_⟩)
              · clear hK
                unfold Oper.quietAt
                go_simp
                exact (CX1.out WQ (trans' HB2.out hWQ)).mono (fun e w' h => ⟨h.1, andThen hWQ h.2⟩)
              clear hK K
              simp only [Act.put, List.setIfInBounds_toArray, List.set_cons_succ, List.set_cons_zero]
              refine Go.BigFrame.wpQuiet_want (by rfl) (fun K hK => ⟨.agg #[.int .i64 x, .int .i64 y, .int .i64 z], fun WQ hWQ => ?_, hK _ ?_⟩)
              · clear hK
                obtain ⟨q0, q1, q2⟩ := cells3 (keepb hWQ HY2.out)
                unfold Oper.quietAt
                go_simp
              clear hK K
              simp only [Act.put, List.setIfInBounds_toArray, List.set_cons_succ, List.set_cons_zero]
              refine Go.BigFrame.wpQuiet_want (by rfl) (fun K hK => ⟨.agg #[.int .i64 (FL (f + (k : Int))), .int .i64 (FH (f + (k : Int)))], fun WQ hWQ => ?_, hK _ ?_⟩)
              · clear hK
                unfold Oper.quietAt
                go_simp
                exact (CQ1.out WQ).mono (fun e w' h => ⟨h.1, andThen hWQ h.2⟩)
              clear hK K
              simp only [Act.put, List.setIfInBounds_toArray, List.set_cons_succ, List.set_cons_zero]
              refine Go.BigFrame.wpQuiet_want (by rfl) (fun K hK => ⟨.int .i64 (FL (f + (k : Int))), fun WQ hWQ => ?_, hK _ ?_⟩)
              · clear hK
                have hf := HFL.out
                unfold Oper.quietAt
                go_simp
              clear hK K
              simp only [Act.put, List.setIfInBounds_toArray, List.set_cons_succ, List.set_cons_zero]
              refine Go.BigFrame.wpQuiet_want (by rfl) (fun K hK => ⟨.int .i64 (FH wt), fun WQ hWQ => ?_, hK _ ?_⟩)
              · clear hK
                unfold Oper.quietAt
                go_simp
              clear hK K
              simp only [Act.put, List.setIfInBounds_toArray, List.set_cons_succ, List.set_cons_zero]
              refine Go.BigFrame.wpQuiet_want (by rfl) (fun K hK => ⟨.bool false, fun WQ hWQ => ?_, hK _ ?_⟩)
              · clear hK
                unfold Oper.quietAt
                go_simp
              clear hK K
              simp only [Act.put, List.setIfInBounds_toArray, List.set_cons_succ, List.set_cons_zero]
              refine Go.BigFrame.wpQuiet_want (by rfl) (fun K hK => ⟨.bool false, fun WQ hWQ => ?_, hK _ ?_⟩)
              · clear hK
                unfold Oper.quietAt
                go_simp
              clear hK K
              simp only [Act.put, List.setIfInBounds_toArray, List.set_cons_succ, List.set_cons_zero]
              refine wpQuiet_nil ?_
              intro W8 hb
              have HB8 := Lib.hid (trans' HB2.out hb)
              have HP8 := Lib.hid (keepb hb HP2.out)
              have HY8 := Lib.hid (keepb hb HY2.out)
              have HM8 := Lib.hid (keepb hb HM2.out)
              clear hb
              go_wp2_with fail
              go_roundw
              case rel => exact ⟨k + 1, by omega, by go_num, HQT, HB8, HP8, HY8, HM8⟩
              case measure => simp [intV]; omega
        · have hkm2 : k = m := by omega
          have hgt : ¬ f + (k : Int) ≤ la := by have := HT.out.2.2.1; omega
          have HOM := Lib.hid (show outB FL (FH wt) lo hi (ticksOf f m) = false from hkm2 ▸ HO.out)
          have HR3 := Lib.hid (HR2.out.trans (if_neg (by rw [HOM.out]; simp)))
          clear hkm2
          go_wp2_with fail
          refine (CL.out _ HBK.out).mono ?_
          rintro e w2 ⟨rfl, hb⟩
          have HB2 := Lib.hid (trans' HBK.out hb)
          have HM2 := Lib.hid (keepb hb HMK.out)
          clear hb HBK HMK
          obtain ⟨m0, m1, m2⟩ := cells3 HM2.out
          obtain ⟨a0, a1, a2, a3⟩ := HBD.out
          have e1 : IntKind.i64.wrap (hi - lo) = hi - lo := IntWalk.i64_in _ (by omega)
          have e2 : IntKind.i64.wrap (hi - lo + 1) = hi - lo + 1 := IntWalk.i64_in _ (by omega)
          go_wp2_with fail
          go_ret2
          exact ⟨by rw [HR3.out]; rfl, HB2.out⟩
end Go.Proofs.Ytodpjhhogcfodaa.Orb
