import Derived.Test.YtodpjhhogcfodaaYr
import Derived.Test.YtodpjhhogcfodaaYn
import Derived.Deep.RegionHeld3
import Derived.Outline
namespace Go.Proofs.Ytodpjhhogcfodaa.Orb
open Go.RowKit Lib

set_option maxRecDepth 100000 in
set_option maxHeartbeats 8000000 in
/-- THE REFERENCE'S NEAREST TICK -/
theorem refNearest_any (v : Value) (nm : ByteArray) (bend : Int) (L : List St) (hR : Rt bend L) (x y z : Int) (hp : placeE x y z = 0) (w : World) (hv : OV w v nm bend L) :
    Calls Try.prog 39 #[v, .agg #[.int .i64 x, .int .i64 y, .int .i64 z]] w fun e w' => e = .returned (.tuple #[.int .i64 (nearest L x y z).1, .int .i64 (nearest L x y z).2]) ∧ Below w.heap.size w w' := by
  have n0 := hR.n0
  have n1 := hR.n1
  have hlo : 0 ≤ fst L := (hR.st 0 (by omega)).t0
  have hhi : lst L ≤ 1000000000 := (hR.st (L.length - 1) (by omega)).t1
  have hle : fst L ≤ lst L := hR.le 0 (L.length - 1) (Nat.zero_le _) (by omega)
  have hnt : (nTicks L : Int) = lst L - fst L + 1 := by unfold nTicks; omega
  obtain ⟨⟨p1, p2⟩, ⟨p3, p4⟩, p5, p6⟩ := (placeE_zero x y z).1 hp
  have CO := Lib.hid (fun W (h : Below w.heap.size w W) => First_any v nm bend L (by omega) W (hv.next h))
  have CL := Lib.hid (fun W (h : Below w.heap.size w W) => Last_any v nm bend L (by omega) (by omega) W (hv.next h))
  have CN := Lib.hid (fun t (a : fst L ≤ t) (b : t ≤ lst L) W (h : Below w.heap.size w W) => refNominal_any v nm bend L hR t a b W (hv.next h))
  have CS : Hid (∀ t, fst L ≤ t → t ≤ lst L → ∀ W, Calls Try.prog 28 #[.agg #[.int .i64 (nomC L t 0), .int .i64 (nomC L t 1), .int .i64 (nomC L t 2)], .agg #[.int .i64 x, .int .i64 y, .int .i64 z]] W fun e w' => e = .returned (.int .i64 (nsq L t x y z)) ∧ Below W.heap.size W w') := fun t a b W => by
    have hA := (inArc hR t a b).arc hR
    have q0 : -100000000 ≤ nomC L t 0 ∧ nomC L t 0 ≤ 100000000 := hA.nom 0
    have q1 : -100000000 ≤ nomC L t 1 ∧ nomC L t 1 ≤ 100000000 := hA.nom 1
    have q2 : -100000000 ≤ nomC L t 2 ∧ nomC L t 2 ≤ 100000000 := hA.nom 2
    exact refSquare_any (nomC L t 0) (nomC L t 1) (nomC L t 2) x y z (by omega) (by omega) (by omega) (by omega) (by omega) (by omega) W
  have HSN := Lib.hid (leastOf_snoc (fun t => nsq L t x y z) (fst L))
  have HS0 := Lib.hid (show leastOf (fun t => nsq L t x y z) (fst L) [] = (fst L, nsq L (fst L) x y z) from rfl)
  have HNR := Lib.hid (show nearest L x y z = leastOf (fun t => nsq L t x y z) (fst L) (ticksOf (fst L) (nTicks L)) from rfl)
  obtain ⟨sp, cap, rfl, -, -, -⟩ := hv.form
  have CN0 := Lib.hid (CN.out (fst L) (Int.le_refl _) hle)
  have CS0 := Lib.hid (CS.out (fst L) (Int.le_refl _) hle)
  have HT := Lib.hid (And.intro hlo (And.intro hhi hnt))
  clear hv hR hp p1 p2 p3 p4 p5 p6 hlo hhi hle hnt n0 n1
  generalize leastOf (fun t => nsq L t x y z) (fst L) = LF at *
  generalize nearest L x y z = NR at *
  generalize nTicks L = m at *
  generalize nsq L = NQ at *
  generalize nomC L = NC at *
  generalize fst L = f at *
  generalize lst L = la at *
  generalize L.length = n at *
  go_enter Try.func39, Try.ntmps39
  go_upto_region 1 with fail
  obtain ⟨W0, hW0⟩ : ∃ W0, W0 = (w.alloc (.cells #[.string nm, .int .i64 bend, .slice sp n cap] 24)).alloc (.cells #[.int .i64 x, .int .i64 y, .int .i64 z] 26) := ⟨_, rfl⟩
  rw [← hW0]
  have HB0 := Lib.hid (show Below w.heap.size w W0 by rw [hW0]; (repeat (first | with_reducible exact Below.refl _ _ | with_reducible refine alloc1 ?_ _ | with_reducible refine Below.drew ?_ | with_reducible refine drewN1 ?_ _ | with_reducible refine setC ?_ (by omega) _)))
  have HX0 := Lib.hid (show W0.heap[w.heap.size]? = some (.cells #[.string nm, .int .i64 bend, .slice sp n cap] 24 (0, 0)) by rw [hW0]; (repeat (first | ((with_reducible refine hnew ?_); (simp; done)) | with_reducible refine hdrew ?_ | with_reducible refine hold ?_)))
  have HY0 := Lib.hid (show W0.heap[w.heap.size + 1]? = some (.cells #[.int .i64 x, .int .i64 y, .int .i64 z] 26 (0, 0)) by rw [hW0]; (repeat (first | ((with_reducible refine hnew ?_); (simp; done)) | with_reducible refine hdrew ?_ | with_reducible refine hold ?_)))
  clear hW0
  obtain ⟨k0, k1, k2⟩ := cells3 HX0.out
  obtain ⟨y0, y1, y2⟩ := cells3 HY0.out
  go_region_held3 (fun W => W.cell? ⟨w.heap.size, 0, none⟩ = some (.string nm) ∧ W.cell? ⟨w.heap.size, 1, none⟩ = some (.int .i64 bend) ∧ W.cell? ⟨w.heap.size, 2, none⟩ = some (.slice sp n cap) ∧ W.cell? ⟨w.heap.size + 1, 0, none⟩ = some (.int .i64 x) ∧ W.cell? ⟨w.heap.size + 1, 1, none⟩ = some (.int .i64 y) ∧ W.cell? ⟨w.heap.size + 1, 2, none⟩ = some (.int .i64 z))
    (with_reducible refine ⟨keepc ?_ k0, keepc ?_ k1, keepc ?_ k2, keepc ?_ y0, keepc ?_ y1, keepc ?_ y2⟩ <;> (repeat (first | with_reducible exact Below.refl _ _ | with_reducible refine andThen ?_ hbS | with_reducible refine andThen ?_ hbN | with_reducible refine andThen ?_ hbP | with_reducible refine andThen ?_ hbO | with_reducible refine alloc1 ?_ _ | with_reducible refine Below.drew ?_ | with_reducible refine drewN1 ?_ _ | with_reducible refine setC ?_ (by omega) _)) <;> done)
    (first
      | (go_at_call 43; (with_reducible refine (CO.out _ (trans' HB0.out (andThen (Below.refl _ _).drew hbO))).mono ?_); rintro e wP ⟨rfl, hbP⟩)
      | (go_at_call 43; (with_reducible refine (CO.out _ (trans' HB0.out (by (repeat (first | with_reducible exact Below.refl _ _ | with_reducible refine alloc1 ?_ _ | with_reducible refine Below.drew ?_ | with_reducible refine drewN1 ?_ _ | with_reducible refine setC ?_ (by omega) _))))).mono ?_); rintro e wO ⟨rfl, hbO⟩)
      | (go_at_call 29; (with_reducible refine (CN0.out _ (trans' HB0.out (by (repeat (first | with_reducible exact Below.refl _ _ | with_reducible refine andThen ?_ hbP | with_reducible refine andThen ?_ hbO | with_reducible refine alloc1 ?_ _ | with_reducible refine Below.drew ?_ | with_reducible refine drewN1 ?_ _ | with_reducible refine setC ?_ (by omega) _))))).mono ?_); rintro e wN ⟨rfl, hbN⟩)
      | (go_at_call 28; (with_reducible refine (CS0.out _).mono ?_); rintro e wS ⟨rfl, hbS⟩))
  have hb := (show Below W0.heap.size W0 wS by (repeat (first | with_reducible exact Below.refl _ _ | with_reducible refine andThen ?_ hbS | with_reducible refine andThen ?_ hbN | with_reducible refine andThen ?_ hbP | with_reducible refine andThen ?_ hbO | with_reducible refine alloc1 ?_ _ | with_reducible refine Below.drew ?_ | with_reducible refine drewN1 ?_ _ | with_reducible refine setC ?_ (by omega) _)))
  obtain ⟨w1, hw1⟩ : ∃ w1, w1 = wS := ⟨_, rfl⟩
  rw [← hw1] at hb ⊢
  have HB1 := Lib.hid (trans' HB0.out hb)
  have HX1 := Lib.hid (keepb hb HX0.out)
  have HY1 := Lib.hid (keepb hb HY0.out)
  clear hb hbS hbN hbP hbO hw1 k0 k1 k2 y0 y1 y2 HB0 HX0 HY0 CN0 CS0
  obtain ⟨k0, k1, k2⟩ := cells3 HX1.out
  go_wp2_with fail
  refine (CO.out _ HB1.out).mono ?_
  rintro e w2 ⟨rfl, hb⟩
  have HB2 := Lib.hid (trans' HB1.out hb)
  have HX2 := Lib.hid (keepb hb HX1.out)
  have HY2 := Lib.hid (keepb hb HY1.out)
  clear hb HB1 HX1 HY1
  clear k0 k1 k2 CO
  go_wp2_with fail
  go_loopw [6, 7, 8] (fun b l t wr => ∃ k : Nat, k ≤ m ∧ b = .int .i64 (LF (ticksOf f k)).1 ∧ l = .int .i64 (LF (ticksOf f k)).2 ∧ t = .int .i64 (f + k) ∧ Hid (Below w.heap.size w wr) ∧ Hid (wr.heap[w.heap.size]? = some (.cells #[.string nm, .int .i64 bend, .slice sp n cap] 24 (0, 0))) ∧ Hid (wr.heap[w.heap.size + 1]? = some (.cells #[.int .i64 x, .int .i64 y, .int .i64 z] 26 (0, 0)))) (fun _ _ t _ => (la + 1 - intV t).toNat)
  case atStart => exact ⟨0, Nat.zero_le _, by rw [show ticksOf f 0 = [] from rfl, HS0.out], by rw [show ticksOf f 0 = [] from rfl, HS0.out], by simp, HB2, HX2, HY2⟩
  case round =>
    obtain ⟨k, hk, rfl, rfl, rfl, HBK, HXK, HYK⟩ := hrel
    obtain ⟨wz, rfl⟩ : ∃ wz : World, wz = wr := ⟨_, rfl⟩
    clear HB2 HX2 HY2
    obtain ⟨k0, k1, k2⟩ := cells3 HXK.out
    by_cases hlt : k < m
    · have hle2 : f + (k : Int) ≤ la := by have := HT.out.2.2; omega
      have hge2 : f ≤ f + (k : Int) := by omega
      have htt1 : 0 ≤ f + (k : Int) := by have := HT.out.1; omega
      have htt2 : f + (k : Int) ≤ 1000000000 := by have := HT.out.2.1; omega
      have CN1 := Lib.hid (CN.out _ hge2 hle2)
      have CS1 := Lib.hid (CS.out _ hge2 hle2)
      have HSK : Hid (LF (ticksOf f (k + 1)) = if NQ (f + (k : Int)) x y z < (LF (ticksOf f k)).2 then (f + (k : Int), NQ (f + (k : Int)) x y z) else LF (ticksOf f k)) := by
        rw [ticksOf_succ]; exact HSN.out _ _
      clear hge2 CN CS HSN HS0
      generalize NQ (f + (k : Int)) x y z = q at *
      generalize NC (f + (k : Int)) 0 = c0 at *
      generalize NC (f + (k : Int)) 1 = c1 at *
      generalize NC (f + (k : Int)) 2 = c2 at *
      generalize LF (ticksOf f k) = lf at *
      obtain ⟨b1, b2⟩ := lf
      dsimp only at *
      go_wp2_with fail
      refine (CL.out _ HBK.out).mono ?_
      rintro e w4 ⟨rfl, hb⟩
      have HB4 := Lib.hid (trans' HBK.out hb)
      have HX4 := Lib.hid (keepb hb HXK.out)
      have HY4 := Lib.hid (keepb hb HYK.out)
      clear hb HBK HXK HYK
      clear k0 k1 k2 CL
      obtain ⟨k0, k1, k2⟩ := cells3 HX4.out
      obtain ⟨y0, y1, y2⟩ := cells3 HY4.out
      go_upto_region 5 with fail
      go_region_held3 (fun W => W.cell? ⟨w.heap.size, 0, none⟩ = some (.string nm) ∧ W.cell? ⟨w.heap.size, 1, none⟩ = some (.int .i64 bend) ∧ W.cell? ⟨w.heap.size, 2, none⟩ = some (.slice sp n cap) ∧ W.cell? ⟨w.heap.size + 1, 0, none⟩ = some (.int .i64 x) ∧ W.cell? ⟨w.heap.size + 1, 1, none⟩ = some (.int .i64 y) ∧ W.cell? ⟨w.heap.size + 1, 2, none⟩ = some (.int .i64 z))
        (with_reducible refine ⟨keepc ?_ k0, keepc ?_ k1, keepc ?_ k2, keepc ?_ y0, keepc ?_ y1, keepc ?_ y2⟩ <;> (repeat (first | with_reducible exact Below.refl _ _ | with_reducible refine andThen ?_ hbS | with_reducible refine andThen ?_ hbN | with_reducible refine alloc1 ?_ _ | with_reducible refine Below.drew ?_ | with_reducible refine drewN1 ?_ _ | with_reducible refine setC ?_ (by omega) _)) <;> done)
        (first
          | (go_at_call 29; (with_reducible refine (CN1.out _ (trans' HB4.out (by (repeat (first | with_reducible exact Below.refl _ _ | with_reducible refine alloc1 ?_ _ | with_reducible refine Below.drew ?_ | with_reducible refine drewN1 ?_ _ | with_reducible refine setC ?_ (by omega) _))))).mono ?_); rintro e wN ⟨rfl, hbN⟩)
          | (go_at_call 28; (with_reducible refine (CS1.out _).mono ?_); rintro e wS ⟨rfl, hbS⟩))
      have hb5 : Below w4.heap.size w4 wS := andThen (andThen ((Below.refl _ w4).drew) hbN) hbS
      have HB5 := Lib.hid (trans' HB4.out hb5)
      have HX5 := Lib.hid (keepb hb5 HX4.out)
      have HY5 := Lib.hid (keepb hb5 HY4.out)
      clear hb5 hbN hbS k0 k1 k2 y0 y1 y2 HB4 HX4 HY4
      by_cases hc : q < b2
      · have HSK1 := Lib.hid (HSK.out.trans (if_pos hc))
        go_wp2_with fail
        go_roundw
        case rel => exact ⟨k + 1, by omega, by rw [HSK1.out], by rw [HSK1.out], by go_num, HB5, HX5, HY5⟩
        case measure => simp [intV]; omega
      · have HSK1 := Lib.hid (HSK.out.trans (if_neg hc))
        go_wp2_with fail
        go_roundw
        case rel => exact ⟨k + 1, by omega, by rw [HSK1.out], by rw [HSK1.out], by go_num, HB5, HX5, HY5⟩
        case measure => simp [intV]; omega
    · have hkm : k = m := by omega
      have hgt : ¬ f + (k : Int) ≤ la := by have := HT.out.2.2; omega
      have HE : Hid (LF (ticksOf f k) = NR) := by rw [hkm]; exact HNR.out.symm
      clear hkm
      go_wp2_with fail
      refine (CL.out _ HBK.out).mono ?_
      rintro e w4 ⟨rfl, hb⟩
      have HB4 := Lib.hid (trans' HBK.out hb)
      clear hb HBK
      go_wp2_with fail
      go_ret2
      exact ⟨by rw [HE.out]; rfl, HB4.out⟩

set_option maxRecDepth 100000 in
set_option maxHeartbeats 8000000 in
/-- THE REFERENCE'S TICKS THAT MAY BE NEAREST -/
theorem refMayBe_any (v : Value) (nm : ByteArray) (bend : Int) (L : List St) (hR : Rt bend L) (x y z : Int) (hp : placeE x y z = 0) (w : World) (hv : OV w v nm bend L) :
    Calls Try.prog 40 #[v, .agg #[.int .i64 x, .int .i64 y, .int .i64 z]] w fun e w' => e = .returned (.tuple #[.agg #[.int .i64 (mayBe bend L x y z).1, .int .i64 (mayBe bend L x y z).2], .int .i64 (witness bend L x y z).1]) ∧ Below w.heap.size w w' := by
  have n0 := hR.n0
  have n1 := hR.n1
  have hlo : 0 ≤ fst L := (hR.st 0 (by omega)).t0
  have hhi : lst L ≤ 1000000000 := (hR.st (L.length - 1) (by omega)).t1
  have hle : fst L ≤ lst L := hR.le 0 (L.length - 1) (Nat.zero_le _) (by omega)
  have hnt : (nTicks L : Int) = lst L - fst L + 1 := by unfold nTicks; omega
  have CO := Lib.hid (fun W (h : Below w.heap.size w W) => First_any v nm bend L (by omega) W (hv.next h))
  have CL := Lib.hid (fun W (h : Below w.heap.size w W) => Last_any v nm bend L (by omega) (by omega) W (hv.next h))
  have CN : Hid (∀ t, fst L ≤ t → t ≤ lst L → ∀ W, Below w.heap.size w W → Calls Try.prog 31 #[v, .int .i64 t] W fun e w' => e = .returned (.agg #[.int .i64 (loC bend L t 0), .int .i64 (hiC bend L t 0), .int .i64 (loC bend L t 1), .int .i64 (hiC bend L t 1), .int .i64 (loC bend L t 2), .int .i64 (hiC bend L t 2)]) ∧ Below W.heap.size W w') := fun t a b W hb => refBoxAt_any v nm bend L hR t a b W (hv.next hb)
  have CS : Hid (∀ t, fst L ≤ t → t ≤ lst L → ∀ W, Calls Try.prog 30 #[.agg #[.int .i64 (loC bend L t 0), .int .i64 (hiC bend L t 0), .int .i64 (loC bend L t 1), .int .i64 (hiC bend L t 1), .int .i64 (loC bend L t 2), .int .i64 (hiC bend L t 2)], .agg #[.int .i64 x, .int .i64 y, .int .i64 z]] W fun e w' => e = .returned (.agg #[.int .i64 (sLo bend L x y z t), .int .i64 (sHi bend L x y z t)]) ∧ Below W.heap.size W w') := fun t a b W => by
    obtain ⟨-, -, s3, s4, -⟩ := sq_range hR a b hp
    exact refSquares_any _ _ x y z s3 hp s4 W
  have HSN := Lib.hid (leastOf_snoc (sHi bend L x y z) (fst L))
  have HS0 := Lib.hid (show leastOf (sHi bend L x y z) (fst L) [] = (fst L, sHi bend L x y z (fst L)) from rfl)
  have HNR := Lib.hid (show witness bend L x y z = leastOf (sHi bend L x y z) (fst L) (ticksOf (fst L) (nTicks L)) from rfl)
  have HMN := Lib.hid (mayF_snoc (sLo bend L x y z) (witness bend L x y z).2 (witness bend L x y z).1)
  have HM0 := Lib.hid (show mayF (sLo bend L x y z) (witness bend L x y z).2 (witness bend L x y z).1 [] = ((witness bend L x y z).1, (witness bend L x y z).1) from rfl)
  have HMB := Lib.hid (show mayBe bend L x y z = mayF (sLo bend L x y z) (witness bend L x y z).2 (witness bend L x y z).1 (ticksOf (fst L) (nTicks L)) from rfl)
  obtain ⟨sp, cap, rfl, -, -, -⟩ := hv.form
  have CN0 := Lib.hid (CN.out (fst L) (Int.le_refl _) hle)
  have CS0 := Lib.hid (CS.out (fst L) (Int.le_refl _) hle)
  have HT := Lib.hid (And.intro hlo (And.intro hhi hnt))
  clear hv hR hp hlo hhi hle hnt n0 n1
  generalize leastOf (sHi bend L x y z) (fst L) = LF at *
  generalize mayBe bend L x y z = MB at *
  generalize nTicks L = m at *
  generalize loC bend L = LO at *
  generalize hiC bend L = HI at *
  generalize sLo bend L x y z = FL at *
  generalize sHi bend L x y z = FH at *
  generalize witness bend L x y z = WN at *
  obtain ⟨wn, bd⟩ := WN
  dsimp only at HMN HM0 HMB ⊢
  generalize mayF FL bd wn = MF at *
  generalize fst L = f at *
  generalize lst L = la at *
  generalize L.length = n at *
  have FH0 := fld_hi (FL f) (FH f)
  go_enter Try.func40, Try.ntmps40
  go_wp2_with fail
  obtain ⟨W0, hW0⟩ : ∃ W0, W0 = ((w.alloc (.cells #[.string nm, .int .i64 bend, .slice sp n cap] 24)).alloc (.cells #[.int .i64 x, .int .i64 y, .int .i64 z] 26)).alloc (.cells #[.int .i64 0, .int .i64 0] 42) := ⟨_, rfl⟩
  rw [← hW0]
  have HB0 := Lib.hid (show Below w.heap.size w W0 by rw [hW0]; (repeat (first | with_reducible exact Below.refl _ _ | with_reducible refine alloc1 ?_ _ | with_reducible refine Below.drew ?_ | with_reducible refine drewN1 ?_ _ | with_reducible refine setC ?_ (by omega) _)))
  have HX0 := Lib.hid (show W0.heap[w.heap.size]? = some (.cells #[.string nm, .int .i64 bend, .slice sp n cap] 24 (0, 0)) by rw [hW0]; (repeat (first | ((with_reducible refine hnew ?_); (simp; done)) | with_reducible refine hdrew ?_ | with_reducible refine hold ?_)))
  have HY0 := Lib.hid (show W0.heap[w.heap.size + 1]? = some (.cells #[.int .i64 x, .int .i64 y, .int .i64 z] 26 (0, 0)) by rw [hW0]; (repeat (first | ((with_reducible refine hnew ?_); (simp; done)) | with_reducible refine hdrew ?_ | with_reducible refine hold ?_)))
  have HR0 := Lib.hid (show W0.heap[w.heap.size + 1 + 1]? = some (.cells #[.int .i64 0, .int .i64 0] 42 (0, 0)) by rw [hW0]; (repeat (first | ((with_reducible refine hnew ?_); (simp; done)) | with_reducible refine hdrew ?_ | with_reducible refine hold ?_)))
  clear hW0
  refine (CO.out _ HB0.out).mono ?_
  rintro e w1 ⟨rfl, hb⟩
  have HB1 := Lib.hid (trans' HB0.out hb)
  have HX1 := Lib.hid (keepb hb HX0.out)
  have HY1 := Lib.hid (keepb hb HY0.out)
  have HR1 := Lib.hid (keepb hb HR0.out)
  clear hb HB0 HX0 HY0 HR0
  obtain ⟨k0, k1, k2⟩ := cells3 HX1.out
  obtain ⟨y0, y1, y2⟩ := cells3 HY1.out
  go_upto_region 2 with fail
  go_region_held3 (fun W => W.cell? ⟨w.heap.size, 0, none⟩ = some (.string nm) ∧ W.cell? ⟨w.heap.size, 1, none⟩ = some (.int .i64 bend) ∧ W.cell? ⟨w.heap.size, 2, none⟩ = some (.slice sp n cap) ∧ W.cell? ⟨w.heap.size + 1, 0, none⟩ = some (.int .i64 x) ∧ W.cell? ⟨w.heap.size + 1, 1, none⟩ = some (.int .i64 y) ∧ W.cell? ⟨w.heap.size + 1, 2, none⟩ = some (.int .i64 z))
    (with_reducible refine ⟨keepc ?_ k0, keepc ?_ k1, keepc ?_ k2, keepc ?_ y0, keepc ?_ y1, keepc ?_ y2⟩ <;> (repeat (first | with_reducible exact Below.refl _ _ | with_reducible refine andThen ?_ hbS | with_reducible refine andThen ?_ hbN | with_reducible refine alloc1 ?_ _ | with_reducible refine Below.drew ?_ | with_reducible refine drewN1 ?_ _ | with_reducible refine setC ?_ (by omega) _)) <;> done)
    (first
      | (go_at_call 31; (with_reducible refine (CN0.out _ (trans' HB1.out (by (repeat (first | with_reducible exact Below.refl _ _ | with_reducible refine alloc1 ?_ _ | with_reducible refine Below.drew ?_ | with_reducible refine drewN1 ?_ _ | with_reducible refine setC ?_ (by omega) _))))).mono ?_); rintro e wN ⟨rfl, hbN⟩)
      | (go_at_call 30; (with_reducible refine (CS0.out _).mono ?_); rintro e wS ⟨rfl, hbS⟩))
  have hb := (show Below w1.heap.size w1 wS by (repeat (first | with_reducible exact Below.refl _ _ | with_reducible refine andThen ?_ hbS | with_reducible refine andThen ?_ hbN | with_reducible refine alloc1 ?_ _ | with_reducible refine Below.drew ?_ | with_reducible refine drewN1 ?_ _ | with_reducible refine setC ?_ (by omega) _)))
  obtain ⟨w2, hw2⟩ : ∃ w2, w2 = wS := ⟨_, rfl⟩
  rw [← hw2] at hb ⊢
  have HB2 := Lib.hid (trans' HB1.out hb)
  have HX2 := Lib.hid (keepb hb HX1.out)
  have HY2 := Lib.hid (keepb hb HY1.out)
  have HR2 := Lib.hid (keepb hb HR1.out)
  clear hb hbS hbN hw2 k0 k1 k2 y0 y1 y2 HB1 HX1 HY1 HR1 CN0 CS0 FH0
  obtain ⟨k0, k1, k2⟩ := cells3 HX2.out
  go_wp2_with fail
  refine (CO.out _ HB2.out).mono ?_
  rintro e w3 ⟨rfl, hb⟩
  have HB3 := Lib.hid (trans' HB2.out hb)
  have HX3 := Lib.hid (keepb hb HX2.out)
  have HY3 := Lib.hid (keepb hb HY2.out)
  have HR3 := Lib.hid (keepb hb HR2.out)
  clear hb HB2 HX2 HY2 HR2
  clear k0 k1 k2
  go_wp2_with fail
  go_loopw [6, 7, 8] (fun b l t wr => ∃ k : Nat, k ≤ m ∧ b = .int .i64 (LF (ticksOf f k)).1 ∧ l = .int .i64 (LF (ticksOf f k)).2 ∧ t = .int .i64 (f + k) ∧ Hid (Below w.heap.size w wr) ∧ Hid (wr.heap[w.heap.size]? = some (.cells #[.string nm, .int .i64 bend, .slice sp n cap] 24 (0, 0))) ∧ Hid (wr.heap[w.heap.size + 1]? = some (.cells #[.int .i64 x, .int .i64 y, .int .i64 z] 26 (0, 0))) ∧ Hid (wr.heap[w.heap.size + 1 + 1]? = some (.cells #[.int .i64 0, .int .i64 0] 42 (0, 0)))) (fun _ _ t _ => (la + 1 - intV t).toNat)
  case atStart => exact ⟨0, Nat.zero_le _, by rw [show ticksOf f 0 = [] from rfl, HS0.out], by rw [show ticksOf f 0 = [] from rfl, HS0.out], by simp, HB3, HX3, HY3, HR3⟩
  case round =>
    obtain ⟨k, hk, rfl, rfl, rfl, HBK, HXK, HYK, HRK⟩ := hrel
    obtain ⟨wz, rfl⟩ : ∃ wz : World, wz = wr := ⟨_, rfl⟩
    clear HB3 HX3 HY3 HR3
    obtain ⟨k0, k1, k2⟩ := cells3 HXK.out
    by_cases hlt : k < m
    · have hle2 : f + (k : Int) ≤ la := by have := HT.out.2.2; omega
      have hge2 : f ≤ f + (k : Int) := by omega
      have htt1 : 0 ≤ f + (k : Int) := by have := HT.out.1; omega
      have htt2 : f + (k : Int) ≤ 1000000000 := by have := HT.out.2.1; omega
      have CN1 := Lib.hid (CN.out _ hge2 hle2)
      have CS1 := Lib.hid (CS.out _ hge2 hle2)
      have HSK : Hid (LF (ticksOf f (k + 1)) = if FH (f + (k : Int)) < (LF (ticksOf f k)).2 then (f + (k : Int), FH (f + (k : Int))) else LF (ticksOf f k)) := by
        rw [ticksOf_succ]; exact HSN.out _ _
      have FH1 := fld_hi (FL (f + (k : Int))) (FH (f + (k : Int)))
      clear hge2 CN CS HSN HS0 HMN HM0 HMB
      generalize FH (f + (k : Int)) = q at *
      generalize LF (ticksOf f k) = lf at *
      obtain ⟨b1, b2⟩ := lf
      dsimp only at *
      go_wp2_with fail
      refine (CL.out _ HBK.out).mono ?_
      rintro e w4 ⟨rfl, hb⟩
      have HB4 := Lib.hid (trans' HBK.out hb)
      have HX4 := Lib.hid (keepb hb HXK.out)
      have HY4 := Lib.hid (keepb hb HYK.out)
      have HR4 := Lib.hid (keepb hb HRK.out)
      clear hb HBK HXK HYK HRK
      clear k0 k1 k2 CL
      obtain ⟨k0, k1, k2⟩ := cells3 HX4.out
      obtain ⟨y0, y1, y2⟩ := cells3 HY4.out
      go_upto_region 6 with fail
      go_region_held3 (fun W => W.cell? ⟨w.heap.size, 0, none⟩ = some (.string nm) ∧ W.cell? ⟨w.heap.size, 1, none⟩ = some (.int .i64 bend) ∧ W.cell? ⟨w.heap.size, 2, none⟩ = some (.slice sp n cap) ∧ W.cell? ⟨w.heap.size + 1, 0, none⟩ = some (.int .i64 x) ∧ W.cell? ⟨w.heap.size + 1, 1, none⟩ = some (.int .i64 y) ∧ W.cell? ⟨w.heap.size + 1, 2, none⟩ = some (.int .i64 z))
        (with_reducible refine ⟨keepc ?_ k0, keepc ?_ k1, keepc ?_ k2, keepc ?_ y0, keepc ?_ y1, keepc ?_ y2⟩ <;> (repeat (first | with_reducible exact Below.refl _ _ | with_reducible refine andThen ?_ hbS | with_reducible refine andThen ?_ hbN | with_reducible refine alloc1 ?_ _ | with_reducible refine Below.drew ?_ | with_reducible refine drewN1 ?_ _ | with_reducible refine setC ?_ (by omega) _)) <;> done)
        (first
          | (go_at_call 31; (with_reducible refine (CN1.out _ (trans' HB4.out (by (repeat (first | with_reducible exact Below.refl _ _ | with_reducible refine alloc1 ?_ _ | with_reducible refine Below.drew ?_ | with_reducible refine drewN1 ?_ _ | with_reducible refine setC ?_ (by omega) _))))).mono ?_); rintro e wN ⟨rfl, hbN⟩)
          | (go_at_call 30; (with_reducible refine (CS1.out _).mono ?_); rintro e wS ⟨rfl, hbS⟩))
      have hb5 : Below w4.heap.size w4 wS := andThen (andThen ((Below.refl _ w4).drew) hbN) hbS
      have HB5 := Lib.hid (trans' HB4.out hb5)
      have HX5 := Lib.hid (keepb hb5 HX4.out)
      have HY5 := Lib.hid (keepb hb5 HY4.out)
      have HR5 := Lib.hid (keepb hb5 HR4.out)
      clear hb5 hbN hbS k0 k1 k2 y0 y1 y2 HB4 HX4 HY4 HR4
      by_cases hc : q < b2
      · have HSK1 := Lib.hid (HSK.out.trans (if_pos hc))
        go_wp2_with fail
        go_roundw
        case rel => exact ⟨k + 1, by omega, by rw [HSK1.out], by rw [HSK1.out], by go_num, HB5, HX5, HY5, HR5⟩
        case measure => simp [intV]; omega
      · have HSK1 := Lib.hid (HSK.out.trans (if_neg hc))
        go_wp2_with fail
        go_roundw
        case rel => exact ⟨k + 1, by omega, by rw [HSK1.out], by rw [HSK1.out], by go_num, HB5, HX5, HY5, HR5⟩
        case measure => simp [intV]; omega
    · have hkm : k = m := by omega
      have hgt : ¬ f + (k : Int) ≤ la := by have := HT.out.2.2; omega
      have HE : Hid (LF (ticksOf f k) = (wn, bd)) := by rw [hkm]; exact HNR.out.symm
      have hE := HE.out
      generalize LF (ticksOf f k) = lf at *
      subst hE
      clear hkm HE HSN HS0 HNR
      dsimp only
      go_wp2_with fail
      refine (CL.out _ HBK.out).mono ?_
      rintro e w4 ⟨rfl, hb⟩
      have HB4 := Lib.hid (trans' HBK.out hb)
      have HX4 := Lib.hid (keepb hb HXK.out)
      have HY4 := Lib.hid (keepb hb HYK.out)
      have HR4 := Lib.hid (keepb hb HRK.out)
      clear hb HBK HXK HYK HRK
      clear k0 k1 k2
      have HR4o := Lib.hid HR4.out
      go_upto_region 10 with fail
      obtain ⟨w5, hW⟩ : ∃ w5, w5 = w4.alloc (.cells #[.int .i64 wn, .int .i64 wn] 42) := ⟨_, rfl⟩
      rw [← hW]
      have hb := new_below w4 (.cells #[.int .i64 wn, .int .i64 wn] 42)
      rw [← hW] at hb
      have HV5 := Lib.hid (show w5.heap[w4.heap.size]? = some (.cells #[.int .i64 wn, .int .i64 wn] 42 (0, 0)) by rw [hW]; exact heap_alloc_new _ _)
      have HB5 := Lib.hid (trans' HB4.out hb)
      have HX5 := Lib.hid (keepb hb HX4.out)
      have HY5 := Lib.hid (keepb hb HY4.out)
      have HR5 := Lib.hid (keepb hb HR4.out)
      clear hW hb HB4 HX4 HY4 HR4
      obtain ⟨k0, k1, k2⟩ := cells3 HX5.out
      have HSZ := Lib.hid (lt_of_block HR4o.out)
      go_wp2_with fail
      refine (CO.out _ HB5.out).mono ?_
      rintro e w6 ⟨rfl, hb⟩
      have HB6 := Lib.hid (trans' HB5.out hb)
      have HX6 := Lib.hid (keepb hb HX5.out)
      have HY6 := Lib.hid (keepb hb HY5.out)
      have HR6 := Lib.hid (keepb hb HR5.out)
      have HV6 := Lib.hid (keepb hb HV5.out)
      clear hb HB5 HX5 HY5 HR5 HV5
      clear k0 k1 k2
      go_wp2_with fail
      go_loopw [11] (fun t wr => ∃ k : Nat, k ≤ m ∧ t = .int .i64 (f + k) ∧ Hid (Below w.heap.size w wr) ∧ Hid (wr.heap[w.heap.size]? = some (.cells #[.string nm, .int .i64 bend, .slice sp n cap] 24 (0, 0))) ∧ Hid (wr.heap[w.heap.size + 1]? = some (.cells #[.int .i64 x, .int .i64 y, .int .i64 z] 26 (0, 0))) ∧ Hid (wr.heap[w.heap.size + 1 + 1]? = some (.cells #[.int .i64 0, .int .i64 0] 42 (0, 0))) ∧ Hid (wr.heap[w4.heap.size]? = some (.cells #[.int .i64 (MF (ticksOf f k)).1, .int .i64 (MF (ticksOf f k)).2] 42 (0, 0)))) (fun t _ => (la + 1 - intV t).toNat)
      case atStart => exact ⟨0, Nat.zero_le _, by simp, HB6, HX6, HY6, HR6, Lib.hid (by rw [show ticksOf f 0 = [] from rfl, HM0.out]; exact HV6.out)⟩
      case round =>
        obtain ⟨k, hk, rfl, HBJ, HXJ, HYJ, HRJ, HVJ⟩ := hrel
        obtain ⟨wz, rfl⟩ : ∃ wz : World, wz = wr := ⟨_, rfl⟩
        clear HB6 HX6 HY6 HR6 HV6
        obtain ⟨k0, k1, k2⟩ := cells3 HXJ.out
        by_cases hlt : k < m
        · have hle2 : f + (k : Int) ≤ la := by have := HT.out.2.2; omega
          have hge2 : f ≤ f + (k : Int) := by omega
          have htt1 : 0 ≤ f + (k : Int) := by have := HT.out.1; omega
          have htt2 : f + (k : Int) ≤ 1000000000 := by have := HT.out.2.1; omega
          have CN1 := Lib.hid (CN.out _ hge2 hle2)
          have CS1 := Lib.hid (CS.out _ hge2 hle2)
          have HSK : Hid (MF (ticksOf f (k + 1)) = if FL (f + (k : Int)) ≤ bd then (min (MF (ticksOf f k)).1 (f + (k : Int)), max (MF (ticksOf f k)).2 (f + (k : Int))) else MF (ticksOf f k)) := by
            rw [ticksOf_succ]; exact HMN.out _ _
          have FL1 := fld_lo (FL (f + (k : Int))) (FH (f + (k : Int)))
          clear hge2 CN CS HMN HM0 HMB CO
          generalize FL (f + (k : Int)) = q at *
          generalize MF (ticksOf f k) = lf at *
          obtain ⟨a, b⟩ := lf
          dsimp only at *
          go_wp2_with fail
          refine (CL.out _ HBJ.out).mono ?_
          rintro e w7 ⟨rfl, hb⟩
          have HB7 := Lib.hid (trans' HBJ.out hb)
          have HX7 := Lib.hid (keepb hb HXJ.out)
          have HY7 := Lib.hid (keepb hb HYJ.out)
          have HR7 := Lib.hid (keepb hb HRJ.out)
          have HV7 := Lib.hid (keepb hb HVJ.out)
          clear hb HBJ HXJ HYJ HRJ HVJ
          clear k0 k1 k2 CL
          obtain ⟨k0, k1, k2⟩ := cells3 HX7.out
          obtain ⟨y0, y1, y2⟩ := cells3 HY7.out
          go_upto_region 13 with fail
          go_region_held3 (fun W => W.cell? ⟨w.heap.size, 0, none⟩ = some (.string nm) ∧ W.cell? ⟨w.heap.size, 1, none⟩ = some (.int .i64 bend) ∧ W.cell? ⟨w.heap.size, 2, none⟩ = some (.slice sp n cap) ∧ W.cell? ⟨w.heap.size + 1, 0, none⟩ = some (.int .i64 x) ∧ W.cell? ⟨w.heap.size + 1, 1, none⟩ = some (.int .i64 y) ∧ W.cell? ⟨w.heap.size + 1, 2, none⟩ = some (.int .i64 z))
            (with_reducible refine ⟨keepc ?_ k0, keepc ?_ k1, keepc ?_ k2, keepc ?_ y0, keepc ?_ y1, keepc ?_ y2⟩ <;> (repeat (first | with_reducible exact Below.refl _ _ | with_reducible refine andThen ?_ hbS | with_reducible refine andThen ?_ hbN | with_reducible refine alloc1 ?_ _ | with_reducible refine Below.drew ?_ | with_reducible refine drewN1 ?_ _ | with_reducible refine setC ?_ (by omega) _)) <;> done)
            (first
              | (go_at_call 31; (with_reducible refine (CN1.out _ (trans' HB7.out (by (repeat (first | with_reducible exact Below.refl _ _ | with_reducible refine alloc1 ?_ _ | with_reducible refine Below.drew ?_ | with_reducible refine drewN1 ?_ _ | with_reducible refine setC ?_ (by omega) _))))).mono ?_); rintro e wN ⟨rfl, hbN⟩)
              | (go_at_call 30; (with_reducible refine (CS1.out _).mono ?_); rintro e wS ⟨rfl, hbS⟩))
          have hb5 : Below w7.heap.size w7 wS := andThen (andThen ((Below.refl _ w7).drew) hbN) hbS
          have HB8 := Lib.hid (trans' HB7.out hb5)
          have HX8 := Lib.hid (keepb hb5 HX7.out)
          have HY8 := Lib.hid (keepb hb5 HY7.out)
          have HR8 := Lib.hid (keepb hb5 HR7.out)
          have HV8 := Lib.hid (keepb hb5 HV7.out)
          clear hb5 hbN hbS k0 k1 k2 y0 y1 y2 HB7 HX7 HY7 HR7 HV7
          by_cases hc : q ≤ bd
          · obtain ⟨v0, v1, f0, f1⟩ := two_cells HV8.out
            by_cases c1 : f + (k : Int) < a
            · by_cases c2 : b < f + (k : Int)
              · have HQ := Lib.hid (HSK.out.trans (by rw [if_pos hc, show min a (f + (k : Int)) = f + (k : Int) from by omega, show max b (f + (k : Int)) = f + (k : Int) from by omega]))
                go_wp2_with fail
                go_roundw
                case rel => exact ⟨k + 1, by omega, by go_num, Lib.hid (setC (setC HB8.out (by have := HSZ.out; omega) _) (by have := HSZ.out; omega) _), Lib.hid (heap_ne (by have := HSZ.out; omega) (heap_ne (by have := HSZ.out; omega) HX8.out)), Lib.hid (heap_ne (by have := HSZ.out; omega) (heap_ne (by have := HSZ.out; omega) HY8.out)), Lib.hid (heap_ne (by have := HSZ.out; omega) (heap_ne (by have := HSZ.out; omega) HR8.out)), Lib.hid (by rw [HQ.out]; exact set_block (set_block HV8.out))⟩
                case measure => simp [intV]; omega
              · have HQ := Lib.hid (HSK.out.trans (by rw [if_pos hc, show min a (f + (k : Int)) = f + (k : Int) from by omega, show max b (f + (k : Int)) = b from by omega]))
                go_wp2_with fail
                go_roundw
                case rel => exact ⟨k + 1, by omega, by go_num, Lib.hid (setC (setC HB8.out (by have := HSZ.out; omega) _) (by have := HSZ.out; omega) _), Lib.hid (heap_ne (by have := HSZ.out; omega) (heap_ne (by have := HSZ.out; omega) HX8.out)), Lib.hid (heap_ne (by have := HSZ.out; omega) (heap_ne (by have := HSZ.out; omega) HY8.out)), Lib.hid (heap_ne (by have := HSZ.out; omega) (heap_ne (by have := HSZ.out; omega) HR8.out)), Lib.hid (by rw [HQ.out]; exact set_block (set_block HV8.out))⟩
                case measure => simp [intV]; omega
            · by_cases c2 : b < f + (k : Int)
              · have HQ := Lib.hid (HSK.out.trans (by rw [if_pos hc, show min a (f + (k : Int)) = a from by omega, show max b (f + (k : Int)) = f + (k : Int) from by omega]))
                go_wp2_with fail
                go_roundw
                case rel => exact ⟨k + 1, by omega, by go_num, Lib.hid (setC (setC HB8.out (by have := HSZ.out; omega) _) (by have := HSZ.out; omega) _), Lib.hid (heap_ne (by have := HSZ.out; omega) (heap_ne (by have := HSZ.out; omega) HX8.out)), Lib.hid (heap_ne (by have := HSZ.out; omega) (heap_ne (by have := HSZ.out; omega) HY8.out)), Lib.hid (heap_ne (by have := HSZ.out; omega) (heap_ne (by have := HSZ.out; omega) HR8.out)), Lib.hid (by rw [HQ.out]; exact set_block (set_block HV8.out))⟩
                case measure => simp [intV]; omega
              · have HQ := Lib.hid (HSK.out.trans (by rw [if_pos hc, show min a (f + (k : Int)) = a from by omega, show max b (f + (k : Int)) = b from by omega]))
                go_wp2_with fail
                go_roundw
                case rel => exact ⟨k + 1, by omega, by go_num, Lib.hid (setC (setC HB8.out (by have := HSZ.out; omega) _) (by have := HSZ.out; omega) _), Lib.hid (heap_ne (by have := HSZ.out; omega) (heap_ne (by have := HSZ.out; omega) HX8.out)), Lib.hid (heap_ne (by have := HSZ.out; omega) (heap_ne (by have := HSZ.out; omega) HY8.out)), Lib.hid (heap_ne (by have := HSZ.out; omega) (heap_ne (by have := HSZ.out; omega) HR8.out)), Lib.hid (by rw [HQ.out]; exact set_block (set_block HV8.out))⟩
                case measure => simp [intV]; omega
          · have HQ := Lib.hid (HSK.out.trans (if_neg hc))
            go_wp2_with fail
            go_roundw
            case rel => exact ⟨k + 1, by omega, by go_num, HB8, HX8, HY8, HR8, Lib.hid (by rw [HQ.out]; exact HV8.out)⟩
            case measure => simp [intV]; omega
        · have hkm : k = m := by omega
          have hgt : ¬ f + (k : Int) ≤ la := by have := HT.out.2.2; omega
          have HE : Hid (MF (ticksOf f k) = MB) := by rw [hkm]; exact HMB.out.symm
          rw [HE.out] at HVJ
          clear hkm HE
          go_wp2_with fail
          refine (CL.out _ HBJ.out).mono ?_
          rintro e w7 ⟨rfl, hb⟩
          have HB7 := Lib.hid (trans' HBJ.out hb)
          have HR7 := Lib.hid (keepb hb HRJ.out)
          have HV7 := Lib.hid (keepb hb HVJ.out)
          clear hb HBJ HRJ HVJ
          obtain ⟨v0, v1, -, -⟩ := two_cells HV7.out
          obtain ⟨r0, r1, f0, f1⟩ := two_cells HR7.out
          have hlt7 := lt_of_block HR7.out
          go_wp2_with fail
          refine bodyPost_ret (v := .tuple #[.agg #[.int .i64 MB.1, .int .i64 MB.2], .int .i64 wn]) (by simp [results, Try.results40, go_sem, r0, r1]) rfl ⟨rfl, ?_⟩
          exact setC (setC HB7.out (by omega) _) (by omega) _
end Go.Proofs.Ytodpjhhogcfodaa.Orb
