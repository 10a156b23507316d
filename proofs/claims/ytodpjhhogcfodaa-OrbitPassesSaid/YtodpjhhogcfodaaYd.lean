import Derived.Test.YtodpjhhogcfodaaYc
import Derived.Test.YtodpjhhogcfodaaYb
import Derived.Outline
namespace Go.Proofs.Ytodpjhhogcfodaa.Orb
open Go.RowKit Lib

theorem passTo_F (L : List St) (x y z m2 : Int) (l : List Int) : passTo L x y z m2 l = passF (fun t => nsq L t x y z) m2 l := rfl

set_option maxRecDepth 100000 in
set_option maxHeartbeats 8000000 in
/-- THE REFERENCE'S PASSES -/
theorem refPasses_any (v : Value) (nm : ByteArray) (bend : Int) (L : List St) (hR : Rt bend L) (x y z most : Int) (hp : placeE x y z = 0) (hm0 : 0 ≤ most) (hm1 : most ≤ 100000000) (w : World) (hv : OV w v nm bend L) :
    Calls Try.prog 22 #[v, .agg #[.int .i64 x, .int .i64 y, .int .i64 z], .int .i64 most] w (GrownR (passTo L x y z (most * most) (ticksOf (fst L) (nTicks L))) w) := by
  have n0 := hR.n0
  have n1 := hR.n1
  have hlo : 0 ≤ fst L := (hR.st 0 (by omega)).t0
  have hhi : lst L ≤ 1000000000 := (hR.st (L.length - 1) (by omega)).t1
  have hle : fst L ≤ lst L := hR.le 0 (L.length - 1) (Nat.zero_le _) (by omega)
  have harc : lst L - fst L ≤ 20000 := hR.arc (L.length - 1) (by omega)
  have hnt : (nTicks L : Int) = lst L - fst L + 1 := by unfold nTicks; omega
  obtain ⟨⟨p1, p2⟩, ⟨p3, p4⟩, p5, p6⟩ := (placeE_zero x y z).1 hp
  have CO := Lib.hid (fun W (h : Below w.heap.size w W) => First_any v nm bend L (by omega) W (hv.next h))
  have CL := Lib.hid (fun W (h : Below w.heap.size w W) => Last_any v nm bend L (by omega) (by omega) W (hv.next h))
  have CN := Lib.hid (fun t (a : fst L ≤ t) (b : t ≤ lst L) W (h : Below w.heap.size w W) => refNominal_any v nm bend L hR t a b W (hv.next h))
  have CS : Hid (∀ t, fst L ≤ t → t ≤ lst L → ∀ W, Calls Try.prog 28 #[.agg #[.int .i64 (nomC L t 0), .int .i64 (nomC L t 1), .int .i64 (nomC L t 2)], .agg #[.int .i64 x, .int .i64 y, .int .i64 z]] W fun e w' => e = .returned (.int .i64 (nsq L t x y z)) ∧ Below W.heap.size W w') := fun t a b W => by
    have hA := (inArc hR t a b).arc hR
    have q0 : -100000000 ≤ nomC L t 0 ∧ nomC L t 0 ≤ 100000000 := hA.nom 0
    have q1 : -100000000 ≤ nomC L t 1 ∧ nomC L t 1 ≤ 100000000 := hA.nom 1
    have q2 : -100000000 ≤ nomC L t 2 ∧ nomC L t 2 ≤ 100000000 := hA.nom 2
    exact refSquare_any (nomC L t 0) (nomC L t 1) (nomC L t 2) x y z (by omega) (by omega) (by omega) (by omega) (by omega) (by omega) W
  have HSN := Lib.hid (passTo_snoc L x y z (most * most))
  have HLN := Lib.hid (passTo_length L x y z (most * most))
  have HP0 := Lib.hid (show passTo L x y z (most * most) [] = [] from rfl)
  obtain ⟨sp, cap, rfl, -, -, -⟩ := hv.form
  have hmm : 0 ≤ most * most ∧ most * most ≤ 10000000000000000 := ⟨Int.mul_nonneg hm0 hm0, Int.mul_le_mul hm1 hm1 hm0 (by decide)⟩
  have HWR := Lib.hid (show IntKind.i64.wrap (most * most) = most * most from IntWalk.i64_in _ (by omega))
  have HT := Lib.hid (And.intro hlo (And.intro hhi (And.intro hnt harc)))
  obtain ⟨M2, hM2⟩ : ∃ M2, M2 = most * most := ⟨_, rfl⟩
  rw [← hM2] at HSN HLN HP0 ⊢
  have HWR := Lib.hid (HWR.out.trans hM2.symm)
  have HM2 := Lib.hid hM2
  clear hv hR hp hm0 hm1 p1 p2 p3 p4 p5 p6 hmm hlo hhi hle harc hnt hM2
  generalize passTo L x y z M2 = PT at *
  generalize nTicks L = m at *
  generalize nsq L = NQ at *
  generalize nomC L = NC at *
  generalize fst L = f at *
  generalize lst L = la at *
  generalize L.length = n at *
  go_enter Try.func22, Try.ntmps22
  go_wp2_with fail
  obtain ⟨W0, hW0⟩ : ∃ W0, W0 = (w.alloc (.cells #[.string nm, .int .i64 bend, .slice sp n cap] 24)).alloc (.cells #[.int .i64 x, .int .i64 y, .int .i64 z] 26) := ⟨_, rfl⟩
  rw [← hW0]
  have HB0 := Lib.hid (show Below w.heap.size w W0 by rw [hW0]; (repeat (first | with_reducible exact Below.refl _ _ | with_reducible refine alloc1 ?_ _ | with_reducible refine Below.drew ?_ | with_reducible refine drewN1 ?_ _ | with_reducible refine setC ?_ (by omega) _)))
  have HP0' := Lib.hid (show W0.heap[w.heap.size]? = some (.cells #[.string nm, .int .i64 bend, .slice sp n cap] 24 (0, 0)) by rw [hW0]; (repeat (first | ((with_reducible refine hnew ?_); (simp; done)) | with_reducible refine hdrew ?_ | with_reducible refine hold ?_)))
  have HY0 := Lib.hid (show W0.heap[w.heap.size + 1]? = some (.cells #[.int .i64 x, .int .i64 y, .int .i64 z] 26 (0, 0)) by rw [hW0]; (repeat (first | ((with_reducible refine hnew ?_); (simp; done)) | with_reducible refine hdrew ?_ | with_reducible refine hold ?_)))
  clear hW0
  refine (CO.out _ HB0.out).mono ?_
  rintro e w1 ⟨rfl, hb⟩
  have HB1 := Lib.hid (trans' HB0.out hb)
  have HX1 := Lib.hid (keepb hb HP0'.out)
  have HY1 := Lib.hid (keepb hb HY0.out)
  clear hb HB0 HP0' HY0 CO
  go_wp2_with fail
  go_loopw [7, 8] (fun o t wr => ∃ k : Nat, k ≤ m ∧ t = .int .i64 (f + k) ∧ Hid (RgsN (PT (ticksOf f k)) wr o) ∧ Hid (Below w.heap.size w wr) ∧ Hid (wr.heap[w.heap.size]? = some (.cells #[.string nm, .int .i64 bend, .slice sp n cap] 24 (0, 0))) ∧ Hid (wr.heap[w.heap.size + 1]? = some (.cells #[.int .i64 x, .int .i64 y, .int .i64 z] 26 (0, 0)))) (fun _ t _ => (la + 1 - intV t).toNat)
  case atStart => exact ⟨0, Nat.zero_le _, by simp, Lib.hid (by rw [show ticksOf f 0 = [] from rfl, HP0.out]; exact .inl ⟨rfl, rfl⟩), HB1, HX1, HY1⟩
  case round =>
    obtain ⟨k, hk, rfl, HRK, HBK, HXK, HYK⟩ := hrel
    obtain ⟨wz, rfl⟩ : ∃ wz : World, wz = wr := ⟨_, rfl⟩
    clear HB1 HX1 HY1
    obtain ⟨k0, k1, k2⟩ := cells3 HXK.out
    by_cases hlt : k < m
    · have hle2 : f + (k : Int) ≤ la := by have := HT.out.2.2.1; omega
      have hge2 : f ≤ f + (k : Int) := by omega
      have htt : 0 ≤ f + (k : Int) ∧ f + (k : Int) ≤ 1000000000 := by have := HT.out.1; have := HT.out.2.1; omega
      have htt1 := htt.1
      have htt2 := htt.2
      have CN1 := Lib.hid (CN.out _ hge2 hle2)
      have CS1 := Lib.hid (CS.out _ hge2 hle2)
      have HSK := Lib.hid (show PT (ticksOf f (k + 1)) = if NQ (f + (k : Int)) x y z ≤ M2 then growI (PT (ticksOf f k)) (f + (k : Int)) else PT (ticksOf f k) by rw [ticksOf_succ]; exact HSN.out _ _)
      have HLK := Lib.hid (show (PT (ticksOf f k)).length ≤ 100000 by have := HLN.out (ticksOf f k); rw [ticksOf_len] at this; have := HT.out.2.2; omega)
      clear hge2 htt CN CS HSN HLN
      generalize NQ (f + (k : Int)) x y z = q at *
      generalize NC (f + (k : Int)) 0 = c0 at *
      generalize NC (f + (k : Int)) 1 = c1 at *
      generalize NC (f + (k : Int)) 2 = c2 at *
      go_wp2_with fail
      refine (CL.out _ HBK.out).mono ?_
      rintro e w2 ⟨rfl, hb⟩
      have HB2 := Lib.hid (trans' HBK.out hb)
      have HX2 := Lib.hid (keepb hb HXK.out)
      have HY2 := Lib.hid (keepb hb HYK.out)
      have HR2 := Lib.hid (HRK.out.below hb)
      clear hb k0 k1 k2 HBK HXK HYK HRK CL
      obtain ⟨k0, k1, k2⟩ := cells3 HX2.out
      obtain ⟨y0, y1, y2⟩ := cells3 HY2.out
      have hwr := HWR.out
      go_upto_region 5 with fail
      go_region_held3 (fun W => W.cell? ⟨w.heap.size, 0, none⟩ = some (.string nm) ∧ W.cell? ⟨w.heap.size, 1, none⟩ = some (.int .i64 bend) ∧ W.cell? ⟨w.heap.size, 2, none⟩ = some (.slice sp n cap) ∧ W.cell? ⟨w.heap.size + 1, 0, none⟩ = some (.int .i64 x) ∧ W.cell? ⟨w.heap.size + 1, 1, none⟩ = some (.int .i64 y) ∧ W.cell? ⟨w.heap.size + 1, 2, none⟩ = some (.int .i64 z))
        (with_reducible refine ⟨keepc ?_ k0, keepc ?_ k1, keepc ?_ k2, keepc ?_ y0, keepc ?_ y1, keepc ?_ y2⟩ <;> (repeat (first | with_reducible exact Below.refl _ _ | with_reducible refine andThen ?_ hbS | with_reducible refine andThen ?_ hbN | with_reducible refine alloc1 ?_ _ | with_reducible refine Below.drew ?_ | with_reducible refine drewN1 ?_ _ | with_reducible refine setC ?_ (by omega) _)) <;> done)
        (first
          | (go_at_call 29; (with_reducible refine (CN1.out _ (trans' HB2.out (by (repeat (first | with_reducible exact Below.refl _ _ | with_reducible refine alloc1 ?_ _ | with_reducible refine Below.drew ?_ | with_reducible refine drewN1 ?_ _ | with_reducible refine setC ?_ (by omega) _))))).mono ?_); rintro e wN ⟨rfl, hbN⟩)
          | (go_at_call 28; (with_reducible refine (CS1.out _).mono ?_); rintro e wS ⟨rfl, hbS⟩))
      have hb3 : Below w2.heap.size w2 wS := andThen (andThen ((Below.refl _ w2).drew) hbN) hbS
      have HB3 := Lib.hid (trans' HB2.out hb3)
      have HX3 := Lib.hid (keepb hb3 HX2.out)
      have HY3 := Lib.hid (keepb hb3 HY2.out)
      have HR3 := Lib.hid (HR2.out.below hb3)
      clear hb3 hbN hbS k0 k1 k2 y0 y1 y2 HB2 HX2 HY2 HR2 hwr
      have CG := Lib.hid (grown_any _ (PT (ticksOf f k)) (f + (k : Int)) htt1 htt2 HLK.out wS HR3.out)
      by_cases hc : q ≤ M2
      · have HSK1 := Lib.hid (HSK.out.trans (if_pos hc))
        rw [← HSK1.out] at CG
        go_wp2_with fail
        refine CG.out.mono ?_
        rintro e w4 ⟨v4, rfl, hb, hr4⟩
        have HB4 := Lib.hid (trans' HB3.out hb)
        have HX4 := Lib.hid (keepb hb HX3.out)
        have HY4 := Lib.hid (keepb hb HY3.out)
        have HR4 := Lib.hid hr4
        clear hb hr4
        go_wp2_with fail
        go_roundw
        case rel => exact ⟨k + 1, by omega, by go_num, HR4, HB4, HX4, HY4⟩
        case measure => simp [intV]; omega
      · have HSK1 := Lib.hid (HSK.out.trans (if_neg hc))
        go_wp2_with fail
        go_roundw
        case rel => exact ⟨k + 1, by omega, by go_num, Lib.hid (by rw [HSK1.out]; exact HR3.out), HB3, HX3, HY3⟩
        case measure => simp [intV]; omega
    · have hkm : k = m := by omega
      have hgt : ¬ f + (k : Int) ≤ la := by have := HT.out.2.2.1; omega
      have HRM := Lib.hid (show RgsN (PT (ticksOf f m)) wz _ from hkm ▸ HRK.out)
      clear hkm
      go_wp2_with fail
      refine (CL.out _ HBK.out).mono ?_
      rintro e w2 ⟨rfl, hb⟩
      have HB2 := Lib.hid (trans' HBK.out hb)
      have HR2 := Lib.hid (HRM.out.below hb)
      clear hb
      go_wp2_with fail
      go_ret
      exact ⟨_, rfl, HB2.out, HR2.out⟩
end Go.Proofs.Ytodpjhhogcfodaa.Orb
