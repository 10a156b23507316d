import Derived.Test.YtodpjhhogcfodaaYi
import Derived.Test.YtodpjhhogcfodaaRt
import Derived.Test.YtodpjhhogcfodaaVb
import Derived.Test.YtodpjhhogcfodaaVi
import Derived.Test.YtodpjhhogcfodaaYe
import Derived.StillTailTactics
import Derived.Outline
namespace Go.Proofs.Ytodpjhhogcfodaa.Orb
open Go.RowKit Lib

theorem sq_range {bend : Int} {L : List St} {t x y z : Int} (hR : Rt bend L) (h0 : fst L ≤ t) (h1 : t ≤ lst L) (hp : placeE x y z = 0) :
    (0 ≤ sqLo (loC bend L t) (hiC bend L t) (cc3 x y z) 3 ∧ sqLo (loC bend L t) (hiC bend L t) (cc3 x y z) 3 < 288230376151711744) ∧ (0 ≤ sqHi (loC bend L t) (hiC bend L t) (cc3 x y z) 3 ∧ sqHi (loC bend L t) (hiC bend L t) (cc3 x y z) 3 < 288230376151711744) ∧
    (∀ k, k < 3 → (-110000000 ≤ loC bend L t k ∧ loC bend L t k ≤ 110000000) ∧ (-110000000 ≤ hiC bend L t k ∧ hiC bend L t k ≤ 110000000)) ∧ (∀ k, k < 3 → loC bend L t k ≤ hiC bend L t k) ∧
    (sqLo (loC bend L t) (hiC bend L t) (cc3 x y z) 3 ≤ nsq L t x y z ∧ nsq L t x y z ≤ sqHi (loC bend L t) (hiC bend L t) (cc3 x y z) 3) := by
  have hA := (inArc hR t h0 h1).arc hR
  have HBD : ∀ k, k < 3 → (-110000000 ≤ loC bend L t k ∧ loC bend L t k ≤ 110000000) ∧ (-110000000 ≤ hiC bend L t k ∧ hiC bend L t k ≤ 110000000) ∧ (-100000000 ≤ cc3 x y z k ∧ cc3 x y z k ≤ 100000000) := by
    intro k _
    obtain ⟨a1, a2⟩ := hA.size bend hR.b0 hR.b1 k
    obtain ⟨a3, a4⟩ := hA.between bend hR.b0 k
    obtain ⟨a5, a6⟩ := hA.nom k
    have e1 : loC bend L t k = loS bend (gt L (arcP L t)) (gt L (arcP L t + 1)) t k := rfl
    have e2 : hiC bend L t k = hiS bend (gt L (arcP L t)) (gt L (arcP L t + 1)) t k := rfl
    rw [e1, e2]
    obtain ⟨⟨p1, p2⟩, ⟨p3, p4⟩, p5, p6⟩ := (placeE_zero x y z).1 hp
    refine ⟨by omega, by omega, ?_⟩
    unfold cc3
    split
    · omega
    · split <;> omega
  have HBT : ∀ k, loC bend L t k ≤ nomC L t k ∧ nomC L t k ≤ hiC bend L t k := fun k => hA.between bend hR.b0 k
  obtain ⟨s1, s2, s3, s4⟩ := sq_size _ _ _ HBD 3 (Nat.le_refl _)
  refine ⟨⟨by omega, by omega⟩, ⟨by omega, by omega⟩, fun k hk => ⟨(HBD k hk).1, (HBD k hk).2.1⟩, fun k _ => by have := HBT k; omega, ?_, ?_⟩
  · have n0 : near1 (loC bend L t 0) (hiC bend L t 0) x * near1 (loC bend L t 0) (hiC bend L t 0) x ≤ _ := near_sq (loC bend L t 0) (hiC bend L t 0) (nomC L t 0) x (HBT 0).1 (HBT 0).2
    have n1 : near1 (loC bend L t 1) (hiC bend L t 1) y * near1 (loC bend L t 1) (hiC bend L t 1) y ≤ _ := near_sq (loC bend L t 1) (hiC bend L t 1) (nomC L t 1) y (HBT 1).1 (HBT 1).2
    have n2 : near1 (loC bend L t 2) (hiC bend L t 2) z * near1 (loC bend L t 2) (hiC bend L t 2) z ≤ _ := near_sq (loC bend L t 2) (hiC bend L t 2) (nomC L t 2) z (HBT 2).1 (HBT 2).2
    show 0 + near1 (loC bend L t 0) (hiC bend L t 0) x * near1 (loC bend L t 0) (hiC bend L t 0) x + near1 (loC bend L t 1) (hiC bend L t 1) y * near1 (loC bend L t 1) (hiC bend L t 1) y + near1 (loC bend L t 2) (hiC bend L t 2) z * near1 (loC bend L t 2) (hiC bend L t 2) z ≤ nsq L t x y z
    unfold nsq
    omega
  · have n0 : _ ≤ far1 (loC bend L t 0) (hiC bend L t 0) x * far1 (loC bend L t 0) (hiC bend L t 0) x := far_sq (loC bend L t 0) (hiC bend L t 0) (nomC L t 0) x (HBT 0).1 (HBT 0).2
    have n1 : _ ≤ far1 (loC bend L t 1) (hiC bend L t 1) y * far1 (loC bend L t 1) (hiC bend L t 1) y := far_sq (loC bend L t 1) (hiC bend L t 1) (nomC L t 1) y (HBT 1).1 (HBT 1).2
    have n2 : _ ≤ far1 (loC bend L t 2) (hiC bend L t 2) z * far1 (loC bend L t 2) (hiC bend L t 2) z := far_sq (loC bend L t 2) (hiC bend L t 2) (nomC L t 2) z (HBT 2).1 (HBT 2).2
    show nsq L t x y z ≤ 0 + far1 (loC bend L t 0) (hiC bend L t 0) x * far1 (loC bend L t 0) (hiC bend L t 0) x + far1 (loC bend L t 1) (hiC bend L t 1) y * far1 (loC bend L t 1) (hiC bend L t 1) y + far1 (loC bend L t 2) (hiC bend L t 2) z * far1 (loC bend L t 2) (hiC bend L t 2) z
    unfold nsq
    omega

set_option maxRecDepth 100000 in
set_option maxHeartbeats 4000000 in
theorem DistanceAt_any (v : Value) (nm : ByteArray) (hs : nm.size ≤ 1000) (bend : Int) (L : List St) (hn : L.length ≤ 1000) (hI : ∀ k, (gt L k).t ≤ 9223372036854775807) (t x y z : Int) (w : World) (hv : OV w v nm bend L) :
    Calls Try.prog 26 #[v, .int .i64 t, .agg #[.int .i64 x, .int .i64 y, .int .i64 z]] w fun e w' => e = .returned (.tuple #[.agg #[.int .i64 (zif (plE (nameE nm) bend L t x y z) (rootI (sqLo (loC bend L t) (hiC bend L t) (cc3 x y z) 3))), .int .i64 (zif (plE (nameE nm) bend L t x y z) (upOf (sqHi (loC bend L t) (hiC bend L t) (cc3 x y z) 3) (rootI (sqHi (loC bend L t) (hiC bend L t) (cc3 x y z) 3))))], .int .i64 (plE (nameE nm) bend L t x y z)]) ∧ Below w.heap.size w w' := by
  have CS := Lib.hid (fun W (h : Below w.heap.size w W) => SquareAt_any v nm hs bend L hn hI t x y z W (hv.next h))
  have HZ := Lib.hid (fun (h : plE (nameE nm) bend L t x y z = 0) => by
    obtain ⟨-, -, hR, h0, h1, hp⟩ := plE_zero h
    obtain ⟨a, b, -⟩ := sq_range hR h0 h1 hp
    exact And.intro a b)
  obtain ⟨sp, cap, rfl, -, -, -⟩ := hv.form
  clear hv hs hn hI
  generalize plE (nameE nm) bend L t x y z = c at *
  generalize sqLo (loC bend L t) (hiC bend L t) (cc3 x y z) 3 = sl at *
  generalize sqHi (loC bend L t) (hiC bend L t) (cc3 x y z) 3 = sh at *
  generalize L.length = n at *
  by_cases h0 : c = 0
  · obtain ⟨⟨l0, l1⟩, u0, u1⟩ := HZ.out h0
    have C1 := Lib.hid (fun W => same (rootDown_any sl l0 l1 W))
    have C2 := Lib.hid (fun W => same (rootUp_any sh u0 u1 W))
    subst h0
    have z1 : ∀ i, zif 0 i = i := fun i => if_pos rfl
    simp only [z1] at CS ⊢
    clear l0 l1 u0 u1 HZ z1
    generalize rootI sl = ra at *
    generalize upOf sh (rootI sh) = rb at *
    go_enter Try.func26, Try.ntmps26
    go_wp2_with fail
    obtain ⟨W0, hW0⟩ : ∃ W0, W0 = ((w.alloc (.cells #[.string nm, .int .i64 bend, .slice sp n cap] 24)).alloc (.cells #[.int .i64 x, .int .i64 y, .int .i64 z] 26)).alloc (.cells #[.int .i64 0, .int .i64 0] 42) := ⟨_, rfl⟩
    rw [← hW0]
    have HB0 := Lib.hid (show Below w.heap.size w W0 by rw [hW0]; (repeat (first | with_reducible exact Below.refl _ _ | with_reducible refine alloc1 ?_ _ | with_reducible refine Below.drew ?_ | with_reducible refine drewN1 ?_ _ | with_reducible refine setC ?_ (by omega) _)))
    have HQ0 := Lib.hid (show W0.heap[w.heap.size + 1 + 1]? = some (.cells #[.int .i64 0, .int .i64 0] 42 (0, 0)) by rw [hW0]; (repeat (first | ((with_reducible refine hnew ?_); (simp; done)) | with_reducible refine hdrew ?_ | with_reducible refine hold ?_)))
    clear hW0
    refine (CS.out _ HB0.out).mono ?_
    rintro e w1 ⟨rfl, hb⟩
    have HB1 := Lib.hid (trans' HB0.out hb)
    have HQ1 := Lib.hid (keepb hb HQ0.out)
    clear hb HB0 HQ0
    go_upto_region 4 with fail
    obtain ⟨w2, hW⟩ : ∃ w2, w2 = w1.alloc (.cells #[.int .i64 sl, .int .i64 sh] 42) := ⟨_, rfl⟩
    rw [← hW]
    have hb := new_below w1 (.cells #[.int .i64 sl, .int .i64 sh] 42)
    rw [← hW] at hb
    have HS2 := Lib.hid (show w2.heap[w1.heap.size]? = some (.cells #[.int .i64 sl, .int .i64 sh] 42 (0, 0)) by rw [hW]; exact heap_alloc_new _ _)
    have HB2 := Lib.hid (trans' HB1.out hb)
    have HQ2 := Lib.hid (keepb hb HQ1.out)
    clear hW hb HB1 HQ1
    refine region_tail 7 (by kernel_rfl) (by kernel_rfl) (fun W hW => ?_)
    simp only [List.take_succ_cons, List.take_zero, List.drop_succ_cons, List.drop_zero]
    have HBW := Lib.hid (show Below w.heap.size w W by rw [hW]; exact HB2.out.drew)
    have HXW := Lib.hid (show W.heap[w1.heap.size]? = some (.cells #[.int .i64 sl, .int .i64 sh] 42 (0, 0)) by rw [hW]; exact HS2.out)
    have HQW := Lib.hid (show W.heap[w.heap.size + 1 + 1]? = some (.cells #[.int .i64 0, .int .i64 0] 42 (0, 0)) by rw [hW]; exact HQ2.out)
    clear hW HB2 HS2 HQ2
    obtain ⟨a0, a1, -, -⟩ := two_cells HXW.out
    obtain ⟨q0, q1, f0, f1⟩ := two_cells HQW.out
    have hlt := lt_of_block HQW.out
    still_step
    still_step
    still_call (C1.out _)
    still_step
    still_step
    still_call (C2.out _)
    still_step
    refine wpStill_nil ?_
    go_wp2_with fail
    refine bodyPost_ret (v := .tuple #[.agg #[.int .i64 ra, .int .i64 rb], .int .i64 0]) (by simp [results, Try.results26, go_sem, q0, q1]) rfl ⟨rfl, ?_⟩
    exact setC (setC HBW.out (by omega) _) (by omega) _
  · have z1 : ∀ i, zif c i = 0 := fun i => if_neg h0
    simp only [z1] at CS ⊢
    have hne : (c != 0) = true := by rw [bne_iff_ne]; exact h0
    clear z1 HZ
    go_enter Try.func26, Try.ntmps26
    go_wp2_with fail
    obtain ⟨W0, hW0⟩ : ∃ W0, W0 = ((w.alloc (.cells #[.string nm, .int .i64 bend, .slice sp n cap] 24)).alloc (.cells #[.int .i64 x, .int .i64 y, .int .i64 z] 26)).alloc (.cells #[.int .i64 0, .int .i64 0] 42) := ⟨_, rfl⟩
    rw [← hW0]
    have HB0 := Lib.hid (show Below w.heap.size w W0 by rw [hW0]; (repeat (first | with_reducible exact Below.refl _ _ | with_reducible refine alloc1 ?_ _ | with_reducible refine Below.drew ?_ | with_reducible refine drewN1 ?_ _ | with_reducible refine setC ?_ (by omega) _)))
    have HQ0 := Lib.hid (show W0.heap[w.heap.size + 1 + 1]? = some (.cells #[.int .i64 0, .int .i64 0] 42 (0, 0)) by rw [hW0]; (repeat (first | ((with_reducible refine hnew ?_); (simp; done)) | with_reducible refine hdrew ?_ | with_reducible refine hold ?_)))
    clear hW0
    refine (CS.out _ HB0.out).mono ?_
    rintro e w1 ⟨rfl, hb⟩
    have HB1 := Lib.hid (trans' HB0.out hb)
    have HQ1 := Lib.hid (keepb hb HQ0.out)
    clear hb HB0 HQ0
    go_upto_region 3 with fail
    obtain ⟨w2, hW⟩ : ∃ w2, w2 = w1.alloc (.cells #[.int .i64 0, .int .i64 0] 42) := ⟨_, rfl⟩
    rw [← hW]
    have hb := new_below w1 (.cells #[.int .i64 0, .int .i64 0] 42)
    rw [← hW] at hb
    have HS2 := Lib.hid (show w2.heap[w1.heap.size]? = some (.cells #[.int .i64 0, .int .i64 0] 42 (0, 0)) by rw [hW]; exact heap_alloc_new _ _)
    have HB2 := Lib.hid (trans' HB1.out hb)
    have HQ2 := Lib.hid (keepb hb HQ1.out)
    clear hW hb HB1 HQ1
    obtain ⟨q0, q1, f0, f1⟩ := two_cells HQ2.out
    have hlt := lt_of_block HQ2.out
    go_wp2_with fail
    refine bodyPost_ret (v := .tuple #[.agg #[.int .i64 0, .int .i64 0], .int .i64 c]) (by simp [results, Try.results26, go_sem, q0, q1]) rfl ⟨rfl, ?_⟩
    exact setC (setC HB2.out (by omega) _) (by omega) _

/-- the error of an orbit, a tick and a place, as the law has it -/
theorem plE_is (ne bend : Int) (L : List St) (t x y z : Int) : plE ne bend L t x y z = if tkR ne bend L t ≠ 0 then tkR ne bend L t else if placeB x y z = true then 0 else 2 := by
  rw [← tkE_tkR]
  unfold plE tkE
  rcases placeE_cases x y z with ⟨h1, h2⟩ | ⟨h1, h2⟩
  · rw [h1, h2]
    by_cases a : (orbE ne bend L).2 = 0 <;> by_cases b : tickE L t = 0 <;> simp [firstE, a, b]
  · rw [h1, h2]
    by_cases a : (orbE ne bend L).2 = 0 <;> by_cases b : tickE L t = 0 <;> simp [firstE, a, b]

set_option maxRecDepth 100000 in
set_option maxHeartbeats 2000000 in
theorem placeErr_any (v : Value) (nm : ByteArray) (hs : nm.size ≤ 1000) (bend : Int) (L : List St) (t x y z : Int) (w : World) (hv : OV w v nm bend L) :
    Calls Try.prog 27 #[v, .int .i64 t, .agg #[.int .i64 x, .int .i64 y, .int .i64 z]] w fun e w' => e = .returned (.int .i64 (plE (nameE nm) bend L t x y z)) ∧ Below w.heap.size w w' := by
  have CT := Lib.hid (fun W (h : Below w.heap.size w W) => tickErr_any v nm hs bend L t W (hv.next h))
  have CI := Lib.hid (fun W => IsPlace_any x y z W)
  have HP := Lib.hid (plE_is (nameE nm) bend L t x y z)
  obtain ⟨sp, cap, rfl, -, -, -⟩ := hv.form
  clear hv hs
  generalize plE (nameE nm) bend L t x y z = c at *
  generalize tkR (nameE nm) bend L t = e1 at *
  generalize placeB x y z = pb at *
  generalize L.length = n at *
  have hw : (e1 = 0 ∨ (e1 != 0) = true ∧ Hid (c = e1)) := by
    by_cases h : e1 = 0
    · exact .inl h
    · exact .inr ⟨by rw [bne_iff_ne]; exact h, Lib.hid (HP.out.trans (if_pos h))⟩
  rcases hw with rfl | ⟨h1, HC⟩
  · have HC : Hid (c = if pb = true then 0 else 2) := HP.out.trans (if_neg (by simp))
    cases pb
    all_goals
      go_enter Try.func27, Try.ntmps27
      go_wp2_with fail
      obtain ⟨W0, hW0⟩ : ∃ W0, W0 = (w.alloc (.cells #[.string nm, .int .i64 bend, .slice sp n cap] 24)).alloc (.cells #[.int .i64 x, .int .i64 y, .int .i64 z] 26) := ⟨_, rfl⟩
      rw [← hW0]
      have HB0 := Lib.hid (show Below w.heap.size w W0 by rw [hW0]; (repeat (first | with_reducible exact Below.refl _ _ | with_reducible refine alloc1 ?_ _ | with_reducible refine Below.drew ?_ | with_reducible refine drewN1 ?_ _ | with_reducible refine setC ?_ (by omega) _)))
      have HY0 := Lib.hid (show W0.heap[w.heap.size + 1]? = some (.cells #[.int .i64 x, .int .i64 y, .int .i64 z] 26 (0, 0)) by rw [hW0]; (repeat (first | ((with_reducible refine hnew ?_); (simp; done)) | with_reducible refine hdrew ?_ | with_reducible refine hold ?_)))
      clear hW0
      refine (CT.out _ HB0.out).mono ?_
      rintro e w1 ⟨rfl, hb⟩
      have HB1 := Lib.hid (trans' HB0.out hb)
      have HY1 := Lib.hid (keepb hb HY0.out)
      clear hb HB0 HY0
      obtain ⟨y0, y1, y2⟩ := cells3 HY1.out
      go_wp2_with fail
      refine (CI.out _).mono ?_
      rintro e w2 ⟨rfl, hb⟩
      have HB2 := Lib.hid (trans' HB1.out hb)
      clear hb HB1
      go_wp2_with fail
      go_ret
      exact ⟨by rw [HC.out]; rfl, HB2.out⟩
  · go_enter Try.func27, Try.ntmps27
    go_wp2_with fail
    obtain ⟨W0, hW0⟩ : ∃ W0, W0 = (w.alloc (.cells #[.string nm, .int .i64 bend, .slice sp n cap] 24)).alloc (.cells #[.int .i64 x, .int .i64 y, .int .i64 z] 26) := ⟨_, rfl⟩
    rw [← hW0]
    have HB0 := Lib.hid (show Below w.heap.size w W0 by rw [hW0]; (repeat (first | with_reducible exact Below.refl _ _ | with_reducible refine alloc1 ?_ _ | with_reducible refine Below.drew ?_ | with_reducible refine drewN1 ?_ _ | with_reducible refine setC ?_ (by omega) _)))
    clear hW0
    refine (CT.out _ HB0.out).mono ?_
    rintro e w1 ⟨rfl, hb⟩
    have HB1 := Lib.hid (trans' HB0.out hb)
    clear hb HB0
    go_wp2_with fail
    go_ret
    exact ⟨by rw [HC.out]; rfl, HB1.out⟩
end Go.Proofs.Ytodpjhhogcfodaa.Orb
