import Derived.Test.YtodpjhhogcfodaaVh
import Derived.Test.YtodpjhhogcfodaaVc
import Derived.BigQuiet
import Derived.Deep.Quiet
import Derived.Outline
namespace Go.Proofs.Ytodpjhhogcfodaa.Orb
open Go.RowKit Lib

theorem tkE_tkR (ne bend : Int) (L : List St) (t : Int) : tkE ne bend L t = tkR ne bend L t := by
  unfold tkR
  by_cases h1 : (orbE ne bend L).2 = 0
  · rw [if_pos h1]
    have h0 := (Rt.of h1).2.n0
    by_cases h2 : fst L ≤ t ∧ t ≤ lst L
    · rw [if_pos h2]; exact tkE_of h1 h2.1 h2.2 (by omega)
    · rw [if_neg h2]
      unfold tkE tickE hasB
      rw [h1]
      have : (decide (fst L ≤ t) && decide (t ≤ lst L)) = false := by
        by_cases h3 : fst L ≤ t
        · rw [decide_eq_false (show ¬ t ≤ lst L from fun h => h2 ⟨h3, h⟩), Bool.and_false]
        · rw [decide_eq_false h3, Bool.false_and]
      rw [this, Bool.and_false]; rfl
  · rw [if_neg h1]
    unfold tkE
    exact firstE_hit [(orbE ne bend L).2, tickE L t] 0 _ rfl h1

set_option maxRecDepth 100000 in
set_option maxHeartbeats 16000000 in
theorem places_any (v : Value) (nm : ByteArray) (bend : Int) (L : List St) (hI : ∀ k, (gt L k).t ≤ 9223372036854775807) (t : Int) (w : World) (hv : OV w v nm bend L) :
    Calls Try.prog 13 #[v, .int .i64 t] w fun e w' => e = .returned (.bool true) ∧ Below w.heap.size w w' := by
  have CA := Lib.hid awake_any
  have CF := Lib.hid (fun W (h : Below w.heap.size w W) => Few_any v nm bend L W (hv.next h))
  obtain ⟨p, cap, hvf, -, -, -⟩ := hv.form
  cases hf : fewB nm.size L.length with
  | false =>
    rw [hf] at CF
    subst hvf
    clear hv hf hI
    generalize L.length = n at *
    go_enter Try.func13, Try.ntmps13
    go_wp2_with fail
    have HB0 := Lib.hid (new_below w (.cells #[.string nm, .int .i64 bend, .slice p n cap] 24))
    have HP0 := Lib.hid (heap_alloc_new w (.cells #[.string nm, .int .i64 bend, .slice p n cap] 24))
    refine (CA.out _).mono ?_
    rintro e w1 ⟨rfl, hb⟩
    have HB1 := Lib.hid (trans' HB0.out hb)
    obtain ⟨k0, k1, k2⟩ := cells3 (keepb hb HP0.out)
    clear hb
    go_wp2_with fail
    refine (CF.out _ HB1.out).mono ?_
    rintro e w2 ⟨rfl, hb⟩
    have HB2 := Lib.hid (trans' HB1.out hb)
    clear hb
    go_wp2_with fail
    go_ret
    exact ⟨rfl, HB2.out⟩
  | true =>
    rw [hf] at CF
    obtain ⟨hs1, hn1⟩ := fewB_true hf
    have CY := Lib.hid (fun W (h : Below w.heap.size w W) => Copy_any v nm bend L (by omega) W (hv.next h))
    obtain ⟨c, hc⟩ : ∃ c, c = tkR (nameE nm) bend L t := ⟨_, rfl⟩
    obtain ⟨NZ, hNZ⟩ : ∃ NZ : Nat → Int, NZ = fun i => zif c (nomC L t i) := ⟨_, rfl⟩
    obtain ⟨LZ, hLZ⟩ : ∃ LZ : Nat → Int, LZ = fun i => zif c (loC bend L t i) := ⟨_, rfl⟩
    obtain ⟨HZ, hHZ⟩ : ∃ HZ : Nat → Int, HZ = fun i => zif c (hiC bend L t i) := ⟨_, rfl⟩
    have CN : Hid (∀ v2 W, OV W v2 nm bend L → Calls Try.prog 63 #[v2, .int .i64 t] W fun e w' => e = .returned (.tuple #[.agg #[.int .i64 (NZ 0), .int .i64 (NZ 1), .int .i64 (NZ 2)], .int .i64 c]) ∧ Below W.heap.size W w') := fun v2 W h => by
      have := Nominal_any v2 nm (by omega) bend L (by omega) hI t W h
      rw [tkE_tkR, ← hc] at this
      rw [hNZ]; exact this
    have CB : Hid (∀ v2 W, OV W v2 nm bend L → Calls Try.prog 45 #[v2, .int .i64 t] W fun e w' => e = .returned (.tuple #[.agg #[.int .i64 (LZ 0), .int .i64 (HZ 0), .int .i64 (LZ 1), .int .i64 (HZ 1), .int .i64 (LZ 2), .int .i64 (HZ 2)], .int .i64 c]) ∧ Below W.heap.size W w') := fun v2 W h => by
      have := BoxAt_any v2 nm (by omega) bend L (by omega) hI t W h
      rw [tkE_tkR, ← hc] at this
      rw [hLZ, hHZ]; exact this
    have CT := Lib.hid (fun W (h : Below w.heap.size w W) => tickErr_any v nm (by omega) bend L t W (hv.next h))
    have CR := Lib.hid (fun (h0 : tkR (nameE nm) bend L t = 0) W (h : Below w.heap.size w W) => refNominal_any v nm bend L (tkR_zero h0).2.2.1 t (tkR_zero h0).2.2.2.1 (tkR_zero h0).2.2.2.2 W (hv.next h))
    have CX := Lib.hid (fun (h0 : tkR (nameE nm) bend L t = 0) W (h : Below w.heap.size w W) => refBoxAt_any v nm bend L (tkR_zero h0).2.2.1 t (tkR_zero h0).2.2.2.1 (tkR_zero h0).2.2.2.2 W (hv.next h))
    have HIN := Lib.hid (show tkR (nameE nm) bend L t = 0 → ∀ i, loC bend L t i ≤ nomC L t i ∧ nomC L t i ≤ hiC bend L t i from fun h0 i =>
      ((inArc (tkR_zero h0).2.2.1 t (tkR_zero h0).2.2.2.1 (tkR_zero h0).2.2.2.2).arc (tkR_zero h0).2.2.1).between bend (tkR_zero h0).2.2.1.b0 i)
    rw [← hc] at CT CR CX HIN
    have HEQ := Lib.hid (And.intro hNZ (And.intro hLZ hHZ))
    clear hNZ hLZ hHZ hc
    generalize nomC L t = NC at *
    generalize loC bend L t = LO at *
    generalize hiC bend L t = HI at *
    subst hvf
    clear hv hI hf hs1 hn1
    generalize L.length = n at *
    go_enter Try.func13, Try.ntmps13
    go_wp2_with fail
    have HB0 := Lib.hid (new_below w (.cells #[.string nm, .int .i64 bend, .slice p n cap] 24))
    have HP0 := Lib.hid (heap_alloc_new w (.cells #[.string nm, .int .i64 bend, .slice p n cap] 24))
    refine (CA.out _).mono ?_
    rintro e w1 ⟨rfl, hb⟩
    have HB1 := Lib.hid (trans' HB0.out hb)
    have HP1 := Lib.hid (keepb hb HP0.out)
    obtain ⟨k0, k1, k2⟩ := cells3 HP1.out
    clear hb HB0 HP0
    go_wp2_with fail
    refine (CF.out _ HB1.out).mono ?_
    rintro e w2 ⟨rfl, hb⟩
    have HB2 := Lib.hid (trans' HB1.out hb)
    have HP2 := Lib.hid (keepb hb HP1.out)
    clear hb k0 k1 k2 HB1 HP1
    obtain ⟨k0, k1, k2⟩ := cells3 HP2.out
    go_wp2_with fail
    refine (CY.out _ HB2.out).mono ?_
    rintro e w3 ⟨v3, rfl, hb, hv3⟩
    have HB3 := Lib.hid (trans' HB2.out hb)
    have HP3 := Lib.hid (keepb hb HP2.out)
    clear hb k0 k1 k2 HB2 HP2
    go_wp2_with fail
    refine (CN.out _ _ hv3).mono ?_
    rintro e w4 ⟨rfl, hb⟩
    have HB4 := Lib.hid (trans' HB3.out hb)
    have HP4 := Lib.hid (keepb hb HP3.out)
    have hl4 := lt_of_block HP4.out
    obtain ⟨k0, k1, k2⟩ := cells3 HP4.out
    clear hb hv3 HB3 HP3
    go_wp2_with fail
    obtain ⟨W4, hW4⟩ : ∃ W4, W4 = w4.alloc (.cells #[.int .i64 (NZ 0), .int .i64 (NZ 1), .int .i64 (NZ 2)] 26) := ⟨_, rfl⟩
    rw [← hW4]
    have hb := new_below w4 (.cells #[.int .i64 (NZ 0), .int .i64 (NZ 1), .int .i64 (NZ 2)] 26)
    rw [← hW4] at hb
    have HD4 := Lib.hid (show W4.heap[w4.heap.size]? = some (.cells #[.int .i64 (NZ 0), .int .i64 (NZ 1), .int .i64 (NZ 2)] 26 (0, 0)) by rw [hW4]; exact heap_alloc_new _ _)
    have HB4' := Lib.hid (trans' HB4.out hb)
    have HP4' := Lib.hid (keepb hb HP4.out)
    clear hW4 hb k0 k1 k2 hl4 HB4 HP4
    refine (CY.out _ HB4'.out).mono ?_
    rintro e w5 ⟨v5, rfl, hb, hv5⟩
    have HB5 := Lib.hid (trans' HB4'.out hb)
    have HP5 := Lib.hid (keepb hb HP4'.out)
    have HD5 := Lib.hid (keepb hb HD4.out)
    clear hb HB4' HP4' HD4
    go_wp2_with fail
    refine (CB.out _ _ hv5).mono ?_
    rintro e w6 ⟨rfl, hb⟩
    have HB6 := Lib.hid (trans' HB5.out hb)
    have HP6 := Lib.hid (keepb hb HP5.out)
    have HD6 := Lib.hid (keepb hb HD5.out)
    have hl6 := lt_of_block HP6.out
    obtain ⟨k0, k1, k2⟩ := cells3 HP6.out
    clear hb hv5 HB5 HP5 HD5
    go_wp2_with fail
    obtain ⟨W6, hW6⟩ : ∃ W6, W6 = w6.alloc (.cells #[.int .i64 (LZ 0), .int .i64 (HZ 0), .int .i64 (LZ 1), .int .i64 (HZ 1), .int .i64 (LZ 2), .int .i64 (HZ 2)] 49) := ⟨_, rfl⟩
    rw [← hW6]
    have hb := new_below w6 (.cells #[.int .i64 (LZ 0), .int .i64 (HZ 0), .int .i64 (LZ 1), .int .i64 (HZ 1), .int .i64 (LZ 2), .int .i64 (HZ 2)] 49)
    rw [← hW6] at hb
    have HE6 := Lib.hid (show W6.heap[w6.heap.size]? = some (.cells #[.int .i64 (LZ 0), .int .i64 (HZ 0), .int .i64 (LZ 1), .int .i64 (HZ 1), .int .i64 (LZ 2), .int .i64 (HZ 2)] 49 (0, 0)) by rw [hW6]; exact heap_alloc_new _ _)
    have HB6' := Lib.hid (trans' HB6.out hb)
    have HP6' := Lib.hid (keepb hb HP6.out)
    have HD6' := Lib.hid (keepb hb HD6.out)
    clear hW6 hb k0 k1 k2 hl6 HB6 HP6 HD6
    refine (CT.out _ HB6'.out).mono ?_
    rintro e w7 ⟨rfl, hb⟩
    have HB7 := Lib.hid (trans' HB6'.out hb)
    have HP7 := Lib.hid (keepb hb HP6'.out)
    have HD7 := Lib.hid (keepb hb HD6'.out)
    have HE7 := Lib.hid (keepb hb HE6.out)
    clear hb HB6' HP6' HD6' HE6 CY CN CB CT CA CF
    by_cases h0 : c = 0
    · subst h0
      obtain ⟨d1, d2, d3⟩ := HEQ.out
      have e1 : NZ = NC := by rw [d1]; funext i; exact if_pos rfl
      have e2 : LZ = LO := by rw [d2]; funext i; exact if_pos rfl
      have e3 : HZ = HI := by rw [d3]; funext i; exact if_pos rfl
      clear d1 d2 d3 HEQ
      subst e1 e2 e3
      have CRR := Lib.hid (CR.out (by first | rfl | trivial))
      have CX := Lib.hid (CX.out (by first | rfl | trivial))
      have HIN := Lib.hid (HIN.out (by first | rfl | trivial))
      have HE1 := Lib.hid (eq_place (NZ 0) (NZ 1) (NZ 2) (NZ 0) (NZ 1) (NZ 2))
      have HE2 := Lib.hid (eq_box (LZ 0) (HZ 0) (LZ 1) (HZ 1) (LZ 2) (HZ 2) (LZ 0) (HZ 0) (LZ 1) (HZ 1) (LZ 2) (HZ 2))
      have HG1 := Lib.hid (show Try.prog.eqGuardType Try.prog.depth 26 = false by kernel_rfl)
      have HG2 := Lib.hid (show Try.prog.eqGuardType Try.prog.depth 49 = false by kernel_rfl)
      have CXX : Hid (∀ W, Below w.heap.size w W → Calls Try.prog 31 #[.agg #[.string nm, .int .i64 bend, .slice p n cap], .int .i64 t] W fun e w' => e = .returned (.agg #[.int .i64 (LZ 0), .int .i64 (HZ 0), .int .i64 (LZ 1), .int .i64 (HZ 1), .int .i64 (LZ 2), .int .i64 (HZ 2)]) ∧ Below W.heap.size W w') := fun W h => CX.out W h
      have CW0 : Hid (∀ W, Calls Try.prog 20 #[.int .i64 (NZ 0), .int .i64 (LZ 0), .int .i64 (HZ 0)] W fun e w' => e = .returned (.bool true) ∧ W = w') := fun W => by
        have h := Within_any (NZ 0) (LZ 0) (HZ 0) W
        rwa [decide_eq_true (HIN.out 0)] at h
      have CW1 : Hid (∀ W, Calls Try.prog 20 #[.int .i64 (NZ 1), .int .i64 (LZ 1), .int .i64 (HZ 1)] W fun e w' => e = .returned (.bool true) ∧ W = w') := fun W => by
        have h := Within_any (NZ 1) (LZ 1) (HZ 1) W
        rwa [decide_eq_true (HIN.out 1)] at h
      have CW2 : Hid (∀ W, Calls Try.prog 20 #[.int .i64 (NZ 2), .int .i64 (LZ 2), .int .i64 (HZ 2)] W fun e w' => e = .returned (.bool true) ∧ W = w') := fun W => by
        have h := Within_any (NZ 2) (LZ 2) (HZ 2) W
        rwa [decide_eq_true (HIN.out 2)] at h
      clear CX HIN
      generalize NZ 0 = N0 at *
      generalize NZ 1 = N1 at *
      generalize NZ 2 = N2 at *
      generalize LZ 0 = L0 at *
      generalize LZ 1 = L1 at *
      generalize LZ 2 = L2 at *
      generalize HZ 0 = H0 at *
      generalize HZ 1 = H1 at *
      generalize HZ 2 = H2 at *
      go_upto_region 10 with fail
      refine wp_region_quiet (C := fun W' => Below w7.heap.size w7 W') (by kernel_rfl) (by kernel_rfl) (Below.refl _ w7).drew ?_
      refine Go.BigFrame.wpQuiet_want (by rfl) (fun K hK => ⟨.int .i64 0, fun WQ hWQ => ?_, hK _ ?_⟩)
      · clear hK
        unfold Oper.quietAt
        go_simp
      clear hK K
      simp only [Act.put, List.setIfInBounds_toArray, List.set_cons_succ, List.set_cons_zero]
      refine Go.BigFrame.wpQuiet_want (by rfl) (fun K hK => ⟨.bool true, fun WQ hWQ => ?_, hK _ ?_⟩)
      · clear hK
        unfold Oper.quietAt
        go_simp
      clear hK K
      simp only [Act.put, List.setIfInBounds_toArray, List.set_cons_succ, List.set_cons_zero]
      refine Go.BigFrame.wpQuiet_want (by rfl) (fun K hK => ⟨.bool true, fun WQ hWQ => ?_, hK _ ?_⟩)
      · clear hK
        unfold Oper.quietAt
        go_simp
      clear hK K
      simp only [Act.put, List.setIfInBounds_toArray, List.set_cons_succ, List.set_cons_zero]
      refine Go.BigFrame.wpQuiet_want (by rfl) (fun K hK => ⟨.agg #[.int .i64 N0, .int .i64 N1, .int .i64 N2], fun WQ hWQ => ?_, hK _ ?_⟩)
      · clear hK
        obtain ⟨q0, q1, q2⟩ := cells3 (keepb hWQ HD7.out)
        unfold Oper.quietAt
        go_simp
      clear hK K
      simp only [Act.put, List.setIfInBounds_toArray, List.set_cons_succ, List.set_cons_zero]
      refine Go.BigFrame.wpQuiet_want (by rfl) (fun K hK => ⟨.agg #[.string nm, .int .i64 bend, .slice p n cap], fun WQ hWQ => ?_, hK _ ?_⟩)
      · clear hK
        obtain ⟨q0, q1, q2⟩ := cells3 (keepb hWQ HP7.out)
        unfold Oper.quietAt
        go_simp
      clear hK K
      simp only [Act.put, List.setIfInBounds_toArray, List.set_cons_succ, List.set_cons_zero]
      refine Go.BigFrame.wpQuiet_want (by rfl) (fun K hK => ⟨.int .i64 t, fun WQ hWQ => ?_, hK _ ?_⟩)
      · clear hK
        unfold Oper.quietAt
        go_simp
      clear hK K
      simp only [Act.put, List.setIfInBounds_toArray, List.set_cons_succ, List.set_cons_zero]
      refine Go.BigFrame.wpQuiet_want (by rfl) (fun K hK => ⟨.agg #[.int .i64 N0, .int .i64 N1, .int .i64 N2], fun WQ hWQ => ?_, hK _ ?_⟩)
      · clear hK
        unfold Oper.quietAt
        go_simp
        exact (CRR.out WQ (trans' HB7.out hWQ)).mono (fun e w' h => ⟨h.1, andThen hWQ h.2⟩)
      clear hK K
      simp only [Act.put, List.setIfInBounds_toArray, List.set_cons_succ, List.set_cons_zero]
      refine Go.BigFrame.wpQuiet_want (by rfl) (fun K hK => ⟨.bool true, fun WQ hWQ => ?_, hK _ ?_⟩)
      · clear hK
        have hE1 := HE1.out
        have hG1 := HG1.out
        unfold Oper.quietAt
        go_simp
      clear hK K
      simp only [Act.put, List.setIfInBounds_toArray, List.set_cons_succ, List.set_cons_zero]
      refine Go.BigFrame.wpQuiet_want (by rfl) (fun K hK => ⟨.bool true, fun WQ hWQ => ?_, hK _ ?_⟩)
      · clear hK
        unfold Oper.quietAt
        go_simp
      clear hK K
      simp only [Act.put, List.setIfInBounds_toArray, List.set_cons_succ, List.set_cons_zero]
      refine Go.BigFrame.wpQuiet_want (by rfl) (fun K hK => ⟨.bool true, fun WQ hWQ => ?_, hK _ ?_⟩)
      · clear hK
        unfold Oper.quietAt
        go_simp
      clear hK K
      simp only [Act.put, List.setIfInBounds_toArray, List.set_cons_succ, List.set_cons_zero]
      refine Go.BigFrame.wpQuiet_want (by rfl) (fun K hK => ⟨.int .i64 0, fun WQ hWQ => ?_, hK _ ?_⟩)
      · clear hK
        unfold Oper.quietAt
        go_simp
      clear hK K
      simp only [Act.put, List.setIfInBounds_toArray, List.set_cons_succ, List.set_cons_zero]
      refine Go.BigFrame.wpQuiet_want (by rfl) (fun K hK => ⟨.bool true, fun WQ hWQ => ?_, hK _ ?_⟩)
      · clear hK
        unfold Oper.quietAt
        go_simp
      clear hK K
      simp only [Act.put, List.setIfInBounds_toArray, List.set_cons_succ, List.set_cons_zero]
      refine Go.BigFrame.wpQuiet_want (by rfl) (fun K hK => ⟨.bool true, fun WQ hWQ => ?_, hK _ ?_⟩)
      · clear hK
        unfold Oper.quietAt
        go_simp
      clear hK K
      simp only [Act.put, List.setIfInBounds_toArray, List.set_cons_succ, List.set_cons_zero]
      refine Go.BigFrame.wpQuiet_want (by rfl) (fun K hK => ⟨.bool true, fun WQ hWQ => ?_, hK _ ?_⟩)
      · clear hK
        unfold Oper.quietAt
        go_simp
      clear hK K
      simp only [Act.put, List.setIfInBounds_toArray, List.set_cons_succ, List.set_cons_zero]
      refine Go.BigFrame.wpQuiet_want (by rfl) (fun K hK => ⟨.agg #[.int .i64 L0, .int .i64 H0, .int .i64 L1, .int .i64 H1, .int .i64 L2, .int .i64 H2], fun WQ hWQ => ?_, hK _ ?_⟩)
      · clear hK
        obtain ⟨q0, q1, q2, q3, q4, q5⟩ := cells6 (keepb hWQ HE7.out)
        unfold Oper.quietAt
        go_simp
      clear hK K
      simp only [Act.put, List.setIfInBounds_toArray, List.set_cons_succ, List.set_cons_zero]
      refine Go.BigFrame.wpQuiet_want (by rfl) (fun K hK => ⟨.agg #[.string nm, .int .i64 bend, .slice p n cap], fun WQ hWQ => ?_, hK _ ?_⟩)
      · clear hK
        obtain ⟨q0, q1, q2⟩ := cells3 (keepb hWQ HP7.out)
        unfold Oper.quietAt
        go_simp
      clear hK K
      simp only [Act.put, List.setIfInBounds_toArray, List.set_cons_succ, List.set_cons_zero]
      refine Go.BigFrame.wpQuiet_want (by rfl) (fun K hK => ⟨.int .i64 t, fun WQ hWQ => ?_, hK _ ?_⟩)
      · clear hK
        unfold Oper.quietAt
        go_simp
      clear hK K
      simp only [Act.put, List.setIfInBounds_toArray, List.set_cons_succ, List.set_cons_zero]
      refine Go.BigFrame.wpQuiet_want (by rfl) (fun K hK => ⟨.agg #[.int .i64 L0, .int .i64 H0, .int .i64 L1, .int .i64 H1, .int .i64 L2, .int .i64 H2], fun WQ hWQ => ?_, hK _ ?_⟩)
      · clear hK
        unfold Oper.quietAt
        go_simp
        exact (CXX.out WQ (trans' HB7.out hWQ)).mono (fun e w' h => ⟨h.1, andThen hWQ h.2⟩)
      clear hK K
      simp only [Act.put, List.setIfInBounds_toArray, List.set_cons_succ, List.set_cons_zero]
      refine Go.BigFrame.wpQuiet_want (by rfl) (fun K hK => ⟨.bool true, fun WQ hWQ => ?_, hK _ ?_⟩)
      · clear hK
        have hE2 := HE2.out
        have hG2 := HG2.out
        unfold Oper.quietAt
        go_simp
      clear hK K
      simp only [Act.put, List.setIfInBounds_toArray, List.set_cons_succ, List.set_cons_zero]
      refine Go.BigFrame.wpQuiet_want (by rfl) (fun K hK => ⟨.bool true, fun WQ hWQ => ?_, hK _ ?_⟩)
      · clear hK
        unfold Oper.quietAt
        go_simp
      clear hK K
      simp only [Act.put, List.setIfInBounds_toArray, List.set_cons_succ, List.set_cons_zero]
      refine Go.BigFrame.wpQuiet_want (by rfl) (fun K hK => ⟨.bool true, fun WQ hWQ => ?_, hK _ ?_⟩)
      · clear hK
        unfold Oper.quietAt
        go_simp
      clear hK K
      simp only [Act.put, List.setIfInBounds_toArray, List.set_cons_succ, List.set_cons_zero]
      refine Go.BigFrame.wpQuiet_want (by rfl) (fun K hK => ⟨.pointer (some ⟨w4.heap.size, 0, none⟩), fun WQ hWQ => ?_, hK _ ?_⟩)
      · clear hK
        unfold Oper.quietAt
        go_simp
      clear hK K
      simp only [Act.put, List.setIfInBounds_toArray, List.set_cons_succ, List.set_cons_zero]
      refine Go.BigFrame.wpQuiet_want (by rfl) (fun K hK => ⟨.int .i64 N0, fun WQ hWQ => ?_, hK _ ?_⟩)
      · clear hK
        obtain ⟨q0, q1, q2⟩ := cells3 (keepb hWQ HD7.out)
        unfold Oper.quietAt
        go_simp
      clear hK K
      simp only [Act.put, List.setIfInBounds_toArray, List.set_cons_succ, List.set_cons_zero]
      refine Go.BigFrame.wpQuiet_want (by rfl) (fun K hK => ⟨.pointer (some ⟨w6.heap.size, 0, none⟩), fun WQ hWQ => ?_, hK _ ?_⟩)
      · clear hK
        unfold Oper.quietAt
        go_simp
      clear hK K
      simp only [Act.put, List.setIfInBounds_toArray, List.set_cons_succ, List.set_cons_zero]
      refine Go.BigFrame.wpQuiet_want (by rfl) (fun K hK => ⟨.pointer (some ⟨w6.heap.size, 0, none⟩), fun WQ hWQ => ?_, hK _ ?_⟩)
      · clear hK
        unfold Oper.quietAt
        go_simp
      clear hK K
      simp only [Act.put, List.setIfInBounds_toArray, List.set_cons_succ, List.set_cons_zero]
      refine Go.BigFrame.wpQuiet_want (by rfl) (fun K hK => ⟨.int .i64 L0, fun WQ hWQ => ?_, hK _ ?_⟩)
      · clear hK
        obtain ⟨q0, q1, q2, q3, q4, q5⟩ := cells6 (keepb hWQ HE7.out)
        unfold Oper.quietAt
        go_simp
      clear hK K
      simp only [Act.put, List.setIfInBounds_toArray, List.set_cons_succ, List.set_cons_zero]
      refine Go.BigFrame.wpQuiet_want (by rfl) (fun K hK => ⟨.pointer (some ⟨w6.heap.size, 0, none⟩), fun WQ hWQ => ?_, hK _ ?_⟩)
      · clear hK
        unfold Oper.quietAt
        go_simp
      clear hK K
      simp only [Act.put, List.setIfInBounds_toArray, List.set_cons_succ, List.set_cons_zero]
      refine Go.BigFrame.wpQuiet_want (by rfl) (fun K hK => ⟨.pointer (some ⟨w6.heap.size, 1, none⟩), fun WQ hWQ => ?_, hK _ ?_⟩)
      · clear hK
        unfold Oper.quietAt
        go_simp
      clear hK K
      simp only [Act.put, List.setIfInBounds_toArray, List.set_cons_succ, List.set_cons_zero]
      refine Go.BigFrame.wpQuiet_want (by rfl) (fun K hK => ⟨.int .i64 H0, fun WQ hWQ => ?_, hK _ ?_⟩)
      · clear hK
        obtain ⟨q0, q1, q2, q3, q4, q5⟩ := cells6 (keepb hWQ HE7.out)
        unfold Oper.quietAt
        go_simp
      clear hK K
      simp only [Act.put, List.setIfInBounds_toArray, List.set_cons_succ, List.set_cons_zero]
      refine Go.BigFrame.wpQuiet_want (by rfl) (fun K hK => ⟨.bool true, fun WQ hWQ => ?_, hK _ ?_⟩)
      · clear hK
        unfold Oper.quietAt
        go_simp
        exact (CW0.out WQ).mono (fun e w' h => ⟨h.1, h.2 ▸ hWQ⟩)
      clear hK K
      simp only [Act.put, List.setIfInBounds_toArray, List.set_cons_succ, List.set_cons_zero]
      refine Go.BigFrame.wpQuiet_want (by rfl) (fun K hK => ⟨.bool true, fun WQ hWQ => ?_, hK _ ?_⟩)
      · clear hK
        unfold Oper.quietAt
        go_simp
      clear hK K
      simp only [Act.put, List.setIfInBounds_toArray, List.set_cons_succ, List.set_cons_zero]
      refine Go.BigFrame.wpQuiet_want (by rfl) (fun K hK => ⟨.bool true, fun WQ hWQ => ?_, hK _ ?_⟩)
      · clear hK
        unfold Oper.quietAt
        go_simp
      clear hK K
      simp only [Act.put, List.setIfInBounds_toArray, List.set_cons_succ, List.set_cons_zero]
      refine Go.BigFrame.wpQuiet_want (by rfl) (fun K hK => ⟨.pointer (some ⟨w4.heap.size, 1, none⟩), fun WQ hWQ => ?_, hK _ ?_⟩)
      · clear hK
        unfold Oper.quietAt
        go_simp
      clear hK K
      simp only [Act.put, List.setIfInBounds_toArray, List.set_cons_succ, List.set_cons_zero]
      refine Go.BigFrame.wpQuiet_want (by rfl) (fun K hK => ⟨.int .i64 N1, fun WQ hWQ => ?_, hK _ ?_⟩)
      · clear hK
        obtain ⟨q0, q1, q2⟩ := cells3 (keepb hWQ HD7.out)
        unfold Oper.quietAt
        go_simp
      clear hK K
      simp only [Act.put, List.setIfInBounds_toArray, List.set_cons_succ, List.set_cons_zero]
      refine Go.BigFrame.wpQuiet_want (by rfl) (fun K hK => ⟨.pointer (some ⟨w6.heap.size, 2, none⟩), fun WQ hWQ => ?_, hK _ ?_⟩)
      · clear hK
        unfold Oper.quietAt
        go_simp
      clear hK K
      simp only [Act.put, List.setIfInBounds_toArray, List.set_cons_succ, List.set_cons_zero]
      refine Go.BigFrame.wpQuiet_want (by rfl) (fun K hK => ⟨.pointer (some ⟨w6.heap.size, 2, none⟩), fun WQ hWQ => ?_, hK _ ?_⟩)
      · clear hK
        unfold Oper.quietAt
        go_simp
      clear hK K
      simp only [Act.put, List.setIfInBounds_toArray, List.set_cons_succ, List.set_cons_zero]
      refine Go.BigFrame.wpQuiet_want (by rfl) (fun K hK => ⟨.int .i64 L1, fun WQ hWQ => ?_, hK _ ?_⟩)
      · clear hK
        obtain ⟨q0, q1, q2, q3, q4, q5⟩ := cells6 (keepb hWQ HE7.out)
        unfold Oper.quietAt
        go_simp
      clear hK K
      simp only [Act.put, List.setIfInBounds_toArray, List.set_cons_succ, List.set_cons_zero]
      refine Go.BigFrame.wpQuiet_want (by rfl) (fun K hK => ⟨.pointer (some ⟨w6.heap.size, 2, none⟩), fun WQ hWQ => ?_, hK _ ?_⟩)
      · clear hK
        unfold Oper.quietAt
        go_simp
      clear hK K
      simp only [Act.put, List.setIfInBounds_toArray, List.set_cons_succ, List.set_cons_zero]
      refine Go.BigFrame.wpQuiet_want (by rfl) (fun K hK => ⟨.pointer (some ⟨w6.heap.size, 3, none⟩), fun WQ hWQ => ?_, hK _ ?_⟩)
      · clear hK
        unfold Oper.quietAt
        go_simp
      clear hK K
      simp only [Act.put, List.setIfInBounds_toArray, List.set_cons_succ, List.set_cons_zero]
      refine Go.BigFrame.wpQuiet_want (by rfl) (fun K hK => ⟨.int .i64 H1, fun WQ hWQ => ?_, hK _ ?_⟩)
      · clear hK
        obtain ⟨q0, q1, q2, q3, q4, q5⟩ := cells6 (keepb hWQ HE7.out)
        unfold Oper.quietAt
        go_simp
      clear hK K
      simp only [Act.put, List.setIfInBounds_toArray, List.set_cons_succ, List.set_cons_zero]
      refine Go.BigFrame.wpQuiet_want (by rfl) (fun K hK => ⟨.bool true, fun WQ hWQ => ?_, hK _ ?_⟩)
      · clear hK
        unfold Oper.quietAt
        go_simp
        exact (CW1.out WQ).mono (fun e w' h => ⟨h.1, h.2 ▸ hWQ⟩)
      clear hK K
      simp only [Act.put, List.setIfInBounds_toArray, List.set_cons_succ, List.set_cons_zero]
      refine Go.BigFrame.wpQuiet_want (by rfl) (fun K hK => ⟨.bool true, fun WQ hWQ => ?_, hK _ ?_⟩)
      · clear hK
        unfold Oper.quietAt
        go_simp
      clear hK K
      simp only [Act.put, List.setIfInBounds_toArray, List.set_cons_succ, List.set_cons_zero]
      refine Go.BigFrame.wpQuiet_want (by rfl) (fun K hK => ⟨.bool true, fun WQ hWQ => ?_, hK _ ?_⟩)
      · clear hK
        unfold Oper.quietAt
        go_simp
      clear hK K
      simp only [Act.put, List.setIfInBounds_toArray, List.set_cons_succ, List.set_cons_zero]
      refine Go.BigFrame.wpQuiet_want (by rfl) (fun K hK => ⟨.pointer (some ⟨w4.heap.size, 2, none⟩), fun WQ hWQ => ?_, hK _ ?_⟩)
      · clear hK
        unfold Oper.quietAt
        go_simp
      clear hK K
      simp only [Act.put, List.setIfInBounds_toArray, List.set_cons_succ, List.set_cons_zero]
      refine Go.BigFrame.wpQuiet_want (by rfl) (fun K hK => ⟨.int .i64 N2, fun WQ hWQ => ?_, hK _ ?_⟩)
      · clear hK
        obtain ⟨q0, q1, q2⟩ := cells3 (keepb hWQ HD7.out)
        unfold Oper.quietAt
        go_simp
      clear hK K
      simp only [Act.put, List.setIfInBounds_toArray, List.set_cons_succ, List.set_cons_zero]
      refine Go.BigFrame.wpQuiet_want (by rfl) (fun K hK => ⟨.pointer (some ⟨w6.heap.size, 4, none⟩), fun WQ hWQ => ?_, hK _ ?_⟩)
      · clear hK
        unfold Oper.quietAt
        go_simp
      clear hK K
      simp only [Act.put, List.setIfInBounds_toArray, List.set_cons_succ, List.set_cons_zero]
      refine Go.BigFrame.wpQuiet_want (by rfl) (fun K hK => ⟨.pointer (some ⟨w6.heap.size, 4, none⟩), fun WQ hWQ => ?_, hK _ ?_⟩)
      · clear hK
        unfold Oper.quietAt
        go_simp
      clear hK K
      simp only [Act.put, List.setIfInBounds_toArray, List.set_cons_succ, List.set_cons_zero]
      refine Go.BigFrame.wpQuiet_want (by rfl) (fun K hK => ⟨.int .i64 L2, fun WQ hWQ => ?_, hK _ ?_⟩)
      · clear hK
        obtain ⟨q0, q1, q2, q3, q4, q5⟩ := cells6 (keepb hWQ HE7.out)
        unfold Oper.quietAt
        go_simp
      clear hK K
      simp only [Act.put, List.setIfInBounds_toArray, List.set_cons_succ, List.set_cons_zero]
      refine Go.BigFrame.wpQuiet_want (by rfl) (fun K hK => ⟨.pointer (some ⟨w6.heap.size, 4, none⟩), fun WQ hWQ => ?_, hK _ ?_⟩)
      · clear hK
        unfold Oper.quietAt
        go_simp
      clear hK K
      simp only [Act.put, List.setIfInBounds_toArray, List.set_cons_succ, List.set_cons_zero]
      refine Go.BigFrame.wpQuiet_want (by rfl) (fun K hK => ⟨.pointer (some ⟨w6.heap.size, 5, none⟩), fun WQ hWQ => ?_, hK _ ?_⟩)
      · clear hK
        unfold Oper.quietAt
        go_simp
      clear hK K
      simp only [Act.put, List.setIfInBounds_toArray, List.set_cons_succ, List.set_cons_zero]
      refine Go.BigFrame.wpQuiet_want (by rfl) (fun K hK => ⟨.int .i64 H2, fun WQ hWQ => ?_, hK _ ?_⟩)
      · clear hK
        obtain ⟨q0, q1, q2, q3, q4, q5⟩ := cells6 (keepb hWQ HE7.out)
        unfold Oper.quietAt
        go_simp
      clear hK K
      simp only [Act.put, List.setIfInBounds_toArray, List.set_cons_succ, List.set_cons_zero]
      refine Go.BigFrame.wpQuiet_want (by rfl) (fun K hK => ⟨.bool true, fun WQ hWQ => ?_, hK _ ?_⟩)
      · clear hK
        unfold Oper.quietAt
        go_simp
        exact (CW2.out WQ).mono (fun e w' h => ⟨h.1, h.2 ▸ hWQ⟩)
      clear hK K
      simp only [Act.put, List.setIfInBounds_toArray, List.set_cons_succ, List.set_cons_zero]
      refine Go.BigFrame.wpQuiet_want (by rfl) (fun K hK => ⟨.bool true, fun WQ hWQ => ?_, hK _ ?_⟩)
      · clear hK
        unfold Oper.quietAt
        go_simp
      clear hK K
      simp only [Act.put, List.setIfInBounds_toArray, List.set_cons_succ, List.set_cons_zero]
      refine Go.BigFrame.wpQuiet_want (by rfl) (fun K hK => ⟨.bool true, fun WQ hWQ => ?_, hK _ ?_⟩)
      · clear hK
        unfold Oper.quietAt
        go_simp
      clear hK K
      simp only [Act.put, List.setIfInBounds_toArray, List.set_cons_succ, List.set_cons_zero]
      refine wpQuiet_nil ?_
      intro W8 hb8
      have HB8 := Lib.hid (trans' HB7.out hb8)
      clear hb8
      go_wp2_with fail
      go_ret
      exact ⟨rfl, HB8.out⟩
    · obtain ⟨e1, e2, e3⟩ := HEQ.out
      have n1 : ∀ i, NZ i = 0 := fun i => by rw [e1]; exact if_neg h0
      have n2 : ∀ i, LZ i = 0 := fun i => by rw [e2]; exact if_neg h0
      have n3 : ∀ i, HZ i = 0 := fun i => by rw [e3]; exact if_neg h0
      have hd := HD7.out
      have he := HE7.out
      simp only [n1] at hd
      simp only [n2, n3] at he
      obtain ⟨q0, q1, q2⟩ := cells3 hd
      obtain ⟨r0, r1, r2, r3, r4, r5⟩ := cells6 he
      have hne : (c != 0) = true := by rw [bne_iff_ne]; exact h0
      clear CR CX HIN HEQ e1 e2 e3 n1 n2 n3 hd he
      have hE1 := eq_place 0 0 0 0 0 0
      have hE2 := eq_box 0 0 0 0 0 0 0 0 0 0 0 0
      have hG1 : Try.prog.eqGuardType Try.prog.depth 26 = false := by kernel_rfl
      have hG2 : Try.prog.eqGuardType Try.prog.depth 49 = false := by kernel_rfl
      go_wp2_with fail
      go_ret
      exact ⟨rfl, HB7.out⟩
end Go.Proofs.Ytodpjhhogcfodaa.Orb
