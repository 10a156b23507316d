import Derived.Test.YtodpjhhogcfodaaZb
import Derived.Test.YtodpjhhogcfodaaZc
import Derived.Test.YtodpjhhogcfodaaSr
import Derived.Test.YtodpjhhogcfodaaSx
import Derived.Test.YtodpjhhogcfodaaRr
import Derived.BigQuiet
import Derived.Deep.Quiet
import Derived.Outline
namespace Go.Proofs.Ytodpjhhogcfodaa.Orb
open Go.RowKit Lib

theorem infoFr : (Try.prog.info? 56).map (fun i => (i.zero, i.size, i.bytes)) = some (some (.agg #[.int .i64 0, .int .i64 0]), 2, 16) := by kernel_rfl
theorem eq_fracF (n : Nat) (a b c d : Int) (w : World) : (Op.equalIn (n + 2) 56 (.agg #[.int .i64 a, .int .i64 b]) (.agg #[.int .i64 c, .int .i64 d])).run Try.prog w = .ok (a == c && b == d) w := by
  have h1 : (Op.equalIn (n + 1) 3 (.int .i64 a) (.int .i64 c)).run Try.prog w = .ok (a == c) w := run_equalIn_int (P := Try.prog) w n 3 .i64 .i64 a c Try.underlying3
  have h2 : (Op.equalIn (n + 1) 3 (.int .i64 b) (.int .i64 d)).run Try.prog w = .ok (b == d) w := run_equalIn_int (P := Try.prog) w n 3 .i64 .i64 b d Try.underlying3
  rw [run_equalIn_agg (P := Try.prog) w (n + 1) 56 _ _ (by kernel_rfl) (by kernel_rfl)]
  have hf : (Try.prog.fieldsOf 56).toList = [{ name := "Num", type := 3, offset := 0, embedded := false, tag := "", pkgPath := "", byteOffset := 0 }, { name := "Den", type := 3, offset := 1, embedded := false, tag := "", pkgPath := "", byteOffset := 8 }] := by
    unfold Program.fieldsOf
    rw [Try.underlying56]
  rw [hf]
  cases hx : (a == c) <;> cases hy : (b == d) <;> rw [hx] at h1 <;> rw [hy] at h2 <;>
    simp [Op.eqFields, Sem.run_bind, go_sem, h1, h2, Try.isAgg3, Result.andThen]
/-- two speeds -/
theorem eq_speed (a b c d e f a' b' c' d' e' f' : Int) (w : World) : (Op.equalIn 10000 57 (.agg #[.int .i64 a, .int .i64 b, .int .i64 c, .int .i64 d, .int .i64 e, .int .i64 f]) (.agg #[.int .i64 a', .int .i64 b', .int .i64 c', .int .i64 d', .int .i64 e', .int .i64 f'])).run Try.prog w =
    .ok ((a == a' && b == b') && (c == c' && d == d') && (e == e' && f == f')) w := by
  obtain ⟨i0, hi, -⟩ := info_parts infoFr
  rw [run_equalIn_array (P := Try.prog) (w := w) 9999 (t := 57) (e := 56) (n := 3) (i := i0) _ _ Try.underlying57 hi]
  have hc : Try.prog.cellsOf 56 = 2 := by kernel_rfl
  have h1 := eq_fracF 9997 a b a' b' w
  have h2 := eq_fracF 9997 c d c' d' w
  have h3 := eq_fracF 9997 e f e' f' w
  rw [hc, show List.range 3 = [0, 1, 2] from rfl]
  cases hx : (a == a' && b == b') <;> cases hy : (c == c' && d == d') <;> cases hz : (e == e' && f == f') <;> rw [hx] at h1 <;> rw [hy] at h2 <;> rw [hz] at h3 <;>
    simp [Op.eqItems, Sem.run_bind, go_sem, h1, h2, h3, Try.isAgg56, Result.andThen]

set_option maxRecDepth 100000 in
set_option maxHeartbeats 8000000 in
theorem checks_any (v : Value) (nm : ByteArray) (bend : Int) (L : List St) (hI : ∀ k, (gt L k).t ≤ 9223372036854775807) (arc : Int) (w : World) (hv : OV w v nm bend L) :
    Calls Try.prog 5 #[v, .int .i64 arc] w fun e w' => e = .returned (.bool true) ∧ Below w.heap.size w w' := by
  have CA := Lib.hid awake_any
  have CF := Lib.hid (fun W (h : Below w.heap.size w W) => Few_any v nm bend L W (hv.next h))
  obtain ⟨p, cap, hvf, -, -, -⟩ := hv.form
  cases hf : fewB nm.size L.length with
  | false =>
    rw [hf] at CF
    subst hvf
    clear hv hf hI
    generalize L.length = n at *
    go_enter Try.func5, Try.ntmps5
    go_wp2_with fail
    obtain ⟨w0, hW⟩ : ∃ w0, w0 = w.alloc (.cells #[.string nm, .int .i64 bend, .slice p n cap] 24) := ⟨_, rfl⟩
    rw [← hW]
    have HB0 := Lib.hid (show Below w.heap.size w w0 by rw [hW]; exact new_below _ _)
    have HP0 := Lib.hid (show w0.heap[w.heap.size]? = some (.cells #[.string nm, .int .i64 bend, .slice p n cap] 24 (0, 0)) by rw [hW]; exact heap_alloc_new _ _)
    clear hW
    refine (CA.out _).mono ?_
    rintro e w1 ⟨rfl, hb⟩
    have HB1 := Lib.hid (trans' HB0.out hb)
    have HP1 := Lib.hid (keepb hb HP0.out)
    clear hb HB0 HP0
    obtain ⟨k0, k1, k2⟩ := cells3 HP1.out
    go_wp2_with fail
    refine (CF.out _ HB1.out).mono ?_
    rintro e w2 ⟨rfl, hb⟩
    have HB2 := Lib.hid (trans' HB1.out hb)
    have HP2 := Lib.hid (keepb hb HP1.out)
    clear hb HB1 HP1
    go_wp2_with fail
    go_ret
    exact ⟨rfl, HB2.out⟩
  | true =>
    rw [hf] at CF
    obtain ⟨hs1, hn1⟩ := fewB_true hf
    have CY := Lib.hid (fun W (h : Below w.heap.size w W) => Copy_any v nm bend L (by omega) W (hv.next h))
    have CK := Lib.hid (fun v2 W (h : OV W v2 nm bend L) => CheckOrbit_any v2 nm (by omega) bend L hI W h)
    have CS := Lib.hid (fun v2 W (h : OV W v2 nm bend L) => SpeedOf_any v2 nm (by omega) bend L (by omega) hI arc W h)
    have CR := Lib.hid (fun W (h : Below w.heap.size w W) => refCheckOrbit_any v nm (by omega) bend L W (hv.next h))
    have CW := Lib.hid (fun W => Within_any arc 0 ((L.length : Int) - 2) W)
    have CSR : Hid ((orbE (nameE nm) bend L).2 = 0 → ∀ k : Nat, k + 1 < L.length → ∀ W, Below w.heap.size w W → Calls Try.prog 36 #[v, .int .i64 k] W fun e w' => e = .returned (.agg #[.int .i64 (spN (gt L k) (gt L (k + 1)) 0), .int .i64 (spD (gt L k) (gt L (k + 1)) 0), .int .i64 (spN (gt L k) (gt L (k + 1)) 1), .int .i64 (spD (gt L k) (gt L (k + 1)) 1), .int .i64 (spN (gt L k) (gt L (k + 1)) 2), .int .i64 (spD (gt L k) (gt L (k + 1)) 2)]) ∧ Below W.heap.size W w') := fun h1 k hk W hb => refSpeedOf_any v nm bend L (Rt.of h1).2 k hk W (hv.next hb)
    have HN2 := Lib.hid (fun (h : (orbE (nameE nm) bend L).2 = 0) => (Rt.of h).2.n0)
    have HCC := Lib.hid (show ((orbE (nameE nm) bend L).2 ≠ 0 ∧ asE (nameE nm) bend L arc = (orbE (nameE nm) bend L).2) ∨ ((orbE (nameE nm) bend L).2 = 0 ∧ decide (0 ≤ arc ∧ arc ≤ (L.length : Int) - 2) = false ∧ asE (nameE nm) bend L arc = 6) ∨ ((orbE (nameE nm) bend L).2 = 0 ∧ decide (0 ≤ arc ∧ arc ≤ (L.length : Int) - 2) = true ∧ asE (nameE nm) bend L arc = 0) by
      unfold asE arcE
      by_cases h : (orbE (nameE nm) bend L).2 = 0
      · right
        by_cases h2 : 0 ≤ arc ∧ arc ≤ (L.length : Int) - 2
        · right; exact ⟨h, decide_eq_true h2, by rw [h, if_pos ⟨h2.1, by omega⟩]; rfl⟩
        · left; exact ⟨h, decide_eq_false h2, by rw [h, if_neg (by omega)]; rfl⟩
      · left; exact ⟨h, by simp [firstE, h]⟩)
    subst hvf
    have HNS := Lib.hid hn1
    clear hv hI hf hs1 hn1
    generalize asE (nameE nm) bend L arc = E at *
    generalize orbE (nameE nm) bend L = R at *
    obtain ⟨r1, r2⟩ := R
    dsimp only at *
    obtain ⟨P, hP⟩ : ∃ P : Nat → Int, P = spN (gt L arc.toNat) (gt L (arc.toNat + 1)) := ⟨_, rfl⟩
    obtain ⟨Q, hQ⟩ : ∃ Q : Nat → Int, Q = spD (gt L arc.toNat) (gt L (arc.toNat + 1)) := ⟨_, rfl⟩
    have CSK := Lib.hid (fun h => CSR.out h arc.toNat)
    rw [← hP, ← hQ] at CS CSK
    clear hP hQ CSR
    obtain ⟨PZ, hPZ⟩ : ∃ PZ : Nat → Int, PZ = fun i => zif E (P i) := ⟨_, rfl⟩
    obtain ⟨QZ, hQZ⟩ : ∃ QZ : Nat → Int, QZ = fun i => zif E (Q i) := ⟨_, rfl⟩
    have CS5 : Hid (∀ v2 W, OV W v2 nm bend L → Calls Try.prog 34 #[v2, .int .i64 arc] W fun e w' => e = .returned (.tuple #[.agg #[.int .i64 (PZ 0), .int .i64 (QZ 0), .int .i64 (PZ 1), .int .i64 (QZ 1), .int .i64 (PZ 2), .int .i64 (QZ 2)], .int .i64 E]) ∧ Below W.heap.size W w') := fun v2 W h => by rw [hPZ, hQZ]; exact CS.out v2 W h
    have HPZ := Lib.hid (And.intro hPZ hQZ)
    clear hPZ hQZ
    generalize L.length = n at *
    go_enter Try.func5, Try.ntmps5
    go_wp2_with fail
    obtain ⟨w0, hW⟩ : ∃ w0, w0 = w.alloc (.cells #[.string nm, .int .i64 bend, .slice p n cap] 24) := ⟨_, rfl⟩
    rw [← hW]
    have HB0 := Lib.hid (show Below w.heap.size w w0 by rw [hW]; exact new_below _ _)
    have HP0 := Lib.hid (show w0.heap[w.heap.size]? = some (.cells #[.string nm, .int .i64 bend, .slice p n cap] 24 (0, 0)) by rw [hW]; exact heap_alloc_new _ _)
    clear hW
    refine (CA.out _).mono ?_
    rintro e w1 ⟨rfl, hb⟩
    have HB1 := Lib.hid (trans' HB0.out hb)
    have HP1 := Lib.hid (keepb hb HP0.out)
    clear hb HB0 HP0
    obtain ⟨k0, k1, k2⟩ := cells3 HP1.out
    go_wp2_with fail
    refine (CF.out _ HB1.out).mono ?_
    rintro e w2 ⟨rfl, hb⟩
    have HB2 := Lib.hid (trans' HB1.out hb)
    have HP2 := Lib.hid (keepb hb HP1.out)
    clear hb HB1 HP1
    clear k0 k1 k2 CA CF
    obtain ⟨k0, k1, k2⟩ := cells3 HP2.out
    go_wp2_with fail
    refine (CY.out _ HB2.out).mono ?_
    rintro e w3 ⟨v3, rfl, hb, hv3⟩
    have HB3 := Lib.hid (trans' HB2.out hb)
    have HP3 := Lib.hid (keepb hb HP2.out)
    clear hb HB2 HP2
    clear k0 k1 k2
    go_wp2_with fail
    refine (CK.out _ _ hv3).mono ?_
    rintro e w4 ⟨rfl, hb⟩
    have HB4 := Lib.hid (trans' HB3.out hb)
    have HP4 := Lib.hid (keepb hb HP3.out)
    clear hb HB3 HP3
    clear hv3 CK
    obtain ⟨k0, k1, k2⟩ := cells3 HP4.out
    go_wp2_with fail
    refine (CY.out _ HB4.out).mono ?_
    rintro e w5 ⟨v5, rfl, hb, hv5⟩
    have HB5 := Lib.hid (trans' HB4.out hb)
    have HP5 := Lib.hid (keepb hb HP4.out)
    clear hb HB4 HP4
    clear k0 k1 k2 CY
    go_wp2_with fail
    refine (CS5.out _ _ hv5).mono ?_
    rintro e w6 ⟨rfl, hb⟩
    have HB6 := Lib.hid (trans' HB5.out hb)
    have HP6 := Lib.hid (keepb hb HP5.out)
    clear hb hv5 HB5 HP5
    go_upto_region 7 with fail
    obtain ⟨w7, hW⟩ : ∃ w7, w7 = w6.alloc (.cells #[.int .i64 (PZ 0), .int .i64 (QZ 0), .int .i64 (PZ 1), .int .i64 (QZ 1), .int .i64 (PZ 2), .int .i64 (QZ 2)] 57) := ⟨_, rfl⟩
    rw [← hW]
    have hb := new_below w6 (.cells #[.int .i64 (PZ 0), .int .i64 (QZ 0), .int .i64 (PZ 1), .int .i64 (QZ 1), .int .i64 (PZ 2), .int .i64 (QZ 2)] 57)
    rw [← hW] at hb
    have HV7 := Lib.hid (show w7.heap[w6.heap.size]? = some (.cells #[.int .i64 (PZ 0), .int .i64 (QZ 0), .int .i64 (PZ 1), .int .i64 (QZ 1), .int .i64 (PZ 2), .int .i64 (QZ 2)] 57 (0, 0)) by rw [hW]; exact heap_alloc_new _ _)
    have HB7 := Lib.hid (trans' HB6.out hb)
    have HP7 := Lib.hid (keepb hb HP6.out)
    clear hW hb HB6 HP6
    obtain ⟨k0, k1, k2⟩ := cells3 HP7.out
    go_wp2_with fail
    refine (CR.out _ HB7.out).mono ?_
    rintro e w8 ⟨rfl, hb⟩
    have HB8 := Lib.hid (trans' HB7.out hb)
    have HP8 := Lib.hid (keepb hb HP7.out)
    have HV8 := Lib.hid (keepb hb HV7.out)
    clear hb HB7 HP7 HV7
    clear k0 k1 k2 CR
    rcases HCC.out with ⟨h1, h2⟩ | ⟨h1, h2, h3⟩ | ⟨h1, h2, h3⟩
    · obtain ⟨d1, d2⟩ := HPZ.out
      have hE0 : E ≠ 0 := by rw [h2]; exact h1
      have z1 : ∀ i, PZ i = 0 := fun i => by rw [d1]; exact if_neg hE0
      have z2 : ∀ i, QZ i = 0 := fun i => by rw [d2]; exact if_neg hE0
      have hV := HV8.out
      simp only [z1, z2] at hV
      obtain ⟨q0, q1, q2, q3, q4, q5⟩ := cells6 hV
      have hne : (r2 == 0) = false := by rw [beq_eq_false_iff_ne]; exact h1
      have hne2 : (r2 != 0) = true := by rw [bne_iff_ne]; exact h1
      have hE := eq_speed 0 0 0 0 0 0 0 0 0 0 0 0
      have hG : Try.prog.eqGuardType Try.prog.depth 57 = false := by kernel_rfl
      clear HCC HPZ CSK CW HN2 d1 d2 z1 z2 hV h1 hE0 HNS
      subst h2
      go_wp2_with fail
      go_ret
      exact ⟨rfl, HB8.out⟩
    · obtain ⟨d1, d2⟩ := HPZ.out
      have hE0 : E ≠ 0 := by rw [h3]; decide
      have z1 : ∀ i, PZ i = 0 := fun i => by rw [d1]; exact if_neg hE0
      have z2 : ∀ i, QZ i = 0 := fun i => by rw [d2]; exact if_neg hE0
      have hV := HV8.out
      simp only [z1, z2] at hV
      have HV9 := Lib.hid hV
      have hn2 := HN2.out h1
      have hns := HNS.out
      have hwl : IntKind.i64.wrap ((n : Int) - 2) = (n : Int) - 2 := IntWalk.i64_in _ (by omega)
      have hE := eq_speed 0 0 0 0 0 0 0 0 0 0 0 0
      have hG : Try.prog.eqGuardType Try.prog.depth 57 = false := by kernel_rfl
      rw [h2] at CW
      clear HCC HPZ CSK HN2 d1 d2 z1 z2 hV hE0 h2 HNS
      subst h1 h3
      obtain ⟨k0, k1, k2⟩ := cells3 HP8.out
      go_wp2_with fail
      refine (CW.out _).mono ?_
      rintro e w9 ⟨rfl, rfl⟩
      obtain ⟨q0, q1, q2, q3, q4, q5⟩ := cells6 HV9.out
      go_wp2_with fail
      go_ret
      exact ⟨rfl, HB8.out⟩
    · obtain ⟨d1, d2⟩ := HPZ.out
      have z1 : PZ = P := by rw [d1]; funext i; exact if_pos h3
      have z2 : QZ = Q := by rw [d2]; funext i; exact if_pos h3
      have hn2 := HN2.out h1
      have hns := HNS.out
      have hwl : IntKind.i64.wrap ((n : Int) - 2) = (n : Int) - 2 := IntWalk.i64_in _ (by omega)
      have hin := of_decide_eq_true h2
      obtain ⟨k, hk⟩ : ∃ k : Nat, arc = (k : Int) := ⟨arc.toNat, by omega⟩
      have CS1 := Lib.hid (CSK.out h1 (by omega))
      rw [h2] at CW
      clear HCC HPZ CSK HN2 d1 d2 h2 HNS CS5 hin
      subst hk h1 h3 z1 z2
      simp only [Int.toNat_natCast] at CS1
      obtain ⟨k0, k1, k2⟩ := cells3 HP8.out
      go_wp2_with fail
      refine (CW.out _).mono ?_
      rintro e w9 ⟨rfl, rfl⟩
      have HE := Lib.hid (eq_speed (PZ 0) (QZ 0) (PZ 1) (QZ 1) (PZ 2) (QZ 2) (PZ 0) (QZ 0) (PZ 1) (QZ 1) (PZ 2) (QZ 2))
      have HG := Lib.hid (show Try.prog.eqGuardType Try.prog.depth 57 = false by kernel_rfl)
      clear k0 k1 k2 hwl hns hn2 CW
      go_upto_region 14 with fail
      refine wp_region_quiet (C := fun W' => Below w8.heap.size w8 W') (by kernel_rfl) (by kernel_rfl) (Below.refl _ w8).drew ?_
      refine Go.BigFrame.wpQuiet_want (by rfl) (fun K hK => ⟨.int .i64 0, fun WQ hWQ => ?_, hK _ ?_⟩)
      · clear hK
        unfold Oper.quietAt
        go_simp
      clear hK K
      simp only [Act.put, List.setIfInBounds_toArray, List.set_cons_succ, List.set_cons_zero]
      refine Go.BigFrame.wpQuiet_want (by rfl) (fun K hK => ⟨.bool true, fun WQ hWQ => ?_, hK _ ?_⟩)
      · clear hK
        unfold Oper.quietAt
        go_simp
      clear hK K
      simp only [Act.put, List.setIfInBounds_toArray, List.set_cons_succ, List.set_cons_zero]
      refine Go.BigFrame.wpQuiet_want (by rfl) (fun K hK => ⟨.bool true, fun WQ hWQ => ?_, hK _ ?_⟩)
      · clear hK
        unfold Oper.quietAt
        go_simp
      clear hK K
      simp only [Act.put, List.setIfInBounds_toArray, List.set_cons_succ, List.set_cons_zero]
      refine Go.BigFrame.wpQuiet_want (by rfl) (fun K hK => ⟨.agg #[.int .i64 (PZ 0), .int .i64 (QZ 0), .int .i64 (PZ 1), .int .i64 (QZ 1), .int .i64 (PZ 2), .int .i64 (QZ 2)], fun WQ hWQ => ?_, hK _ ?_⟩)
      · clear hK
        obtain ⟨q0, q1, q2, q3, q4, q5⟩ := cells6 (keepb hWQ HV8.out)
        unfold Oper.quietAt
        go_simp
      clear hK K
      simp only [Act.put, List.setIfInBounds_toArray, List.set_cons_succ, List.set_cons_zero]
      refine Go.BigFrame.wpQuiet_want (by rfl) (fun K hK => ⟨.agg #[.string nm, .int .i64 bend, .slice p n cap], fun WQ hWQ => ?_, hK _ ?_⟩)
      · clear hK
        obtain ⟨q0, q1, q2⟩ := cells3 (keepb hWQ HP8.out)
        unfold Oper.quietAt
        go_simp
      clear hK K
      simp only [Act.put, List.setIfInBounds_toArray, List.set_cons_succ, List.set_cons_zero]
      refine Go.BigFrame.wpQuiet_want (by rfl) (fun K hK => ⟨.int .i64 (k : Int), fun WQ hWQ => ?_, hK _ ?_⟩)
      · clear hK
        unfold Oper.quietAt
        go_simp
      clear hK K
      simp only [Act.put, List.setIfInBounds_toArray, List.set_cons_succ, List.set_cons_zero]
      refine Go.BigFrame.wpQuiet_want (by rfl) (fun K hK => ⟨.agg #[.int .i64 (PZ 0), .int .i64 (QZ 0), .int .i64 (PZ 1), .int .i64 (QZ 1), .int .i64 (PZ 2), .int .i64 (QZ 2)], fun WQ hWQ => ?_, hK _ ?_⟩)
      · clear hK
        unfold Oper.quietAt
        go_simp
        exact (CS1.out WQ (trans' HB8.out hWQ)).mono (fun e w' h => ⟨h.1, andThen hWQ h.2⟩)
      clear hK K
      simp only [Act.put, List.setIfInBounds_toArray, List.set_cons_succ, List.set_cons_zero]
      refine Go.BigFrame.wpQuiet_want (by rfl) (fun K hK => ⟨.bool true, fun WQ hWQ => ?_, hK _ ?_⟩)
      · clear hK
        have hE := HE.out
        have hG := HG.out
        unfold Oper.quietAt
        go_simp
      clear hK K
      simp only [Act.put, List.setIfInBounds_toArray, List.set_cons_succ, List.set_cons_zero]
      refine Go.BigFrame.wpQuiet_want (by rfl) (fun K hK => ⟨.bool true, fun WQ hWQ => ?_, hK _ ?_⟩)
      · clear hK
        unfold Oper.quietAt
        go_simp
      clear hK K
      simp only [Act.put, List.setIfInBounds_toArray, List.set_cons_succ, List.set_cons_zero]
      refine Go.BigFrame.wpQuiet_want (by rfl) (fun K hK => ⟨.bool true, fun WQ hWQ => ?_, hK _ ?_⟩)
      · clear hK
        unfold Oper.quietAt
        go_simp
      clear hK K
      simp only [Act.put, List.setIfInBounds_toArray, List.set_cons_succ, List.set_cons_zero]
      refine wpQuiet_nil ?_
      intro W9 hb8
      have HB9 := Lib.hid (trans' HB8.out hb8)
      clear hb8
      go_wp2_with fail
      go_ret
      exact ⟨rfl, HB9.out⟩
end Go.Proofs.Ytodpjhhogcfodaa.Orb
