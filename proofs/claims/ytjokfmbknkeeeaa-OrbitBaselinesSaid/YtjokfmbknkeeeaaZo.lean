import Derived.Test.YtjokfmbknkeeeaaZm
import Derived.Test.YtjokfmbknkeeeaaYz
import Derived.Test.YtjokfmbknkeeeaaYb
import Derived.Test.YtjokfmbknkeeeaaYi
import Derived.Test.YtjokfmbknkeeeaaSr
import Derived.Test.YtjokfmbknkeeeaaVb
import Derived.Test.YtjokfmbknkeeeaaVg
import Derived.Test.YtjokfmbknkeeeaaZa
import Derived.Test.YtjokfmbknkeeeaaRq
import Derived.Outline
namespace Go.Proofs.Ytjokfmbknkeeeaa.Orb
open Go.RowKit Lib

theorem tick_cases (L : List St) (t : Int) : tickE L t = 0 ∨ tickE L t = 2 := by
  unfold tickE
  split
  · exact .inl rfl
  · exact .inr rfl
theorem pl_cases (x y z : Int) : placeE x y z = 0 ∨ placeE x y z = 2 := by
  have r : ∀ n lo hi, rangeE n lo hi = 0 ∨ rangeE n lo hi = 2 := fun n lo hi => by
    unfold rangeE
    split
    · exact .inl rfl
    · exact .inr rfl
  unfold placeE
  rcases r x (-100000000) 100000000 with h | h <;> rcases r y (-100000000) 100000000 with h2 | h2 <;> rcases r z (-100000000) 100000000 with h3 | h3 <;> rw [h, h2, h3] <;> decide
theorem tick_has {L : List St} {t : Int} (h : 0 < L.length) (h1 : fst L ≤ t) (h2 : t ≤ lst L) : tickE L t = 0 := by
  unfold tickE hasB
  simp [h, h1, h2]
section
variable {n1 b1 : Int} {L1 : List St} {n2 b2 : Int} {L2 : List St} {f s x y z : Int} (h1 : (orbE n1 b1 L1).2 = 0) (h2 : (orbE n2 b2 L2).2 = 0)
include h1 h2
theorem bsE_bad (hn : ¬ ((fst L1 ≤ f ∧ f ≤ lst L1) ∧ (fst L2 ≤ s ∧ s ≤ lst L2) ∧ placeE x y z = 0)) : bsE n1 b1 L1 n2 b2 L2 f s x y z = 2 := by
  have hE : bsE1 n1 b1 L1 n2 b2 L2 f s x y z ≠ 0 := fun h0 => by
    obtain ⟨-, -, a, b, c⟩ := bsE1_zero h0
    exact hn ⟨a, b, c⟩
  unfold bsE
  rw [if_neg hE]
  unfold bsE1 at hE ⊢
  rw [h1, h2] at hE ⊢
  rcases tick_cases L1 f with a | a <;> rcases tick_cases L2 s with b | b <;> rcases pl_cases x y z with c | c <;> rw [a, b, c] at hE ⊢ <;> first | rfl | exact absurd rfl hE
theorem bsE_good (ha : fst L1 ≤ f ∧ f ≤ lst L1) (hb : fst L2 ≤ s ∧ s ≤ lst L2) (hc : placeE x y z = 0) : bsE1 n1 b1 L1 n2 b2 L2 f s x y z = 0 ∧ bsE n1 b1 L1 n2 b2 L2 f s x y z = bsE2 (dvC L1 L2 f s) (svC L1 f x y z) := by
  have hE : bsE1 n1 b1 L1 n2 b2 L2 f s x y z = 0 := by
    have m1 := (Rt.of h1).2.n0
    have m2 := (Rt.of h2).2.n0
    unfold bsE1
    rw [h1, h2, tick_has (by omega) ha.1 ha.2, tick_has (by omega) hb.1 hb.2, hc]
    rfl
  exact ⟨hE, by unfold bsE; rw [if_pos hE]⟩
end
theorem big_one {N : Nat → Int} (s : Nat → Int) {k : Nat} (hk : k < 3) (h : 1000000 < (N k).natAbs) : bsE2 N s = 8 := by
  have : baseE (N 0) (N 1) (N 2) = 8 := by
    unfold baseE
    refine if_neg fun ⟨a, b, c⟩ => ?_
    rw [rangeE_zero] at a b c
    match k, hk with
    | 0, _ => omega
    | 1, _ => omega
    | 2, _ => omega
  unfold bsE2
  rw [this]
  rfl
theorem big_none {N : Nat → Int} {s : Nat → Int} (h : ∀ k, k < 3 → (N k).natAbs ≤ 1000000) : bsE2 N s = sightE (s 0) (s 1) (s 2) := by
  have : baseE (N 0) (N 1) (N 2) = 0 := by
    have a := h 0 (by decide)
    have b := h 1 (by decide)
    have c := h 2 (by decide)
    unfold baseE
    refine if_pos ⟨?_, ?_, ?_⟩ <;> rw [rangeE_zero] <;> omega
  unfold bsE2
  rw [this]
  unfold sightE
  split <;> rfl
theorem infoInt : (Try.prog.info? 3).map (fun i => (i.zero, i.size, i.bytes)) = some (some (.int .i64 0), 1, 8) := by kernel_rfl
theorem eq_tri (a b c a' b' c' : Int) (w : World) : (Op.equalIn 10000 64 (.agg #[.int .i64 a, .int .i64 b, .int .i64 c]) (.agg #[.int .i64 a', .int .i64 b', .int .i64 c'])).run Try.prog w = .ok (a == a' && (b == b' && c == c')) w := by
  obtain ⟨i0, hi, -⟩ := info_parts infoInt
  rw [run_equalIn_array (P := Try.prog) (w := w) 9999 (t := 64) (e := 3) (n := 3) (i := i0) _ _ Try.underlying64 hi]
  have hc : Try.prog.cellsOf 3 = 1 := by kernel_rfl
  have h1 : (Op.equalIn 9999 3 (.int .i64 a) (.int .i64 a')).run Try.prog w = .ok (a == a') w := run_equalIn_int (P := Try.prog) w 9998 3 .i64 .i64 a a' Try.underlying3
  have h2 : (Op.equalIn 9999 3 (.int .i64 b) (.int .i64 b')).run Try.prog w = .ok (b == b') w := run_equalIn_int (P := Try.prog) w 9998 3 .i64 .i64 b b' Try.underlying3
  have h3 : (Op.equalIn 9999 3 (.int .i64 c) (.int .i64 c')).run Try.prog w = .ok (c == c') w := run_equalIn_int (P := Try.prog) w 9998 3 .i64 .i64 c c' Try.underlying3
  rw [hc, show List.range 3 = [0, 1, 2] from rfl]
  cases hx : (a == a') <;> cases hy : (b == b') <;> cases hz : (c == c') <;> rw [hx] at h1 <;> rw [hy] at h2 <;> rw [hz] at h3 <;>
    simp [Op.eqItems, Sem.run_bind, go_sem, h1, h2, h3, Try.isAgg3, Result.andThen]

set_option maxRecDepth 100000 in
set_option maxHeartbeats 8000000 in
/-- THE REFERENCE'S ERROR OF A BASELINE -/
theorem BaseErr_any (v1 v2 : Value) (n1 n2 : ByteArray) (b1 b2 : Int) (L1 L2 : List St) (f s x y z : Int) (w : World) (hv1 : OV w v1 n1 b1 L1) (hv2 : OV w v2 n2 b2 L2) (h1 : (orbE (nameE n1) b1 L1).2 = 0) (h2 : (orbE (nameE n2) b2 L2).2 = 0) :
    Calls Try.prog 14 #[v1, v2, .agg #[.int .i64 f, .int .i64 s, .int .i64 x, .int .i64 y, .int .i64 z]] w fun e w' => e = .returned (.int .i64 (bsE (nameE n1) b1 L1 (nameE n2) b2 L2 f s x y z)) ∧ Below w.heap.size w w' := by
  have hR1 := (Rt.of h1).2
  have hR2 := (Rt.of h2).2
  have m1 := hR1.n0
  have m2 := hR1.n1
  have m3 := hR2.n0
  have m4 := hR2.n1
  have CH1 := Lib.hid (fun W (h : Below w.heap.size w W) => Has_any v1 n1 b1 L1 (by omega) (by omega) f W (hv1.next h))
  have CH2 := Lib.hid (fun W (h : Below w.heap.size w W) => Has_any v2 n2 b2 L2 (by omega) (by omega) s W (hv2.next h))
  have CP := Lib.hid (fun W => IsPlace_any x y z W)
  have CC := Lib.hid (fun W => refCoordinates_any x y z W)
  have HBAD := Lib.hid (fun hn => bsE_bad (f := f) (s := s) (x := x) (y := y) (z := z) h1 h2 hn)
  have HOK : Hid ((fst L1 ≤ f ∧ f ≤ lst L1) → (fst L2 ≤ s ∧ s ≤ lst L2) → placeE x y z = 0 → bsE (nameE n1) b1 L1 (nameE n2) b2 L2 f s x y z = bsE2 (dvC L1 L2 f s) (svC L1 f x y z) ∧
      (∀ W, Below w.heap.size w W → Calls Try.prog 62 #[v1, .int .i64 f] W fun e w' => e = .returned (.agg #[.int .i64 (nomC L1 f 0), .int .i64 (nomC L1 f 1), .int .i64 (nomC L1 f 2)]) ∧ Below W.heap.size W w') ∧
      (∀ W, Below w.heap.size w W → Calls Try.prog 62 #[v2, .int .i64 s] W fun e w' => e = .returned (.agg #[.int .i64 (nomC L2 s 0), .int .i64 (nomC L2 s 1), .int .i64 (nomC L2 s 2)]) ∧ Below W.heap.size W w') ∧
      (∀ W : World, Calls Try.prog 63 #[.agg #[.int .i64 (nomC L2 s 0), .int .i64 (nomC L2 s 1), .int .i64 (nomC L2 s 2)], .agg #[.int .i64 (nomC L1 f 0), .int .i64 (nomC L1 f 1), .int .i64 (nomC L1 f 2)]] W fun e w' => e = .returned (.agg #[.int .i64 (dvC L1 L2 f s 0), .int .i64 (dvC L1 L2 f s 1), .int .i64 (dvC L1 L2 f s 2)]) ∧ Below W.heap.size W w') ∧
      (∀ k, -1000000000 ≤ dvC L1 L2 f s k ∧ dvC L1 L2 f s k ≤ 1000000000)) := by
    intro ha hb hp
    have q := nom_bd hR1 ha.1 ha.2
    have r := nom_bd hR2 hb.1 hb.2
    have q0 := q 0
    have q1 := q 1
    have q2 := q 2
    have r0 := r 0
    have r1 := r 1
    have r2 := r 2
    exact ⟨(bsE_good h1 h2 ha hb hp).2, fun W h => refNominal_any v1 n1 b1 L1 hR1 f ha.1 ha.2 W (hv1.next h), fun W h => refNominal_any v2 n2 b2 L2 hR2 s hb.1 hb.2 W (hv2.next h),
      fun W => refLess_any (nomC L2 s 0) (nomC L2 s 1) (nomC L2 s 2) (nomC L1 f 0) (nomC L1 f 1) (nomC L1 f 2) (by omega) (by omega) (by omega) (by omega) (by omega) (by omega) W,
      fun k => by have := q k; have := r k; unfold dvC; omega⟩
  have HN1 := Lib.hid (fun k (hk : k < 3) h => big_one (N := dvC L1 L2 f s) (svC L1 f x y z) (k := k) hk h)
  have HN0 := Lib.hid (fun h => big_none (N := dvC L1 L2 f s) (s := svC L1 f x y z) h)
  have CZ := Lib.hid (fun n (hn : -1000000000000 ≤ n) (hn2 : n ≤ 1000000000000) W => refSize_any n hn hn2 W)
  have hE1 := eq_tri x y z (nomC L1 f 0) (nomC L1 f 1) (nomC L1 f 2)
  have HEQ : Hid ((x == nomC L1 f 0 && (y == nomC L1 f 1 && z == nomC L1 f 2)) = decide (sightE (svC L1 f x y z 0) (svC L1 f x y z 1) (svC L1 f x y z 2) = 11) ∧ (sightE (svC L1 f x y z 0) (svC L1 f x y z 1) (svC L1 f x y z 2) = 11 ∨ sightE (svC L1 f x y z 0) (svC L1 f x y z 1) (svC L1 f x y z 2) = 0)) := by
    unfold Hid
    have e0 : svC L1 f x y z 0 = x - nomC L1 f 0 := rfl
    have e1 : svC L1 f x y z 1 = y - nomC L1 f 1 := rfl
    have e2 : svC L1 f x y z 2 = z - nomC L1 f 2 := rfl
    rw [e0, e1, e2]
    unfold sightE
    by_cases c : x - nomC L1 f 0 = 0 ∧ y - nomC L1 f 1 = 0 ∧ z - nomC L1 f 2 = 0
    · rw [if_pos c]
      refine ⟨?_, .inl rfl⟩
      have a0 : x = nomC L1 f 0 := by omega
      have a1 : y = nomC L1 f 1 := by omega
      have a2 : z = nomC L1 f 2 := by omega
      rw [← a0, ← a1, ← a2]
      simp
    · rw [if_neg c]
      refine ⟨?_, .inr rfl⟩
      simp only [Int.sub_eq_zero] at c
      simp
      exact fun a b => fun d => c ⟨a, b, d⟩
  have HPB := Lib.hid (placeB_iff x y z)
  obtain ⟨sp1, cap1, hf1, -, -, -⟩ := hv1.form
  obtain ⟨sp2, cap2, hf2, -, -, -⟩ := hv2.form
  clear hv1 hv2 h1 h2 hR1 hR2 m1 m2 m3 m4
  subst hf1
  subst hf2
  generalize bsE (nameE n1) b1 L1 (nameE n2) b2 L2 f s x y z = E at *
  generalize bsE2 (dvC L1 L2 f s) (svC L1 f x y z) = E2 at *
  generalize sightE (svC L1 f x y z 0) (svC L1 f x y z 1) (svC L1 f x y z 2) = g2 at *
  generalize hdv : dvC L1 L2 f s = dv at *
  generalize nomC L1 f 0 = p0 at *
  generalize nomC L1 f 1 = p1 at *
  generalize nomC L1 f 2 = p2 at *
  generalize nomC L2 s 0 = q0 at *
  generalize nomC L2 s 1 = q1 at *
  generalize nomC L2 s 2 = q2 at *
  generalize L1.length = m1 at *
  generalize L2.length = m2 at *
  generalize hca : decide (fst L1 ≤ f ∧ f ≤ lst L1) = c1 at *
  generalize hcb : decide (fst L2 ≤ s ∧ s ≤ lst L2) = c2 at *
  generalize hcc : placeB x y z = c3 at *
  have HCA := Lib.hid hca
  have HCB := Lib.hid hcb
  clear hca hcb hcc hdv
  go_enter Try.func14, Try.ntmps14
  go_wp2_with fail
  obtain ⟨W0, hW0⟩ : ∃ W0, W0 = ((w.alloc (.cells #[.string n1, .int .i64 b1, .slice sp1 m1 cap1] 24)).alloc (.cells #[.string n2, .int .i64 b2, .slice sp2 m2 cap2] 24)).alloc (.cells #[.int .i64 f, .int .i64 s, .int .i64 x, .int .i64 y, .int .i64 z] 30) := ⟨_, rfl⟩
  rw [← hW0]
  have HB0 := Lib.hid (show Below w.heap.size w W0 by rw [hW0]; (repeat (first | with_reducible exact Below.refl _ _ | with_reducible refine alloc1 ?_ _ | with_reducible refine Below.drew ?_ | with_reducible refine drewN1 ?_ _ | with_reducible refine setC ?_ (by omega) _)))
  have HV0 := Lib.hid (show W0.heap[w.heap.size]? = some (.cells #[.string n1, .int .i64 b1, .slice sp1 m1 cap1] 24 (0, 0)) by rw [hW0]; (repeat (first | ((with_reducible refine hnew ?_); (simp; done)) | with_reducible refine hdrew ?_ | with_reducible refine hold ?_)))
  have HU0 := Lib.hid (show W0.heap[w.heap.size + 1]? = some (.cells #[.string n2, .int .i64 b2, .slice sp2 m2 cap2] 24 (0, 0)) by rw [hW0]; (repeat (first | ((with_reducible refine hnew ?_); (simp; done)) | with_reducible refine hdrew ?_ | with_reducible refine hold ?_)))
  have HX0 := Lib.hid (show W0.heap[w.heap.size + 1 + 1]? = some (.cells #[.int .i64 f, .int .i64 s, .int .i64 x, .int .i64 y, .int .i64 z] 30 (0, 0)) by rw [hW0]; (repeat (first | ((with_reducible refine hnew ?_); (simp; done)) | with_reducible refine hdrew ?_ | with_reducible refine hold ?_)))
  clear hW0
  refine (CH1.out _ HB0.out).mono ?_
  rintro e w1 ⟨rfl, hb⟩
  have HB1 := Lib.hid (trans' HB0.out hb)
  have HV1 := Lib.hid (keepb hb HV0.out)
  have HU1 := Lib.hid (keepb hb HU0.out)
  have HX1 := Lib.hid (keepb hb HX0.out)
  clear hb HB0 HV0 HU0 HX0
  cases c1 with
  | false =>
    obtain rfl := HBAD.out fun h => by have := of_decide_eq_false HCA.out; exact this h.1
    go_wp2_with fail
    go_ret
    exact ⟨rfl, HB1.out⟩
  | true =>
    obtain ⟨x0, x1, x2, x3, x4⟩ := cells5 HX1.out
    obtain ⟨l0, l1, l2⟩ := cells3 HU1.out
    go_wp2_with fail
    refine (CH2.out _ HB1.out).mono ?_
    rintro e w2 ⟨rfl, hb⟩
    have HB2 := Lib.hid (trans' HB1.out hb)
    have HV2 := Lib.hid (keepb hb HV1.out)
    have HU2 := Lib.hid (keepb hb HU1.out)
    have HX2 := Lib.hid (keepb hb HX1.out)
    clear hb HB1 HV1 HU1 HX1
    clear x0 x1 x2 x3 x4 l0 l1 l2
    cases c2 with
    | false =>
      obtain rfl := HBAD.out fun h => by have := of_decide_eq_false HCB.out; exact this h.2.1
      go_wp2_with fail
      go_ret
      exact ⟨rfl, HB2.out⟩
    | true =>
      obtain ⟨x0, x1, x2, x3, x4⟩ := cells5 HX2.out
      go_wp2_with fail
      refine (CP.out _).mono ?_
      rintro e w3 ⟨rfl, hb⟩
      have HB3 := Lib.hid (trans' HB2.out hb)
      have HV3 := Lib.hid (keepb hb HV2.out)
      have HU3 := Lib.hid (keepb hb HU2.out)
      have HX3 := Lib.hid (keepb hb HX2.out)
      clear hb HB2 HV2 HU2 HX2
      clear x0 x1 x2 x3 x4
      cases c3 with
      | false =>
        obtain rfl := HBAD.out fun h => by have := HPB.out.2 h.2.2; cases this
        go_wp2_with fail
        go_ret
        exact ⟨rfl, HB3.out⟩
      | true =>
        obtain ⟨rfl, CN1, CN2, CL, hbd⟩ := HOK.out (of_decide_eq_true HCA.out) (of_decide_eq_true HCB.out) (HPB.out.1 rfl)
        have CN1 := Lib.hid CN1
        have CN2 := Lib.hid CN2
        have CL := Lib.hid CL
        have HBD := Lib.hid hbd
        clear HOK hbd HBAD HPB CH1 CH2 CP HCA HCB
        go_upto_region 3 with fail
        refine region_vals (fun lv yv W => Below w3.heap.size w3 W ∧ (lv 0 = true → yv 0 = .agg #[.string n1, .int .i64 b1, .slice sp1 m1 cap1]) ∧ (lv 1 = true → yv 1 = .pointer (some ⟨w.heap.size + 1 + 1, 0, none⟩)) ∧ (lv 2 = true → yv 2 = .int .i64 f) ∧ (lv 3 = true → yv 3 = .agg #[.int .i64 p0, .int .i64 p1, .int .i64 p2]) ∧ (lv 4 = true → yv 4 = .agg #[.int .i64 p0, .int .i64 p1, .int .i64 p2]) ∧ (lv 5 = true → yv 5 = .agg #[.string n2, .int .i64 b2, .slice sp2 m2 cap2]) ∧ (lv 6 = true → yv 6 = .pointer (some ⟨w.heap.size + 1 + 1, 1, none⟩)) ∧ (lv 7 = true → yv 7 = .int .i64 s) ∧ (lv 8 = true → yv 8 = .agg #[.int .i64 q0, .int .i64 q1, .int .i64 q2]) ∧ (lv 9 = true → yv 9 = .agg #[.int .i64 q0, .int .i64 q1, .int .i64 q2]) ∧ (lv 10 = true → OwnB 64 3 w3.heap.size (yv 10) W) ∧ (lv 11 = true → OwnB 64 3 w3.heap.size (yv 11) W) ∧ (lv 12 = true → lv 10 = true ∧ HasC 64 #[.int .i64 p0, .int .i64 p1, .int .i64 p2] (yv 10) W) ∧ (lv 13 = true → lv 11 = true ∧ HasC 64 #[.int .i64 q0, .int .i64 q1, .int .i64 q2] (yv 11) W) ∧ (lv 10 = true → lv 11 = true → yv 10 ≠ yv 11)) (fun _ => undef) (by kernel_rfl) (by kernel_rfl) (by kernel_rfl) ⟨(Below.refl _ w3).drew, fun h => absurd h Bool.false_ne_true, fun h => absurd h Bool.false_ne_true, fun h => absurd h Bool.false_ne_true, fun h => absurd h Bool.false_ne_true, fun h => absurd h Bool.false_ne_true, fun h => absurd h Bool.false_ne_true, fun h => absurd h Bool.false_ne_true, fun h => absurd h Bool.false_ne_true, fun h => absurd h Bool.false_ne_true, fun h => absurd h Bool.false_ne_true, fun h => absurd h Bool.false_ne_true, fun h => absurd h Bool.false_ne_true, fun h => absurd h Bool.false_ne_true, fun h => absurd h Bool.false_ne_true, fun h => absurd h Bool.false_ne_true⟩ ?_ ?_
        · -- the operations
          refine Steps.val (k' := 1) (.agg #[.string n1, .int .i64 b1, .slice sp1 m1 cap1]) rfl (fun _ => by kernel_rfl) (fun _ => by kernel_rfl) ?_ ?_ ?_
          · intro lv yv WQ hd hI
            have HBQ := hI.1
            have h0 := hI.2.1
            have h1 := hI.2.2.1
            have h2 := hI.2.2.2.1
            have h3 := hI.2.2.2.2.1
            have h4 := hI.2.2.2.2.2.1
            have h5 := hI.2.2.2.2.2.2.1
            have h6 := hI.2.2.2.2.2.2.2.1
            have h7 := hI.2.2.2.2.2.2.2.2.1
            have h8 := hI.2.2.2.2.2.2.2.2.2.1
            have h9 := hI.2.2.2.2.2.2.2.2.2.2.1
            have h10 := hI.2.2.2.2.2.2.2.2.2.2.2.1
            have h11 := hI.2.2.2.2.2.2.2.2.2.2.2.2.1
            have h12 := hI.2.2.2.2.2.2.2.2.2.2.2.2.2.1
            have h13 := hI.2.2.2.2.2.2.2.2.2.2.2.2.2.2.1
            have g10_11 := hI.2.2.2.2.2.2.2.2.2.2.2.2.2.2.2
            clear hI
            simp only [putAll, Act.put, List.setIfInBounds_toArray, List.set_cons_succ, List.set_cons_zero]
            clear h0 h1 h2 h3 h4 h5 h6 h7 h8 h9 h10 h11 h12 h13 g10_11 hd
            obtain ⟨zq0, zq1, zq2⟩ := cells3 (keepb HBQ HV3.out)
            unfold Oper.quietAt
            go_simp
          · intro lv yv WQ W' hI hb
            have HBQ := hI.1
            have h0 := hI.2.1
            have h1 := hI.2.2.1
            have h2 := hI.2.2.2.1
            have h3 := hI.2.2.2.2.1
            have h4 := hI.2.2.2.2.2.1
            have h5 := hI.2.2.2.2.2.2.1
            have h6 := hI.2.2.2.2.2.2.2.1
            have h7 := hI.2.2.2.2.2.2.2.2.1
            have h8 := hI.2.2.2.2.2.2.2.2.2.1
            have h9 := hI.2.2.2.2.2.2.2.2.2.2.1
            have h10 := hI.2.2.2.2.2.2.2.2.2.2.2.1
            have h11 := hI.2.2.2.2.2.2.2.2.2.2.2.2.1
            have h12 := hI.2.2.2.2.2.2.2.2.2.2.2.2.2.1
            have h13 := hI.2.2.2.2.2.2.2.2.2.2.2.2.2.2.1
            have g10_11 := hI.2.2.2.2.2.2.2.2.2.2.2.2.2.2.2
            clear hI
            exact ⟨andThen HBQ hb, fun _ => rfl, h1, h2, h3, h4, h5, h6, h7, h8, h9, fun h => (h10 h).next hb, fun h => (h11 h).next hb, fun h => ⟨(h12 h).1, (h12 h).2.next hb⟩, fun h => ⟨(h13 h).1, (h13 h).2.next hb⟩, g10_11⟩
          refine Steps.val (k' := 2) (.pointer (some ⟨w.heap.size + 1 + 1, 0, none⟩)) rfl (fun _ => by kernel_rfl) (fun _ => by kernel_rfl) ?_ ?_ ?_
          · intro lv yv WQ hd hI
            have HBQ := hI.1
            have h0 := hI.2.1
            have h1 := hI.2.2.1
            have h2 := hI.2.2.2.1
            have h3 := hI.2.2.2.2.1
            have h4 := hI.2.2.2.2.2.1
            have h5 := hI.2.2.2.2.2.2.1
            have h6 := hI.2.2.2.2.2.2.2.1
            have h7 := hI.2.2.2.2.2.2.2.2.1
            have h8 := hI.2.2.2.2.2.2.2.2.2.1
            have h9 := hI.2.2.2.2.2.2.2.2.2.2.1
            have h10 := hI.2.2.2.2.2.2.2.2.2.2.2.1
            have h11 := hI.2.2.2.2.2.2.2.2.2.2.2.2.1
            have h12 := hI.2.2.2.2.2.2.2.2.2.2.2.2.2.1
            have h13 := hI.2.2.2.2.2.2.2.2.2.2.2.2.2.2.1
            have g10_11 := hI.2.2.2.2.2.2.2.2.2.2.2.2.2.2.2
            clear hI
            simp only [putAll, Act.put, List.setIfInBounds_toArray, List.set_cons_succ, List.set_cons_zero]
            clear h0 h1 h2 h3 h4 h5 h6 h7 h8 h9 h10 h11 h12 h13 g10_11 hd
            unfold Oper.quietAt
            go_simp
          · intro lv yv WQ W' hI hb
            have HBQ := hI.1
            have h0 := hI.2.1
            have h1 := hI.2.2.1
            have h2 := hI.2.2.2.1
            have h3 := hI.2.2.2.2.1
            have h4 := hI.2.2.2.2.2.1
            have h5 := hI.2.2.2.2.2.2.1
            have h6 := hI.2.2.2.2.2.2.2.1
            have h7 := hI.2.2.2.2.2.2.2.2.1
            have h8 := hI.2.2.2.2.2.2.2.2.2.1
            have h9 := hI.2.2.2.2.2.2.2.2.2.2.1
            have h10 := hI.2.2.2.2.2.2.2.2.2.2.2.1
            have h11 := hI.2.2.2.2.2.2.2.2.2.2.2.2.1
            have h12 := hI.2.2.2.2.2.2.2.2.2.2.2.2.2.1
            have h13 := hI.2.2.2.2.2.2.2.2.2.2.2.2.2.2.1
            have g10_11 := hI.2.2.2.2.2.2.2.2.2.2.2.2.2.2.2
            clear hI
            exact ⟨andThen HBQ hb, h0, fun _ => rfl, h2, h3, h4, h5, h6, h7, h8, h9, fun h => (h10 h).next hb, fun h => (h11 h).next hb, fun h => ⟨(h12 h).1, (h12 h).2.next hb⟩, fun h => ⟨(h13 h).1, (h13 h).2.next hb⟩, g10_11⟩
          refine Steps.val (k' := 3) (.int .i64 f) rfl (fun _ => by kernel_rfl) (fun _ => by kernel_rfl) ?_ ?_ ?_
          · intro lv yv WQ hd hI
            have HBQ := hI.1
            have h0 := hI.2.1
            have h1 := hI.2.2.1
            have h2 := hI.2.2.2.1
            have h3 := hI.2.2.2.2.1
            have h4 := hI.2.2.2.2.2.1
            have h5 := hI.2.2.2.2.2.2.1
            have h6 := hI.2.2.2.2.2.2.2.1
            have h7 := hI.2.2.2.2.2.2.2.2.1
            have h8 := hI.2.2.2.2.2.2.2.2.2.1
            have h9 := hI.2.2.2.2.2.2.2.2.2.2.1
            have h10 := hI.2.2.2.2.2.2.2.2.2.2.2.1
            have h11 := hI.2.2.2.2.2.2.2.2.2.2.2.2.1
            have h12 := hI.2.2.2.2.2.2.2.2.2.2.2.2.2.1
            have h13 := hI.2.2.2.2.2.2.2.2.2.2.2.2.2.2.1
            have g10_11 := hI.2.2.2.2.2.2.2.2.2.2.2.2.2.2.2
            clear hI
            have d1 := dep_of hd 1 (by kernel_rfl)
            simp only [putAll, Act.put, List.setIfInBounds_toArray, List.set_cons_succ, List.set_cons_zero]
            rw [h1 d1]
            clear h0 h1 h2 h3 h4 h5 h6 h7 h8 h9 h10 h11 h12 h13 g10_11 d1 hd
            obtain ⟨zq0, zq1, zq2, zq3, zq4⟩ := cells5 (keepb HBQ HX3.out)
            unfold Oper.quietAt
            go_simp
          · intro lv yv WQ W' hI hb
            have HBQ := hI.1
            have h0 := hI.2.1
            have h1 := hI.2.2.1
            have h2 := hI.2.2.2.1
            have h3 := hI.2.2.2.2.1
            have h4 := hI.2.2.2.2.2.1
            have h5 := hI.2.2.2.2.2.2.1
            have h6 := hI.2.2.2.2.2.2.2.1
            have h7 := hI.2.2.2.2.2.2.2.2.1
            have h8 := hI.2.2.2.2.2.2.2.2.2.1
            have h9 := hI.2.2.2.2.2.2.2.2.2.2.1
            have h10 := hI.2.2.2.2.2.2.2.2.2.2.2.1
            have h11 := hI.2.2.2.2.2.2.2.2.2.2.2.2.1
            have h12 := hI.2.2.2.2.2.2.2.2.2.2.2.2.2.1
            have h13 := hI.2.2.2.2.2.2.2.2.2.2.2.2.2.2.1
            have g10_11 := hI.2.2.2.2.2.2.2.2.2.2.2.2.2.2.2
            clear hI
            exact ⟨andThen HBQ hb, h0, h1, fun _ => rfl, h3, h4, h5, h6, h7, h8, h9, fun h => (h10 h).next hb, fun h => (h11 h).next hb, fun h => ⟨(h12 h).1, (h12 h).2.next hb⟩, fun h => ⟨(h13 h).1, (h13 h).2.next hb⟩, g10_11⟩
          refine Steps.val (k' := 4) (.agg #[.int .i64 p0, .int .i64 p1, .int .i64 p2]) rfl (fun _ => by kernel_rfl) (fun _ => by kernel_rfl) ?_ ?_ ?_
          · intro lv yv WQ hd hI
            have HBQ := hI.1
            have h0 := hI.2.1
            have h1 := hI.2.2.1
            have h2 := hI.2.2.2.1
            have h3 := hI.2.2.2.2.1
            have h4 := hI.2.2.2.2.2.1
            have h5 := hI.2.2.2.2.2.2.1
            have h6 := hI.2.2.2.2.2.2.2.1
            have h7 := hI.2.2.2.2.2.2.2.2.1
            have h8 := hI.2.2.2.2.2.2.2.2.2.1
            have h9 := hI.2.2.2.2.2.2.2.2.2.2.1
            have h10 := hI.2.2.2.2.2.2.2.2.2.2.2.1
            have h11 := hI.2.2.2.2.2.2.2.2.2.2.2.2.1
            have h12 := hI.2.2.2.2.2.2.2.2.2.2.2.2.2.1
            have h13 := hI.2.2.2.2.2.2.2.2.2.2.2.2.2.2.1
            have g10_11 := hI.2.2.2.2.2.2.2.2.2.2.2.2.2.2.2
            clear hI
            have d0 := dep_of hd 0 (by kernel_rfl)
            have d2 := dep_of hd 2 (by kernel_rfl)
            simp only [putAll, Act.put, List.setIfInBounds_toArray, List.set_cons_succ, List.set_cons_zero]
            rw [h0 d0, h2 d2]
            clear h0 h1 h2 h3 h4 h5 h6 h7 h8 h9 h10 h11 h12 h13 g10_11 d0 d2 hd
            unfold Oper.quietAt
            go_simp
            exact (CN1.out WQ (trans' HB3.out HBQ))
          · intro lv yv WQ W' hI hb
            have HBQ := hI.1
            have h0 := hI.2.1
            have h1 := hI.2.2.1
            have h2 := hI.2.2.2.1
            have h3 := hI.2.2.2.2.1
            have h4 := hI.2.2.2.2.2.1
            have h5 := hI.2.2.2.2.2.2.1
            have h6 := hI.2.2.2.2.2.2.2.1
            have h7 := hI.2.2.2.2.2.2.2.2.1
            have h8 := hI.2.2.2.2.2.2.2.2.2.1
            have h9 := hI.2.2.2.2.2.2.2.2.2.2.1
            have h10 := hI.2.2.2.2.2.2.2.2.2.2.2.1
            have h11 := hI.2.2.2.2.2.2.2.2.2.2.2.2.1
            have h12 := hI.2.2.2.2.2.2.2.2.2.2.2.2.2.1
            have h13 := hI.2.2.2.2.2.2.2.2.2.2.2.2.2.2.1
            have g10_11 := hI.2.2.2.2.2.2.2.2.2.2.2.2.2.2.2
            clear hI
            exact ⟨andThen HBQ hb, h0, h1, h2, fun _ => rfl, h4, h5, h6, h7, h8, h9, fun h => (h10 h).next hb, fun h => (h11 h).next hb, fun h => ⟨(h12 h).1, (h12 h).2.next hb⟩, fun h => ⟨(h13 h).1, (h13 h).2.next hb⟩, g10_11⟩
          refine Steps.val (k' := 5) (.agg #[.int .i64 p0, .int .i64 p1, .int .i64 p2]) rfl (fun _ => by kernel_rfl) (fun _ => by kernel_rfl) ?_ ?_ ?_
          · intro lv yv WQ hd hI
            have HBQ := hI.1
            have h0 := hI.2.1
            have h1 := hI.2.2.1
            have h2 := hI.2.2.2.1
            have h3 := hI.2.2.2.2.1
            have h4 := hI.2.2.2.2.2.1
            have h5 := hI.2.2.2.2.2.2.1
            have h6 := hI.2.2.2.2.2.2.2.1
            have h7 := hI.2.2.2.2.2.2.2.2.1
            have h8 := hI.2.2.2.2.2.2.2.2.2.1
            have h9 := hI.2.2.2.2.2.2.2.2.2.2.1
            have h10 := hI.2.2.2.2.2.2.2.2.2.2.2.1
            have h11 := hI.2.2.2.2.2.2.2.2.2.2.2.2.1
            have h12 := hI.2.2.2.2.2.2.2.2.2.2.2.2.2.1
            have h13 := hI.2.2.2.2.2.2.2.2.2.2.2.2.2.2.1
            have g10_11 := hI.2.2.2.2.2.2.2.2.2.2.2.2.2.2.2
            clear hI
            have d3 := dep_of hd 3 (by kernel_rfl)
            simp only [putAll, Act.put, List.setIfInBounds_toArray, List.set_cons_succ, List.set_cons_zero]
            rw [h3 d3]
            clear h0 h1 h2 h3 h4 h5 h6 h7 h8 h9 h10 h11 h12 h13 g10_11 d3 hd
            unfold Oper.quietAt
            go_simp
            exact (refCoordinates_any p0 p1 p2 WQ)
          · intro lv yv WQ W' hI hb
            have HBQ := hI.1
            have h0 := hI.2.1
            have h1 := hI.2.2.1
            have h2 := hI.2.2.2.1
            have h3 := hI.2.2.2.2.1
            have h4 := hI.2.2.2.2.2.1
            have h5 := hI.2.2.2.2.2.2.1
            have h6 := hI.2.2.2.2.2.2.2.1
            have h7 := hI.2.2.2.2.2.2.2.2.1
            have h8 := hI.2.2.2.2.2.2.2.2.2.1
            have h9 := hI.2.2.2.2.2.2.2.2.2.2.1
            have h10 := hI.2.2.2.2.2.2.2.2.2.2.2.1
            have h11 := hI.2.2.2.2.2.2.2.2.2.2.2.2.1
            have h12 := hI.2.2.2.2.2.2.2.2.2.2.2.2.2.1
            have h13 := hI.2.2.2.2.2.2.2.2.2.2.2.2.2.2.1
            have g10_11 := hI.2.2.2.2.2.2.2.2.2.2.2.2.2.2.2
            clear hI
            exact ⟨andThen HBQ hb, h0, h1, h2, h3, fun _ => rfl, h5, h6, h7, h8, h9, fun h => (h10 h).next hb, fun h => (h11 h).next hb, fun h => ⟨(h12 h).1, (h12 h).2.next hb⟩, fun h => ⟨(h13 h).1, (h13 h).2.next hb⟩, g10_11⟩
          refine Steps.val (k' := 6) (.agg #[.string n2, .int .i64 b2, .slice sp2 m2 cap2]) rfl (fun _ => by kernel_rfl) (fun _ => by kernel_rfl) ?_ ?_ ?_
          · intro lv yv WQ hd hI
            have HBQ := hI.1
            have h0 := hI.2.1
            have h1 := hI.2.2.1
            have h2 := hI.2.2.2.1
            have h3 := hI.2.2.2.2.1
            have h4 := hI.2.2.2.2.2.1
            have h5 := hI.2.2.2.2.2.2.1
            have h6 := hI.2.2.2.2.2.2.2.1
            have h7 := hI.2.2.2.2.2.2.2.2.1
            have h8 := hI.2.2.2.2.2.2.2.2.2.1
            have h9 := hI.2.2.2.2.2.2.2.2.2.2.1
            have h10 := hI.2.2.2.2.2.2.2.2.2.2.2.1
            have h11 := hI.2.2.2.2.2.2.2.2.2.2.2.2.1
            have h12 := hI.2.2.2.2.2.2.2.2.2.2.2.2.2.1
            have h13 := hI.2.2.2.2.2.2.2.2.2.2.2.2.2.2.1
            have g10_11 := hI.2.2.2.2.2.2.2.2.2.2.2.2.2.2.2
            clear hI
            simp only [putAll, Act.put, List.setIfInBounds_toArray, List.set_cons_succ, List.set_cons_zero]
            clear h0 h1 h2 h3 h4 h5 h6 h7 h8 h9 h10 h11 h12 h13 g10_11 hd
            obtain ⟨zq0, zq1, zq2⟩ := cells3 (keepb HBQ HU3.out)
            unfold Oper.quietAt
            go_simp
          · intro lv yv WQ W' hI hb
            have HBQ := hI.1
            have h0 := hI.2.1
            have h1 := hI.2.2.1
            have h2 := hI.2.2.2.1
            have h3 := hI.2.2.2.2.1
            have h4 := hI.2.2.2.2.2.1
            have h5 := hI.2.2.2.2.2.2.1
            have h6 := hI.2.2.2.2.2.2.2.1
            have h7 := hI.2.2.2.2.2.2.2.2.1
            have h8 := hI.2.2.2.2.2.2.2.2.2.1
            have h9 := hI.2.2.2.2.2.2.2.2.2.2.1
            have h10 := hI.2.2.2.2.2.2.2.2.2.2.2.1
            have h11 := hI.2.2.2.2.2.2.2.2.2.2.2.2.1
            have h12 := hI.2.2.2.2.2.2.2.2.2.2.2.2.2.1
            have h13 := hI.2.2.2.2.2.2.2.2.2.2.2.2.2.2.1
            have g10_11 := hI.2.2.2.2.2.2.2.2.2.2.2.2.2.2.2
            clear hI
            exact ⟨andThen HBQ hb, h0, h1, h2, h3, h4, fun _ => rfl, h6, h7, h8, h9, fun h => (h10 h).next hb, fun h => (h11 h).next hb, fun h => ⟨(h12 h).1, (h12 h).2.next hb⟩, fun h => ⟨(h13 h).1, (h13 h).2.next hb⟩, g10_11⟩
          refine Steps.val (k' := 7) (.pointer (some ⟨w.heap.size + 1 + 1, 1, none⟩)) rfl (fun _ => by kernel_rfl) (fun _ => by kernel_rfl) ?_ ?_ ?_
          · intro lv yv WQ hd hI
            have HBQ := hI.1
            have h0 := hI.2.1
            have h1 := hI.2.2.1
            have h2 := hI.2.2.2.1
            have h3 := hI.2.2.2.2.1
            have h4 := hI.2.2.2.2.2.1
            have h5 := hI.2.2.2.2.2.2.1
            have h6 := hI.2.2.2.2.2.2.2.1
            have h7 := hI.2.2.2.2.2.2.2.2.1
            have h8 := hI.2.2.2.2.2.2.2.2.2.1
            have h9 := hI.2.2.2.2.2.2.2.2.2.2.1
            have h10 := hI.2.2.2.2.2.2.2.2.2.2.2.1
            have h11 := hI.2.2.2.2.2.2.2.2.2.2.2.2.1
            have h12 := hI.2.2.2.2.2.2.2.2.2.2.2.2.2.1
            have h13 := hI.2.2.2.2.2.2.2.2.2.2.2.2.2.2.1
            have g10_11 := hI.2.2.2.2.2.2.2.2.2.2.2.2.2.2.2
            clear hI
            simp only [putAll, Act.put, List.setIfInBounds_toArray, List.set_cons_succ, List.set_cons_zero]
            clear h0 h1 h2 h3 h4 h5 h6 h7 h8 h9 h10 h11 h12 h13 g10_11 hd
            unfold Oper.quietAt
            go_simp
          · intro lv yv WQ W' hI hb
            have HBQ := hI.1
            have h0 := hI.2.1
            have h1 := hI.2.2.1
            have h2 := hI.2.2.2.1
            have h3 := hI.2.2.2.2.1
            have h4 := hI.2.2.2.2.2.1
            have h5 := hI.2.2.2.2.2.2.1
            have h6 := hI.2.2.2.2.2.2.2.1
            have h7 := hI.2.2.2.2.2.2.2.2.1
            have h8 := hI.2.2.2.2.2.2.2.2.2.1
            have h9 := hI.2.2.2.2.2.2.2.2.2.2.1
            have h10 := hI.2.2.2.2.2.2.2.2.2.2.2.1
            have h11 := hI.2.2.2.2.2.2.2.2.2.2.2.2.1
            have h12 := hI.2.2.2.2.2.2.2.2.2.2.2.2.2.1
            have h13 := hI.2.2.2.2.2.2.2.2.2.2.2.2.2.2.1
            have g10_11 := hI.2.2.2.2.2.2.2.2.2.2.2.2.2.2.2
            clear hI
            exact ⟨andThen HBQ hb, h0, h1, h2, h3, h4, h5, fun _ => rfl, h7, h8, h9, fun h => (h10 h).next hb, fun h => (h11 h).next hb, fun h => ⟨(h12 h).1, (h12 h).2.next hb⟩, fun h => ⟨(h13 h).1, (h13 h).2.next hb⟩, g10_11⟩
          refine Steps.val (k' := 8) (.int .i64 s) rfl (fun _ => by kernel_rfl) (fun _ => by kernel_rfl) ?_ ?_ ?_
          · intro lv yv WQ hd hI
            have HBQ := hI.1
            have h0 := hI.2.1
            have h1 := hI.2.2.1
            have h2 := hI.2.2.2.1
            have h3 := hI.2.2.2.2.1
            have h4 := hI.2.2.2.2.2.1
            have h5 := hI.2.2.2.2.2.2.1
            have h6 := hI.2.2.2.2.2.2.2.1
            have h7 := hI.2.2.2.2.2.2.2.2.1
            have h8 := hI.2.2.2.2.2.2.2.2.2.1
            have h9 := hI.2.2.2.2.2.2.2.2.2.2.1
            have h10 := hI.2.2.2.2.2.2.2.2.2.2.2.1
            have h11 := hI.2.2.2.2.2.2.2.2.2.2.2.2.1
            have h12 := hI.2.2.2.2.2.2.2.2.2.2.2.2.2.1
            have h13 := hI.2.2.2.2.2.2.2.2.2.2.2.2.2.2.1
            have g10_11 := hI.2.2.2.2.2.2.2.2.2.2.2.2.2.2.2
            clear hI
            have d6 := dep_of hd 6 (by kernel_rfl)
            simp only [putAll, Act.put, List.setIfInBounds_toArray, List.set_cons_succ, List.set_cons_zero]
            rw [h6 d6]
            clear h0 h1 h2 h3 h4 h5 h6 h7 h8 h9 h10 h11 h12 h13 g10_11 d6 hd
            obtain ⟨zq0, zq1, zq2, zq3, zq4⟩ := cells5 (keepb HBQ HX3.out)
            unfold Oper.quietAt
            go_simp
          · intro lv yv WQ W' hI hb
            have HBQ := hI.1
            have h0 := hI.2.1
            have h1 := hI.2.2.1
            have h2 := hI.2.2.2.1
            have h3 := hI.2.2.2.2.1
            have h4 := hI.2.2.2.2.2.1
            have h5 := hI.2.2.2.2.2.2.1
            have h6 := hI.2.2.2.2.2.2.2.1
            have h7 := hI.2.2.2.2.2.2.2.2.1
            have h8 := hI.2.2.2.2.2.2.2.2.2.1
            have h9 := hI.2.2.2.2.2.2.2.2.2.2.1
            have h10 := hI.2.2.2.2.2.2.2.2.2.2.2.1
            have h11 := hI.2.2.2.2.2.2.2.2.2.2.2.2.1
            have h12 := hI.2.2.2.2.2.2.2.2.2.2.2.2.2.1
            have h13 := hI.2.2.2.2.2.2.2.2.2.2.2.2.2.2.1
            have g10_11 := hI.2.2.2.2.2.2.2.2.2.2.2.2.2.2.2
            clear hI
            exact ⟨andThen HBQ hb, h0, h1, h2, h3, h4, h5, h6, fun _ => rfl, h8, h9, fun h => (h10 h).next hb, fun h => (h11 h).next hb, fun h => ⟨(h12 h).1, (h12 h).2.next hb⟩, fun h => ⟨(h13 h).1, (h13 h).2.next hb⟩, g10_11⟩
          refine Steps.val (k' := 9) (.agg #[.int .i64 q0, .int .i64 q1, .int .i64 q2]) rfl (fun _ => by kernel_rfl) (fun _ => by kernel_rfl) ?_ ?_ ?_
          · intro lv yv WQ hd hI
            have HBQ := hI.1
            have h0 := hI.2.1
            have h1 := hI.2.2.1
            have h2 := hI.2.2.2.1
            have h3 := hI.2.2.2.2.1
            have h4 := hI.2.2.2.2.2.1
            have h5 := hI.2.2.2.2.2.2.1
            have h6 := hI.2.2.2.2.2.2.2.1
            have h7 := hI.2.2.2.2.2.2.2.2.1
            have h8 := hI.2.2.2.2.2.2.2.2.2.1
            have h9 := hI.2.2.2.2.2.2.2.2.2.2.1
            have h10 := hI.2.2.2.2.2.2.2.2.2.2.2.1
            have h11 := hI.2.2.2.2.2.2.2.2.2.2.2.2.1
            have h12 := hI.2.2.2.2.2.2.2.2.2.2.2.2.2.1
            have h13 := hI.2.2.2.2.2.2.2.2.2.2.2.2.2.2.1
            have g10_11 := hI.2.2.2.2.2.2.2.2.2.2.2.2.2.2.2
            clear hI
            have d5 := dep_of hd 5 (by kernel_rfl)
            have d7 := dep_of hd 7 (by kernel_rfl)
            simp only [putAll, Act.put, List.setIfInBounds_toArray, List.set_cons_succ, List.set_cons_zero]
            rw [h5 d5, h7 d7]
            clear h0 h1 h2 h3 h4 h5 h6 h7 h8 h9 h10 h11 h12 h13 g10_11 d5 d7 hd
            unfold Oper.quietAt
            go_simp
            exact (CN2.out WQ (trans' HB3.out HBQ))
          · intro lv yv WQ W' hI hb
            have HBQ := hI.1
            have h0 := hI.2.1
            have h1 := hI.2.2.1
            have h2 := hI.2.2.2.1
            have h3 := hI.2.2.2.2.1
            have h4 := hI.2.2.2.2.2.1
            have h5 := hI.2.2.2.2.2.2.1
            have h6 := hI.2.2.2.2.2.2.2.1
            have h7 := hI.2.2.2.2.2.2.2.2.1
            have h8 := hI.2.2.2.2.2.2.2.2.2.1
            have h9 := hI.2.2.2.2.2.2.2.2.2.2.1
            have h10 := hI.2.2.2.2.2.2.2.2.2.2.2.1
            have h11 := hI.2.2.2.2.2.2.2.2.2.2.2.2.1
            have h12 := hI.2.2.2.2.2.2.2.2.2.2.2.2.2.1
            have h13 := hI.2.2.2.2.2.2.2.2.2.2.2.2.2.2.1
            have g10_11 := hI.2.2.2.2.2.2.2.2.2.2.2.2.2.2.2
            clear hI
            exact ⟨andThen HBQ hb, h0, h1, h2, h3, h4, h5, h6, h7, fun _ => rfl, h9, fun h => (h10 h).next hb, fun h => (h11 h).next hb, fun h => ⟨(h12 h).1, (h12 h).2.next hb⟩, fun h => ⟨(h13 h).1, (h13 h).2.next hb⟩, g10_11⟩
          refine Steps.val (k' := 10) (.agg #[.int .i64 q0, .int .i64 q1, .int .i64 q2]) rfl (fun _ => by kernel_rfl) (fun _ => by kernel_rfl) ?_ ?_ ?_
          · intro lv yv WQ hd hI
            have HBQ := hI.1
            have h0 := hI.2.1
            have h1 := hI.2.2.1
            have h2 := hI.2.2.2.1
            have h3 := hI.2.2.2.2.1
            have h4 := hI.2.2.2.2.2.1
            have h5 := hI.2.2.2.2.2.2.1
            have h6 := hI.2.2.2.2.2.2.2.1
            have h7 := hI.2.2.2.2.2.2.2.2.1
            have h8 := hI.2.2.2.2.2.2.2.2.2.1
            have h9 := hI.2.2.2.2.2.2.2.2.2.2.1
            have h10 := hI.2.2.2.2.2.2.2.2.2.2.2.1
            have h11 := hI.2.2.2.2.2.2.2.2.2.2.2.2.1
            have h12 := hI.2.2.2.2.2.2.2.2.2.2.2.2.2.1
            have h13 := hI.2.2.2.2.2.2.2.2.2.2.2.2.2.2.1
            have g10_11 := hI.2.2.2.2.2.2.2.2.2.2.2.2.2.2.2
            clear hI
            have d8 := dep_of hd 8 (by kernel_rfl)
            simp only [putAll, Act.put, List.setIfInBounds_toArray, List.set_cons_succ, List.set_cons_zero]
            rw [h8 d8]
            clear h0 h1 h2 h3 h4 h5 h6 h7 h8 h9 h10 h11 h12 h13 g10_11 d8 hd
            unfold Oper.quietAt
            go_simp
            exact (refCoordinates_any q0 q1 q2 WQ)
          · intro lv yv WQ W' hI hb
            have HBQ := hI.1
            have h0 := hI.2.1
            have h1 := hI.2.2.1
            have h2 := hI.2.2.2.1
            have h3 := hI.2.2.2.2.1
            have h4 := hI.2.2.2.2.2.1
            have h5 := hI.2.2.2.2.2.2.1
            have h6 := hI.2.2.2.2.2.2.2.1
            have h7 := hI.2.2.2.2.2.2.2.2.1
            have h8 := hI.2.2.2.2.2.2.2.2.2.1
            have h9 := hI.2.2.2.2.2.2.2.2.2.2.1
            have h10 := hI.2.2.2.2.2.2.2.2.2.2.2.1
            have h11 := hI.2.2.2.2.2.2.2.2.2.2.2.2.1
            have h12 := hI.2.2.2.2.2.2.2.2.2.2.2.2.2.1
            have h13 := hI.2.2.2.2.2.2.2.2.2.2.2.2.2.2.1
            have g10_11 := hI.2.2.2.2.2.2.2.2.2.2.2.2.2.2.2
            clear hI
            exact ⟨andThen HBQ hb, h0, h1, h2, h3, h4, h5, h6, h7, h8, fun _ => rfl, fun h => (h10 h).next hb, fun h => (h11 h).next hb, fun h => ⟨(h12 h).1, (h12 h).2.next hb⟩, fun h => ⟨(h13 h).1, (h13 h).2.next hb⟩, g10_11⟩
          refine Steps.own (k' := 11) rfl (fun _ => by kernel_rfl) (fun _ _ => by kernel_rfl) ?_ ?_
          · intro lv yv WQ hd hn hI
            have HBQ := hI.1
            have h0 := hI.2.1
            have h1 := hI.2.2.1
            have h2 := hI.2.2.2.1
            have h3 := hI.2.2.2.2.1
            have h4 := hI.2.2.2.2.2.1
            have h5 := hI.2.2.2.2.2.2.1
            have h6 := hI.2.2.2.2.2.2.2.1
            have h7 := hI.2.2.2.2.2.2.2.2.1
            have h8 := hI.2.2.2.2.2.2.2.2.2.1
            have h9 := hI.2.2.2.2.2.2.2.2.2.2.1
            have h10 := hI.2.2.2.2.2.2.2.2.2.2.2.1
            have h11 := hI.2.2.2.2.2.2.2.2.2.2.2.2.1
            have h12 := hI.2.2.2.2.2.2.2.2.2.2.2.2.2.1
            have h13 := hI.2.2.2.2.2.2.2.2.2.2.2.2.2.2.1
            have g10_11 := hI.2.2.2.2.2.2.2.2.2.2.2.2.2.2.2
            clear hI
            refine ⟨.pointer (some ⟨WQ.heap.size, 0, none⟩), WQ.alloc (.cells #[.int .i64 0, .int .i64 0, .int .i64 0] 64), ?_, ?_⟩
            · go_simp
            · exact ⟨alloc1 HBQ _, h0, h1, h2, h3, h4, h5, h6, h7, h8, h9, fun _ => ⟨WQ.heap.size, rfl, HBQ.size, #[.int .i64 0, .int .i64 0, .int .i64 0], rfl, heap_alloc_new _ _⟩, fun h => (h11 h).next (new_below _ _), fun h => absurd (h12 h).1 (by rw [hn]; exact Bool.false_ne_true), fun h => ⟨(h13 h).1, (h13 h).2.next (new_below _ _)⟩, fun _ h => ((h11 h).ne_new).symm⟩
          refine Steps.own (k' := 12) rfl (fun _ => by kernel_rfl) (fun _ _ => by kernel_rfl) ?_ ?_
          · intro lv yv WQ hd hn hI
            have HBQ := hI.1
            have h0 := hI.2.1
            have h1 := hI.2.2.1
            have h2 := hI.2.2.2.1
            have h3 := hI.2.2.2.2.1
            have h4 := hI.2.2.2.2.2.1
            have h5 := hI.2.2.2.2.2.2.1
            have h6 := hI.2.2.2.2.2.2.2.1
            have h7 := hI.2.2.2.2.2.2.2.2.1
            have h8 := hI.2.2.2.2.2.2.2.2.2.1
            have h9 := hI.2.2.2.2.2.2.2.2.2.2.1
            have h10 := hI.2.2.2.2.2.2.2.2.2.2.2.1
            have h11 := hI.2.2.2.2.2.2.2.2.2.2.2.2.1
            have h12 := hI.2.2.2.2.2.2.2.2.2.2.2.2.2.1
            have h13 := hI.2.2.2.2.2.2.2.2.2.2.2.2.2.2.1
            have g10_11 := hI.2.2.2.2.2.2.2.2.2.2.2.2.2.2.2
            clear hI
            refine ⟨.pointer (some ⟨WQ.heap.size, 0, none⟩), WQ.alloc (.cells #[.int .i64 0, .int .i64 0, .int .i64 0] 64), ?_, ?_⟩
            · go_simp
            · exact ⟨alloc1 HBQ _, h0, h1, h2, h3, h4, h5, h6, h7, h8, h9, fun h => (h10 h).next (new_below _ _), fun _ => ⟨WQ.heap.size, rfl, HBQ.size, #[.int .i64 0, .int .i64 0, .int .i64 0], rfl, heap_alloc_new _ _⟩, fun h => ⟨(h12 h).1, (h12 h).2.next (new_below _ _)⟩, fun h => absurd (h13 h).1 (by rw [hn]; exact Bool.false_ne_true), fun h _ => (h10 h).ne_new⟩
          refine Steps.sto (k' := 13) rfl (fun _ => by kernel_rfl) rfl ?_ ?_
          · intro lv yv WQ hd hI
            have HBQ := hI.1
            have h0 := hI.2.1
            have h1 := hI.2.2.1
            have h2 := hI.2.2.2.1
            have h3 := hI.2.2.2.2.1
            have h4 := hI.2.2.2.2.2.1
            have h5 := hI.2.2.2.2.2.2.1
            have h6 := hI.2.2.2.2.2.2.2.1
            have h7 := hI.2.2.2.2.2.2.2.2.1
            have h8 := hI.2.2.2.2.2.2.2.2.2.1
            have h9 := hI.2.2.2.2.2.2.2.2.2.2.1
            have h10 := hI.2.2.2.2.2.2.2.2.2.2.2.1
            have h11 := hI.2.2.2.2.2.2.2.2.2.2.2.2.1
            have h12 := hI.2.2.2.2.2.2.2.2.2.2.2.2.2.1
            have h13 := hI.2.2.2.2.2.2.2.2.2.2.2.2.2.2.1
            have g10_11 := hI.2.2.2.2.2.2.2.2.2.2.2.2.2.2.2
            clear hI
            have d10 := dep_of hd 10 (by kernel_rfl)
            have d4 := dep_of hd 4 (by kernel_rfl)
            obtain ⟨b, eb, hle, cs, hs, hc⟩ := h10 d10
            obtain ⟨c0, c1, c2, rfl⟩ := three_of hs
            obtain ⟨zq0, zq1, zq2⟩ := cells3 hc
            obtain ⟨zf0, zf1, zf2⟩ := free3 hc
            have dA11 := dep_of hd 11 (by kernel_rfl)
            have n11 : yv 11 ≠ .pointer (some ⟨b, 0, none⟩) := by
              rw [← eb]
              exact (g10_11 d10 dA11).symm
            refine ⟨(((WQ.setCell ⟨b, 0, none⟩ (.int .i64 p0)).setCell ⟨b, 1, none⟩ (.int .i64 p1)).setCell ⟨b, 2, none⟩ (.int .i64 p2)), ?_, ?_⟩
            · simp only [putAll, Act.put, List.setIfInBounds_toArray, List.set_cons_succ, List.set_cons_zero]
              rw [eb, h4 d4]
              clear h0 h1 h2 h3 h4 h5 h6 h7 h8 h9 h10 h11 h12 h13 g10_11 hd
              go_simp
            · exact ⟨(setC (setC (setC HBQ hle _) hle _) hle _), h0, h1, h2, h3, h4, h5, h6, h7, h8, h9, fun h => ((((h10 h).set b 0 _).set b 1 _).set b 2 _), fun h => ((((h11 h).set b 0 _).set b 1 _).set b 2 _), fun _ => ⟨d10, b, eb, (set_block (set_block (set_block hc)))⟩, fun h => ⟨(h13 h).1, ((((h13 h).2.set n11 0 _).set n11 1 _).set n11 2 _)⟩, g10_11⟩
          refine Steps.sto (k' := 14) rfl (fun _ => by kernel_rfl) rfl ?_ ?_
          · intro lv yv WQ hd hI
            have HBQ := hI.1
            have h0 := hI.2.1
            have h1 := hI.2.2.1
            have h2 := hI.2.2.2.1
            have h3 := hI.2.2.2.2.1
            have h4 := hI.2.2.2.2.2.1
            have h5 := hI.2.2.2.2.2.2.1
            have h6 := hI.2.2.2.2.2.2.2.1
            have h7 := hI.2.2.2.2.2.2.2.2.1
            have h8 := hI.2.2.2.2.2.2.2.2.2.1
            have h9 := hI.2.2.2.2.2.2.2.2.2.2.1
            have h10 := hI.2.2.2.2.2.2.2.2.2.2.2.1
            have h11 := hI.2.2.2.2.2.2.2.2.2.2.2.2.1
            have h12 := hI.2.2.2.2.2.2.2.2.2.2.2.2.2.1
            have h13 := hI.2.2.2.2.2.2.2.2.2.2.2.2.2.2.1
            have g10_11 := hI.2.2.2.2.2.2.2.2.2.2.2.2.2.2.2
            clear hI
            have d11 := dep_of hd 11 (by kernel_rfl)
            have d9 := dep_of hd 9 (by kernel_rfl)
            obtain ⟨b, eb, hle, cs, hs, hc⟩ := h11 d11
            obtain ⟨c0, c1, c2, rfl⟩ := three_of hs
            obtain ⟨zq0, zq1, zq2⟩ := cells3 hc
            obtain ⟨zf0, zf1, zf2⟩ := free3 hc
            have dA10 := dep_of hd 10 (by kernel_rfl)
            have n10 : yv 10 ≠ .pointer (some ⟨b, 0, none⟩) := by
              rw [← eb]
              exact g10_11 dA10 d11
            refine ⟨(((WQ.setCell ⟨b, 0, none⟩ (.int .i64 q0)).setCell ⟨b, 1, none⟩ (.int .i64 q1)).setCell ⟨b, 2, none⟩ (.int .i64 q2)), ?_, ?_⟩
            · simp only [putAll, Act.put, List.setIfInBounds_toArray, List.set_cons_succ, List.set_cons_zero]
              rw [eb, h9 d9]
              clear h0 h1 h2 h3 h4 h5 h6 h7 h8 h9 h10 h11 h12 h13 g10_11 hd
              go_simp
            · exact ⟨(setC (setC (setC HBQ hle _) hle _) hle _), h0, h1, h2, h3, h4, h5, h6, h7, h8, h9, fun h => ((((h10 h).set b 0 _).set b 1 _).set b 2 _), fun h => ((((h11 h).set b 0 _).set b 1 _).set b 2 _), fun h => ⟨(h12 h).1, ((((h12 h).2.set n10 0 _).set n10 1 _).set n10 2 _)⟩, fun _ => ⟨d11, b, eb, (set_block (set_block (set_block hc)))⟩, g10_11⟩
          exact Steps.nil
        intro lv yv WE hl0 hI
        have hl := Lib.hid hl0
        clear hl0
        have HBQ := hI.1
        have h0 := hI.2.1
        have h1 := hI.2.2.1
        have h2 := hI.2.2.2.1
        have h3 := hI.2.2.2.2.1
        have h4 := hI.2.2.2.2.2.1
        have h5 := hI.2.2.2.2.2.2.1
        have h6 := hI.2.2.2.2.2.2.2.1
        have h7 := hI.2.2.2.2.2.2.2.2.1
        have h8 := hI.2.2.2.2.2.2.2.2.2.1
        have h9 := hI.2.2.2.2.2.2.2.2.2.2.1
        have h10 := hI.2.2.2.2.2.2.2.2.2.2.2.1
        have h11 := hI.2.2.2.2.2.2.2.2.2.2.2.2.1
        have h12 := hI.2.2.2.2.2.2.2.2.2.2.2.2.2.1
        have h13 := hI.2.2.2.2.2.2.2.2.2.2.2.2.2.2.1
        have g10_11 := hI.2.2.2.2.2.2.2.2.2.2.2.2.2.2.2
        clear hI
        have HBE := Lib.hid HBQ
        have e0 := h0 (hl.out 0 (by decide))
        have e1 := h1 (hl.out 1 (by decide))
        have e2 := h2 (hl.out 2 (by decide))
        have e3 := h3 (hl.out 3 (by decide))
        have e4 := h4 (hl.out 4 (by decide))
        have e5 := h5 (hl.out 5 (by decide))
        have e6 := h6 (hl.out 6 (by decide))
        have e7 := h7 (hl.out 7 (by decide))
        have e8 := h8 (hl.out 8 (by decide))
        have e9 := h9 (hl.out 9 (by decide))
        obtain ⟨-, b10, e10, Hr10⟩ := h12 (hl.out 12 (by decide))
        have HG10 := Lib.hid (show w3.heap.size ≤ b10 by obtain ⟨b, e, hle, -⟩ := h10 (hl.out 10 (by decide)); rw [e10] at e; injection e with e; injection e with e; injection e with e; omega)
        have Hc10 := Lib.hid Hr10
        clear Hr10
        obtain ⟨-, b11, e11, Hr11⟩ := h13 (hl.out 13 (by decide))
        have HG11 := Lib.hid (show w3.heap.size ≤ b11 by obtain ⟨b, e, hle, -⟩ := h11 (hl.out 11 (by decide)); rw [e11] at e; injection e with e; injection e with e; injection e with e; omega)
        have Hc11 := Lib.hid Hr11
        clear Hr11
        have HN10_11 := Lib.hid (show b10 ≠ b11 from fun h => g10_11 (hl.out 10 (by decide)) (hl.out 11 (by decide)) (by rw [e10, e11, h]))
        clear hl HBQ h0 h1 h2 h3 h4 h5 h6 h7 h8 h9 h10 h11 h12 h13 g10_11
        simp only [putAll, Act.put, List.setIfInBounds_toArray, List.set_cons_succ, List.set_cons_zero]
        rw [e0, e1, e2, e3, e4, e5, e6, e7, e8, e9, e10, e11]
        clear e0 e1 e2 e3 e4 e5 e6 e7 e8 e9 e10 e11
        clear yv lv
        obtain ⟨w4, rfl⟩ : ∃ w4 : World, w4 = WE := ⟨_, rfl⟩
        have HB4 := Lib.hid (trans' HB3.out HBE.out)
        have HX4 := Lib.hid (keepb HBE.out HX3.out)
        clear HB3 HV3 HU3 HX3 HBE CN1 CN2 HG10 HG11 HN10_11
        obtain ⟨k0, k1, k2⟩ := cells3 Hc10.out
        obtain ⟨l0, l1, l2⟩ := cells3 Hc11.out
        go_wp2_with fail
        refine (CL.out _).mono ?_
        rintro e w5 ⟨rfl, hb⟩
        have HB5 := Lib.hid (trans' HB4.out hb)
        have HX5 := Lib.hid (keepb hb HX4.out)
        have HP5 := Lib.hid (keepb hb Hc10.out)
        clear hb k0 k1 k2 l0 l1 l2 HB4 HX4 Hc10 Hc11 CL
        go_wp2_with fail
        obtain ⟨w6, hW⟩ : ∃ w6, w6 = w5.alloc (.cells #[.int .i64 (dv 0), .int .i64 (dv 1), .int .i64 (dv 2)] 64) := ⟨_, rfl⟩
        rw [← hW]
        have hb := new_below w5 (.cells #[.int .i64 (dv 0), .int .i64 (dv 1), .int .i64 (dv 2)] 64)
        rw [← hW] at hb
        have HD6 := Lib.hid (show w6.heap[w5.heap.size]? = some (.cells #[.int .i64 (dv 0), .int .i64 (dv 1), .int .i64 (dv 2)] 64 (0, 0)) by rw [hW]; exact heap_alloc_new _ _)
        have HB6 := Lib.hid (trans' HB5.out hb)
        have HX6 := Lib.hid (keepb hb HX5.out)
        have HP6 := Lib.hid (keepb hb HP5.out)
        clear hW hb HB5 HX5 HP5
        generalize w5.heap.size = cd at *
        go_loopw [10] (fun i wr => ∃ k : Nat, k ≤ 3 ∧ i = .int .i64 k ∧ Hid (∀ j, j < k → (dv j).natAbs ≤ 1000000) ∧ wr = w6) (fun i _ => 3 - (intV i).toNat)
        case atStart => exact ⟨0, Nat.zero_le _, rfl, Lib.hid (fun j hj => absurd hj (Nat.not_lt_zero _)), rfl⟩
        case round =>
          obtain ⟨k, hk, rfl, HK, rfl⟩ := hrel
          by_cases hlt : k < 3
          · have hrd := tri_read hlt HD6.out
            have HBIG := Lib.hid (HN1.out k hlt)
            obtain ⟨v1, v2⟩ := HBD.out k
            have CZ1 := Lib.hid (fun W => CZ.out (dv k) (by omega) (by omega) W)
            have x0 : (0 : Int) ≤ (k : Int) := by omega
            have x1 : (k : Int) < 3 := by omega
            have e1 : IntKind.i64.wrap ((k : Int) + 1) = ((k + 1 : Nat) : Int) := by rw [IntWalk.i64_in _ (by omega)]; omega
            have HKK := Lib.hid (show (dv k).natAbs ≤ 1000000 → ∀ j, j < k + 1 → (dv j).natAbs ≤ 1000000 from fun h j hj => by
              rcases Nat.lt_succ_iff_lt_or_eq.1 hj with h2 | h2
              · exact HK.out j h2
              · rw [h2]; exact h)
            clear v1 v2 HK
            generalize dv k = D at *
            generalize hna : D.natAbs = na at *
            have HKM := Lib.hid HKK.out
            have HBM := Lib.hid HBIG.out
            clear HKK HBIG hna
            by_cases hz : 1000000 < na
            · have hz' : (1000000 : Int) < (na : Int) := by omega
              obtain rfl := HBM.out hz
              go_wp2_with fail
              refine (CZ1.out _).mono ?_
              rintro e w7 ⟨rfl, rfl⟩
              go_wp2_with fail
              go_ret
              exact ⟨rfl, HB6.out⟩
            · have hz' : ¬ (1000000 : Int) < (na : Int) := by omega
              go_wp2_with fail
              refine (CZ1.out _).mono ?_
              rintro e w7 ⟨rfl, rfl⟩
              go_wp2_with fail
              go_roundw
              case rel => exact ⟨k + 1, by omega, rfl, Lib.hid (HKM.out (by omega)), by first | rfl | trivial⟩
              case measure => simp [intV]; omega
          · obtain rfl : k = 3 := by omega
            obtain rfl := HN0.out HK.out
            have heq := HEQ.out.1
            rw [heq] at hE1
            clear heq
            rcases HEQ.out.2 with rfl | rfl
            · rw [decide_eq_true rfl] at hE1
              go_upto_region 10 with fail
              refine wp_region_quiet (C := fun W' => Below wr.heap.size wr W') (by kernel_rfl) (by kernel_rfl) (Below.refl _ wr).drew ?_
              refine Go.BigFrame.wpQuiet_want (by rfl) (fun K hK => ⟨.pointer (some ⟨w.heap.size + 1 + 1, 2, none⟩), fun WQ hWQ => ?_, hK _ ?_⟩)
              · clear hK
                unfold Oper.quietAt
                go_simp
              clear hK K
              simp only [Act.put, List.setIfInBounds_toArray, List.set_cons_succ, List.set_cons_zero]
              refine Go.BigFrame.wpQuiet_want (by rfl) (fun K hK => ⟨.agg #[.int .i64 x, .int .i64 y, .int .i64 z], fun WQ hWQ => ?_, hK _ ?_⟩)
              · clear hK
                obtain ⟨q0, q1, q2, q3, q4⟩ := cells5 (keepb hWQ HX6.out)
                unfold Oper.quietAt
                go_simp
              clear hK K
              simp only [Act.put, List.setIfInBounds_toArray, List.set_cons_succ, List.set_cons_zero]
              refine Go.BigFrame.wpQuiet_want (by rfl) (fun K hK => ⟨.agg #[.int .i64 x, .int .i64 y, .int .i64 z], fun WQ hWQ => ?_, hK _ ?_⟩)
              · clear hK
                unfold Oper.quietAt
                go_simp
                exact (CC.out WQ).mono (fun e w' h => ⟨h.1, andThen hWQ h.2⟩)
              clear hK K
              simp only [Act.put, List.setIfInBounds_toArray, List.set_cons_succ, List.set_cons_zero]
              refine Go.BigFrame.wpQuiet_want (by rfl) (fun K hK => ⟨.agg #[.int .i64 p0, .int .i64 p1, .int .i64 p2], fun WQ hWQ => ?_, hK _ ?_⟩)
              · clear hK
                obtain ⟨q0, q1, q2⟩ := cells3 (keepb hWQ HP6.out)
                unfold Oper.quietAt
                go_simp
              clear hK K
              simp only [Act.put, List.setIfInBounds_toArray, List.set_cons_succ, List.set_cons_zero]
              refine Go.BigFrame.wpQuiet_want (by rfl) (fun K hK => ⟨.bool true, fun WQ hWQ => ?_, hK _ ?_⟩)
              · clear hK
                unfold Oper.quietAt
                go_simp
              clear hK K
              simp only [Act.put, List.setIfInBounds_toArray, List.set_cons_succ, List.set_cons_zero]
              refine wpQuiet_nil ?_
              intro w7 hb
              have HB7 := Lib.hid (trans' HB6.out hb)
              clear hb
              go_wp2_with fail
              go_ret
              exact ⟨rfl, HB7.out⟩
            · rw [decide_eq_false (by decide)] at hE1
              go_upto_region 10 with fail
              refine wp_region_quiet (C := fun W' => Below wr.heap.size wr W') (by kernel_rfl) (by kernel_rfl) (Below.refl _ wr).drew ?_
              refine Go.BigFrame.wpQuiet_want (by rfl) (fun K hK => ⟨.pointer (some ⟨w.heap.size + 1 + 1, 2, none⟩), fun WQ hWQ => ?_, hK _ ?_⟩)
              · clear hK
                unfold Oper.quietAt
                go_simp
              clear hK K
              simp only [Act.put, List.setIfInBounds_toArray, List.set_cons_succ, List.set_cons_zero]
              refine Go.BigFrame.wpQuiet_want (by rfl) (fun K hK => ⟨.agg #[.int .i64 x, .int .i64 y, .int .i64 z], fun WQ hWQ => ?_, hK _ ?_⟩)
              · clear hK
                obtain ⟨q0, q1, q2, q3, q4⟩ := cells5 (keepb hWQ HX6.out)
                unfold Oper.quietAt
                go_simp
              clear hK K
              simp only [Act.put, List.setIfInBounds_toArray, List.set_cons_succ, List.set_cons_zero]
              refine Go.BigFrame.wpQuiet_want (by rfl) (fun K hK => ⟨.agg #[.int .i64 x, .int .i64 y, .int .i64 z], fun WQ hWQ => ?_, hK _ ?_⟩)
              · clear hK
                unfold Oper.quietAt
                go_simp
                exact (CC.out WQ).mono (fun e w' h => ⟨h.1, andThen hWQ h.2⟩)
              clear hK K
              simp only [Act.put, List.setIfInBounds_toArray, List.set_cons_succ, List.set_cons_zero]
              refine Go.BigFrame.wpQuiet_want (by rfl) (fun K hK => ⟨.agg #[.int .i64 p0, .int .i64 p1, .int .i64 p2], fun WQ hWQ => ?_, hK _ ?_⟩)
              · clear hK
                obtain ⟨q0, q1, q2⟩ := cells3 (keepb hWQ HP6.out)
                unfold Oper.quietAt
                go_simp
              clear hK K
              simp only [Act.put, List.setIfInBounds_toArray, List.set_cons_succ, List.set_cons_zero]
              refine Go.BigFrame.wpQuiet_want (by rfl) (fun K hK => ⟨.bool false, fun WQ hWQ => ?_, hK _ ?_⟩)
              · clear hK
                unfold Oper.quietAt
                go_simp
              clear hK K
              simp only [Act.put, List.setIfInBounds_toArray, List.set_cons_succ, List.set_cons_zero]
              refine wpQuiet_nil ?_
              intro w7 hb
              have HB7 := Lib.hid (trans' HB6.out hb)
              clear hb
              go_wp2_with fail
              go_ret
              exact ⟨rfl, HB7.out⟩
end Go.Proofs.Ytjokfmbknkeeeaa.Orb
