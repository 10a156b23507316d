import Derived.Test.YtjokfmbknkeeeaaZp
import Derived.Test.YtjokfmbknkeeeaaSv
import Derived.Test.YtjokfmbknkeeeaaSq
namespace Go.Proofs.Ytjokfmbknkeeeaa.Orb
open Go.RowKit Lib

theorem infoRange : (Try.prog.info? 34).map (fun i => (i.zero, i.size, i.bytes)) = some (some (.agg #[.int .i64 0, .int .i64 0]), 2, 16) := by kernel_rfl
/-- two pairs of ranges -/
theorem eq_two (a b c d a' b' c' d' : Int) (w : World) : (Op.equalIn 10000 35 (.agg #[.int .i64 a, .int .i64 b, .int .i64 c, .int .i64 d]) (.agg #[.int .i64 a', .int .i64 b', .int .i64 c', .int .i64 d'])).run Try.prog w =
    .ok ((a == a' && b == b') && (c == c' && d == d')) w := by
  obtain ⟨i0, hi, -⟩ := info_parts infoRange
  rw [run_equalIn_array (P := Try.prog) (w := w) 9999 (t := 35) (e := 34) (n := 2) (i := i0) _ _ Try.underlying35 hi]
  have hc : Try.prog.cellsOf 34 = 2 := by kernel_rfl
  have h1 := eq_rangeF 9997 a b a' b' w
  have h2 := eq_rangeF 9997 c d c' d' w
  rw [hc, show List.range 2 = [0, 1] from rfl]
  cases hx : (a == a' && b == b') <;> cases hy : (c == c' && d == d') <;> rw [hx] at h1 <;> rw [hy] at h2 <;>
    simp [Op.eqItems, Sem.run_bind, go_sem, h1, h2, Try.isAgg34, Result.andThen]
theorem guard_two : Try.prog.eqGuardType Try.prog.depth 35 = false := by kernel_rfl

set_option maxRecDepth 100000 in
set_option maxHeartbeats 16000000 in
theorem baselines_any (u1 u2 : Value) (n1 n2 : ByteArray) (b1 b2 : Int) (L1 L2 : List St) (hI1 : ∀ k, (gt L1 k).t ≤ 9223372036854775807) (hI2 : ∀ k, (gt L2 k).t ≤ 9223372036854775807) (f s x y z : Int) (w : World) (hv1 : OV w (.agg #[.string n1, .int .i64 b1, u1]) n1 b1 L1) (hv2 : OV w (.agg #[.string n2, .int .i64 b2, u2]) n2 b2 L2) :
    Calls Try.prog 3 #[.agg #[.string n1, .int .i64 b1, u1, .string n2, .int .i64 b2, u2], .agg #[.int .i64 f, .int .i64 s, .int .i64 x, .int .i64 y, .int .i64 z]] w fun e w' => e = .returned (.bool true) ∧ Below w.heap.size w w' := by
  have CA := Lib.hid awake_any
  have CF1 := Lib.hid (fun W (h : Below w.heap.size w W) => Few_any _ n1 b1 L1 W (hv1.next h))
  have CF2 := Lib.hid (fun W (h : Below w.heap.size w W) => Few_any _ n2 b2 L2 W (hv2.next h))
  cases hf1 : fewB n1.size L1.length with
  | false =>
    rw [hf1] at CF1
    clear hv1 hv2 hf1 hI1 hI2 CF2
    go_enter Try.func3, Try.ntmps3
    go_wp2_with fail
    obtain ⟨w0, hW⟩ : ∃ w0, w0 = (w.alloc (.cells #[.string n1, .int .i64 b1, u1, .string n2, .int .i64 b2, u2] 26)).alloc (.cells #[.int .i64 f, .int .i64 s, .int .i64 x, .int .i64 y, .int .i64 z] 30) := ⟨_, rfl⟩
    rw [← hW]
    have HB0 := Lib.hid (show Below w.heap.size w w0 by rw [hW]; (repeat (first | with_reducible exact Below.refl _ _ | with_reducible refine alloc1 ?_ _ | with_reducible refine Below.drew ?_ | with_reducible refine drewN1 ?_ _ | with_reducible refine setC ?_ (by omega) _)))
    have HP0 := Lib.hid (show w0.heap[w.heap.size]? = some (.cells #[.string n1, .int .i64 b1, u1, .string n2, .int .i64 b2, u2] 26 (0, 0)) by rw [hW]; (repeat (first | ((with_reducible refine hnew ?_); (simp; done)) | with_reducible refine hdrew ?_ | with_reducible refine hold ?_)))
    have HY0 := Lib.hid (show w0.heap[w.heap.size + 1]? = some (.cells #[.int .i64 f, .int .i64 s, .int .i64 x, .int .i64 y, .int .i64 z] 30 (0, 0)) by rw [hW]; (repeat (first | ((with_reducible refine hnew ?_); (simp; done)) | with_reducible refine hdrew ?_ | with_reducible refine hold ?_)))
    clear hW
    refine (CA.out _).mono ?_
    rintro e w1 ⟨rfl, hb⟩
    have HB1 := Lib.hid (trans' HB0.out hb)
    have HP1 := Lib.hid (keepb hb HP0.out)
    have HY1 := Lib.hid (keepb hb HY0.out)
    clear hb HB0 HP0 HY0
    obtain ⟨k0, k1, k2, k3, k4, k5⟩ := cells6 HP1.out
    go_wp2_with fail
    refine (CF1.out _ HB1.out).mono ?_
    rintro e w2 ⟨rfl, hb⟩
    have HB2 := Lib.hid (trans' HB1.out hb)
    have HP2 := Lib.hid (keepb hb HP1.out)
    have HY2 := Lib.hid (keepb hb HY1.out)
    clear hb HB1 HP1 HY1
    clear k0 k1 k2 k3 k4 k5
    go_wp2_with fail
    go_ret
    exact ⟨rfl, HB2.out⟩
  | true =>
   rw [hf1] at CF1
   cases hf2 : fewB n2.size L2.length with
   | false =>
    rw [hf2] at CF2
    clear hv1 hv2 hf1 hf2 hI1 hI2
    go_enter Try.func3, Try.ntmps3
    go_wp2_with fail
    obtain ⟨w0, hW⟩ : ∃ w0, w0 = (w.alloc (.cells #[.string n1, .int .i64 b1, u1, .string n2, .int .i64 b2, u2] 26)).alloc (.cells #[.int .i64 f, .int .i64 s, .int .i64 x, .int .i64 y, .int .i64 z] 30) := ⟨_, rfl⟩
    rw [← hW]
    have HB0 := Lib.hid (show Below w.heap.size w w0 by rw [hW]; (repeat (first | with_reducible exact Below.refl _ _ | with_reducible refine alloc1 ?_ _ | with_reducible refine Below.drew ?_ | with_reducible refine drewN1 ?_ _ | with_reducible refine setC ?_ (by omega) _)))
    have HP0 := Lib.hid (show w0.heap[w.heap.size]? = some (.cells #[.string n1, .int .i64 b1, u1, .string n2, .int .i64 b2, u2] 26 (0, 0)) by rw [hW]; (repeat (first | ((with_reducible refine hnew ?_); (simp; done)) | with_reducible refine hdrew ?_ | with_reducible refine hold ?_)))
    have HY0 := Lib.hid (show w0.heap[w.heap.size + 1]? = some (.cells #[.int .i64 f, .int .i64 s, .int .i64 x, .int .i64 y, .int .i64 z] 30 (0, 0)) by rw [hW]; (repeat (first | ((with_reducible refine hnew ?_); (simp; done)) | with_reducible refine hdrew ?_ | with_reducible refine hold ?_)))
    clear hW
    refine (CA.out _).mono ?_
    rintro e w1 ⟨rfl, hb⟩
    have HB1 := Lib.hid (trans' HB0.out hb)
    have HP1 := Lib.hid (keepb hb HP0.out)
    have HY1 := Lib.hid (keepb hb HY0.out)
    clear hb HB0 HP0 HY0
    obtain ⟨k0, k1, k2, k3, k4, k5⟩ := cells6 HP1.out
    go_wp2_with fail
    refine (CF1.out _ HB1.out).mono ?_
    rintro e w2 ⟨rfl, hb⟩
    have HB2 := Lib.hid (trans' HB1.out hb)
    have HP2 := Lib.hid (keepb hb HP1.out)
    have HY2 := Lib.hid (keepb hb HY1.out)
    clear hb HB1 HP1 HY1
    clear k0 k1 k2 k3 k4 k5
    obtain ⟨k0, k1, k2, k3, k4, k5⟩ := cells6 HP2.out
    go_wp2_with fail
    refine (CF2.out _ HB2.out).mono ?_
    rintro e w3 ⟨rfl, hb⟩
    have HB3 := Lib.hid (trans' HB2.out hb)
    have HP3 := Lib.hid (keepb hb HP2.out)
    have HY3 := Lib.hid (keepb hb HY2.out)
    clear hb HB2 HP2 HY2
    go_wp2_with fail
    go_ret
    exact ⟨rfl, HB3.out⟩
   | true =>
    rw [hf2] at CF2
    obtain ⟨hs1, hn1⟩ := fewB_true hf1
    obtain ⟨hs2, hn2⟩ := fewB_true hf2
    have CY1 := Lib.hid (fun W (h : Below w.heap.size w W) => Copy_any _ n1 b1 L1 (by omega) W (hv1.next h))
    have CY2 := Lib.hid (fun W (h : Below w.heap.size w W) => Copy_any _ n2 b2 L2 (by omega) W (hv2.next h))
    have CB := Lib.hid (fun v3 v4 W (h1 : OV W v3 n1 b1 L1) (h2 : OV W v4 n2 b2 L2) => Baseline_any v3 v4 n1 n2 (by omega) (by omega) b1 b2 L1 L2 (by omega) (by omega) hI1 hI2 f s x y z W h1 h2)
    have CE1 := Lib.hid (fun W (h : Below w.heap.size w W) => refErr_any _ n1 (by omega) b1 L1 W (hv1.next h))
    have CE2 := Lib.hid (fun W (h : Below w.heap.size w W) => refErr_any _ n2 (by omega) b2 L2 W (hv2.next h))
    have CX := Lib.hid (fun h1 h2 W (h : Below w.heap.size w W) => BaseErr_any _ _ n1 n2 b1 b2 L1 L2 f s x y z W (hv1.next h) (hv2.next h) h1 h2)
    have CR := Lib.hid (fun h1 h2 W (h : Below w.heap.size w W) => refBaseline_any _ _ n1 n2 b1 b2 L1 L2 f s x y z W (hv1.next h) (hv2.next h) h1 h2)
    have HZ : Hid (bsE (nameE n1) b1 L1 (nameE n2) b2 L2 f s x y z = 0 → bsE1 (nameE n1) b1 L1 (nameE n2) b2 L2 f s x y z = 0 ∧ bsE2 (dvC L1 L2 f s) (svC L1 f x y z) = 0 ∧ bsAl (dvC L1 L2 f s) (svC L1 f x y z) ≤ bsAh (dvC L1 L2 f s) (svC L1 f x y z) ∧ bsCl (dvC L1 L2 f s) (svC L1 f x y z) ≤ bsCh (dvC L1 L2 f s) (svC L1 f x y z)) := by
      intro h0
      unfold bsE at h0
      by_cases h1 : bsE1 (nameE n1) b1 L1 (nameE n2) b2 L2 f s x y z = 0
      · rw [if_pos h1] at h0
        obtain ⟨⟨-, hR1⟩, -, ha, -, hp⟩ := bsE1_zero h1
        obtain ⟨r1, r2, r3⟩ := (placeE_zero x y z).1 hp
        have q := nom_bd hR1 ha.1 ha.2
        have hsb : ∀ k, -200000000 ≤ svC L1 f x y z k ∧ svC L1 f x y z k ≤ 200000000 := by
          intro k
          have := q k
          unfold svC cc3
          split
          · omega
          · split <;> omega
        obtain ⟨-, -, -, -, a, b⟩ := bs_ok h0 hsb
        exact ⟨h1, h0, a, b⟩
      · rw [if_neg h1] at h0
        exact absurd h0 h1
    have HE : Hid (((orbE (nameE n1) b1 L1).2 ≠ 0 → bsE (nameE n1) b1 L1 (nameE n2) b2 L2 f s x y z = (orbE (nameE n1) b1 L1).2) ∧ ((orbE (nameE n1) b1 L1).2 = 0 → (orbE (nameE n2) b2 L2).2 ≠ 0 → bsE (nameE n1) b1 L1 (nameE n2) b2 L2 f s x y z = (orbE (nameE n2) b2 L2).2)) := by
      refine ⟨fun h => ?_, fun h1 h => ?_⟩
      · have e : bsE1 (nameE n1) b1 L1 (nameE n2) b2 L2 f s x y z = (orbE (nameE n1) b1 L1).2 := by
          unfold bsE1
          simp [firstE, h]
        unfold bsE
        rw [e, if_neg h]
      · have e : bsE1 (nameE n1) b1 L1 (nameE n2) b2 L2 f s x y z = (orbE (nameE n2) b2 L2).2 := by
          unfold bsE1
          simp [firstE, h1, h]
        unfold bsE
        rw [e, if_neg h]
    clear hv1 hv2 hf1 hf2 hI1 hI2 hs1 hn1 hs2 hn2
    generalize bsE (nameE n1) b1 L1 (nameE n2) b2 L2 f s x y z = c at *
    generalize bsE1 (nameE n1) b1 L1 (nameE n2) b2 L2 f s x y z = c1 at *
    generalize bsE2 (dvC L1 L2 f s) (svC L1 f x y z) = c2 at *
    generalize (orbE (nameE n1) b1 L1).2 = e1 at *
    generalize (orbE (nameE n2) b2 L2).2 = e2 at *
    generalize bsAl (dvC L1 L2 f s) (svC L1 f x y z) = al at *
    generalize bsAh (dvC L1 L2 f s) (svC L1 f x y z) = ah at *
    generalize bsCl (dvC L1 L2 f s) (svC L1 f x y z) = cl at *
    generalize bsCh (dvC L1 L2 f s) (svC L1 f x y z) = ch at *
    obtain ⟨za, hza⟩ : ∃ t, t = zif c al := ⟨_, rfl⟩
    obtain ⟨zb, hzb⟩ : ∃ t, t = zif c ah := ⟨_, rfl⟩
    obtain ⟨zc, hzc⟩ : ∃ t, t = zif c cl := ⟨_, rfl⟩
    obtain ⟨zd, hzd⟩ : ∃ t, t = zif c ch := ⟨_, rfl⟩
    rw [← hza, ← hzb, ← hzc, ← hzd] at CB
    have HQ := Lib.hid (And.intro hza (And.intro hzb (And.intro hzc hzd)))
    clear hza hzb hzc hzd
    go_enter Try.func3, Try.ntmps3
    go_wp2_with fail
    obtain ⟨w0, hW⟩ : ∃ w0, w0 = (w.alloc (.cells #[.string n1, .int .i64 b1, u1, .string n2, .int .i64 b2, u2] 26)).alloc (.cells #[.int .i64 f, .int .i64 s, .int .i64 x, .int .i64 y, .int .i64 z] 30) := ⟨_, rfl⟩
    rw [← hW]
    have HB0 := Lib.hid (show Below w.heap.size w w0 by rw [hW]; (repeat (first | with_reducible exact Below.refl _ _ | with_reducible refine alloc1 ?_ _ | with_reducible refine Below.drew ?_ | with_reducible refine drewN1 ?_ _ | with_reducible refine setC ?_ (by omega) _)))
    have HP0 := Lib.hid (show w0.heap[w.heap.size]? = some (.cells #[.string n1, .int .i64 b1, u1, .string n2, .int .i64 b2, u2] 26 (0, 0)) by rw [hW]; (repeat (first | ((with_reducible refine hnew ?_); (simp; done)) | with_reducible refine hdrew ?_ | with_reducible refine hold ?_)))
    have HY0 := Lib.hid (show w0.heap[w.heap.size + 1]? = some (.cells #[.int .i64 f, .int .i64 s, .int .i64 x, .int .i64 y, .int .i64 z] 30 (0, 0)) by rw [hW]; (repeat (first | ((with_reducible refine hnew ?_); (simp; done)) | with_reducible refine hdrew ?_ | with_reducible refine hold ?_)))
    clear hW
    refine (CA.out _).mono ?_
    rintro e w1 ⟨rfl, hb⟩
    have HB1 := Lib.hid (trans' HB0.out hb)
    have HP1 := Lib.hid (keepb hb HP0.out)
    have HY1 := Lib.hid (keepb hb HY0.out)
    clear hb HB0 HP0 HY0
    obtain ⟨k0, k1, k2, k3, k4, k5⟩ := cells6 HP1.out
    go_wp2_with fail
    refine (CF1.out _ HB1.out).mono ?_
    rintro e w2 ⟨rfl, hb⟩
    have HB2 := Lib.hid (trans' HB1.out hb)
    have HP2 := Lib.hid (keepb hb HP1.out)
    have HY2 := Lib.hid (keepb hb HY1.out)
    clear hb HB1 HP1 HY1
    clear k0 k1 k2 k3 k4 k5
    obtain ⟨k0, k1, k2, k3, k4, k5⟩ := cells6 HP2.out
    go_wp2_with fail
    refine (CF2.out _ HB2.out).mono ?_
    rintro e w3 ⟨rfl, hb⟩
    have HB3 := Lib.hid (trans' HB2.out hb)
    have HP3 := Lib.hid (keepb hb HP2.out)
    have HY3 := Lib.hid (keepb hb HY2.out)
    clear hb HB2 HP2 HY2
    clear k0 k1 k2 k3 k4 k5 CA CF1 CF2
    go_upto_region 5 with fail
    obtain ⟨k0, k1, k2, k3, k4, k5⟩ := cells6 HP3.out
    obtain ⟨y0, y1, y2, y3, y4⟩ := cells5 HY3.out
    go_cut [5, 6] from 20 to 30 (fun s5 s6 wx => ∃ b5, s5 = .pointer (some ⟨b5, 0, none⟩) ∧ s6 = .int .i64 c ∧ Hid (Below w3.heap.size w3 wx) ∧ Hid (wx.heap[b5]? = some (.cells #[.int .i64 za, .int .i64 zb, .int .i64 zc, .int .i64 zd] 35 (0, 0))))
    case first =>
      go_region_held3 (fun W => W.cell? ⟨w.heap.size, 0, none⟩ = some (.string n1) ∧ W.cell? ⟨w.heap.size, 1, none⟩ = some (.int .i64 b1) ∧ W.cell? ⟨w.heap.size, 2, none⟩ = some (u1) ∧ W.cell? ⟨w.heap.size, 3, none⟩ = some (.string n2) ∧ W.cell? ⟨w.heap.size, 4, none⟩ = some (.int .i64 b2) ∧ W.cell? ⟨w.heap.size, 5, none⟩ = some (u2) ∧ W.cell? ⟨w.heap.size + 1, 0, none⟩ = some (.int .i64 f) ∧ W.cell? ⟨w.heap.size + 1, 1, none⟩ = some (.int .i64 s) ∧ W.cell? ⟨w.heap.size + 1, 2, none⟩ = some (.int .i64 x) ∧ W.cell? ⟨w.heap.size + 1, 3, none⟩ = some (.int .i64 y) ∧ W.cell? ⟨w.heap.size + 1, 4, none⟩ = some (.int .i64 z))
        (with_reducible refine ⟨keepc ?_ k0, keepc ?_ k1, keepc ?_ k2, keepc ?_ k3, keepc ?_ k4, keepc ?_ k5, keepc ?_ y0, keepc ?_ y1, keepc ?_ y2, keepc ?_ y3, keepc ?_ y4⟩ <;> (repeat (first | with_reducible exact Below.refl _ _ | with_reducible refine andThen ?_ hbP | with_reducible refine andThen ?_ hbY | with_reducible refine andThen ?_ hbZ | with_reducible refine alloc1 ?_ _ | with_reducible refine Below.drew ?_ | with_reducible refine setC ?_ (by first | exact Nat.le_refl _ | exact hbY.size | exact hbZ.size | exact hbP.size | (have := hbY.size; have := hbZ.size; have := hbP.size; simp at *; omega) | (have := hbY.size; have := hbZ.size; simp at *; omega) | (have := hbZ.size; simp at *; omega) | (have := hbY.size; simp at *; omega)) _)) <;> done)
        (first
          | (go_at_call 12; (with_reducible refine (CY1.out _ (trans' HB3.out (by (repeat (first | with_reducible exact Below.refl _ _ | with_reducible refine andThen ?_ hbP | with_reducible refine andThen ?_ hbY | with_reducible refine andThen ?_ hbZ | with_reducible refine alloc1 ?_ _ | with_reducible refine Below.drew ?_ | with_reducible refine setC ?_ (by first | exact Nat.le_refl _ | exact hbY.size | exact hbZ.size | exact hbP.size | (have := hbY.size; have := hbZ.size; have := hbP.size; simp at *; omega) | (have := hbY.size; have := hbZ.size; simp at *; omega) | (have := hbZ.size; simp at *; omega) | (have := hbY.size; simp at *; omega)) _))))).mono ?_); rintro e wY ⟨v3, rfl, hbY, hv3⟩; first | (have QB := Lib.hid (keepb hbY QB.out); obtain ⟨⟨q0, q1, q2, q3⟩, g0, g1, g2, g3⟩ := quad_cells QB.out) | (have QB := Lib.hid (keepb hbY (heap_alloc_new _ _)); obtain ⟨⟨q0, q1, q2, q3⟩, g0, g1, g2, g3⟩ := quad_cells QB.out) | skip)
          | (go_at_call 12; (with_reducible refine (CY2.out _ (trans' HB3.out (by (repeat (first | with_reducible exact Below.refl _ _ | with_reducible refine andThen ?_ hbP | with_reducible refine andThen ?_ hbY | with_reducible refine andThen ?_ hbZ | with_reducible refine alloc1 ?_ _ | with_reducible refine Below.drew ?_ | with_reducible refine setC ?_ (by first | exact Nat.le_refl _ | exact hbY.size | exact hbZ.size | exact hbP.size | (have := hbY.size; have := hbZ.size; have := hbP.size; simp at *; omega) | (have := hbY.size; have := hbZ.size; simp at *; omega) | (have := hbZ.size; simp at *; omega) | (have := hbY.size; simp at *; omega)) _))))).mono ?_); rintro e wZ ⟨v4, rfl, hbZ, hv4⟩; first | (have QB := Lib.hid (keepb hbZ QB.out); obtain ⟨⟨q0, q1, q2, q3⟩, g0, g1, g2, g3⟩ := quad_cells QB.out) | (have QB := Lib.hid (keepb hbZ (heap_alloc_new _ _)); obtain ⟨⟨q0, q1, q2, q3⟩, g0, g1, g2, g3⟩ := quad_cells QB.out) | skip)
          | (go_at_call 11; (with_reducible refine (CB.out _ _ _ (hv3.next (by (repeat (first | with_reducible exact Below.refl _ _ | with_reducible refine andThen ?_ hbP | with_reducible refine andThen ?_ hbY | with_reducible refine andThen ?_ hbZ | with_reducible refine alloc1 ?_ _ | with_reducible refine Below.drew ?_ | with_reducible refine setC ?_ (by first | exact Nat.le_refl _ | exact hbY.size | exact hbZ.size | exact hbP.size | (have := hbY.size; have := hbZ.size; have := hbP.size; simp at *; omega) | (have := hbY.size; have := hbZ.size; simp at *; omega) | (have := hbZ.size; simp at *; omega) | (have := hbY.size; simp at *; omega)) _)))) (hv4.next (by (repeat (first | with_reducible exact Below.refl _ _ | with_reducible refine andThen ?_ hbP | with_reducible refine andThen ?_ hbY | with_reducible refine andThen ?_ hbZ | with_reducible refine alloc1 ?_ _ | with_reducible refine Below.drew ?_ | with_reducible refine setC ?_ (by first | exact Nat.le_refl _ | exact hbY.size | exact hbZ.size | exact hbP.size | (have := hbY.size; have := hbZ.size; have := hbP.size; simp at *; omega) | (have := hbY.size; have := hbZ.size; simp at *; omega) | (have := hbZ.size; simp at *; omega) | (have := hbY.size; simp at *; omega)) _))))).mono ?_); rintro e wP ⟨rfl, hbP⟩; first | (have QB := Lib.hid (keepb hbP QB.out); obtain ⟨⟨q0, q1, q2, q3⟩, g0, g1, g2, g3⟩ := quad_cells QB.out) | (have QB := Lib.hid (keepb hbP (heap_alloc_new _ _)); obtain ⟨⟨q0, q1, q2, q3⟩, g0, g1, g2, g3⟩ := quad_cells QB.out) | skip))
      all_goals
        go_wp2_with fail
        go_meet
        case rel =>
          first
            | exact ⟨_, rfl, rfl, Lib.hid (by (repeat (first | with_reducible exact Below.refl _ _ | with_reducible refine andThen ?_ hbP | with_reducible refine andThen ?_ hbY | with_reducible refine andThen ?_ hbZ | with_reducible refine alloc1 ?_ _ | with_reducible refine Below.drew ?_ | with_reducible refine setC ?_ (by first | exact Nat.le_refl _ | exact hbY.size | exact hbZ.size | exact hbP.size | (have := hbY.size; have := hbZ.size; have := hbP.size; simp at *; omega) | (have := hbY.size; have := hbZ.size; simp at *; omega) | (have := hbZ.size; simp at *; omega) | (have := hbY.size; simp at *; omega)) _))), Lib.hid (set_block (set_block (set_block (set_block QB.out))))⟩
            | exact ⟨_, rfl, rfl, Lib.hid (by (repeat (first | with_reducible exact Below.refl _ _ | with_reducible refine andThen ?_ hbP | with_reducible refine andThen ?_ hbY | with_reducible refine andThen ?_ hbZ | with_reducible refine alloc1 ?_ _ | with_reducible refine Below.drew ?_ | with_reducible refine setC ?_ (by first | exact Nat.le_refl _ | exact hbY.size | exact hbZ.size | exact hbP.size | (have := hbY.size; have := hbZ.size; have := hbP.size; simp at *; omega) | (have := hbY.size; have := hbZ.size; simp at *; omega) | (have := hbZ.size; simp at *; omega) | (have := hbY.size; simp at *; omega)) _))), Lib.hid (by (repeat (first | ((with_reducible refine hnew ?_); (simp; done)) | with_reducible refine hdrew ?_ | with_reducible refine hold ?_)))⟩
    obtain ⟨b5, rfl, rfl, HBX, H5⟩ := hcut
    obtain ⟨w4, rfl⟩ : ∃ w4 : World, w4 = wc := ⟨_, rfl⟩
    have HB4 := Lib.hid (trans' HB3.out HBX.out)
    have HP4 := Lib.hid (keepb HBX.out HP3.out)
    have HY4 := Lib.hid (keepb HBX.out HY3.out)
    have HR4 := Lib.hid H5.out
    clear k0 k1 k2 k3 k4 k5 y0 y1 y2 y3 y4 HB3 HP3 HY3 HBX H5 CY1 CY2 CB
    obtain ⟨k0, k1, k2, k3, k4, k5⟩ := cells6 HP4.out
    go_wp2_with fail
    refine (CE1.out _ HB4.out).mono ?_
    rintro e w5 ⟨rfl, hb⟩
    have HB5 := Lib.hid (trans' HB4.out hb)
    have HP5 := Lib.hid (keepb hb HP4.out)
    have HY5 := Lib.hid (keepb hb HY4.out)
    have HR5 := Lib.hid (keepb hb HR4.out)
    clear hb HB4 HP4 HY4 HR4
    clear k0 k1 k2 k3 k4 k5 CE1
    have HG := Lib.hid guard_two
    by_cases h1 : e1 = 0
    · subst h1
      obtain ⟨k0, k1, k2, k3, k4, k5⟩ := cells6 HP5.out
      go_wp2_with fail
      refine (CE2.out _ HB5.out).mono ?_
      rintro e w6 ⟨rfl, hb⟩
      have HB6 := Lib.hid (trans' HB5.out hb)
      have HP6 := Lib.hid (keepb hb HP5.out)
      have HY6 := Lib.hid (keepb hb HY5.out)
      have HR6 := Lib.hid (keepb hb HR5.out)
      clear hb HB5 HP5 HY5 HR5
      clear k0 k1 k2 k3 k4 k5 CE2
      by_cases h2 : e2 = 0
      · subst h2
        have CX0 := Lib.hid (CX.out (by first | rfl | trivial) (by first | rfl | trivial))
        obtain ⟨k0, k1, k2, k3, k4, k5⟩ := cells6 HP6.out
        obtain ⟨y0, y1, y2, y3, y4⟩ := cells5 HY6.out
        go_wp2_with fail
        refine (CX0.out _ HB6.out).mono ?_
        rintro e w7 ⟨rfl, hb⟩
        have HB7 := Lib.hid (trans' HB6.out hb)
        have HP7 := Lib.hid (keepb hb HP6.out)
        have HY7 := Lib.hid (keepb hb HY6.out)
        have HR7 := Lib.hid (keepb hb HR6.out)
        clear hb HB6 HP6 HY6 HR6
        clear k0 k1 k2 k3 k4 k5 y0 y1 y2 y3 y4 CX CX0
        by_cases h0 : c = 0
        · subst h0
          obtain ⟨d1, d2, d3, d4⟩ := HQ.out
          obtain ⟨z1, z2, z3, z4⟩ := HZ.out (by first | rfl | trivial)
          have CR0 := Lib.hid (CR.out z1 z2)
          have a1 : za = al := d1.trans (if_pos rfl)
          have a2 : zb = ah := d2.trans (if_pos rfl)
          have a3 : zc = cl := d3.trans (if_pos rfl)
          have a4 : zd = ch := d4.trans (if_pos rfl)
          clear d1 d2 d3 d4 HQ
          subst a1 a2 a3 a4
          have HL1 := Lib.hid z3
          have HL2 := Lib.hid z4
          have HE2 := Lib.hid (eq_two za zb zc zd za zb zc zd)
          clear z1 z2 z3 z4 HZ CR HE
          go_upto_region 13 with fail
          refine wp_region_quiet (C := fun W' => Below w7.heap.size w7 W') (by kernel_rfl) (by kernel_rfl) (Below.refl _ w7).drew ?_
          refine Go.BigFrame.wpQuiet_want (by rfl) (fun K hK => ⟨.int .i64 0, fun WQ hWQ => ?_, hK _ ?_⟩)
          · clear hK
            unfold Oper.quietAt
            go_simp
          clear hK K
          simp only [Act.put, List.setIfInBounds_toArray, List.set_cons_succ, List.set_cons_zero]
          refine Go.BigFrame.wpQuiet_want (by rfl) (fun K hK => ⟨.bool true, fun WQ hWQ => ?_, hK _ ?_⟩)
          · clear hK
            unfold Oper.quietAt
            go_simp
          clear hK K
          simp only [Act.put, List.setIfInBounds_toArray, List.set_cons_succ, List.set_cons_zero]
          refine Go.BigFrame.wpQuiet_want (by rfl) (fun K hK => ⟨.bool true, fun WQ hWQ => ?_, hK _ ?_⟩)
          · clear hK
            unfold Oper.quietAt
            go_simp
          clear hK K
          simp only [Act.put, List.setIfInBounds_toArray, List.set_cons_succ, List.set_cons_zero]
          refine Go.BigFrame.wpQuiet_want (by rfl) (fun K hK => ⟨.agg #[.int .i64 za, .int .i64 zb, .int .i64 zc, .int .i64 zd], fun WQ hWQ => ?_, hK _ ?_⟩)
          · clear hK
            obtain ⟨⟨q0, q1, q2, q3⟩, -⟩ := quad_cells (keepb hWQ HR7.out)
            unfold Oper.quietAt
            go_simp
          clear hK K
          simp only [Act.put, List.setIfInBounds_toArray, List.set_cons_succ, List.set_cons_zero]
          refine Go.BigFrame.wpQuiet_want (by rfl) (fun K hK => ⟨.pointer (some ⟨w.heap.size, 0, none⟩), fun WQ hWQ => ?_, hK _ ?_⟩)
          · clear hK
            unfold Oper.quietAt
            go_simp
          clear hK K
          simp only [Act.put, List.setIfInBounds_toArray, List.set_cons_succ, List.set_cons_zero]
          refine Go.BigFrame.wpQuiet_want (by rfl) (fun K hK => ⟨.agg #[.string n1, .int .i64 b1, u1], fun WQ hWQ => ?_, hK _ ?_⟩)
          · clear hK
            obtain ⟨q0, q1, q2, q3, q4, q5⟩ := cells6 (keepb hWQ HP7.out)
            unfold Oper.quietAt
            go_simp
          clear hK K
          simp only [Act.put, List.setIfInBounds_toArray, List.set_cons_succ, List.set_cons_zero]
          refine Go.BigFrame.wpQuiet_want (by rfl) (fun K hK => ⟨.pointer (some ⟨w.heap.size, 3, none⟩), fun WQ hWQ => ?_, hK _ ?_⟩)
          · clear hK
            unfold Oper.quietAt
            go_simp
          clear hK K
          simp only [Act.put, List.setIfInBounds_toArray, List.set_cons_succ, List.set_cons_zero]
          refine Go.BigFrame.wpQuiet_want (by rfl) (fun K hK => ⟨.agg #[.string n2, .int .i64 b2, u2], fun WQ hWQ => ?_, hK _ ?_⟩)
          · clear hK
            obtain ⟨q0, q1, q2, q3, q4, q5⟩ := cells6 (keepb hWQ HP7.out)
            unfold Oper.quietAt
            go_simp
          clear hK K
          simp only [Act.put, List.setIfInBounds_toArray, List.set_cons_succ, List.set_cons_zero]
          refine Go.BigFrame.wpQuiet_want (by rfl) (fun K hK => ⟨.agg #[.int .i64 f, .int .i64 s, .int .i64 x, .int .i64 y, .int .i64 z], fun WQ hWQ => ?_, hK _ ?_⟩)
          · clear hK
            obtain ⟨q0, q1, q2, q3, q4⟩ := cells5 (keepb hWQ HY7.out)
            unfold Oper.quietAt
            go_simp
          clear hK K
          simp only [Act.put, List.setIfInBounds_toArray, List.set_cons_succ, List.set_cons_zero]
          refine Go.BigFrame.wpQuiet_want (by rfl) (fun K hK => ⟨.agg #[.int .i64 za, .int .i64 zb, .int .i64 zc, .int .i64 zd], fun WQ hWQ => ?_, hK _ ?_⟩)
          · clear hK
            unfold Oper.quietAt
            go_simp
            exact (CR0.out WQ (trans' HB7.out hWQ)).mono (fun e w' h => ⟨h.1, andThen hWQ h.2⟩)
          clear hK K
          simp only [Act.put, List.setIfInBounds_toArray, List.set_cons_succ, List.set_cons_zero]
          refine Go.BigFrame.wpQuiet_want (by rfl) (fun K hK => ⟨.bool true, fun WQ hWQ => ?_, hK _ ?_⟩)
          · clear hK
            have hE := HE2.out
            have hG := HG.out
            unfold Oper.quietAt
            go_simp
          clear hK K
          simp only [Act.put, List.setIfInBounds_toArray, List.set_cons_succ, List.set_cons_zero]
          refine Go.BigFrame.wpQuiet_want (by rfl) (fun K hK => ⟨.bool true, fun WQ hWQ => ?_, hK _ ?_⟩)
          · clear hK
            unfold Oper.quietAt
            go_simp
          clear hK K
          simp only [Act.put, List.setIfInBounds_toArray, List.set_cons_succ, List.set_cons_zero]
          refine Go.BigFrame.wpQuiet_want (by rfl) (fun K hK => ⟨.bool true, fun WQ hWQ => ?_, hK _ ?_⟩)
          · clear hK
            unfold Oper.quietAt
            go_simp
          clear hK K
          simp only [Act.put, List.setIfInBounds_toArray, List.set_cons_succ, List.set_cons_zero]
          refine Go.BigFrame.wpQuiet_want (by rfl) (fun K hK => ⟨.pointer (some ⟨b5, 0, none⟩), fun WQ hWQ => ?_, hK _ ?_⟩)
          · clear hK
            unfold Oper.quietAt
            go_simp
          clear hK K
          simp only [Act.put, List.setIfInBounds_toArray, List.set_cons_succ, List.set_cons_zero]
          refine Go.BigFrame.wpQuiet_want (by rfl) (fun K hK => ⟨.pointer (some ⟨b5, 0, none⟩), fun WQ hWQ => ?_, hK _ ?_⟩)
          · clear hK
            unfold Oper.quietAt
            go_simp
          clear hK K
          simp only [Act.put, List.setIfInBounds_toArray, List.set_cons_succ, List.set_cons_zero]
          refine Go.BigFrame.wpQuiet_want (by rfl) (fun K hK => ⟨.int .i64 za, fun WQ hWQ => ?_, hK _ ?_⟩)
          · clear hK
            obtain ⟨⟨q0, q1, q2, q3⟩, -⟩ := quad_cells (keepb hWQ HR7.out)
            unfold Oper.quietAt
            go_simp
          clear hK K
          simp only [Act.put, List.setIfInBounds_toArray, List.set_cons_succ, List.set_cons_zero]
          refine Go.BigFrame.wpQuiet_want (by rfl) (fun K hK => ⟨.pointer (some ⟨b5, 0, none⟩), fun WQ hWQ => ?_, hK _ ?_⟩)
          · clear hK
            unfold Oper.quietAt
            go_simp
          clear hK K
          simp only [Act.put, List.setIfInBounds_toArray, List.set_cons_succ, List.set_cons_zero]
          refine Go.BigFrame.wpQuiet_want (by rfl) (fun K hK => ⟨.pointer (some ⟨b5, 1, none⟩), fun WQ hWQ => ?_, hK _ ?_⟩)
          · clear hK
            unfold Oper.quietAt
            go_simp
          clear hK K
          simp only [Act.put, List.setIfInBounds_toArray, List.set_cons_succ, List.set_cons_zero]
          refine Go.BigFrame.wpQuiet_want (by rfl) (fun K hK => ⟨.int .i64 zb, fun WQ hWQ => ?_, hK _ ?_⟩)
          · clear hK
            obtain ⟨⟨q0, q1, q2, q3⟩, -⟩ := quad_cells (keepb hWQ HR7.out)
            unfold Oper.quietAt
            go_simp
          clear hK K
          simp only [Act.put, List.setIfInBounds_toArray, List.set_cons_succ, List.set_cons_zero]
          refine Go.BigFrame.wpQuiet_want (by rfl) (fun K hK => ⟨.bool true, fun WQ hWQ => ?_, hK _ ?_⟩)
          · clear hK
            have hl := HL1.out
            unfold Oper.quietAt
            go_simp
          clear hK K
          simp only [Act.put, List.setIfInBounds_toArray, List.set_cons_succ, List.set_cons_zero]
          refine Go.BigFrame.wpQuiet_want (by rfl) (fun K hK => ⟨.bool true, fun WQ hWQ => ?_, hK _ ?_⟩)
          · clear hK
            unfold Oper.quietAt
            go_simp
          clear hK K
          simp only [Act.put, List.setIfInBounds_toArray, List.set_cons_succ, List.set_cons_zero]
          refine Go.BigFrame.wpQuiet_want (by rfl) (fun K hK => ⟨.bool true, fun WQ hWQ => ?_, hK _ ?_⟩)
          · clear hK
            unfold Oper.quietAt
            go_simp
          clear hK K
          simp only [Act.put, List.setIfInBounds_toArray, List.set_cons_succ, List.set_cons_zero]
          refine Go.BigFrame.wpQuiet_want (by rfl) (fun K hK => ⟨.pointer (some ⟨b5, 2, none⟩), fun WQ hWQ => ?_, hK _ ?_⟩)
          · clear hK
            unfold Oper.quietAt
            go_simp
          clear hK K
          simp only [Act.put, List.setIfInBounds_toArray, List.set_cons_succ, List.set_cons_zero]
          refine Go.BigFrame.wpQuiet_want (by rfl) (fun K hK => ⟨.pointer (some ⟨b5, 2, none⟩), fun WQ hWQ => ?_, hK _ ?_⟩)
          · clear hK
            unfold Oper.quietAt
            go_simp
          clear hK K
          simp only [Act.put, List.setIfInBounds_toArray, List.set_cons_succ, List.set_cons_zero]
          refine Go.BigFrame.wpQuiet_want (by rfl) (fun K hK => ⟨.int .i64 zc, fun WQ hWQ => ?_, hK _ ?_⟩)
          · clear hK
            obtain ⟨⟨q0, q1, q2, q3⟩, -⟩ := quad_cells (keepb hWQ HR7.out)
            unfold Oper.quietAt
            go_simp
          clear hK K
          simp only [Act.put, List.setIfInBounds_toArray, List.set_cons_succ, List.set_cons_zero]
          refine Go.BigFrame.wpQuiet_want (by rfl) (fun K hK => ⟨.pointer (some ⟨b5, 2, none⟩), fun WQ hWQ => ?_, hK _ ?_⟩)
          · clear hK
            unfold Oper.quietAt
            go_simp
          clear hK K
          simp only [Act.put, List.setIfInBounds_toArray, List.set_cons_succ, List.set_cons_zero]
          refine Go.BigFrame.wpQuiet_want (by rfl) (fun K hK => ⟨.pointer (some ⟨b5, 3, none⟩), fun WQ hWQ => ?_, hK _ ?_⟩)
          · clear hK
            unfold Oper.quietAt
            go_simp
          clear hK K
          simp only [Act.put, List.setIfInBounds_toArray, List.set_cons_succ, List.set_cons_zero]
          refine Go.BigFrame.wpQuiet_want (by rfl) (fun K hK => ⟨.int .i64 zd, fun WQ hWQ => ?_, hK _ ?_⟩)
          · clear hK
            obtain ⟨⟨q0, q1, q2, q3⟩, -⟩ := quad_cells (keepb hWQ HR7.out)
            unfold Oper.quietAt
            go_simp
          clear hK K
          simp only [Act.put, List.setIfInBounds_toArray, List.set_cons_succ, List.set_cons_zero]
          refine Go.BigFrame.wpQuiet_want (by rfl) (fun K hK => ⟨.bool true, fun WQ hWQ => ?_, hK _ ?_⟩)
          · clear hK
            have hl := HL2.out
            unfold Oper.quietAt
            go_simp
          clear hK K
          simp only [Act.put, List.setIfInBounds_toArray, List.set_cons_succ, List.set_cons_zero]
          refine Go.BigFrame.wpQuiet_want (by rfl) (fun K hK => ⟨.bool true, fun WQ hWQ => ?_, hK _ ?_⟩)
          · clear hK
            unfold Oper.quietAt
            go_simp
          clear hK K
          simp only [Act.put, List.setIfInBounds_toArray, List.set_cons_succ, List.set_cons_zero]
          refine Go.BigFrame.wpQuiet_want (by rfl) (fun K hK => ⟨.bool true, fun WQ hWQ => ?_, hK _ ?_⟩)
          · clear hK
            unfold Oper.quietAt
            go_simp
          clear hK K
          simp only [Act.put, List.setIfInBounds_toArray, List.set_cons_succ, List.set_cons_zero]
          refine wpQuiet_nil ?_
          intro W8 hb8
          have HB8 := Lib.hid (trans' HB7.out hb8)
          clear hb8
          go_wp2_with fail
          go_ret
          exact ⟨rfl, HB8.out⟩
        · obtain ⟨d1, d2, d3, d4⟩ := HQ.out
          have a1 : za = 0 := d1.trans (if_neg h0)
          have a2 : zb = 0 := d2.trans (if_neg h0)
          have a3 : zc = 0 := d3.trans (if_neg h0)
          have a4 : zd = 0 := d4.trans (if_neg h0)
          clear d1 d2 d3 d4 HQ
          subst a1 a2 a3 a4
          have hne : (c != 0) = true := by rw [bne_iff_ne]; exact h0
          clear HZ CR HE
          obtain ⟨⟨q0, q1, q2, q3⟩, -⟩ := quad_cells HR7.out
          have hE := eq_two 0 0 0 0 0 0 0 0
          have hG := HG.out
          go_wp2_with fail
          go_ret
          exact ⟨rfl, HB7.out⟩
      · obtain rfl := (HE.out.2 (by first | rfl | trivial) h2).symm
        obtain ⟨d1, d2, d3, d4⟩ := HQ.out
        have a1 : za = 0 := d1.trans (if_neg h2)
        have a2 : zb = 0 := d2.trans (if_neg h2)
        have a3 : zc = 0 := d3.trans (if_neg h2)
        have a4 : zd = 0 := d4.trans (if_neg h2)
        clear d1 d2 d3 d4 HQ
        subst a1 a2 a3 a4
        have hne : (e2 != 0) = true := by rw [bne_iff_ne]; exact h2
        clear HZ CR HE CX
        obtain ⟨⟨q0, q1, q2, q3⟩, -⟩ := quad_cells HR6.out
        have hE := eq_two 0 0 0 0 0 0 0 0
        have hG := HG.out
        go_wp2_with fail
        go_ret
        exact ⟨rfl, HB6.out⟩
    · obtain rfl := (HE.out.1 h1).symm
      obtain ⟨d1, d2, d3, d4⟩ := HQ.out
      have a1 : za = 0 := d1.trans (if_neg h1)
      have a2 : zb = 0 := d2.trans (if_neg h1)
      have a3 : zc = 0 := d3.trans (if_neg h1)
      have a4 : zd = 0 := d4.trans (if_neg h1)
      clear d1 d2 d3 d4 HQ
      subst a1 a2 a3 a4
      have hne : (e1 != 0) = true := by rw [bne_iff_ne]; exact h1
      clear HZ CR HE CX CE2
      obtain ⟨⟨q0, q1, q2, q3⟩, -⟩ := quad_cells HR5.out
      have hE := eq_two 0 0 0 0 0 0 0 0
      have hG := HG.out
      go_wp2_with fail
      go_ret
      exact ⟨rfl, HB5.out⟩
end Go.Proofs.Ytjokfmbknkeeeaa.Orb
