import Derived.Test.YtjokfmbknkeeeaaZm
import Derived.Test.YtjokfmbknkeeeaaZc
import Derived.Test.YtjokfmbknkeeeaaYz
import Derived.Deep.RegionHeld3
import Derived.Deep.CutRange
import Derived.Outline
namespace Go.Proofs.Ytjokfmbknkeeeaa.Orb
open Go.RowKit Lib

theorem quad_cells {W : World} {b : Nat} {c0 c1 c2 c3 : Value} {t : TypeId} (h : W.heap[b]? = some (.cells #[c0, c1, c2, c3] t (0, 0))) :
    (W.cell? ⟨b, 0, none⟩ = some c0 ∧ W.cell? ⟨b, 1, none⟩ = some c1 ∧ W.cell? ⟨b, 2, none⟩ = some c2 ∧ W.cell? ⟨b, 3, none⟩ = some c3) ∧ W.frozen? ⟨b, 0, none⟩ = false ∧ W.frozen? ⟨b, 1, none⟩ = false ∧ W.frozen? ⟨b, 2, none⟩ = false ∧ W.frozen? ⟨b, 3, none⟩ = false :=
  ⟨⟨cell_of_row W b 0 _ t _ h, cell_of_row W b 1 _ t _ h, cell_of_row W b 2 _ t _ h, cell_of_row W b 3 _ t _ h⟩, frozen_of_row W b 0 _ t h, frozen_of_row W b 1 _ t h, frozen_of_row W b 2 _ t h, frozen_of_row W b 3 _ t h⟩

set_option maxRecDepth 100000 in
set_option maxHeartbeats 8000000 in
/-- THE PROGRAM'S BASELINE -/
theorem Baseline_any (v1 v2 : Value) (n1 n2 : ByteArray) (hs1 : n1.size ≤ 1000) (hs2 : n2.size ≤ 1000) (b1 b2 : Int) (L1 L2 : List St) (hn1 : L1.length ≤ 1000) (hn2 : L2.length ≤ 1000) (hI1 : ∀ k, (gt L1 k).t ≤ 9223372036854775807) (hI2 : ∀ k, (gt L2 k).t ≤ 9223372036854775807) (f s x y z : Int) (w : World) (hv1 : OV w v1 n1 b1 L1) (hv2 : OV w v2 n2 b2 L2) :
    Calls Try.prog 11 #[v1, v2, .agg #[.int .i64 f, .int .i64 s, .int .i64 x, .int .i64 y, .int .i64 z]] w fun e w' => e = .returned (.tuple #[.agg #[.int .i64 (zif (bsE (nameE n1) b1 L1 (nameE n2) b2 L2 f s x y z) (bsAl (dvC L1 L2 f s) (svC L1 f x y z))), .int .i64 (zif (bsE (nameE n1) b1 L1 (nameE n2) b2 L2 f s x y z) (bsAh (dvC L1 L2 f s) (svC L1 f x y z))), .int .i64 (zif (bsE (nameE n1) b1 L1 (nameE n2) b2 L2 f s x y z) (bsCl (dvC L1 L2 f s) (svC L1 f x y z))), .int .i64 (zif (bsE (nameE n1) b1 L1 (nameE n2) b2 L2 f s x y z) (bsCh (dvC L1 L2 f s) (svC L1 f x y z)))], .int .i64 (bsE (nameE n1) b1 L1 (nameE n2) b2 L2 f s x y z)]) ∧ Below w.heap.size w w' := by
  have CC1 := Lib.hid (fun W (h : Below w.heap.size w W) => check_any v1 n1 hs1 b1 L1 hI1 W (hv1.next h))
  have CC2 := Lib.hid (fun W (h : Below w.heap.size w W) => check_any v2 n2 hs2 b2 L2 hI2 W (hv2.next h))
  have CT1 := Lib.hid (fun W (h : Below w.heap.size w W) => tickError_any v1 n1 b1 L1 hn1 f W (hv1.next h))
  have CT2 := Lib.hid (fun W (h : Below w.heap.size w W) => tickError_any v2 n2 b2 L2 hn2 s W (hv2.next h))
  have CQ := Lib.hid (fun W => placeError_any x y z W)
  have CF : Hid (∀ W : World, Calls Try.prog 49 #[.slice (some ⟨W.heap.size, 0, none⟩) 5 5] (W.alloc (.cells #[.int .i64 (orbE (nameE n1) b1 L1).2, .int .i64 (orbE (nameE n2) b2 L2).2, .int .i64 (tickE L1 f), .int .i64 (tickE L2 s), .int .i64 (placeE x y z)] 36)) fun e w' => e = .returned (.int .i64 (bsE1 (nameE n1) b1 L1 (nameE n2) b2 L2 f s x y z)) ∧ (W.alloc (.cells #[.int .i64 (orbE (nameE n1) b1 L1).2, .int .i64 (orbE (nameE n2) b2 L2).2, .int .i64 (tickE L1 f), .int .i64 (tickE L2 s), .int .i64 (placeE x y z)] 36)) = w') :=
    fun W => firstError5 (orbE (nameE n1) b1 L1).2 (orbE (nameE n2) b2 L2).2 (tickE L1 f) (tickE L2 s) (placeE x y z) W
  obtain ⟨sp1, cap1, hf1, -, -, -⟩ := hv1.form
  obtain ⟨sp2, cap2, hf2, -, -, -⟩ := hv2.form
  have HOK : Hid (bsE1 (nameE n1) b1 L1 (nameE n2) b2 L2 f s x y z = 0 →
      (∀ W, Below w.heap.size w W → Calls Try.prog 53 #[v1, .int .i64 f] W fun e w' => e = .returned (.agg #[.int .i64 (nomC L1 f 0), .int .i64 (nomC L1 f 1), .int .i64 (nomC L1 f 2)]) ∧ Below W.heap.size W w') ∧
      (∀ W, Below w.heap.size w W → Calls Try.prog 53 #[v2, .int .i64 s] W fun e w' => e = .returned (.agg #[.int .i64 (nomC L2 s 0), .int .i64 (nomC L2 s 1), .int .i64 (nomC L2 s 2)]) ∧ Below W.heap.size W w') ∧
      (∀ W : World, Calls Try.prog 54 #[.agg #[.int .i64 (nomC L2 s 0), .int .i64 (nomC L2 s 1), .int .i64 (nomC L2 s 2)], .agg #[.int .i64 (nomC L1 f 0), .int .i64 (nomC L1 f 1), .int .i64 (nomC L1 f 2)]] W fun e w' => e = .returned (.agg #[.int .i64 (dvC L1 L2 f s 0), .int .i64 (dvC L1 L2 f s 1), .int .i64 (dvC L1 L2 f s 2)]) ∧
        ((W.alloc (.cells #[.int .i64 (nomC L2 s 0), .int .i64 (nomC L2 s 1), .int .i64 (nomC L2 s 2)] 28)).alloc (.cells #[.int .i64 (nomC L1 f 0), .int .i64 (nomC L1 f 1), .int .i64 (nomC L1 f 2)] 28)).alloc (.cells #[.int .i64 (dvC L1 L2 f s 0), .int .i64 (dvC L1 L2 f s 1), .int .i64 (dvC L1 L2 f s 2)] 28) = w') ∧
      (∀ W : World, Calls Try.prog 54 #[.agg #[.int .i64 x, .int .i64 y, .int .i64 z], .agg #[.int .i64 (nomC L1 f 0), .int .i64 (nomC L1 f 1), .int .i64 (nomC L1 f 2)]] W fun e w' => e = .returned (.agg #[.int .i64 (svC L1 f x y z 0), .int .i64 (svC L1 f x y z 1), .int .i64 (svC L1 f x y z 2)]) ∧
        ((W.alloc (.cells #[.int .i64 x, .int .i64 y, .int .i64 z] 28)).alloc (.cells #[.int .i64 (nomC L1 f 0), .int .i64 (nomC L1 f 1), .int .i64 (nomC L1 f 2)] 28)).alloc (.cells #[.int .i64 (svC L1 f x y z 0), .int .i64 (svC L1 f x y z 1), .int .i64 (svC L1 f x y z 2)] 28) = w') ∧
      (bsE2 (dvC L1 L2 f s) (svC L1 f x y z) = 0 →
        (∀ W : World, Calls Try.prog 57 #[.agg #[.int .i64 (dvC L1 L2 f s 0), .int .i64 (dvC L1 L2 f s 1), .int .i64 (dvC L1 L2 f s 2)], .agg #[.int .i64 (svC L1 f x y z 0), .int .i64 (svC L1 f x y z 1), .int .i64 (svC L1 f x y z 2)]] W fun e w' => e = .returned (.agg #[.int .i64 (bsAl (dvC L1 L2 f s) (svC L1 f x y z)), .int .i64 (bsAh (dvC L1 L2 f s) (svC L1 f x y z))]) ∧ Below W.heap.size W w') ∧
        (∀ W : World, Calls Try.prog 58 #[.agg #[.int .i64 (dvC L1 L2 f s 0), .int .i64 (dvC L1 L2 f s 1), .int .i64 (dvC L1 L2 f s 2)], .agg #[.int .i64 (bsAl (dvC L1 L2 f s) (svC L1 f x y z)), .int .i64 (bsAh (dvC L1 L2 f s) (svC L1 f x y z))]] W fun e w' => e = .returned (.agg #[.int .i64 (bsCl (dvC L1 L2 f s) (svC L1 f x y z)), .int .i64 (bsCh (dvC L1 L2 f s) (svC L1 f x y z))]) ∧ Below W.heap.size W w'))) := by
    intro h0
    obtain ⟨⟨-, hR1⟩, ⟨-, hR2⟩, hf, hs, hp⟩ := bsE1_zero h0
    obtain ⟨p1, p2, p3⟩ := (placeE_zero x y z).1 hp
    have q := nom_bd hR1 hf.1 hf.2
    have r := nom_bd hR2 hs.1 hs.2
    have q0 := q 0
    have q1 := q 1
    have q2 := q 2
    have r0 := r 0
    have r1 := r 1
    have r2 := r 2
    refine ⟨fun W h => nominalAt_any v1 n1 b1 L1 hR1 f hf.1 hf.2 W (hv1.next h), fun W h => nominalAt_any v2 n2 b2 L2 hR2 s hs.1 hs.2 W (hv2.next h),
      fun W => less_exact (nomC L2 s 0) (nomC L2 s 1) (nomC L2 s 2) (nomC L1 f 0) (nomC L1 f 1) (nomC L1 f 2) (by omega) (by omega) (by omega) (by omega) (by omega) (by omega) W,
      fun W => less_exact x y z (nomC L1 f 0) (nomC L1 f 1) (nomC L1 f 2) (by omega) (by omega) (by omega) (by omega) (by omega) (by omega) W, fun h2 => ?_⟩
    have hb : ∀ k, -200000000 ≤ svC L1 f x y z k ∧ svC L1 f x y z k ≤ 200000000 := by
      intro k
      have := q k
      unfold svC cc3
      split
      · omega
      · split <;> omega
    obtain ⟨⟨d0, d1, d2⟩, hq, ha, hc, -, -⟩ := bs_ok h2 hb
    exact ⟨fun W => alongOf_any _ _ _ _ _ _ d0 d1 d2 (hb 0) (hb 1) (hb 2) hq W, fun W => acrossOf_any _ _ _ _ _ d0 d1 d2 (by omega) (by omega) W⟩
  have HCS : Hid ((bsE1 (nameE n1) b1 L1 (nameE n2) b2 L2 f s x y z ≠ 0 ∧ bsE (nameE n1) b1 L1 (nameE n2) b2 L2 f s x y z = bsE1 (nameE n1) b1 L1 (nameE n2) b2 L2 f s x y z ∧ ∀ t, zif (bsE (nameE n1) b1 L1 (nameE n2) b2 L2 f s x y z) t = 0) ∨
      (bsE1 (nameE n1) b1 L1 (nameE n2) b2 L2 f s x y z = 0 ∧ bsE2 (dvC L1 L2 f s) (svC L1 f x y z) ≠ 0 ∧ bsE (nameE n1) b1 L1 (nameE n2) b2 L2 f s x y z = bsE2 (dvC L1 L2 f s) (svC L1 f x y z) ∧ ∀ t, zif (bsE (nameE n1) b1 L1 (nameE n2) b2 L2 f s x y z) t = 0) ∨
      (bsE1 (nameE n1) b1 L1 (nameE n2) b2 L2 f s x y z = 0 ∧ bsE2 (dvC L1 L2 f s) (svC L1 f x y z) = 0 ∧ bsE (nameE n1) b1 L1 (nameE n2) b2 L2 f s x y z = 0 ∧ ∀ t, zif (bsE (nameE n1) b1 L1 (nameE n2) b2 L2 f s x y z) t = t)) := by
    unfold Hid bsE zif
    by_cases h1 : bsE1 (nameE n1) b1 L1 (nameE n2) b2 L2 f s x y z = 0
    · by_cases h2 : bsE2 (dvC L1 L2 f s) (svC L1 f x y z) = 0
      · exact .inr (.inr ⟨h1, h2, by rw [if_pos h1]; exact h2, fun t => by rw [if_pos (by rw [if_pos h1]; exact h2)]⟩)
      · exact .inr (.inl ⟨h1, h2, by rw [if_pos h1], fun t => by rw [if_neg (by rw [if_pos h1]; exact h2)]⟩)
    · exact .inl ⟨h1, by rw [if_neg h1], fun t => by rw [if_neg (by rw [if_neg h1]; exact h1)]⟩
  have CB := Lib.hid (fun W => baseError_any (dvC L1 L2 f s 0) (dvC L1 L2 f s 1) (dvC L1 L2 f s 2) W)
  have CS := Lib.hid (fun W => sightError_any (svC L1 f x y z 0) (svC L1 f x y z 1) (svC L1 f x y z 2) W)
  have CG : Hid (∀ W : World, Calls Try.prog 49 #[.slice (some ⟨W.heap.size, 0, none⟩) 2 2] (W.alloc (.cells #[.int .i64 (baseE (dvC L1 L2 f s 0) (dvC L1 L2 f s 1) (dvC L1 L2 f s 2)), .int .i64 (sightE (svC L1 f x y z 0) (svC L1 f x y z 1) (svC L1 f x y z 2))] 36)) fun e w' => e = .returned (.int .i64 (bsE2 (dvC L1 L2 f s) (svC L1 f x y z))) ∧ (W.alloc (.cells #[.int .i64 (baseE (dvC L1 L2 f s 0) (dvC L1 L2 f s 1) (dvC L1 L2 f s 2)), .int .i64 (sightE (svC L1 f x y z 0) (svC L1 f x y z 1) (svC L1 f x y z 2))] 36)) = w') :=
    fun W => firstError2 (baseE (dvC L1 L2 f s 0) (dvC L1 L2 f s 1) (dvC L1 L2 f s 2)) (sightE (svC L1 f x y z 0) (svC L1 f x y z 1) (svC L1 f x y z 2)) W
  clear hv1 hv2 hs1 hs2 hn1 hn2 hI1 hI2
  subst hf1
  subst hf2
  generalize bsE (nameE n1) b1 L1 (nameE n2) b2 L2 f s x y z = E at *
  generalize bsE1 (nameE n1) b1 L1 (nameE n2) b2 L2 f s x y z = E1 at *
  generalize (orbE (nameE n1) b1 L1).2 = e1 at *
  generalize (orbE (nameE n2) b2 L2).2 = e2 at *
  generalize tickE L1 f = e3 at *
  generalize tickE L2 s = e4 at *
  generalize placeE x y z = e5 at *
  generalize bsE2 (dvC L1 L2 f s) (svC L1 f x y z) = E2 at *
  generalize bsAl (dvC L1 L2 f s) (svC L1 f x y z) = al at *
  generalize bsAh (dvC L1 L2 f s) (svC L1 f x y z) = ah at *
  generalize bsCl (dvC L1 L2 f s) (svC L1 f x y z) = cl at *
  generalize bsCh (dvC L1 L2 f s) (svC L1 f x y z) = ch at *
  generalize baseE (dvC L1 L2 f s 0) (dvC L1 L2 f s 1) (dvC L1 L2 f s 2) = g1 at *
  generalize sightE (svC L1 f x y z 0) (svC L1 f x y z 1) (svC L1 f x y z 2) = g2 at *
  generalize dvC L1 L2 f s 0 = d0 at *
  generalize dvC L1 L2 f s 1 = d1 at *
  generalize dvC L1 L2 f s 2 = d2 at *
  generalize svC L1 f x y z 0 = s0 at *
  generalize svC L1 f x y z 1 = s1 at *
  generalize svC L1 f x y z 2 = s2 at *
  generalize nomC L1 f 0 = p0 at *
  generalize nomC L1 f 1 = p1 at *
  generalize nomC L1 f 2 = p2 at *
  generalize nomC L2 s 0 = q0 at *
  generalize nomC L2 s 1 = q1 at *
  generalize nomC L2 s 2 = q2 at *
  generalize L1.length = m1 at *
  generalize L2.length = m2 at *
  generalize hr0 : zif E al = r0 at *
  generalize hr1 : zif E ah = r1 at *
  generalize hr2 : zif E cl = r2 at *
  generalize hr3 : zif E ch = r3 at *
  have HZ := Lib.hid (And.intro hr0 (And.intro hr1 (And.intro hr2 hr3)))
  clear hr0 hr1 hr2 hr3
  go_enter Try.func11, Try.ntmps11
  go_upto_region 1 with fail
  obtain ⟨W0, hW0⟩ : ∃ W0, W0 = (((w.alloc (.cells #[.string n1, .int .i64 b1, .slice sp1 m1 cap1] 24)).alloc (.cells #[.string n2, .int .i64 b2, .slice sp2 m2 cap2] 24)).alloc (.cells #[.int .i64 f, .int .i64 s, .int .i64 x, .int .i64 y, .int .i64 z] 30)).alloc (.cells #[.int .i64 0, .int .i64 0, .int .i64 0, .int .i64 0] 35) := ⟨_, rfl⟩
  rw [← hW0]
  have HB0 := Lib.hid (show Below w.heap.size w W0 by rw [hW0]; (repeat (first | with_reducible exact Below.refl _ _ | with_reducible refine alloc1 ?_ _ | with_reducible refine Below.drew ?_ | with_reducible refine drewN1 ?_ _ | with_reducible refine setC ?_ (by omega) _)))
  have HV0 := Lib.hid (show W0.heap[w.heap.size]? = some (.cells #[.string n1, .int .i64 b1, .slice sp1 m1 cap1] 24 (0, 0)) by rw [hW0]; (repeat (first | ((with_reducible refine hnew ?_); (simp; done)) | with_reducible refine hdrew ?_ | with_reducible refine hold ?_)))
  have HU0 := Lib.hid (show W0.heap[w.heap.size + 1]? = some (.cells #[.string n2, .int .i64 b2, .slice sp2 m2 cap2] 24 (0, 0)) by rw [hW0]; (repeat (first | ((with_reducible refine hnew ?_); (simp; done)) | with_reducible refine hdrew ?_ | with_reducible refine hold ?_)))
  have HX0 := Lib.hid (show W0.heap[w.heap.size + 1 + 1]? = some (.cells #[.int .i64 f, .int .i64 s, .int .i64 x, .int .i64 y, .int .i64 z] 30 (0, 0)) by rw [hW0]; (repeat (first | ((with_reducible refine hnew ?_); (simp; done)) | with_reducible refine hdrew ?_ | with_reducible refine hold ?_)))
  have HR0 := Lib.hid (show W0.heap[w.heap.size + 1 + 1 + 1]? = some (.cells #[.int .i64 0, .int .i64 0, .int .i64 0, .int .i64 0] 35 (0, 0)) by rw [hW0]; (repeat (first | ((with_reducible refine hnew ?_); (simp; done)) | with_reducible refine hdrew ?_ | with_reducible refine hold ?_)))
  clear hW0
  obtain ⟨k0, k1, k2⟩ := cells3 HV0.out
  obtain ⟨l0, l1, l2⟩ := cells3 HU0.out
  go_cut [8, 9] from 16 to 19 (fun s8 s9 wx => ∃ c8 c9, s8 = .pointer (some ⟨c8, 0, none⟩) ∧ s9 = .pointer (some ⟨c9, 0, none⟩) ∧ Hid (Below W0.heap.size W0 wx) ∧ Hid (wx.heap[c8]? = some (.cells #[.string n1, .int .i64 b1, .slice sp1 m1 cap1] 101 (0, 0))) ∧ Hid (wx.heap[c9]? = some (.cells #[.string n2, .int .i64 b2, .slice sp2 m2 cap2] 101 (0, 0))))
  case first =>
    go_region_held3 (fun W => W.cell? ⟨w.heap.size, 0, none⟩ = some (.string n1) ∧ W.cell? ⟨w.heap.size, 1, none⟩ = some (.int .i64 b1) ∧ W.cell? ⟨w.heap.size, 2, none⟩ = some (.slice sp1 m1 cap1) ∧ W.cell? ⟨w.heap.size + 1, 0, none⟩ = some (.string n2) ∧ W.cell? ⟨w.heap.size + 1, 1, none⟩ = some (.int .i64 b2) ∧ W.cell? ⟨w.heap.size + 1, 2, none⟩ = some (.slice sp2 m2 cap2)) (with_reducible refine ⟨keepc ?_ k0, keepc ?_ k1, keepc ?_ k2, keepc ?_ l0, keepc ?_ l1, keepc ?_ l2⟩ <;> (repeat (first | with_reducible exact Below.refl _ _ | with_reducible refine alloc1 ?_ _ | with_reducible refine Below.drew ?_ | with_reducible refine drewN1 ?_ _ | with_reducible refine setC ?_ (by omega) _)) <;> done)
      (fail)
    all_goals
      go_wp2_with fail
      go_meet
      case rel => exact ⟨_, _, rfl, rfl, Lib.hid (by (repeat (first | with_reducible exact Below.refl _ _ | with_reducible refine alloc1 ?_ _ | with_reducible refine Below.drew ?_ | with_reducible refine drewN1 ?_ _ | with_reducible refine setC ?_ (by omega) _))), Lib.hid (by (repeat (first | ((with_reducible refine hnew ?_); (simp; done)) | with_reducible refine hdrew ?_ | with_reducible refine hold ?_))), Lib.hid (by (repeat (first | ((with_reducible refine hnew ?_); (simp; done)) | with_reducible refine hdrew ?_ | with_reducible refine hold ?_)))⟩
  obtain ⟨c8, c9, rfl, rfl, HBX, H8, H9⟩ := hcut
  obtain ⟨w1, rfl⟩ : ∃ w1 : World, w1 = wc := ⟨_, rfl⟩
  have HB1 := Lib.hid (trans' HB0.out HBX.out)
  have HX1 := Lib.hid (keepb HBX.out HX0.out)
  have HR1 := Lib.hid (keepb HBX.out HR0.out)
  have HLT := Lib.hid (show w.heap.size < w1.heap.size from Nat.lt_of_lt_of_le (lt_of_block HV0.out) HBX.out.size)
  clear k0 k1 k2 l0 l1 l2 HB0 HV0 HU0 HX0 HR0 HBX
  obtain ⟨k0, k1, k2⟩ := cells3 H8.out
  obtain ⟨l0, l1, l2⟩ := cells3 H9.out
  obtain ⟨x0, x1, x2, x3, x4⟩ := cells5 HX1.out
  go_upto_region 2 with fail
  go_cut [10] from 20 to 36 (fun s10 wx => s10 = .int .i64 E1 ∧ Hid (Below w1.heap.size w1 wx))
  case first =>
    go_region_held3 (fun W => W.cell? ⟨c8, 0, none⟩ = some (.string n1) ∧ W.cell? ⟨c8, 1, none⟩ = some (.int .i64 b1) ∧ W.cell? ⟨c8, 2, none⟩ = some (.slice sp1 m1 cap1) ∧ W.cell? ⟨c9, 0, none⟩ = some (.string n2) ∧ W.cell? ⟨c9, 1, none⟩ = some (.int .i64 b2) ∧ W.cell? ⟨c9, 2, none⟩ = some (.slice sp2 m2 cap2) ∧ W.cell? ⟨w.heap.size + 1 + 1, 0, none⟩ = some (.int .i64 f) ∧ W.cell? ⟨w.heap.size + 1 + 1, 1, none⟩ = some (.int .i64 s) ∧ W.cell? ⟨w.heap.size + 1 + 1, 2, none⟩ = some (.int .i64 x) ∧ W.cell? ⟨w.heap.size + 1 + 1, 3, none⟩ = some (.int .i64 y) ∧ W.cell? ⟨w.heap.size + 1 + 1, 4, none⟩ = some (.int .i64 z)) (with_reducible refine ⟨keepc ?_ k0, keepc ?_ k1, keepc ?_ k2, keepc ?_ l0, keepc ?_ l1, keepc ?_ l2, keepc ?_ x0, keepc ?_ x1, keepc ?_ x2, keepc ?_ x3, keepc ?_ x4⟩ <;> (repeat (first | with_reducible exact Below.refl _ _ | with_reducible refine andThen ?_ hbP | with_reducible refine andThen ?_ hbU | with_reducible refine andThen ?_ hbT | with_reducible refine andThen ?_ hbD | with_reducible refine andThen ?_ hbC | with_reducible refine alloc1 ?_ _ | with_reducible refine Below.drew ?_ | with_reducible refine drewN1 ?_ _ | with_reducible refine setC ?_ (by omega) _)) <;> done)
      (first
        | (go_at_call 50; (with_reducible refine (CC1.out _ (trans' HB1.out (by (repeat (first | with_reducible exact Below.refl _ _ | with_reducible refine andThen ?_ hbP | with_reducible refine andThen ?_ hbU | with_reducible refine andThen ?_ hbT | with_reducible refine andThen ?_ hbD | with_reducible refine alloc1 ?_ _ | with_reducible refine Below.drew ?_ | with_reducible refine drewN1 ?_ _ | with_reducible refine setC ?_ (by omega) _))))).mono ?_); rintro e wC ⟨rfl, hbC⟩)
        | (go_at_call 50; (with_reducible refine (CC2.out _ (trans' HB1.out (by (repeat (first | with_reducible exact Below.refl _ _ | with_reducible refine andThen ?_ hbP | with_reducible refine andThen ?_ hbU | with_reducible refine andThen ?_ hbT | with_reducible refine andThen ?_ hbC | with_reducible refine alloc1 ?_ _ | with_reducible refine Below.drew ?_ | with_reducible refine drewN1 ?_ _ | with_reducible refine setC ?_ (by omega) _))))).mono ?_); rintro e wD ⟨rfl, hbD⟩)
        | (go_at_call 51; (with_reducible refine (CT1.out _ (trans' HB1.out (by (repeat (first | with_reducible exact Below.refl _ _ | with_reducible refine andThen ?_ hbP | with_reducible refine andThen ?_ hbU | with_reducible refine andThen ?_ hbD | with_reducible refine andThen ?_ hbC | with_reducible refine alloc1 ?_ _ | with_reducible refine Below.drew ?_ | with_reducible refine drewN1 ?_ _ | with_reducible refine setC ?_ (by omega) _))))).mono ?_); rintro e wT ⟨rfl, hbT⟩)
        | (go_at_call 51; (with_reducible refine (CT2.out _ (trans' HB1.out (by (repeat (first | with_reducible exact Below.refl _ _ | with_reducible refine andThen ?_ hbP | with_reducible refine andThen ?_ hbT | with_reducible refine andThen ?_ hbD | with_reducible refine andThen ?_ hbC | with_reducible refine alloc1 ?_ _ | with_reducible refine Below.drew ?_ | with_reducible refine drewN1 ?_ _ | with_reducible refine setC ?_ (by omega) _))))).mono ?_); rintro e wU ⟨rfl, hbU⟩)
        | (go_at_call 52; (with_reducible refine (CQ.out _).mono ?_); rintro e wP ⟨rfl, hbP⟩)
        | (go_at_call 49; (with_reducible refine (CF.out _).mono ?_); rintro e wF ⟨rfl, rfl⟩))
    all_goals
      go_wp2_with fail
      go_meet
      case rel => exact ⟨rfl, Lib.hid (by (repeat (first | with_reducible exact Below.refl _ _ | with_reducible refine andThen ?_ hbP | with_reducible refine andThen ?_ hbU | with_reducible refine andThen ?_ hbT | with_reducible refine andThen ?_ hbD | with_reducible refine andThen ?_ hbC | with_reducible refine alloc1 ?_ _ | with_reducible refine Below.drew ?_ | with_reducible refine drewN1 ?_ _ | with_reducible refine setC ?_ (by omega) _)))⟩
  obtain ⟨rfl, HBX⟩ := hcut
  obtain ⟨w2, rfl⟩ : ∃ w2 : World, w2 = wc := ⟨_, rfl⟩
  have HB2 := Lib.hid (trans' HB1.out HBX.out)
  have HX2 := Lib.hid (keepb HBX.out HX1.out)
  have HR2 := Lib.hid (keepb HBX.out HR1.out)
  have H82 := Lib.hid (keepb HBX.out H8.out)
  have H92 := Lib.hid (keepb HBX.out H9.out)
  clear k0 k1 k2 l0 l1 l2 x0 x1 x2 x3 x4 HB1 HX1 HR1 HBX H8 H9 CC1 CC2 CT1 CT2 CQ CF HLT
  rcases HCS.out with ⟨hE1, rfl, hz⟩ | hrest
  · have hne : (E != 0) = true := by rw [bne_iff_ne]; exact hE1
    obtain ⟨h0, h1, h2, h3⟩ := HZ.out
    rw [hz] at h0 h1 h2 h3
    subst h0 h1 h2 h3
    clear hz hE1 HOK HCS HZ CB CS CG
    obtain ⟨⟨y0, y1, y2, y3⟩, f0, f1, f2, f3⟩ := quad_cells HR2.out
    have hlt := lt_of_block HR2.out
    go_wp2_with fail
    refine bodyPost_ret (v := .tuple #[.agg #[.int .i64 0, .int .i64 0, .int .i64 0, .int .i64 0], .int .i64 E]) (by simp [results, Try.results11, go_sem, y0, y1, y2, y3]) rfl ⟨rfl, ?_⟩
    exact setC (setC (setC (setC HB2.out (by omega) _) (by omega) _) (by omega) _) (by omega) _
  · obtain rfl : E1 = 0 := hrest.elim (·.1) (·.1)
    have HCS := Lib.hid hrest
    clear hrest
    obtain ⟨CN1, CN2, CL1, CL2, HOK2⟩ := HOK.out rfl
    have CN1 := Lib.hid CN1
    have CN2 := Lib.hid CN2
    have CL1 := Lib.hid CL1
    have CL2 := Lib.hid CL2
    have HOK2 := Lib.hid HOK2
    clear HOK
    obtain ⟨k0, k1, k2⟩ := cells3 H82.out
    obtain ⟨x0, x1, x2, x3, x4⟩ := cells5 HX2.out
    go_wp2_with fail
    refine (CN1.out _ HB2.out).mono ?_
    rintro e w3 ⟨rfl, hb⟩
    have HB3 := Lib.hid (trans' HB2.out hb)
    have HX3 := Lib.hid (keepb hb HX2.out)
    have HR3 := Lib.hid (keepb hb HR2.out)
    have H93 := Lib.hid (keepb hb H92.out)
    clear hb k0 k1 k2 x0 x1 x2 x3 x4 HB2 HX2 HR2 H82 H92 CN1
    go_upto_region 6 with fail
    obtain ⟨w4, hW⟩ : ∃ w4, w4 = w3.alloc (.cells #[.int .i64 p0, .int .i64 p1, .int .i64 p2] 28) := ⟨_, rfl⟩
    rw [← hW]
    have hb := new_below w3 (.cells #[.int .i64 p0, .int .i64 p1, .int .i64 p2] 28)
    rw [← hW] at hb
    have HP4 := Lib.hid (show w4.heap[w3.heap.size]? = some (.cells #[.int .i64 p0, .int .i64 p1, .int .i64 p2] 28 (0, 0)) by rw [hW]; exact heap_alloc_new _ _)
    have HB4 := Lib.hid (trans' HB3.out hb)
    have HX4 := Lib.hid (keepb hb HX3.out)
    have HR4 := Lib.hid (keepb hb HR3.out)
    have H94 := Lib.hid (keepb hb H93.out)
    clear hW hb HB3 HX3 HR3 H93
    generalize w3.heap.size = cp at *
    obtain ⟨l0, l1, l2⟩ := cells3 H94.out
    obtain ⟨x0, x1, x2, x3, x4⟩ := cells5 HX4.out
    obtain ⟨o0, o1, o2⟩ := cells3 HP4.out
    refine region_vals (fun lv yv W => Below w4.heap.size w4 W ∧ (lv 0 = true → yv 0 = .agg #[.string n2, .int .i64 b2, .slice sp2 m2 cap2]) ∧ (lv 1 = true → yv 1 = .pointer (some ⟨w.heap.size + 1 + 1, 1, none⟩)) ∧ (lv 2 = true → yv 2 = .int .i64 s) ∧ (lv 3 = true → yv 3 = .agg #[.int .i64 q0, .int .i64 q1, .int .i64 q2]) ∧ (lv 4 = true → yv 4 = .agg #[.int .i64 p0, .int .i64 p1, .int .i64 p2]) ∧ (lv 5 = true → yv 5 = .agg #[.int .i64 d0, .int .i64 d1, .int .i64 d2]) ∧ (lv 6 = true → yv 6 = .pointer (some ⟨w.heap.size + 1 + 1, 2, none⟩)) ∧ (lv 7 = true → yv 7 = .agg #[.int .i64 x, .int .i64 y, .int .i64 z]) ∧ (lv 8 = true → yv 8 = .agg #[.int .i64 p0, .int .i64 p1, .int .i64 p2]) ∧ (lv 9 = true → yv 9 = .agg #[.int .i64 s0, .int .i64 s1, .int .i64 s2]) ∧ (lv 10 = true → OwnB 28 3 w4.heap.size (yv 10) W) ∧ (lv 11 = true → OwnB 28 3 w4.heap.size (yv 11) W) ∧ (lv 12 = true → lv 10 = true ∧ HasC 28 #[.int .i64 d0, .int .i64 d1, .int .i64 d2] (yv 10) W) ∧ (lv 13 = true → lv 11 = true ∧ HasC 28 #[.int .i64 s0, .int .i64 s1, .int .i64 s2] (yv 11) W) ∧ (lv 10 = true → lv 11 = true → yv 10 ≠ yv 11)) (fun _ => undef) (by kernel_rfl) (by kernel_rfl) (by kernel_rfl) ⟨(Below.refl _ w4).drew, fun h => absurd h Bool.false_ne_true, fun h => absurd h Bool.false_ne_true, fun h => absurd h Bool.false_ne_true, fun h => absurd h Bool.false_ne_true, fun h => absurd h Bool.false_ne_true, fun h => absurd h Bool.false_ne_true, fun h => absurd h Bool.false_ne_true, fun h => absurd h Bool.false_ne_true, fun h => absurd h Bool.false_ne_true, fun h => absurd h Bool.false_ne_true, fun h => absurd h Bool.false_ne_true, fun h => absurd h Bool.false_ne_true, fun h => absurd h Bool.false_ne_true, fun h => absurd h Bool.false_ne_true, fun h => absurd h Bool.false_ne_true⟩ ?_ ?_
    · -- the operations
      refine Steps.val (k' := 1) (.agg #[.string n2, .int .i64 b2, .slice sp2 m2 cap2]) rfl (fun _ => by kernel_rfl) (fun _ => by kernel_rfl) ?_ ?_ ?_
      · intro lv yv WQ hd hI
        have HBQ := hI.1
        have h0 := hI.2.1
        have h1 := hI.2.2.1
        have h2 := hI.2.2.2.1
        have h3 := hI.2.2.2.2.1
        have h4 := hI.2.2.2.2.2.1
        have h5 := hI.2.2.2.2.2.2.1
        have h6 := hI.2.2.2.2.2.2.2.1
        have h7 := hI.2.2.2.2.2.2.2.2.1
        have h8 := hI.2.2.2.2.2.2.2.2.2.1
        have h9 := hI.2.2.2.2.2.2.2.2.2.2.1
        have h10 := hI.2.2.2.2.2.2.2.2.2.2.2.1
        have h11 := hI.2.2.2.2.2.2.2.2.2.2.2.2.1
        have h12 := hI.2.2.2.2.2.2.2.2.2.2.2.2.2.1
        have h13 := hI.2.2.2.2.2.2.2.2.2.2.2.2.2.2.1
        have g10_11 := hI.2.2.2.2.2.2.2.2.2.2.2.2.2.2.2
        clear hI
        simp only [putAll, Act.put, List.setIfInBounds_toArray, List.set_cons_succ, List.set_cons_zero]
        clear h0 h1 h2 h3 h4 h5 h6 h7 h8 h9 h10 h11 h12 h13 g10_11 hd
        obtain ⟨zq0, zq1, zq2⟩ := cells3 (keepb HBQ H94.out)
        unfold Oper.quietAt
        go_simp
      · intro lv yv WQ W' hI hb
        have HBQ := hI.1
        have h0 := hI.2.1
        have h1 := hI.2.2.1
        have h2 := hI.2.2.2.1
        have h3 := hI.2.2.2.2.1
        have h4 := hI.2.2.2.2.2.1
        have h5 := hI.2.2.2.2.2.2.1
        have h6 := hI.2.2.2.2.2.2.2.1
        have h7 := hI.2.2.2.2.2.2.2.2.1
        have h8 := hI.2.2.2.2.2.2.2.2.2.1
        have h9 := hI.2.2.2.2.2.2.2.2.2.2.1
        have h10 := hI.2.2.2.2.2.2.2.2.2.2.2.1
        have h11 := hI.2.2.2.2.2.2.2.2.2.2.2.2.1
        have h12 := hI.2.2.2.2.2.2.2.2.2.2.2.2.2.1
        have h13 := hI.2.2.2.2.2.2.2.2.2.2.2.2.2.2.1
        have g10_11 := hI.2.2.2.2.2.2.2.2.2.2.2.2.2.2.2
        clear hI
        exact ⟨andThen HBQ hb, fun _ => rfl, h1, h2, h3, h4, h5, h6, h7, h8, h9, fun h => (h10 h).next hb, fun h => (h11 h).next hb, fun h => ⟨(h12 h).1, (h12 h).2.next hb⟩, fun h => ⟨(h13 h).1, (h13 h).2.next hb⟩, g10_11⟩
      refine Steps.val (k' := 2) (.pointer (some ⟨w.heap.size + 1 + 1, 1, none⟩)) rfl (fun _ => by kernel_rfl) (fun _ => by kernel_rfl) ?_ ?_ ?_
      · intro lv yv WQ hd hI
        have HBQ := hI.1
        have h0 := hI.2.1
        have h1 := hI.2.2.1
        have h2 := hI.2.2.2.1
        have h3 := hI.2.2.2.2.1
        have h4 := hI.2.2.2.2.2.1
        have h5 := hI.2.2.2.2.2.2.1
        have h6 := hI.2.2.2.2.2.2.2.1
        have h7 := hI.2.2.2.2.2.2.2.2.1
        have h8 := hI.2.2.2.2.2.2.2.2.2.1
        have h9 := hI.2.2.2.2.2.2.2.2.2.2.1
        have h10 := hI.2.2.2.2.2.2.2.2.2.2.2.1
        have h11 := hI.2.2.2.2.2.2.2.2.2.2.2.2.1
        have h12 := hI.2.2.2.2.2.2.2.2.2.2.2.2.2.1
        have h13 := hI.2.2.2.2.2.2.2.2.2.2.2.2.2.2.1
        have g10_11 := hI.2.2.2.2.2.2.2.2.2.2.2.2.2.2.2
        clear hI
        simp only [putAll, Act.put, List.setIfInBounds_toArray, List.set_cons_succ, List.set_cons_zero]
        clear h0 h1 h2 h3 h4 h5 h6 h7 h8 h9 h10 h11 h12 h13 g10_11 hd
        unfold Oper.quietAt
        go_simp
      · intro lv yv WQ W' hI hb
        have HBQ := hI.1
        have h0 := hI.2.1
        have h1 := hI.2.2.1
        have h2 := hI.2.2.2.1
        have h3 := hI.2.2.2.2.1
        have h4 := hI.2.2.2.2.2.1
        have h5 := hI.2.2.2.2.2.2.1
        have h6 := hI.2.2.2.2.2.2.2.1
        have h7 := hI.2.2.2.2.2.2.2.2.1
        have h8 := hI.2.2.2.2.2.2.2.2.2.1
        have h9 := hI.2.2.2.2.2.2.2.2.2.2.1
        have h10 := hI.2.2.2.2.2.2.2.2.2.2.2.1
        have h11 := hI.2.2.2.2.2.2.2.2.2.2.2.2.1
        have h12 := hI.2.2.2.2.2.2.2.2.2.2.2.2.2.1
        have h13 := hI.2.2.2.2.2.2.2.2.2.2.2.2.2.2.1
        have g10_11 := hI.2.2.2.2.2.2.2.2.2.2.2.2.2.2.2
        clear hI
        exact ⟨andThen HBQ hb, h0, fun _ => rfl, h2, h3, h4, h5, h6, h7, h8, h9, fun h => (h10 h).next hb, fun h => (h11 h).next hb, fun h => ⟨(h12 h).1, (h12 h).2.next hb⟩, fun h => ⟨(h13 h).1, (h13 h).2.next hb⟩, g10_11⟩
      refine Steps.val (k' := 3) (.int .i64 s) rfl (fun _ => by kernel_rfl) (fun _ => by kernel_rfl) ?_ ?_ ?_
      · intro lv yv WQ hd hI
        have HBQ := hI.1
        have h0 := hI.2.1
        have h1 := hI.2.2.1
        have h2 := hI.2.2.2.1
        have h3 := hI.2.2.2.2.1
        have h4 := hI.2.2.2.2.2.1
        have h5 := hI.2.2.2.2.2.2.1
        have h6 := hI.2.2.2.2.2.2.2.1
        have h7 := hI.2.2.2.2.2.2.2.2.1
        have h8 := hI.2.2.2.2.2.2.2.2.2.1
        have h9 := hI.2.2.2.2.2.2.2.2.2.2.1
        have h10 := hI.2.2.2.2.2.2.2.2.2.2.2.1
        have h11 := hI.2.2.2.2.2.2.2.2.2.2.2.2.1
        have h12 := hI.2.2.2.2.2.2.2.2.2.2.2.2.2.1
        have h13 := hI.2.2.2.2.2.2.2.2.2.2.2.2.2.2.1
        have g10_11 := hI.2.2.2.2.2.2.2.2.2.2.2.2.2.2.2
        clear hI
        have d1 := dep_of hd 1 (by kernel_rfl)
        simp only [putAll, Act.put, List.setIfInBounds_toArray, List.set_cons_succ, List.set_cons_zero]
        rw [h1 d1]
        clear h0 h1 h2 h3 h4 h5 h6 h7 h8 h9 h10 h11 h12 h13 g10_11 d1 hd
        obtain ⟨zq0, zq1, zq2, zq3, zq4⟩ := cells5 (keepb HBQ HX4.out)
        unfold Oper.quietAt
        go_simp
      · intro lv yv WQ W' hI hb
        have HBQ := hI.1
        have h0 := hI.2.1
        have h1 := hI.2.2.1
        have h2 := hI.2.2.2.1
        have h3 := hI.2.2.2.2.1
        have h4 := hI.2.2.2.2.2.1
        have h5 := hI.2.2.2.2.2.2.1
        have h6 := hI.2.2.2.2.2.2.2.1
        have h7 := hI.2.2.2.2.2.2.2.2.1
        have h8 := hI.2.2.2.2.2.2.2.2.2.1
        have h9 := hI.2.2.2.2.2.2.2.2.2.2.1
        have h10 := hI.2.2.2.2.2.2.2.2.2.2.2.1
        have h11 := hI.2.2.2.2.2.2.2.2.2.2.2.2.1
        have h12 := hI.2.2.2.2.2.2.2.2.2.2.2.2.2.1
        have h13 := hI.2.2.2.2.2.2.2.2.2.2.2.2.2.2.1
        have g10_11 := hI.2.2.2.2.2.2.2.2.2.2.2.2.2.2.2
        clear hI
        exact ⟨andThen HBQ hb, h0, h1, fun _ => rfl, h3, h4, h5, h6, h7, h8, h9, fun h => (h10 h).next hb, fun h => (h11 h).next hb, fun h => ⟨(h12 h).1, (h12 h).2.next hb⟩, fun h => ⟨(h13 h).1, (h13 h).2.next hb⟩, g10_11⟩
      refine Steps.val (k' := 4) (.agg #[.int .i64 q0, .int .i64 q1, .int .i64 q2]) rfl (fun _ => by kernel_rfl) (fun _ => by kernel_rfl) ?_ ?_ ?_
      · intro lv yv WQ hd hI
        have HBQ := hI.1
        have h0 := hI.2.1
        have h1 := hI.2.2.1
        have h2 := hI.2.2.2.1
        have h3 := hI.2.2.2.2.1
        have h4 := hI.2.2.2.2.2.1
        have h5 := hI.2.2.2.2.2.2.1
        have h6 := hI.2.2.2.2.2.2.2.1
        have h7 := hI.2.2.2.2.2.2.2.2.1
        have h8 := hI.2.2.2.2.2.2.2.2.2.1
        have h9 := hI.2.2.2.2.2.2.2.2.2.2.1
        have h10 := hI.2.2.2.2.2.2.2.2.2.2.2.1
        have h11 := hI.2.2.2.2.2.2.2.2.2.2.2.2.1
        have h12 := hI.2.2.2.2.2.2.2.2.2.2.2.2.2.1
        have h13 := hI.2.2.2.2.2.2.2.2.2.2.2.2.2.2.1
        have g10_11 := hI.2.2.2.2.2.2.2.2.2.2.2.2.2.2.2
        clear hI
        have d0 := dep_of hd 0 (by kernel_rfl)
        have d2 := dep_of hd 2 (by kernel_rfl)
        simp only [putAll, Act.put, List.setIfInBounds_toArray, List.set_cons_succ, List.set_cons_zero]
        rw [h0 d0, h2 d2]
        clear h0 h1 h2 h3 h4 h5 h6 h7 h8 h9 h10 h11 h12 h13 g10_11 d0 d2 hd
        unfold Oper.quietAt
        go_simp
        exact (CN2.out WQ (trans' HB4.out HBQ))
      · intro lv yv WQ W' hI hb
        have HBQ := hI.1
        have h0 := hI.2.1
        have h1 := hI.2.2.1
        have h2 := hI.2.2.2.1
        have h3 := hI.2.2.2.2.1
        have h4 := hI.2.2.2.2.2.1
        have h5 := hI.2.2.2.2.2.2.1
        have h6 := hI.2.2.2.2.2.2.2.1
        have h7 := hI.2.2.2.2.2.2.2.2.1
        have h8 := hI.2.2.2.2.2.2.2.2.2.1
        have h9 := hI.2.2.2.2.2.2.2.2.2.2.1
        have h10 := hI.2.2.2.2.2.2.2.2.2.2.2.1
        have h11 := hI.2.2.2.2.2.2.2.2.2.2.2.2.1
        have h12 := hI.2.2.2.2.2.2.2.2.2.2.2.2.2.1
        have h13 := hI.2.2.2.2.2.2.2.2.2.2.2.2.2.2.1
        have g10_11 := hI.2.2.2.2.2.2.2.2.2.2.2.2.2.2.2
        clear hI
        exact ⟨andThen HBQ hb, h0, h1, h2, fun _ => rfl, h4, h5, h6, h7, h8, h9, fun h => (h10 h).next hb, fun h => (h11 h).next hb, fun h => ⟨(h12 h).1, (h12 h).2.next hb⟩, fun h => ⟨(h13 h).1, (h13 h).2.next hb⟩, g10_11⟩
      refine Steps.val (k' := 5) (.agg #[.int .i64 p0, .int .i64 p1, .int .i64 p2]) rfl (fun _ => by kernel_rfl) (fun _ => by kernel_rfl) ?_ ?_ ?_
      · intro lv yv WQ hd hI
        have HBQ := hI.1
        have h0 := hI.2.1
        have h1 := hI.2.2.1
        have h2 := hI.2.2.2.1
        have h3 := hI.2.2.2.2.1
        have h4 := hI.2.2.2.2.2.1
        have h5 := hI.2.2.2.2.2.2.1
        have h6 := hI.2.2.2.2.2.2.2.1
        have h7 := hI.2.2.2.2.2.2.2.2.1
        have h8 := hI.2.2.2.2.2.2.2.2.2.1
        have h9 := hI.2.2.2.2.2.2.2.2.2.2.1
        have h10 := hI.2.2.2.2.2.2.2.2.2.2.2.1
        have h11 := hI.2.2.2.2.2.2.2.2.2.2.2.2.1
        have h12 := hI.2.2.2.2.2.2.2.2.2.2.2.2.2.1
        have h13 := hI.2.2.2.2.2.2.2.2.2.2.2.2.2.2.1
        have g10_11 := hI.2.2.2.2.2.2.2.2.2.2.2.2.2.2.2
        clear hI
        simp only [putAll, Act.put, List.setIfInBounds_toArray, List.set_cons_succ, List.set_cons_zero]
        clear h0 h1 h2 h3 h4 h5 h6 h7 h8 h9 h10 h11 h12 h13 g10_11 hd
        obtain ⟨zq0, zq1, zq2⟩ := cells3 (keepb HBQ HP4.out)
        unfold Oper.quietAt
        go_simp
      · intro lv yv WQ W' hI hb
        have HBQ := hI.1
        have h0 := hI.2.1
        have h1 := hI.2.2.1
        have h2 := hI.2.2.2.1
        have h3 := hI.2.2.2.2.1
        have h4 := hI.2.2.2.2.2.1
        have h5 := hI.2.2.2.2.2.2.1
        have h6 := hI.2.2.2.2.2.2.2.1
        have h7 := hI.2.2.2.2.2.2.2.2.1
        have h8 := hI.2.2.2.2.2.2.2.2.2.1
        have h9 := hI.2.2.2.2.2.2.2.2.2.2.1
        have h10 := hI.2.2.2.2.2.2.2.2.2.2.2.1
        have h11 := hI.2.2.2.2.2.2.2.2.2.2.2.2.1
        have h12 := hI.2.2.2.2.2.2.2.2.2.2.2.2.2.1
        have h13 := hI.2.2.2.2.2.2.2.2.2.2.2.2.2.2.1
        have g10_11 := hI.2.2.2.2.2.2.2.2.2.2.2.2.2.2.2
        clear hI
        exact ⟨andThen HBQ hb, h0, h1, h2, h3, fun _ => rfl, h5, h6, h7, h8, h9, fun h => (h10 h).next hb, fun h => (h11 h).next hb, fun h => ⟨(h12 h).1, (h12 h).2.next hb⟩, fun h => ⟨(h13 h).1, (h13 h).2.next hb⟩, g10_11⟩
      refine Steps.val (k' := 6) (.agg #[.int .i64 d0, .int .i64 d1, .int .i64 d2]) rfl (fun _ => by kernel_rfl) (fun _ => by kernel_rfl) ?_ ?_ ?_
      · intro lv yv WQ hd hI
        have HBQ := hI.1
        have h0 := hI.2.1
        have h1 := hI.2.2.1
        have h2 := hI.2.2.2.1
        have h3 := hI.2.2.2.2.1
        have h4 := hI.2.2.2.2.2.1
        have h5 := hI.2.2.2.2.2.2.1
        have h6 := hI.2.2.2.2.2.2.2.1
        have h7 := hI.2.2.2.2.2.2.2.2.1
        have h8 := hI.2.2.2.2.2.2.2.2.2.1
        have h9 := hI.2.2.2.2.2.2.2.2.2.2.1
        have h10 := hI.2.2.2.2.2.2.2.2.2.2.2.1
        have h11 := hI.2.2.2.2.2.2.2.2.2.2.2.2.1
        have h12 := hI.2.2.2.2.2.2.2.2.2.2.2.2.2.1
        have h13 := hI.2.2.2.2.2.2.2.2.2.2.2.2.2.2.1
        have g10_11 := hI.2.2.2.2.2.2.2.2.2.2.2.2.2.2.2
        clear hI
        have d3 := dep_of hd 3 (by kernel_rfl)
        have d4 := dep_of hd 4 (by kernel_rfl)
        simp only [putAll, Act.put, List.setIfInBounds_toArray, List.set_cons_succ, List.set_cons_zero]
        rw [h3 d3, h4 d4]
        clear h0 h1 h2 h3 h4 h5 h6 h7 h8 h9 h10 h11 h12 h13 g10_11 d3 d4 hd
        unfold Oper.quietAt
        go_simp
        exact (CL1.out WQ).mono (fun e w' h => ⟨h.1, by rw [← h.2]; (repeat (first | with_reducible exact Below.refl _ _ | with_reducible refine alloc1 ?_ _ | with_reducible refine Below.drew ?_ | with_reducible refine drewN1 ?_ _ | with_reducible refine setC ?_ (by omega) _))⟩)
      · intro lv yv WQ W' hI hb
        have HBQ := hI.1
        have h0 := hI.2.1
        have h1 := hI.2.2.1
        have h2 := hI.2.2.2.1
        have h3 := hI.2.2.2.2.1
        have h4 := hI.2.2.2.2.2.1
        have h5 := hI.2.2.2.2.2.2.1
        have h6 := hI.2.2.2.2.2.2.2.1
        have h7 := hI.2.2.2.2.2.2.2.2.1
        have h8 := hI.2.2.2.2.2.2.2.2.2.1
        have h9 := hI.2.2.2.2.2.2.2.2.2.2.1
        have h10 := hI.2.2.2.2.2.2.2.2.2.2.2.1
        have h11 := hI.2.2.2.2.2.2.2.2.2.2.2.2.1
        have h12 := hI.2.2.2.2.2.2.2.2.2.2.2.2.2.1
        have h13 := hI.2.2.2.2.2.2.2.2.2.2.2.2.2.2.1
        have g10_11 := hI.2.2.2.2.2.2.2.2.2.2.2.2.2.2.2
        clear hI
        exact ⟨andThen HBQ hb, h0, h1, h2, h3, h4, fun _ => rfl, h6, h7, h8, h9, fun h => (h10 h).next hb, fun h => (h11 h).next hb, fun h => ⟨(h12 h).1, (h12 h).2.next hb⟩, fun h => ⟨(h13 h).1, (h13 h).2.next hb⟩, g10_11⟩
      refine Steps.val (k' := 7) (.pointer (some ⟨w.heap.size + 1 + 1, 2, none⟩)) rfl (fun _ => by kernel_rfl) (fun _ => by kernel_rfl) ?_ ?_ ?_
      · intro lv yv WQ hd hI
        have HBQ := hI.1
        have h0 := hI.2.1
        have h1 := hI.2.2.1
        have h2 := hI.2.2.2.1
        have h3 := hI.2.2.2.2.1
        have h4 := hI.2.2.2.2.2.1
        have h5 := hI.2.2.2.2.2.2.1
        have h6 := hI.2.2.2.2.2.2.2.1
        have h7 := hI.2.2.2.2.2.2.2.2.1
        have h8 := hI.2.2.2.2.2.2.2.2.2.1
        have h9 := hI.2.2.2.2.2.2.2.2.2.2.1
        have h10 := hI.2.2.2.2.2.2.2.2.2.2.2.1
        have h11 := hI.2.2.2.2.2.2.2.2.2.2.2.2.1
        have h12 := hI.2.2.2.2.2.2.2.2.2.2.2.2.2.1
        have h13 := hI.2.2.2.2.2.2.2.2.2.2.2.2.2.2.1
        have g10_11 := hI.2.2.2.2.2.2.2.2.2.2.2.2.2.2.2
        clear hI
        simp only [putAll, Act.put, List.setIfInBounds_toArray, List.set_cons_succ, List.set_cons_zero]
        clear h0 h1 h2 h3 h4 h5 h6 h7 h8 h9 h10 h11 h12 h13 g10_11 hd
        unfold Oper.quietAt
        go_simp
      · intro lv yv WQ W' hI hb
        have HBQ := hI.1
        have h0 := hI.2.1
        have h1 := hI.2.2.1
        have h2 := hI.2.2.2.1
        have h3 := hI.2.2.2.2.1
        have h4 := hI.2.2.2.2.2.1
        have h5 := hI.2.2.2.2.2.2.1
        have h6 := hI.2.2.2.2.2.2.2.1
        have h7 := hI.2.2.2.2.2.2.2.2.1
        have h8 := hI.2.2.2.2.2.2.2.2.2.1
        have h9 := hI.2.2.2.2.2.2.2.2.2.2.1
        have h10 := hI.2.2.2.2.2.2.2.2.2.2.2.1
        have h11 := hI.2.2.2.2.2.2.2.2.2.2.2.2.1
        have h12 := hI.2.2.2.2.2.2.2.2.2.2.2.2.2.1
        have h13 := hI.2.2.2.2.2.2.2.2.2.2.2.2.2.2.1
        have g10_11 := hI.2.2.2.2.2.2.2.2.2.2.2.2.2.2.2
        clear hI
        exact ⟨andThen HBQ hb, h0, h1, h2, h3, h4, h5, fun _ => rfl, h7, h8, h9, fun h => (h10 h).next hb, fun h => (h11 h).next hb, fun h => ⟨(h12 h).1, (h12 h).2.next hb⟩, fun h => ⟨(h13 h).1, (h13 h).2.next hb⟩, g10_11⟩
      refine Steps.val (k' := 8) (.agg #[.int .i64 x, .int .i64 y, .int .i64 z]) rfl (fun _ => by kernel_rfl) (fun _ => by kernel_rfl) ?_ ?_ ?_
      · intro lv yv WQ hd hI
        have HBQ := hI.1
        have h0 := hI.2.1
        have h1 := hI.2.2.1
        have h2 := hI.2.2.2.1
        have h3 := hI.2.2.2.2.1
        have h4 := hI.2.2.2.2.2.1
        have h5 := hI.2.2.2.2.2.2.1
        have h6 := hI.2.2.2.2.2.2.2.1
        have h7 := hI.2.2.2.2.2.2.2.2.1
        have h8 := hI.2.2.2.2.2.2.2.2.2.1
        have h9 := hI.2.2.2.2.2.2.2.2.2.2.1
        have h10 := hI.2.2.2.2.2.2.2.2.2.2.2.1
        have h11 := hI.2.2.2.2.2.2.2.2.2.2.2.2.1
        have h12 := hI.2.2.2.2.2.2.2.2.2.2.2.2.2.1
        have h13 := hI.2.2.2.2.2.2.2.2.2.2.2.2.2.2.1
        have g10_11 := hI.2.2.2.2.2.2.2.2.2.2.2.2.2.2.2
        clear hI
        have d6 := dep_of hd 6 (by kernel_rfl)
        simp only [putAll, Act.put, List.setIfInBounds_toArray, List.set_cons_succ, List.set_cons_zero]
        rw [h6 d6]
        clear h0 h1 h2 h3 h4 h5 h6 h7 h8 h9 h10 h11 h12 h13 g10_11 d6 hd
        obtain ⟨zq0, zq1, zq2, zq3, zq4⟩ := cells5 (keepb HBQ HX4.out)
        unfold Oper.quietAt
        go_simp
      · intro lv yv WQ W' hI hb
        have HBQ := hI.1
        have h0 := hI.2.1
        have h1 := hI.2.2.1
        have h2 := hI.2.2.2.1
        have h3 := hI.2.2.2.2.1
        have h4 := hI.2.2.2.2.2.1
        have h5 := hI.2.2.2.2.2.2.1
        have h6 := hI.2.2.2.2.2.2.2.1
        have h7 := hI.2.2.2.2.2.2.2.2.1
        have h8 := hI.2.2.2.2.2.2.2.2.2.1
        have h9 := hI.2.2.2.2.2.2.2.2.2.2.1
        have h10 := hI.2.2.2.2.2.2.2.2.2.2.2.1
        have h11 := hI.2.2.2.2.2.2.2.2.2.2.2.2.1
        have h12 := hI.2.2.2.2.2.2.2.2.2.2.2.2.2.1
        have h13 := hI.2.2.2.2.2.2.2.2.2.2.2.2.2.2.1
        have g10_11 := hI.2.2.2.2.2.2.2.2.2.2.2.2.2.2.2
        clear hI
        exact ⟨andThen HBQ hb, h0, h1, h2, h3, h4, h5, h6, fun _ => rfl, h8, h9, fun h => (h10 h).next hb, fun h => (h11 h).next hb, fun h => ⟨(h12 h).1, (h12 h).2.next hb⟩, fun h => ⟨(h13 h).1, (h13 h).2.next hb⟩, g10_11⟩
      refine Steps.val (k' := 9) (.agg #[.int .i64 p0, .int .i64 p1, .int .i64 p2]) rfl (fun _ => by kernel_rfl) (fun _ => by kernel_rfl) ?_ ?_ ?_
      · intro lv yv WQ hd hI
        have HBQ := hI.1
        have h0 := hI.2.1
        have h1 := hI.2.2.1
        have h2 := hI.2.2.2.1
        have h3 := hI.2.2.2.2.1
        have h4 := hI.2.2.2.2.2.1
        have h5 := hI.2.2.2.2.2.2.1
        have h6 := hI.2.2.2.2.2.2.2.1
        have h7 := hI.2.2.2.2.2.2.2.2.1
        have h8 := hI.2.2.2.2.2.2.2.2.2.1
        have h9 := hI.2.2.2.2.2.2.2.2.2.2.1
        have h10 := hI.2.2.2.2.2.2.2.2.2.2.2.1
        have h11 := hI.2.2.2.2.2.2.2.2.2.2.2.2.1
        have h12 := hI.2.2.2.2.2.2.2.2.2.2.2.2.2.1
        have h13 := hI.2.2.2.2.2.2.2.2.2.2.2.2.2.2.1
        have g10_11 := hI.2.2.2.2.2.2.2.2.2.2.2.2.2.2.2
        clear hI
        simp only [putAll, Act.put, List.setIfInBounds_toArray, List.set_cons_succ, List.set_cons_zero]
        clear h0 h1 h2 h3 h4 h5 h6 h7 h8 h9 h10 h11 h12 h13 g10_11 hd
        obtain ⟨zq0, zq1, zq2⟩ := cells3 (keepb HBQ HP4.out)
        unfold Oper.quietAt
        go_simp
      · intro lv yv WQ W' hI hb
        have HBQ := hI.1
        have h0 := hI.2.1
        have h1 := hI.2.2.1
        have h2 := hI.2.2.2.1
        have h3 := hI.2.2.2.2.1
        have h4 := hI.2.2.2.2.2.1
        have h5 := hI.2.2.2.2.2.2.1
        have h6 := hI.2.2.2.2.2.2.2.1
        have h7 := hI.2.2.2.2.2.2.2.2.1
        have h8 := hI.2.2.2.2.2.2.2.2.2.1
        have h9 := hI.2.2.2.2.2.2.2.2.2.2.1
        have h10 := hI.2.2.2.2.2.2.2.2.2.2.2.1
        have h11 := hI.2.2.2.2.2.2.2.2.2.2.2.2.1
        have h12 := hI.2.2.2.2.2.2.2.2.2.2.2.2.2.1
        have h13 := hI.2.2.2.2.2.2.2.2.2.2.2.2.2.2.1
        have g10_11 := hI.2.2.2.2.2.2.2.2.2.2.2.2.2.2.2
        clear hI
        exact ⟨andThen HBQ hb, h0, h1, h2, h3, h4, h5, h6, h7, fun _ => rfl, h9, fun h => (h10 h).next hb, fun h => (h11 h).next hb, fun h => ⟨(h12 h).1, (h12 h).2.next hb⟩, fun h => ⟨(h13 h).1, (h13 h).2.next hb⟩, g10_11⟩
      refine Steps.val (k' := 10) (.agg #[.int .i64 s0, .int .i64 s1, .int .i64 s2]) rfl (fun _ => by kernel_rfl) (fun _ => by kernel_rfl) ?_ ?_ ?_
      · intro lv yv WQ hd hI
        have HBQ := hI.1
        have h0 := hI.2.1
        have h1 := hI.2.2.1
        have h2 := hI.2.2.2.1
        have h3 := hI.2.2.2.2.1
        have h4 := hI.2.2.2.2.2.1
        have h5 := hI.2.2.2.2.2.2.1
        have h6 := hI.2.2.2.2.2.2.2.1
        have h7 := hI.2.2.2.2.2.2.2.2.1
        have h8 := hI.2.2.2.2.2.2.2.2.2.1
        have h9 := hI.2.2.2.2.2.2.2.2.2.2.1
        have h10 := hI.2.2.2.2.2.2.2.2.2.2.2.1
        have h11 := hI.2.2.2.2.2.2.2.2.2.2.2.2.1
        have h12 := hI.2.2.2.2.2.2.2.2.2.2.2.2.2.1
        have h13 := hI.2.2.2.2.2.2.2.2.2.2.2.2.2.2.1
        have g10_11 := hI.2.2.2.2.2.2.2.2.2.2.2.2.2.2.2
        clear hI
        have d7 := dep_of hd 7 (by kernel_rfl)
        have d8 := dep_of hd 8 (by kernel_rfl)
        simp only [putAll, Act.put, List.setIfInBounds_toArray, List.set_cons_succ, List.set_cons_zero]
        rw [h7 d7, h8 d8]
        clear h0 h1 h2 h3 h4 h5 h6 h7 h8 h9 h10 h11 h12 h13 g10_11 d7 d8 hd
        unfold Oper.quietAt
        go_simp
        exact (CL2.out WQ).mono (fun e w' h => ⟨h.1, by rw [← h.2]; (repeat (first | with_reducible exact Below.refl _ _ | with_reducible refine alloc1 ?_ _ | with_reducible refine Below.drew ?_ | with_reducible refine drewN1 ?_ _ | with_reducible refine setC ?_ (by omega) _))⟩)
      · intro lv yv WQ W' hI hb
        have HBQ := hI.1
        have h0 := hI.2.1
        have h1 := hI.2.2.1
        have h2 := hI.2.2.2.1
        have h3 := hI.2.2.2.2.1
        have h4 := hI.2.2.2.2.2.1
        have h5 := hI.2.2.2.2.2.2.1
        have h6 := hI.2.2.2.2.2.2.2.1
        have h7 := hI.2.2.2.2.2.2.2.2.1
        have h8 := hI.2.2.2.2.2.2.2.2.2.1
        have h9 := hI.2.2.2.2.2.2.2.2.2.2.1
        have h10 := hI.2.2.2.2.2.2.2.2.2.2.2.1
        have h11 := hI.2.2.2.2.2.2.2.2.2.2.2.2.1
        have h12 := hI.2.2.2.2.2.2.2.2.2.2.2.2.2.1
        have h13 := hI.2.2.2.2.2.2.2.2.2.2.2.2.2.2.1
        have g10_11 := hI.2.2.2.2.2.2.2.2.2.2.2.2.2.2.2
        clear hI
        exact ⟨andThen HBQ hb, h0, h1, h2, h3, h4, h5, h6, h7, h8, fun _ => rfl, fun h => (h10 h).next hb, fun h => (h11 h).next hb, fun h => ⟨(h12 h).1, (h12 h).2.next hb⟩, fun h => ⟨(h13 h).1, (h13 h).2.next hb⟩, g10_11⟩
      refine Steps.own (k' := 11) rfl (fun _ => by kernel_rfl) (fun _ _ => by kernel_rfl) ?_ ?_
      · intro lv yv WQ hd hn hI
        have HBQ := hI.1
        have h0 := hI.2.1
        have h1 := hI.2.2.1
        have h2 := hI.2.2.2.1
        have h3 := hI.2.2.2.2.1
        have h4 := hI.2.2.2.2.2.1
        have h5 := hI.2.2.2.2.2.2.1
        have h6 := hI.2.2.2.2.2.2.2.1
        have h7 := hI.2.2.2.2.2.2.2.2.1
        have h8 := hI.2.2.2.2.2.2.2.2.2.1
        have h9 := hI.2.2.2.2.2.2.2.2.2.2.1
        have h10 := hI.2.2.2.2.2.2.2.2.2.2.2.1
        have h11 := hI.2.2.2.2.2.2.2.2.2.2.2.2.1
        have h12 := hI.2.2.2.2.2.2.2.2.2.2.2.2.2.1
        have h13 := hI.2.2.2.2.2.2.2.2.2.2.2.2.2.2.1
        have g10_11 := hI.2.2.2.2.2.2.2.2.2.2.2.2.2.2.2
        clear hI
        refine ⟨.pointer (some ⟨WQ.heap.size, 0, none⟩), WQ.alloc (.cells #[.int .i64 0, .int .i64 0, .int .i64 0] 28), ?_, ?_⟩
        · go_simp
        · exact ⟨alloc1 HBQ _, h0, h1, h2, h3, h4, h5, h6, h7, h8, h9, fun _ => ⟨WQ.heap.size, rfl, HBQ.size, #[.int .i64 0, .int .i64 0, .int .i64 0], rfl, heap_alloc_new _ _⟩, fun h => (h11 h).next (new_below _ _), fun h => absurd (h12 h).1 (by rw [hn]; exact Bool.false_ne_true), fun h => ⟨(h13 h).1, (h13 h).2.next (new_below _ _)⟩, fun _ h => ((h11 h).ne_new).symm⟩
      refine Steps.own (k' := 12) rfl (fun _ => by kernel_rfl) (fun _ _ => by kernel_rfl) ?_ ?_
      · intro lv yv WQ hd hn hI
        have HBQ := hI.1
        have h0 := hI.2.1
        have h1 := hI.2.2.1
        have h2 := hI.2.2.2.1
        have h3 := hI.2.2.2.2.1
        have h4 := hI.2.2.2.2.2.1
        have h5 := hI.2.2.2.2.2.2.1
        have h6 := hI.2.2.2.2.2.2.2.1
        have h7 := hI.2.2.2.2.2.2.2.2.1
        have h8 := hI.2.2.2.2.2.2.2.2.2.1
        have h9 := hI.2.2.2.2.2.2.2.2.2.2.1
        have h10 := hI.2.2.2.2.2.2.2.2.2.2.2.1
        have h11 := hI.2.2.2.2.2.2.2.2.2.2.2.2.1
        have h12 := hI.2.2.2.2.2.2.2.2.2.2.2.2.2.1
        have h13 := hI.2.2.2.2.2.2.2.2.2.2.2.2.2.2.1
        have g10_11 := hI.2.2.2.2.2.2.2.2.2.2.2.2.2.2.2
        clear hI
        refine ⟨.pointer (some ⟨WQ.heap.size, 0, none⟩), WQ.alloc (.cells #[.int .i64 0, .int .i64 0, .int .i64 0] 28), ?_, ?_⟩
        · go_simp
        · exact ⟨alloc1 HBQ _, h0, h1, h2, h3, h4, h5, h6, h7, h8, h9, fun h => (h10 h).next (new_below _ _), fun _ => ⟨WQ.heap.size, rfl, HBQ.size, #[.int .i64 0, .int .i64 0, .int .i64 0], rfl, heap_alloc_new _ _⟩, fun h => ⟨(h12 h).1, (h12 h).2.next (new_below _ _)⟩, fun h => absurd (h13 h).1 (by rw [hn]; exact Bool.false_ne_true), fun h _ => (h10 h).ne_new⟩
      refine Steps.sto (k' := 13) rfl (fun _ => by kernel_rfl) rfl ?_ ?_
      · intro lv yv WQ hd hI
        have HBQ := hI.1
        have h0 := hI.2.1
        have h1 := hI.2.2.1
        have h2 := hI.2.2.2.1
        have h3 := hI.2.2.2.2.1
        have h4 := hI.2.2.2.2.2.1
        have h5 := hI.2.2.2.2.2.2.1
        have h6 := hI.2.2.2.2.2.2.2.1
        have h7 := hI.2.2.2.2.2.2.2.2.1
        have h8 := hI.2.2.2.2.2.2.2.2.2.1
        have h9 := hI.2.2.2.2.2.2.2.2.2.2.1
        have h10 := hI.2.2.2.2.2.2.2.2.2.2.2.1
        have h11 := hI.2.2.2.2.2.2.2.2.2.2.2.2.1
        have h12 := hI.2.2.2.2.2.2.2.2.2.2.2.2.2.1
        have h13 := hI.2.2.2.2.2.2.2.2.2.2.2.2.2.2.1
        have g10_11 := hI.2.2.2.2.2.2.2.2.2.2.2.2.2.2.2
        clear hI
        have d10 := dep_of hd 10 (by kernel_rfl)
        have d5 := dep_of hd 5 (by kernel_rfl)
        obtain ⟨b, eb, hle, cs, hs, hc⟩ := h10 d10
        obtain ⟨c0, c1, c2, rfl⟩ := three_of hs
        obtain ⟨zq0, zq1, zq2⟩ := cells3 hc
        obtain ⟨zf0, zf1, zf2⟩ := free3 hc
        have dA11 := dep_of hd 11 (by kernel_rfl)
        have n11 : yv 11 ≠ .pointer (some ⟨b, 0, none⟩) := by
          rw [← eb]
          exact (g10_11 d10 dA11).symm
        refine ⟨(((WQ.setCell ⟨b, 0, none⟩ (.int .i64 d0)).setCell ⟨b, 1, none⟩ (.int .i64 d1)).setCell ⟨b, 2, none⟩ (.int .i64 d2)), ?_, ?_⟩
        · simp only [putAll, Act.put, List.setIfInBounds_toArray, List.set_cons_succ, List.set_cons_zero]
          rw [eb, h5 d5]
          clear h0 h1 h2 h3 h4 h5 h6 h7 h8 h9 h10 h11 h12 h13 g10_11 hd
          go_simp
        · exact ⟨(setC (setC (setC HBQ hle _) hle _) hle _), h0, h1, h2, h3, h4, h5, h6, h7, h8, h9, fun h => ((((h10 h).set b 0 _).set b 1 _).set b 2 _), fun h => ((((h11 h).set b 0 _).set b 1 _).set b 2 _), fun _ => ⟨d10, b, eb, (set_block (set_block (set_block hc)))⟩, fun h => ⟨(h13 h).1, ((((h13 h).2.set n11 0 _).set n11 1 _).set n11 2 _)⟩, g10_11⟩
      refine Steps.sto (k' := 14) rfl (fun _ => by kernel_rfl) rfl ?_ ?_
      · intro lv yv WQ hd hI
        have HBQ := hI.1
        have h0 := hI.2.1
        have h1 := hI.2.2.1
        have h2 := hI.2.2.2.1
        have h3 := hI.2.2.2.2.1
        have h4 := hI.2.2.2.2.2.1
        have h5 := hI.2.2.2.2.2.2.1
        have h6 := hI.2.2.2.2.2.2.2.1
        have h7 := hI.2.2.2.2.2.2.2.2.1
        have h8 := hI.2.2.2.2.2.2.2.2.2.1
        have h9 := hI.2.2.2.2.2.2.2.2.2.2.1
        have h10 := hI.2.2.2.2.2.2.2.2.2.2.2.1
        have h11 := hI.2.2.2.2.2.2.2.2.2.2.2.2.1
        have h12 := hI.2.2.2.2.2.2.2.2.2.2.2.2.2.1
        have h13 := hI.2.2.2.2.2.2.2.2.2.2.2.2.2.2.1
        have g10_11 := hI.2.2.2.2.2.2.2.2.2.2.2.2.2.2.2
        clear hI
        have d11 := dep_of hd 11 (by kernel_rfl)
        have d9 := dep_of hd 9 (by kernel_rfl)
        obtain ⟨b, eb, hle, cs, hs, hc⟩ := h11 d11
        obtain ⟨c0, c1, c2, rfl⟩ := three_of hs
        obtain ⟨zq0, zq1, zq2⟩ := cells3 hc
        obtain ⟨zf0, zf1, zf2⟩ := free3 hc
        have dA10 := dep_of hd 10 (by kernel_rfl)
        have n10 : yv 10 ≠ .pointer (some ⟨b, 0, none⟩) := by
          rw [← eb]
          exact g10_11 dA10 d11
        refine ⟨(((WQ.setCell ⟨b, 0, none⟩ (.int .i64 s0)).setCell ⟨b, 1, none⟩ (.int .i64 s1)).setCell ⟨b, 2, none⟩ (.int .i64 s2)), ?_, ?_⟩
        · simp only [putAll, Act.put, List.setIfInBounds_toArray, List.set_cons_succ, List.set_cons_zero]
          rw [eb, h9 d9]
          clear h0 h1 h2 h3 h4 h5 h6 h7 h8 h9 h10 h11 h12 h13 g10_11 hd
          go_simp
        · exact ⟨(setC (setC (setC HBQ hle _) hle _) hle _), h0, h1, h2, h3, h4, h5, h6, h7, h8, h9, fun h => ((((h10 h).set b 0 _).set b 1 _).set b 2 _), fun h => ((((h11 h).set b 0 _).set b 1 _).set b 2 _), fun h => ⟨(h12 h).1, ((((h12 h).2.set n10 0 _).set n10 1 _).set n10 2 _)⟩, fun _ => ⟨d11, b, eb, (set_block (set_block (set_block hc)))⟩, g10_11⟩
      exact Steps.nil
    intro lv yv WE hl0 hI
    have hl := Lib.hid hl0
    clear hl0
    have HBQ := hI.1
    have h0 := hI.2.1
    have h1 := hI.2.2.1
    have h2 := hI.2.2.2.1
    have h3 := hI.2.2.2.2.1
    have h4 := hI.2.2.2.2.2.1
    have h5 := hI.2.2.2.2.2.2.1
    have h6 := hI.2.2.2.2.2.2.2.1
    have h7 := hI.2.2.2.2.2.2.2.2.1
    have h8 := hI.2.2.2.2.2.2.2.2.2.1
    have h9 := hI.2.2.2.2.2.2.2.2.2.2.1
    have h10 := hI.2.2.2.2.2.2.2.2.2.2.2.1
    have h11 := hI.2.2.2.2.2.2.2.2.2.2.2.2.1
    have h12 := hI.2.2.2.2.2.2.2.2.2.2.2.2.2.1
    have h13 := hI.2.2.2.2.2.2.2.2.2.2.2.2.2.2.1
    have g10_11 := hI.2.2.2.2.2.2.2.2.2.2.2.2.2.2.2
    clear hI
    have HBE := Lib.hid HBQ
    have e0 := h0 (hl.out 0 (by decide))
    have e1 := h1 (hl.out 1 (by decide))
    have e2 := h2 (hl.out 2 (by decide))
    have e3 := h3 (hl.out 3 (by decide))
    have e4 := h4 (hl.out 4 (by decide))
    have e5 := h5 (hl.out 5 (by decide))
    have e6 := h6 (hl.out 6 (by decide))
    have e7 := h7 (hl.out 7 (by decide))
    have e8 := h8 (hl.out 8 (by decide))
    have e9 := h9 (hl.out 9 (by decide))
    obtain ⟨-, b10, e10, Hr10⟩ := h12 (hl.out 12 (by decide))
    have HG10 := Lib.hid (show w4.heap.size ≤ b10 by obtain ⟨b, e, hle, -⟩ := h10 (hl.out 10 (by decide)); rw [e10] at e; injection e with e; injection e with e; injection e with e; omega)
    have Hc10 := Lib.hid Hr10
    clear Hr10
    obtain ⟨-, b11, e11, Hr11⟩ := h13 (hl.out 13 (by decide))
    have HG11 := Lib.hid (show w4.heap.size ≤ b11 by obtain ⟨b, e, hle, -⟩ := h11 (hl.out 11 (by decide)); rw [e11] at e; injection e with e; injection e with e; injection e with e; omega)
    have Hc11 := Lib.hid Hr11
    clear Hr11
    have HN10_11 := Lib.hid (show b10 ≠ b11 from fun h => g10_11 (hl.out 10 (by decide)) (hl.out 11 (by decide)) (by rw [e10, e11, h]))
    clear hl HBQ h0 h1 h2 h3 h4 h5 h6 h7 h8 h9 h10 h11 h12 h13 g10_11
    simp only [putAll, Act.put, List.setIfInBounds_toArray, List.set_cons_succ, List.set_cons_zero]
    rw [e0, e1, e2, e3, e4, e5, e6, e7, e8, e9, e10, e11]
    clear e0 e1 e2 e3 e4 e5 e6 e7 e8 e9 e10 e11
    clear yv lv
    obtain ⟨w5, rfl⟩ : ∃ w5 : World, w5 = WE := ⟨_, rfl⟩
    obtain ⟨c12, rfl⟩ : ∃ c : Nat, c = b10 := ⟨_, rfl⟩
    obtain ⟨c13, rfl⟩ : ∃ c : Nat, c = b11 := ⟨_, rfl⟩
    have H12 := Hc10
    have H13 := Hc11
    have HBX := HBE
    have HNE := Lib.hid (show c12 ≠ w.heap.size + 1 + 1 + 1 from fun h => by have := lt_of_block HR4.out; have := HG10.out; omega)
    clear HG10 HG11 HN10_11 Hc10 Hc11 HBE
    have HB5 := Lib.hid (trans' HB4.out HBX.out)
    have HR5 := Lib.hid (keepb HBX.out HR4.out)
    clear l0 l1 l2 x0 x1 x2 x3 x4 o0 o1 o2 HB4 HX4 HR4 HP4 H94 HBX CN2 CL1 CL2
    obtain ⟨k0, k1, k2⟩ := cells3 H12.out
    obtain ⟨l0, l1, l2⟩ := cells3 H13.out
    go_upto_region 7 with fail
    go_cut [14] from 55 to 60 (fun s14 wx => s14 = .int .i64 E2 ∧ Hid (Below w5.heap.size w5 wx))
    case first =>
      go_region_held3 (fun W => W.cell? ⟨c12, 0, none⟩ = some (.int .i64 d0) ∧ W.cell? ⟨c12, 1, none⟩ = some (.int .i64 d1) ∧ W.cell? ⟨c12, 2, none⟩ = some (.int .i64 d2) ∧ W.cell? ⟨c13, 0, none⟩ = some (.int .i64 s0) ∧ W.cell? ⟨c13, 1, none⟩ = some (.int .i64 s1) ∧ W.cell? ⟨c13, 2, none⟩ = some (.int .i64 s2)) (with_reducible refine ⟨keepc ?_ k0, keepc ?_ k1, keepc ?_ k2, keepc ?_ l0, keepc ?_ l1, keepc ?_ l2⟩ <;> (repeat (first | with_reducible exact Below.refl _ _ | with_reducible refine andThen ?_ hbA | with_reducible refine andThen ?_ hbB | with_reducible refine alloc1 ?_ _ | with_reducible refine Below.drew ?_ | with_reducible refine drewN1 ?_ _ | with_reducible refine setC ?_ (by omega) _)) <;> done)
        (first
          | (go_at_call 55; (with_reducible refine (CB.out _).mono ?_); rintro e wA ⟨rfl, hbA⟩)
          | (go_at_call 56; (with_reducible refine (CS.out _).mono ?_); rintro e wB ⟨rfl, hbB⟩)
          | (go_at_call 49; (with_reducible refine (CG.out _).mono ?_); rintro e wF ⟨rfl, rfl⟩))
      all_goals
        go_wp2_with fail
        go_meet
        case rel => exact ⟨rfl, Lib.hid (by (repeat (first | with_reducible exact Below.refl _ _ | with_reducible refine andThen ?_ hbA | with_reducible refine andThen ?_ hbB | with_reducible refine alloc1 ?_ _ | with_reducible refine Below.drew ?_ | with_reducible refine drewN1 ?_ _ | with_reducible refine setC ?_ (by omega) _)))⟩
    obtain ⟨rfl, HBX⟩ := hcut
    obtain ⟨w6, rfl⟩ : ∃ w6 : World, w6 = wc := ⟨_, rfl⟩
    have HB6 := Lib.hid (trans' HB5.out HBX.out)
    have HR6 := Lib.hid (keepb HBX.out HR5.out)
    have H126 := Lib.hid (keepb HBX.out H12.out)
    have H136 := Lib.hid (keepb HBX.out H13.out)
    clear k0 k1 k2 l0 l1 l2 HB5 HR5 HBX H12 H13 CB CS CG
    obtain ⟨⟨y0, y1, y2, y3⟩, f0, f1, f2, f3⟩ := quad_cells HR6.out
    have hlt := lt_of_block HR6.out
    rcases HCS.out with ⟨-, hE2, rfl, hz⟩ | ⟨-, rfl, rfl, hz⟩
    · have hne : (E != 0) = true := by rw [bne_iff_ne]; exact hE2
      obtain ⟨h0, h1, h2, h3⟩ := HZ.out
      rw [hz] at h0 h1 h2 h3
      subst h0 h1 h2 h3
      clear hz hE2 HOK2 HCS HZ
      go_wp2_with fail
      refine bodyPost_ret (v := .tuple #[.agg #[.int .i64 0, .int .i64 0, .int .i64 0, .int .i64 0], .int .i64 E]) (by simp [results, Try.results11, go_sem, y0, y1, y2, y3]) rfl ⟨rfl, ?_⟩
      exact setC (setC (setC (setC HB6.out (by omega) _) (by omega) _) (by omega) _) (by omega) _
    · obtain ⟨h0, h1, h2, h3⟩ := HZ.out
      rw [hz] at h0 h1 h2 h3
      subst h0 h1 h2 h3
      obtain ⟨CA, CX⟩ := HOK2.out rfl
      have CA := Lib.hid CA
      have CX := Lib.hid CX
      clear hz HOK2 HCS HZ y0 y1 y2 y3 f0 f1 f2 f3 hlt
      obtain ⟨k0, k1, k2⟩ := cells3 H126.out
      obtain ⟨l0, l1, l2⟩ := cells3 H136.out
      go_wp2_with fail
      refine (CA.out _).mono ?_
      rintro e w7 ⟨rfl, hb⟩
      have HB7 := Lib.hid (trans' HB6.out hb)
      have HR7 := Lib.hid (keepb hb HR6.out)
      have H127 := Lib.hid (keepb hb H126.out)
      clear hb k0 k1 k2 l0 l1 l2 HB6 HR6 H126 H136 CA
      go_upto_region 11 with fail
      obtain ⟨w8, hW⟩ : ∃ w8, w8 = w7.alloc (.cells #[.int .i64 al, .int .i64 ah] 34) := ⟨_, rfl⟩
      rw [← hW]
      have hb := new_below w7 (.cells #[.int .i64 al, .int .i64 ah] 34)
      rw [← hW] at hb
      have HA8 := Lib.hid (show w8.heap[w7.heap.size]? = some (.cells #[.int .i64 al, .int .i64 ah] 34 (0, 0)) by rw [hW]; exact heap_alloc_new _ _)
      have HB8 := Lib.hid (trans' HB7.out hb)
      have HR8 := Lib.hid (keepb hb HR7.out)
      have H128 := Lib.hid (keepb hb H127.out)
      have HR7' := Lib.hid HR7.out
      clear hW hb HB7 HR7 H127
      have HNF := Lib.hid (show w7.heap.size ≠ w.heap.size + 1 + 1 + 1 from fun h => by have := lt_of_block HR7'.out; omega)
      clear HR7'
      generalize w7.heap.size = ca at *
      obtain ⟨k0, k1, k2⟩ := cells3 H128.out
      obtain ⟨l0, l1, -, -⟩ := two_cells HA8.out
      go_region_held3 (fun W => W.cell? ⟨c12, 0, none⟩ = some (.int .i64 d0) ∧ W.cell? ⟨c12, 1, none⟩ = some (.int .i64 d1) ∧ W.cell? ⟨c12, 2, none⟩ = some (.int .i64 d2) ∧ W.cell? ⟨ca, 0, none⟩ = some (.int .i64 al) ∧ W.cell? ⟨ca, 1, none⟩ = some (.int .i64 ah)) (first
          | (with_reducible refine ⟨keepc ?_ k0, keepc ?_ k1, keepc ?_ k2, keepc ?_ l0, keepc ?_ l1⟩ <;> (repeat (first | with_reducible exact Below.refl _ _ | with_reducible refine andThen ?_ hbA | with_reducible refine alloc1 ?_ _ | with_reducible refine Below.drew ?_ | with_reducible refine drewN1 ?_ _ | with_reducible refine setC ?_ (by omega) _)) <;> done)
          | (refine ⟨cell_ne HNE.out (cell_ne HNE.out (cell_ne HNE.out (cell_ne HNE.out (keepc ?_ k0)))), cell_ne HNE.out (cell_ne HNE.out (cell_ne HNE.out (cell_ne HNE.out (keepc ?_ k1)))), cell_ne HNE.out (cell_ne HNE.out (cell_ne HNE.out (cell_ne HNE.out (keepc ?_ k2)))), cell_ne HNF.out (cell_ne HNF.out (cell_ne HNF.out (cell_ne HNF.out (keepc ?_ l0)))), cell_ne HNF.out (cell_ne HNF.out (cell_ne HNF.out (cell_ne HNF.out (keepc ?_ l1))))⟩ <;> (repeat (first | with_reducible exact Below.refl _ _ | with_reducible refine andThen ?_ hbA | with_reducible refine alloc1 ?_ _ | with_reducible refine Below.drew ?_ | with_reducible refine drewN1 ?_ _ | with_reducible refine setC ?_ (by omega) _)) <;> done))
        (first
          | (go_at_call 58; (with_reducible refine (CX.out _).mono ?_); rintro e wA ⟨rfl, hbA⟩; obtain ⟨⟨y0, y1, y2, y3⟩, f0, f1, f2, f3⟩ := quad_cells (keepb (show Below w8.heap.size w8 wA by (repeat (first | with_reducible exact Below.refl _ _ | with_reducible refine andThen ?_ hbA | with_reducible refine alloc1 ?_ _ | with_reducible refine Below.drew ?_ | with_reducible refine drewN1 ?_ _ | with_reducible refine setC ?_ (by omega) _))) HR8.out); have hlt := lt_of_block (keepb (show Below w8.heap.size w8 wA by (repeat (first | with_reducible exact Below.refl _ _ | with_reducible refine andThen ?_ hbA | with_reducible refine alloc1 ?_ _ | with_reducible refine Below.drew ?_ | with_reducible refine drewN1 ?_ _ | with_reducible refine setC ?_ (by omega) _))) HR8.out)))
      all_goals
        go_wp2_with fail
        refine bodyPost_ret (v := .tuple #[.agg #[.int .i64 al, .int .i64 ah, .int .i64 cl, .int .i64 ch], .int .i64 0]) (by simp [results, Try.results11, go_sem, y0, y1, y2, y3]) rfl ⟨rfl, ?_⟩
        exact setC (setC (setC (setC (trans' HB8.out (show Below w8.heap.size w8 wA by (repeat (first | with_reducible exact Below.refl _ _ | with_reducible refine andThen ?_ hbA | with_reducible refine alloc1 ?_ _ | with_reducible refine Below.drew ?_ | with_reducible refine drewN1 ?_ _ | with_reducible refine setC ?_ (by omega) _)))) (by omega) _) (by omega) _) (by omega) _) (by omega) _
end Go.Proofs.Ytjokfmbknkeeeaa.Orb
