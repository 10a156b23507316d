import Derived.Test.YtjokfmbknkeeeaaYh
import Derived.Test.YtjokfmbknkeeeaaYm
import Derived.Test.YtjokfmbknkeeeaaZa
import Derived.Test.YtjokfmbknkeeeaaVc
import Derived.Laws.IdiomArrays
namespace Go.Proofs.Ytjokfmbknkeeeaa.Orb
open Go.RowKit Lib

/-! the errors of a baseline and of a sight -/
def baseE (x y z : Int) : Int := if rangeE x (-1000000) 1000000 = 0 ∧ rangeE y (-1000000) 1000000 = 0 ∧ rangeE z (-1000000) 1000000 = 0 then 0 else 8
def sightE (x y z : Int) : Int := if x = 0 ∧ y = 0 ∧ z = 0 then 11 else 0
theorem baseE_upto (x y z : Int) : (∃ k, k < 3 ∧ rangeE (cc3 x y z k) (-1000000) 1000000 ≠ 0 ∧ baseE x y z = 8) ∨ ((∀ k, k < 3 → rangeE (cc3 x y z k) (-1000000) 1000000 = 0) ∧ baseE x y z = 0) := by
  have c0 : cc3 x y z 0 = x := rfl
  have c1 : cc3 x y z 1 = y := rfl
  have c2 : cc3 x y z 2 = z := rfl
  by_cases h0 : rangeE x (-1000000) 1000000 = 0
  · by_cases h1 : rangeE y (-1000000) 1000000 = 0
    · by_cases h2 : rangeE z (-1000000) 1000000 = 0
      · right
        refine ⟨fun k hk => ?_, if_pos ⟨h0, h1, h2⟩⟩
        match k, hk with
        | 0, _ => rw [c0]; exact h0
        | 1, _ => rw [c1]; exact h1
        | 2, _ => rw [c2]; exact h2
      · exact .inl ⟨2, by decide, by rw [c2]; exact h2, if_neg fun h => h2 h.2.2⟩
    · exact .inl ⟨1, by decide, by rw [c1]; exact h1, if_neg fun h => h1 h.2.1⟩
  · exact .inl ⟨0, by decide, by rw [c0]; exact h0, if_neg fun h => h0 h.1⟩
theorem baseE_one {x y z : Int} {k : Nat} (hk : k < 3) (h : rangeE (cc3 x y z k) (-1000000) 1000000 ≠ 0) : baseE x y z = 8 := by
  rcases baseE_upto x y z with ⟨_, _, _, h1⟩ | ⟨h1, _⟩
  · exact h1
  · exact absurd (h1 k hk) h

set_option maxRecDepth 100000 in
set_option maxHeartbeats 2000000 in
theorem sightError_any (x y z : Int) (w : World) :
    Calls Try.prog 56 #[.agg #[.int .i64 x, .int .i64 y, .int .i64 z]] w fun e w' => e = .returned (.int .i64 (sightE x y z)) ∧ Below w.heap.size w w' := by
  have hE1 := eq_place x y z 0 0 0
  have HR : Hid ((x == 0 && (y == 0 && z == 0)) = decide (x = 0 ∧ y = 0 ∧ z = 0)) := by
    unfold Hid
    by_cases h1 : x = 0 <;> by_cases h2 : y = 0 <;> by_cases h3 : z = 0 <;> simp [h1, h2, h3]
  have HS : Hid (sightE x y z = if x = 0 ∧ y = 0 ∧ z = 0 then 11 else 0) := rfl
  generalize sightE x y z = R at *
  by_cases h : x = 0 ∧ y = 0 ∧ z = 0
  all_goals
    first | rw [if_pos h] at HS | rw [if_neg h] at HS
    obtain rfl := HS.out
    have hb := HR.out
    first | rw [decide_eq_true h] at hb | rw [decide_eq_false h] at hb
    rw [hb] at hE1
    clear HS HR hb h
    go_enter Try.func56, Try.ntmps56
    go_wp2_with fail
    go_ret
    exact ⟨rfl, by (repeat (first | with_reducible exact Below.refl _ _ | with_reducible refine alloc1 ?_ _ | with_reducible refine Below.drew ?_ | with_reducible refine drewN1 ?_ _ | with_reducible refine setC ?_ (by omega) _))⟩

set_option maxRecDepth 100000 in
set_option maxHeartbeats 4000000 in
theorem baseError_any (x y z : Int) (w : World) :
    Calls Try.prog 55 #[.agg #[.int .i64 x, .int .i64 y, .int .i64 z]] w fun e w' => e = .returned (.int .i64 (baseE x y z)) ∧ Below w.heap.size w w' := by
  have CR := Lib.hid (fun n W => rangeError_any n (-1000000) 1000000 W)
  have HAR := Lib.hid (arr_read x y z)
  have H8 := Lib.hid (fun k (hk : k < 3) h => baseE_one (x := x) (y := y) (z := z) (k := k) hk h)
  have H0 := Lib.hid (show (∀ k, k < 3 → rangeE (cc3 x y z k) (-1000000) 1000000 = 0) → baseE x y z = 0 from fun h => (baseE_upto x y z).elim (fun ⟨k, hk, h1, _⟩ => absurd (h k hk) h1) (·.2))
  have CC := Lib.hid (fun W => coordinates_any x y z W)
  generalize baseE x y z = R at *
  generalize cc3 x y z = CO at *
  go_enter Try.func55, Try.ntmps55
  go_wp2_with fail
  obtain ⟨W0, hW0⟩ : ∃ W0, W0 = (w.alloc (.cells #[.int .i64 x, .int .i64 y, .int .i64 z] 28)) := ⟨_, rfl⟩
  rw [← hW0]
  have HB0 := Lib.hid (show Below w.heap.size w W0 by rw [hW0]; (repeat (first | with_reducible exact Below.refl _ _ | with_reducible refine alloc1 ?_ _ | with_reducible refine Below.drew ?_ | with_reducible refine drewN1 ?_ _ | with_reducible refine setC ?_ (by omega) _)))
  obtain ⟨k0, k1, k2⟩ := cells3 (show W0.heap[w.heap.size]? = some (.cells #[.int .i64 x, .int .i64 y, .int .i64 z] 28 (0, 0)) by rw [hW0]; (repeat (first | ((with_reducible refine hnew ?_); (simp; done)) | with_reducible refine hdrew ?_ | with_reducible refine hold ?_)))
  clear hW0
  go_wp2_with fail
  refine (CC.out _).mono ?_
  rintro e w3 ⟨rfl, hb⟩
  have HB3 := Lib.hid (trans' HB0.out hb)
  clear hb k0 k1 k2 HB0 CC
  go_wp2_with fail
  go_loopw [7] (fun i wr => ∃ k : Nat, k ≤ 3 ∧ i = .int .i64 k ∧ Hid (∀ j, j < k → rangeE (CO j) (-1000000) 1000000 = 0) ∧ wr = w3) (fun i _ => 3 - (intV i).toNat)
  case atStart => exact ⟨0, Nat.zero_le _, rfl, Lib.hid (fun j hj => absurd hj (Nat.not_lt_zero _)), rfl⟩
  case round =>
    obtain ⟨k, hk, rfl, HK, rfl⟩ := hrel
    by_cases hlt : k < 3
    · have har := HAR.out k hlt
      have HN := Lib.hid (H8.out k hlt)
      have x0 : (0 : Int) ≤ (k : Int) := by omega
      have x1 : (k : Int) < 3 := by omega
      have e1 : IntKind.i64.wrap ((k : Int) + 1) = ((k + 1 : Nat) : Int) := by rw [IntWalk.i64_in _ (by omega)]; omega
      go_wp2_with fail
      refine (CR.out _ _).mono ?_
      rintro e w4 ⟨rfl, rfl⟩
      by_cases hz : rangeE (CO k) (-1000000) 1000000 = 0
      · have HZ := Lib.hid hz
        rw [hz]
        clear hz
        go_wp2_with fail
        go_roundw
        case rel => exact ⟨k + 1, by omega, rfl, Lib.hid (fun j hj => by
          rcases Nat.lt_succ_iff_lt_or_eq.1 hj with h | h
          · exact HK.out j h
          · rw [h]; exact HZ.out), by first | rfl | trivial⟩
        case measure => simp [intV]; omega
      · obtain rfl := HN.out hz
        generalize rangeE (CO k) (-1000000) 1000000 = r at *
        go_wp2_with fail
        go_ret
        exact ⟨rfl, HB3.out⟩
    · obtain rfl : k = 3 := by omega
      obtain rfl := H0.out HK.out
      go_wp2_with fail
      go_ret
      exact ⟨rfl, HB3.out⟩
end Go.Proofs.Ytjokfmbknkeeeaa.Orb
namespace Go.Proofs.Ytjokfmbknkeeeaa.Orb
open Go.RowKit Lib

/-! along and across a sight -/
def alLo (d r up : Int) : Int := min (d / r) (d / up)
def alHi (d r up : Int) : Int := max (ceilI d r) (ceilI d up)

set_option maxRecDepth 100000 in
set_option maxHeartbeats 4000000 in
theorem alongOf_any (x y z x' y' z' : Int) (h1 : -1000000 ≤ x ∧ x ≤ 1000000) (h2 : -1000000 ≤ y ∧ y ≤ 1000000) (h3 : -1000000 ≤ z ∧ z ≤ 1000000) (h4 : -200000000 ≤ x' ∧ x' ≤ 200000000) (h5 : -200000000 ≤ y' ∧ y' ≤ 200000000) (h6 : -200000000 ≤ z' ∧ z' ≤ 200000000) (hq : 0 < x' * x' + y' * y' + z' * z') (w : World) :
    Calls Try.prog 57 #[.agg #[.int .i64 x, .int .i64 y, .int .i64 z], .agg #[.int .i64 x', .int .i64 y', .int .i64 z']] w fun e w' => e = .returned (.agg #[.int .i64 (alLo (x * x' + y * y' + z * z') (rootI (x' * x' + y' * y' + z' * z')) (upOf (x' * x' + y' * y' + z' * z') (rootI (x' * x' + y' * y' + z' * z')))), .int .i64 (alHi (x * x' + y * y' + z * z') (rootI (x' * x' + y' * y' + z' * z')) (upOf (x' * x' + y' * y' + z' * z') (rootI (x' * x' + y' * y' + z' * z'))))]) ∧ Below w.heap.size w w' := by
  have b1 := mul_bd x x' 200000000 (by omega) (by omega) (by omega) (by omega)
  have b2 := mul_bd y y' 200000000 (by omega) (by omega) (by omega) (by omega)
  have b3 := mul_bd z z' 200000000 (by omega) (by omega) (by omega) (by omega)
  have b4 := mul_bd x' x' 200000000 (by omega) (by omega) (by omega) (by omega)
  have b5 := mul_bd y' y' 200000000 (by omega) (by omega) (by omega) (by omega)
  have b6 := mul_bd z' z' 200000000 (by omega) (by omega) (by omega) (by omega)
  have CP1 := Lib.hid (fun W => product_any x y z x' y' z' (by omega) (by omega) (by omega) (by omega) (by omega) (by omega) W)
  have CP2 := Lib.hid (fun W => product_any x' y' z' x' y' z' (by omega) (by omega) (by omega) (by omega) (by omega) (by omega) W)
  have d1 : -4611686018427387904 ≤ x * x' + y * y' + z * z' := by omega
  have d2 : x * x' + y * y' + z * z' ≤ 4611686018427387904 := by omega
  have q1 : x' * x' + y' * y' + z' * z' < 288230376151711744 := by omega
  clear h1 h2 h3 h4 h5 h6 b1 b2 b3 b4 b5 b6
  generalize x * x' + y * y' + z * z' = d at *
  generalize x' * x' + y' * y' + z' * z' = q at *
  have CD := Lib.hid (fun W => rootDown_any q (by omega) q1 W)
  have CU := Lib.hid (fun W => rootUp_any q (by omega) q1 W)
  have hI := rootI_is q (by omega) (by omega)
  have hu : rootI q ≤ upOf q (rootI q) ∧ upOf q (rootI q) ≤ rootI q + 1 := by unfold upOf; split <;> omega
  generalize upOf q (rootI q) = up at *
  generalize rootI q = r at *
  obtain ⟨r0, r1, r2⟩ := hI
  have hr := root_bd r1 (show (0 : Int) ≤ 536870912 by decide) (show q < 536870912 * 536870912 by omega)
  have r3 : 0 < r := by
    rcases Int.lt_or_eq_of_le r0 with h | h
    · exact h
    · subst h; omega
  have F1 := Lib.hid (fun W => floorOf_any d r r3 (by omega) d1 d2 W)
  have F2 := Lib.hid (fun W => floorOf_any d up (by omega) (by omega) d1 d2 W)
  have G1 := Lib.hid (fun W => ceilOf_any d r r3 (by omega) d1 d2 W)
  have G2 := Lib.hid (fun W => ceilOf_any d up (by omega) (by omega) d1 d2 W)
  have HM : Hid (alLo d r up = if d / r ≤ d / up then d / r else d / up) := by unfold Hid alLo; exact Int.min_def _ _
  have HX : Hid (alHi d r up = if ceilI d r ≤ ceilI d up then ceilI d up else ceilI d r) := by unfold Hid alHi; exact Int.max_def _ _
  generalize alLo d r up = al at *
  generalize alHi d r up = ah at *
  clear hq q1 d1 d2 hu r0 r1 r2 r3 hr
  generalize d / r = f1 at *
  generalize d / up = f2 at *
  generalize ceilI d r = g1 at *
  generalize ceilI d up = g2 at *
  go_enter Try.func57, Try.ntmps57
  go_upto_region 1 with fail
  obtain ⟨w0, hW⟩ : ∃ w0, w0 = ((w.alloc (.cells #[.int .i64 x, .int .i64 y, .int .i64 z] 28)).alloc (.cells #[.int .i64 x', .int .i64 y', .int .i64 z'] 28)).alloc (.cells #[.int .i64 0, .int .i64 0] 34) := ⟨_, rfl⟩
  rw [← hW]
  have HB0 := Lib.hid (show Below w.heap.size w w0 by rw [hW]; (repeat (first | with_reducible exact Below.refl _ _ | with_reducible refine alloc1 ?_ _ | with_reducible refine Below.drew ?_ | with_reducible refine drewN1 ?_ _ | with_reducible refine setC ?_ (by omega) _)))
  have HP0 := Lib.hid (show w0.heap[w.heap.size]? = some (.cells #[.int .i64 x, .int .i64 y, .int .i64 z] 28 (0, 0)) by rw [hW]; (repeat (first | ((with_reducible refine hnew ?_); (simp; done)) | with_reducible refine hdrew ?_ | with_reducible refine hold ?_)))
  have HQ0 := Lib.hid (show w0.heap[w.heap.size + 1]? = some (.cells #[.int .i64 x', .int .i64 y', .int .i64 z'] 28 (0, 0)) by rw [hW]; (repeat (first | ((with_reducible refine hnew ?_); (simp; done)) | with_reducible refine hdrew ?_ | with_reducible refine hold ?_)))
  have HR0 := Lib.hid (show w0.heap[w.heap.size + 1 + 1]? = some (.cells #[.int .i64 0, .int .i64 0] 34 (0, 0)) by rw [hW]; (repeat (first | ((with_reducible refine hnew ?_); (simp; done)) | with_reducible refine hdrew ?_ | with_reducible refine hold ?_)))
  clear hW
  refine wp_region_quiet (C := fun W' => Below w0.heap.size w0 W') (by kernel_rfl) (by kernel_rfl) (Below.refl _ w0).drew ?_
  refine Go.BigFrame.wpQuiet_want (by rfl) (fun K hK => ⟨.agg #[.int .i64 x, .int .i64 y, .int .i64 z], fun WQ hWQ => ?_, hK _ ?_⟩)
  · clear hK
    obtain ⟨q0, q1, q2⟩ := cells3 (keepb hWQ HP0.out)
    unfold Oper.quietAt
    go_simp
  clear hK K
  simp only [Act.put, List.setIfInBounds_toArray, List.set_cons_succ, List.set_cons_zero]
  refine Go.BigFrame.wpQuiet_want (by rfl) (fun K hK => ⟨.agg #[.int .i64 x', .int .i64 y', .int .i64 z'], fun WQ hWQ => ?_, hK _ ?_⟩)
  · clear hK
    obtain ⟨q0, q1, q2⟩ := cells3 (keepb hWQ HQ0.out)
    unfold Oper.quietAt
    go_simp
  clear hK K
  simp only [Act.put, List.setIfInBounds_toArray, List.set_cons_succ, List.set_cons_zero]
  refine Go.BigFrame.wpQuiet_want (by rfl) (fun K hK => ⟨.int .i64 d, fun WQ hWQ => ?_, hK _ ?_⟩)
  · clear hK
    unfold Oper.quietAt
    go_simp
    exact (CP1.out WQ).mono (fun e w' h => ⟨h.1, andThen hWQ h.2⟩)
  clear hK K
  simp only [Act.put, List.setIfInBounds_toArray, List.set_cons_succ, List.set_cons_zero]
  refine Go.BigFrame.wpQuiet_want (by rfl) (fun K hK => ⟨.agg #[.int .i64 x', .int .i64 y', .int .i64 z'], fun WQ hWQ => ?_, hK _ ?_⟩)
  · clear hK
    obtain ⟨q0, q1, q2⟩ := cells3 (keepb hWQ HQ0.out)
    unfold Oper.quietAt
    go_simp
  clear hK K
  simp only [Act.put, List.setIfInBounds_toArray, List.set_cons_succ, List.set_cons_zero]
  refine Go.BigFrame.wpQuiet_want (by rfl) (fun K hK => ⟨.agg #[.int .i64 x', .int .i64 y', .int .i64 z'], fun WQ hWQ => ?_, hK _ ?_⟩)
  · clear hK
    obtain ⟨q0, q1, q2⟩ := cells3 (keepb hWQ HQ0.out)
    unfold Oper.quietAt
    go_simp
  clear hK K
  simp only [Act.put, List.setIfInBounds_toArray, List.set_cons_succ, List.set_cons_zero]
  refine Go.BigFrame.wpQuiet_want (by rfl) (fun K hK => ⟨.int .i64 q, fun WQ hWQ => ?_, hK _ ?_⟩)
  · clear hK
    unfold Oper.quietAt
    go_simp
    exact (CP2.out WQ).mono (fun e w' h => ⟨h.1, andThen hWQ h.2⟩)
  clear hK K
  simp only [Act.put, List.setIfInBounds_toArray, List.set_cons_succ, List.set_cons_zero]
  refine Go.BigFrame.wpQuiet_want (by rfl) (fun K hK => ⟨.int .i64 d, fun WQ hWQ => ?_, hK _ ?_⟩)
  · clear hK
    unfold Oper.quietAt
    go_simp
  clear hK K
  simp only [Act.put, List.setIfInBounds_toArray, List.set_cons_succ, List.set_cons_zero]
  refine Go.BigFrame.wpQuiet_want (by rfl) (fun K hK => ⟨.int .i64 q, fun WQ hWQ => ?_, hK _ ?_⟩)
  · clear hK
    unfold Oper.quietAt
    go_simp
  clear hK K
  simp only [Act.put, List.setIfInBounds_toArray, List.set_cons_succ, List.set_cons_zero]
  refine wpQuiet_nil ?_
  intro w1 hb
  have HB1 := Lib.hid (trans' HB0.out hb)
  have HR1 := Lib.hid (keepb hb HR0.out)
  clear hb HB0 HP0 HQ0 HR0 CP1 CP2
  go_wp2_with fail
  refine (CD.out _).mono ?_
  rintro e w2 ⟨rfl, rfl⟩
  go_wp2_with fail
  refine (CU.out _).mono ?_
  rintro e w3 ⟨rfl, rfl⟩
  obtain ⟨y0, y1, e0, e1⟩ := two_cells HR1.out
  have hsz := lt_of_block HR1.out
  have hA : (f2 < f1 ∧ al = f2) ∨ (¬ f2 < f1 ∧ al = f1) := by
    have := HM.out
    by_cases c : f1 ≤ f2
    · rw [if_pos c] at this; exact .inr ⟨by omega, this⟩
    · rw [if_neg c] at this; exact .inl ⟨by omega, this⟩
  have hG : (g1 < g2 ∧ ah = g2) ∨ (¬ g1 < g2 ∧ ah = g1) := by
    have := HX.out
    by_cases c : g1 ≤ g2
    · rw [if_pos c] at this
      by_cases c2 : g1 < g2
      · exact .inl ⟨c2, this⟩
      · exact .inr ⟨c2, by omega⟩
    · rw [if_neg c] at this; exact .inr ⟨by omega, this⟩
  clear HM HX HR1 CD CU
  rcases hA with ⟨c1, rfl⟩ | ⟨c1, rfl⟩ <;> rcases hG with ⟨c2, rfl⟩ | ⟨c2, rfl⟩
  all_goals
    go_wp2_with fail
    refine (F1.out _).mono ?_
    rintro e w4 ⟨rfl, rfl⟩
    go_wp2_with fail
    refine (F2.out _).mono ?_
    rintro e w5 ⟨rfl, rfl⟩
    go_wp2_with fail
    refine (G1.out _).mono ?_
    rintro e w6 ⟨rfl, rfl⟩
    go_wp2_with fail
    refine (G2.out _).mono ?_
    rintro e w7 ⟨rfl, rfl⟩
    go_wp2_with fail
    refine bodyPost_ret (v := .agg #[.int .i64 al, .int .i64 ah]) (by simp [results, Try.results57, go_sem, y0, y1]) rfl ⟨rfl, ?_⟩
    exact setC (setC HB1.out (by omega) _) (by omega) _
end Go.Proofs.Ytjokfmbknkeeeaa.Orb
namespace Go.Proofs.Ytjokfmbknkeeeaa.Orb
open Go.RowKit Lib

theorem sq_ge (a : Int) : 0 ≤ a * a := by
  rcases Int.le_total 0 a with h | h
  · exact Int.mul_nonneg h h
  · rw [← Int.neg_mul_neg]; exact Int.mul_nonneg (by omega) (by omega)
def acG (lo hi : Int) : Int := max (-lo) hi
def acL (lo hi : Int) : Int := max (max 0 lo) (-hi)
/-- what is left of a square, or none -/
def left0 (all g : Int) : Int := max 0 (all - g * g)

set_option maxRecDepth 100000 in
set_option maxHeartbeats 4000000 in
theorem acrossOf_any (x y z lo hi : Int) (h1 : -1000000 ≤ x ∧ x ≤ 1000000) (h2 : -1000000 ≤ y ∧ y ≤ 1000000) (h3 : -1000000 ≤ z ∧ z ≤ 1000000) (h4 : -100000000 ≤ lo ∧ lo ≤ 100000000) (h5 : -100000000 ≤ hi ∧ hi ≤ 100000000) (w : World) :
    Calls Try.prog 58 #[.agg #[.int .i64 x, .int .i64 y, .int .i64 z], .agg #[.int .i64 lo, .int .i64 hi]] w fun e w' => e = .returned (.agg #[.int .i64 (rootI (left0 (x * x + y * y + z * z) (acG lo hi))), .int .i64 (upOf (left0 (x * x + y * y + z * z) (acL lo hi)) (rootI (left0 (x * x + y * y + z * z) (acL lo hi))))]) ∧ Below w.heap.size w w' := by
  have b4 := mul_bd x x 1000000 (by omega) (by omega) (by omega) (by omega)
  have b5 := mul_bd y y 1000000 (by omega) (by omega) (by omega) (by omega)
  have b6 := mul_bd z z 1000000 (by omega) (by omega) (by omega) (by omega)
  have p4 : 0 ≤ x * x := sq_ge x
  have p5 : 0 ≤ y * y := sq_ge y
  have p6 : 0 ≤ z * z := sq_ge z
  have CP := Lib.hid (fun W => product_any x y z x y z (by omega) (by omega) (by omega) (by omega) (by omega) (by omega) W)
  have a0 : 0 ≤ x * x + y * y + z * z := by omega
  have a1 : x * x + y * y + z * z ≤ 3000000000000 := by omega
  clear h1 h2 h3 b4 b5 b6 p4 p5 p6
  generalize x * x + y * y + z * z = all at *
  have HG : Hid (acG lo hi = if -lo < hi then hi else -lo) := by unfold Hid acG; rw [Int.max_def]; split <;> split <;> omega
  have HL : Hid (acL lo hi = if (if 0 < lo then lo else 0) < -hi then -hi else if 0 < lo then lo else 0) := by
    unfold Hid acL
    by_cases c : 0 < lo
    · rw [if_pos c]; split <;> omega
    · rw [if_neg c]; split <;> omega
  have g0 : 0 ≤ acL lo hi ∧ acL lo hi ≤ 100000000 := by unfold acL; omega
  have g1 : -100000000 ≤ acG lo hi ∧ acG lo hi ≤ 100000000 := by unfold acG; omega
  have n1 : IntKind.i64.wrap (-lo) = -lo := IntWalk.i64_in _ (by omega)
  have n2 : IntKind.i64.wrap (-hi) = -hi := IntWalk.i64_in _ (by omega)
  clear h4 h5
  have HA : Hid ((0 < all - acG lo hi * acG lo hi ∧ left0 all (acG lo hi) = all - acG lo hi * acG lo hi) ∨ (¬ 0 < all - acG lo hi * acG lo hi ∧ left0 all (acG lo hi) = 0)) := by unfold Hid left0; omega
  have HC : Hid ((0 < all - acL lo hi * acL lo hi ∧ left0 all (acL lo hi) = all - acL lo hi * acL lo hi) ∨ (¬ 0 < all - acL lo hi * acL lo hi ∧ left0 all (acL lo hi) = 0)) := by unfold Hid left0; omega
  generalize acG lo hi = g at *
  generalize acL lo hi = l at *
  have s1 := mul_bd g g 100000000 (by omega) (by omega) (by omega) (by omega)
  have s2 := mul_bd l l 100000000 (by omega) (by omega) (by omega) (by omega)
  have q1 : 0 ≤ g * g := sq_ge g
  have q2 : 0 ≤ l * l := sq_ge l
  have e1 : IntKind.i64.wrap (g * g) = g * g := IntWalk.i64_in _ (by omega)
  have e2 : IntKind.i64.wrap (l * l) = l * l := IntWalk.i64_in _ (by omega)
  have e3 : IntKind.i64.wrap (all - g * g) = all - g * g := IntWalk.i64_in _ (by omega)
  have e4 : IntKind.i64.wrap (all - l * l) = all - l * l := IntWalk.i64_in _ (by omega)
  have t1 : 0 ≤ left0 all g ∧ left0 all g < 288230376151711744 := by unfold left0; omega
  have t2 : 0 ≤ left0 all l ∧ left0 all l < 288230376151711744 := by unfold left0; omega
  have CD := Lib.hid (fun W => rootDown_any (left0 all g) t1.1 t1.2 W)
  have CU := Lib.hid (fun W => rootUp_any (left0 all l) t2.1 t2.2 W)
  clear t1 t2 q1 q2 s1 s2 g0 g1 a0 a1
  generalize rootI (left0 all g) = ra at *
  generalize upOf (left0 all l) (rootI (left0 all l)) = ub at *
  generalize left0 all g = mA at *
  generalize left0 all l = mB at *
  go_enter Try.func58, Try.ntmps58
  go_wp2_with fail
  obtain ⟨w0, hW⟩ : ∃ w0, w0 = ((w.alloc (.cells #[.int .i64 x, .int .i64 y, .int .i64 z] 28)).alloc (.cells #[.int .i64 lo, .int .i64 hi] 34)).alloc (.cells #[.int .i64 0, .int .i64 0] 34) := ⟨_, rfl⟩
  rw [← hW]
  have HB0 := Lib.hid (show Below w.heap.size w w0 by rw [hW]; (repeat (first | with_reducible exact Below.refl _ _ | with_reducible refine alloc1 ?_ _ | with_reducible refine Below.drew ?_ | with_reducible refine drewN1 ?_ _ | with_reducible refine setC ?_ (by omega) _)))
  have HQ0 := Lib.hid (show w0.heap[w.heap.size + 1]? = some (.cells #[.int .i64 lo, .int .i64 hi] 34 (0, 0)) by rw [hW]; (repeat (first | ((with_reducible refine hnew ?_); (simp; done)) | with_reducible refine hdrew ?_ | with_reducible refine hold ?_)))
  have HR0 := Lib.hid (show w0.heap[w.heap.size + 1 + 1]? = some (.cells #[.int .i64 0, .int .i64 0] 34 (0, 0)) by rw [hW]; (repeat (first | ((with_reducible refine hnew ?_); (simp; done)) | with_reducible refine hdrew ?_ | with_reducible refine hold ?_)))
  clear hW
  refine (CP.out _).mono ?_
  rintro e w1 ⟨rfl, hb⟩
  have HB1 := Lib.hid (trans' HB0.out hb)
  have HQ1 := Lib.hid (keepb hb HQ0.out)
  have HR1 := Lib.hid (keepb hb HR0.out)
  clear hb HB0 HQ0 HR0 CP
  obtain ⟨k0, k1, k2, k3⟩ := two_cells HQ1.out
  go_upto_region 2 with fail
  go_quiet (fail)
  have m1 : (if -lo < hi then hi else -lo) = g := HG.out.symm
  have m2 : (if (if 0 < lo then lo else 0) < -hi then -hi else if 0 < lo then lo else 0) = l := HL.out.symm
  rw [m1, m2]
  obtain ⟨wq, hwq⟩ : ∃ wq, wq = w1.drewN nq := ⟨_, rfl⟩
  have hbq : Below w1.heap.size w1 wq := by rw [hwq]; (repeat (first | with_reducible exact Below.refl _ _ | with_reducible refine alloc1 ?_ _ | with_reducible refine Below.drew ?_ | with_reducible refine drewN1 ?_ _ | with_reducible refine setC ?_ (by omega) _))
  rw [← hwq]
  have HB2 := Lib.hid (trans' HB1.out hbq)
  have HR2 := Lib.hid (keepb hbq HR1.out)
  clear hwq hbq k0 k1 k2 k3 m1 m2 HG HL HQ1 HR1 HB1
  obtain ⟨y0, y1, z0, z1⟩ := two_cells HR2.out
  have hsz := lt_of_block HR2.out
  have hA := HA.out
  have hC := HC.out
  clear HA HC n1 n2
  rcases hA with ⟨c1, hA⟩ | ⟨c1, hA⟩ <;> rcases hC with ⟨c2, hC⟩ | ⟨c2, hC⟩
  all_goals
    rw [hA] at CD
    rw [hC] at CU
    clear hA hC
    go_wp2_with fail
    refine (CD.out _).mono ?_
    rintro e w4 ⟨rfl, rfl⟩
    go_wp2_with fail
    refine (CU.out _).mono ?_
    rintro e w5 ⟨rfl, rfl⟩
    go_wp2_with fail
    refine bodyPost_ret (v := .agg #[.int .i64 ra, .int .i64 ub]) (by simp [results, Try.results58, go_sem, y0, y1]) rfl ⟨rfl, ?_⟩
    exact setC (setC HB2.out (by omega) _) (by omega) _
end Go.Proofs.Ytjokfmbknkeeeaa.Orb
namespace Go.Proofs.Ytjokfmbknkeeeaa.Orb
open Go.RowKit Lib

/-! the mathematics of baselines -/
theorem root_sz {s q r : Int} (h : s * s ≤ q) (hr : IsRoot q r) : -r ≤ s ∧ s ≤ r := by
  obtain ⟨r0, r1, r2⟩ := hr
  have hk : ∀ t : Int, 0 ≤ t → t * t ≤ q → t ≤ r := by
    intro t ht h1
    rcases Int.lt_or_le r t with h2 | h2
    · have := Int.mul_le_mul (show r + 1 ≤ t by omega) (show r + 1 ≤ t by omega) (by omega) ht
      omega
    · exact h2
  rcases Int.le_total 0 s with h1 | h1
  · have := hk s h1 h
    omega
  · have := hk (-s) (by omega) (by rw [Int.neg_mul_neg]; exact h)
    omega
theorem mul_sz {b s r M : Int} (hb : -M ≤ b ∧ b ≤ M) (hs : -r ≤ s ∧ s ≤ r) (hr : 0 ≤ r) : -(M * r) ≤ b * s ∧ b * s ≤ M * r := by
  have hM : 0 ≤ M := by omega
  have h1 : b.natAbs ≤ M.toNat := by omega
  have h2 : s.natAbs ≤ r.toNat := by omega
  have h3 := Nat.mul_le_mul h1 h2
  rw [← Int.natAbs_mul] at h3
  have h4 : ((M.toNat * r.toNat : Nat) : Int) = M * r := by rw [Int.natCast_mul, Int.toNat_of_nonneg hM, Int.toNat_of_nonneg hr]
  omega
theorem div_sz {d r M : Int} (hr : 0 < r) (h : -(M * r) ≤ d ∧ d ≤ M * r) : -M ≤ d / r ∧ d / r ≤ M := by
  refine ⟨Int.le_ediv_of_mul_le hr (by rw [Int.neg_mul]; exact h.1), ?_⟩
  have := Int.ediv_le_ediv hr h.2
  rwa [Int.mul_ediv_cancel _ (by omega)] at this
theorem ceil_sz {d r M : Int} (hr : 0 < r) (h : -(M * r) ≤ d ∧ d ≤ M * r) : -M ≤ ceilI d r ∧ ceilI d r ≤ M := by
  have := div_sz (d := -d) (M := M) hr ⟨by omega, by omega⟩
  unfold ceilI
  omega
theorem floor_ceil (d r : Int) (hr : 0 < r) : d / r ≤ ceilI d r := by
  unfold ceilI
  have h1 := Int.mul_ediv_self_le (x := d) (k := r) (by omega)
  have h2 := Int.mul_ediv_self_le (x := -d) (k := r) (by omega)
  have h3 : r * (d / r + -d / r) ≤ 0 := by rw [Int.mul_add]; omega
  rcases Int.lt_or_le 0 (d / r + -d / r) with h | h
  · have := Int.mul_pos hr h
    omega
  · omega
theorem al_le (d r up : Int) (h1 : 0 < r) : alLo d r up ≤ alHi d r up := by
  have := floor_ceil d r h1
  unfold alLo alHi
  omega
theorem al_sz {d r up M : Int} (hr : 0 < r) (hu : r ≤ up) (hM : 0 ≤ M) (h : -(M * r) ≤ d ∧ d ≤ M * r) : (-M ≤ alLo d r up ∧ alLo d r up ≤ M) ∧ (-M ≤ alHi d r up ∧ alHi d r up ≤ M) := by
  have hm := Int.mul_le_mul_of_nonneg_left hu hM
  have h2 : -(M * up) ≤ d ∧ d ≤ M * up := ⟨by omega, by omega⟩
  obtain ⟨a1, a2⟩ := div_sz hr h
  obtain ⟨a3, a4⟩ := div_sz (show 0 < up by omega) h2
  obtain ⟨a5, a6⟩ := ceil_sz hr h
  obtain ⟨a7, a8⟩ := ceil_sz (show 0 < up by omega) h2
  unfold alLo alHi
  omega
theorem acG_is {lo hi : Int} (h : lo ≤ hi) : acG lo hi = max ((lo.natAbs : Nat) : Int) ((hi.natAbs : Nat) : Int) := by unfold acG; omega
theorem acL_is {lo hi : Int} (h : lo ≤ hi) : acL lo hi = if lo < 0 ∧ 0 < hi then 0 else min ((lo.natAbs : Nat) : Int) ((hi.natAbs : Nat) : Int) := by unfold acL; split <;> omega
theorem acL_le {lo hi : Int} (h : lo ≤ hi) : 0 ≤ acL lo hi ∧ acL lo hi ≤ acG lo hi := by unfold acL acG; omega
theorem left_mono {all g l : Int} (h0 : 0 ≤ l) (h1 : l ≤ g) : left0 all g ≤ left0 all l := by
  have := Int.mul_le_mul h1 h1 h0 (by omega)
  unfold left0
  omega
theorem root_le {a b r s : Int} (h : a ≤ b) (ha : IsRoot a r) (hb : IsRoot b s) : r ≤ s := by
  obtain ⟨r0, r1, r2⟩ := ha
  obtain ⟨s0, s1, s2⟩ := hb
  rcases Int.lt_or_le s r with h2 | h2
  · have := Int.mul_le_mul (show s + 1 ≤ r by omega) (show s + 1 ≤ r by omega) (by omega) r0
    omega
  · exact h2
theorem up_ge (n r : Int) : r ≤ upOf n r := by unfold upOf; split <;> omega
theorem ac_le {all lo hi : Int} (h : lo ≤ hi) (h0 : 0 ≤ left0 all (acG lo hi) ∧ left0 all (acG lo hi) < 4611686018427387904) (h1 : 0 ≤ left0 all (acL lo hi) ∧ left0 all (acL lo hi) < 4611686018427387904) :
    rootI (left0 all (acG lo hi)) ≤ upOf (left0 all (acL lo hi)) (rootI (left0 all (acL lo hi))) := by
  obtain ⟨a, b⟩ := acL_le h
  exact Int.le_trans (root_le (left_mono a b) (rootI_is _ h0.1 h0.2) (rootI_is _ h1.1 h1.2)) (up_ge _ _)
end Go.Proofs.Ytjokfmbknkeeeaa.Orb
namespace Go.Proofs.Ytjokfmbknkeeeaa.Orb
open Go.RowKit Lib

/-! what a baseline comes to -/
def dvC (L1 L2 : List St) (f s : Int) (k : Nat) : Int := nomC L2 s k - nomC L1 f k
def svC (L1 : List St) (f x y z : Int) (k : Nat) : Int := cc3 x y z k - nomC L1 f k
def dot3 (a b : Nat → Int) : Int := a 0 * b 0 + a 1 * b 1 + a 2 * b 2
def bsE1 (n1 b1 : Int) (L1 : List St) (n2 b2 : Int) (L2 : List St) (f s x y z : Int) : Int := firstE [(orbE n1 b1 L1).2, (orbE n2 b2 L2).2, tickE L1 f, tickE L2 s, placeE x y z]
def bsE2 (d s : Nat → Int) : Int := firstE [baseE (d 0) (d 1) (d 2), sightE (s 0) (s 1) (s 2)]
def bsE (n1 b1 : Int) (L1 : List St) (n2 b2 : Int) (L2 : List St) (f s x y z : Int) : Int :=
  if bsE1 n1 b1 L1 n2 b2 L2 f s x y z = 0 then bsE2 (dvC L1 L2 f s) (svC L1 f x y z) else bsE1 n1 b1 L1 n2 b2 L2 f s x y z
def bsAl (d s : Nat → Int) : Int := alLo (dot3 d s) (rootI (dot3 s s)) (upOf (dot3 s s) (rootI (dot3 s s)))
def bsAh (d s : Nat → Int) : Int := alHi (dot3 d s) (rootI (dot3 s s)) (upOf (dot3 s s) (rootI (dot3 s s)))
def bsCl (d s : Nat → Int) : Int := rootI (left0 (dot3 d d) (acG (bsAl d s) (bsAh d s)))
def bsCh (d s : Nat → Int) : Int := upOf (left0 (dot3 d d) (acL (bsAl d s) (bsAh d s))) (rootI (left0 (dot3 d d) (acL (bsAl d s) (bsAh d s))))

theorem bsE1_zero {n1 b1 : Int} {L1 : List St} {n2 b2 : Int} {L2 : List St} {f s x y z : Int} (h : bsE1 n1 b1 L1 n2 b2 L2 f s x y z = 0) :
    ((orbE n1 b1 L1).2 = 0 ∧ Rt b1 L1) ∧ ((orbE n2 b2 L2).2 = 0 ∧ Rt b2 L2) ∧ (fst L1 ≤ f ∧ f ≤ lst L1) ∧ (fst L2 ≤ s ∧ s ≤ lst L2) ∧ placeE x y z = 0 := by
  unfold bsE1 at h
  rw [firstE_zero_iff] at h
  have h1 := h _ (List.mem_cons_self ..)
  have h2 := h (orbE n2 b2 L2).2 (by simp)
  exact ⟨⟨h1, (Rt.of h1).2⟩, ⟨h2, (Rt.of h2).2⟩, tickE_zero (h (tickE L1 f) (by simp)), tickE_zero (h (tickE L2 s) (by simp)), h _ (by simp)⟩
theorem nom_bd {bend : Int} {L : List St} (hR : Rt bend L) {t : Int} (h0 : fst L ≤ t) (h1 : t ≤ lst L) (k : Nat) : -100000000 ≤ nomC L t k ∧ nomC L t k ≤ 100000000 :=
  ((inArc hR t h0 h1).arc hR).nom k
theorem bsE2_zero {d s : Nat → Int} (h : bsE2 d s = 0) : baseE (d 0) (d 1) (d 2) = 0 ∧ sightE (s 0) (s 1) (s 2) = 0 := by
  unfold bsE2 at h
  rw [firstE_zero_iff] at h
  exact ⟨h _ (List.mem_cons_self ..), h _ (by simp)⟩
theorem baseE_zero {x y z : Int} (h : baseE x y z = 0) : (-1000000 ≤ x ∧ x ≤ 1000000) ∧ (-1000000 ≤ y ∧ y ≤ 1000000) ∧ (-1000000 ≤ z ∧ z ≤ 1000000) := by
  unfold baseE at h
  simp only [rangeE_zero] at h
  by_cases c : (-1000000 ≤ x ∧ x ≤ 1000000) ∧ (-1000000 ≤ y ∧ y ≤ 1000000) ∧ (-1000000 ≤ z ∧ z ≤ 1000000)
  · exact c
  · rw [if_neg c] at h; cases h
theorem sightE_zero {x y z : Int} (h : sightE x y z = 0) : 0 < x * x + y * y + z * z := by
  unfold sightE at h
  by_cases c : x = 0 ∧ y = 0 ∧ z = 0
  · rw [if_pos c] at h; cases h
  · have a := sq_ge x
    have b := sq_ge y
    have e := sq_ge z
    by_cases c1 : x = 0
    · by_cases c2 : y = 0
      · have c3 : z ≠ 0 := fun c3 => c ⟨c1, c2, c3⟩
        have : z * z ≠ 0 := fun hz => c3 (by rcases Int.mul_eq_zero.1 hz with h | h <;> exact h)
        omega
      · have : y * y ≠ 0 := fun hz => c2 (by rcases Int.mul_eq_zero.1 hz with h | h <;> exact h)
        omega
    · have : x * x ≠ 0 := fun hz => c1 (by rcases Int.mul_eq_zero.1 hz with h | h <;> exact h)
      omega
theorem bs_ok {d s : Nat → Int} (h : bsE2 d s = 0) (hb : ∀ k, -200000000 ≤ s k ∧ s k ≤ 200000000) :
    ((-1000000 ≤ d 0 ∧ d 0 ≤ 1000000) ∧ (-1000000 ≤ d 1 ∧ d 1 ≤ 1000000) ∧ (-1000000 ≤ d 2 ∧ d 2 ≤ 1000000)) ∧ 0 < dot3 s s ∧ (-3000000 ≤ bsAl d s ∧ bsAl d s ≤ 3000000) ∧ (-3000000 ≤ bsAh d s ∧ bsAh d s ≤ 3000000) ∧ bsAl d s ≤ bsAh d s ∧ bsCl d s ≤ bsCh d s := by
  obtain ⟨h1, h2⟩ := bsE2_zero h
  have hd := baseE_zero h1
  have hq : 0 < dot3 s s := sightE_zero h2
  have b4 := mul_bd (s 0) (s 0) 200000000 (by have := hb 0; omega) (by have := hb 0; omega) (by have := hb 0; omega) (by have := hb 0; omega)
  have b5 := mul_bd (s 1) (s 1) 200000000 (by have := hb 1; omega) (by have := hb 1; omega) (by have := hb 1; omega) (by have := hb 1; omega)
  have b6 := mul_bd (s 2) (s 2) 200000000 (by have := hb 2; omega) (by have := hb 2; omega) (by have := hb 2; omega) (by have := hb 2; omega)
  have hq2 : dot3 s s < 288230376151711744 := by unfold dot3; omega
  have hI := rootI_is (dot3 s s) (by omega) (by omega)
  have s0 : s 0 * s 0 ≤ dot3 s s := by have := sq_ge (s 1); have := sq_ge (s 2); unfold dot3; omega
  have s1 : s 1 * s 1 ≤ dot3 s s := by have := sq_ge (s 0); have := sq_ge (s 2); unfold dot3; omega
  have s2 : s 2 * s 2 ≤ dot3 s s := by have := sq_ge (s 0); have := sq_ge (s 1); unfold dot3; omega
  have hr0 : 0 < rootI (dot3 s s) := by
    obtain ⟨r0, r1, r2⟩ := hI
    rcases Int.lt_or_eq_of_le r0 with h | h
    · exact h
    · rw [← h] at r2; omega
  have hM : -(3000000 * rootI (dot3 s s)) ≤ dot3 d s ∧ dot3 d s ≤ 3000000 * rootI (dot3 s s) := by
    have e0 := mul_sz (M := 1000000) (b := d 0) (by omega) (root_sz s0 hI) (by omega)
    have e1 := mul_sz (M := 1000000) (b := d 1) (by omega) (root_sz s1 hI) (by omega)
    have e2 := mul_sz (M := 1000000) (b := d 2) (by omega) (root_sz s2 hI) (by omega)
    have : dot3 d s = d 0 * s 0 + d 1 * s 1 + d 2 * s 2 := rfl
    rw [this]
    omega
  obtain ⟨ha, hc⟩ := al_sz (up := upOf (dot3 s s) (rootI (dot3 s s))) hr0 (up_ge _ _) (by decide) hM
  have hle : bsAl d s ≤ bsAh d s := al_le _ _ _ hr0
  refine ⟨hd, hq, ha, hc, hle, ?_⟩
  have c4 := mul_bd (d 0) (d 0) 1000000 (by omega) (by omega) (by omega) (by omega)
  have c5 := mul_bd (d 1) (d 1) 1000000 (by omega) (by omega) (by omega) (by omega)
  have c6 := mul_bd (d 2) (d 2) 1000000 (by omega) (by omega) (by omega) (by omega)
  have hal : dot3 d d ≤ 3000000000000 := by unfold dot3; omega
  have g1 := sq_ge (acG (bsAl d s) (bsAh d s))
  have g2 := sq_ge (acL (bsAl d s) (bsAh d s))
  have g3 : 0 ≤ left0 (dot3 d d) (acG (bsAl d s) (bsAh d s)) ∧ left0 (dot3 d d) (acG (bsAl d s) (bsAh d s)) < 4611686018427387904 := by unfold left0; omega
  have g4 : 0 ≤ left0 (dot3 d d) (acL (bsAl d s) (bsAh d s)) ∧ left0 (dot3 d d) (acL (bsAl d s) (bsAh d s)) < 4611686018427387904 := by unfold left0; omega
  exact ac_le hle g3 g4
end Go.Proofs.Ytjokfmbknkeeeaa.Orb
