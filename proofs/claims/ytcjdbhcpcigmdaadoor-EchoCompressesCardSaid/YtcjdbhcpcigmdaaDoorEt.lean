import Derived.Test.YtcjdbhcpcigmdaaDoorEs
import Derived.Laws.StructEq
namespace Go.Proofs.YtcjdbhcpcigmdaaDoor
open Go.RowKit Go.Proofs.YtcjdbhcpcigmdaaDoor.Flt

/-- two pairs of numbers, compared -/
theorem eq_pair (a b c d : Int) (w : World) : (Op.equalIn 10000 51 (.agg #[.int .i64 a, .int .i64 b]) (.agg #[.int .i64 c, .int .i64 d])).run Tryd.prog w = .ok (a == c && b == d) w := by
  have h1 : (Op.equalIn 9999 3 (.int .i64 a) (.int .i64 c)).run Tryd.prog w = .ok (a == c) w := run_equalIn_int (P := Tryd.prog) w 9998 3 .i64 .i64 a c Tryd.underlying3
  have h2 : (Op.equalIn 9999 3 (.int .i64 b) (.int .i64 d)).run Tryd.prog w = .ok (b == d) w := run_equalIn_int (P := Tryd.prog) w 9998 3 .i64 .i64 b d Tryd.underlying3
  have hr : List.range' 0 2 = [0, 1] := rfl
  rw [Op.equalIn]
  simp only [Sem.run_bind, run_underlying Tryd.underlying51, Result.andThen_ok]
  cases hx : (a == c) <;> cases hy : (b == d) <;> rw [hx] at h1 <;> rw [hy] at h2 <;>
    simp [hr, List.forIn_cons, Sem.run_bind, go_sem, h1, h2, Tryd.sizeOf3, Tryd.isAgg3, Result.andThen]
theorem guard_pair : Tryd.prog.eqGuardType Tryd.prog.depth 51 = false := by kernel_rfl

set_option maxRecDepth 100000 in
theorem directions_out (m : Int) (h : m < 0 ∨ 1024 < m) (w : World) (ht : Tab w) :
    Calls Tryd.prog 9 #[.int .i64 m] w fun e w' => e = .returned (.bool true) ∧ Below w.heap.size w w' := by
  have CA := Lib.hid (awake_any w ht)
  have CD := Lib.hid (fun w => Direction_out m h w)
  have CW := Lib.hid (fun w => Within_any m 0 1024 w)
  rw [decide_eq_false (by omega)] at CW
  clear h ht
  have hEq := eq_pair
  have hGd := guard_pair
  go_enter Tryd.func9, Tryd.ntmps9
  go_wp2_with fail
  refine CA.out.mono ?_
  rintro e w1 ⟨rfl, hb⟩
  have HB1 := Lib.hid hb
  clear hb
  go_wp2_with fail
  refine (CD.out _).mono ?_
  rintro e w2 ⟨rfl, hb⟩
  have HB2 := Lib.hid (HB1.out.trans (hb.mono HB1.out.size))
  clear hb
  go_wp2_with fail
  refine (CW.out _).mono ?_
  rintro e w3 ⟨rfl, rfl⟩
  go_wp2_with fail
  go_ret
  exact ⟨rfl, HB2.out.alloc HB2.out.size _⟩

theorem ref_any (m : Nat) (hm : m ≤ 1024) (w : World) :
    Calls Tryd.prog 54 #[.int .i64 m] w fun e w' => e = .returned (.agg #[.int .i64 (dAt 10 m).1, .int .i64 (dAt 10 m).2]) ∧ Below w.heap.size w w' := by
  rcases Nat.eq_zero_or_pos m with rfl | h
  · exact refDirection0 w
  · exact refDirection_any m h hm w

set_option maxRecDepth 100000 in
set_option maxHeartbeats 1000000 in
theorem directions_in (m : Nat) (hm : m ≤ 1024) (w : World) (ht : Tab w) :
    Calls Tryd.prog 9 #[.int .i64 m] w fun e w' => e = .returned (.bool true) ∧ Below w.heap.size w w' := by
  have CA := Lib.hid (awake_any w ht)
  have CD := Lib.hid (fun w => Direction_any m hm w)
  have CR := Lib.hid (fun w => ref_any m hm w)
  have CW := Lib.hid (fun w => Within_any m 0 1024 w)
  rw [decide_eq_true (by omega)] at CW
  obtain ⟨s1, s2⟩ := dAt_size m hm
  have G := dAt_good 10 m
  have g1 := G.le
  have g2 := G.low
  have HT := Lib.hid (fun h : m < 1024 => And.intro (dAt_turn m h) (dAt_good 10 (m + 1)))
  have CN := Lib.hid (fun (h : m < 1024) w => Direction_any (m + 1) h w)
  generalize dAt 10 (m + 1) = E at *
  generalize dAt 10 m = D at *
  obtain ⟨d1, d2⟩ := D
  dsimp only at *
  have p1 : d1 * d1 ≤ 16777216 * 16777216 := Nat.mul_le_mul g1 g1
  have p2 : d2 * d2 ≤ 16777216 * 16777216 := Nat.mul_le_mul (by omega) (by omega)
  have e1 : (d1 : Int) * d1 = ((d1 * d1 : Nat) : Int) := (Int.natCast_mul _ _).symm
  have e2 : (d2 : Int) * d2 = ((d2 * d2 : Nat) : Int) := (Int.natCast_mul _ _).symm
  have b1 : 0 ≤ (d1 : Int) * d1 := by rw [e1]; omega
  have b2 : (d1 : Int) * d1 ≤ 281474976710656 := by rw [e1]; omega
  have b3 : 0 ≤ (d2 : Int) * d2 := by rw [e2]; omega
  have b4 : (d2 : Int) * d2 ≤ 281474976710656 := by rw [e2]; omega
  have CS : Hid (∀ w, Calls Tryd.prog 32 #[.int .i64 ((d1 : Int) * d1 + (d2 : Int) * d2), .int .i64 281474842492944, .int .i64 281475010265089] w fun e w' => e = .returned (.bool true) ∧ w = w') := by
    intro w
    have := Within_any ((d1 : Int) * d1 + (d2 : Int) * d2) 281474842492944 281475010265089 w
    rw [decide_eq_true (by rw [e1, e2]; omega)] at this
    exact this
  have HG := Lib.hid (And.intro g1 g2)
  clear ht s1 s2 G g1 g2 p1 p2 e1 e2
  have hEq := eq_pair
  have hGd := guard_pair
  go_enter Tryd.func9, Tryd.ntmps9
  go_wp2_with fail
  refine CA.out.mono ?_
  rintro e w1 ⟨rfl, hb⟩
  have HB1 := Lib.hid hb
  clear hb
  go_wp2_with fail
  refine (CD.out _).mono ?_
  rintro e w2 ⟨rfl, hb⟩
  have HB2 := Lib.hid (HB1.out.trans (hb.mono HB1.out.size))
  clear hb
  go_wp2_with fail
  refine (CW.out _).mono ?_
  rintro e w3 ⟨rfl, rfl⟩
  have HN : Hid (∀ w3, w3 = w2.alloc (.cells #[.int .i64 d1, .int .i64 d2] 51) → w3.heap[w2.heap.size]? = some (.cells #[.int .i64 d1, .int .i64 d2] 51 (0, 0)) ∧ Below w.heap.size w w3) := by
    rintro w3 rfl
    exact ⟨heap_alloc_new _ _, HB2.out.alloc HB2.out.size _⟩
  obtain ⟨w3, hw3⟩ : ∃ w3, w3 = w2.alloc (.cells #[.int .i64 d1, .int .i64 d2] 51) := ⟨_, rfl⟩
  have HN3 := Lib.hid (HN.out w3 hw3)
  rw [← hw3]
  have ne := HB2.out.size
  clear hw3 HN HB1 HB2 CA CD CW
  obtain ⟨k0, k1, -, -, l3⟩ := two_cells HN3.out.1
  go_wp2_with fail
  go_region_held3 (fun W => W.cell? ⟨w2.heap.size, 0, none⟩ = some (.int .i64 d1) ∧ W.cell? ⟨w2.heap.size, 1, none⟩ = some (.int .i64 d2)) (first | exact ⟨k0, k1⟩ | go_keep)
    (first
      | (go_at_call 54; refine (CR.out _).mono ?_; rintro e w4 ⟨rfl, hb4⟩; have HN4 := Lib.hid (And.intro ((hb4.block _ l3).trans HN3.out.1) (HN3.out.2.trans (((Below.refl w3.heap.size w3).drew.trans hb4).mono HN3.out.2.size))); obtain ⟨k0, k1, -, -, l4⟩ := two_cells HN4.out.1; clear hb4))
  clear k0 k1 l3 HN3
  obtain ⟨k0, k1, -, -, l3⟩ := two_cells HN4.out.1
  go_wp2_with fail
  refine (CS.out _).mono ?_
  rintro e w5 ⟨rfl, rfl⟩
  by_cases hc : m = 1024
  · have h1 : ((m : Int) == 1024) = true := by rw [beq_iff_eq]; omega
    clear b1 b2 b3 b4
    go_wp2_with fail
    go_ret
    exact ⟨rfl, HN4.out.2⟩
  · have hlt : m < 1024 := by omega
    have h1 : ((m : Int) == 1024) = false := by rw [beq_eq_false_iff_ne]; omega
    obtain ⟨t, GE⟩ := HT.out hlt
    have t1 := GE.le
    have t2 := GE.low
    have CN2 : Hid (∀ w, Calls Tryd.prog 53 #[.int .i64 ((m : Int) + 1)] w fun e w' => e = .returned (.tuple #[.agg #[.int .i64 E.1, .int .i64 E.2], .int .i64 0]) ∧ Below w.heap.size w w') := CN.out hlt
    obtain ⟨n1, n2⟩ := E
    dsimp only at *
    have g1 := HG.out.1
    have g2 := HG.out.2
    have r1 : d1 * n2 ≤ 16777216 * 16777216 := Nat.mul_le_mul g1 (by omega)
    have r2 : d2 * n1 ≤ 16777216 * 16777216 := Nat.mul_le_mul (by omega) t1
    have e1 : (d1 : Int) * n2 = ((d1 * n2 : Nat) : Int) := (Int.natCast_mul _ _).symm
    have e2 : (d2 : Int) * n1 = ((d2 * n1 : Nat) : Int) := (Int.natCast_mul _ _).symm
    have f1 : 0 ≤ (d1 : Int) * n2 := by rw [e1]; omega
    have f2 : (d1 : Int) * n2 ≤ 281474976710656 := by rw [e1]; omega
    have f3 : 0 ≤ (d2 : Int) * n1 := by rw [e2]; omega
    have f4 : (d2 : Int) * n1 ≤ 281474976710656 := by rw [e2]; omega
    have f5 : (d2 : Int) * n1 < (d1 : Int) * n2 := by rw [e1, e2]; omega
    have W1 := Lib.hid (fun w => Within_any n1 0 16777216 w)
    rw [decide_eq_true (by omega)] at W1
    have W2 := Lib.hid (fun w => Within_any n2 0 16777216 w)
    rw [decide_eq_true (by omega)] at W2
    clear b1 b2 b3 b4 HT CN GE t t1 t2 g1 g2 r1 r2 e1 e2 hc CS CR
    go_wp2_with fail
    refine (CN2.out _).mono ?_
    rintro e w6 ⟨rfl, hb6⟩
    have HN6 := Lib.hid (And.intro ((hb6.block _ l3).trans HN4.out.1) (HN4.out.2.trans (hb6.mono HN4.out.2.size)))
    clear hb6 k0 k1
    obtain ⟨k0, k1, -, -, l6⟩ := two_cells HN6.out.1
    go_wp2_with fail
    refine (W1.out _).mono ?_
    rintro e w7 ⟨rfl, rfl⟩
    go_wp2_with fail
    refine (W2.out _).mono ?_
    rintro e w7 ⟨rfl, rfl⟩
    go_wp2_with fail
    go_ret
    exact ⟨rfl, HN6.out.2.alloc HN6.out.2.size _⟩

/-- THE LAW, FOR EVERY NUMBER -/
theorem directions_any (m : Int) (w : World) (ht : Tab w) :
    Calls Tryd.prog 9 #[.int .i64 m] w fun e w' => e = .returned (.bool true) ∧ Below w.heap.size w w' := by
  by_cases h : m < 0 ∨ 1024 < m
  · exact directions_out m h w ht
  · obtain ⟨k, rfl⟩ : ∃ k : Nat, m = k := ⟨m.toNat, by omega⟩
    exact directions_in k (by omega) w ht
end Go.Proofs.YtcjdbhcpcigmdaaDoor
