import Derived.Test.YtcjdbhcpcigmdaaDoorEo
namespace Go.Proofs.YtcjdbhcpcigmdaaDoor
open Go.RowKit Go.Proofs.YtcjdbhcpcigmdaaDoor.Flt

theorem txtTest : (txtA.toList == [105, 109, 97, 103, 101, 32, 49, 32, 50, 32, 52, 52, 50, 50, 51, 10, 49, 32, 48, 32, 48, 32, 50, 10]) = true := by decide +kernel

set_option maxRecDepth 100000 in
set_option maxHeartbeats 1000000 in
/-- THE EXAMPLES OF THE CHAPTER ARE AS TOLD -/
theorem awake_any (w : World) (ht : Tab w) : Calls Tryd.prog 15 #[] w fun e w' => e = .returned (.bool true) ∧ Below w.heap.size w w' := by
  have HT := Lib.hid ht
  clear ht
  go_enter Tryd.func15, Tryd.ntmps15
  go_wp2_with fail
  refine (imageA w).mono ?_
  rintro e w1 ⟨v1, rfl, hb, hs, -⟩
  have HB1 := Lib.hid hb
  have S1 := Lib.hid hs
  clear hb hs
  go_wp2_with fail
  refine (compressA v1 w1 S1.out).mono ?_
  rintro e w2 ⟨g, rfl, hb, hs⟩
  have HB2 := Lib.hid (HB1.out.trans (hb.mono HB1.out.size))
  have S2 := Lib.hid hs
  clear hb hs HB1 S1
  go_wp2_with fail
  refine (phaseA _).mono ?_
  rintro e w3 ⟨rfl, hb⟩
  have n2 := below_new w2 (.cells #[.int .i64 1, .int .i64 3, .slice (some ⟨g, 0, none⟩) 3 3] 49)
  have hb3 := n2.trans (hb.mono n2.size)
  have HB3 := Lib.hid (HB2.out.trans (hb3.mono HB2.out.size))
  have S3 := Lib.hid (S2.out.below hb3 (Nat.le_refl _))
  have F3 : Hid (w3.heap[w2.heap.size]? = some (.cells #[.int .i64 1, .int .i64 3, .slice (some ⟨g, 0, none⟩) 3 3] 49 (0, 0))) := (hb.block _ (by simp)).trans (heap_alloc_new _ _)
  clear hb hb3 n2 HB2 S2
  go_wp2_with fail
  refine (correlateA w3).mono ?_
  rintro e w4 ⟨v4, rfl, hb, hs⟩
  have HB4 := Lib.hid (HB3.out.trans (hb.mono HB3.out.size))
  have S4 := Lib.hid (S3.out.below hb (Nat.le_refl _))
  have F4 : Hid (w4.heap[w2.heap.size]? = some (.cells #[.int .i64 1, .int .i64 3, .slice (some ⟨g, 0, none⟩) 3 3] 49 (0, 0))) := (hb.block _ (lt_of_block F3.out)).trans F3.out
  have L4 := Lib.hid hs
  clear hb hs HB3 S3 F3
  go_wp2_with fail
  refine (imageB w4).mono ?_
  rintro e w5 ⟨v5, rfl, hb, hs, hc⟩
  have HB5 := Lib.hid (HB4.out.trans (hb.mono HB4.out.size))
  have S5 := Lib.hid (S4.out.below hb (Nat.le_refl _))
  have F5 : Hid (w5.heap[w2.heap.size]? = some (.cells #[.int .i64 1, .int .i64 3, .slice (some ⟨g, 0, none⟩) 3 3] 49 (0, 0))) := (hb.block _ (lt_of_block F4.out)).trans F4.out
  have L5 := Lib.hid (L4.out.below hb (Nat.le_refl _))
  have CP := Lib.hid (printA v5 w5 hs hc (HT.out.below HB5.out))
  clear hb hs hc HB4 S4 F4 L4
  go_wp2_with fail
  refine CP.out.mono ?_
  rintro e w6 ⟨rfl, hb⟩
  have HB6 := Lib.hid (HB5.out.trans (hb.mono HB5.out.size))
  have S6 := Lib.hid (S5.out.below hb (Nat.le_refl _))
  have F6 : Hid (w6.heap[w2.heap.size]? = some (.cells #[.int .i64 1, .int .i64 3, .slice (some ⟨g, 0, none⟩) 3 3] 49 (0, 0))) := (hb.block _ (lt_of_block F5.out)).trans F5.out
  have L6 := Lib.hid (L5.out.below hb (Nat.le_refl _))
  clear hb HB5 S5 F5 L5 CP
  obtain ⟨c0, c1, c2, -, -, -, l1⟩ := three_cells F6.out
  have CS : Hid (Calls Tryd.prog 40 #[.agg #[.int .i64 1, .int .i64 3, .slice (some ⟨g, 0, none⟩) 3 3], .agg #[.int .i64 1, .int .i64 3, .slice (some ⟨w6.heap.size, 0, none⟩) 3 3]]
      (w6.alloc (.cells #[.complex .f64 4607182418800017408 13835058055282163712, .complex .f64 4611686018427387904 13837309855095848960, .complex .f64 4613937818241073152 13839561654909534208] 88)) fun e w' => e = .returned (.bool true) ∧ Below w6.heap.size w6 w') := by
    have n6 := below_new w6 (.cells #[.complex .f64 4607182418800017408 13835058055282163712, .complex .f64 4611686018427387904 13837309855095848960, .complex .f64 4613937818241073152 13839561654909534208] 88)
    refine (SameField_true 1 3 _ _ fsA _ (S6.out.below n6 (Nat.le_refl _)) (Sl.built w6 (cvals .f64 fsA) 88 (by decide))).mono ?_
    rintro e w' ⟨rfl, hb⟩
    exact ⟨rfl, n6.trans (hb.mono n6.size)⟩
  clear S6 F6
  go_wp2_with fail
  refine CS.out.mono ?_
  rintro e w7 ⟨rfl, hb⟩
  have HB7 := Lib.hid (HB6.out.trans (hb.mono HB6.out.size))
  have L7 := Lib.hid (L6.out.below hb (Nat.le_refl _))
  clear hb HB6 L6 CS c0 c1 c2 l1
  have CI : Hid (Calls Tryd.prog 48 #[v4, .slice (some ⟨w7.heap.size, 0, none⟩) 2 2] (w7.alloc (.cells #[.int .i64 11, .int .i64 10] 3)) fun e w' => e = .returned (.bool true) ∧ Below w7.heap.size w7 w') := by
    have n7 := below_new w7 (.cells #[.int .i64 11, .int .i64 10] 3)
    refine (Ints_true _ _ [11, 10] _ (L7.out.below n7 (Nat.le_refl _)) (Sl.built w7 (ivals [11, 10]) 3 (by decide))).mono ?_
    rintro e w' ⟨rfl, q, rfl⟩
    exact ⟨rfl, n7.trans (below_drewN' _ _ q)⟩
  clear L7
  go_wp2_with fail
  refine CI.out.mono ?_
  rintro e w8 ⟨rfl, hb⟩
  have HB8 := Lib.hid (HB7.out.trans (hb.mono HB7.out.size))
  clear hb HB7 CI
  go_wp2_with fail
  go_ret
  exact ⟨by rw [txtTest]; rfl, HB8.out⟩
end Go.Proofs.YtcjdbhcpcigmdaaDoor
