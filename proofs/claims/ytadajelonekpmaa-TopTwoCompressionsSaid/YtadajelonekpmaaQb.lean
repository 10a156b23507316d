import Derived.Test.YtadajelonekpmaaNc
import Derived.Test.YtadajelonekpmaaCa
import Derived.Test.YtadajelonekpmaaOa
/-! The small check of the statements over chapter 1 (as in XQd, which TopFocusLinear uses). -/
namespace Go.Proofs.Ytadajelonekpmaa
open Go.RowKit Go.Proofs.Ytadajelonekpmaa.Flt

def zsT : List (Nat × Nat) := [(0, 0), (1065353216, 0), (1065353216, 0), (3212836864, 0), (0, 0)]
def usT : List (Nat × Nat) := [(1065353216, 0), (1065353216, 0), (3212836864, 0)]
def fsT : List (Nat × Nat) := [(0, 0), (4613937818241073152, 0), (0, 0)]
theorem fsT_eq : compList zsT usT 5 3 3 = fsT := by decide +kernel
theorem errT : (dataErr .f32 2047 1 5 zsT).2 = 0 := by decide +kernel
theorem errT2 : (codeErr usT).2 = 0 := by decide +kernel
theorem trT : trList [1, 2] (rootN 2) 1 = [3, 998244352] := by decide +kernel

theorem imageT (W : World) : Calls Try.prog 15 #[.int .i64 1, .int .i64 5, .slice (some ⟨W.heap.size, 0, none⟩) 10 10]
    (W.alloc (.cells #[.float .f32 0, .float .f32 0, .float .f32 1065353216, .float .f32 0, .float .f32 1065353216, .float .f32 0, .float .f32 3212836864, .float .f32 0, .float .f32 0, .float .f32 0] 53)) (ImgGot 1 5 zsT W) :=
  (Image_any 1 5 _ [0, 0, 1065353216, 0, 1065353216, 0, 3212836864, 0, 0, 0] _ (Sl.built W (fvals .f32 [0, 0, 1065353216, 0, 1065353216, 0, 3212836864, 0, 0, 0]) 53 (by decide)) (by decide)).mono
    fun e w' h => ImgGot.of (below_new _ _) (by decide) h

/-- what Compress hands back -/
def FieldGotT (W : World) (e : Ending) (w' : World) : Prop :=
  ∃ g, e = .returned (.tuple #[.agg #[.int .i64 1, .int .i64 3, .slice (some ⟨g, 0, none⟩) 3 3], .int .i64 0]) ∧ Below W.heap.size W w' ∧ Sl w' (.slice (some ⟨g, 0, none⟩) 3 3) (cvals .f64 fsT)
theorem compressT (v : Value) (W : World) (hv : Sl W v (cvals .f32 zsT)) : Calls Try.prog 9 #[.agg #[.int .i64 1, .int .i64 5, v], .slice (some ⟨W.heap.size, 0, none⟩) 3 3]
    (W.alloc (.cells #[.complex .f32 1065353216 0, .complex .f32 1065353216 0, .complex .f32 3212836864 0] 54)) (FieldGotT W) := by
  refine (Compress_ok 1 5 3 v (.slice (some ⟨W.heap.size, 0, none⟩) 3 3) zsT usT _ (hv.below (below_new W _) (Nat.le_refl _)) (Sl.built W (cvals .f32 usT) 54 (by decide)) (by decide) (by decide) (by decide) (by decide) (by decide) (by decide) rfl errT errT2 (by decide)).mono ?_
  rintro e w' ⟨g, rfl, -, hb, ho⟩
  have h1 := below_new W (.cells #[.complex .f32 1065353216 0, .complex .f32 1065353216 0, .complex .f32 3212836864 0] 54)
  rw [show 1 * (5 - 3 + 1) = 3 from rfl, show 5 - 3 + 1 = 3 from rfl, fsT_eq] at ho
  exact ⟨g, rfl, h1.trans (hb.mono h1.size), Sl.of_owns ho (by decide)⟩

/-- a list got -/
def ListGotT (xs : List Int) (W : World) (e : Ending) (w' : World) : Prop := ∃ v, e = .returned (.tuple #[v, .int .i64 0]) ∧ Below W.heap.size W w' ∧ Sl w' v (ivals xs)
theorem transT (W : World) : Calls Try.prog 18 #[.slice (some ⟨W.heap.size, 0, none⟩) 2 2] (W.alloc (.cells #[.int .i64 1, .int .i64 2] 3)) (ListGotT [3, 998244352] W) := by
  have h1 := below_new W (.cells #[.int .i64 1, .int .i64 2] 3)
  refine (Transform_ok _ [1, 2] _ (Sl.built W (ivals [1, 2]) 3 (by decide)) (by decide)).mono ?_
  rintro e w' ⟨v, rfl, hb, ho⟩
  rw [show ([1, 2] : List Int).length = 2 from rfl, trT] at ho
  exact ⟨v, rfl, h1.trans (hb.mono h1.size), Sl.of_owns ho (by decide)⟩

set_option maxRecDepth 100000 in
set_option maxHeartbeats 1000000 in
/-- THE SMALL CHECK OF THE STATEMENTS OVER CHAPTER 1 -/
theorem compressed_any (w : World) : Calls Try.prog 5 #[] w fun e w' => e = .returned (.bool true) ∧ Below w.heap.size w w' := by
  go_enter Try.func5, Try.ntmps5
  go_wp2_with fail
  refine (imageT w).mono ?_
  rintro e w1 ⟨v1, rfl, hb, hs, -⟩
  have HB1 := Lib.hid hb
  have S1 := Lib.hid hs
  clear hb hs
  go_wp2_with fail
  refine (compressT v1 w1 S1.out).mono ?_
  rintro e w2 ⟨g, rfl, hb, hs⟩
  have HB2 := Lib.hid (HB1.out.trans (hb.mono HB1.out.size))
  have S2 := Lib.hid hs
  clear hb hs HB1 S1
  go_wp2_with fail
  obtain ⟨wa, hwa⟩ : ∃ wa, wa = w2.alloc (.cells #[.int .i64 1, .int .i64 3, .slice (some ⟨g, 0, none⟩) 3 3] 34) := ⟨_, rfl⟩
  have F0 : Hid (wa.heap[w2.heap.size]? = some (.cells #[.int .i64 1, .int .i64 3, .slice (some ⟨g, 0, none⟩) 3 3] 34 (0, 0))) := by rw [hwa]; exact heap_alloc_new _ _
  have n2 : Below w2.heap.size w2 wa := by rw [hwa]; exact below_new _ _
  have HBa := Lib.hid (HB2.out.trans (n2.mono HB2.out.size))
  have Sa := Lib.hid (S2.out.below n2 (Nat.le_refl _))
  have hz : wa.heap.size = w2.heap.size + 1 := by rw [hwa]; exact World.size_alloc _ _
  rw [← hwa, ← hz]
  clear hwa hz n2 HB2 S2
  refine (transT wa).mono ?_
  rintro e w4 ⟨v4, rfl, hb, hs⟩
  have HB4 := Lib.hid (HBa.out.trans (hb.mono HBa.out.size))
  have S4 := Lib.hid (Sa.out.below hb (Nat.le_refl _))
  have F4 : Hid (w4.heap[w2.heap.size]? = some (.cells #[.int .i64 1, .int .i64 3, .slice (some ⟨g, 0, none⟩) 3 3] 34 (0, 0))) := (hb.block _ (lt_of_block F0.out)).trans F0.out
  have L4 := Lib.hid hs
  clear hb hs HBa Sa F0
  obtain ⟨c0, c1, c2, -, -, -, l1⟩ := three_cells F4.out
  have CS : Hid (Calls Try.prog 19 #[.slice (some ⟨g, 0, none⟩) 3 3, .slice (some ⟨w4.heap.size, 0, none⟩) 3 3]
      (w4.alloc (.cells #[.complex .f64 0 0, .complex .f64 4613937818241073152 0, .complex .f64 0 0] 43)) fun e w' => e = .returned (.bool true) ∧ Below w4.heap.size w4 w') := by
    have n4 := below_new w4 (.cells #[.complex .f64 0 0, .complex .f64 4613937818241073152 0, .complex .f64 0 0] 43)
    refine (SameSums_true _ _ fsT _ (S4.out.below n4 (Nat.le_refl _)) (Sl.built w4 (cvals .f64 fsT) 43 (by decide))).mono ?_
    rintro e w' ⟨rfl, q, rfl⟩
    exact ⟨rfl, n4.trans (below_drewN' _ _ q)⟩
  clear S4 F4
  go_wp2_with fail
  refine CS.out.mono ?_
  rintro e w7 ⟨rfl, hb⟩
  have HB7 := Lib.hid (HB4.out.trans (hb.mono HB4.out.size))
  have L7 := Lib.hid (L4.out.below hb (Nat.le_refl _))
  clear hb HB4 L4 CS c0 c1 c2 l1
  have CI : Hid (Calls Try.prog 20 #[v4, .slice (some ⟨w7.heap.size, 0, none⟩) 2 2] (w7.alloc (.cells #[.int .i64 3, .int .i64 998244352] 3)) fun e w' => e = .returned (.bool true) ∧ Below w7.heap.size w7 w') := by
    have n7 := below_new w7 (.cells #[.int .i64 3, .int .i64 998244352] 3)
    refine (Ints_true _ _ [3, 998244352] _ (L7.out.below n7 (Nat.le_refl _)) (Sl.built w7 (ivals [3, 998244352]) 3 (by decide))).mono ?_
    rintro e w' ⟨rfl, q, rfl⟩
    exact ⟨rfl, n7.trans (below_drewN' _ _ q)⟩
  clear L7
  go_wp2_with fail
  refine CI.out.mono ?_
  rintro e w8 ⟨rfl, hb⟩
  have HB8 := Lib.hid (HB7.out.trans (hb.mono HB7.out.size))
  clear hb HB7 CI
  go_wp2_with fail
  go_ret
  exact ⟨rfl, HB8.out⟩
end Go.Proofs.Ytadajelonekpmaa
