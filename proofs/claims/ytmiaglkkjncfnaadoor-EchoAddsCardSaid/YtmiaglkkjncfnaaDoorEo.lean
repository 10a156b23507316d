import Derived.Test.YtmiaglkkjncfnaaDoorEn
namespace Go.Proofs.YtmiaglkkjncfnaaDoor
open Go.RowKit Go.Proofs.YtmiaglkkjncfnaaDoor.Flt

/-- values that lie in a block made for them -/
theorem Sl.built (w : World) (vs : List Value) (t : TypeId) (h : vs.length ≤ 1000) : Sl (w.alloc (.cells vs.toArray t)) (.slice (some ⟨w.heap.size, 0, none⟩) vs.length vs.length) vs := by
  refine ⟨some ⟨w.heap.size, 0, none⟩, vs.length, rfl, by omega, .inr ⟨w.heap.size, 0, rfl, by simp, fun j x hx => ?_⟩⟩
  rw [cell_of_row (w.alloc _) w.heap.size (0 + j) _ t (0, 0) (heap_alloc_new _ _), Nat.zero_add, ← hx]
  simp

theorem below_new (w : World) (o : Obj) : Below w.heap.size w (w.alloc o) := (Below.refl _ _).alloc (Nat.le_refl _) _

def zsA : List (Nat × Nat) := [(1065353216, 0), (1073741824, 0), (1077936128, 0), (1082130432, 0)]
def usA : List (Nat × Nat) := [(1065353216, 0), (0, 1065353216)]
def fsA : List (Nat × Nat) := [(4607182418800017408, 13835058055282163712), (4611686018427387904, 13837309855095848960), (4613937818241073152, 13839561654909534208)]
def zsB : List (Nat × Nat) := [(1065353216, 0), (0, 1073741824)]

/-- what base.Image hands back -/
def ImgGot (l s : Int) (zs : List (Nat × Nat)) (W : World) (e : Ending) (w' : World) : Prop :=
  ∃ v, e = .returned (.agg #[.int .i64 l, .int .i64 s, v]) ∧ Below W.heap.size W w' ∧ Sl w' v (cvals .f32 zs) ∧ ∀ a m c, v = .slice a m c → m ≤ c ∧ c ≤ 9223372036854775807

theorem ImgGot.of {l s : Int} {zs : List (Nat × Nat)} {W w2 : World} {e : Ending} {w' : World} (hb : Below W.heap.size W w2) (hn : zs.length ≤ 1000) (h : ImageOk l s zs w2 e w') : ImgGot l s zs W e w' := by
  obtain ⟨v, h1, h2, h3⟩ := h
  refine ⟨v, h1, hb.trans (h2.mono hb.size), Sl.of_owns h3 (by omega), ?_⟩
  intro a m c hv
  rcases h3.2 with ⟨h4, -⟩ | ⟨g, cap, cur, h4, -, -, h5, h6, -⟩
  · rw [hv] at h4; injection h4 with _ h7 h8; subst h7 h8; exact ⟨Nat.le_refl _, by decide⟩
  · rw [hv] at h4; injection h4 with _ h7 h8; subst h7 h8; exact ⟨h5, by have := h6; unfold maxLen at this; omega⟩

theorem imageA (W : World) : Calls Tryd.prog 24 #[.int .i64 1, .int .i64 4, .slice (some ⟨W.heap.size, 0, none⟩) 8 8]
    (W.alloc (.cells #[.float .f32 1065353216, .float .f32 0, .float .f32 1073741824, .float .f32 0, .float .f32 1077936128, .float .f32 0, .float .f32 1082130432, .float .f32 0] 69)) (ImgGot 1 4 zsA W) :=
  (Image_any 1 4 _ [1065353216, 0, 1073741824, 0, 1077936128, 0, 1082130432, 0] _ (Sl.built W (fvals .f32 [1065353216, 0, 1073741824, 0, 1077936128, 0, 1082130432, 0]) 69 (by decide)) (by decide)).mono
    fun e w' h => ImgGot.of (below_new _ _) (by decide) h
theorem imageB (W : World) : Calls Tryd.prog 24 #[.int .i64 1, .int .i64 2, .slice (some ⟨W.heap.size, 0, none⟩) 4 4]
    (W.alloc (.cells #[.float .f32 1065353216, .float .f32 0, .float .f32 0, .float .f32 1073741824] 69)) (ImgGot 1 2 zsB W) :=
  (Image_any 1 2 _ [1065353216, 0, 0, 1073741824] _ (Sl.built W (fvals .f32 [1065353216, 0, 0, 1073741824]) 69 (by decide)) (by decide)).mono
    fun e w' h => ImgGot.of (below_new _ _) (by decide) h

/-- what Compress hands back -/
def FieldGot (W : World) (e : Ending) (w' : World) : Prop :=
  ∃ g, e = .returned (.tuple #[.agg #[.int .i64 1, .int .i64 3, .slice (some ⟨g, 0, none⟩) 3 3], .int .i64 0]) ∧ Below W.heap.size W w' ∧ Sl w' (.slice (some ⟨g, 0, none⟩) 3 3) (cvals .f64 fsA)

theorem fsA_eq : compList zsA usA 4 3 3 = fsA := by decide +kernel
theorem errA : (dataErr .f32 2047 1 4 zsA).2 = 0 := by decide +kernel
theorem errA2 : (codeErr usA).2 = 0 := by decide +kernel
theorem errB : (dataErr .f32 2047 1 2 zsB).2 = 0 := by decide +kernel

theorem compressA (v : Value) (W : World) (hv : Sl W v (cvals .f32 zsA)) : Calls Tryd.prog 16 #[.agg #[.int .i64 1, .int .i64 4, v], .slice (some ⟨W.heap.size, 0, none⟩) 2 2]
    (W.alloc (.cells #[.complex .f32 1065353216 0, .complex .f32 0 1065353216] 70)) (FieldGot W) := by
  refine (Compress_ok 1 4 2 v (.slice (some ⟨W.heap.size, 0, none⟩) 2 2) zsA usA _ (hv.below (below_new W _) (Nat.le_refl _)) (Sl.built W (cvals .f32 usA) 70 (by decide)) (by decide) (by decide) (by decide) (by decide) (by decide) (by decide) rfl errA errA2 (by decide)).mono ?_
  rintro e w' ⟨g, rfl, -, hb, ho⟩
  have h1 := below_new W (.cells #[.complex .f32 1065353216 0, .complex .f32 0 1065353216] 70)
  rw [show 1 * (4 - 2 + 1) = 3 from rfl, show 4 - 2 + 1 = 3 from rfl, fsA_eq] at ho
  exact ⟨g, rfl, h1.trans (hb.mono h1.size), Sl.of_owns ho (by decide)⟩

theorem phaA : phaPart (wv Ieee.double 13835058055282163712) (wv Ieee.double 4607182418800017408) = (1746, 0) := by decide +kernel
theorem phaseA (W : World) : Calls Tryd.prog 25 #[.complex .f64 13835058055282163712 4607182418800017408] W fun e w' => e = .returned (.tuple #[.int .i64 1746, .int .i64 0]) ∧ Below W.heap.size W w' := by
  have := PhaseOf_any 13835058055282163712 4607182418800017408 (by decide) (by decide) W
  rw [phaA] at this
  exact this

theorem corA : corList [1, 2] [3, 4] = [11, 10] := by decide +kernel
theorem corA2 : listErr [1, 2] = 0 := by decide +kernel
theorem corA3 : listErr [3, 4] = 0 := by decide +kernel
/-- a list got -/
def ListGot (xs : List Int) (W : World) (e : Ending) (w' : World) : Prop := ∃ v, e = .returned (.tuple #[v, .int .i64 0]) ∧ Below W.heap.size W w' ∧ Sl w' v (ivals xs)
theorem correlateA (W : World) : Calls Tryd.prog 26 #[.slice (some ⟨W.heap.size, 0, none⟩) 2 2, .slice (some ⟨W.heap.size + 1, 0, none⟩) 2 2]
    ((W.alloc (.cells #[.int .i64 1, .int .i64 2] 3)).alloc (.cells #[.int .i64 3, .int .i64 4] 3)) (ListGot [11, 10] W) := by
  have h1 := below_new W (.cells #[.int .i64 1, .int .i64 2] 3)
  have h2 := below_new (W.alloc (.cells #[.int .i64 1, .int .i64 2] 3)) (.cells #[.int .i64 3, .int .i64 4] 3)
  have s1 : Sl (W.alloc (.cells #[.int .i64 1, .int .i64 2] 3)) (.slice (some ⟨W.heap.size, 0, none⟩) 2 2) (ivals [1, 2]) := Sl.built W (ivals [1, 2]) 3 (by decide)
  have s2 := Sl.built (W.alloc (.cells #[.int .i64 1, .int .i64 2] 3)) (ivals [3, 4]) 3 (by decide)
  rw [World.size_alloc] at s2
  refine (Correlate_ok _ _ [1, 2] [3, 4] _ (s1.below h2 (Nat.le_refl _)) s2 corA2 corA3 rfl).mono ?_
  rintro e w' ⟨v, rfl, hb, ho⟩
  rw [corA] at ho
  have h3 := h1.trans (h2.mono h1.size)
  exact ⟨v, rfl, h3.trans (hb.mono h3.size), Sl.of_owns ho (by decide)⟩

def txtA : ByteArray := ⟨#[105, 109, 97, 103, 101, 32, 49, 32, 50, 32, 52, 52, 50, 50, 51, 10, 49, 32, 48, 32, 48, 32, 50, 10]⟩
theorem dig (n : Nat) (h : n < 10) : Lib.decDigits n = [UInt8.ofNat (48 + n)] := by rw [Lib.decDigits, dif_pos h]
theorem digs (n : Nat) (h : ¬ n < 10) : Lib.decDigits n = Lib.decDigits (n / 10) ++ [UInt8.ofNat (48 + n % 10)] := by rw [Lib.decDigits, dif_neg h]
theorem itoa_small (n : Nat) (h : n < 10) : Lib.itoa (n : Int) = [UInt8.ofNat (48 + n)] := by rw [Lib.itoa_nonneg, dig n h]
theorem itoaC : Lib.itoa 44223 = [52, 52, 50, 50, 51] := by
  rw [show (44223 : Int) = ((44223 : Nat) : Int) from rfl, Lib.itoa_nonneg, digs _ (by decide), digs _ (by decide), digs _ (by decide), digs _ (by decide), dig _ (by decide)]
  rfl
theorem itoa0 : Lib.itoa 0 = [48] := itoa_small 0 (by decide)
theorem itoa1 : Lib.itoa 1 = [49] := itoa_small 1 (by decide)
theorem itoa2 : Lib.itoa 2 = [50] := itoa_small 2 (by decide)
theorem chkB : chkTo zsB zsB.length = 44223 := by decide +kernel
theorem rowB : rowTo zsB (0 * 2) 2 = [1, 0, 0, 2] := by decide +kernel
theorem joinB1 : joinOf [1, 2, 44223] = [49, 32, 50, 32, 52, 52, 50, 50, 51] := by
  unfold joinOf
  rw [List.map_cons, List.map_cons, List.map_cons, itoa1, itoa2, itoaC]
  rfl
theorem joinB2 : joinOf [1, 0, 0, 2] = [49, 32, 48, 32, 48, 32, 50] := by
  unfold joinOf
  rw [List.map_cons, List.map_cons, List.map_cons, List.map_cons, itoa1, itoa0, itoa2]
  rfl
theorem textA : textB zsB 1 2 1 = txtA := by
  rw [textB, textB, chkB, rowB, show (((1 : Nat) : Int)) = 1 from rfl, show (((2 : Nat) : Int)) = 2 from rfl, joinB1, joinB2]
  rfl
theorem printA (v : Value) (W : World) (hv : Sl W v (cvals .f32 zsB)) (hc : ∀ a m c, v = .slice a m c → m ≤ c ∧ c ≤ 9223372036854775807) (ht : Tab W) :
    Calls Tryd.prog 27 #[.agg #[.int .i64 1, .int .i64 2, v]] W fun e w' => e = .returned (.tuple #[.string txtA, .int .i64 0]) ∧ Below W.heap.size W w' := by
  have := Print_ok 1 2 v zsB W hv (by decide) (by decide) (by decide) (by decide) (by decide) errB hc ht
  rw [textA] at this
  exact this
end Go.Proofs.YtmiaglkkjncfnaaDoor

namespace Go.Proofs.YtmiaglkkjncfnaaDoor
open Go.RowKit Go.Proofs.YtmiaglkkjncfnaaDoor.Flt

theorem txtTest : (txtA.toList == [105, 109, 97, 103, 101, 32, 49, 32, 50, 32, 52, 52, 50, 50, 51, 10, 49, 32, 48, 32, 48, 32, 50, 10]) = true := by decide +kernel

set_option maxRecDepth 100000 in
set_option maxHeartbeats 1000000 in
/-- THE EXAMPLES OF THE CHAPTER ARE AS TOLD -/
theorem awake_any (w : World) (ht : Tab w) : Calls Tryd.prog 6 #[] w fun e w' => e = .returned (.bool true) ∧ Below w.heap.size w w' := by
  have HT := Lib.hid ht
  clear ht
  go_enter Tryd.func6, Tryd.ntmps6
  go_wp2_with fail
  refine (imageA w).mono ?_
  rintro e w1 ⟨v1, rfl, hb, hs, -⟩
  have HB1 := Lib.hid hb
  have S1 := Lib.hid hs
  clear hb hs
  go_wp2_with fail
  refine (compressA v1 w1 S1.out).mono ?_
  rintro e w2 ⟨g, rfl, hb, hs⟩
  have HB2 := Lib.hid (HB1.out.trans (hb.mono HB1.out.size))
  have S2 := Lib.hid hs
  clear hb hs HB1 S1
  go_wp2_with fail
  refine (phaseA _).mono ?_
  rintro e w3 ⟨rfl, hb⟩
  have n2 := below_new w2 (.cells #[.int .i64 1, .int .i64 3, .slice (some ⟨g, 0, none⟩) 3 3] 37)
  have hb3 := n2.trans (hb.mono n2.size)
  have HB3 := Lib.hid (HB2.out.trans (hb3.mono HB2.out.size))
  have S3 := Lib.hid (S2.out.below hb3 (Nat.le_refl _))
  have F3 : Hid (w3.heap[w2.heap.size]? = some (.cells #[.int .i64 1, .int .i64 3, .slice (some ⟨g, 0, none⟩) 3 3] 37 (0, 0))) := (hb.block _ (by simp)).trans (heap_alloc_new _ _)
  clear hb hb3 n2 HB2 S2
  go_wp2_with fail
  refine (correlateA w3).mono ?_
  rintro e w4 ⟨v4, rfl, hb, hs⟩
  have HB4 := Lib.hid (HB3.out.trans (hb.mono HB3.out.size))
  have S4 := Lib.hid (S3.out.below hb (Nat.le_refl _))
  have F4 : Hid (w4.heap[w2.heap.size]? = some (.cells #[.int .i64 1, .int .i64 3, .slice (some ⟨g, 0, none⟩) 3 3] 37 (0, 0))) := (hb.block _ (lt_of_block F3.out)).trans F3.out
  have L4 := Lib.hid hs
  clear hb hs HB3 S3 F3
  go_wp2_with fail
  refine (imageB w4).mono ?_
  rintro e w5 ⟨v5, rfl, hb, hs, hc⟩
  have HB5 := Lib.hid (HB4.out.trans (hb.mono HB4.out.size))
  have S5 := Lib.hid (S4.out.below hb (Nat.le_refl _))
  have F5 : Hid (w5.heap[w2.heap.size]? = some (.cells #[.int .i64 1, .int .i64 3, .slice (some ⟨g, 0, none⟩) 3 3] 37 (0, 0))) := (hb.block _ (lt_of_block F4.out)).trans F4.out
  have L5 := Lib.hid (L4.out.below hb (Nat.le_refl _))
  have CP := Lib.hid (printA v5 w5 hs hc (HT.out.below HB5.out))
  clear hb hs hc HB4 S4 F4 L4
  go_wp2_with fail
  refine CP.out.mono ?_
  rintro e w6 ⟨rfl, hb⟩
  have HB6 := Lib.hid (HB5.out.trans (hb.mono HB5.out.size))
  have S6 := Lib.hid (S5.out.below hb (Nat.le_refl _))
  have F6 : Hid (w6.heap[w2.heap.size]? = some (.cells #[.int .i64 1, .int .i64 3, .slice (some ⟨g, 0, none⟩) 3 3] 37 (0, 0))) := (hb.block _ (lt_of_block F5.out)).trans F5.out
  have L6 := Lib.hid (L5.out.below hb (Nat.le_refl _))
  clear hb HB5 S5 F5 L5 CP
  obtain ⟨c0, c1, c2, -, -, -, l1⟩ := three_cells F6.out
  have CS : Hid (Calls Tryd.prog 28 #[.agg #[.int .i64 1, .int .i64 3, .slice (some ⟨g, 0, none⟩) 3 3], .agg #[.int .i64 1, .int .i64 3, .slice (some ⟨w6.heap.size, 0, none⟩) 3 3]]
      (w6.alloc (.cells #[.complex .f64 4607182418800017408 13835058055282163712, .complex .f64 4611686018427387904 13837309855095848960, .complex .f64 4613937818241073152 13839561654909534208] 57)) fun e w' => e = .returned (.bool true) ∧ Below w6.heap.size w6 w') := by
    have n6 := below_new w6 (.cells #[.complex .f64 4607182418800017408 13835058055282163712, .complex .f64 4611686018427387904 13837309855095848960, .complex .f64 4613937818241073152 13839561654909534208] 57)
    refine (SameField_true 1 3 _ _ fsA _ (S6.out.below n6 (Nat.le_refl _)) (Sl.built w6 (cvals .f64 fsA) 57 (by decide))).mono ?_
    rintro e w' ⟨rfl, hb⟩
    exact ⟨rfl, n6.trans (hb.mono n6.size)⟩
  clear S6 F6
  go_wp2_with fail
  refine CS.out.mono ?_
  rintro e w7 ⟨rfl, hb⟩
  have HB7 := Lib.hid (HB6.out.trans (hb.mono HB6.out.size))
  have L7 := Lib.hid (L6.out.below hb (Nat.le_refl _))
  clear hb HB6 L6 CS c0 c1 c2 l1
  have CI : Hid (Calls Tryd.prog 29 #[v4, .slice (some ⟨w7.heap.size, 0, none⟩) 2 2] (w7.alloc (.cells #[.int .i64 11, .int .i64 10] 3)) fun e w' => e = .returned (.bool true) ∧ Below w7.heap.size w7 w') := by
    have n7 := below_new w7 (.cells #[.int .i64 11, .int .i64 10] 3)
    refine (Ints_true _ _ [11, 10] _ (L7.out.below n7 (Nat.le_refl _)) (Sl.built w7 (ivals [11, 10]) 3 (by decide))).mono ?_
    rintro e w' ⟨rfl, q, rfl⟩
    exact ⟨rfl, n7.trans (below_drewN' _ _ q)⟩
  clear L7
  go_wp2_with fail
  refine CI.out.mono ?_
  rintro e w8 ⟨rfl, hb⟩
  have HB8 := Lib.hid (HB7.out.trans (hb.mono HB7.out.size))
  clear hb HB7 CI
  go_wp2_with fail
  go_ret
  exact ⟨by rw [txtTest]; rfl, HB8.out⟩
end Go.Proofs.YtmiaglkkjncfnaaDoor
