import Derived.Test.YtadajelonekpmaaEn
namespace Go.Proofs.Ytadajelonekpmaa
open Go.RowKit Go.Proofs.Ytadajelonekpmaa.Flt

/-- values that lie in a block made for them -/
theorem Sl.built (w : World) (vs : List Value) (t : TypeId) (h : vs.length ≤ 1000) : Sl (w.alloc (.cells vs.toArray t)) (.slice (some ⟨w.heap.size, 0, none⟩) vs.length vs.length) vs := by
  refine ⟨some ⟨w.heap.size, 0, none⟩, vs.length, rfl, by omega, .inr ⟨w.heap.size, 0, rfl, by simp, fun j x hx => ?_⟩⟩
  rw [cell_of_row (w.alloc _) w.heap.size (0 + j) _ t (0, 0) (heap_alloc_new _ _), Nat.zero_add, ← hx]
  simp

theorem below_new (w : World) (o : Obj) : Below w.heap.size w (w.alloc o) := (Below.refl _ _).alloc (Nat.le_refl _) _

def zsA : List (Nat × Nat) := [(1065353216, 0), (1073741824, 0), (1077936128, 0), (1082130432, 0)]
def usA : List (Nat × Nat) := [(1065353216, 0), (0, 1065353216)]
def fsA : List (Nat × Nat) := [(4607182418800017408, 13835058055282163712), (4611686018427387904, 13837309855095848960), (4613937818241073152, 13839561654909534208)]
def zsB : List (Nat × Nat) := [(1065353216, 0), (0, 1073741824)]

/-- what base.Image hands back -/
def ImgGot (l s : Int) (zs : List (Nat × Nat)) (W : World) (e : Ending) (w' : World) : Prop :=
  ∃ v, e = .returned (.agg #[.int .i64 l, .int .i64 s, v]) ∧ Below W.heap.size W w' ∧ Sl w' v (cvals .f32 zs) ∧ ∀ a m c, v = .slice a m c → m ≤ c ∧ c ≤ 9223372036854775807

theorem ImgGot.of {l s : Int} {zs : List (Nat × Nat)} {W w2 : World} {e : Ending} {w' : World} (hb : Below W.heap.size W w2) (hn : zs.length ≤ 1000) (h : ImageOk l s zs w2 e w') : ImgGot l s zs W e w' := by
  obtain ⟨v, h1, h2, h3⟩ := h
  refine ⟨v, h1, hb.trans (h2.mono hb.size), Sl.of_owns h3 (by omega), ?_⟩
  intro a m c hv
  rcases h3.2 with ⟨h4, -⟩ | ⟨g, cap, cur, h4, -, -, h5, h6, -⟩
  · rw [hv] at h4; injection h4 with _ h7 h8; subst h7 h8; exact ⟨Nat.le_refl _, by decide⟩
  · rw [hv] at h4; injection h4 with _ h7 h8; subst h7 h8; exact ⟨h5, by have := h6; unfold maxLen at this; omega⟩

theorem imageA (W : World) : Calls Try.prog 15 #[.int .i64 1, .int .i64 4, .slice (some ⟨W.heap.size, 0, none⟩) 8 8]
    (W.alloc (.cells #[.float .f32 1065353216, .float .f32 0, .float .f32 1073741824, .float .f32 0, .float .f32 1077936128, .float .f32 0, .float .f32 1082130432, .float .f32 0] 53)) (ImgGot 1 4 zsA W) :=
  (Image_any 1 4 _ [1065353216, 0, 1073741824, 0, 1077936128, 0, 1082130432, 0] _ (Sl.built W (fvals .f32 [1065353216, 0, 1073741824, 0, 1077936128, 0, 1082130432, 0]) 53 (by decide)) (by decide)).mono
    fun e w' h => ImgGot.of (below_new _ _) (by decide) h
theorem imageB (W : World) : Calls Try.prog 15 #[.int .i64 1, .int .i64 2, .slice (some ⟨W.heap.size, 0, none⟩) 4 4]
    (W.alloc (.cells #[.float .f32 1065353216, .float .f32 0, .float .f32 0, .float .f32 1073741824] 53)) (ImgGot 1 2 zsB W) :=
  (Image_any 1 2 _ [1065353216, 0, 0, 1073741824] _ (Sl.built W (fvals .f32 [1065353216, 0, 0, 1073741824]) 53 (by decide)) (by decide)).mono
    fun e w' h => ImgGot.of (below_new _ _) (by decide) h

/-- what Compress hands back -/
def FieldGot (W : World) (e : Ending) (w' : World) : Prop :=
  ∃ g, e = .returned (.tuple #[.agg #[.int .i64 1, .int .i64 3, .slice (some ⟨g, 0, none⟩) 3 3], .int .i64 0]) ∧ Below W.heap.size W w' ∧ Sl w' (.slice (some ⟨g, 0, none⟩) 3 3) (cvals .f64 fsA)

theorem fsA_eq : compList zsA usA 4 3 3 = fsA := by decide +kernel
theorem errA : (dataErr .f32 2047 1 4 zsA).2 = 0 := by decide +kernel
theorem errA2 : (codeErr usA).2 = 0 := by decide +kernel
theorem errB : (dataErr .f32 2047 1 2 zsB).2 = 0 := by decide +kernel

theorem compressA (v : Value) (W : World) (hv : Sl W v (cvals .f32 zsA)) : Calls Try.prog 9 #[.agg #[.int .i64 1, .int .i64 4, v], .slice (some ⟨W.heap.size, 0, none⟩) 2 2]
    (W.alloc (.cells #[.complex .f32 1065353216 0, .complex .f32 0 1065353216] 54)) (FieldGot W) := by
  refine (Compress_ok 1 4 2 v (.slice (some ⟨W.heap.size, 0, none⟩) 2 2) zsA usA _ (hv.below (below_new W _) (Nat.le_refl _)) (Sl.built W (cvals .f32 usA) 54 (by decide)) (by decide) (by decide) (by decide) (by decide) (by decide) (by decide) rfl errA errA2 (by decide)).mono ?_
  rintro e w' ⟨g, rfl, -, hb, ho⟩
  have h1 := below_new W (.cells #[.complex .f32 1065353216 0, .complex .f32 0 1065353216] 54)
  rw [show 1 * (4 - 2 + 1) = 3 from rfl, show 4 - 2 + 1 = 3 from rfl, fsA_eq] at ho
  exact ⟨g, rfl, h1.trans (hb.mono h1.size), Sl.of_owns ho (by decide)⟩

theorem phaA : phaPart (wv Ieee.double 13835058055282163712) (wv Ieee.double 4607182418800017408) = (1746, 0) := by decide +kernel
theorem corA : corList [1, 2] [3, 4] = [11, 10] := by decide +kernel
theorem corA2 : listErr [1, 2] = 0 := by decide +kernel
theorem corA3 : listErr [3, 4] = 0 := by decide +kernel
/-- a list got -/
def ListGot (xs : List Int) (W : World) (e : Ending) (w' : World) : Prop := ∃ v, e = .returned (.tuple #[v, .int .i64 0]) ∧ Below W.heap.size W w' ∧ Sl w' v (ivals xs)
theorem correlateA (W : World) : Calls Try.prog 11 #[.slice (some ⟨W.heap.size, 0, none⟩) 2 2, .slice (some ⟨W.heap.size + 1, 0, none⟩) 2 2]
    ((W.alloc (.cells #[.int .i64 1, .int .i64 2] 3)).alloc (.cells #[.int .i64 3, .int .i64 4] 3)) (ListGot [11, 10] W) := by
  have h1 := below_new W (.cells #[.int .i64 1, .int .i64 2] 3)
  have h2 := below_new (W.alloc (.cells #[.int .i64 1, .int .i64 2] 3)) (.cells #[.int .i64 3, .int .i64 4] 3)
  have s1 : Sl (W.alloc (.cells #[.int .i64 1, .int .i64 2] 3)) (.slice (some ⟨W.heap.size, 0, none⟩) 2 2) (ivals [1, 2]) := Sl.built W (ivals [1, 2]) 3 (by decide)
  have s2 := Sl.built (W.alloc (.cells #[.int .i64 1, .int .i64 2] 3)) (ivals [3, 4]) 3 (by decide)
  rw [World.size_alloc] at s2
  refine (Correlate_ok _ _ [1, 2] [3, 4] _ (s1.below h2 (Nat.le_refl _)) s2 corA2 corA3 rfl).mono ?_
  rintro e w' ⟨v, rfl, hb, ho⟩
  rw [corA] at ho
  have h3 := h1.trans (h2.mono h1.size)
  exact ⟨v, rfl, h3.trans (hb.mono h3.size), Sl.of_owns ho (by decide)⟩

def txtA : ByteArray := ⟨#[105, 109, 97, 103, 101, 32, 49, 32, 50, 32, 52, 52, 50, 50, 51, 10, 49, 32, 48, 32, 48, 32, 50, 10]⟩
theorem dig (n : Nat) (h : n < 10) : Lib.decDigits n = [UInt8.ofNat (48 + n)] := by rw [Lib.decDigits, dif_pos h]
theorem digs (n : Nat) (h : ¬ n < 10) : Lib.decDigits n = Lib.decDigits (n / 10) ++ [UInt8.ofNat (48 + n % 10)] := by rw [Lib.decDigits, dif_neg h]
theorem chkB : chkTo zsB zsB.length = 44223 := by decide +kernel
theorem rowB : rowTo zsB (0 * 2) 2 = [1, 0, 0, 2] := by decide +kernel
end Go.Proofs.Ytadajelonekpmaa

namespace Go.Proofs.Ytadajelonekpmaa
open Go.RowKit Go.Proofs.Ytadajelonekpmaa.Flt

theorem txtTest : (txtA.toList == [105, 109, 97, 103, 101, 32, 49, 32, 50, 32, 52, 52, 50, 50, 51, 10, 49, 32, 48, 32, 48, 32, 50, 10]) = true := by decide +kernel

end Go.Proofs.Ytadajelonekpmaa
