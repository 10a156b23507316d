import Derived.Test.YtadajelonekpmaaEh
import Derived.Test.YtadajelonekpmaaFlt
namespace Go.Proofs.Ytadajelonekpmaa
open Go.RowKit Go.Proofs.Ytadajelonekpmaa.Flt

/-- the square root, rounded down -/
def isqrt (n : Nat) : Nat := Ieee.Datum.rootFrom n 27 0
theorem isqrt_spec (n : Nat) (h : n < 2 ^ 54) : isqrt n * isqrt n ≤ n ∧ n < (isqrt n + 1) * (isqrt n + 1) := rootFrom_spec n 27 0 (by simp) (by simpa using h)

theorem floatToInt_of {x : Nat} {n : Int} (h : (Ieee.double.read x).toInt .zero = some n) (h1 : -9223372036854775808 ≤ n) (h2 : n ≤ 9223372036854775807) : floatToIntVal .f64 x .i64 = some n := by
  unfold floatToIntVal
  have : (FloatKind.f64.decode x).toInt .zero = some n := h
  rw [this]
  dsimp only
  rw [if_pos ⟨h1, h2⟩]

/-- the direction between two -/
def btw (a b : Nat × Nat) : Nat × Nat :=
  ((a.1 + b.1) * 16777216 / isqrt ((a.1 + b.1) * (a.1 + b.1) + (a.2 + b.2) * (a.2 + b.2)), (a.2 + b.2) * 16777216 / isqrt ((a.1 + b.1) * (a.1 + b.1) + (a.2 + b.2) * (a.2 + b.2)))
/-- a direction of the first eighth -/
structure GoodD (d : Nat × Nat) : Prop where
  pos : 1 ≤ d.1
  le : d.1 ≤ 16777216
  low : d.2 ≤ d.1

theorem btw_facts {a b : Nat × Nat} (ha : GoodD a) (hb : GoodD b) :
    1 ≤ (a.1 + b.1) * (a.1 + b.1) + (a.2 + b.2) * (a.2 + b.2) ∧ (a.1 + b.1) * (a.1 + b.1) + (a.2 + b.2) * (a.2 + b.2) < 2 ^ 52 ∧ 1 ≤ isqrt ((a.1 + b.1) * (a.1 + b.1) + (a.2 + b.2) * (a.2 + b.2)) ∧ GoodD (btw a b) := by
  have h1 := ha.pos; have h2 := ha.le; have h3 := ha.low
  have h4 := hb.pos; have h5 := hb.le; have h6 := hb.low
  unfold btw
  generalize hx : a.1 + b.1 = x
  generalize hy : a.2 + b.2 = y
  have x1 : 1 ≤ x := by omega
  have x2 : x ≤ 33554432 := by omega
  have y1 : y ≤ x := by omega
  have hxx : x * x ≤ 33554432 * 33554432 := Nat.mul_le_mul x2 x2
  have hyy : y * y ≤ x * x := Nat.mul_le_mul y1 y1
  have hxx1 : x ≤ x * x := Nat.le_mul_of_pos_left x (by omega)
  have hn1 : 1 ≤ x * x + y * y := by omega
  have hn2 : x * x + y * y < 2 ^ 52 := by omega
  obtain ⟨s1, s2⟩ := isqrt_spec (x * x + y * y) (by omega)
  generalize isqrt (x * x + y * y) = r at *
  have r1 : x ≤ r := by
    have : x * x < (r + 1) * (r + 1) := by omega
    have := lt_of_sq this
    omega
  have r2 : r < 2 * x := by
    have : r * r < (2 * x) * (2 * x) := by
      have : 2 * x * (2 * x) = 4 * (x * x) := by rw [Nat.mul_mul_mul_comm]
      omega
    exact lt_of_sq this
  have r0 : 0 < r := by omega
  refine ⟨hn1, hn2, by omega, ?_, ?_, ?_⟩
  · show 1 ≤ x * 16777216 / r
    rw [Nat.le_div_iff_mul_le r0]; omega
  · show x * 16777216 / r ≤ 16777216
    refine Nat.div_le_of_le_mul ?_
    exact Nat.mul_le_mul_right _ r1
  · exact Nat.div_le_div_right (Nat.mul_le_mul_right _ y1)

def diag : Nat := 11863283
theorem diag_isqrt : isqrt 140737488355328 = diag := by decide +kernel

/-- what a function of a new pair of numbers answers -/
def PairOk (x y : Nat) (w : World) (e : Ending) (w' : World) : Prop := e = .returned (.agg #[.int .i64 x, .int .i64 y]) ∧ Below w.heap.size w w'

theorem two_cells {w : World} {N : Nat} {a b : Value} {t : TypeId} (h : w.heap[N]? = some (.cells #[a, b] t (0, 0))) :
    w.cell? ⟨N, 0, none⟩ = some a ∧ w.cell? ⟨N, 1, none⟩ = some b ∧ w.frozen? ⟨N, 0, none⟩ = false ∧ w.frozen? ⟨N, 1, none⟩ = false ∧ N < w.heap.size :=
  ⟨cell_of_row w N 0 _ t _ h, cell_of_row w N 1 _ t _ h, frozen_of_row w N 0 _ t h, frozen_of_row w N 1 _ t h, lt_of_block h⟩

/-- THE DIRECTIONS, level by level: that of the place i at the level t is the direction of i times 2 ^ (10 - t) -/
def dAt : Nat → Nat → Nat × Nat
  | 0, i => if i = 0 then (16777216, 0) else (diag, diag)
  | t + 1, i => if i % 2 = 0 then dAt t (i / 2) else btw (dAt t (i / 2)) (dAt t (i / 2 + 1))

theorem dAt_good : ∀ t i, GoodD (dAt t i) := by
  intro t
  induction t with
  | zero =>
    intro i
    unfold dAt
    split
    · exact ⟨by decide, by decide, by decide⟩
    · exact ⟨by decide, by decide, by decide⟩
  | succ t ih =>
    intro i
    unfold dAt
    split
    · exact ih _
    · exact (btw_facts (ih _) (ih _)).2.2.2

theorem dAt_even (t i : Nat) : dAt (t + 1) (2 * i) = dAt t i := by
  unfold dAt
  rw [if_pos (by omega), show 2 * i / 2 = i from by omega]
  cases t <;> rfl
theorem dAt_odd (t i : Nat) : dAt (t + 1) (2 * i + 1) = btw (dAt t i) (dAt t (i + 1)) := by
  rw [dAt, if_neg (by omega), show (2 * i + 1) / 2 = i from by omega]

/-- where the halving ends: j levels are left, the first one of both numbers is i times 2 ^ j -/
def hv (r : Nat → Nat × Nat → Bool) : Nat → Nat → Nat
  | 0, i => i
  | j + 1, i => if r ((2 * i + 1) * 2 ^ j) (dAt (10 - j) (2 * i + 1)) then hv r j (2 * i + 1) else hv r j (2 * i)

def HalveOk (R : Nat) (D : Nat × Nat) (w : World) (e : Ending) (w' : World) : Prop :=
  e = .returned (.tuple #[.int .i64 R, .agg #[.int .i64 D.1, .int .i64 D.2]]) ∧ Below w.heap.size w w'

end Go.Proofs.Ytadajelonekpmaa
