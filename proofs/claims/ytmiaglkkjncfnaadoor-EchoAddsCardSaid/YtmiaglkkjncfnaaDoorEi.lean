import Derived.Test.YtmiaglkkjncfnaaDoorEh
import Derived.Test.YtmiaglkkjncfnaaDoorFlt
namespace Go.Proofs.YtmiaglkkjncfnaaDoor
open Go.RowKit Go.Proofs.YtmiaglkkjncfnaaDoor.Flt

/-- the square root, rounded down -/
def isqrt (n : Nat) : Nat := Ieee.Datum.rootFrom n 27 0
theorem isqrt_spec (n : Nat) (h : n < 2 ^ 54) : isqrt n * isqrt n ≤ n ∧ n < (isqrt n + 1) * (isqrt n + 1) := rootFrom_spec n 27 0 (by simp) (by simpa using h)

theorem run_sqrt_f (x r : Nat) (w : World) (h : Ieee.double.sqrt x = some r) : (callFunc 111 #[.float .f64 x]).run Tryd.prog w = .ok (.value (.float .f64 r)) w := by
  have e : (callFunc 111 #[.float .f64 x]).run Tryd.prog w = ((Extern.MathSqrt.sqrt #[.float .f64 x]).run Tryd.prog w).andThen fun v w' => .ok (.value v) w' :=
    run_callFunc_extern Tryd.func111 (by kernel_rfl) (by kernel_rfl) (by kernel_rfl) (by kernel_rfl) _ w
  have e2 : Extern.MathSqrt.sqrt #[.float .f64 x] = (match Ieee.double.sqrt x with | some r => pure (.float .f64 r) | none => do pure (.float .f64 (← choose (.nanBits .f64 x x)))) := rfl
  rw [e, e2, h]
  rfl

theorem floatToInt_of {x : Nat} {n : Int} (h : (Ieee.double.read x).toInt .zero = some n) (h1 : -9223372036854775808 ≤ n) (h2 : n ≤ 9223372036854775807) : floatToIntVal .f64 x .i64 = some n := by
  unfold floatToIntVal
  have : (FloatKind.f64.decode x).toInt .zero = some n := h
  rw [this]
  dsimp only
  rw [if_pos ⟨h1, h2⟩]

theorem squareRoot_any (n : Nat) (h0 : 1 ≤ n) (hn : n < 2 ^ 52) (w : World) :
    Calls Tryd.prog 98 #[.int .i64 n] w fun e w' => e = .returned (.int .i64 (isqrt n)) ∧ w = w' := by
  obtain ⟨s1, s2⟩ := isqrt_spec n (Nat.lt_trans hn (by decide))
  obtain ⟨r, h1, h2, h3⟩ := sqrt_int n (isqrt n) h0 hn s1 s2
  have hk : isqrt n < 2 ^ 26 := by
    apply lt_of_sq
    rw [← Nat.pow_add]
    omega
  have c1 := fun w => run_convert_int_float (P := Tryd.prog) w 3 86 .i64 .f64 (n : Int) (by kernel_rfl) (by kernel_rfl)
  have c2 := fun w => run_sqrt_f (floatOfInt .f64 (n : Int)) r w h1
  have c3 := fun w => run_convert_float_int (P := Tryd.prog) w 86 3 .f64 .i64 r (isqrt n) (by kernel_rfl) (by kernel_rfl) (floatToInt_of h2 (by omega) (by omega))
  generalize floatOfInt .f64 (n : Int) = X at *
  generalize isqrt n = k at *
  clear s1 s2 h1 h2 h3 h0 hn hk
  go_enter Tryd.func98, Tryd.ntmps98
  go_wp2
  go_ret
  exact ⟨rfl, rfl⟩

/-- the direction between two -/
def btw (a b : Nat × Nat) : Nat × Nat :=
  ((a.1 + b.1) * 16777216 / isqrt ((a.1 + b.1) * (a.1 + b.1) + (a.2 + b.2) * (a.2 + b.2)), (a.2 + b.2) * 16777216 / isqrt ((a.1 + b.1) * (a.1 + b.1) + (a.2 + b.2) * (a.2 + b.2)))
/-- a direction of the first eighth -/
structure GoodD (d : Nat × Nat) : Prop where
  pos : 1 ≤ d.1
  le : d.1 ≤ 16777216
  low : d.2 ≤ d.1

theorem btw_facts {a b : Nat × Nat} (ha : GoodD a) (hb : GoodD b) :
    1 ≤ (a.1 + b.1) * (a.1 + b.1) + (a.2 + b.2) * (a.2 + b.2) ∧ (a.1 + b.1) * (a.1 + b.1) + (a.2 + b.2) * (a.2 + b.2) < 2 ^ 52 ∧ 1 ≤ isqrt ((a.1 + b.1) * (a.1 + b.1) + (a.2 + b.2) * (a.2 + b.2)) ∧ GoodD (btw a b) := by
  have h1 := ha.pos; have h2 := ha.le; have h3 := ha.low
  have h4 := hb.pos; have h5 := hb.le; have h6 := hb.low
  unfold btw
  generalize hx : a.1 + b.1 = x
  generalize hy : a.2 + b.2 = y
  have x1 : 1 ≤ x := by omega
  have x2 : x ≤ 33554432 := by omega
  have y1 : y ≤ x := by omega
  have hxx : x * x ≤ 33554432 * 33554432 := Nat.mul_le_mul x2 x2
  have hyy : y * y ≤ x * x := Nat.mul_le_mul y1 y1
  have hxx1 : x ≤ x * x := Nat.le_mul_of_pos_left x (by omega)
  have hn1 : 1 ≤ x * x + y * y := by omega
  have hn2 : x * x + y * y < 2 ^ 52 := by omega
  obtain ⟨s1, s2⟩ := isqrt_spec (x * x + y * y) (by omega)
  generalize isqrt (x * x + y * y) = r at *
  have r1 : x ≤ r := by
    have : x * x < (r + 1) * (r + 1) := by omega
    have := lt_of_sq this
    omega
  have r2 : r < 2 * x := by
    have : r * r < (2 * x) * (2 * x) := by
      have : 2 * x * (2 * x) = 4 * (x * x) := by rw [Nat.mul_mul_mul_comm]
      omega
    exact lt_of_sq this
  have r0 : 0 < r := by omega
  refine ⟨hn1, hn2, by omega, ?_, ?_, ?_⟩
  · show 1 ≤ x * 16777216 / r
    rw [Nat.le_div_iff_mul_le r0]; omega
  · show x * 16777216 / r ≤ 16777216
    refine Nat.div_le_of_le_mul ?_
    exact Nat.mul_le_mul_right _ r1
  · exact Nat.div_le_div_right (Nat.mul_le_mul_right _ y1)

def diag : Nat := 11863283
theorem diag_isqrt : isqrt 140737488355328 = diag := by decide +kernel

/-- what a function of a new pair of numbers answers -/
def PairOk (x y : Nat) (w : World) (e : Ending) (w' : World) : Prop := e = .returned (.agg #[.int .i64 x, .int .i64 y]) ∧ Below w.heap.size w w'

theorem two_cells {w : World} {N : Nat} {a b : Value} {t : TypeId} (h : w.heap[N]? = some (.cells #[a, b] t (0, 0))) :
    w.cell? ⟨N, 0, none⟩ = some a ∧ w.cell? ⟨N, 1, none⟩ = some b ∧ w.frozen? ⟨N, 0, none⟩ = false ∧ w.frozen? ⟨N, 1, none⟩ = false ∧ N < w.heap.size :=
  ⟨cell_of_row w N 0 _ t _ h, cell_of_row w N 1 _ t _ h, frozen_of_row w N 0 _ t h, frozen_of_row w N 1 _ t h, lt_of_block h⟩

theorem diagonal_any (w : World) : Calls Tryd.prog 92 #[] w (PairOk diag diag w) := by
  have C := squareRoot_any 140737488355328 (by decide) (by decide)
  rw [diag_isqrt] at C
  generalize diag = d at *
  have C' := Lib.hid C
  clear C
  go_enter Tryd.func92, Tryd.ntmps92
  go_wp2_with fail
  refine (C'.out _).mono ?_
  rintro e w' ⟨rfl, rfl⟩
  go_wp2_with fail
  exact bodyPost_ret (v := .agg #[.int .i64 d, .int .i64 d]) (by simp [results, Tryd.results92, go_sem]) rfl ⟨rfl, (Below.refl _ _).alloc (Nat.le_refl _) _⟩

set_option maxRecDepth 100000 in
set_option maxHeartbeats 1000000 in
theorem between_any (a b : Nat × Nat) (ha : GoodD a) (hb : GoodD b) (w : World) :
    Calls Tryd.prog 93 #[.agg #[.int .i64 a.1, .int .i64 a.2], .agg #[.int .i64 b.1, .int .i64 b.2]] w (PairOk (btw a b).1 (btw a b).2 w) := by
  obtain ⟨n1, n2, n3, g3⟩ := btw_facts ha hb
  have C := Lib.hid (squareRoot_any _ n1 n2)
  have h2 := ha.le; have h3 := ha.low
  have h5 := hb.le; have h6 := hb.low
  have t1 : (btw a b).1 = (a.1 + b.1) * 16777216 / isqrt ((a.1 + b.1) * (a.1 + b.1) + (a.2 + b.2) * (a.2 + b.2)) := rfl
  have t2 : (btw a b).2 = (a.2 + b.2) * 16777216 / isqrt ((a.1 + b.1) * (a.1 + b.1) + (a.2 + b.2) * (a.2 + b.2)) := rfl
  rw [t1, t2]
  obtain ⟨a1, a2⟩ := a
  obtain ⟨b1, b2⟩ := b
  dsimp only at *
  have u1 : IntKind.i64.wrap ((a1 : Int) + b1) = ((a1 + b1 : Nat) : Int) := by rw [← Int.natCast_add]; exact IntWalk.i64_in _ ⟨by omega, by omega⟩
  have u2 : IntKind.i64.wrap ((a2 : Int) + b2) = ((a2 + b2 : Nat) : Int) := by rw [← Int.natCast_add]; exact IntWalk.i64_in _ ⟨by omega, by omega⟩
  generalize hx : a1 + b1 = x at *
  generalize hy : a2 + b2 = y at *
  have x2 : x ≤ 33554432 := by omega
  have y2 : y ≤ 33554432 := by omega
  have hxx : x * x ≤ 33554432 * 33554432 := Nat.mul_le_mul x2 x2
  have hyy : y * y ≤ 33554432 * 33554432 := Nat.mul_le_mul y2 y2
  have hcast : ((x : Int) * x + (y : Int) * y) = ((x * x + y * y : Nat) : Int) := by rw [Int.natCast_add, Int.natCast_mul, Int.natCast_mul]
  have hc1 : (0 : Int) ≤ (x : Int) * x := by rw [← Int.natCast_mul]; omega
  have hc2 : (x : Int) * x ≤ 1125899906842624 := by rw [← Int.natCast_mul]; omega
  have hc3 : (0 : Int) ≤ (y : Int) * y := by rw [← Int.natCast_mul]; omega
  have hc4 : (y : Int) * y ≤ 1125899906842624 := by rw [← Int.natCast_mul]; omega
  have HC := Lib.hid hcast
  generalize isqrt (x * x + y * y) = r at *
  have HT : Hid ((((x : Int) * 16777216) / (r : Int) = ((x * 16777216 / r : Nat) : Int)) ∧ (((y : Int) * 16777216) / (r : Int) = ((y * 16777216 / r : Nat) : Int))) := ⟨by rw [Int.natCast_ediv, Int.natCast_mul]; rfl, by rw [Int.natCast_ediv, Int.natCast_mul]; rfl⟩
  clear hcast t1 t2 g3 n1 n2 h3 h6 h2 h5 ha hb hxx hyy hx hy
  go_enter Tryd.func93, Tryd.ntmps93
  go_wp2_with fail
  go_quiet (fail)
  go_wp2_with fail
  rw [HC.out]
  refine (C.out _).mono ?_
  rintro e w' ⟨rfl, rfl⟩
  have m1 : IntKind.i64.wrap ((x : Int) * 16777216) = (x : Int) * 16777216 := IntWalk.i64_in _ ⟨by omega, by omega⟩
  have m2 : IntKind.i64.wrap ((y : Int) * 16777216) = (y : Int) * 16777216 := IntWalk.i64_in _ ⟨by omega, by omega⟩
  go_wp2_with fail
  go_region
  go_wp2_with fail
  refine bodyPost_ret (v := .agg #[.int .i64 ((x : Int) * 16777216 / r), .int .i64 ((y : Int) * 16777216 / r)]) (by simp [results, Tryd.results93, go_sem]) rfl ⟨by rw [HT.out.1, HT.out.2], ?_⟩
  exact ((((((Below.refl _ _).alloc (Nat.le_refl _) _).alloc (by simp) _).alloc (by simp; omega) _).trans (below_drewN' _ _ _)).setCell (p := ⟨w.heap.size + 1 + 1, 0, none⟩) (by show w.heap.size ≤ w.heap.size + 1 + 1; omega) _).setCell (p := ⟨w.heap.size + 1 + 1, 1, none⟩) (by show w.heap.size ≤ w.heap.size + 1 + 1; omega) _

/-- THE DIRECTIONS, level by level: that of the place i at the level t is the direction of i times 2 ^ (10 - t) -/
def dAt : Nat → Nat → Nat × Nat
  | 0, i => if i = 0 then (16777216, 0) else (diag, diag)
  | t + 1, i => if i % 2 = 0 then dAt t (i / 2) else btw (dAt t (i / 2)) (dAt t (i / 2 + 1))

theorem dAt_good : ∀ t i, GoodD (dAt t i) := by
  intro t
  induction t with
  | zero =>
    intro i
    unfold dAt
    split
    · exact ⟨by decide, by decide, by decide⟩
    · exact ⟨by decide, by decide, by decide⟩
  | succ t ih =>
    intro i
    unfold dAt
    split
    · exact ih _
    · exact (btw_facts (ih _) (ih _)).2.2.2

theorem dAt_even (t i : Nat) : dAt (t + 1) (2 * i) = dAt t i := by
  unfold dAt
  rw [if_pos (by omega), show 2 * i / 2 = i from by omega]
  cases t <;> rfl
theorem dAt_odd (t i : Nat) : dAt (t + 1) (2 * i + 1) = btw (dAt t i) (dAt t (i + 1)) := by
  rw [dAt, if_neg (by omega), show (2 * i + 1) / 2 = i from by omega]

/-- where the halving ends: j levels are left, the first one of both numbers is i times 2 ^ j -/
def hv (r : Nat → Nat × Nat → Bool) : Nat → Nat → Nat
  | 0, i => i
  | j + 1, i => if r ((2 * i + 1) * 2 ^ j) (dAt (10 - j) (2 * i + 1)) then hv r j (2 * i + 1) else hv r j (2 * i)

/-- what holds at the head of halve's loop -/
structure HalveInv (w : World) (B6 j i : Nat) (wr : World) : Prop where
  h3 : wr.heap[w.heap.size]? = some (.cells #[.int .i64 0, .int .i64 0] 59 (0, 0))
  h6 : wr.heap[B6]? = some (.cells #[.int .i64 (dAt (10 - j) i).1, .int .i64 (dAt (10 - j) i).2] 59 (0, 0))
  h7 : wr.heap[B6 + 1]? = some (.cells #[.int .i64 (dAt (10 - j) (i + 1)).1, .int .i64 (dAt (10 - j) (i + 1)).2] 59 (0, 0))
  hb : Below w.heap.size w wr
  hlt : w.heap.size < B6

def HalveOk (R : Nat) (D : Nat × Nat) (w : World) (e : Ending) (w' : World) : Prop :=
  e = .returned (.tuple #[.int .i64 R, .agg #[.int .i64 D.1, .int .i64 D.2]]) ∧ Below w.heap.size w w'

set_option maxRecDepth 100000 in
set_option maxHeartbeats 2000000 in
theorem halve_any (g : FuncId) (eg : ∀ args w, (callFunc g args).run Tryd.prog w = .ok (.enter g args) w) (lb : Array Value) (r : Nat → Nat × Nat → Bool) (R : Nat) (hR : hv r 10 0 = R) (w : World)
    (hr : ∀ (m : Nat) (d : Nat × Nat) (W : World), m ≤ 1024 → GoodD d → Below w.heap.size w W → Calls Tryd.prog g (#[.int .i64 m, .agg #[.int .i64 d.1, .int .i64 d.2]] ++ lb) W fun e w' => e = .returned (.bool (r m d)) ∧ Below W.heap.size W w') :
    Calls Tryd.prog 82 #[.func (.func g) #[] lb] w (HalveOk R (dAt 10 R) w) := by
  have HR := Lib.hid hr
  have HR0 := Lib.hid hR
  clear hr hR
  have CD := Lib.hid diagonal_any
  have hd1 : Hid (dAt (10 - 10) (0 + 1) = (diag, diag)) := rfl
  have hd0 : Hid (dAt (10 - 10) 0 = (16777216, 0)) := rfl
  generalize diag = d at *
  go_enter Tryd.func82, Tryd.ntmps82
  go_wp2_with fail
  refine (CD.out _).mono ?_
  rintro e w1 ⟨rfl, hb1⟩
  have hs1 := hb1.size
  simp at hs1
  have hB1 : Below w.heap.size w w1 := ((Below.refl _ _).alloc (Nat.le_refl _) _).trans (hb1.mono (by simp))
  have hN : w1.heap[w.heap.size]? = some (.cells #[.int .i64 0, .int .i64 0] 59 (0, 0)) := (hb1.block _ (by simp)).trans (heap_alloc_new _ _)
  have I0 : Hid (HalveInv w w1.heap.size 10 0 ((w1.alloc (.cells #[.int .i64 16777216, .int .i64 0] 59)).alloc (.cells #[.int .i64 d, .int .i64 d] 59))) := by
    refine ⟨?_, ?_, ?_, (hB1.alloc hB1.size _).alloc (by simp; omega) _, by omega⟩
    · rw [Below.heap_alloc _ _ _ (by simp; omega), Below.heap_alloc _ _ _ (by omega)]; exact hN
    · rw [Below.heap_alloc _ _ _ (by simp), hd0.out]; exact heap_alloc_new _ _
    · have := heap_alloc_new (w1.alloc (.cells #[.int .i64 16777216, .int .i64 0] 59)) (.cells #[.int .i64 d, .int .i64 d] 59)
      rw [World.size_alloc] at this
      rw [hd1.out]; exact this
  clear hb1 hB1 hN hs1 hd0 hd1
  go_wp2_with fail
  go_loopw [4, 5] (fun a b wr => ∃ j i : Nat, j ≤ 10 ∧ (i + 1) * 2 ^ j ≤ 1024 ∧ a = .int .i64 ((i * 2 ^ j : Nat) : Int) ∧ b = .int .i64 (((i + 1) * 2 ^ j : Nat) : Int) ∧ Hid (hv r j i = R) ∧ Hid (HalveInv w w1.heap.size j i wr)) (fun a b _ => (intOf b - intOf a).toNat)
  case atStart => exact ⟨10, 0, by omega, by decide, rfl, rfl, HR0, I0⟩
  case round =>
    obtain ⟨j, i, hj, hi, rfl, rfl, HV, IK⟩ := hrel
    clear I0
    obtain ⟨wz, rfl⟩ : ∃ wz : World, wz = wr := ⟨_, rfl⟩
    obtain ⟨c0, c1, f0, f1, l6⟩ := two_cells IK.out.h6
    obtain ⟨c2, c3, f2, f3, l7⟩ := two_cells IK.out.h7
    cases j with
    | zero =>
      have e1 : Hid (R = i) := by have := HV.out; rw [hv] at this; exact this.symm
      obtain ⟨z0, z1, y0, y1, l3⟩ := two_cells IK.out.h3
      have ne := IK.out.hlt
      have HB := Lib.hid IK.out.hb
      simp only [Nat.pow_zero, Nat.mul_one] at hi ⊢
      rw [show 10 - 0 = 10 from rfl] at c0 c1
      generalize hp : (dAt 10 i).1 = p at *
      generalize hq : (dAt 10 i).2 = q at *
      have HPQ := Lib.hid (And.intro hp hq)
      clear hp hq HV IK c2 c3 f2 f3 hj
      go_wp2_with fail
      go_region
      go_wp2_with fail
      refine bodyPost_ret (v := .tuple #[.int .i64 i, .agg #[.int .i64 p, .int .i64 q]]) (by simp [results, Tryd.results82, go_sem, z0, z1]) rfl ⟨?_, ?_⟩
      · rw [e1.out, HPQ.out.1, HPQ.out.2]
      · exact (((HB.out.trans (below_drewN' _ _ 1)).setCell (p := ⟨w.heap.size, 0, none⟩) (Nat.le_refl _) _).setCell (p := ⟨w.heap.size, 1, none⟩) (Nat.le_refl _) _)
    | succ j =>
      obtain ⟨z0, z1, y0, y1, l3⟩ := two_cells IK.out.h3
      have ne := IK.out.hlt
      have e10 : 10 - j = (10 - (j + 1)) + 1 := by omega
      have D1e : dAt (10 - j) (2 * i) = dAt (10 - (j + 1)) i := by rw [e10]; exact dAt_even _ _
      have D2e : dAt (10 - j) (2 * i + 1 + 1) = dAt (10 - (j + 1)) (i + 1) := by rw [e10, show 2 * i + 1 + 1 = 2 * (i + 1) from by omega]; exact dAt_even _ _
      have D3e : dAt (10 - j) (2 * i + 1) = btw (dAt (10 - (j + 1)) i) (dAt (10 - (j + 1)) (i + 1)) := by rw [e10]; exact dAt_odd _ _
      have G1 := dAt_good (10 - (j + 1)) i
      have G2 := dAt_good (10 - (j + 1)) (i + 1)
      have G3 := (btw_facts G1 G2).2.2.2
      have hstep : hv r (j + 1) i = if r ((2 * i + 1) * 2 ^ j) (dAt (10 - j) (2 * i + 1)) then hv r j (2 * i + 1) else hv r j (2 * i) := by rw [hv]
      have HV2 := HV.out
      rw [hstep, D3e] at HV2
      have IK2 := IK
      have HI3 := Lib.hid (And.intro IK.out.h3 (And.intro IK.out.h6 IK.out.h7))
      generalize dAt (10 - (j + 1)) i = D1 at *
      generalize dAt (10 - (j + 1)) (i + 1) = D2 at *
      have CB := Lib.hid (between_any D1 D2 G1 G2)
      generalize btw D1 D2 = D3 at *
      -- the numbers
      have hP := Nat.two_pow_pos j
      have p1 : i * 2 ^ (j + 1) + 2 * 2 ^ j = (i + 1) * 2 ^ (j + 1) := by rw [Nat.add_mul, Nat.one_mul, Nat.pow_succ]; omega
      have p2 : (2 * i + 1) * 2 ^ j = i * 2 ^ (j + 1) + 2 ^ j := by rw [Nat.add_mul, Nat.one_mul, Nat.pow_succ, Nat.mul_comm 2 i, Nat.mul_assoc, Nat.mul_comm 2 (2 ^ j)]
      have p3 : 2 * i * 2 ^ j = i * 2 ^ (j + 1) := by rw [Nat.pow_succ, Nat.mul_comm 2 i, Nat.mul_assoc, Nat.mul_comm 2 (2 ^ j)]
      have p4 : (2 * i + 1 + 1) * 2 ^ j = (i + 1) * 2 ^ (j + 1) := by rw [← p1, ← p3, show 2 * i + 1 + 1 = 2 * i + 2 from rfl, Nat.add_mul]
      obtain ⟨M, hM⟩ : ∃ M, M = (2 * i + 1) * 2 ^ j := ⟨_, rfl⟩
      obtain ⟨A, hA⟩ : ∃ A, A = i * 2 ^ (j + 1) := ⟨_, rfl⟩
      obtain ⟨S, hS⟩ : ∃ S, S = (i + 1) * 2 ^ (j + 1) := ⟨_, rfl⟩
      rw [← hM] at HV2
      rw [← hA, ← hS]
      have q1 : A + 2 ≤ S := by omega
      have q2 : S ≤ 1024 := by omega
      have q3 : M ≤ 1024 := by omega
      have qm : Hid (((A : Int) + S) / 2 = (M : Int)) := by unfold Hid; omega
      have q4 : A < M := by omega
      have q5 : M < S := by omega
      have HN1 : Hid (2 * i * 2 ^ j = A ∧ (2 * i + 1) * 2 ^ j = M ∧ (2 * i + 1 + 1) * 2 ^ j = S) := ⟨by omega, hM.symm, by omega⟩
      have HD := Lib.hid (And.intro D1e (And.intro D3e D2e))
      have HG3 := Lib.hid G3
      clear p1 p2 p3 p4 hM hA hS hP D1e D2e D3e hstep HV hi G1 G2 G3 e10
      generalize hrv : r M D3 = rv at *
      have HRV := Lib.hid hrv
      clear hrv
      cases rv with
      | true =>
        have HV3 : Hid (hv r j (2 * i + 1) = R) := by unfold Hid; simpa using HV2
        clear HV2
        go_wp2_with fail
        refine (CB.out _).mono ?_
        rintro e w2 ⟨rfl, hb2⟩
        have hs2 := hb2.size
        have HB2 : Hid (Below w.heap.size w w2) := IK2.out.hb.trans (hb2.mono IK2.out.hb.size)
        have HO2 : Hid (w2.heap[w.heap.size]? = some (.cells #[.int .i64 0, .int .i64 0] 59 (0, 0)) ∧ w2.heap[w1.heap.size]? = some (.cells #[.int .i64 D1.1, .int .i64 D1.2] 59 (0, 0)) ∧ w2.heap[w1.heap.size + 1]? = some (.cells #[.int .i64 D2.1, .int .i64 D2.2] 59 (0, 0))) :=
          ⟨(hb2.block _ l3).trans HI3.out.1, (hb2.block _ l6).trans HI3.out.2.1, (hb2.block _ l7).trans HI3.out.2.2⟩
        clear hb2
        go_wp2_with fail
        rw [qm.out]
        refine (HR.out M D3 _ q3 HG3.out (HB2.out.alloc HB2.out.size _)).mono ?_
        rw [HRV.out]
        rintro e w3 ⟨rfl, hb3⟩
        have HO3 : Hid (w3.heap[w.heap.size]? = some (.cells #[.int .i64 0, .int .i64 0] 59 (0, 0)) ∧ w3.heap[w1.heap.size]? = some (.cells #[.int .i64 D1.1, .int .i64 D1.2] 59 (0, 0)) ∧ w3.heap[w1.heap.size + 1]? = some (.cells #[.int .i64 D2.1, .int .i64 D2.2] 59 (0, 0)) ∧
            w3.heap[w2.heap.size]? = some (.cells #[.int .i64 D3.1, .int .i64 D3.2] 59 (0, 0)) ∧ Below w.heap.size w w3) := by
          have l3' := lt_of_block HO2.out.1
          have l6' := lt_of_block HO2.out.2.1
          have l7' := lt_of_block HO2.out.2.2
          exact ⟨((hb3.block _ (by simp; omega)).trans (Below.heap_alloc _ _ _ l3')).trans HO2.out.1, ((hb3.block _ (by simp; omega)).trans (Below.heap_alloc _ _ _ l6')).trans HO2.out.2.1, ((hb3.block _ (by simp; omega)).trans (Below.heap_alloc _ _ _ l7')).trans HO2.out.2.2,
            (hb3.block _ (by simp)).trans (heap_alloc_new _ _), (HB2.out.alloc HB2.out.size _).trans (hb3.mono (by have := HB2.out.size; simp; omega))⟩
        clear hb3 HB2
        obtain ⟨k0, k1, -, -, lk⟩ := two_cells HO3.out.2.2.2.1
        have l7'' := lt_of_block HO2.out.2.2
        clear HO2
        obtain ⟨v0, v1, x0, x1, -⟩ := two_cells HO3.out.2.1
        go_wp2_with fail
        go_region
        go_wp2_with fail
        go_roundw
        case rel =>
          refine ⟨j, 2 * i + 1, by omega, ?_, ?_, ?_, HV3, ?_⟩
          · rw [HN1.out.2.2]; exact q2
          · rw [HN1.out.2.1]
          · rw [HN1.out.2.2]
          · have ho := HO3.out
            have hd := HD.out
            refine ⟨?_, ?_, ?_, ?_, ne⟩
            · rw [heap_drew]; exact (Below.heap_setCell _ _ _ _ (by show w.heap.size ≠ w1.heap.size; omega)).trans ((Below.heap_setCell _ _ _ _ (by show w.heap.size ≠ w1.heap.size; omega)).trans ho.1)
            · rw [hd.2.1, heap_drew, heap_setCell_same _ _ _ _ _ _ (heap_setCell_same _ _ _ _ _ _ (by exact ho.2.1))]; rfl
            · rw [hd.2.2, heap_drew]
              exact (Below.heap_setCell _ _ _ _ (by show w1.heap.size + 1 ≠ w1.heap.size; omega)).trans ((Below.heap_setCell _ _ _ _ (by show w1.heap.size + 1 ≠ w1.heap.size; omega)).trans ho.2.2.1)
            · exact ((ho.2.2.2.2.setCell (p := ⟨w1.heap.size, 0, none⟩) (by show w.heap.size ≤ w1.heap.size; omega) _).setCell (p := ⟨w1.heap.size, 1, none⟩) (by show w.heap.size ≤ w1.heap.size; omega) _).drew
        case measure => simp [intOf]; omega
      | false =>
        have HV3 : Hid (hv r j (2 * i) = R) := by unfold Hid; simpa using HV2
        clear HV2
        go_wp2_with fail
        refine (CB.out _).mono ?_
        rintro e w2 ⟨rfl, hb2⟩
        have hs2 := hb2.size
        have HB2 : Hid (Below w.heap.size w w2) := IK2.out.hb.trans (hb2.mono IK2.out.hb.size)
        have HO2 : Hid (w2.heap[w.heap.size]? = some (.cells #[.int .i64 0, .int .i64 0] 59 (0, 0)) ∧ w2.heap[w1.heap.size]? = some (.cells #[.int .i64 D1.1, .int .i64 D1.2] 59 (0, 0)) ∧ w2.heap[w1.heap.size + 1]? = some (.cells #[.int .i64 D2.1, .int .i64 D2.2] 59 (0, 0))) :=
          ⟨(hb2.block _ l3).trans HI3.out.1, (hb2.block _ l6).trans HI3.out.2.1, (hb2.block _ l7).trans HI3.out.2.2⟩
        clear hb2
        go_wp2_with fail
        rw [qm.out]
        refine (HR.out M D3 _ q3 HG3.out (HB2.out.alloc HB2.out.size _)).mono ?_
        rw [HRV.out]
        rintro e w3 ⟨rfl, hb3⟩
        have HO3 : Hid (w3.heap[w.heap.size]? = some (.cells #[.int .i64 0, .int .i64 0] 59 (0, 0)) ∧ w3.heap[w1.heap.size]? = some (.cells #[.int .i64 D1.1, .int .i64 D1.2] 59 (0, 0)) ∧ w3.heap[w1.heap.size + 1]? = some (.cells #[.int .i64 D2.1, .int .i64 D2.2] 59 (0, 0)) ∧
            w3.heap[w2.heap.size]? = some (.cells #[.int .i64 D3.1, .int .i64 D3.2] 59 (0, 0)) ∧ Below w.heap.size w w3) := by
          have l3' := lt_of_block HO2.out.1
          have l6' := lt_of_block HO2.out.2.1
          have l7' := lt_of_block HO2.out.2.2
          exact ⟨((hb3.block _ (by simp; omega)).trans (Below.heap_alloc _ _ _ l3')).trans HO2.out.1, ((hb3.block _ (by simp; omega)).trans (Below.heap_alloc _ _ _ l6')).trans HO2.out.2.1, ((hb3.block _ (by simp; omega)).trans (Below.heap_alloc _ _ _ l7')).trans HO2.out.2.2,
            (hb3.block _ (by simp)).trans (heap_alloc_new _ _), (HB2.out.alloc HB2.out.size _).trans (hb3.mono (by have := HB2.out.size; simp; omega))⟩
        clear hb3 HB2
        obtain ⟨k0, k1, -, -, lk⟩ := two_cells HO3.out.2.2.2.1
        have l7'' := lt_of_block HO2.out.2.2
        clear HO2
        obtain ⟨v0, v1, x0, x1, -⟩ := two_cells HO3.out.2.2.1
        go_wp2_with fail
        go_region
        go_wp2_with fail
        go_roundw
        case rel =>
          refine ⟨j, 2 * i, by omega, ?_, ?_, ?_, HV3, ?_⟩
          · rw [HN1.out.2.1]; exact q3
          · rw [HN1.out.1]
          · rw [HN1.out.2.1]
          · have ho := HO3.out
            have hd := HD.out
            refine ⟨?_, ?_, ?_, ?_, ne⟩
            · rw [heap_drew]; exact (Below.heap_setCell _ _ _ _ (by show w.heap.size ≠ w1.heap.size + 1; omega)).trans ((Below.heap_setCell _ _ _ _ (by show w.heap.size ≠ w1.heap.size + 1; omega)).trans ho.1)
            · rw [hd.1, heap_drew]
              exact (Below.heap_setCell _ _ _ _ (by show w1.heap.size ≠ w1.heap.size + 1; omega)).trans ((Below.heap_setCell _ _ _ _ (by show w1.heap.size ≠ w1.heap.size + 1; omega)).trans ho.2.1)
            · rw [hd.2.1, heap_drew, heap_setCell_same _ _ _ _ _ _ (heap_setCell_same _ _ _ _ _ _ (by exact ho.2.2.1))]; rfl
            · exact ((ho.2.2.2.2.setCell (p := ⟨w1.heap.size + 1, 0, none⟩) (by show w.heap.size ≤ w1.heap.size + 1; omega) _).setCell (p := ⟨w1.heap.size + 1, 1, none⟩) (by show w.heap.size ≤ w1.heap.size + 1; omega) _).drew
        case measure => simp [intOf]; omega
end Go.Proofs.YtmiaglkkjncfnaaDoor
