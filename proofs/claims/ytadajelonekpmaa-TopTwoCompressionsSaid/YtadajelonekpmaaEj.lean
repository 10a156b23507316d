import Derived.Test.YtadajelonekpmaaEi
namespace Go.Proofs.Ytadajelonekpmaa
open Go.RowKit Go.Proofs.Ytadajelonekpmaa.Flt

theorem lt_of_block' {w : World} {b o : Nat} {v : Value} (h : w.cell? ⟨b, o, none⟩ = some v) : b < w.heap.size := block_lt_of_cell h

theorem hv_lt (r : Nat → Nat × Nat → Bool) : ∀ j i, hv r j i < (i + 1) * 2 ^ j := by
  intro j
  induction j with
  | zero => intro i; simp [hv]
  | succ j ih =>
    intro i
    rw [hv]
    have e : (i + 1) * 2 ^ (j + 1) = (2 * i + 1 + 1) * 2 ^ j := by
      rw [Nat.pow_succ, Nat.mul_comm (2 ^ j) 2, ← Nat.mul_assoc]; congr 1; omega
    have h1 := ih (2 * i + 1)
    have h2 := ih (2 * i)
    have h3 : (2 * i + 1) * 2 ^ j ≤ (2 * i + 1 + 1) * 2 ^ j := Nat.mul_le_mul_right _ (by omega)
    rw [e]
    split <;> omega

/-- the phase of x + y i in halves of a part, for 0 <= y <= x -/
def halv (x y : Nat) : Nat := if x = y then 1024 else hv (fun _ d => decide (d.2 * x ≤ d.1 * y)) 10 0
theorem halv_le (x y : Nat) : halv x y ≤ 1024 := by
  unfold halv
  split
  · omega
  · have := hv_lt (fun _ d => decide (d.2 * x ≤ d.1 * y)) 10 0
    omega

/-- the phase in parts, of x + y i -/
def ph0 (x y : Nat) : Int := ((halv x y + 1) / 2 : Nat)
def phA (x y : Nat) : Int := if x < y then 1024 - ph0 y x else ph0 x y
def phB (x : Int) (y : Nat) : Int := if x < 0 then 2048 - phA x.natAbs y else phA x.natAbs y
def phC (x y : Int) : Int := if y < 0 then - phB x y.natAbs else phB x y.natAbs

theorem ph0_b (x y : Nat) : 0 ≤ ph0 x y ∧ ph0 x y ≤ 512 := by
  unfold ph0
  have := halv_le x y
  omega
theorem phA_b (x y : Nat) : 0 ≤ phA x y ∧ phA x y ≤ 1024 := by
  unfold phA
  have := ph0_b x y
  have := ph0_b y x
  split <;> omega
theorem phB_b (x : Int) (y : Nat) : 0 ≤ phB x y ∧ phB x y ≤ 2048 := by
  unfold phB
  have := phA_b x.natAbs y
  split <;> omega
theorem phC_b (x y : Int) : -2048 ≤ phC x y ∧ phC x y ≤ 2048 := by
  unfold phC
  have := phB_b x y.natAbs
  split <;> omega

/-- whole turns taken away -/
def wrapI (p : Int) : Int := (p + 2048) % 4096 - 2048

end Go.Proofs.Ytadajelonekpmaa
