import Derived.Test.YtadajelonekpmaaGb
import Derived.Test.YtadajelonekpmaaWc
namespace Go.Proofs.Ytadajelonekpmaa
open Go.RowKit Go.Proofs.Ytadajelonekpmaa.Flt

/-- the error of a line of a field -/
def lineErr (l s : Int) (zs : List (Nat × Nat)) (line : Int) : Int :=
  if (dataErr .f64 1000000000 l s zs).2 ≠ 0 then (dataErr .f64 1000000000 l s zs).2 else if line < 0 ∨ l ≤ line then 2 else 0

/-- what EnergyAt answers -/
def enErr (l s : Int) (zs : List (Nat × Nat)) (line sample : Int) : Int :=
  if lineErr l s zs line ≠ 0 then lineErr l s zs line else if sample < 0 ∨ s ≤ sample then 2 else 0

theorem lineErr_ok {l s : Int} {zs : List (Nat × Nat)} {line : Int} (h : lineErr l s zs line = 0) (hz : ∀ z ∈ zs, z.1 < 2 ^ 64 ∧ z.2 < 2 ^ 64) :
    ∃ L S m : Nat, l = L ∧ s = S ∧ line = m ∧ 1 ≤ L ∧ L ≤ 64 ∧ 1 ≤ S ∧ S ≤ 64 ∧ m < L ∧ zs.length = L * S ∧ Right .f64 1000000000 zs := by
  unfold lineErr at h
  by_cases h1 : (dataErr .f64 1000000000 l s zs).2 = 0
  · rw [if_neg (fun c => c h1)] at h
    obtain ⟨a, b, c, d, e, f⟩ := dataErr_ok h1
    by_cases h2 : line < 0 ∨ l ≤ line
    · rw [if_pos h2] at h; cases h
    · refine ⟨l.toNat, s.toNat, line.toNat, by omega, by omega, by omega, by omega, by omega, by omega, by omega, by omega, ?_, right_of_ok (by decide) hz f⟩
      have e1 : l = (l.toNat : Int) := by omega
      have e2 : s = (s.toNat : Int) := by omega
      rw [e1, e2, ← Int.natCast_mul] at e
      exact_mod_cast e
  · rw [if_pos h1] at h; exact absurd h h1

end Go.Proofs.Ytadajelonekpmaa
