import Derived.Test.YtmiaglkkjncfnaaDoorNa
namespace Go.Proofs.YtmiaglkkjncfnaaDoor
open Go.RowKit Go.Proofs.YtmiaglkkjncfnaaDoor.Flt

theorem cast_mm (a b : Nat) : ((a * b % 998244353 : Nat) : Int) = (a : Int) * b % 998244353 := by rw [Int.natCast_emod, Int.natCast_mul]; rfl
theorem prod_b {a b : Nat} (ha : a < 998244353) (hb : b < 998244353) : 0 ≤ (a : Int) * b ∧ (a : Int) * b ≤ 996491788296388609 := by
  have h : a * b ≤ 998244353 * 998244353 := Nat.mul_le_mul (Nat.le_of_lt ha) (Nat.le_of_lt hb)
  rw [← Int.natCast_mul]
  omega

end Go.Proofs.YtmiaglkkjncfnaaDoor
