import Derived.Test.YtjokfmbknkeeeaaRl
import Derived.BigQuiet
import Derived.StillTailTactics
import Derived.IntWalk
import Derived.Outline
namespace Go.Proofs.Ytjokfmbknkeeeaa.Orb
open Go.RowKit Lib

/-- the greatest common divisor, as a number of the program -/
def gI (n d : Int) : Int := ((Int.gcd n d : Nat) : Int)
theorem gI_pos {n d : Int} (h : 0 < d) : 1 ≤ gI n d ∧ gI n d ≤ d := by
  unfold gI
  have h1 : 0 < Int.gcd n d := Int.gcd_pos_of_ne_zero_right n (by omega)
  have h2 : ((Int.gcd n d : Nat) : Int) ∣ d := Int.gcd_dvd_right n d
  exact ⟨by omega, Int.le_of_dvd h h2⟩
theorem gcd_start (n d : Int) (h : 0 < d) : Nat.gcd d.toNat n.natAbs = Int.gcd n d := by
  rw [Int.gcd, Nat.gcd_comm, show d.toNat = d.natAbs from by omega]
theorem gcd_step (A B : Nat) : Nat.gcd B (A % B) = Nat.gcd A B := by
  rw [Nat.gcd_comm A B, Nat.gcd_rec B A, Nat.gcd_comm]
theorem gcd_stepI (a b : Int) : Int.gcd b (a.tmod b) = Int.gcd a b := by
  rw [Int.gcd, Int.gcd, Int.natAbs_tmod]
  exact gcd_step _ _
theorem tmod_bd (a b : Int) (h : b ≠ 0) : (a.tmod b).natAbs < b.natAbs := by
  rw [Int.natAbs_tmod]
  exact Nat.mod_lt _ (by omega)

set_option maxRecDepth 100000 in
theorem refSize_any (n : Int) (hn : -1000000000000 ≤ n) (hn2 : n ≤ 1000000000000) (w : World) :
    Calls Try.prog 64 #[.int .i64 n] w fun e w' => e = .returned (.int .i64 ((n.natAbs : Nat) : Int)) ∧ w = w' := by
  have hng : IntKind.i64.wrap (-n) = -n := IntWalk.i64_in _ (by omega)
  by_cases hs : n < -n
  · have HR := Lib.hid (show ((n.natAbs : Nat) : Int) = -n by omega)
    rw [HR.out]
    clear HR
    go_enter Try.func64, Try.ntmps64
    go_wp2_with fail
    go_ret
    exact ⟨rfl, rfl⟩
  · have HR := Lib.hid (show ((n.natAbs : Nat) : Int) = n by omega)
    rw [HR.out]
    clear HR
    go_enter Try.func64, Try.ntmps64
    go_wp2_with fail
    go_ret
    exact ⟨rfl, rfl⟩

end Go.Proofs.Ytjokfmbknkeeeaa.Orb
