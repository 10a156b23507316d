import Derived.Test.YtmiaglkkjncfnaaDoorCa
import Derived.Test.YtmiaglkkjncfnaaDoorGa
namespace Go.Proofs.YtmiaglkkjncfnaaDoor
open Go.RowKit Go.Proofs.YtmiaglkkjncfnaaDoor.Flt

/-- the products of what is focused, and the sums of the first n of them -/
def fpRe (zs us : List (Nat × Nat)) (S f k : Nat) : Int := re .f64 zs (f + k * S) * re .f32 us k + im .f64 zs (f + k * S) * im .f32 us k
def fpIm (zs us : List (Nat × Nat)) (S f k : Nat) : Int := im .f64 zs (f + k * S) * re .f32 us k - re .f64 zs (f + k * S) * im .f32 us k
def fRe (zs us : List (Nat × Nat)) (S f n : Nat) : Int := sumTo (fpRe zs us S f) n
def fIm (zs us : List (Nat × Nat)) (S f n : Nat) : Int := sumTo (fpIm zs us S f) n

theorem fp_b {zs us : List (Nat × Nat)} (RI : Right .f64 1000000000 zs) (RC : Right .f32 3 us) (S f k : Nat) (h : f + k * S < zs.length) (hk : k < us.length) : (fpRe zs us S f k).natAbs ≤ 6000000000 ∧ (fpIm zs us S f k).natAbs ≤ 6000000000 := by
  obtain ⟨-, -, a3, a4⟩ := RI (f + k * S) h
  obtain ⟨-, -, b3, b4⟩ := RC k hk
  have hm : ∀ a c : Int, a.natAbs ≤ 1000000000 → c.natAbs ≤ 3 → (a * c).natAbs ≤ 3000000000 := by
    intro a c h1 h2
    rw [Int.natAbs_mul]
    exact Nat.le_trans (Nat.mul_le_mul h1 h2) (by decide)
  have t1 := hm _ _ a3 b3
  have t2 := hm _ _ a4 b4
  have t3 := hm _ _ a4 b3
  have t4 := hm _ _ a3 b4
  unfold fpRe fpIm
  constructor <;> omega
theorem f_b {zs us : List (Nat × Nat)} (RI : Right .f64 1000000000 zs) (RC : Right .f32 3 us) (S f k : Nat) (h : ∀ k, k < us.length → f + k * S < zs.length) (hm : us.length ≤ 32) (hk : k ≤ us.length) : (fRe zs us S f k).natAbs ≤ 192000000000 ∧ (fIm zs us S f k).natAbs ≤ 192000000000 := by
  have hs1 := sumTo_bound (fpRe zs us S f) 6000000000 us.length (fun k hk => (fp_b RI RC S f k (h k hk) hk).1) k hk
  have hs2 := sumTo_bound (fpIm zs us S f) 6000000000 us.length (fun k hk => (fp_b RI RC S f k (h k hk) hk).2) k hk
  have hm := Nat.mul_le_mul_right 6000000000 (show k ≤ 32 by omega)
  exact ⟨Nat.le_trans hs1 hm, Nat.le_trans hs2 hm⟩

/-- the focused values, and which of them is too large -/
def focAt (zs us : List (Nat × Nat)) (S i : Nat) : Nat × Nat := (enc Ieee.double (fRe zs us S i us.length), enc Ieee.double (fIm zs us S i us.length))
def focBig (zs us : List (Nat × Nat)) (S i : Nat) : Bool := decide ((1000000000 : Int) < (fRe zs us S i us.length).natAbs ∨ (1000000000 : Int) < (fIm zs us S i us.length).natAbs)
def focList (zs us : List (Nat × Nat)) (S n : Nat) : List (Nat × Nat) := (List.range n).map (focAt zs us S)
/-- is one of the first n too large? -/
def focBad (zs us : List (Nat × Nat)) (S : Nat) : Nat → Bool
  | 0 => false
  | n + 1 => focBad zs us S n || focBig zs us S n
theorem focBad_of {zs us : List (Nat × Nat)} {S k : Nat} (h : focBig zs us S k = true) : ∀ n, k < n → focBad zs us S n = true
  | 0, hk => absurd hk (Nat.not_lt_zero _)
  | n + 1, hk => by
    rw [focBad]
    by_cases e : k = n
    · rw [← e, h, Bool.or_true]
    · rw [focBad_of h n (by omega), Bool.true_or]

def focErr (l s : Int) (zs us : List (Nat × Nat)) : Int :=
  if (dataErr .f64 1000000000 l s zs).2 ≠ 0 then (dataErr .f64 1000000000 l s zs).2 else if (codeErr us).2 ≠ 0 then (codeErr us).2 else if l < us.length then 10 else 0

end Go.Proofs.YtmiaglkkjncfnaaDoor
