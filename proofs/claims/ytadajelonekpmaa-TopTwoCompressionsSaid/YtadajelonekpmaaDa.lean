import Derived.Test.YtadajelonekpmaaSa
namespace Go.Proofs.Ytadajelonekpmaa
open Go.RowKit Go.Proofs.Ytadajelonekpmaa.Flt

/-- the product of a sample with the conjugate of the one a line ahead of it -/
def pRe (zs : List (Nat × Nat)) (S i : Nat) : Int := re .f32 zs (i + S) * re .f32 zs i + im .f32 zs (i + S) * im .f32 zs i
def pIm (zs : List (Nat × Nat)) (S i : Nat) : Int := im .f32 zs (i + S) * re .f32 zs i - re .f32 zs (i + S) * im .f32 zs i
def pairRe (zs : List (Nat × Nat)) (S n : Nat) : Int := sumTo (pRe zs S) n
def pairIm (zs : List (Nat × Nat)) (S n : Nat) : Int := sumTo (pIm zs S) n

theorem pair_b {zs : List (Nat × Nat)} (RI : Right .f32 2047 zs) (S i : Nat) (h : i + S < zs.length) : (pRe zs S i).natAbs ≤ 8380418 ∧ (pIm zs S i).natAbs ≤ 8380418 := by
  obtain ⟨-, -, a3, a4⟩ := RI (i + S) h
  obtain ⟨-, -, b3, b4⟩ := RI i (by omega)
  have hm : ∀ a c : Int, a.natAbs ≤ 2047 → c.natAbs ≤ 2047 → (a * c).natAbs ≤ 4190209 := by
    intro a c h1 h2
    rw [Int.natAbs_mul]
    exact Nat.le_trans (Nat.mul_le_mul h1 h2) (by decide)
  have t1 := hm _ _ a3 b3
  have t2 := hm _ _ a4 b4
  have t3 := hm _ _ a4 b3
  have t4 := hm _ _ a3 b4
  unfold pRe pIm
  constructor <;> omega

theorem pairSum_b {zs : List (Nat × Nat)} (RI : Right .f32 2047 zs) (S n : Nat) (hz : zs.length ≤ 4096) (h : n + S ≤ zs.length) : ∀ k, k ≤ n → (pairRe zs S k).natAbs ≤ 34326192128 ∧ (pairIm zs S k).natAbs ≤ 34326192128 := by
  intro k hk
  have hs1 := sumTo_bound (pRe zs S) 8380418 n (fun k hk => (pair_b RI S k (by omega)).1) k hk
  have hs2 := sumTo_bound (pIm zs S) 8380418 n (fun k hk => (pair_b RI S k (by omega)).2) k hk
  have hm := Nat.mul_le_mul_right 8380418 (show k ≤ 4096 by omega)
  exact ⟨Nat.le_trans hs1 hm, Nat.le_trans hs2 hm⟩

/-- the error of a sum of pairs -/
def pairErr (l s : Int) (zs : List (Nat × Nat)) : Int := if (dataErr .f32 2047 l s zs).2 ≠ 0 then (dataErr .f32 2047 l s zs).2 else if l = 1 then 10 else 0

theorem pairErr_ok {l s : Int} {zs : List (Nat × Nat)} (h : pairErr l s zs = 0) (hz : ∀ z ∈ zs, z.1 < 2 ^ 32 ∧ z.2 < 2 ^ 32) :
    ∃ L S : Nat, l = L ∧ s = S ∧ 2 ≤ L ∧ L ≤ 64 ∧ 1 ≤ S ∧ S ≤ 64 ∧ zs.length = L * S ∧ Right .f32 2047 zs ∧ dataErr .f32 2047 l s zs = ((dataErr .f32 2047 l s zs).1, 0) := by
  unfold pairErr at h
  by_cases hE : (dataErr .f32 2047 l s zs).2 = 0
  · rw [if_neg (fun c => c hE)] at h
    by_cases h1 : l = 1
    · rw [if_pos h1] at h; cases h
    · obtain ⟨a1, a2, a3, a4, a5, a6⟩ := dataErr_ok hE
      refine ⟨l.toNat, s.toNat, by omega, by omega, by omega, by omega, by omega, by omega, ?_, right_of_ok (by decide) hz a6, by rw [← hE]⟩
      have e1 : ((l.toNat : Nat) : Int) = l := by omega
      have e2 : ((s.toNat : Nat) : Int) = s := by omega
      have : ((l.toNat * s.toNat : Nat) : Int) = zs.length := by rw [Int.natCast_mul, e1, e2, a5]
      omega
  · rw [if_pos hE] at h; exact absurd h hE

end Go.Proofs.Ytadajelonekpmaa

namespace Go.Proofs.Ytadajelonekpmaa
open Go.RowKit Go.Proofs.Ytadajelonekpmaa.Flt

theorem tdiv_neg_case (n k : Int) (hk : 0 < k) (h : n.tmod k < 0) : n.tdiv k - 1 = n / k := by
  have e := Int.emod_nonneg n (Int.ne_of_gt hk)
  have e2 := Int.emod_lt_of_pos n hk
  have h1 := Int.tmod_eq_emod (a := n) (b := k)
  have h2 := Int.tdiv_eq_ediv (a := n) (b := k)
  have h3 : k.sign = 1 := Int.sign_eq_one_of_pos hk
  by_cases hc : 0 ≤ n ∨ k ∣ n
  · rw [if_pos hc] at h1 h2; omega
  · rw [if_neg hc] at h1 h2; omega
theorem tdiv_pos_case (n k : Int) (hk : 0 < k) (h : ¬ n.tmod k < 0) : n.tdiv k = n / k := by
  have e := Int.emod_nonneg n (Int.ne_of_gt hk)
  have e2 := Int.emod_lt_of_pos n hk
  have h1 := Int.tmod_eq_emod (a := n) (b := k)
  have h2 := Int.tdiv_eq_ediv (a := n) (b := k)
  by_cases hc : 0 ≤ n ∨ k ∣ n
  · rw [if_pos hc] at h1 h2; omega
  · rw [if_neg hc] at h1 h2; omega

/-- the number nearest to the second one -/
def unfI (p n : Int) : Int := n + wrapI (p - n)

/-- the phase of a sum -/
def phS (a b : Int) : Int × Int := if a = 0 ∧ b = 0 then (0, 31) else (wrapI (phC a b), 0)
theorem phaPart_sum (a b : Int) (ha : a.natAbs ≤ 100000000000) (hb : b.natAbs ≤ 100000000000) : phaPart (some a) (some b) = phS a b := by
  have h0 : smpErr (some a) (some b) 100000000000 = 0 := by
    unfold smpErr
    dsimp only
    rw [if_neg (by omega)]
  unfold phaPart
  rw [if_pos h0]
  rfl
theorem refParts_any (x y : Nat) (a b : Int) (ra : Rep Ieee.single x a) (rb : Rep Ieee.single y b) (la : a.natAbs ≤ 2 ^ 24) (lb : b.natAbs ≤ 2 ^ 24) (w : World) :
    Calls Try.prog 27 #[.complex .f32 x y] w fun e w' => e = .returned (.tuple #[.int .i64 a, .int .i64 b]) ∧ w = w' := by
  have c1 := fun w => run_convert_float_int (P := Try.prog) w 53 3 .f32 .i64 x a (by kernel_rfl) (by kernel_rfl) (by
    unfold floatToIntVal
    have : (FloatKind.f32.decode x).toInt .zero = some a := toInt_rep good_single ra la .zero
    rw [this]
    dsimp only
    rw [if_pos ⟨by show (-9223372036854775808 : Int) ≤ a; omega, by show a ≤ (9223372036854775807 : Int); omega⟩])
  have c2 := fun w => run_convert_float_int (P := Try.prog) w 53 3 .f32 .i64 y b (by kernel_rfl) (by kernel_rfl) (by
    unfold floatToIntVal
    have : (FloatKind.f32.decode y).toInt .zero = some b := toInt_rep good_single rb lb .zero
    rw [this]
    dsimp only
    rw [if_pos ⟨by show (-9223372036854775808 : Int) ≤ b; omega, by show b ≤ (9223372036854775807 : Int); omega⟩])
  clear ra rb la lb
  go_enter Try.func27, Try.ntmps27
  go_wp2_with fail
  go_ret2
  exact ⟨rfl, rfl⟩

theorem mul_bb {a c : Int} (h1 : a.natAbs ≤ 2000000000) (h2 : c.natAbs ≤ 2047) : -4094000000000 ≤ a * c ∧ a * c ≤ 4094000000000 := by
  have : (a * c).natAbs ≤ 4094000000000 := by rw [Int.natAbs_mul]; exact Nat.le_trans (Nat.mul_le_mul h1 h2) (by decide)
  omega

end Go.Proofs.Ytadajelonekpmaa

namespace Go.Proofs.Ytadajelonekpmaa
open Go.RowKit Go.Proofs.Ytadajelonekpmaa.Flt

end Go.Proofs.Ytadajelonekpmaa
