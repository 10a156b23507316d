import Derived.Test.YtcjdbhcpcigmdaaDoorNh
namespace Go.Proofs.YtcjdbhcpcigmdaaDoor
open Go.RowKit Go.Proofs.YtcjdbhcpcigmdaaDoor.Flt

/-- what is known of a list that is right and short -/
theorem list_size {xs : List Int} (h : listErr xs = 0) (h64 : xs.length ≤ 64) : xs.length = 1 ∨ xs.length = 2 ∨ xs.length = 4 ∨ xs.length = 8 ∨ xs.length = 16 ∨ xs.length = 32 ∨ xs.length = 64 := by
  have ho : ones 8 xs.length = 1 := by
    unfold listErr at h
    split at h
    · cases h
    · rename_i h1
      rw [not_or] at h1
      exact Decidable.not_not.1 h1.2
  have hall : ∀ L : Nat, L < 65 → ones 8 L = 1 → L = 1 ∨ L = 2 ∨ L = 4 ∨ L = 8 ∨ L = 16 ∨ L = 32 ∨ L = 64 := by decide +kernel
  exact hall _ (by omega) ho

theorem tr_err (xs : List Int) (u c : Int) (h : listErr xs = 0) : listErr (trList xs u c) = 0 := by
  obtain ⟨n1, n2, n3⟩ := listErr_ok h
  unfold listErr at h ⊢
  rw [trList_length]
  split at h
  · cases h
  · rename_i h1
    rw [if_neg h1, if_neg]
    rw [Bool.not_eq_true, List.any_eq_false]
    intro x hx
    obtain ⟨k, -, rfl⟩ := List.mem_map.1 hx
    obtain ⟨b1, b2⟩ := trAt_b xs u c k
    unfold offP
    simp
    omega
theorem cor_err (xs ys : List Int) (h : listErr xs = 0) : listErr (corList xs ys) = 0 := by
  obtain ⟨n1, n2, n3⟩ := listErr_ok h
  unfold listErr at h ⊢
  rw [corList_length]
  split at h
  · cases h
  · rename_i h1
    rw [if_neg h1, if_neg]
    rw [Bool.not_eq_true, List.any_eq_false]
    intro x hx
    obtain ⟨k, -, rfl⟩ := List.mem_map.1 hx
    obtain ⟨b1, b2⟩ := corTo_b xs ys k xs.length
    unfold offP
    simp
    omega

theorem off_b {xs : List Int} (h : listErr xs = 0) : ∀ i, i < xs.length → 0 ≤ xs.getD i 0 ∧ xs.getD i 0 < 998244353 := fun i _ => getD_off (listErr_ok h).2.2 i

/-- each undoes the other one -/
theorem tr_back (xs : List Int) (h : listErr xs = 0) (h64 : xs.length ≤ 64) :
    trList (trList xs (rootN xs.length) 1) (recN (rootN xs.length)) (recN xs.length) = xs ∧ trList (trList xs (recN (rootN xs.length)) (recN xs.length)) (rootN xs.length) 1 = xs := by
  have R := Root.at (list_size h h64)
  refine ⟨tr_inv xs _ _ _ _ (off_b h) R.wv (by rw [Int.one_mul]; exact R.nc) R.w0 R.v0, tr_inv xs _ _ _ _ (off_b h) (by rw [Int.mul_comm]; exact R.wv) (by rw [Int.mul_one]; exact R.nc) R.v0 R.w0⟩
end Go.Proofs.YtcjdbhcpcigmdaaDoor
