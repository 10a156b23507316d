import Derived.Test.YtadajelonekpmaaNl
import Derived.Test.YtadajelonekpmaaNf
namespace Go.Proofs.Ytadajelonekpmaa
open Go.RowKit Go.Proofs.Ytadajelonekpmaa.Flt

theorem corG {v v' : Value} {L M : List Int} {W : World} (h : Got L W v) (h' : Got M W v') (e : listErr L = 0) (e' : listErr M = 0) (hl : L.length = M.length) : Calls Try.prog 11 #[v, v'] W fun e w' => ∃ v'', e = .returned (.tuple #[v'', .int .i64 0]) ∧ Below W.heap.size W w' ∧ Got (corList L M) w' v'' :=
  (Correlate_ok v v' L M W h.sl h'.sl e e' hl).mono fun _ _ ⟨v', h1, h2, h3⟩ => ⟨v', h1, h2, Got.of (by rw [corList_length]; have := (listErr_ok e).1; omega) h3⟩
theorem five_ways (n m : Nat) (h : 64 < n ∧ n ≤ 128 ∨ 130 < n ∨ 64 < m ∧ m ≤ 128 ∨ 130 < m) :
    (64 < n ∧ n ≤ 128) ∨ (128 < n ∧ 130 < n) ∨ (n ≤ 64 ∧ 64 < m ∧ m ≤ 128) ∨ (128 < n ∧ n ≤ 130 ∧ 64 < m ∧ m ≤ 128) ∨ (n ≤ 64 ∧ 130 < m) ∨ (128 < n ∧ n ≤ 130 ∧ 130 < m) := by omega

/-- the product of two transforms -/
theorem cor_prod (xs ys : List Int) (m : Nat) (hm : m < xs.length) (hl : xs.length = ys.length) (e : listErr xs = 0) (h64 : xs.length ≤ 64) :
    (trList (corList xs ys) (rootN (corList xs ys).length) 1).getD m 0 = (trList xs (rootN xs.length) 1).getD m 0 * (trList ys (rootN ys.length) 1).getD ((xs.length - m) % xs.length) 0 % 998244353 := by
  have R := Root.at (list_size e h64)
  have hlt : (xs.length - m) % xs.length < xs.length := Nat.mod_lt _ (by omega)
  rw [trList_get _ _ _ _ (by rw [corList_length]; exact hm), trList_get _ _ _ _ hm, trList_get _ _ _ _ (by rw [← hl]; exact hlt), corList_length, ← hl]
  exact tr_cor xs ys _ m hm hl R.wn

end Go.Proofs.Ytadajelonekpmaa
