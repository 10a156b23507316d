import Derived.Test.YtadajelonekpmaaNc
namespace Go.Proofs.Ytadajelonekpmaa
open Go.RowKit Go.Proofs.Ytadajelonekpmaa.Flt

/-- a list under way: the first k numbers of L lie in a row of its own -/
structure Build (L : List Int) (w : World) (k : Nat) (v : Value) (wr : World) : Prop where
  hb : Below w.heap.size w wr
  ho : wr.ownsRow w.heap.size 3 1 v k (ivals (L.take k))

theorem Build.start (L : List Int) (w : World) : Build L w 0 (.slice none 0 0) w := ⟨Below.refl _ _, World.ownsRow_nil _ _ _ _⟩

theorem Build.next {L : List Int} {w wz w' : World} {k : Nat} {v v' : Value} {x : Int} (h : Build L w k v wz) (hk : k < L.length) (hx : L.getD k 0 = x)
    (hown : w'.ownsRow w.heap.size 3 1 v' (k + 1) (ivals (L.take k) ++ [.int .i64 x])) (hgrow : (wz.alloc (.cells #[.int .i64 x] 3)).grownBy w' v.ownBlock) :
    Build L w (k + 1) v' w' := by
  refine ⟨?_, ?_⟩
  · exact (h.hb.alloc h.hb.size _).grown hgrow (by have := h.hb.size; simp; omega) (fun i e => (h.ho.lt i e).1)
  · have e : ivals (L.take (k + 1)) = ivals (L.take k) ++ [.int .i64 x] := by
      rw [List.take_succ_eq_append_getElem hk]
      rw [List.getD_eq_getElem?_getD, List.getElem?_eq_getElem hk, Option.getD_some] at hx
      rw [hx]; simp [ivals]
    rw [e]; exact hown

end Go.Proofs.Ytadajelonekpmaa

namespace Go.Proofs.Ytadajelonekpmaa
open Go.RowKit Go.Proofs.Ytadajelonekpmaa.Flt

/-- behind k rounds of the last loop -/
def invPart (xs : List Int) (u c : Int) (n k : Nat) : List Value :=
  (List.range n).map fun i => .int .i64 (if i < k then trAt xs u c i else trAt xs u 1 i)
theorem invPart_zero (xs : List Int) (u c : Int) (n : Nat) (h : xs.length = n) : invPart xs u c n 0 = ivals (trList xs u 1) := by
  unfold invPart trList ivals
  rw [h, List.map_map]
  apply List.map_congr_left
  intro i hi
  simp
theorem invPart_end (xs : List Int) (u c : Int) (n : Nat) (h : xs.length = n) : invPart xs u c n n = ivals (trList xs u c) := by
  unfold invPart trList ivals
  rw [h, List.map_map]
  apply List.map_congr_left
  intro i hi
  have := List.mem_range.1 hi
  simp [this]
theorem invPart_step (xs : List Int) (u c : Int) (n k : Nat) : (invPart xs u c n k).set k (.int .i64 (trAt xs u c k)) = invPart xs u c n (k + 1) := by
  apply List.ext_getElem
  · simp [invPart]
  · intro i h1 h2
    rw [List.getElem_set]
    simp only [invPart, List.getElem_map, List.getElem_range]
    by_cases h : k = i
    · subst h; rw [if_pos rfl, if_pos (by omega)]
    · rw [if_neg h]
      by_cases h3 : i < k
      · rw [if_pos h3, if_pos (by omega)]
      · rw [if_neg h3, if_neg (by omega)]
theorem invPart_at (xs : List Int) (u c : Int) (n k : Nat) (h : k < n) : (invPart xs u c n k)[k]? = some (.int .i64 (trAt xs u 1 k)) := by
  simp [invPart, List.getElem?_range h]

structure InvInv (xs : List Int) (u c : Int) (n g cap : Nat) (w : World) (k : Nat) (wr : World) : Prop where
  hg : w.heap.size ≤ g
  hb : Below w.heap.size w wr
  ho : wr.ownsRow w.heap.size 3 1 (.slice (some ⟨g, 0, none⟩) n cap) n (invPart xs u c n k)
theorem InvInv.next {xs : List Int} {u c : Int} {n g cap k : Nat} {w wr : World} (h : InvInv xs u c n g cap w k wr) :
    InvInv xs u c n g cap w (k + 1) (wr.setCell ⟨g, k, none⟩ (.int .i64 (trAt xs u c k))) := by
  refine ⟨h.hg, h.hb.setCell (p := ⟨g, k, none⟩) h.hg _, ?_⟩
  have := (h.ho.stored k (.int .i64 (trAt xs u c k))).1
  rw [invPart_step] at this
  exact this

end Go.Proofs.Ytadajelonekpmaa

namespace Go.Proofs.Ytadajelonekpmaa
open Go.RowKit Go.Proofs.Ytadajelonekpmaa.Flt

end Go.Proofs.Ytadajelonekpmaa

namespace Go.Proofs.Ytadajelonekpmaa
open Go.RowKit Go.Proofs.Ytadajelonekpmaa.Flt

/-- what is known of a list that is right and short -/
theorem list_size {xs : List Int} (h : listErr xs = 0) (h64 : xs.length ≤ 64) : xs.length = 1 ∨ xs.length = 2 ∨ xs.length = 4 ∨ xs.length = 8 ∨ xs.length = 16 ∨ xs.length = 32 ∨ xs.length = 64 := by
  have ho : ones 8 xs.length = 1 := by
    unfold listErr at h
    split at h
    · cases h
    · rename_i h1
      rw [not_or] at h1
      exact Decidable.not_not.1 h1.2
  have hall : ∀ L : Nat, L < 65 → ones 8 L = 1 → L = 1 ∨ L = 2 ∨ L = 4 ∨ L = 8 ∨ L = 16 ∨ L = 32 ∨ L = 64 := by decide +kernel
  exact hall _ (by omega) ho

theorem tr_err (xs : List Int) (u c : Int) (h : listErr xs = 0) : listErr (trList xs u c) = 0 := by
  obtain ⟨n1, n2, n3⟩ := listErr_ok h
  unfold listErr at h ⊢
  rw [trList_length]
  split at h
  · cases h
  · rename_i h1
    rw [if_neg h1, if_neg]
    rw [Bool.not_eq_true, List.any_eq_false]
    intro x hx
    obtain ⟨k, -, rfl⟩ := List.mem_map.1 hx
    obtain ⟨b1, b2⟩ := trAt_b xs u c k
    unfold offP
    simp
    omega
theorem cor_err (xs ys : List Int) (h : listErr xs = 0) : listErr (corList xs ys) = 0 := by
  obtain ⟨n1, n2, n3⟩ := listErr_ok h
  unfold listErr at h ⊢
  rw [corList_length]
  split at h
  · cases h
  · rename_i h1
    rw [if_neg h1, if_neg]
    rw [Bool.not_eq_true, List.any_eq_false]
    intro x hx
    obtain ⟨k, -, rfl⟩ := List.mem_map.1 hx
    obtain ⟨b1, b2⟩ := corTo_b xs ys k xs.length
    unfold offP
    simp
    omega

theorem off_b {xs : List Int} (h : listErr xs = 0) : ∀ i, i < xs.length → 0 ≤ xs.getD i 0 ∧ xs.getD i 0 < 998244353 := fun i _ => getD_off (listErr_ok h).2.2 i

/-- each undoes the other one -/
theorem tr_back (xs : List Int) (h : listErr xs = 0) (h64 : xs.length ≤ 64) :
    trList (trList xs (rootN xs.length) 1) (recN (rootN xs.length)) (recN xs.length) = xs ∧ trList (trList xs (recN (rootN xs.length)) (recN xs.length)) (rootN xs.length) 1 = xs := by
  have R := Root.at (list_size h h64)
  refine ⟨tr_inv xs _ _ _ _ (off_b h) R.wv (by rw [Int.one_mul]; exact R.nc) R.w0 R.v0, tr_inv xs _ _ _ _ (off_b h) (by rw [Int.mul_comm]; exact R.wv) (by rw [Int.mul_one]; exact R.nc) R.v0 R.w0⟩
end Go.Proofs.Ytadajelonekpmaa
