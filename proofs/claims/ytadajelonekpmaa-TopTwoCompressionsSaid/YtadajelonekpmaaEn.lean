import Derived.Test.YtadajelonekpmaaEm
import Derived.Deep.RegionHeld3
import Derived.Lib.ItoaLen
namespace Go.Proofs.Ytadajelonekpmaa
open Go.RowKit Go.Proofs.Ytadajelonekpmaa.Flt

/-- the parts of j samples from the place a on -/
def rowTo (zs : List (Nat × Nat)) (a : Nat) : Nat → List Int
  | 0 => []
  | j + 1 => rowTo zs a j ++ [re .f32 zs (a + j), im .f32 zs (a + j)]
theorem rowTo_len (zs : List (Nat × Nat)) (a : Nat) : ∀ j, (rowTo zs a j).length = 2 * j
  | 0 => rfl
  | j + 1 => by rw [rowTo, List.length_append, rowTo_len zs a j]; simp; omega

theorem getD_all {xs : List Int} (h : ∀ x ∈ xs, I64 x) (i : Nat) (hi : i < xs.length) : I64 (xs.getD i 0) := by
  rw [List.getD_eq_getElem?_getD, List.getElem?_eq_getElem hi]
  exact h _ (List.getElem_mem hi)

/-- what holds beside: nothing old has changed, and the image lies in its box -/
structure ImgBox (L S n cap : Nat) (ad : Option Addr) (w wr : World) : Prop where
  hb : Below w.heap.size w wr
  h0 : wr.heap[w.heap.size]? = some (.cells #[.int .i64 L, .int .i64 S, .slice ad n cap] 29 (0, 0))

theorem ImgBox.below {L S n cap : Nat} {ad : Option Addr} {w wr w2 : World} (h : ImgBox L S n cap ad w wr) (hb : Below wr.heap.size wr w2) : ImgBox L S n cap ad w w2 :=
  ⟨h.hb.trans (hb.mono h.hb.size), (hb.block _ (lt_of_block h.h0)).trans h.h0⟩

/-- the parts of a line that are gathered so far -/
structure RowInv (zs : List (Nat × Nat)) (L S n cap a : Nat) (ad : Option Addr) (w : World) (k : Nat) (v : Value) (wr : World) : Prop where
  box : ImgBox L S n cap ad w wr
  ho : wr.ownsRow (w.heap.size + 1) 3 1 v (2 * k) (ivals (rowTo zs a k))

theorem RowInv.next {zs : List (Nat × Nat)} {L S n cap a k : Nat} {ad : Option Addr} {w wr w' : World} {v v' : Value} (h : RowInv zs L S n cap a ad w k v wr) (o : Obj)
    (hg : (wr.alloc o).grownBy w' v.ownBlock) (ho : w'.ownsRow (w.heap.size + 1) 3 1 v' (2 * k + 2) (ivals (rowTo zs a k) ++ [.int .i64 (re .f32 zs (a + k)), .int .i64 (im .f32 zs (a + k))])) :
    RowInv zs L S n cap a ad w (k + 1) v' w' := by
  have own : ∀ i, v.ownBlock = some i → w.heap.size + 1 ≤ i := fun i e => (h.ho.lt i e).1
  have l0 := lt_of_block h.box.h0
  refine ⟨⟨(h.box.hb.alloc h.box.hb.size o).grown hg (by simp; omega) (fun i e => by have := own i e; omega), ?_⟩, ?_⟩
  · rw [hg.block _ (by simp; omega) (fun e => by have := own _ e.symm; omega)]
    exact (Below.heap_alloc _ o _ l0).trans h.box.h0
  · have e : ivals (rowTo zs a (k + 1)) = ivals (rowTo zs a k) ++ [.int .i64 (re .f32 zs (a + k)), .int .i64 (im .f32 zs (a + k))] := by
      rw [rowTo]; simp [ivals]
    rw [e, show 2 * (k + 1) = 2 * k + 2 from by omega]
    exact ho

theorem two_new (w : World) (x y : Value) (t : TypeId) : ∀ (j : Nat) (u : Value), [x, y][j]? = some u → (w.alloc (.cells #[x, y] t)).cell? ((⟨w.heap.size, 0, none⟩ : Addr).add j) = some u := by
  intro j u hj
  have e : ((⟨w.heap.size, 0, none⟩ : Addr).add j) = ⟨w.heap.size, 0 + j, none⟩ := by simp [Addr.add]; exact fun h => h.symm
  rw [e, cell_of_row (w.alloc _) w.heap.size (0 + j) _ t (0, 0) (heap_alloc_new _ _), Nat.zero_add]
  simpa using hj

theorem rowTo_all {zs : List (Nat × Nat)} (hz : Right .f32 2047 zs) (a : Nat) : ∀ j, a + j ≤ zs.length → ∀ x ∈ rowTo zs a j, I64 x
  | 0, _ => by intro x hx; cases hx
  | j + 1, h => by
    intro x hx
    rw [rowTo, List.mem_append] at hx
    rcases hx with hx | hx
    · exact rowTo_all hz a j (by omega) x hx
    · obtain ⟨-, -, r3, r4⟩ := hz (a + j) (by omega)
      simp only [List.mem_cons, List.not_mem_nil, or_false] at hx
      rcases hx with rfl | rfl <;> exact ⟨by omega, by omega⟩

theorem three_alloc {w : World} {N : Nat} {a b c : Value} {t : TypeId} (h : w.heap[N]? = some (.cells #[a, b, c] t (0, 0))) (o : Obj) :
    (w.alloc o).cell? ⟨N, 0, none⟩ = some a ∧ (w.alloc o).cell? ⟨N, 1, none⟩ = some b ∧ (w.alloc o).cell? ⟨N, 2, none⟩ = some c := by
  have := three_cells ((Below.heap_alloc _ o _ (lt_of_block h)).trans h)
  exact ⟨this.1, this.2.1, this.2.2.1⟩

/-- numbers that lie in a block made for them -/
theorem Sl.made (w : World) (xs : List Int) (t : TypeId) (h : xs.length ≤ 1000) : Sl (w.alloc (.cells (ivals xs).toArray t)) (.slice (some ⟨w.heap.size, 0, none⟩) (ivals xs).length (ivals xs).length) (ivals xs) := by
  refine ⟨some ⟨w.heap.size, 0, none⟩, (ivals xs).length, rfl, by simp [ivals]; omega, .inr ⟨w.heap.size, 0, rfl, by simp, fun j x hx => ?_⟩⟩
  rw [cell_of_row (w.alloc _) w.heap.size (0 + j) _ t (0, 0) (heap_alloc_new _ _), Nat.zero_add, ← hx]
  simp

end Go.Proofs.Ytadajelonekpmaa
