import Derived.Test.YtmiaglkkjncfnaaDoorNb
import Derived.Laws.AppendOwnNone
import Derived.Test.YtmiaglkkjncfnaaDoorEq
namespace Go.Proofs.YtmiaglkkjncfnaaDoor
open Go.RowKit Go.Proofs.YtmiaglkkjncfnaaDoor.Flt

/-- what lies in the list that is made, behind k rounds -/
def trPart (xs : List Int) (u c : Int) (n k : Nat) : List Value :=
  (List.range n).map fun i => .int .i64 (if i < k then trAt xs u c i else 0)
theorem trPart_len (xs : List Int) (u c : Int) (n k : Nat) : (trPart xs u c n k).length = n := by simp [trPart]
theorem trPart_zero (xs : List Int) (u c : Int) (n : Nat) : trPart xs u c n 0 = List.replicate n (.int .i64 0) := by
  unfold trPart
  exact List.eq_replicate_iff.2 ⟨by simp, by simp⟩
theorem trPart_step (xs : List Int) (u c : Int) (n k : Nat) : (trPart xs u c n k).set k (.int .i64 (trAt xs u c k)) = trPart xs u c n (k + 1) := by
  apply List.ext_getElem
  · simp [trPart]
  · intro i h1 h2
    rw [List.getElem_set]
    simp only [trPart, List.getElem_map, List.getElem_range]
    by_cases h : k = i
    · subst h; rw [if_pos rfl, if_pos (by omega)]
    · rw [if_neg h]
      by_cases h3 : i < k
      · rw [if_pos h3, if_pos (by omega)]
      · rw [if_neg h3, if_neg (by omega)]
theorem trPart_end (xs : List Int) (u c : Int) (n : Nat) (h : xs.length = n) : trPart xs u c n n = ivals (trList xs u c) := by
  unfold trPart trList ivals
  rw [h, List.map_map]
  apply List.map_congr_left
  intro i hi
  have := List.mem_range.1 hi
  simp [this]

theorem prodI_b {a b : Int} (h1 : 0 ≤ a) (h2 : a < 998244353) (h3 : 0 ≤ b) (h4 : b < 998244353) : 0 ≤ a * b ∧ a * b ≤ 996491788296388609 :=
  ⟨Int.mul_nonneg h1 h3, Int.le_trans (Int.mul_le_mul (Int.le_of_lt h2) (Int.le_of_lt h4) h3 (by decide)) (by decide)⟩

structure TrInv (xs : List Int) (u c : Int) (n : Nat) (w : World) (k : Nat) (wr : World) : Prop where
  hb : Below w.heap.size w wr
  ho : wr.ownsRow w.heap.size 3 1 (.slice (some ⟨w.heap.size, 0, none⟩) n n) n (trPart xs u c n k)

theorem TrInv.next {xs : List Int} {u c : Int} {n k : Nat} {w wr : World} (h : TrInv xs u c n w k wr) :
    TrInv xs u c n w (k + 1) (wr.setCell ⟨w.heap.size, k, none⟩ (.int .i64 (trAt xs u c k))) := by
  refine ⟨h.hb.setCell (p := ⟨w.heap.size, k, none⟩) (Nat.le_refl _) _, ?_⟩
  have := (h.ho.stored k (.int .i64 (trAt xs u c k))).1
  rw [trPart_step] at this
  exact this
theorem TrInv.drew {xs : List Int} {u c : Int} {n k : Nat} {w wr : World} (h : TrInv xs u c n w k wr) : TrInv xs u c n w k wr.drew := ⟨h.hb.drew, h.ho⟩

end Go.Proofs.YtmiaglkkjncfnaaDoor

namespace Go.Proofs.YtmiaglkkjncfnaaDoor
open Go.RowKit Go.Proofs.YtmiaglkkjncfnaaDoor.Flt

theorem add_none (b off j : Nat) : (⟨b, off, none⟩ : Addr).add j = ⟨b, off + j, none⟩ := by
  unfold Addr.add
  split
  · rename_i h; subst h; rfl
  · rfl

/-- a nil slice has no room -/
def NilOk (v : Value) : Prop := ∀ n c, v = .slice none n c → c = 0
theorem NilOk.of_owns {w : World} {base : Nat} {e : TypeId} {s : Nat} {v : Value} {n : Nat} {xs : List Value} (h : w.ownsRow base e s v n xs) : NilOk v := by
  intro m c hv
  rcases h.2 with ⟨h1, -⟩ | ⟨g, cap, cur, h1, -⟩
  · rw [hv] at h1; injection h1
  · rw [hv] at h1; injection h1 with h2; cases h2

/-- what a copy of a list is -/
def CopyOk (xs : List Int) (w : World) (e : Ending) (w' : World) : Prop :=
  ∃ v, e = .returned v ∧ Below w.heap.size w w' ∧ w'.ownsRow w.heap.size 3 1 v xs.length (ivals xs)

end Go.Proofs.YtmiaglkkjncfnaaDoor

namespace Go.Proofs.YtmiaglkkjncfnaaDoor
open Go.RowKit Go.Proofs.YtmiaglkkjncfnaaDoor.Flt

/-- the least power of two that the reference comes to -/
def upF (L : Nat) : Nat → Nat → Nat
  | 0, n => n
  | t + 1, n => if n < L ∧ n < 128 then upF L t (2 * n) else n
theorem up_all : ∀ L : Nat, L < 131 → (upF L 7 1 ≠ L ↔ (128 < L ∨ ones 8 L ≠ 1)) := by decide +kernel

end Go.Proofs.YtmiaglkkjncfnaaDoor
