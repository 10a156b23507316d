import Derived.Test.YtcjdbhcpcigmdaaDoorEd
import Derived.BigRegion
namespace Go.Proofs.YtcjdbhcpcigmdaaDoor
open Go.RowKit Go.Proofs.YtcjdbhcpcigmdaaDoor.Flt

theorem Tryd.info88 : (Tryd.prog.info? 88).map (fun i => (i.zero, i.size, i.bytes)) = some (some (.complex .f64 0 0), 1, 16) := by kernel_rfl

/-- an owned row, read -/
theorem Sl.of_owns {w : World} {base : Nat} {e : TypeId} {v : Value} {n : Nat} {xs : List Value} (h : w.ownsRow base e 1 v n xs) (hn : n ≤ 140737488351232) : Sl w v xs := by
  obtain ⟨h1, h2⟩ := h
  have hl : xs.length = n := by omega
  rcases h2 with ⟨hv, h0⟩ | ⟨g, cap, cur, hv, hb, hh, h3, h4, h5, h6⟩
  · subst hv h0
    have : xs = [] := List.length_eq_zero_iff.1 hl
    exact ⟨none, 0, by rw [this]; rfl, by omega, .inl this⟩
  · refine ⟨some ⟨g, 0, none⟩, cap, by rw [hl]; exact hv, by omega, .inr ⟨g, 0, rfl, ?_, fun j x hx => ?_⟩⟩
    · exact (Array.getElem?_eq_some_iff.1 hh).1
    · rw [cell_of_row w g (0 + j) cur e (0, 0) hh, Nat.zero_add]
      have hj : j < xs.length := by
        rcases Nat.lt_or_ge j xs.length with h | h
        · exact h
        · rw [List.getElem?_eq_none h] at hx; cases hx
      rw [← h6, List.getElem?_take_of_lt (by omega)] at hx
      rw [← hx, Array.getElem?_toList]

section
variable {P : Program} (t : TypeId) (a b : Nat) (w : World)
theorem run_quo_n (hb : 1 ≤ b) (ha : a ≤ 9223372036854775807) : (binOp .quo t (.int .i64 a) (.int .i64 b)).run P w = .ok (.int .i64 ((a / b : Nat) : Int)) w := by
  have h0 : ¬ (b : Int) = 0 := by omega
  have h1 : (a : Int).tdiv b = ((a / b : Nat) : Int) := rfl
  have h2 : IntKind.i64.wrap ((a / b : Nat) : Int) = ((a / b : Nat) : Int) := by
    have h3 := Nat.div_le_self a b
    generalize a / b = q at *
    exact IntWalk.i64_in _ ⟨by omega, by omega⟩
  simp only [binOp, Op.intDiv, if_neg h0, h1, h2]
  rfl
theorem run_rem_n (hb : 1 ≤ b) : (binOp .rem t (.int .i64 a) (.int .i64 b)).run P w = .ok (.int .i64 ((a % b : Nat) : Int)) w := by
  have h0 : ¬ (b : Int) = 0 := by omega
  have h1 : (a : Int).tmod b = ((a % b : Nat) : Int) := rfl
  simp only [binOp, Op.intDiv, if_neg h0, h1]
  rfl
theorem run_mul_n (h : a * b ≤ 9223372036854775807) : (binOp .mul t (.int .i64 a) (.int .i64 b)).run P w = .ok (.int .i64 ((a * b : Nat) : Int)) w := by
  have h2 : IntKind.i64.wrap ((a : Int) * b) = ((a * b : Nat) : Int) := by rw [← Int.natCast_mul]; exact IntWalk.i64_in _ ⟨by omega, by omega⟩
  simp only [binOp, Op.intArith, h2]
  rfl
theorem run_add_n (h : a + b ≤ 9223372036854775807) : (binOp .add t (.int .i64 a) (.int .i64 b)).run P w = .ok (.int .i64 ((a + b : Nat) : Int)) w := by
  have h2 : IntKind.i64.wrap ((a : Int) + b) = ((a + b : Nat) : Int) := by rw [← Int.natCast_add]; exact IntWalk.i64_in _ ⟨by omega, by omega⟩
  simp only [binOp, Op.intArith, h2]
  rfl
end

/-- a block of three cells: what the walk wants of it -/
theorem three_cells {w : World} {N : Nat} {a b c : Value} {t : TypeId} (h : w.heap[N]? = some (.cells #[a, b, c] t (0, 0))) :
    w.cell? ⟨N, 0, none⟩ = some a ∧ w.cell? ⟨N, 1, none⟩ = some b ∧ w.cell? ⟨N, 2, none⟩ = some c ∧ w.frozen? ⟨N, 0, none⟩ = false ∧ w.frozen? ⟨N, 1, none⟩ = false ∧ w.frozen? ⟨N, 2, none⟩ = false ∧ N < w.heap.size :=
  ⟨cell_of_row w N 0 _ t _ h, cell_of_row w N 1 _ t _ h, cell_of_row w N 2 _ t _ h, frozen_of_row w N 0 _ t h, frozen_of_row w N 1 _ t h, frozen_of_row w N 2 _ t h, lt_of_block h⟩

/-- a field of n zeros, new -/
def NewZeros (N : Nat) (l s n : Nat) (w : World) (e : Ending) (w' : World) : Prop :=
  ∃ g, e = .returned (.agg #[.int .i64 l, .int .i64 s, .slice (some ⟨g, 0, none⟩) n n]) ∧ N ≤ g ∧ Below N w w' ∧ w'.ownsRow N 88 1 (.slice (some ⟨g, 0, none⟩) n n) n (List.replicate n (.complex .f64 0 0))

set_option maxRecDepth 100000 in
set_option maxHeartbeats 1000000 in
/-- A NEW FIELD, all zero -/
theorem newField_any (l s : Nat) (hl : l ≤ 64) (hs : s ≤ 64) (w : World) :
    Calls Tryd.prog 87 #[.int .i64 l, .int .i64 s] w (NewZeros w.heap.size l s (l * s) w) := by
  obtain ⟨i0, hi, hz0, hz1, hz2⟩ := info_parts Tryd.info88
  have hp : l * s ≤ 4096 := Nat.le_trans (Nat.mul_le_mul hl hs) (by decide)
  have hm : wrap64 ((l : Int) * s) = ((l * s : Nat) : Int) := by
    rw [IntWalk.wrap64_in]
    · exact (Int.natCast_mul l s).symm
    · rw [← Int.natCast_mul]; omega
  generalize l * s = n at *
  clear hl hs
  go_enter Tryd.func87, Tryd.ntmps87
  go_wp2_with (at_make; refine wpList_make_full _ rfl _ _ 47 rfl w.heap.size 88 i0 (.complex .f64 0 0) 1 Tryd.underlying47 hi hz0 hz1 .i64 .i64 _ _ n rfl rfl ?c1 ?c2 ?c3 ?c4 ?c5 ?_)
  case c1 => first | rfl | exact hm
  case c2 => first | rfl | exact hm
  case c3 => rw [hz2]; omega
  case c4 => unfold maxLen; omega
  case c5 => simp
  intro w1 hown hgrow
  have hN : w1.heap[w.heap.size]? = some (.cells #[.int .i64 0, .int .i64 0, .slice none 0 0] 49 (0, 0)) := by
    rw [hgrow.block _ (by simp) (by simp)]
    exact heap_alloc_new _ _
  obtain ⟨c0, c1, c2, f0, f1, f2, hlt⟩ := three_cells hN
  have hlist : (madeCells #[Value.complex .f64 0 0] n).toList = List.replicate n (.complex .f64 0 0) := toList_madeCells_one _ _
  rw [hlist] at hown
  have HO := Lib.hid hown
  have HB : Below w.heap.size w w1 := ((Below.refl _ _).alloc (Nat.le_refl _) _).grown hgrow (by simp) (by intro k h; cases h)
  have hsz : Hid (w.heap.size < w1.heap.size) := hlt
  clear hown hgrow hlist hN hm hi hz0 hz1 hz2 hlt
  go_wp2_with fail
  refine bodyPost_ret (v := .agg #[.int .i64 l, .int .i64 s, .slice (some ⟨w.heap.size + 1, 0, none⟩) n n]) (by simp [results, Tryd.results87, go_sem, c0, c1, c2]) rfl ⟨w.heap.size + 1, rfl, by omega, ?_, ?_⟩
  · exact ((HB.setCell (Nat.le_refl _) _).setCell (Nat.le_refl _) _).setCell (Nat.le_refl _) _
  · exact ownsRow_setCell_other (ownsRow_setCell_other (ownsRow_setCell_other HO.out (by simp [Value.ownBlock]) _) (by simp [Value.ownBlock]) _) (by simp [Value.ownBlock]) _
end Go.Proofs.YtcjdbhcpcigmdaaDoor
