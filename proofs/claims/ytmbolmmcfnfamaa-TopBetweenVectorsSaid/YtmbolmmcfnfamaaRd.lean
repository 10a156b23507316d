import Derived.Test.YtmbolmmcfnfamaaRc
import Derived.Deep.RegionHeld3
import Derived.StillTailTactics
namespace Go.Proofs.Ytmbolmmcfnfamaa.Orb
open Go.RowKit Lib

/-- three errors in a new slice -/
theorem firstError3 (a b c : Int) (W : World) :
    Calls Try.prog 34 #[.slice (some ⟨W.heap.size, 0, none⟩) 3 3] (W.alloc (.cells #[.int .i64 a, .int .i64 b, .int .i64 c] 29)) fun e w' => e = .returned (.int .i64 (firstE [a, b, c])) ∧ (W.alloc (.cells #[.int .i64 a, .int .i64 b, .int .i64 c] 29)) = w' := by
  refine firstError_any W.heap.size 3 [a, b, c] rfl (by decide) _ ?_
  intro k e he
  have hb : (W.alloc (.cells #[.int .i64 a, .int .i64 b, .int .i64 c] 29)).heap[W.heap.size]? = some (.cells #[.int .i64 a, .int .i64 b, .int .i64 c] 29 (0, 0)) := heap_alloc_new _ _
  rw [cell_of_row _ _ _ _ _ _ hb]
  match k, he with
  | 0, he => cases he; rfl
  | 1, he => cases he; rfl
  | 2, he => cases he; rfl
theorem firstError2 (a b : Int) (W : World) :
    Calls Try.prog 34 #[.slice (some ⟨W.heap.size, 0, none⟩) 2 2] (W.alloc (.cells #[.int .i64 a, .int .i64 b] 29)) fun e w' => e = .returned (.int .i64 (firstE [a, b])) ∧ (W.alloc (.cells #[.int .i64 a, .int .i64 b] 29)) = w' := by
  refine firstError_any W.heap.size 2 [a, b] rfl (by decide) _ ?_
  intro k e he
  have hb : (W.alloc (.cells #[.int .i64 a, .int .i64 b] 29)).heap[W.heap.size]? = some (.cells #[.int .i64 a, .int .i64 b] 29 (0, 0)) := heap_alloc_new _ _
  rw [cell_of_row _ _ _ _ _ _ hb]
  match k, he with
  | 0, he => cases he; rfl
  | 1, he => cases he; rfl


theorem lt_of_cell {w : World} {b o : Nat} {v : Value} (h : w.cell? ⟨b, o, none⟩ = some v) : b < w.heap.size := block_lt_of_cell h
theorem keepc {w W : World} (h : Below w.heap.size w W) {b o : Nat} {v : Value} (hc : w.cell? ⟨b, o, none⟩ = some v) : W.cell? ⟨b, o, none⟩ = some v :=
  (h.cell (p := ⟨b, o, none⟩) (lt_of_cell hc)).trans hc
/-- a block that is known whole stays so -/
theorem keepb {w W : World} (h : Below w.heap.size w W) {b : Nat} {o : Obj} (hc : w.heap[b]? = some o) : W.heap[b]? = some o :=
  (h.block _ (lt_of_block hc)).trans hc
theorem trans' {w W W' : World} (h : Below w.heap.size w W) (hb : Below W.heap.size W W') : Below w.heap.size w W' := h.trans (hb.mono h.size)
theorem andThen {w W W' : World} (h : Below w.heap.size w W) (hb : Below W.heap.size W W') : Below w.heap.size w W' := trans' h hb
theorem alloc1 {w W : World} (h : Below w.heap.size w W) (o : Obj) : Below w.heap.size w (W.alloc o) := h.alloc h.size o
theorem setC {w W : World} (h : Below w.heap.size w W) {b o : Nat} (hb : w.heap.size ≤ b) (v : Value) : Below w.heap.size w (W.setCell ⟨b, o, none⟩ v) := h.setCell (p := ⟨b, o, none⟩) hb v
theorem drewN1 {w W : World} (h : Below w.heap.size w W) : ∀ n, Below w.heap.size w (W.drewN n)
  | 0 => h
  | n + 1 => (drewN1 h n).drew
theorem new_below (w : World) (o : Obj) : Below w.heap.size w (w.alloc o) := (Below.refl _ _).alloc (Nat.le_refl _) _

theorem cells3 {W : World} {b : Nat} {x y z : Value} {t : TypeId} (h : W.heap[b]? = some (.cells #[x, y, z] t (0, 0))) :
    W.cell? ⟨b, 0, none⟩ = some x ∧ W.cell? ⟨b, 1, none⟩ = some y ∧ W.cell? ⟨b, 2, none⟩ = some z := by
  refine ⟨?_, ?_, ?_⟩ <;> (rw [cell_of_row _ _ _ _ _ _ h]; rfl)
theorem cells5 {W : World} {b : Nat} {x y z u v : Value} {t : TypeId} (h : W.heap[b]? = some (.cells #[x, y, z, u, v] t (0, 0))) :
    W.cell? ⟨b, 0, none⟩ = some x ∧ W.cell? ⟨b, 1, none⟩ = some y ∧ W.cell? ⟨b, 2, none⟩ = some z ∧ W.cell? ⟨b, 3, none⟩ = some u ∧ W.cell? ⟨b, 4, none⟩ = some v := by
  refine ⟨?_, ?_, ?_, ?_, ?_⟩ <;> (rw [cell_of_row _ _ _ _ _ _ h]; rfl)

/-- a contract that leaves the world alone, as the walk of a head wants it -/
theorem same {f : FuncId} {args : Array Value} {w : World} {v : Value} (h : Calls Try.prog f args w fun e w' => e = .returned v ∧ w = w') : Calls Try.prog f args w fun e w' => e = .returned v ∧ w' = w :=
  h.mono fun _ _ ⟨a, b⟩ => ⟨a, b.symm⟩

/-- a region whose head only reads and calls what leaves the world alone, and whose tail is forced -/
theorem region_tail {P : Program} {id : Nat} {Q : Exit → Act → World → Prop} {a : Act} {w : World} {l : List Oper} (n : Nat) (hm : P.follows .mixedOrders = true) (hB : Region.lexTailB .any l.toArray n = true)
    (h : ∀ W, W = w.drew → wpStill P l.toArray W (fun a' => wpList P l.toArray Q (l.drop n) a' W) (l.take n) a) : (Code.region id l.toArray true).wp P Q a w :=
  wp_region_still_tail n hm hB (h _ rfl)
/-- the block made last, behind a draw -/
theorem made_cells {w W : World} {cs : Array Value} {t : TypeId} (h : W = (w.alloc (.cells cs t)).drew) : W.heap[w.heap.size]? = some (.cells cs t (0, 0)) ∧ Below w.heap.size w W := by
  subst h
  exact ⟨heap_alloc_new w (.cells cs t), ((Below.refl _ _).alloc (Nat.le_refl _) _).drew⟩

set_option maxRecDepth 100000 in
theorem placeError_any (x y z : Int) (w : World) :
    Calls Try.prog 53 #[.agg #[.int .i64 x, .int .i64 y, .int .i64 z]] w fun e w' => e = .returned (.int .i64 (placeE x y z)) ∧ Below w.heap.size w w' := by
  have C1 := Lib.hid (fun W => same (coordinateError_any x W))
  have C2 := Lib.hid (fun W => same (coordinateError_any y W))
  have C3 := Lib.hid (fun W => same (coordinateError_any z W))
  have CF := Lib.hid (fun W => firstError3 (rangeE x (-100000000) 100000000) (rangeE y (-100000000) 100000000) (rangeE z (-100000000) 100000000) W)
  have HR : Hid (placeE x y z = firstE [rangeE x (-100000000) 100000000, rangeE y (-100000000) 100000000, rangeE z (-100000000) 100000000]) := rfl
  generalize placeE x y z = R at *
  rw [← HR.out] at CF
  clear HR
  generalize rangeE x (-100000000) 100000000 = ex at *
  generalize rangeE y (-100000000) 100000000 = ey at *
  generalize rangeE z (-100000000) 100000000 = ez at *
  go_enter Try.func53, Try.ntmps53
  go_wp2_with fail
  refine region_tail 9 (by kernel_rfl) (by kernel_rfl) (fun W hW => ?_)
  simp only [List.take_succ_cons, List.take_zero, List.drop_succ_cons, List.drop_zero]
  obtain ⟨hblk, hbel⟩ := made_cells hW
  have HB := Lib.hid hbel
  obtain ⟨k0, k1, k2⟩ := cells3 hblk
  clear hW hbel hblk
  still_step
  still_step
  still_call (C1.out _)
  still_step
  still_step
  still_call (C2.out _)
  still_step
  still_step
  still_call (C3.out _)
  refine wpStill_nil ?_
  go_wp2_with fail
  refine (CF.out _).mono ?_
  rintro e w1 ⟨rfl, rfl⟩
  go_wp2_with fail
  go_ret
  exact ⟨rfl, HB.out.alloc HB.out.size _⟩

set_option maxRecDepth 100000 in
theorem stateError_any (t x y z u : Int) (w : World) :
    Calls Try.prog 82 #[.agg #[.int .i64 t, .int .i64 x, .int .i64 y, .int .i64 z, .int .i64 u]] w fun e w' => e = .returned (.int .i64 (stE ⟨t, x, y, z, u⟩)) ∧ Below w.heap.size w w' := by
  have CF := Lib.hid (fun W => firstError3 (rangeE t 0 1000000000) (placeE x y z) (rangeE u 0 100000) W)
  have C1 := Lib.hid (fun W => rangeError_any t 0 1000000000 W)
  have C2 := Lib.hid (fun W => placeError_any x y z W)
  have C3 := Lib.hid (fun W => rangeError_any u 0 100000 W)
  have HR : Hid (stE ⟨t, x, y, z, u⟩ = firstE [rangeE t 0 1000000000, placeE x y z, rangeE u 0 100000]) := rfl
  generalize stE ⟨t, x, y, z, u⟩ = R at *
  rw [← HR.out] at CF
  clear HR
  generalize rangeE t 0 1000000000 = ex at *
  generalize rangeE u 0 100000 = ez at *
  generalize placeE x y z = ey at *
  go_enter Try.func82, Try.ntmps82
  go_wp2_with fail
  obtain ⟨W0, hW0⟩ : ∃ W0, W0 = w.alloc (.cells #[.int .i64 t, .int .i64 x, .int .i64 y, .int .i64 z, .int .i64 u] 45) := ⟨_, rfl⟩
  have HB : Hid (Below w.heap.size w W0) := by rw [hW0]; exact new_below _ _
  obtain ⟨k0, k1, k2, k3, k4⟩ := cells5 (W := W0) (b := w.heap.size) (x := .int .i64 t) (y := .int .i64 x) (z := .int .i64 y) (u := .int .i64 z) (v := .int .i64 u) (t := 45) (by rw [hW0]; exact heap_alloc_new _ _)
  rw [← hW0]
  clear hW0
  go_region_held3 (fun W => W.cell? ⟨w.heap.size, 0, none⟩ = some (.int .i64 t) ∧ W.cell? ⟨w.heap.size, 1, none⟩ = some (.int .i64 x) ∧ W.cell? ⟨w.heap.size, 2, none⟩ = some (.int .i64 y) ∧ W.cell? ⟨w.heap.size, 3, none⟩ = some (.int .i64 z) ∧ W.cell? ⟨w.heap.size, 4, none⟩ = some (.int .i64 u)) (with_reducible refine ⟨keepc ?_ k0, keepc ?_ k1, keepc ?_ k2, keepc ?_ k3, keepc ?_ k4⟩ <;> (repeat (first | with_reducible exact Below.refl _ _ | with_reducible refine andThen ?_ hbP | with_reducible refine alloc1 ?_ _ | with_reducible refine Below.drew ?_ | with_reducible refine drewN1 ?_ _ | with_reducible refine setC ?_ (by omega) _)) <;> done)
    (first
      | (go_at_call 58; (with_reducible refine (C1.out _).mono ?_); rintro e w1 ⟨rfl, rfl⟩)
      | (go_at_call 58; (with_reducible refine (C3.out _).mono ?_); rintro e w1 ⟨rfl, rfl⟩)
      | (go_at_call 53; (with_reducible refine (C2.out _).mono ?_); rintro e wP ⟨rfl, hbP⟩)
      | (go_at_call 34; (with_reducible refine (CF.out _).mono ?_); rintro e w1 ⟨rfl, rfl⟩))
  all_goals
    go_wp2_with fail
    go_ret
    exact ⟨rfl, andThen HB.out (by (repeat (first | with_reducible exact Below.refl _ _ | with_reducible refine andThen ?_ hbP | with_reducible refine alloc1 ?_ _ | with_reducible refine Below.drew ?_ | with_reducible refine drewN1 ?_ _ | with_reducible refine setC ?_ (by omega) _)))⟩
end Go.Proofs.Ytmbolmmcfnfamaa.Orb
