import Derived.Test.YtadajelonekpmaaQa
import Derived.Test.YtadajelonekpmaaOa
import Derived.Test.YtadajelonekpmaaOb
import Derived.Deep.Quiet
import Derived.Deep.RegionHeld3
import Derived.StillTailTactics
import Derived.Laws.AppendOwnNone
import Derived.Deep.AppendLies
namespace Go.Proofs.Ytadajelonekpmaa
open Go.RowKit Go.Proofs.Ytadajelonekpmaa.Flt

def zsT : List (Nat × Nat) := [(0, 0), (1065353216, 0), (1065353216, 0), (3212836864, 0), (0, 0)]
def usT : List (Nat × Nat) := [(1065353216, 0), (1065353216, 0), (3212836864, 0)]
def fsT : List (Nat × Nat) := [(0, 0), (4613937818241073152, 0), (0, 0)]
theorem fsT_eq : compList zsT usT 5 3 3 = fsT := by decide +kernel
theorem errT : (dataErr .f32 2047 1 5 zsT).2 = 0 := by decide +kernel
theorem errT2 : (codeErr usT).2 = 0 := by decide +kernel
theorem trT : trList [1, 2] (rootN 2) 1 = [3, 998244352] := by decide +kernel

theorem imageT (W : World) : Calls Try.prog 15 #[.int .i64 1, .int .i64 5, .slice (some ⟨W.heap.size, 0, none⟩) 10 10]
    (W.alloc (.cells #[.float .f32 0, .float .f32 0, .float .f32 1065353216, .float .f32 0, .float .f32 1065353216, .float .f32 0, .float .f32 3212836864, .float .f32 0, .float .f32 0, .float .f32 0] 53)) (ImgGot 1 5 zsT W) :=
  (Image_any 1 5 _ [0, 0, 1065353216, 0, 1065353216, 0, 3212836864, 0, 0, 0] _ (Sl.built W (fvals .f32 [0, 0, 1065353216, 0, 1065353216, 0, 3212836864, 0, 0, 0]) 53 (by decide)) (by decide)).mono
    fun e w' h => ImgGot.of (below_new _ _) (by decide) h

/-- what Compress hands back -/
def FieldGotT (W : World) (e : Ending) (w' : World) : Prop :=
  ∃ g, e = .returned (.tuple #[.agg #[.int .i64 1, .int .i64 3, .slice (some ⟨g, 0, none⟩) 3 3], .int .i64 0]) ∧ Below W.heap.size W w' ∧ Sl w' (.slice (some ⟨g, 0, none⟩) 3 3) (cvals .f64 fsT)
theorem compressT (v : Value) (W : World) (hv : Sl W v (cvals .f32 zsT)) : Calls Try.prog 9 #[.agg #[.int .i64 1, .int .i64 5, v], .slice (some ⟨W.heap.size, 0, none⟩) 3 3]
    (W.alloc (.cells #[.complex .f32 1065353216 0, .complex .f32 1065353216 0, .complex .f32 3212836864 0] 54)) (FieldGotT W) := by
  refine (Compress_ok 1 5 3 v (.slice (some ⟨W.heap.size, 0, none⟩) 3 3) zsT usT _ (hv.below (below_new W _) (Nat.le_refl _)) (Sl.built W (cvals .f32 usT) 54 (by decide)) (by decide) (by decide) (by decide) (by decide) (by decide) (by decide) rfl errT errT2 (by decide)).mono ?_
  rintro e w' ⟨g, rfl, -, hb, ho⟩
  have h1 := below_new W (.cells #[.complex .f32 1065353216 0, .complex .f32 1065353216 0, .complex .f32 3212836864 0] 54)
  rw [show 1 * (5 - 3 + 1) = 3 from rfl, show 5 - 3 + 1 = 3 from rfl, fsT_eq] at ho
  exact ⟨g, rfl, h1.trans (hb.mono h1.size), Sl.of_owns ho (by decide)⟩

/-- a list got -/
def ListGotT (xs : List Int) (W : World) (e : Ending) (w' : World) : Prop := ∃ v, e = .returned (.tuple #[v, .int .i64 0]) ∧ Below W.heap.size W w' ∧ Sl w' v (ivals xs)
theorem transT (W : World) : Calls Try.prog 18 #[.slice (some ⟨W.heap.size, 0, none⟩) 2 2] (W.alloc (.cells #[.int .i64 1, .int .i64 2] 3)) (ListGotT [3, 998244352] W) := by
  have h1 := below_new W (.cells #[.int .i64 1, .int .i64 2] 3)
  refine (Transform_ok _ [1, 2] _ (Sl.built W (ivals [1, 2]) 3 (by decide)) (by decide)).mono ?_
  rintro e w' ⟨v, rfl, hb, ho⟩
  rw [show ([1, 2] : List Int).length = 2 from rfl, trT] at ho
  exact ⟨v, rfl, h1.trans (hb.mono h1.size), Sl.of_owns ho (by decide)⟩

set_option maxRecDepth 100000 in
set_option maxHeartbeats 1000000 in
/-- THE SMALL CHECK OF THE STATEMENTS OVER CHAPTER 1 -/
theorem compressed_any (w : World) : Calls Try.prog 5 #[] w fun e w' => e = .returned (.bool true) ∧ Below w.heap.size w w' := by
  go_enter Try.func5, Try.ntmps5
  go_wp2_with fail
  refine (imageT w).mono ?_
  rintro e w1 ⟨v1, rfl, hb, hs, -⟩
  have HB1 := Lib.hid hb
  have S1 := Lib.hid hs
  clear hb hs
  go_wp2_with fail
  refine (compressT v1 w1 S1.out).mono ?_
  rintro e w2 ⟨g, rfl, hb, hs⟩
  have HB2 := Lib.hid (HB1.out.trans (hb.mono HB1.out.size))
  have S2 := Lib.hid hs
  clear hb hs HB1 S1
  go_wp2_with fail
  obtain ⟨wa, hwa⟩ : ∃ wa, wa = w2.alloc (.cells #[.int .i64 1, .int .i64 3, .slice (some ⟨g, 0, none⟩) 3 3] 34) := ⟨_, rfl⟩
  have F0 : Hid (wa.heap[w2.heap.size]? = some (.cells #[.int .i64 1, .int .i64 3, .slice (some ⟨g, 0, none⟩) 3 3] 34 (0, 0))) := by rw [hwa]; exact heap_alloc_new _ _
  have n2 : Below w2.heap.size w2 wa := by rw [hwa]; exact below_new _ _
  have HBa := Lib.hid (HB2.out.trans (n2.mono HB2.out.size))
  have Sa := Lib.hid (S2.out.below n2 (Nat.le_refl _))
  have hz : wa.heap.size = w2.heap.size + 1 := by rw [hwa]; exact World.size_alloc _ _
  rw [← hwa, ← hz]
  clear hwa hz n2 HB2 S2
  refine (transT wa).mono ?_
  rintro e w4 ⟨v4, rfl, hb, hs⟩
  have HB4 := Lib.hid (HBa.out.trans (hb.mono HBa.out.size))
  have S4 := Lib.hid (Sa.out.below hb (Nat.le_refl _))
  have F4 : Hid (w4.heap[w2.heap.size]? = some (.cells #[.int .i64 1, .int .i64 3, .slice (some ⟨g, 0, none⟩) 3 3] 34 (0, 0))) := (hb.block _ (lt_of_block F0.out)).trans F0.out
  have L4 := Lib.hid hs
  clear hb hs HBa Sa F0
  obtain ⟨c0, c1, c2, -, -, -, l1⟩ := three_cells F4.out
  have CS : Hid (Calls Try.prog 19 #[.slice (some ⟨g, 0, none⟩) 3 3, .slice (some ⟨w4.heap.size, 0, none⟩) 3 3]
      (w4.alloc (.cells #[.complex .f64 0 0, .complex .f64 4613937818241073152 0, .complex .f64 0 0] 43)) fun e w' => e = .returned (.bool true) ∧ Below w4.heap.size w4 w') := by
    have n4 := below_new w4 (.cells #[.complex .f64 0 0, .complex .f64 4613937818241073152 0, .complex .f64 0 0] 43)
    refine (SameSums_true _ _ fsT _ (S4.out.below n4 (Nat.le_refl _)) (Sl.built w4 (cvals .f64 fsT) 43 (by decide))).mono ?_
    rintro e w' ⟨rfl, q, rfl⟩
    exact ⟨rfl, n4.trans (below_drewN' _ _ q)⟩
  clear S4 F4
  go_wp2_with fail
  refine CS.out.mono ?_
  rintro e w7 ⟨rfl, hb⟩
  have HB7 := Lib.hid (HB4.out.trans (hb.mono HB4.out.size))
  have L7 := Lib.hid (L4.out.below hb (Nat.le_refl _))
  clear hb HB4 L4 CS c0 c1 c2 l1
  have CI : Hid (Calls Try.prog 20 #[v4, .slice (some ⟨w7.heap.size, 0, none⟩) 2 2] (w7.alloc (.cells #[.int .i64 3, .int .i64 998244352] 3)) fun e w' => e = .returned (.bool true) ∧ Below w7.heap.size w7 w') := by
    have n7 := below_new w7 (.cells #[.int .i64 3, .int .i64 998244352] 3)
    refine (Ints_true _ _ [3, 998244352] _ (L7.out.below n7 (Nat.le_refl _)) (Sl.built w7 (ivals [3, 998244352]) 3 (by decide))).mono ?_
    rintro e w' ⟨rfl, q, rfl⟩
    exact ⟨rfl, n7.trans (below_drewN' _ _ q)⟩
  clear L7
  go_wp2_with fail
  refine CI.out.mono ?_
  rintro e w8 ⟨rfl, hb⟩
  have HB8 := Lib.hid (HB7.out.trans (hb.mono HB7.out.size))
  clear hb HB7 CI
  go_wp2_with fail
  go_ret
  exact ⟨rfl, HB8.out⟩
end Go.Proofs.Ytadajelonekpmaa

/-! Pieces for regions that draw their order: as in the texts of orbit, for a seat that has none of them. -/
namespace Go.Proofs.Ytadajelonekpmaa.Orb
open Go.RowKit Lib

theorem lt_of_cell {w : World} {b o : Nat} {v : Value} (h : w.cell? ⟨b, o, none⟩ = some v) : b < w.heap.size := block_lt_of_cell h
theorem keepc {w W : World} (h : Below w.heap.size w W) {b o : Nat} {v : Value} (hc : w.cell? ⟨b, o, none⟩ = some v) : W.cell? ⟨b, o, none⟩ = some v :=
  (h.cell (p := ⟨b, o, none⟩) (lt_of_cell hc)).trans hc
/-- a block that is known whole stays so -/
theorem keepb {w W : World} (h : Below w.heap.size w W) {b : Nat} {o : Obj} (hc : w.heap[b]? = some o) : W.heap[b]? = some o :=
  (h.block _ (lt_of_block hc)).trans hc
theorem trans' {w W W' : World} (h : Below w.heap.size w W) (hb : Below W.heap.size W W') : Below w.heap.size w W' := h.trans (hb.mono h.size)
theorem andThen {w W W' : World} (h : Below w.heap.size w W) (hb : Below W.heap.size W W') : Below w.heap.size w W' := trans' h hb
theorem alloc1 {w W : World} (h : Below w.heap.size w W) (o : Obj) : Below w.heap.size w (W.alloc o) := h.alloc h.size o
theorem setC {w W : World} (h : Below w.heap.size w W) {b o : Nat} (hb : w.heap.size ≤ b) (v : Value) : Below w.heap.size w (W.setCell ⟨b, o, none⟩ v) := h.setCell (p := ⟨b, o, none⟩) hb v
theorem drewN1 {w W : World} (h : Below w.heap.size w W) : ∀ n, Below w.heap.size w (W.drewN n)
  | 0 => h
  | n + 1 => (drewN1 h n).drew
theorem new_below (w : World) (o : Obj) : Below w.heap.size w (w.alloc o) := (Below.refl _ _).alloc (Nat.le_refl _) _

theorem cells3 {W : World} {b : Nat} {x y z : Value} {t : TypeId} (h : W.heap[b]? = some (.cells #[x, y, z] t (0, 0))) :
    W.cell? ⟨b, 0, none⟩ = some x ∧ W.cell? ⟨b, 1, none⟩ = some y ∧ W.cell? ⟨b, 2, none⟩ = some z := by
  refine ⟨?_, ?_, ?_⟩ <;> (rw [cell_of_row _ _ _ _ _ _ h]; rfl)
/-- the block made last, behind a draw -/
theorem made_cells {w W : World} {cs : Array Value} {t : TypeId} (h : W = (w.alloc (.cells cs t)).drew) : W.heap[w.heap.size]? = some (.cells cs t (0, 0)) ∧ Below w.heap.size w W := by
  subst h
  exact ⟨heap_alloc_new w (.cells cs t), ((Below.refl _ _).alloc (Nat.le_refl _) _).drew⟩

theorem free3 {W : World} {b : Nat} {cs : Array Value} {t : TypeId} (h : W.heap[b]? = some (.cells cs t (0, 0))) : W.frozen? ⟨b, 0, none⟩ = false ∧ W.frozen? ⟨b, 1, none⟩ = false ∧ W.frozen? ⟨b, 2, none⟩ = false :=
  ⟨frozen_of_row W b 0 cs t h, frozen_of_row W b 1 cs t h, frozen_of_row W b 2 cs t h⟩

/-- three cells of another block are written -/
theorem set_block {w : World} {b i : Nat} {cs : Array Value} {u : Value} {t : TypeId} (h : w.heap[b]? = some (.cells cs t (0, 0))) : (w.setCell ⟨b, i, none⟩ u).heap[b]? = some (.cells (cs.setIfInBounds i u) t (0, 0)) := by
  have hlt := lt_of_block h
  have h' : w.heap[b] = .cells cs t (0, 0) := by simpa [Array.getElem?_eq_getElem hlt] using h
  show (w.heap.modify b _)[b]? = _
  rw [Array.getElem?_eq_getElem (by simpa using hlt), Array.getElem_modify_self, h']
  rfl
def upd (l : Nat → Bool) (i k : Nat) : Bool := if k = i then true else l k
/-- what an operation waits for lies ahead of it -/
def upB (ops : Array Oper) : Bool := (List.range ops.size).all fun i => ((ops[i]?).map fun o => o.after.all fun e => !Region.binds .any e || decide (e.on < i)).getD true

theorem count_set_true (l : List Bool) (i : Nat) (h : l[i]? = some false) : (l.set i true).count false + 1 = l.count false := by
  induction l generalizing i with
  | nil => cases h
  | cons x xs ih =>
    cases i with
    | zero =>
      simp at h
      subst h
      simp
    | succ i =>
      have := ih i (by simpa using h)
      cases x <;> simp [List.set] <;> omega

theorem all_listed {ops : Array Oper} {listed : Array Bool} (hA : upB ops = true) (hr : Region.ready .any ops listed = []) : ∀ n, n ≤ ops.size → ∀ i, i < n → listed.getD i true = true := by
  intro n
  induction n with
  | zero => intro _ i hi; cases hi
  | succ n ih =>
    intro hn i hi
    have ih := ih (by omega)
    rcases Nat.lt_succ_iff_lt_or_eq.1 hi with h | h
    · exact ih i h
    · subst h
      cases hg : listed.getD i true with
      | true => rfl
      | false =>
        have hlt : i < ops.size := by omega
        obtain ⟨o, ho⟩ : ∃ o, ops[i]? = some o := ⟨ops[i], by simp [hlt]⟩
        have hm : i ∈ Region.ready .any ops listed := by
          refine mem_ready.2 ⟨hg, o, ho, fun e he hb => ?_⟩
          unfold upB at hA
          rw [List.all_eq_true] at hA
          have h2 := hA i (List.mem_range.2 hlt)
          rw [ho] at h2
          simp only [Option.map_some, Option.getD_some, Array.all_eq_true_iff_forall_mem] at h2
          have h3 := h2 e he
          rw [hb] at h3
          simp at h3
          have h4 := ih e.on h3
          rcases Nat.lt_or_ge e.on listed.size with h5 | h5
          · rw [Array.getD_eq_getD_getElem?] at h4 ⊢
            simpa [h5] using h4
          · exact absurd hg (by rw [Array.getD_eq_getD_getElem?, Array.getElem?_eq_none (by omega)]; simp)
        rw [hr] at hm
        cases hm

/-- A REGION THAT DRAWS ITS ORDER, by what holds when some operations have come up (J), an operation at a time -/
theorem region_inv {P : Program} {ops : Array Oper} {id : Nat} {Q : Exit → Act → World → Prop} {a : Act} {w : World} (J : (Nat → Bool) → Act → World → Prop) (hm : P.follows .mixedOrders = true) (hA : upB ops = true)
    (h0 : J (fun _ => false) a w.drew)
    (hstep : ∀ i o, ops[i]? = some o → ∀ l a w, (∀ e ∈ o.after, Region.binds .any e = true → l e.on = true) → l i = false → J l a w → if Region.wanted o (yielded ops a.tmps) then o.wp P a w (J (upd l i)) Q else J (upd l i) (a.put o.dst undef) w)
    (hend : ∀ l a w, (∀ i, i < ops.size → l i = true) → J l a w → Q .normal a w) : (Code.region id ops true).wp P Q a w := by
  have key : ∀ (fuel : Nat) (listed : Array Bool) (a : Act) (w : World), listed.size = ops.size → listed.toList.count false ≤ fuel → J (fun k => listed.getD k false) a w → wpAny P .any ops Q fuel listed a w := by
    have hall : ∀ listed : Array Bool, listed.size = ops.size → Region.ready .any ops listed = [] → ∀ i, i < ops.size → listed.getD i false = true := by
      intro listed hs hr i hi
      have := all_listed hA hr ops.size (Nat.le_refl _) i hi
      rw [Array.getD_eq_getD_getElem?] at this ⊢
      simpa [show i < listed.size by omega] using this
    intro fuel
    induction fuel with
    | zero =>
      intro listed a w hs hc hJ
      have hr : Region.ready .any ops listed = [] := by
        rw [List.eq_nil_iff_forall_not_mem]
        intro j hj
        obtain ⟨h1, o, ho, -⟩ := mem_ready.1 hj
        have hlt : j < listed.size := by rw [hs]; exact (Array.getElem?_eq_some_iff.1 ho).1
        have h2 : listed.toList[j]? = some false := by
          rw [Array.getD_eq_getD_getElem?] at h1
          simp [hlt] at h1 ⊢
          exact h1
        have := count_set_true _ _ h2
        omega
      exact ⟨hr, hend _ _ _ (hall listed hs hr) hJ⟩
    | succ fuel ih =>
      intro listed a w hs hc hJ
      refine ⟨fun hr => hend _ _ _ (hall listed hs hr) hJ, fun i hi => ?_⟩
      obtain ⟨h1, o, ho, h2⟩ := mem_ready.1 hi
      have hlt : i < listed.size := by rw [hs]; exact (Array.getElem?_eq_some_iff.1 ho).1
      have h3 : listed.toList[i]? = some false := by
        rw [Array.getD_eq_getD_getElem?] at h1
        simp [hlt] at h1 ⊢
        exact h1
      have hn : ∀ a w, J (upd (fun k => listed.getD k false) i) a w → wpAny P .any ops Q fuel (listed.setIfInBounds i true) a w := by
        intro a w hJ'
        refine ih _ _ _ (by simpa using hs) ?_ ?_
        · have := count_set_true _ _ h3
          rw [Array.toList_setIfInBounds]
          omega
        · have : (fun k => (listed.setIfInBounds i true).getD k false) = upd (fun k => listed.getD k false) i := by
            funext k
            unfold upd
            simp only [Array.getD_eq_getD_getElem?, Array.getElem?_setIfInBounds]
            by_cases hk : k = i
            · subst hk; simp [hlt]
            · rw [if_neg (fun h => hk h.symm), if_neg hk]
          rw [this]
          exact hJ'
      have hs' := hstep i o ho _ a w (fun e he hb => h2 e he hb) (by rw [Array.getD_eq_getD_getElem?] at h1 ⊢; simpa [hlt] using h1) hJ
      unfold wpOp
      simp only [ho]
      split
      · rename_i hw
        rw [if_pos hw] at hs'
        exact .inl (Oper.wp_mono hn hs')
      · rename_i hw
        rw [if_neg hw] at hs'
        exact hn _ _ hs'
  refine wp_region_any hm (key ops.size _ a _ (by simp) ?_ ?_)
  · simp
  · have : (fun k => (Array.replicate ops.size false).getD k false) = fun _ => false := by
      funext k
      rw [Array.getD_eq_getD_getElem?, Array.getElem?_replicate]
      split <;> rfl
    rw [this]
    exact h0

/-- the frame with the values of a region's operations -/
def putAll : Nat → List Oper → (Nat → Value) → Act → Act
  | _, [], _, a => a
  | k, o :: l, y, a => putAll (k + 1) l y (a.put o.dst (y k))
def updV (y : Nat → Value) (i : Nat) (v : Value) (k : Nat) : Value := if k = i then v else y k
/-- for each operation of a list, with its number -/
def Steps (F : Nat → Oper → Prop) : Nat → List Oper → Prop
  | _, [] => True
  | k, o :: l => F k o ∧ Steps F (k + 1) l
theorem steps_all {F : Nat → Oper → Prop} : ∀ (l : List Oper) (k : Nat), Steps F k l → ∀ i o, l[i]? = some o → F (k + i) o
  | [], _, _, i, o, h => by simp at h
  | x :: l, k, hs, 0, o, h => by simp at h; subst h; exact hs.1
  | x :: l, k, hs, i + 1, o, h => by
    have := steps_all l (k + 1) hs.2 i o (by simpa using h)
    rwa [show k + 1 + i = k + (i + 1) by omega] at this
theorem wp_val {P : Program} {o : Oper} {a : Act} {w : World} {K : Act → World → Prop} {Q : Exit → Act → World → Prop} (v : Value) (h : o.quietAt P a (fun w' => Below w.heap.size w w') w v) (hk : ∀ w', Below w.heap.size w w' → K (a.put o.dst v) w') : o.wp P a w K Q := by
  unfold Oper.quietAt at h
  unfold Oper.wp
  generalize (execOp a.eval o).run P w = r at *
  cases r with
  | ok n w' =>
    cases n <;> simp only [Oper.quietUpon] at h <;> simp only [Oper.upon]
    case value u =>
      obtain ⟨e1, e2⟩ := h
      rw [e1, e2]
      exact hk _ (Below.refl _ _)
    case skip =>
      obtain ⟨e1, e2⟩ := h
      rw [e1, ← e2]
      exact hk _ (Below.refl _ _)
    case enter f args =>
      obtain ⟨e1, hc⟩ := h
      rw [e1]
      exact hc.mono fun e w'' ⟨he, hw''⟩ => by subst he; exact hk _ hw''
  | halt x w' => simp only [Oper.quietUpon] at h

/-- what follows behind an operation -/
def Goes (ops : List Oper) (a : Act) (I : (Nat → Bool) → (Nat → Value) → World → Prop) (l : Nat → Bool) (K : Act → World → Prop) : Prop := ∀ a' w' y', a' = putAll 0 ops y' a → I l y' w' → K a' w'
def Deps (o : Oper) (l : Nat → Bool) : Prop := ∀ e ∈ o.after, Region.binds .any e = true → l e.on = true
theorem dep_of {o : Oper} {l : Nat → Bool} (hd : Deps o l) (j : Nat) (h : (o.after.any fun e => e.on == j && Region.binds .any e) = true) : l j = true := by
  rw [Array.any_eq_true] at h
  obtain ⟨i, hi, h⟩ := h
  simp only [Bool.and_eq_true, beq_iff_eq] at h
  have := hd _ (Array.getElem_mem hi) h.2
  rwa [h.1] at this
/-- one operation: what is asked -/
def StepF (P : Program) (ops : List Oper) (a : Act) (I : (Nat → Bool) → (Nat → Value) → World → Prop) (Q : Exit → Act → World → Prop) (i : Nat) (o : Oper) : Prop :=
  ∀ (l : Nat → Bool) (y : Nat → Value) (w : World) (K : Act → World → Prop), Deps o l → l i = false → I l y w → Goes ops a I (upd l i) K → if Region.wanted o (yielded ops.toArray (putAll 0 ops y a).tmps) then o.wp P (putAll 0 ops y a) w K Q else K ((putAll 0 ops y a).put o.dst undef) w
/-- A REGION THAT DRAWS ITS ORDER, by what holds of the values y of the operations that have come up (l), and of the world -/
theorem region_vals {P : Program} {ops : List Oper} {id : Nat} {Q : Exit → Act → World → Prop} {a : Act} {w : World} (I : (Nat → Bool) → (Nat → Value) → World → Prop) (y0 : Nat → Value) (hm : P.follows .mixedOrders = true) (hA : upB ops.toArray = true)
    (ha : a = putAll 0 ops y0 a) (h0 : I (fun _ => false) y0 w.drew)
    (hstep : Steps (StepF P ops a I Q) 0 ops)
    (hend : ∀ l y w, (∀ i, i < ops.length → l i = true) → I l y w → Q .normal (putAll 0 ops y a) w) : (Code.region id ops.toArray true).wp P Q a w := by
  refine region_inv (fun l a' w' => ∃ y, a' = putAll 0 ops y a ∧ I l y w') hm hA ⟨y0, ha, h0⟩ ?_ ?_
  · intro i o ho l a' w' hd hn hJ
    obtain ⟨y, rfl, hI⟩ := hJ
    have := steps_all _ _ hstep i o (by simpa using ho)
    rw [Nat.zero_add] at this
    exact this l y w' _ hd hn hI fun a'' w'' y' h1 h2 => ⟨y', h1, h2⟩
  · intro l a' w' hl hJ
    obtain ⟨y, rfl, hI⟩ := hJ
    exact hend l y w' (fun i hi => hl i (by simpa using hi)) hI
section
variable {P : Program} {ops : List Oper} {Q : Exit → Act → World → Prop} {a : Act} {I : (Nat → Bool) → (Nat → Value) → World → Prop} {k k' : Nat} {o : Oper} {rest : List Oper}
/-- a value -/
theorem Steps.val (v : Value) (hk : k' = k + 1) (hw : ∀ y, Region.wanted o (yielded ops.toArray (putAll 0 ops y a).tmps) = true) (hput : ∀ y, (putAll 0 ops y a).put o.dst v = putAll 0 ops (updV y k v) a)
    (h : ∀ l y w, Deps o l → I l y w → o.quietAt P (putAll 0 ops y a) (fun w' => Below w.heap.size w w') w v) (hI : ∀ l y w w', I l y w → Below w.heap.size w w' → I (upd l k) (updV y k v) w')
    (hs : Steps (StepF P ops a I Q) k' rest) : Steps (StepF P ops a I Q) k (o :: rest) := by
  subst hk
  refine ⟨fun l y w K hd hn hi hK => ?_, hs⟩
  rw [if_pos (hw y)]
  exact wp_val v (h l y w hd hi) fun w' hb => hK _ _ _ (hput y) (hI l y w w' hi hb)
/-- an operation of its own: a block that is made (v: its pointer) -/
theorem Steps.own (hk : k' = k + 1) (hw : ∀ y, Region.wanted o (yielded ops.toArray (putAll 0 ops y a).tmps) = true) (hput : ∀ y v, (putAll 0 ops y a).put o.dst v = putAll 0 ops (updV y k v) a)
    (h : ∀ l y w, Deps o l → l k = false → I l y w → ∃ v w', (execOp (putAll 0 ops y a).eval o).run P w = .ok (.value v) w' ∧ I (upd l k) (updV y k v) w')
    (hs : Steps (StepF P ops a I Q) k' rest) : Steps (StepF P ops a I Q) k (o :: rest) := by
  subst hk
  refine ⟨fun l y w K hd hn hi hK => ?_, hs⟩
  rw [if_pos (hw y)]
  obtain ⟨v, w', hr, hI⟩ := h l y w hd hn hi
  unfold Oper.wp
  rw [hr]
  exact hK _ _ _ (hput y v) hI
/-- a store -/
theorem Steps.sto (hk : k' = k + 1) (hw : ∀ y, Region.wanted o (yielded ops.toArray (putAll 0 ops y a).tmps) = true) (hd0 : o.dst = none)
    (h : ∀ l y w, Deps o l → I l y w → ∃ w', (execOp (putAll 0 ops y a).eval o).run P w = .ok .skip w' ∧ I (upd l k) y w')
    (hs : Steps (StepF P ops a I Q) k' rest) : Steps (StepF P ops a I Q) k (o :: rest) := by
  subst hk
  refine ⟨fun l y w K hd hn hi hK => ?_, hs⟩
  rw [if_pos (hw y)]
  obtain ⟨w', hr, hI⟩ := h l y w hd hi
  unfold Oper.wp
  rw [hr]
  exact hK _ _ y (by rw [hd0]; rfl) hI
/-- passed over -/
theorem Steps.pass (hk : k' = k + 1) (hw : ∀ y, Region.wanted o (yielded ops.toArray (putAll 0 ops y a).tmps) = false) (hput : ∀ y, (putAll 0 ops y a).put o.dst undef = putAll 0 ops (updV y k undef) a)
    (hI : ∀ l y w, I l y w → I (upd l k) (updV y k undef) w) (hs : Steps (StepF P ops a I Q) k' rest) : Steps (StepF P ops a I Q) k (o :: rest) := by
  subst hk
  refine ⟨fun l y w K hd hn hi hK => ?_, hs⟩
  rw [if_neg (by rw [hw y]; exact Bool.false_ne_true)]
  exact hK _ _ _ (hput y) (hI l y w hi)
end

/-- a slot points at a block of a region's own -/
def OwnB (T : TypeId) (n base : Nat) (p : Value) (W : World) : Prop := ∃ b, p = .pointer (some ⟨b, 0, none⟩) ∧ base ≤ b ∧ ∃ cs : Array Value, cs.size = n ∧ W.heap[b]? = some (.cells cs T (0, 0))
def HasC (T : TypeId) (cs : Array Value) (p : Value) (W : World) : Prop := ∃ b, p = .pointer (some ⟨b, 0, none⟩) ∧ W.heap[b]? = some (.cells cs T (0, 0))
theorem OwnB.next {T : TypeId} {n base : Nat} {p : Value} {W W' : World} (h : OwnB T n base p W) (hb : Below W.heap.size W W') : OwnB T n base p W' := by
  obtain ⟨b, e, hle, cs, hs, hc⟩ := h
  exact ⟨b, e, hle, cs, hs, keepb hb hc⟩
theorem HasC.next {T : TypeId} {cs : Array Value} {p : Value} {W W' : World} (h : HasC T cs p W) (hb : Below W.heap.size W W') : HasC T cs p W' := by
  obtain ⟨b, e, hc⟩ := h
  exact ⟨b, e, keepb hb hc⟩
theorem OwnB.ne_new {T : TypeId} {n base : Nat} {p : Value} {W : World} (h : OwnB T n base p W) : p ≠ .pointer (some ⟨W.heap.size, 0, none⟩) := by
  obtain ⟨b, e, hle, cs, hs, hc⟩ := h
  intro he
  rw [e] at he
  injection he with he
  injection he with he
  injection he with he
  have := lt_of_block hc
  omega
theorem Steps.nil {F : Nat → Oper → Prop} {k : Nat} : Steps F k [] := True.intro
theorem set_other {W : World} {b a i : Nat} {v : Value} {o : Obj} (hne : b ≠ a) (h : W.heap[b]? = some o) : (W.setCell ⟨a, i, none⟩ v).heap[b]? = some o :=
  (Below.heap_setCell _ _ _ _ hne).trans h
theorem OwnB.set {T : TypeId} {n base : Nat} {p : Value} {W : World} (h : OwnB T n base p W) (a i : Nat) (v : Value) : OwnB T n base p (W.setCell ⟨a, i, none⟩ v) := by
  obtain ⟨b, e, hle, cs, hs, hc⟩ := h
  by_cases hb : b = a
  · subst hb
    exact ⟨b, e, hle, _, by simpa using hs, set_block hc⟩
  · exact ⟨b, e, hle, cs, hs, set_other hb hc⟩
theorem HasC.set {T : TypeId} {cs : Array Value} {p : Value} {W : World} (h : HasC T cs p W) {a : Nat} (hne : p ≠ .pointer (some ⟨a, 0, none⟩)) (i : Nat) (v : Value) : HasC T cs p (W.setCell ⟨a, i, none⟩ v) := by
  obtain ⟨b, e, hc⟩ := h
  refine ⟨b, e, set_other (fun hb => hne ?_) hc⟩
  rw [e, hb]
theorem three_of {cs : Array Value} (h : cs.size = 3) : ∃ c0 c1 c2, cs = #[c0, c1, c2] := by
  obtain ⟨l⟩ := cs
  match l, h with
  | [a, b, c], _ => exact ⟨a, b, c, rfl⟩
/-- what the slots of a region's operations hold ahead of it -/
def y0of (ops : List Oper) (a : Act) (i : Nat) : Value := (((ops[i]?).bind fun o => o.dst).map fun d => (a.tmps[d]?).getD undef).getD undef
theorem region_vals2 {P : Program} {ops : List Oper} {id : Nat} {Q : Exit → Act → World → Prop} {a : Act} {w : World} (I : (Nat → Bool) → (Nat → Value) → World → Prop) (hm : P.follows .mixedOrders = true) (hA : upB ops.toArray = true)
    (ha : a = putAll 0 ops (y0of ops a) a) (h0 : ∀ y, I (fun _ => false) y w.drew)
    (hstep : Steps (StepF P ops a I Q) 0 ops)
    (hend : ∀ l y w, (∀ i, i < ops.length → l i = true) → I l y w → Q .normal (putAll 0 ops y a) w) : (Code.region id ops.toArray true).wp P Q a w :=
  region_vals I (y0of ops a) hm hA ha (h0 _) hstep hend
section
variable {P : Program} {ops : List Oper} {Q : Exit → Act → World → Prop} {a : Act} {I : (Nat → Bool) → (Nat → Value) → World → Prop} {k k' : Nat} {o : Oper} {rest : List Oper}
/-- any operation, by its own law: v is its result -/
theorem Steps.gen (hk : k' = k + 1) (hw : ∀ y, Region.wanted o (yielded ops.toArray (putAll 0 ops y a).tmps) = true) (hput : ∀ y v, (putAll 0 ops y a).put o.dst v = putAll 0 ops (updV y k v) a)
    (h : ∀ l y w (K : Act → World → Prop), Deps o l → l k = false → I l y w → (∀ v w', I (upd l k) (updV y k v) w' → K ((putAll 0 ops y a).put o.dst v) w') → o.wp P (putAll 0 ops y a) w K Q)
    (hs : Steps (StepF P ops a I Q) k' rest) : Steps (StepF P ops a I Q) k (o :: rest) := by
  subst hk
  refine ⟨fun l y w K hd hn hi hK => ?_, hs⟩
  rw [if_pos (hw y)]
  exact h l y w K hd hn hi fun v w' hI => hK _ _ _ (hput y v) hI
/-- a value that hangs on what the others are -/
theorem Steps.gval (hk : k' = k + 1) (hw : ∀ y, Region.wanted o (yielded ops.toArray (putAll 0 ops y a).tmps) = true) (hput : ∀ y v, (putAll 0 ops y a).put o.dst v = putAll 0 ops (updV y k v) a)
    (h : ∀ l y w, Deps o l → l k = false → I l y w → ∃ v, o.quietAt P (putAll 0 ops y a) (fun w' => Below w.heap.size w w') w v ∧ ∀ w', Below w.heap.size w w' → I (upd l k) (updV y k v) w')
    (hs : Steps (StepF P ops a I Q) k' rest) : Steps (StepF P ops a I Q) k (o :: rest) := by
  subst hk
  refine ⟨fun l y w K hd hn hi hK => ?_, hs⟩
  rw [if_pos (hw y)]
  obtain ⟨v, hq, hI⟩ := h l y w hd hn hi
  exact wp_val v hq fun w' hb => hK _ _ _ (hput y v) (hI w' hb)
/-- a store that has not come up -/
theorem Steps.sto' (hk : k' = k + 1) (hw : ∀ y, Region.wanted o (yielded ops.toArray (putAll 0 ops y a).tmps) = true) (hd0 : o.dst = none)
    (h : ∀ l y w, Deps o l → l k = false → I l y w → ∃ w', (execOp (putAll 0 ops y a).eval o).run P w = .ok .skip w' ∧ I (upd l k) y w')
    (hs : Steps (StepF P ops a I Q) k' rest) : Steps (StepF P ops a I Q) k (o :: rest) := by
  subst hk
  refine ⟨fun l y w K hd hn hi hK => ?_, hs⟩
  rw [if_pos (hw y)]
  obtain ⟨w', hr, hI⟩ := h l y w hd hn hi
  unfold Oper.wp
  rw [hr]
  exact hK _ _ y (by rw [hd0]; rfl) hI
end
/-- an operation that calls a function -/
theorem wp_enter {P : Program} {o : Oper} {a : Act} {w : World} {K : Act → World → Prop} {Q : Exit → Act → World → Prop} (f : FuncId) (args : Array Value) (he : (execOp a.eval o).run P w = .ok (.enter f args) w) (hc : Calls P f args w fun e w' => ∃ v, e = .returned v ∧ K (a.put o.dst v) w') : o.wp P a w K Q := by
  unfold Oper.wp
  rw [he]
  exact hc.mono fun e w'' ⟨v, he, hk⟩ => by subst he; exact hk
end Go.Proofs.Ytadajelonekpmaa.Orb

namespace Go.Proofs.Ytadajelonekpmaa
open Go.RowKit Go.Proofs.Ytadajelonekpmaa.Flt

/-! What the loop of TopFocusLinear works on: three images, by their number. -/
def Lf (a b c : Int) : Nat → Int
  | 0 => a
  | 1 => b
  | _ => c
def Zf (a b c : List (Nat × Nat)) : Nat → List (Nat × Nat)
  | 0 => a
  | 1 => b
  | _ => c
def Vf (a b c : Value) : Nat → Value
  | 0 => a
  | 1 => b
  | _ => c
/-- the three images in their slice -/
structure Imgs (L S : Nat → Int) (Z : Nat → List (Nat × Nat)) (b : Nat) (V : Nat → Value) (W : World) : Prop where
  blk : W.heap[b]? = some (.cells #[.int .i64 (L 0), .int .i64 (S 0), V 0, .int .i64 (L 1), .int .i64 (S 1), V 1, .int .i64 (L 2), .int .i64 (S 2), V 2] 29 (0, 0))
  s0 : Smp .f32 (Z 0) W (V 0)
  s1 : Smp .f32 (Z 1) W (V 1)
  s2 : Smp .f32 (Z 2) W (V 2)
theorem Imgs.next {L S : Nat → Int} {Z : Nat → List (Nat × Nat)} {b : Nat} {V : Nat → Value} {W W' : World} (h : Imgs L S Z b V W) (hb : Below W.heap.size W W') : Imgs L S Z b V W' :=
  ⟨(hb.block _ (lt_of_block h.blk)).trans h.blk, h.s0.below hb, h.s1.below hb, h.s2.below hb⟩
theorem lt3 {p : Nat → Prop} (h0 : p 0) (h1 : p 1) (h2 : p 2) : ∀ k, k < 3 → p k
  | 0, _ => h0
  | 1, _ => h1
  | 2, _ => h2
  | k + 3, h => absurd h (by omega)
theorem Imgs.at {L S : Nat → Int} {Z : Nat → List (Nat × Nat)} {b : Nat} {V : Nat → Value} {W : World} (h : Imgs L S Z b V W) : ∀ k, k < 3 →
    W.cell? ⟨b, k * 3, none⟩ = some (.int .i64 (L k)) ∧ W.cell? ⟨b, k * 3 + 1, none⟩ = some (.int .i64 (S k)) ∧ W.cell? ⟨b, k * 3 + 2, none⟩ = some (V k) ∧ Smp .f32 (Z k) W (V k) := by
  refine lt3 ⟨?_, ?_, ?_, h.s0⟩ ⟨?_, ?_, ?_, h.s1⟩ ⟨?_, ?_, ?_, h.s2⟩ <;> (rw [cell_of_row _ _ _ _ _ _ h.blk]; rfl)

/-- samples whose slice tells a room -/
structure SmpK (zs : List (Nat × Nat)) (W : World) (v : Value) : Prop where
  smp : Smp .f32 zs W v
  cap : ∀ a m c, v = .slice a m c → m ≤ c ∧ c ≤ 9223372036854775807
  nil : ∀ m c, v = .slice none m c → m = 0 ∧ c = 0
theorem SmpK.next {zs : List (Nat × Nat)} {W W' : World} {v : Value} (h : SmpK zs W v) (hb : Below W.heap.size W W') : SmpK zs W' v := ⟨h.smp.below hb, h.cap, h.nil⟩

/-- what the calls of the loop answer, by number -/
structure TfD where
  lx : Nat → Int
  sx : Nat → Int
  X : Nat → List (Nat × Nat)
  EX : Nat → Int
  ly : Nat → Int
  sy : Nat → Int
  Y : Nat → List (Nat × Nat)
  EY : Nat → Int
structure TfD.Ok (D : TfD) (L S : Nat → Int) (Z : Nat → List (Nat × Nat)) (us vs : List (Nat × Nat)) : Prop where
  c : ∀ k, k < 3 → ∀ W v u, Smp .f32 (Z k) W v → Smp .f32 us W u → Calls Try.prog 9 #[.agg #[.int .i64 (L k), .int .i64 (S k), v], u] W (FieldE (D.lx k) (D.sx k) (D.X k) (D.EX k) W)
  f : ∀ k, k < 3 → D.EX k = 0 → ∀ W v u, Smp .f64 (D.X k) W v → Smp .f32 vs W u → Calls Try.prog 17 #[.agg #[.int .i64 (D.lx k), .int .i64 (D.sx k), v], u] W (FieldF (D.ly k) (D.sy k) (D.Y k) (D.EY k) W)
  e : (∀ k, k < 3 → D.EX k = 0 ∧ D.EY k = 0) → ∃ N, (D.Y 0).length = N ∧ (D.Y 1).length = N ∧ (D.Y 2).length = N ∧ N ≤ 4096 ∧
      ∀ i, i < N → ∃ a b c d : Int, (D.Y 0).getD i (0, 0) = (enc Ieee.double a, enc Ieee.double b) ∧ (D.Y 1).getD i (0, 0) = (enc Ieee.double c, enc Ieee.double d) ∧ (D.Y 2).getD i (0, 0) = (enc Ieee.double (a + c), enc Ieee.double (b + d)) ∧
        a.natAbs ≤ 192000000000 ∧ b.natAbs ≤ 192000000000 ∧ c.natAbs ≤ 192000000000 ∧ d.natAbs ≤ 192000000000

theorem tfoc_K (l s l' s' la sa : Int) (zs ys A us vs : List (Nat × Nat)) (hl : I64 l) (hs : I64 s) (hl' : I64 l') (hs' : I64 s') (hz : ∀ z ∈ zs, z.1 < 2 ^ 32 ∧ z.2 < 2 ^ 32) (hy : ∀ z ∈ ys, z.1 < 2 ^ 32 ∧ z.2 < 2 ^ 32) (hu : ∀ z ∈ us, z.1 < 2 ^ 32 ∧ z.2 < 2 ^ 32) (hv : ∀ z ∈ vs, z.1 < 2 ^ 32 ∧ z.2 < 2 ^ 32)
    (h0 : l = l' ∧ s = s' ∧ la = l ∧ sa = s ∧ A = addS zs ys ∧ bigAny zs ys = false) : ∃ D : TfD, D.Ok (Lf l l' la) (Lf s s' sa) (Zf zs ys A) us vs := by
  obtain ⟨rfl, rfl, rfl, rfl, rfl, hbg⟩ := h0
  have hza : ∀ z ∈ addS zs ys, z.1 < 2 ^ 32 ∧ z.2 < 2 ^ 32 := by
    intro z hz
    obtain ⟨i, hi, rfl⟩ := List.mem_map.1 hz
    exact ⟨rep_lt (.enc Ieee.single _), rep_lt (.enc Ieee.single _)⟩
  obtain ⟨a1, a2, a3, a4, a5, a6, a7, a8, ac, af, ae⟩ := focus_P la sa zs us vs hl hs hz hu hv
  obtain ⟨b1, b2, b3, b4, b5, b6, b7, b8, bc, bf, be⟩ := focus_P la sa ys us vs hl hs hy hu hv
  obtain ⟨c1, c2, c3, c4, c5, c6, c7, c8, cc, cf, ce⟩ := focus_P la sa (addS zs ys) us vs hl hs hza hu hv
  refine ⟨⟨Lf a1 b1 c1, Lf a2 b2 c2, Zf a3 b3 c3, Lf a4 b4 c4, Lf a5 b5 c5, Lf a6 b6 c6, Zf a7 b7 c7, Lf a8 b8 c8⟩, lt3 ac bc cc, lt3 af bf cf, fun h => ?_⟩
  obtain ⟨p1, p2⟩ := h 0 (by decide)
  obtain ⟨q1, q2⟩ := h 1 (by decide)
  obtain ⟨r1, r2⟩ := h 2 (by decide)
  exact foc_add hbg (ae p1 p2) (be q1 q2) (ce r1 r2)
end Go.Proofs.Ytadajelonekpmaa

namespace Go.Proofs.Ytadajelonekpmaa
open Go.RowKit Go.Proofs.Ytadajelonekpmaa.Flt Go.Proofs.Ytadajelonekpmaa.Orb

/-- a call's result that holds samples in memory of its own, made behind w -/
def ResF (w : World) (Y : List (Nat × Nat)) (f : Value → Value) (y : Value) (W : World) : Prop :=
  ∃ v, y = f v ∧ Smp .f64 Y W v ∧ ∀ b, v.ownBlock = some b → w.heap.size ≤ b
theorem ResF.next {w : World} {Y : List (Nat × Nat)} {f : Value → Value} {y : Value} {W W' : World} (h : ResF w Y f y W) (hb : Below W.heap.size W W') : ResF w Y f y W' :=
  let ⟨v, e, h1, h2⟩ := h; ⟨v, e, h1.below hb, h2⟩
theorem ResF.set3 {w : World} {Y : List (Nat × Nat)} {f : Value → Value} {y : Value} {W : World} {b : Nat} (h : ResF w Y f y W) (q : W.heap[b]? = some (.cells #[.int .i64 0, .int .i64 0, .slice none 0 0] 34 (0, 0))) (u0 u1 u2 : Value) :
    ResF w Y f y (((W.setCell ⟨b, 0, none⟩ u0).setCell ⟨b, 1, none⟩ u1).setCell ⟨b, 2, none⟩ u2) :=
  let ⟨v, e, h1, h2⟩ := h; ⟨v, e, h1.set3k q _ _ _, h2⟩

theorem ResF.use {w : World} {Y : List (Nat × Nat)} {f : Value → Value} {y : Value} {W : World} {goal : Prop} (h : ResF w Y f y W) (k : ∀ v, y = f v → Smp .f64 Y W v → (∀ b, v.ownBlock = some b → w.heap.size ≤ b) → goal) : goal :=
  let ⟨v, e, h1, h2⟩ := h; k v e h1 h2

/-- the region 'h, k := echo.Focus(f, append([]complex64{}, code...))': what holds when the operations in l have come up -/
structure R17 (w : World) (cf cc : Value) (vs Y : List (Nat × Nat)) (ly sy EY : Int) (l : Nat → Bool) (y : Nat → Value) (W : World) : Prop where
  hb : Below w.heap.size w W
  f0 : l 0 = true → y 0 = cf
  f1 : l 1 = true → l 3 = false → ∃ b, y 1 = .slice (some ⟨b, 0, none⟩) 0 0 ∧ w.heap.size ≤ b ∧ W.heap[b]? = some (.cells #[] 54 (0, 0))
  f2 : l 2 = true → y 2 = cc
  f3 : l 3 = true → Smp .f32 vs W (y 3)
  f4 : l 4 = true → l 3 = true ∧ ResF w Y (fun v => .tuple #[.agg #[.int .i64 ly, .int .i64 sy, v], .int .i64 EY]) (y 4) W
  f5 : l 5 = true → l 4 = true ∧ ResF w Y (fun v => .tuple #[.agg #[.int .i64 ly, .int .i64 sy, v], .int .i64 EY]) (y 5) W
  f6 : l 6 = true → l 5 = true ∧ ResF w Y (fun v => .agg #[.int .i64 ly, .int .i64 sy, v]) (y 6) W
  f7 : l 7 = true → y 7 = .int .i64 EY
  f8 : l 8 = true → l 9 = false → ∃ b, y 8 = .pointer (some ⟨b, 0, none⟩) ∧ w.heap.size ≤ b ∧ W.heap[b]? = some (.cells #[.int .i64 0, .int .i64 0, .slice none 0 0] 34 (0, 0))
  f9 : l 9 = true → (l 6 = true ∧ l 8 = true) ∧ ∃ b v, y 8 = .pointer (some ⟨b, 0, none⟩) ∧ w.heap.size ≤ b ∧ FBox ly sy v Y b W ∧ ∀ b, v.ownBlock = some b → w.heap.size ≤ b
  fA : l 10 = true → y 10 = .int .i64 EY

section
variable {w : World} {cf cc : Value} {vs Y : List (Nat × Nat)} {ly sy EY : Int} {l : Nat → Bool} {y : Nat → Value} {W W' : World}
theorem R17.below (h : R17 w cf cc vs Y ly sy EY l y W) (hb : Below W.heap.size W W') : R17 w cf cc vs Y ly sy EY l y W' :=
  ⟨Orb.andThen h.hb hb, h.f0, fun a c => let ⟨b, e, hle, hc⟩ := h.f1 a c; ⟨b, e, hle, keepb hb hc⟩, h.f2, fun a => (h.f3 a).below hb, fun a => ⟨(h.f4 a).1, (h.f4 a).2.next hb⟩, fun a => ⟨(h.f5 a).1, (h.f5 a).2.next hb⟩, fun a => ⟨(h.f6 a).1, (h.f6 a).2.next hb⟩, h.f7,
    fun a c => let ⟨b, e, hle, hc⟩ := h.f8 a c; ⟨b, e, hle, keepb hb hc⟩, fun a => ⟨(h.f9 a).1, let ⟨b, v, e, hle, hc, hf⟩ := (h.f9 a).2; ⟨b, v, e, hle, hc.next hb, hf⟩⟩, h.fA⟩
theorem R17.start : R17 w cf cc vs Y ly sy EY (fun _ => false) y w.drew :=
  ⟨(Below.refl _ _).drew, fun h => Bool.noConfusion h, fun h => Bool.noConfusion h, fun h => Bool.noConfusion h, fun h => Bool.noConfusion h, fun h => Bool.noConfusion h, fun h => Bool.noConfusion h, fun h => Bool.noConfusion h, fun h => Bool.noConfusion h, fun h => Bool.noConfusion h, fun h => Bool.noConfusion h, fun h => Bool.noConfusion h⟩
theorem R17.s0 (h : R17 w cf cc vs Y ly sy EY l y W) : R17 w cf cc vs Y ly sy EY (upd l 0) (updV y 0 cf) W :=
  ⟨h.hb, fun _ => rfl, h.f1, h.f2, h.f3, h.f4, h.f5, h.f6, h.f7, h.f8, h.f9, h.fA⟩
theorem R17.s1 (h : R17 w cf cc vs Y ly sy EY l y W) (hle : w.heap.size ≤ W.heap.size) : R17 w cf cc vs Y ly sy EY (upd l 1) (updV y 1 (.slice (some ⟨W.heap.size, 0, none⟩) 0 0)) (W.alloc (.cells #[] 54)) :=
  have h := h.below (new_below W (.cells #[] 54))
  ⟨h.hb, h.f0, fun _ _ => ⟨W.heap.size, rfl, hle, heap_alloc_new _ _⟩, h.f2, h.f3, h.f4, h.f5, h.f6, h.f7, h.f8, h.f9, h.fA⟩
theorem R17.s2 (h : R17 w cf cc vs Y ly sy EY l y W) : R17 w cf cc vs Y ly sy EY (upd l 2) (updV y 2 cc) W :=
  ⟨h.hb, h.f0, h.f1, fun _ => rfl, h.f3, h.f4, h.f5, h.f6, h.f7, h.f8, h.f9, h.fA⟩
/-- the append: what it leaves is a slice of the code's samples; of old blocks it may turn the literal's alone -/
theorem R17.s3 {b : Nat} {v : Value} (h : R17 w cf cc vs Y ly sy EY l y W) (hn : l 3 = false) (hle : w.heap.size ≤ b) (hc : W.heap[b]? = some (.cells #[] 54 (0, 0))) (hg : W.grownBy W' (some b)) (hs : Smp .f32 vs W' v) :
    R17 w cf cc vs Y ly sy EY (upd l 3) (updV y 3 v) W' := by
  have n4 : ∀ {p : Prop}, l 4 = true → p := fun a => by have := (h.f4 a).1; rw [hn] at this; cases this
  have n5 : ∀ {p : Prop}, l 5 = true → p := fun a => n4 (h.f5 a).1
  have n6 : ∀ {p : Prop}, l 6 = true → p := fun a => n5 (h.f6 a).1
  refine ⟨h.hb.grown hg h.hb.size (fun k hk => by injection hk with hk; omega), h.f0, fun _ c => Bool.noConfusion (show true = false from c), h.f2, fun _ => hs, fun a => n4 a, fun a => n5 a, fun a => n6 a, h.f7, fun a c => ?_, fun a => n6 (h.f9 a).1.1, h.fA⟩
  obtain ⟨b8, e, hle8, hc8⟩ := h.f8 a c
  have hne : b8 ≠ b := by
    intro e
    rw [e, hc] at hc8
    cases hc8
  exact ⟨b8, e, hle8, (hg.block b8 (lt_of_block hc8) (fun e => hne (Option.some.inj e))).trans hc8⟩
theorem R17.s4 (h : R17 w cf cc vs Y ly sy EY l y W) (h3 : l 3 = true) {v : Value} (hs : Smp .f64 Y W v) (hf : ∀ b, v.ownBlock = some b → w.heap.size ≤ b) :
    R17 w cf cc vs Y ly sy EY (upd l 4) (updV y 4 (.tuple #[.agg #[.int .i64 ly, .int .i64 sy, v], .int .i64 EY])) W :=
  ⟨h.hb, h.f0, h.f1, h.f2, h.f3, fun _ => ⟨h3, v, rfl, hs, hf⟩, fun a => ⟨rfl, (h.f5 a).2⟩, h.f6, h.f7, h.f8, h.f9, h.fA⟩
theorem R17.s5 (h : R17 w cf cc vs Y ly sy EY l y W) (h4 : l 4 = true) : R17 w cf cc vs Y ly sy EY (upd l 5) (updV y 5 (y 4)) W :=
  ⟨h.hb, h.f0, h.f1, h.f2, h.f3, h.f4, fun _ => ⟨h4, (h.f4 h4).2⟩, fun a => ⟨rfl, (h.f6 a).2⟩, h.f7, h.f8, h.f9, h.fA⟩
theorem R17.s6 (h : R17 w cf cc vs Y ly sy EY l y W) (h5 : l 5 = true) {v : Value} (hs : Smp .f64 Y W v) (hf : ∀ b, v.ownBlock = some b → w.heap.size ≤ b) :
    R17 w cf cc vs Y ly sy EY (upd l 6) (updV y 6 (.agg #[.int .i64 ly, .int .i64 sy, v])) W :=
  ⟨h.hb, h.f0, h.f1, h.f2, h.f3, h.f4, h.f5, fun _ => ⟨h5, v, rfl, hs, hf⟩, h.f7, h.f8, fun a => ⟨⟨rfl, (h.f9 a).1.2⟩, (h.f9 a).2⟩, h.fA⟩
theorem R17.s7 (h : R17 w cf cc vs Y ly sy EY l y W) : R17 w cf cc vs Y ly sy EY (upd l 7) (updV y 7 (.int .i64 EY)) W :=
  ⟨h.hb, h.f0, h.f1, h.f2, h.f3, h.f4, h.f5, h.f6, fun _ => rfl, h.f8, h.f9, h.fA⟩
theorem R17.s8 (h : R17 w cf cc vs Y ly sy EY l y W) (h8 : l 8 = false) : R17 w cf cc vs Y ly sy EY (upd l 8) (updV y 8 (.pointer (some ⟨W.heap.size, 0, none⟩))) (W.alloc (.cells #[.int .i64 0, .int .i64 0, .slice none 0 0] 34)) :=
  have hz := h.hb.size
  have h := h.below (new_below W (.cells #[.int .i64 0, .int .i64 0, .slice none 0 0] 34))
  ⟨h.hb, h.f0, h.f1, h.f2, h.f3, h.f4, h.f5, h.f6, h.f7, fun _ _ => ⟨W.heap.size, rfl, hz, heap_alloc_new _ _⟩, fun a => Bool.noConfusion ((h.f9 a).1.2.symm.trans h8), h.fA⟩
theorem R17.s9 (h : R17 w cf cc vs Y ly sy EY l y W) (h8 : l 8 = true) (h6 : l 6 = true) {b : Nat} {v : Value} (e : y 8 = .pointer (some ⟨b, 0, none⟩)) (hle : w.heap.size ≤ b) (q : W.heap[b]? = some (.cells #[.int .i64 0, .int .i64 0, .slice none 0 0] 34 (0, 0)))
    (hs : Smp .f64 Y W v) (hf : ∀ b, v.ownBlock = some b → w.heap.size ≤ b) :
    R17 w cf cc vs Y ly sy EY (upd l 9) y (((W.setCell ⟨b, 0, none⟩ (.int .i64 ly)).setCell ⟨b, 1, none⟩ (.int .i64 sy)).setCell ⟨b, 2, none⟩ v) :=
  ⟨setC (setC (setC h.hb hle _) hle _) hle _, h.f0, fun _ c => Bool.noConfusion ((h.f4 (h.f5 (h.f6 h6).1).1).1.symm.trans (show l 3 = false from c)), h.f2, fun a => (h.f3 a).set3k q _ _ _, fun a => ⟨(h.f4 a).1, (h.f4 a).2.set3 q _ _ _⟩, fun a => ⟨(h.f5 a).1, (h.f5 a).2.set3 q _ _ _⟩, fun a => ⟨(h.f6 a).1, (h.f6 a).2.set3 q _ _ _⟩, h.f7, fun _ c => Bool.noConfusion (show true = false from c),
    fun _ => ⟨⟨h6, h8⟩, b, v, e, hle, FBox.made q hs, hf⟩, h.fA⟩
theorem R17.sA (h : R17 w cf cc vs Y ly sy EY l y W) : R17 w cf cc vs Y ly sy EY (upd l 10) (updV y 10 (.int .i64 EY)) W :=
  ⟨h.hb, h.f0, h.f1, h.f2, h.f3, h.f4, h.f5, h.f6, h.f7, h.f8, h.f9, fun _ => rfl⟩
end

theorem Try.infoC64 : (Try.prog.info? 54).map (fun i => (i.zero, i.size, i.bytes)) = some (some (.complex .f32 0 0), 1, 8) := by kernel_rfl
theorem Try.infoFld : (Try.prog.info? 34).map (fun i => (i.zero, i.size, i.bytes)) = some (some (.agg #[.int .i64 0, .int .i64 0, .slice none 0 0]), 3, 40) := by kernel_rfl

/-- 'append([]complex64{}, code...)', wherever it comes up -/
theorem append_code {P : Program} {o : Oper} {a : Act} {K : Act → World → Prop} {Q : Exit → Act → World → Prop} {W : World} {b : Nat} {va : Option Addr} {vn vc : Nat} {vs : List (Nat × Nat)} (hP : P = Try.prog) (s x : Operand)
    (ho : o.op = .call { callee := .builtin .append, args := #[s, x], argTypes := #[27, 27] }) (hs : a.eval s = .slice (some ⟨b, 0, none⟩) 0 0) (hx : a.eval x = .slice va vn vc)
    (hc : W.heap[b]? = some (.cells #[] 54 (0, 0))) (hv : SmpK vs W (.slice va vn vc)) (hn : vs.length ≤ 35)
    (h : ∀ v W', W.grownBy W' (some b) → Smp .f32 vs W' v → K (a.put o.dst v) W') : o.wp P a W K Q := by
  subst hP
  obtain ⟨i0, hi, hz0, hz1, hz2⟩ := info_parts Try.infoC64
  have hown : W.ownsRow 0 54 1 (.slice (some ⟨b, 0, none⟩) 0 0) 0 [] := ⟨rfl, .inr ⟨b, 0, #[], rfl, Nat.zero_le _, hc, Nat.le_refl _, Nat.zero_le _, rfl, rfl⟩⟩
  have hone : ∀ u ∈ cvals .f32 vs, u.oneCell' = true := by
    intro u hu
    obtain ⟨x, -, rfl⟩ := List.mem_map.1 hu
    rfl
  cases va with
  | none =>
    obtain ⟨rfl, rfl⟩ := hv.nil _ _ rfl
    have hlen : vs.length = 0 := by
      obtain ⟨ad, cap, h1, -⟩ := hv.smp.sl.form
      injection h1 with _ h1 _
      simpa [cvals] using h1.symm
    have hnil : vs = [] := List.length_eq_zero_iff.1 hlen
    have hrun := run_append_owned_none (P := Try.prog) (w := W) 0 27 o.type 54 i0 1 Try.underlying27 hi (.slice (some ⟨b, 0, none⟩) 0 0) 0 [] hown
    unfold Oper.wp
    simp [execOp, ho, resolve, invoke, builtin, hs, hx, hrun, Result.andThen]
    refine h _ W ⟨rfl, rfl, rfl, Nat.le_refl _, fun _ _ _ => rfl⟩ ?_
    rw [hnil]
    exact ⟨⟨some ⟨b, 0, none⟩, 0, rfl, Nat.zero_le _, .inl rfl⟩⟩
  | some ad =>
    obtain ⟨ad', cap, h1, h2, h3⟩ := hv.smp.sl.form
    injection h1 with h1 h4 h5
    subst h1 h4 h5
    have hlv : (cvals .f32 vs).length = vs.length := by simp [cvals]
    refine wp_append_own (w := W) s x 27 ho 0 54 i0 (.complex .f32 0 0) 1 8 Try.underlying27 hi hz0 hz1 hz2 rfl (by decide) (.slice (some ⟨b, 0, none⟩) 0 0) 0 [] hs hown ad (cvals .f32 vs).length vc (cvals .f32 vs) hx (by omega) ?_ hone (by unfold maxLen; omega) (by omega) (Nat.zero_le _) ?_
    · intro j u hu
      rcases h3 with h3 | ⟨b', off, h6, -, h7⟩
      · rw [h3] at hu; simp at hu
      · injection h6 with h6
        subst h6
        rw [Go.Proofs.Ytadajelonekpmaa.add_none]
        exact h7 j u hu
    · intro v' w' hown' hgrow _
      rw [List.nil_append] at hown'
      exact h v' w' hgrow ⟨Sl.of_owns hown' (by omega)⟩
end Go.Proofs.Ytadajelonekpmaa

namespace Go.Proofs.Ytadajelonekpmaa
open Go.RowKit Go.Proofs.Ytadajelonekpmaa.Flt Go.Proofs.Ytadajelonekpmaa.Orb

/-! The fields that the loop of TopFocusLinear has appended. -/
def fldV (D : TfD) (k : Nat) (u : Value) : List Value := [.int .i64 (D.ly k), .int .i64 (D.sy k), u]
def rowV (D : TfD) (V : Nat → Value) : Nat → List Value
  | 0 => []
  | k + 1 => rowV D V k ++ fldV D k (V k)
theorem rowV_congr (D : TfD) (V V' : Nat → Value) : ∀ k, (∀ j, j < k → V j = V' j) → rowV D V k = rowV D V' k
  | 0, _ => rfl
  | k + 1, h => by rw [rowV, rowV, rowV_congr D V V' k (fun j hj => h j (by omega)), h k (by omega)]
/-- samples that lie apart from a row -/
def Apart (C : List (Nat × Nat)) (x v : Value) : Prop := C = [] ∨ v.ownBlock = none ∨ x.ownBlock ≠ v.ownBlock
theorem smp_grown {k : FloatKind} {C : List (Nat × Nat)} {W W' : World} {x v : Value} (h : Smp k C W x) (hg : W.grownBy W' v.ownBlock) (ha : Apart C x v) : Smp k C W' x := by
  obtain ⟨ad, cap, rfl, hl, hx⟩ := h.sl.form
  refine ⟨ad, cap, rfl, hl, ?_⟩
  rcases hx with hx | ⟨b, off, rfl, h2, h3⟩
  · exact .inl hx
  · rcases ha with rfl | ha
    · exact .inl rfl
    · have hne : some b ≠ v.ownBlock := by
        intro he
        rcases ha with ha | ha
        · rw [ha] at he; cases he
        · exact ha he
      refine .inr ⟨b, off, rfl, Nat.lt_of_lt_of_le h2 hg.size, fun j u hu => ?_⟩
      exact (hg.cell_far ⟨b, off + j, none⟩ h2 hne).trans (h3 j u hu)

structure TfL (D : TfD) (w : World) (k : Nat) (v : Value) (W : World) : Prop where
  hb : Below w.heap.size w W
  err : ∀ j, j < k → D.EX j = 0 ∧ D.EY j = 0
  row : ∃ V, W.ownsRow w.heap.size 34 3 v k (rowV D V k) ∧ ∀ j, j < k → Smp .f64 (D.Y j) W (V j) ∧ Apart (D.Y j) (V j) v
theorem TfL.start (D : TfD) (w : World) : TfL D w 0 (.slice none 0 0) w :=
  ⟨Below.refl _ _, fun _ h => absurd h (Nat.not_lt_zero _), fun _ => .nilIface, World.ownsRow_nil _ _ _ _, fun _ h => absurd h (Nat.not_lt_zero _)⟩
theorem TfL.next {D : TfD} {w W1 W2 : World} {k g cap : Nat} {v u : Value} {V : Nat → Value} (hb : Below w.heap.size w W2) (he : ∀ j, j < k → D.EX j = 0 ∧ D.EY j = 0) (e1 : D.EX k = 0) (e2 : D.EY k = 0)
    (hV : ∀ j, j < k → Smp .f64 (D.Y j) W1 (V j) ∧ Apart (D.Y j) (V j) v) (hu : Smp .f64 (D.Y k) W1 u) (hfar : Apart (D.Y k) u v)
    (hown : W2.ownsRow w.heap.size 34 3 (.slice (some ⟨g, 0, none⟩) (k + 1) cap) (k + 1) (rowV D V k ++ fldV D k u)) (hg : W1.grownBy W2 v.ownBlock) (hgg : v.ownBlock = some g ∨ g = W1.heap.size) :
    TfL D w (k + 1) (.slice (some ⟨g, 0, none⟩) (k + 1) cap) W2 := by
  have key : ∀ (C : List (Nat × Nat)) (x : Value), Smp .f64 C W1 x → Apart C x v → Smp .f64 C W2 x ∧ Apart C x (.slice (some ⟨g, 0, none⟩) (k + 1) cap) := by
    intro C x hx ha
    refine ⟨smp_grown hx hg ha, ?_⟩
    rcases ha with ha | ha
    · exact .inl ha
    · obtain ⟨ad, cp, rfl, -, hy⟩ := hx.sl.form
      rcases hy with hy | ⟨b, off, rfl, h2, -⟩
      · exact .inl (by simpa [cvals] using hy)
      · refine .inr (.inr ?_)
        intro h
        have hbg : b = g := by simpa [Value.ownBlock] using h
        rcases hgg with hgg | hgg
        · rcases ha with ha | ha
          · rw [ha] at hgg; cases hgg
          · exact ha (by rw [hgg, ← hbg]; rfl)
        · omega
  refine ⟨hb, fun j hj => ?_, fun j => if j = k then u else V j, ?_, fun j hj => ?_⟩
  · rcases Nat.lt_or_ge j k with h | h
    · exact he j h
    · rw [show j = k by omega]; exact ⟨e1, e2⟩
  · rw [rowV, rowV_congr D _ V k (fun j hj => if_neg (by omega)), if_pos rfl]
    exact hown
  · dsimp only
    by_cases hjk : j = k
    · subst hjk; rw [if_pos rfl]; exact key _ _ hu hfar
    · rw [if_neg hjk]
      obtain ⟨h1, h2⟩ := hV j (by omega)
      exact key _ _ h1 h2
theorem apart_new {C : List (Nat × Nat)} {u v : Value} {B n k : Nat} {e : TypeId} {xs : List Value} {W : World} (ho : W.ownsRow B e k v n xs) (hf : ∀ b, u.ownBlock = some b → W.heap.size ≤ b) : Apart C u v := by
  refine .inr ?_
  cases h : v.ownBlock with
  | none => exact .inl rfl
  | some g =>
    refine .inr fun hu => ?_
    have := (ho.lt g h).2
    have := hf g hu
    omega
/-- the three fields at the end -/
theorem TfL.cells {D : TfD} {w : World} {v : Value} {W : World} (h : TfL D w 3 v W) : ∃ (g cap : Nat) (V : Nat → Value), v = .slice (some ⟨g, 0, none⟩) 3 cap ∧ g < W.heap.size ∧
    (∀ j, j < 3 → Smp .f64 (D.Y j) W (V j)) ∧ W.cell? ⟨g, 2, none⟩ = some (V 0) ∧ W.cell? ⟨g, 5, none⟩ = some (V 1) ∧ W.cell? ⟨g, 8, none⟩ = some (V 2) := by
  obtain ⟨V, ho, hV⟩ := h.row
  rcases ho.2 with ⟨-, h0⟩ | ⟨g, cap, cur, rfl, -⟩
  · cases h0
  · refine ⟨g, cap, V, rfl, (ho.lt g rfl).2, fun j hj => (hV j hj).1, ?_, ?_, ?_⟩
    · rw [ho.cellAt 2 (by omega)]; rfl
    · rw [ho.cellAt 5 (by omega)]; rfl
    · rw [ho.cellAt 8 (by omega)]; rfl
end Go.Proofs.Ytadajelonekpmaa
