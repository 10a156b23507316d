import Derived.Test.YtjokfmbknkeeeaaRj
import Derived.Deep.Quiet
namespace Go.Proofs.Ytjokfmbknkeeeaa.Orb
open Go.RowKit Lib

def upd (l : Nat → Bool) (i k : Nat) : Bool := if k = i then true else l k
/-- what an operation waits for lies ahead of it -/
def upB (ops : Array Oper) : Bool := (List.range ops.size).all fun i => ((ops[i]?).map fun o => o.after.all fun e => !Region.binds .any e || decide (e.on < i)).getD true

theorem count_set_true (l : List Bool) (i : Nat) (h : l[i]? = some false) : (l.set i true).count false + 1 = l.count false := by
  induction l generalizing i with
  | nil => cases h
  | cons x xs ih =>
    cases i with
    | zero =>
      simp at h
      subst h
      simp
    | succ i =>
      have := ih i (by simpa using h)
      cases x <;> simp [List.set] <;> omega

theorem all_listed {ops : Array Oper} {listed : Array Bool} (hA : upB ops = true) (hr : Region.ready .any ops listed = []) : ∀ n, n ≤ ops.size → ∀ i, i < n → listed.getD i true = true := by
  intro n
  induction n with
  | zero => intro _ i hi; cases hi
  | succ n ih =>
    intro hn i hi
    have ih := ih (by omega)
    rcases Nat.lt_succ_iff_lt_or_eq.1 hi with h | h
    · exact ih i h
    · subst h
      cases hg : listed.getD i true with
      | true => rfl
      | false =>
        have hlt : i < ops.size := by omega
        obtain ⟨o, ho⟩ : ∃ o, ops[i]? = some o := ⟨ops[i], by simp [hlt]⟩
        have hm : i ∈ Region.ready .any ops listed := by
          refine mem_ready.2 ⟨hg, o, ho, fun e he hb => ?_⟩
          unfold upB at hA
          rw [List.all_eq_true] at hA
          have h2 := hA i (List.mem_range.2 hlt)
          rw [ho] at h2
          simp only [Option.map_some, Option.getD_some, Array.all_eq_true_iff_forall_mem] at h2
          have h3 := h2 e he
          rw [hb] at h3
          simp at h3
          have h4 := ih e.on h3
          rcases Nat.lt_or_ge e.on listed.size with h5 | h5
          · rw [Array.getD_eq_getD_getElem?] at h4 ⊢
            simpa [h5] using h4
          · exact absurd hg (by rw [Array.getD_eq_getD_getElem?, Array.getElem?_eq_none (by omega)]; simp)
        rw [hr] at hm
        cases hm

/-- A REGION THAT DRAWS ITS ORDER, by what holds when some operations have come up (J), an operation at a time -/
theorem region_inv {P : Program} {ops : Array Oper} {id : Nat} {Q : Exit → Act → World → Prop} {a : Act} {w : World} (J : (Nat → Bool) → Act → World → Prop) (hm : P.follows .mixedOrders = true) (hA : upB ops = true)
    (h0 : J (fun _ => false) a w.drew)
    (hstep : ∀ i o, ops[i]? = some o → ∀ l a w, (∀ e ∈ o.after, Region.binds .any e = true → l e.on = true) → l i = false → J l a w → if Region.wanted o (yielded ops a.tmps) then o.wp P a w (J (upd l i)) Q else J (upd l i) (a.put o.dst undef) w)
    (hend : ∀ l a w, (∀ i, i < ops.size → l i = true) → J l a w → Q .normal a w) : (Code.region id ops true).wp P Q a w := by
  have key : ∀ (fuel : Nat) (listed : Array Bool) (a : Act) (w : World), listed.size = ops.size → listed.toList.count false ≤ fuel → J (fun k => listed.getD k false) a w → wpAny P .any ops Q fuel listed a w := by
    have hall : ∀ listed : Array Bool, listed.size = ops.size → Region.ready .any ops listed = [] → ∀ i, i < ops.size → listed.getD i false = true := by
      intro listed hs hr i hi
      have := all_listed hA hr ops.size (Nat.le_refl _) i hi
      rw [Array.getD_eq_getD_getElem?] at this ⊢
      simpa [show i < listed.size by omega] using this
    intro fuel
    induction fuel with
    | zero =>
      intro listed a w hs hc hJ
      have hr : Region.ready .any ops listed = [] := by
        rw [List.eq_nil_iff_forall_not_mem]
        intro j hj
        obtain ⟨h1, o, ho, -⟩ := mem_ready.1 hj
        have hlt : j < listed.size := by rw [hs]; exact (Array.getElem?_eq_some_iff.1 ho).1
        have h2 : listed.toList[j]? = some false := by
          rw [Array.getD_eq_getD_getElem?] at h1
          simp [hlt] at h1 ⊢
          exact h1
        have := count_set_true _ _ h2
        omega
      exact ⟨hr, hend _ _ _ (hall listed hs hr) hJ⟩
    | succ fuel ih =>
      intro listed a w hs hc hJ
      refine ⟨fun hr => hend _ _ _ (hall listed hs hr) hJ, fun i hi => ?_⟩
      obtain ⟨h1, o, ho, h2⟩ := mem_ready.1 hi
      have hlt : i < listed.size := by rw [hs]; exact (Array.getElem?_eq_some_iff.1 ho).1
      have h3 : listed.toList[i]? = some false := by
        rw [Array.getD_eq_getD_getElem?] at h1
        simp [hlt] at h1 ⊢
        exact h1
      have hn : ∀ a w, J (upd (fun k => listed.getD k false) i) a w → wpAny P .any ops Q fuel (listed.setIfInBounds i true) a w := by
        intro a w hJ'
        refine ih _ _ _ (by simpa using hs) ?_ ?_
        · have := count_set_true _ _ h3
          rw [Array.toList_setIfInBounds]
          omega
        · have : (fun k => (listed.setIfInBounds i true).getD k false) = upd (fun k => listed.getD k false) i := by
            funext k
            unfold upd
            simp only [Array.getD_eq_getD_getElem?, Array.getElem?_setIfInBounds]
            by_cases hk : k = i
            · subst hk; simp [hlt]
            · rw [if_neg (fun h => hk h.symm), if_neg hk]
          rw [this]
          exact hJ'
      have hs' := hstep i o ho _ a w (fun e he hb => h2 e he hb) (by rw [Array.getD_eq_getD_getElem?] at h1 ⊢; simpa [hlt] using h1) hJ
      unfold wpOp
      simp only [ho]
      split
      · rename_i hw
        rw [if_pos hw] at hs'
        exact .inl (Oper.wp_mono hn hs')
      · rename_i hw
        rw [if_neg hw] at hs'
        exact hn _ _ hs'
  refine wp_region_any hm (key ops.size _ a _ (by simp) ?_ ?_)
  · simp
  · have : (fun k => (Array.replicate ops.size false).getD k false) = fun _ => false := by
      funext k
      rw [Array.getD_eq_getD_getElem?, Array.getElem?_replicate]
      split <;> rfl
    rw [this]
    exact h0

/-- the frame with the values of a region's operations -/
def putAll : Nat → List Oper → (Nat → Value) → Act → Act
  | _, [], _, a => a
  | k, o :: l, y, a => putAll (k + 1) l y (a.put o.dst (y k))
def updV (y : Nat → Value) (i : Nat) (v : Value) (k : Nat) : Value := if k = i then v else y k
/-- for each operation of a list, with its number -/
def Steps (F : Nat → Oper → Prop) : Nat → List Oper → Prop
  | _, [] => True
  | k, o :: l => F k o ∧ Steps F (k + 1) l
theorem steps_all {F : Nat → Oper → Prop} : ∀ (l : List Oper) (k : Nat), Steps F k l → ∀ i o, l[i]? = some o → F (k + i) o
  | [], _, _, i, o, h => by simp at h
  | x :: l, k, hs, 0, o, h => by simp at h; subst h; exact hs.1
  | x :: l, k, hs, i + 1, o, h => by
    have := steps_all l (k + 1) hs.2 i o (by simpa using h)
    rwa [show k + 1 + i = k + (i + 1) by omega] at this
theorem wp_val {P : Program} {o : Oper} {a : Act} {w : World} {K : Act → World → Prop} {Q : Exit → Act → World → Prop} (v : Value) (h : o.quietAt P a (fun w' => Below w.heap.size w w') w v) (hk : ∀ w', Below w.heap.size w w' → K (a.put o.dst v) w') : o.wp P a w K Q := by
  unfold Oper.quietAt at h
  unfold Oper.wp
  generalize (execOp a.eval o).run P w = r at *
  cases r with
  | ok n w' =>
    cases n <;> simp only [Oper.quietUpon] at h <;> simp only [Oper.upon]
    case value u =>
      obtain ⟨e1, e2⟩ := h
      rw [e1, e2]
      exact hk _ (Below.refl _ _)
    case skip =>
      obtain ⟨e1, e2⟩ := h
      rw [e1, ← e2]
      exact hk _ (Below.refl _ _)
    case enter f args =>
      obtain ⟨e1, hc⟩ := h
      rw [e1]
      exact hc.mono fun e w'' ⟨he, hw''⟩ => by subst he; exact hk _ hw''
  | halt x w' => simp only [Oper.quietUpon] at h

/-- what follows behind an operation -/
def Goes (ops : List Oper) (a : Act) (I : (Nat → Bool) → (Nat → Value) → World → Prop) (l : Nat → Bool) (K : Act → World → Prop) : Prop := ∀ a' w' y', a' = putAll 0 ops y' a → I l y' w' → K a' w'
def Deps (o : Oper) (l : Nat → Bool) : Prop := ∀ e ∈ o.after, Region.binds .any e = true → l e.on = true
theorem dep_of {o : Oper} {l : Nat → Bool} (hd : Deps o l) (j : Nat) (h : (o.after.any fun e => e.on == j && Region.binds .any e) = true) : l j = true := by
  rw [Array.any_eq_true] at h
  obtain ⟨i, hi, h⟩ := h
  simp only [Bool.and_eq_true, beq_iff_eq] at h
  have := hd _ (Array.getElem_mem hi) h.2
  rwa [h.1] at this
/-- one operation: what is asked -/
def StepF (P : Program) (ops : List Oper) (a : Act) (I : (Nat → Bool) → (Nat → Value) → World → Prop) (Q : Exit → Act → World → Prop) (i : Nat) (o : Oper) : Prop :=
  ∀ (l : Nat → Bool) (y : Nat → Value) (w : World) (K : Act → World → Prop), Deps o l → l i = false → I l y w → Goes ops a I (upd l i) K → if Region.wanted o (yielded ops.toArray (putAll 0 ops y a).tmps) then o.wp P (putAll 0 ops y a) w K Q else K ((putAll 0 ops y a).put o.dst undef) w
/-- A REGION THAT DRAWS ITS ORDER, by what holds of the values y of the operations that have come up (l), and of the world -/
theorem region_vals {P : Program} {ops : List Oper} {id : Nat} {Q : Exit → Act → World → Prop} {a : Act} {w : World} (I : (Nat → Bool) → (Nat → Value) → World → Prop) (y0 : Nat → Value) (hm : P.follows .mixedOrders = true) (hA : upB ops.toArray = true)
    (ha : a = putAll 0 ops y0 a) (h0 : I (fun _ => false) y0 w.drew)
    (hstep : Steps (StepF P ops a I Q) 0 ops)
    (hend : ∀ l y w, (∀ i, i < ops.length → l i = true) → I l y w → Q .normal (putAll 0 ops y a) w) : (Code.region id ops.toArray true).wp P Q a w := by
  refine region_inv (fun l a' w' => ∃ y, a' = putAll 0 ops y a ∧ I l y w') hm hA ⟨y0, ha, h0⟩ ?_ ?_
  · intro i o ho l a' w' hd hn hJ
    obtain ⟨y, rfl, hI⟩ := hJ
    have := steps_all _ _ hstep i o (by simpa using ho)
    rw [Nat.zero_add] at this
    exact this l y w' _ hd hn hI fun a'' w'' y' h1 h2 => ⟨y', h1, h2⟩
  · intro l a' w' hl hJ
    obtain ⟨y, rfl, hI⟩ := hJ
    exact hend l y w' (fun i hi => hl i (by simpa using hi)) hI
section
variable {P : Program} {ops : List Oper} {Q : Exit → Act → World → Prop} {a : Act} {I : (Nat → Bool) → (Nat → Value) → World → Prop} {k k' : Nat} {o : Oper} {rest : List Oper}
/-- a value -/
theorem Steps.val (v : Value) (hk : k' = k + 1) (hw : ∀ y, Region.wanted o (yielded ops.toArray (putAll 0 ops y a).tmps) = true) (hput : ∀ y, (putAll 0 ops y a).put o.dst v = putAll 0 ops (updV y k v) a)
    (h : ∀ l y w, Deps o l → I l y w → o.quietAt P (putAll 0 ops y a) (fun w' => Below w.heap.size w w') w v) (hI : ∀ l y w w', I l y w → Below w.heap.size w w' → I (upd l k) (updV y k v) w')
    (hs : Steps (StepF P ops a I Q) k' rest) : Steps (StepF P ops a I Q) k (o :: rest) := by
  subst hk
  refine ⟨fun l y w K hd hn hi hK => ?_, hs⟩
  rw [if_pos (hw y)]
  exact wp_val v (h l y w hd hi) fun w' hb => hK _ _ _ (hput y) (hI l y w w' hi hb)
/-- an operation of its own: a block that is made (v: its pointer) -/
theorem Steps.own (hk : k' = k + 1) (hw : ∀ y, Region.wanted o (yielded ops.toArray (putAll 0 ops y a).tmps) = true) (hput : ∀ y v, (putAll 0 ops y a).put o.dst v = putAll 0 ops (updV y k v) a)
    (h : ∀ l y w, Deps o l → l k = false → I l y w → ∃ v w', (execOp (putAll 0 ops y a).eval o).run P w = .ok (.value v) w' ∧ I (upd l k) (updV y k v) w')
    (hs : Steps (StepF P ops a I Q) k' rest) : Steps (StepF P ops a I Q) k (o :: rest) := by
  subst hk
  refine ⟨fun l y w K hd hn hi hK => ?_, hs⟩
  rw [if_pos (hw y)]
  obtain ⟨v, w', hr, hI⟩ := h l y w hd hn hi
  unfold Oper.wp
  rw [hr]
  exact hK _ _ _ (hput y v) hI
/-- a store -/
theorem Steps.sto (hk : k' = k + 1) (hw : ∀ y, Region.wanted o (yielded ops.toArray (putAll 0 ops y a).tmps) = true) (hd0 : o.dst = none)
    (h : ∀ l y w, Deps o l → I l y w → ∃ w', (execOp (putAll 0 ops y a).eval o).run P w = .ok .skip w' ∧ I (upd l k) y w')
    (hs : Steps (StepF P ops a I Q) k' rest) : Steps (StepF P ops a I Q) k (o :: rest) := by
  subst hk
  refine ⟨fun l y w K hd hn hi hK => ?_, hs⟩
  rw [if_pos (hw y)]
  obtain ⟨w', hr, hI⟩ := h l y w hd hi
  unfold Oper.wp
  rw [hr]
  exact hK _ _ y (by rw [hd0]; rfl) hI
/-- passed over -/
theorem Steps.pass (hk : k' = k + 1) (hw : ∀ y, Region.wanted o (yielded ops.toArray (putAll 0 ops y a).tmps) = false) (hput : ∀ y, (putAll 0 ops y a).put o.dst undef = putAll 0 ops (updV y k undef) a)
    (hI : ∀ l y w, I l y w → I (upd l k) (updV y k undef) w) (hs : Steps (StepF P ops a I Q) k' rest) : Steps (StepF P ops a I Q) k (o :: rest) := by
  subst hk
  refine ⟨fun l y w K hd hn hi hK => ?_, hs⟩
  rw [if_neg (by rw [hw y]; exact Bool.false_ne_true)]
  exact hK _ _ _ (hput y) (hI l y w hi)
end

/-- a slot points at a block of a region's own -/
def OwnB (T : TypeId) (n base : Nat) (p : Value) (W : World) : Prop := ∃ b, p = .pointer (some ⟨b, 0, none⟩) ∧ base ≤ b ∧ ∃ cs : Array Value, cs.size = n ∧ W.heap[b]? = some (.cells cs T (0, 0))
def HasC (T : TypeId) (cs : Array Value) (p : Value) (W : World) : Prop := ∃ b, p = .pointer (some ⟨b, 0, none⟩) ∧ W.heap[b]? = some (.cells cs T (0, 0))
theorem OwnB.next {T : TypeId} {n base : Nat} {p : Value} {W W' : World} (h : OwnB T n base p W) (hb : Below W.heap.size W W') : OwnB T n base p W' := by
  obtain ⟨b, e, hle, cs, hs, hc⟩ := h
  exact ⟨b, e, hle, cs, hs, keepb hb hc⟩
theorem HasC.next {T : TypeId} {cs : Array Value} {p : Value} {W W' : World} (h : HasC T cs p W) (hb : Below W.heap.size W W') : HasC T cs p W' := by
  obtain ⟨b, e, hc⟩ := h
  exact ⟨b, e, keepb hb hc⟩
theorem OwnB.ne_new {T : TypeId} {n base : Nat} {p : Value} {W : World} (h : OwnB T n base p W) : p ≠ .pointer (some ⟨W.heap.size, 0, none⟩) := by
  obtain ⟨b, e, hle, cs, hs, hc⟩ := h
  intro he
  rw [e] at he
  injection he with he
  injection he with he
  injection he with he
  have := lt_of_block hc
  omega
theorem Steps.nil {F : Nat → Oper → Prop} {k : Nat} : Steps F k [] := True.intro
theorem set_other {W : World} {b a i : Nat} {v : Value} {o : Obj} (hne : b ≠ a) (h : W.heap[b]? = some o) : (W.setCell ⟨a, i, none⟩ v).heap[b]? = some o :=
  (Below.heap_setCell _ _ _ _ hne).trans h
theorem OwnB.set {T : TypeId} {n base : Nat} {p : Value} {W : World} (h : OwnB T n base p W) (a i : Nat) (v : Value) : OwnB T n base p (W.setCell ⟨a, i, none⟩ v) := by
  obtain ⟨b, e, hle, cs, hs, hc⟩ := h
  by_cases hb : b = a
  · subst hb
    exact ⟨b, e, hle, _, by simpa using hs, set_block hc⟩
  · exact ⟨b, e, hle, cs, hs, set_other hb hc⟩
theorem HasC.set {T : TypeId} {cs : Array Value} {p : Value} {W : World} (h : HasC T cs p W) {a : Nat} (hne : p ≠ .pointer (some ⟨a, 0, none⟩)) (i : Nat) (v : Value) : HasC T cs p (W.setCell ⟨a, i, none⟩ v) := by
  obtain ⟨b, e, hc⟩ := h
  refine ⟨b, e, set_other (fun hb => hne ?_) hc⟩
  rw [e, hb]
theorem three_of {cs : Array Value} (h : cs.size = 3) : ∃ c0 c1 c2, cs = #[c0, c1, c2] := by
  obtain ⟨l⟩ := cs
  match l, h with
  | [a, b, c], _ => exact ⟨a, b, c, rfl⟩
end Go.Proofs.Ytjokfmbknkeeeaa.Orb
