import Derived.Test.YtadajelonekpmaaSa
import Derived.Test.YtadajelonekpmaaEv
import Derived.Lib.SmallJoins
import Derived.Deep.Slices
namespace Go.Proofs.Ytadajelonekpmaa
open Go.ChangeShapes Go.WideShapes Go.ChangeAt Go.RowKit Go.Proofs.Ytadajelonekpmaa.Flt

section
variable {H : Type} {enc : TypeId × Value → H} {w : World} {base : Nat} {sp : Nat → Bool} {held : Bool} {P : Program}
theorem trod_float_cell {k : FloatKind} {n : Nat} {t : TypeId} {v : Value} {x : DataW H × List MemPlace} (ht : P.underlying t = some (.float k)) (h : DataW.trod enc P w base sp held n t [v] = some x) : ∃ b, v = .float k b ∧ (Lit.float k b).wf = true := by
  cases n with
  | zero => simp [DataW.trod] at h
  | succ n =>
    simp only [DataW.trod, ht] at h
    cases v with
    | float k' b =>
      by_cases hc : k' = k ∧ (Lit.float k b).wf = true
      · obtain ⟨rfl, hw⟩ := hc
        exact ⟨b, rfl, hw⟩
      · simp [hc] at h
    | _ => simp at h
theorem trod_int_cell {k : IntKind} {n : Nat} {t : TypeId} {v : Value} {x : DataW H × List MemPlace} (ht : P.underlying t = some (.int k)) (h : DataW.trod enc P w base sp held n t [v] = some x) : ∃ b, v = .int k b ∧ (Lit.int k b).wf = true := by
  cases n with
  | zero => simp [DataW.trod] at h
  | succ n =>
    simp only [DataW.trod, ht] at h
    cases v with
    | int k' b =>
      by_cases hc : k' = k ∧ (Lit.int k b).wf = true
      · obtain ⟨rfl, hw⟩ := hc
        exact ⟨b, rfl, hw⟩
      · simp [hc] at h
    | _ => simp at h
end

theorem addr_add (b off j : Nat) : (⟨b, off, none⟩ : Addr).add j = ⟨b, off + j, none⟩ := by
  unfold Addr.add
  split
  · rename_i h; subst h; rfl
  · rfl
theorem wf_i64 {n : Int} (h : (Lit.int .i64 n).wf = true) : I64 n := by
  have h2 := h
  simp only [Lit.wf] at h2
  rw [Bool.and_eq_true, decide_eq_true_eq, decide_eq_true_eq] at h2
  exact h2
theorem wf_f32 {b : Nat} (h : (Lit.float .f32 b).wf = true) : b < 2 ^ 32 := by
  have h2 : decide (b < 2 ^ FloatKind.f32.format.width) = true := h
  exact of_decide_eq_true h2

def bitsOf : Value → Nat
  | .float _ b => b
  | _ => 0

theorem tys_ok' {ts : List TypeId} (h : (ts.all fun t => Try.prog.readableRec t && decide (t < Try.prog.types.size)) = true) : ∀ t ∈ ts, Try.prog.readableRec t = true ∧ t < Try.prog.types.size := by
  intro t ht
  have := List.all_eq_true.1 h t ht
  rw [Bool.and_eq_true, decide_eq_true_eq] at this
  exact this

theorem cells_f32 : Try.prog.cellsOf 53 = 1 := by kernel_rfl
theorem bytes_f32 : Try.prog.bytesOf 53 = 4 := by kernel_rfl

set_option maxRecDepth 100000 in
/-- a slice of floats that a call is handed -/
theorem got_floats {H : Type} {enc : TypeId × Value → H} {W : World} {n : Nat} {v : Value} {y : DataW H × List MemPlace} (h : DataW.trod enc Try.prog W 0 (fun _ => true) true n 22 [v] = some y)
    (hsz : ∀ es sp : List (DataW H), y.1 = .slice es sp → (es.length + sp.length) * 4 ≤ reachBytes) : ∃ xs : List Nat, Fls .f32 xs W v ∧ ∀ x ∈ xs, x < 2 ^ 32 := by
  rcases Deep.open_slice1 Try.underlying22 cells_f32 h with ⟨hcs, -⟩ | ⟨a, len, cap, m, n', V, D, Pl, hcs, -, hl, hm, hmm, hx, hcell⟩
  · have hv : v = .slice none 0 0 := by simpa using hcs
    subst hv
    exact ⟨[], ⟨⟨none, 0, rfl, Nat.zero_le _, .inl rfl⟩⟩, fun x hx => by cases hx⟩
  · have hv : v = .slice (some a) len cap := by simpa using hcs
    subst hv
    simp only [if_true] at hmm
    have hs := hsz ((List.range len).map D) ((List.range (m - len)).map fun j => D (len + j)) (by rw [hx])
    have hrb : reachBytes = 140737488351232 := rfl
    rw [List.length_map, List.length_range, hrb] at hs
    have hle : len ≤ 140737488351232 := by
      have := Nat.le_trans (Nat.mul_le_mul_right 4 (Nat.le_add_right len _)) hs
      omega
    have hV : ∀ i, i < m → V i = .float .f32 (bitsOf (V i)) ∧ bitsOf (V i) < 2 ^ 32 := by
      intro i hi
      obtain ⟨b, hb, hw⟩ := trod_float_cell Try.underlying53 (hcell i hi).2
      rw [hb]
      exact ⟨rfl, wf_f32 hw⟩
    have hlen : (fvals .f32 ((List.range len).map fun i => bitsOf (V i))).length = len := by simp [fvals]
    refine ⟨(List.range len).map fun i => bitsOf (V i), ⟨⟨some a, cap, by rw [hlen], by rw [hlen]; exact hle, ?_⟩⟩, ?_⟩
    · by_cases h0 : len = 0
      · left; subst h0; rfl
      · right
        obtain ⟨b, off, spot⟩ := a
        have hspot : spot = none := by simpa [Addr.add] using World.cell?_spot (hcell 0 (by omega)).1
        subst hspot
        have hb : b < W.heap.size := lt_of_block' (v := V 0) (o := off) (by have := (hcell 0 (by omega)).1; rw [addr_add] at this; exact this)
        refine ⟨b, off, rfl, hb, fun j x hj => ?_⟩
        have hj' : j < len := by
          rcases Nat.lt_or_ge j len with h | h
          · exact h
          · rw [List.getElem?_eq_none (by rw [hlen]; exact h)] at hj; cases hj
        have hc := (hcell j (by omega)).1
        rw [addr_add] at hc
        rw [hc]
        have : (fvals .f32 ((List.range len).map fun i => bitsOf (V i)))[j]? = some (V j) := by
          unfold fvals
          rw [List.getElem?_map, List.getElem?_map, List.getElem?_range hj']
          simp only [Option.map_some]
          rw [← (hV j (by omega)).1]
        rw [this] at hj
        exact hj
    · intro x hx
      obtain ⟨i, hi, rfl⟩ := List.mem_map.1 hx
      exact (hV i (by have := List.mem_range.1 hi; omega)).2

/-- a scene that a call is handed -/
structure Scene (l s : Int) (pv cv : Value) (xs cs : List Nat) (W : World) : Prop where
  hl : I64 l
  hs : I64 s
  p : Fls .f32 xs W pv
  c : Fls .f32 cs W cv
  bp : ∀ x ∈ xs, x < 2 ^ 32
  bc : ∀ x ∈ cs, x < 2 ^ 32

theorem pairs_b {xs : List Nat} (h : ∀ x ∈ xs, x < 2 ^ 32) : ∀ z ∈ pairsOf xs, z.1 < 2 ^ 32 ∧ z.2 < 2 ^ 32 := by
  intro z hz
  unfold pairsOf at hz
  obtain ⟨i, hi, rfl⟩ := List.mem_map.1 hz
  have hi' := List.mem_range.1 hi
  have e1 : xs.getD (2 * i) 0 = xs[2 * i]'(by omega) := by rw [List.getD_eq_getElem?_getD, List.getElem?_eq_getElem (by omega), Option.getD_some]
  have e2 : xs.getD (2 * i + 1) 0 = xs[2 * i + 1]'(by omega) := by rw [List.getD_eq_getElem?_getD, List.getElem?_eq_getElem (by omega), Option.getD_some]
  dsimp only
  rw [e1, e2]
  exact ⟨h _ (List.getElem_mem _), h _ (List.getElem_mem _)⟩

set_option maxRecDepth 100000 in
theorem got_scene {H : Type} {enc : TypeId × Value → H} {W : World} {base : Nat} {v : Value} {d : DataW H} {p : List MemPlace} (hval : Value.okWide Try.prog W .any base 24 v) (h : DataW.Trod enc Try.prog W 0 (fun _ => true) true 24 v d p)
    (hsz : ∀ n ∈ d.weights Try.prog 24, n ≤ reachBytes) : ∃ l s pv cv xs cs, v = .agg #[.int .i64 l, .int .i64 s, pv, cv] ∧ Scene l s pv cv xs cs W := by
  obtain ⟨v0, v1, v2, v3, y0, y1, y2, y3, n, rfl, rfl, rfl, h0, h1, h2, h3⟩ := Joins.open_agg4 Try.underlying24 (by kernel_rfl) (by kernel_rfl) hval h
  obtain ⟨l, rfl, hl⟩ := trod_int_cell Try.underlying3 h0
  obtain ⟨s, rfl, hs⟩ := trod_int_cell Try.underlying3 h1
  obtain ⟨xs, hp, bp⟩ := got_floats h2 (fun es sp hd => by
    have := hsz ((es.length + sp.length) * Try.prog.bytesOf 53) (by simp [DataW.weights, DataW.weightsEach, Try.underlying24, Try.underlying22, hd])
    rwa [bytes_f32] at this)
  obtain ⟨cs, hc, bc⟩ := got_floats h3 (fun es sp hd => by
    have := hsz ((es.length + sp.length) * Try.prog.bytesOf 53) (by simp [DataW.weights, DataW.weightsEach, Try.underlying24, Try.underlying22, hd])
    rwa [bytes_f32] at this)
  exact ⟨l, s, v2, v3, xs, cs, rfl, ⟨wf_i64 hl, wf_i64 hs, hp, hc, bp, bc⟩⟩
end Go.Proofs.Ytadajelonekpmaa
