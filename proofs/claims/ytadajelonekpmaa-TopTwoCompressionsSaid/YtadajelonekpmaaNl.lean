import Derived.Test.YtadajelonekpmaaNc
import Derived.Test.YtadajelonekpmaaNj
import Derived.Test.YtadajelonekpmaaEv
namespace Go.Proofs.Ytadajelonekpmaa
open Go.ChangeShapes Go.WideShapes Go.ChangeAt Go.RowKit

theorem tys_ok {ts : List TypeId} (h : (ts.all fun t => Try.prog.readableRec t && decide (t < Try.prog.types.size)) = true) : ∀ t ∈ ts, Try.prog.readableRec t = true ∧ t < Try.prog.types.size := by
  intro t ht
  have := List.all_eq_true.1 h t ht
  rw [Bool.and_eq_true, decide_eq_true_eq] at this
  exact this

theorem cells_int : Try.prog.cellsOf 3 = 1 := by kernel_rfl
theorem bytes_int : Try.prog.bytesOf 3 = 8 := by kernel_rfl

set_option maxRecDepth 100000 in
/-- a list of numbers that a call is handed -/
theorem got_ints {H : Type} {enc : TypeId × Value → H} {W : World} {base : Nat} {v : Value} {d : DataW H} {p : List MemPlace} (hval : Value.okWide Try.prog W .any base 38 v) (h : DataW.Trod enc Try.prog W 0 (fun _ => true) true 38 v d p)
    (hsz : ∀ es sp : List (DataW H), d = .slice es sp → (es.length + sp.length) * 8 ≤ reachBytes) : ∃ xs : List Int, Got xs W v := by
  obtain ⟨a0, len, cap, rfl⟩ := okWide_slice Try.underlying38 hval
  obtain ⟨fuel, hf⟩ := h
  rcases open_ints Try.underlying38 Try.underlying3 cells_int hf with ⟨hcs, hx⟩ | ⟨a, len', cap', zs, hcs, _, hl, hm, hz, hx, hcell, hwz⟩
  · simp [Value.cells] at hcs
    obtain ⟨rfl, rfl, rfl⟩ := hcs
    exact ⟨[], ⟨⟨none, 0, rfl, Nat.zero_le _, .inl rfl⟩, fun n c hv => by injection hv with _ _ h; exact h.symm⟩⟩
  · simp [Value.cells] at hcs
    obtain ⟨rfl, rfl, rfl⟩ := hcs
    simp only [Prod.mk.injEq] at hx
    obtain ⟨rfl, rfl⟩ := hx
    simp only [if_true] at hz
    have hs := hsz _ _ rfl
    have hrb : reachBytes = 140737488351232 := rfl
    have hlen : (zs.take len).length = len := by rw [List.length_take]; omega
    have hll : (lits (H := H) .i64 (zs.take len)).length = len := by unfold lits; rw [List.length_map]; exact hlen
    rw [hll, hrb] at hs
    have hle : len ≤ 140737488351232 := by
      have := Nat.le_trans (Nat.mul_le_mul_right 8 (Nat.le_add_right len (lits (H := H) .i64 (zs.drop len)).length)) hs
      omega
    have hiv : (ivals (zs.take len)).length = len := by unfold ivals; rw [List.length_map]; exact hlen
    refine ⟨zs.take len, ⟨⟨some a, cap, by rw [hiv], by rw [hiv]; exact hle, ?_⟩, fun n c hv => by injection hv with h; cases h⟩⟩
    by_cases h0 : len = 0
    · left; subst h0; rfl
    · right
      obtain ⟨b, off, spot⟩ := a
      have hspot : spot = none := by simpa [Addr.add] using World.cell?_spot (hcell 0 (by omega))
      subst hspot
      have hb : b < W.heap.size := lt_of_block' (v := .int .i64 (zs.getD 0 0)) (o := off) (by have := hcell 0 (by omega); rw [add_none] at this; exact this)
      refine ⟨b, off, rfl, hb, fun j x hj => ?_⟩
      have hj' : j < len := by
        rcases Nat.lt_or_ge j len with h | h
        · exact h
        · rw [List.getElem?_eq_none (by rw [hiv]; exact h)] at hj; cases hj
      have hc := hcell j (by omega)
      rw [add_none] at hc
      rw [hc]
      have : (ivals (zs.take len))[j]? = some (.int .i64 (zs.getD j 0)) := by
        unfold ivals
        rw [List.getElem?_map, List.getElem?_take, if_pos hj', List.getD_eq_getElem?_getD]
        rw [List.getElem?_eq_getElem (by omega)]
        rfl
      rw [this] at hj
      exact hj
end Go.Proofs.Ytadajelonekpmaa
