import Derived.Test.YtodpjhhogcfodaaSx
namespace Go.Proofs.Ytodpjhhogcfodaa.Orb
open Go.ChangeShapes Go.WideShapes Go.ChangeAt Go.RowKit

section
variable {H : Type} {enc : TypeId × Value → H} {W : World} {base base' : Nat} {sp : Nat → Bool} {held : Bool}
theorem cells_r : Try.prog.cellsOf 42 = 2 := by kernel_rfl
theorem cells_n : Try.prog.cellsOf 73 = 3 := by kernel_rfl
set_option maxRecDepth 100000 in
theorem got_claim {v : Value} {d : DataW H} {p : List MemPlace} (hval : Value.okWide Try.prog W .any base' 73 v) (h : DataW.Trod enc Try.prog W base sp held 73 v d p) :
    ∃ lo hi wt : Int, v = .agg #[.int .i64 lo, .int .i64 hi, .int .i64 wt] := by
  obtain ⟨cs, rfl, hsz⟩ := okWide_struct Try.underlying73 hval
  rw [cells_n] at hsz
  obtain ⟨fuel, hf⟩ := h
  obtain ⟨y0, y1, n, hx, hl, g0, g1⟩ := trod_struct2 Try.underlying73 hf
  obtain ⟨l⟩ := cs
  match l, hsz with
  | [c0, c1, c2], _ =>
    have hcs : (Value.agg { toList := [c0, c1, c2] }).cells.toList = [c0, c1, c2] := rfl
    rw [hcs] at g0 g1
    simp only [cells_i, cells_r] at g0 g1
    obtain ⟨z0, z1, n', -, -, q0, q1⟩ := trod_struct2 Try.underlying42 g0
    simp only [cells_i] at q0 q1
    obtain ⟨x1, e1, -, -⟩ := DataW.trod_int Try.underlying3 q0
    obtain ⟨x2, e2, -, -⟩ := DataW.trod_int Try.underlying3 q1
    obtain ⟨x3, e3, -, -⟩ := DataW.trod_int Try.underlying3 g1
    simp at e1 e2 e3
    exact ⟨x1, x2, x3, by rw [e1, e2, e3]⟩
end
end Go.Proofs.Ytodpjhhogcfodaa.Orb
