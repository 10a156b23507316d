import Derived.Test.YtmbolmmcfnfamaaZf
import Derived.Test.YtmbolmmcfnfamaaSx
namespace Go.Proofs.Ytmbolmmcfnfamaa.Orb
open Go.ChangeShapes Go.WideShapes Go.ChangeAt Go.RowKit

section
variable {H : Type} {enc : TypeId × Value → H} {W : World} {base base' : Nat} {sp : Nat → Bool} {held : Bool}
set_option maxRecDepth 100000 in
/-- parts that a law was handed -/
theorem got_parts {v : Value} {d : DataW H} {p : List MemPlace} (hval : Value.okWide Try.prog W .any base' 56 v) (h : DataW.Trod enc Try.prog W base sp held 56 v d p) : ∃ np part, Parts W v np part := by
  obtain ⟨a0, len, cap, rfl⟩ := okWide_slice Try.underlying56 hval
  obtain ⟨fuel, hf⟩ := h
  exact parts_of hf
theorem size_three {cs : Array Value} (h : cs.size = 3) : ∃ c0 c1 c2, cs = #[c0, c1, c2] := by
  obtain ⟨l⟩ := cs
  match l, h with
  | [a, b, c], _ => exact ⟨a, b, c, rfl⟩
set_option maxRecDepth 100000 in
/-- an array of three numbers that a law was handed -/
theorem got_arr3 {v : Value} {d : DataW H} {p : List MemPlace} (hval : Value.okWide Try.prog W .any base' 57 v) (h : DataW.Trod enc Try.prog W base sp held 57 v d p) : ∃ a b c : Int, v = .agg #[.int .i64 a, .int .i64 b, .int .i64 c] := by
  simp only [Value.okWide, Try.underlying57] at hval
  obtain ⟨cs, rfl, h2, -⟩ := hval
  obtain ⟨c0, c1, c2, rfl⟩ := size_three (h2.trans cells_a)
  obtain ⟨fuel, hf⟩ := h
  have hf' : DataW.trod enc Try.prog W base sp held fuel 57 [c0, c1, c2] = some (d, p) := hf
  obtain ⟨y0, y1, y2, n2, -, q0, q1, q2⟩ := trod_array3 Try.underlying57 (by kernel_rfl) hf'
  obtain ⟨x1, e1, -, -⟩ := DataW.trod_int Try.underlying3 q0
  obtain ⟨x2, e2, -, -⟩ := DataW.trod_int Try.underlying3 q1
  obtain ⟨x3, e3, -, -⟩ := DataW.trod_int Try.underlying3 q2
  simp at e1 e2 e3
  exact ⟨x1, x2, x3, by rw [e1, e2, e3]⟩
end
end Go.Proofs.Ytmbolmmcfnfamaa.Orb
