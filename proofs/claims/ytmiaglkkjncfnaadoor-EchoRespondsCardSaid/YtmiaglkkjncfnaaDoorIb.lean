import Derived.Test.YtmiaglkkjncfnaaDoorIa
import Derived.Test.YtmiaglkkjncfnaaDoorCa
import Derived.Laws.StructEq
namespace Go.Proofs.YtmiaglkkjncfnaaDoor
open Go.RowKit Go.Proofs.YtmiaglkkjncfnaaDoor.Flt

/-- two ranges, compared -/
theorem eq_range (a b c d : Int) (w : World) : (Op.equalIn 10000 29 (.agg #[.int .i64 a, .int .i64 b]) (.agg #[.int .i64 c, .int .i64 d])).run Tryd.prog w = .ok (a == c && b == d) w := by
  have h1 : (Op.equalIn 9999 3 (.int .i64 a) (.int .i64 c)).run Tryd.prog w = .ok (a == c) w := run_equalIn_int (P := Tryd.prog) w 9998 3 .i64 .i64 a c Tryd.underlying3
  have h2 : (Op.equalIn 9999 3 (.int .i64 b) (.int .i64 d)).run Tryd.prog w = .ok (b == d) w := run_equalIn_int (P := Tryd.prog) w 9998 3 .i64 .i64 b d Tryd.underlying3
  rw [run_equalIn_agg (P := Tryd.prog) w 9999 29 _ _ (by kernel_rfl) (by kernel_rfl)]
  have hf : (Tryd.prog.fieldsOf 29).toList = [{ name := "Lo", type := 3, offset := 0, embedded := false, tag := "", pkgPath := "", byteOffset := 0 }, { name := "Hi", type := 3, offset := 1, embedded := false, tag := "", pkgPath := "", byteOffset := 8 }] := by
    unfold Program.fieldsOf
    rw [Tryd.underlying29]
  rw [hf]
  cases hx : (a == c) <;> cases hy : (b == d) <;> rw [hx] at h1 <;> rw [hy] at h2 <;>
    simp [Op.eqFields, Sem.run_bind, go_sem, h1, h2, Tryd.isAgg3, Result.andThen]
theorem guard_range : Tryd.prog.eqGuardType Tryd.prog.depth 29 = false := by kernel_rfl

theorem run_conv_ff0 {P : Program} (src dst : TypeId) (hs : (P.underlying src).isSome = true) (hd : P.underlying dst = some (.float .f64)) {a : Nat} {k : Int} (ha : Rep Ieee.single a k) (hk : k.natAbs ≤ 2 ^ 24) (w : World) :
    ∃ r, (convert src dst (.float .f32 a)).run P w = .ok (.float .f64 r) w ∧ Rep Ieee.double r k := by
  obtain ⟨u, hs'⟩ := Option.isSome_iff_exists.1 hs
  obtain ⟨r, n, h1, -, -, h4⟩ := run_conv_f32 (P := P) a w
  obtain ⟨rfl, h5, -⟩ := h4 k ha hk
  refine ⟨r, ?_, h5⟩
  have h1' : (Conv.floatToFloat .f32 a .f64).run P w = .ok (.float .f64 r) w := h1
  cases u <;> simp [convert, run_underlying hs', run_underlying hd, h1']

/-- is the sample i clipped? how many of the first k? -/
def clipB (zs : List (Nat × Nat)) (i : Nat) : Bool := decide ((re .f32 zs i).natAbs = 2047) || decide ((im .f32 zs i).natAbs = 2047)
def clipTo (zs : List (Nat × Nat)) : Nat → Nat
  | 0 => 0
  | k + 1 => clipTo zs k + if clipB zs k then 1 else 0
theorem clipTo_le (zs : List (Nat × Nat)) : ∀ k, clipTo zs k ≤ k
  | 0 => Nat.le_refl _
  | k + 1 => by
    have := clipTo_le zs k
    rw [clipTo]; split <;> omega

end Go.Proofs.YtmiaglkkjncfnaaDoor
