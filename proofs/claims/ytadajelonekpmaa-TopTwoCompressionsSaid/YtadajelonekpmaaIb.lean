import Derived.Test.YtadajelonekpmaaIa
import Derived.Test.YtadajelonekpmaaCa
import Derived.Laws.StructEq
namespace Go.Proofs.Ytadajelonekpmaa
open Go.RowKit Go.Proofs.Ytadajelonekpmaa.Flt

theorem run_conv_ff0 {P : Program} (src dst : TypeId) (hs : (P.underlying src).isSome = true) (hd : P.underlying dst = some (.float .f64)) {a : Nat} {k : Int} (ha : Rep Ieee.single a k) (hk : k.natAbs ≤ 2 ^ 24) (w : World) :
    ∃ r, (convert src dst (.float .f32 a)).run P w = .ok (.float .f64 r) w ∧ Rep Ieee.double r k := by
  obtain ⟨u, hs'⟩ := Option.isSome_iff_exists.1 hs
  obtain ⟨r, n, h1, -, -, h4⟩ := run_conv_f32 (P := P) a w
  obtain ⟨rfl, h5, -⟩ := h4 k ha hk
  refine ⟨r, ?_, h5⟩
  have h1' : (Conv.floatToFloat .f32 a .f64).run P w = .ok (.float .f64 r) w := h1
  cases u <;> simp [convert, run_underlying hs', run_underlying hd, h1']

/-- is the sample i clipped? how many of the first k? -/
def clipB (zs : List (Nat × Nat)) (i : Nat) : Bool := decide ((re .f32 zs i).natAbs = 2047) || decide ((im .f32 zs i).natAbs = 2047)
def clipTo (zs : List (Nat × Nat)) : Nat → Nat
  | 0 => 0
  | k + 1 => clipTo zs k + if clipB zs k then 1 else 0
theorem clipTo_le (zs : List (Nat × Nat)) : ∀ k, clipTo zs k ≤ k
  | 0 => Nat.le_refl _
  | k + 1 => by
    have := clipTo_le zs k
    rw [clipTo]; split <;> omega

end Go.Proofs.Ytadajelonekpmaa
