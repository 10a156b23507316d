import Derived.Test.YtadajelonekpmaaTa
import Derived.Test.YtadajelonekpmaaFlt
namespace Go.Proofs.Ytadajelonekpmaa
open Go.RowKit Go.Proofs.Ytadajelonekpmaa.Flt

theorem o_zero : FloatKind.f64.format.order 0 0 = some .eq := by decide +kernel

end Go.Proofs.Ytadajelonekpmaa

namespace Go.Proofs.Ytadajelonekpmaa
open Go.RowKit Go.Proofs.Ytadajelonekpmaa.Flt

/-- the tests of a part against a bound, as the reference makes them -/
theorem bound_tests {x : Nat} {a M : Int} (hx : wv Ieee.double x = some a) (hM : M.natAbs ≤ 2 ^ 53) :
    (Ieee.double.order x (Op.negFloat .f64 (enc Ieee.double M)) == some .lt) = decide (a < -M) ∧ (Ieee.double.order x (enc Ieee.double M) == some .gt) = decide (M < a) := by
  obtain ⟨s, m, e, r⟩ := wv_reads good_double hx
  obtain ⟨t, k, j, r2, -⟩ := rep_reads good_double (Rep.enc Ieee.double M) hM
  have hn : Rep Ieee.double (Op.negFloat .f64 (enc Ieee.double M)) (-M) := neg_rep (k := .f64) good_double (Rep.enc _ M) hM
  obtain ⟨t3, k3, j3, r3, -⟩ := rep_reads good_double hn (by rw [Int.natAbs_neg]; exact hM)
  rw [order_reads r r3, order_reads r r2, cmp_lt, cmp_gt]
  exact ⟨rfl, rfl⟩

theorem smpErr_none {a b : Option Int} {M : Int} (h : a.isSome = false ∨ b.isSome = false) : smpErr a b M = 29 := by
  unfold smpErr
  cases a <;> cases b <;> simp at h ⊢

theorem five (p q r s : Bool) : p = true ∨ (p = false ∧ q = true) ∨ (p = false ∧ q = false ∧ r = true) ∨ (p = false ∧ q = false ∧ r = false ∧ s = true) ∨ (p = false ∧ q = false ∧ r = false ∧ s = false) := by
  cases p <;> cases q <;> cases r <;> cases s <;> simp

theorem run_conv_ff {P : Program} (src dst : TypeId) (hs : (P.underlying src).isSome = true) (hd : P.underlying dst = some (.float .f64)) (a : Nat) (w : World) :
    ∃ r n, (convert src dst (.float .f32 a)).run P w = .ok (.float .f64 r) (w.drewN n) ∧ wv Ieee.double r = wv Ieee.single a := by
  obtain ⟨u, hs'⟩ := Option.isSome_iff_exists.1 hs
  obtain ⟨r, n, h1, h2, -, -⟩ := run_conv_f32 (P := P) a w
  refine ⟨r, n, ?_, h2⟩
  cases u <;> simp [convert, run_underlying hs', run_underlying hd, h1]

end Go.Proofs.Ytadajelonekpmaa
