import Derived.Test.YtcjdbhcpcigmdaaDoorCa
import Derived.Test.YtcjdbhcpcigmdaaDoorCb
import Derived.Test.YtcjdbhcpcigmdaaDoorDd
namespace Go.Proofs.YtcjdbhcpcigmdaaDoor
open Go.RowKit Go.Proofs.YtcjdbhcpcigmdaaDoor.Flt

theorem ScIn.drew {l s : Int} {pv cv : Value} {xs cs : List Nat} {w W : World} (h : ScIn l s pv cv xs cs w W) : ScIn l s pv cv xs cs w W.drew :=
  ⟨h.blk, h.hb.drew, ⟨⟨h.p.sl.form⟩⟩, ⟨⟨h.c.sl.form⟩⟩⟩

set_option maxRecDepth 100000 in
theorem noField_zero (w : World) : Calls Tryd.prog 38 #[.agg #[.int .i64 0, .int .i64 0, .slice none 0 0]] w fun e w' => e = .returned (.bool true) ∧ Below w.heap.size w w' := by
  go_enter Tryd.func38, Tryd.ntmps38
  go_wp2_with fail
  go_ret
  exact ⟨rfl, (Below.refl _ _).alloc (Nat.le_refl _) _⟩

set_option maxRecDepth 100000 in
theorem refCompress_short (l s : Int) (iv cv : Value) (zs us : List (Nat × Nat)) (w : World) (hiv : Sl w iv (cvals .f32 zs)) (hcv : Sl w cv (cvals .f32 us)) (h : s < us.length) :
    Calls Tryd.prog 39 #[.agg #[.int .i64 l, .int .i64 s, iv], cv] w fun e w' => e = .returned (.tuple #[.agg #[.int .i64 0, .int .i64 0, .slice none 0 0], .int .i64 10]) ∧ Below w.heap.size w w' := by
  obtain ⟨iad, icap, rfl, hil, -⟩ := hiv
  obtain ⟨cad, ccap, rfl, hcl, -⟩ := hcv
  have ey : (cvals .f32 us).length = us.length := by simp [cvals]
  rw [ey] at hcl ⊢
  generalize (cvals .f32 zs).length = n at *
  generalize us.length = m at *
  go_enter Tryd.func39, Tryd.ntmps39
  go_wp2_with fail
  exact bodyPost_ret (v := .tuple #[.agg #[.int .i64 0, .int .i64 0, .slice none 0 0], .int .i64 10]) (by simp [results, Tryd.results39, go_sem]) rfl ⟨rfl, by first | exact ((Below.refl _ _).alloc (Nat.le_refl _) _).alloc (by simp) _ | exact (((((Below.refl _ _).alloc (Nat.le_refl _) _).alloc (by simp) _).setCell (p := ⟨w.heap.size + 1, 0, none⟩) (by show w.heap.size ≤ w.heap.size + 1; omega) _).setCell (p := ⟨w.heap.size + 1, 1, none⟩) (by show w.heap.size ≤ w.heap.size + 1; omega) _).setCell (p := ⟨w.heap.size + 1, 2, none⟩) (by show w.heap.size ≤ w.heap.size + 1; omega) _⟩

theorem smp_nil (W : World) : Smp .f64 [] W (.slice none 0 0) := ⟨none, 0, rfl, Nat.zero_le _, .inl rfl⟩

/-- what a field is that Compress, or the reference, hands back -/
def FieldE (l s : Int) (C : List (Nat × Nat)) (E : Int) (w : World) (e : Ending) (w' : World) : Prop :=
  ∃ v, e = .returned (.tuple #[.agg #[.int .i64 l, .int .i64 s, v], .int .i64 E]) ∧ Below w.heap.size w w' ∧ Smp .f64 C w' v

theorem compress_E (l s : Int) (zs us : List (Nat × Nat)) (hl : I64 l) (hs : I64 s) (hz : ∀ z ∈ zs, z.1 < 2 ^ 32 ∧ z.2 < 2 ^ 32) (hu : ∀ z ∈ us, z.1 < 2 ^ 32 ∧ z.2 < 2 ^ 32) :
    ∃ (l' s' : Int) (C : List (Nat × Nat)), (∀ W v k, Smp .f32 zs W v → Smp .f32 us W k → Calls Tryd.prog 36 #[.agg #[.int .i64 l, .int .i64 s, v], k] W (FieldE l' s' C (compErr l s zs us) W)) ∧
      (compErr l s zs us ≠ 0 → l' = 0 ∧ s' = 0 ∧ C = [] ∧ ∀ W v k, Smp .f32 zs W v → Smp .f32 us W k → Calls Tryd.prog 36 #[.agg #[.int .i64 l, .int .i64 s, v], k] W fun e w' => e = .returned (.tuple #[.agg #[.int .i64 0, .int .i64 0, .slice none 0 0], .int .i64 (compErr l s zs us)]) ∧ Below W.heap.size W w') ∧
      ((dataErr .f32 2047 l s zs).2 = 0 → (codeErr us).2 = 0 → ∀ W v k, Smp .f32 zs W v → Smp .f32 us W k → Calls Tryd.prog 39 #[.agg #[.int .i64 l, .int .i64 s, v], k] W (FieldE l' s' C (compErr l s zs us) W)) := by
  by_cases hE : compErr l s zs us = 0
  · have hE' := hE
    unfold compErr at hE'
    have hD : (dataErr .f32 2047 l s zs).2 = 0 := by
      by_cases h : (dataErr .f32 2047 l s zs).2 = 0
      · exact h
      · rw [if_pos h] at hE'; exact absurd hE' h
    rw [if_neg (fun c => c hD)] at hE'
    have hK : (codeErr us).2 = 0 := by
      by_cases h : (codeErr us).2 = 0
      · exact h
      · rw [if_pos h] at hE'; exact absurd hE' h
    rw [if_neg (fun c => c hK)] at hE'
    have hm : ¬ s < us.length := by
      intro h
      rw [if_pos h] at hE'; cases hE'
    obtain ⟨a1, a2, a3, a4, a5, a6⟩ := dataErr_ok hD
    obtain ⟨k1, k2, k3⟩ := codeErr_ok hK
    obtain ⟨L, rfl⟩ : ∃ L : Nat, l = L := ⟨l.toNat, by omega⟩
    obtain ⟨S, rfl⟩ : ∃ S : Nat, s = S := ⟨s.toNat, by omega⟩
    have hlen : zs.length = L * S := by have : ((L * S : Nat) : Int) = zs.length := by rw [Int.natCast_mul, a5]
                                        omega
    have RI : Right .f32 2047 zs := right_of_ok (by decide) hz a6
    have RC : Right .f32 3 us := right_of_ok (by decide) hu k3
    have hn : L * (S - us.length + 1) ≤ 4096 := Nat.le_trans (Nat.mul_le_mul (show L ≤ 64 by omega) (show S - us.length + 1 ≤ 64 by omega)) (by decide)
    refine ⟨L, (S - us.length + 1 : Nat), compList zs us S (S - us.length + 1) (L * (S - us.length + 1)), fun W v k hv hk => ?_, fun h => absurd hE h, fun _ _ W v k hv hk => ?_⟩
    · rw [hE]
      refine (Compress_ok L S us.length v k zs us W hv.sl hk.sl hz hu (by omega) (by omega) (by omega) (by omega) rfl hD hK (by omega)).mono ?_
      rintro e w' ⟨g, rfl, -, hb, ho⟩
      exact ⟨_, rfl, hb, ⟨Sl.of_owns ho (by omega)⟩⟩
    · rw [hE]
      exact refCompress_ok L S us.length v k zs us W hv.sl hk.sl (by omega) (by omega) (by omega) rfl (by omega) (by omega) (by omega) hlen RI RC
  · have hb : ∀ W v k, Smp .f32 zs W v → Smp .f32 us W k → Calls Tryd.prog 36 #[.agg #[.int .i64 l, .int .i64 s, v], k] W fun e w' => e = .returned (.tuple #[.agg #[.int .i64 0, .int .i64 0, .slice none 0 0], .int .i64 (compErr l s zs us)]) ∧ Below W.heap.size W w' :=
      fun W v k hv hk => Compress_bad l s v k zs us W hl hs hv.sl hk.sl hE
    refine ⟨0, 0, [], fun W v k hv hk => (hb W v k hv hk).mono fun e w' ⟨h1, h2⟩ => ⟨_, h1, h2, smp_nil _⟩, fun _ => ⟨rfl, rfl, rfl, hb⟩, fun hD hK W v k hv hk => ?_⟩
    have hE' := hE
    unfold compErr at hE'
    rw [if_neg (fun c => c hD), if_neg (fun c => c hK)] at hE'
    have hm : s < us.length := by
      by_cases h : s < us.length
      · exact h
      · rw [if_neg h] at hE'; exact absurd rfl hE'
    have h10 : compErr l s zs us = 10 := by unfold compErr; rw [if_neg (fun c => c hD), if_neg (fun c => c hK), if_pos hm]
    rw [h10]
    exact (refCompress_short l s v k zs us W hv.sl hk.sl hm).mono fun e w' ⟨h1, h2⟩ => ⟨_, h1, h2, smp_nil _⟩
end Go.Proofs.YtcjdbhcpcigmdaaDoor
