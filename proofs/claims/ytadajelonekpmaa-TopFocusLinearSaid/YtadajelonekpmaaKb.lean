import Derived.Test.YtadajelonekpmaaKa
import Derived.Test.YtadajelonekpmaaJb
namespace Go.Proofs.Ytadajelonekpmaa
open Go.RowKit Go.Proofs.Ytadajelonekpmaa.Flt

theorem smp_nil32 (W : World) : Smp .f32 [] W (.slice none 0 0) := ⟨none, 0, rfl, Nat.zero_le _, .inl rfl⟩
/-- what an image is that Added, or the reference, hands back -/
def ImgE (l s : Int) (C : List (Nat × Nat)) (E : Int) (w : World) (e : Ending) (w' : World) : Prop :=
  ∃ v, e = .returned (.tuple #[.agg #[.int .i64 l, .int .i64 s, v], .int .i64 E]) ∧ Below w.heap.size w w' ∧ Smp .f32 C w' v

set_option maxRecDepth 100000 in
set_option maxHeartbeats 1000000 in
theorem Added_bad (l s l' s' : Int) (iv jv : Value) (zs ys : List (Nat × Nat)) (w : World) (hl : I64 l) (hs : I64 s) (hl' : I64 l') (hs' : I64 s') (hiv : Sl w iv (cvals .f32 zs)) (hjv : Sl w jv (cvals .f32 ys))
    (h : (dataErr .f32 2047 l s zs).2 ≠ 0 ∨ (dataErr .f32 2047 l' s' ys).2 ≠ 0 ∨ l ≠ l' ∨ s ≠ s') :
    Calls Try.prog 16 #[.agg #[.int .i64 l, .int .i64 s, iv], .agg #[.int .i64 l', .int .i64 s', jv]] w fun e w' => e = .returned (.tuple #[.agg #[.int .i64 0, .int .i64 0, .slice none 0 0], .int .i64 (addErr l s zs l' s' ys)]) ∧ Below w.heap.size w w' := by
  have C1 := Lib.hid (fun w' (hb : Below w.heap.size w w') => CheckImage_any l s iv zs w' hl hs (hiv.below hb (Nat.le_refl _)))
  have C2 := Lib.hid (fun w' (hb : Below w.heap.size w w') => CheckImage_any l' s' jv ys w' hl' hs' (hjv.below hb (Nat.le_refl _)))
  obtain ⟨iad, icap, rfl, hil, -⟩ := hiv
  obtain ⟨jad, jcap, rfl, hjl, -⟩ := hjv
  generalize (cvals .f32 zs).length = n at *
  generalize (cvals .f32 ys).length = m at *
  have HE : Hid (addErr l s zs l' s' ys = if (dataErr .f32 2047 l s zs).2 ≠ 0 then (dataErr .f32 2047 l s zs).2 else if (dataErr .f32 2047 l' s' ys).2 ≠ 0 then (dataErr .f32 2047 l' s' ys).2 else if l ≠ l' ∨ s ≠ s' then 13 else if bigAny zs ys then 8 else 0) := rfl
  generalize addErr l s zs l' s' ys = E at *
  generalize (dataErr .f32 2047 l s zs).1 = D1 at *
  generalize (dataErr .f32 2047 l s zs).2 = D2 at *
  generalize (dataErr .f32 2047 l' s' ys).1 = K1 at *
  generalize (dataErr .f32 2047 l' s' ys).2 = K2 at *
  have hw : ((D2 != 0) = true ∧ Hid (E = D2)) ∨ ((D2 != 0) = false ∧ (K2 != 0) = true ∧ Hid (E = K2)) ∨ ((D2 != 0) = false ∧ (K2 != 0) = false ∧ ((l : Int) != l') = true ∧ Hid (E = 13)) ∨ ((D2 != 0) = false ∧ (K2 != 0) = false ∧ ((l : Int) != l') = false ∧ ((s : Int) != s') = true ∧ Hid (E = 13)) := by
    have := HE.out
    by_cases h1 : D2 = 0
    · rw [if_neg (fun c => c h1)] at this
      by_cases h2 : K2 = 0
      · rw [if_neg (fun c => c h2)] at this
        have h3 : l ≠ l' ∨ s ≠ s' := by
          rcases h with h | h | h
          · exact absurd h1 h
          · exact absurd h2 h
          · exact h
        rw [if_pos h3] at this
        by_cases h4 : l = l'
        · exact .inr (.inr (.inr ⟨by rw [h1]; rfl, by rw [h2]; rfl, by rw [h4, bne_self_eq_false], by rw [bne_iff_ne]; rcases h3 with h3 | h3; exact absurd h4 h3; exact h3, this⟩))
        · exact .inr (.inr (.inl ⟨by rw [h1]; rfl, by rw [h2]; rfl, by rw [bne_iff_ne]; exact h4, this⟩))
      · rw [if_pos h2] at this
        exact .inr (.inl ⟨by rw [h1]; rfl, by rw [bne_iff_ne]; exact h2, this⟩)
    · rw [if_pos h1] at this
      exact .inl ⟨by rw [bne_iff_ne]; exact h1, this⟩
  clear HE h hl hs hl' hs'
  obtain ⟨W0, hW0⟩ : ∃ W0, W0 = ((w.alloc (.cells #[.int .i64 l, .int .i64 s, .slice iad n icap] 29)).alloc (.cells #[.int .i64 l', .int .i64 s', .slice jad m jcap] 29)).alloc (.cells #[.int .i64 0, .int .i64 0, .slice none 0 0] 29) := ⟨_, rfl⟩
  have hB0 : Below w.heap.size w W0 := by rw [hW0]; exact (((Below.refl _ _).alloc (Nat.le_refl _) _).alloc (by simp) _).alloc (by simp; omega) _
  obtain ⟨a0, a1, a2⟩ := alloc3_blocks w (.cells #[.int .i64 l, .int .i64 s, .slice iad n icap] 29) (.cells #[.int .i64 l', .int .i64 s', .slice jad m jcap] 29) (.cells #[.int .i64 0, .int .i64 0, .slice none 0 0] 29)
  rw [← hW0] at a0 a1 a2
  have HB0 := Lib.hid (And.intro hB0 (And.intro a0 (And.intro a1 a2)))
  have HW0 := Lib.hid hW0
  clear hB0 a0 a1 a2 hW0
  rcases hw with ⟨h1, hF⟩ | ⟨h1, h2, hF⟩ | ⟨h1, h2, h3, hF⟩ | ⟨h1, h2, h3, h4, hF⟩
  all_goals
    rw [hF.out]
    go_enter Try.func16, Try.ntmps16
    go_wp2_with fail
    rw [← HW0.out]
    refine (C1.out _ HB0.out.1).mono ?_
    rintro e w1 ⟨rfl, hb⟩
    have HB1 := Lib.hid (HB0.out.1.trans (hb.mono HB0.out.1.size))
    have HN1 : Hid (w1.heap[w.heap.size]? = some (.cells #[.int .i64 l, .int .i64 s, .slice iad n icap] 29 (0, 0)) ∧ w1.heap[w.heap.size + 1]? = some (.cells #[.int .i64 l', .int .i64 s', .slice jad m jcap] 29 (0, 0)) ∧ w1.heap[w.heap.size + 1 + 1]? = some (.cells #[.int .i64 0, .int .i64 0, .slice none 0 0] 29 (0, 0))) :=
      ⟨(hb.block _ (lt_of_block HB0.out.2.1)).trans HB0.out.2.1, (hb.block _ (lt_of_block HB0.out.2.2.1)).trans HB0.out.2.2.1, (hb.block _ (lt_of_block HB0.out.2.2.2)).trans HB0.out.2.2.2⟩
    clear hb HB0
    obtain ⟨c0, c1, c2, -, -, -, l0⟩ := three_cells HN1.out.1
    obtain ⟨k0, k1, k2, -, -, -, l1⟩ := three_cells HN1.out.2.1
    obtain ⟨z0, z1, z2, y0, y1, y2, l2⟩ := three_cells HN1.out.2.2
  · go_wp2_with fail
    exact bodyPost_ret (v := .tuple #[.agg #[.int .i64 0, .int .i64 0, .slice none 0 0], .int .i64 D2]) (by simp [results, Try.results16, go_sem, z0, z1, z2]) rfl ⟨rfl, ((HB1.out.setCell (p := ⟨w.heap.size + 1 + 1, 0, none⟩) (by show w.heap.size ≤ w.heap.size + 1 + 1; omega) _).setCell (p := ⟨w.heap.size + 1 + 1, 1, none⟩) (by show w.heap.size ≤ w.heap.size + 1 + 1; omega) _).setCell (p := ⟨w.heap.size + 1 + 1, 2, none⟩) (by show w.heap.size ≤ w.heap.size + 1 + 1; omega) _⟩
  all_goals
    go_wp2_with fail
    refine (C2.out _ HB1.out).mono ?_
    rintro e w2 ⟨rfl, hb⟩
    have HB2 := Lib.hid (HB1.out.trans (hb.mono HB1.out.size))
    have HN2 : Hid (w2.heap[w.heap.size]? = some (.cells #[.int .i64 l, .int .i64 s, .slice iad n icap] 29 (0, 0)) ∧ w2.heap[w.heap.size + 1]? = some (.cells #[.int .i64 l', .int .i64 s', .slice jad m jcap] 29 (0, 0)) ∧ w2.heap[w.heap.size + 1 + 1]? = some (.cells #[.int .i64 0, .int .i64 0, .slice none 0 0] 29 (0, 0))) :=
      ⟨(hb.block _ (lt_of_block HN1.out.1)).trans HN1.out.1, (hb.block _ (lt_of_block HN1.out.2.1)).trans HN1.out.2.1, (hb.block _ (lt_of_block HN1.out.2.2)).trans HN1.out.2.2⟩
    clear hb HB1 HN1 c0 c1 c2 k0 k1 k2 z0 z1 z2 y0 y1 y2 l0 l1 l2
    obtain ⟨c0, c1, c2, -, -, -, l0⟩ := three_cells HN2.out.1
    obtain ⟨k0, k1, k2, -, -, -, l1⟩ := three_cells HN2.out.2.1
    obtain ⟨z0, z1, z2, y0, y1, y2, l2⟩ := three_cells HN2.out.2.2
    go_wp2_with fail
    exact bodyPost_ret (v := .tuple #[.agg #[.int .i64 0, .int .i64 0, .slice none 0 0], .int .i64 _]) (by simp [results, Try.results16, go_sem, z0, z1, z2]) rfl ⟨rfl, ((HB2.out.setCell (p := ⟨w.heap.size + 1 + 1, 0, none⟩) (by show w.heap.size ≤ w.heap.size + 1 + 1; omega) _).setCell (p := ⟨w.heap.size + 1 + 1, 1, none⟩) (by show w.heap.size ≤ w.heap.size + 1 + 1; omega) _).setCell (p := ⟨w.heap.size + 1 + 1, 2, none⟩) (by show w.heap.size ≤ w.heap.size + 1 + 1; omega) _⟩
end Go.Proofs.Ytadajelonekpmaa
