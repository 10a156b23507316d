import Derived.Test.YtcjdbhcpcigmdaaDoorSa
namespace Go.Proofs.YtcjdbhcpcigmdaaDoor
open Go.RowKit Go.Proofs.YtcjdbhcpcigmdaaDoor.Flt

theorem isZ_tests {z : Nat × Nat} : (FloatKind.f32.format.order z.1 0 == some .eq && FloatKind.f32.format.order z.2 0 == some .eq) = isZ .f32 z := by
  unfold isZ; exact congr (congrArg and (zero_test Ieee.single good_single z.1)) (zero_test Ieee.single good_single z.2)

/-- what the code's check comes to, from the sample k on, if some one of those ahead of it is not 0 (sm) -/
def codeFrom (zs : List (Nat × Nat)) (k : Nat) (sm : Bool) : Int × Int :=
  if (firstErr k ((smpErrs .f32 3 zs).drop k)).2 ≠ 0 then firstErr k ((smpErrs .f32 3 zs).drop k) else if !sm && (zs.drop k).all (isZ .f32) then (0, 11) else (0, 0)
theorem codeFrom_zero (zs : List (Nat × Nat)) (h1 : ¬ zs.length = 0) (h2 : ¬ 32 < zs.length) : codeErr zs = codeFrom zs 0 false := by
  unfold codeErr codeFrom
  rw [if_neg h1, if_neg h2]
  rfl
theorem codeFrom_hit (zs : List (Nat × Nat)) (k : Nat) (sm : Bool) (e : Int) (h : (smpErrs .f32 3 zs)[k]? = some e) (he : e ≠ 0) : codeFrom zs k sm = ((k : Int), e) := by
  have := firstErr_hit 0 _ k e h he
  simp only [Nat.zero_add] at this
  unfold codeFrom
  rw [this, if_pos he]
theorem codeFrom_next (zs : List (Nat × Nat)) (k : Nat) (sm : Bool) (hk : k < zs.length) (h : (smpErrs .f32 3 zs)[k]? = some 0) : codeFrom zs k sm = codeFrom zs (k + 1) (sm || !(isZ .f32 (zs.getD k (0, 0)))) := by
  have h1 := firstErr_zero 0 _ k h
  simp only [Nat.zero_add] at h1
  have e : (!sm && (zs.drop k).all (isZ .f32)) = (!(sm || !(isZ .f32 (zs.getD k (0, 0)))) && (zs.drop (k + 1)).all (isZ .f32)) := by
    rw [List.drop_eq_getElem_cons hk, List.all_cons]
    have : zs.getD k (0, 0) = zs[k] := by rw [List.getD_eq_getElem?_getD, List.getElem?_eq_getElem hk, Option.getD_some]
    rw [this]
    cases sm <;> cases isZ .f32 zs[k] <;> rfl
  unfold codeFrom
  rw [h1, e]
theorem codeFrom_end (zs : List (Nat × Nat)) (k : Nat) (sm : Bool) (h : zs.length ≤ k) : codeFrom zs k sm = if sm then (0, 0) else (0, 11) := by
  unfold codeFrom
  rw [firstErr_end k _ k (by simp [smpErrs]; omega), List.drop_of_length_le h]
  cases sm <;> rfl

set_option maxRecDepth 100000 in
set_option maxHeartbeats 1000000 in
theorem refCheckCode_any (v : Value) (zs : List (Nat × Nat)) (w : World) (hv : Sl w v (cvals .f32 zs)) :
    Calls Tryd.prog 37 #[v] w fun e w' => e = .returned (.tuple #[.int .i64 (codeErr zs).1, .int .i64 (codeErr zs).2]) ∧ Below w.heap.size w w' := by
  have HV := Lib.hid hv
  obtain ⟨ad, cap, rfl, hll, -⟩ := hv
  obtain ⟨n, hn⟩ : ∃ n, n = zs.length := ⟨_, rfl⟩
  have hn' : (cvals .f32 zs).length = n := by rw [hn]; simp [cvals]
  rw [hn'] at hll HV ⊢
  obtain ⟨R, hR⟩ : ∃ R, R = codeErr zs := ⟨_, rfl⟩
  rw [← hR]
  have HN := Lib.hid hn
  by_cases h0 : n = 0
  · have HF : Hid (R = (0, 10)) := by unfold Hid; rw [hR]; unfold codeErr; rw [if_pos (by omega)]
    have hz : ((n : Int) == 0) = true := by rw [beq_iff_eq]; omega
    clear hR hn hn' h0 HV
    go_enter Tryd.func37, Tryd.ntmps37
    go_wp2_with fail
    go_ret2
    exact ⟨by rw [HF.out] <;> rfl, Below.refl _ _⟩
  · have hz : ((n : Int) == 0) = false := by rw [beq_eq_false_iff_ne]; omega
    by_cases h32 : 32 < n
    · have HF : Hid (R = (0, 8)) := by unfold Hid; rw [hR]; unfold codeErr; rw [if_neg (by omega), if_pos (by omega)]
      clear hR hn hn' h0 HV
      go_enter Tryd.func37, Tryd.ntmps37
      go_wp2_with fail
      go_ret2
      exact ⟨by rw [HF.out] <;> rfl, Below.refl _ _⟩
    · have HF : Hid (R = codeFrom zs 0 false) := by unfold Hid; rw [hR]; exact codeFrom_zero zs (by omega) (by omega)
      clear hR hn hn' h0
      go_enter Tryd.func37, Tryd.ntmps37
      go_wp2_with fail
      go_loopw [4, 5] (fun sv i wr => ∃ (k : Nat) (sm : Bool), k ≤ n ∧ i = .int .i64 k ∧ sv = .bool sm ∧ Hid (R = codeFrom zs k sm) ∧ ∃ q, wr = w.drewN q) (fun _ i _ => n - (intOf i).toNat)
      case atStart => exact ⟨0, false, Nat.zero_le _, rfl, rfl, HF, 0, rfl⟩
      case round =>
        obtain ⟨k, sm, hk, rfl, rfl, HK, q, rfl⟩ := hrel
        clear HF
        by_cases hlt : k < n
        · obtain ⟨-, b, off, rfl, -, hcell⟩ := HV.out.at (by omega)
          have hkz : k < zs.length := by have := HN.out; omega
          have hck : w.cell? ⟨b, off + k, none⟩ = some (.complex .f32 (zs.getD k (0, 0)).1 (zs.getD k (0, 0)).2) := hcell k _ (cvals_get hkz)
          have HE := Lib.hid (smpErrs_get (k := .f32) (M := 3) hkz)
          have C := Lib.hid (fun w => sampleErr_any (zs.getD k (0, 0)).1 (zs.getD k (0, 0)).2 3 (by decide) (by decide) w)
          have e0 : Ieee.single = FloatKind.f32.format := rfl
          rw [e0] at C
          have hzt := isZ_tests (z := zs.getD k (0, 0))
          generalize smpErr (wv FloatKind.f32.format (zs.getD k (0, 0)).1) (wv FloatKind.f32.format (zs.getD k (0, 0)).2) 3 = E at *
          by_cases hE0 : E = 0
          · subst hE0
            have HK' := Lib.hid (HK.out.trans (codeFrom_next zs k sm hkz HE.out))
            have hzn : (!(FloatKind.f32.format.order (zs.getD k (0, 0)).1 0 == some .eq) || !(FloatKind.f32.format.order (zs.getD k (0, 0)).2 0 == some .eq)) = !(isZ .f32 (zs.getD k (0, 0))) := by rw [bool_neq, hzt]
            generalize isZ .f32 (zs.getD k (0, 0)) = iz at *
            generalize (zs.getD k (0, 0)).1 = x at *
            generalize (zs.getD k (0, 0)).2 = y at *
            clear hcell e0 hkz HE HK hzt
            cases sm with
            | true =>
              clear hzn
              go_wp2_with fail
              refine (C.out _).mono ?_
              rintro e w' ⟨rfl, n2, rfl⟩
              go_wp2_with fail
              go_roundw
              case rel => exact ⟨k + 1, true, by omega, by go_num, rfl, HK', _, rfl⟩
              case measure => simp [intOf]; omega
            | false =>
              go_wp2_with fail
              refine (C.out _).mono ?_
              rintro e w' ⟨rfl, n2, rfl⟩
              go_wp2_with fail
              go_roundw
              case rel => exact ⟨k + 1, !iz, by omega, by go_num, rfl, HK', _, rfl⟩
              case measure => simp [intOf]; omega
          · have HK' := Lib.hid (HK.out.trans (codeFrom_hit zs k sm E HE.out hE0))
            have hne : (E != 0) = true := by rw [bne_iff_ne]; exact hE0
            generalize (zs.getD k (0, 0)).1 = x at *
            generalize (zs.getD k (0, 0)).2 = y at *
            clear hcell e0 hkz HE HK hzt
            go_wp2_with fail
            refine (C.out _).mono ?_
            rintro e w' ⟨rfl, n2, rfl⟩
            go_wp2_with fail
            go_ret2
            exact ⟨by rw [HK'.out]; rfl, below_drewN' _ _ _⟩
        · have HK' := Lib.hid (HK.out.trans (codeFrom_end zs k sm (by have := HN.out; omega)))
          clear HK
          cases sm with
          | true =>
            go_wp2_with fail
            go_ret2
            exact ⟨by rw [HK'.out]; rfl, below_drewN' _ _ _⟩
          | false =>
            go_wp2_with fail
            go_ret2
            exact ⟨by rw [HK'.out]; rfl, below_drewN' _ _ _⟩

/-- the error of a compression -/
def compErr (l s : Int) (zs us : List (Nat × Nat)) : Int :=
  if (dataErr .f32 2047 l s zs).2 ≠ 0 then (dataErr .f32 2047 l s zs).2 else if (codeErr us).2 ≠ 0 then (codeErr us).2 else if s < us.length then 10 else 0

set_option maxRecDepth 100000 in
set_option maxHeartbeats 1000000 in
theorem Compress_bad (l s : Int) (iv cv : Value) (zs us : List (Nat × Nat)) (w : World) (hl : I64 l) (hs : I64 s) (hiv : Sl w iv (cvals .f32 zs)) (hcv : Sl w cv (cvals .f32 us)) (h : compErr l s zs us ≠ 0) :
    Calls Tryd.prog 36 #[.agg #[.int .i64 l, .int .i64 s, iv], cv] w fun e w' => e = .returned (.tuple #[.agg #[.int .i64 0, .int .i64 0, .slice none 0 0], .int .i64 (compErr l s zs us)]) ∧ Below w.heap.size w w' := by
  have C1 := Lib.hid (fun w' (hb : Below w.heap.size w w') => CheckImage_any l s iv zs w' hl hs (hiv.below hb (Nat.le_refl _)))
  have C2 := Lib.hid (fun w' (hb : Below w.heap.size w w') => CheckCode_any cv us w' (hcv.below hb (Nat.le_refl _)))
  obtain ⟨iad, icap, rfl, hil, -⟩ := hiv
  obtain ⟨cad, ccap, rfl, hcl, -⟩ := hcv
  have ey : (cvals .f32 us).length = us.length := by simp [cvals]
  rw [ey] at C2 hcl ⊢
  generalize (cvals .f32 zs).length = n at *
  have HE : Hid (compErr l s zs us = if (dataErr .f32 2047 l s zs).2 ≠ 0 then (dataErr .f32 2047 l s zs).2 else if (codeErr us).2 ≠ 0 then (codeErr us).2 else if s < us.length then 10 else 0) := rfl
  generalize compErr l s zs us = E at *
  generalize (dataErr .f32 2047 l s zs).1 = D1 at *
  generalize (dataErr .f32 2047 l s zs).2 = D2 at *
  generalize (codeErr us).1 = K1 at *
  generalize (codeErr us).2 = K2 at *
  generalize us.length = m at *
  have hw : ((D2 != 0) = true ∧ Hid (E = D2)) ∨ ((D2 != 0) = false ∧ (K2 != 0) = true ∧ Hid (E = K2)) ∨ ((D2 != 0) = false ∧ (K2 != 0) = false ∧ s < m ∧ Hid (E = 10)) := by
    have := HE.out
    by_cases h1 : D2 = 0
    · rw [if_neg (fun c => c h1)] at this
      by_cases h2 : K2 = 0
      · rw [if_neg (fun c => c h2)] at this
        by_cases h3 : s < m
        · rw [if_pos h3] at this
          exact .inr (.inr ⟨by rw [h1]; rfl, by rw [h2]; rfl, h3, this⟩)
        · rw [if_neg h3] at this; exact absurd this h
      · rw [if_pos h2] at this
        exact .inr (.inl ⟨by rw [h1]; rfl, by rw [bne_iff_ne]; exact h2, this⟩)
    · rw [if_pos h1] at this
      exact .inl ⟨by rw [bne_iff_ne]; exact h1, this⟩
  clear HE h hl hs ey
  obtain ⟨W0, hW0⟩ : ∃ W0, W0 = ((w.alloc (.cells #[.int .i64 l, .int .i64 s, .slice iad n icap] 32)).alloc (.cells #[.slice cad m ccap] 30)).alloc (.cells #[.int .i64 0, .int .i64 0, .slice none 0 0] 49) := ⟨_, rfl⟩
  have hB0 : Below w.heap.size w W0 := by rw [hW0]; exact (((Below.refl _ _).alloc (Nat.le_refl _) _).alloc (by simp) _).alloc (by simp; omega) _
  obtain ⟨a0, a1, a2⟩ := alloc3_blocks w (.cells #[.int .i64 l, .int .i64 s, .slice iad n icap] 32) (.cells #[.slice cad m ccap] 30) (.cells #[.int .i64 0, .int .i64 0, .slice none 0 0] 49)
  rw [← hW0] at a0 a1 a2
  have HB0 := Lib.hid (And.intro hB0 (And.intro a0 (And.intro a1 a2)))
  have HW0 := Lib.hid hW0
  clear hB0 a0 a1 a2 hW0
  rcases hw with ⟨h1, hF⟩ | ⟨h1, h2, hF⟩ | ⟨h1, h2, h3, hF⟩
  all_goals
    rw [hF.out]
    go_enter Tryd.func36, Tryd.ntmps36
    go_wp2_with fail
    rw [← HW0.out]
    refine (C1.out _ HB0.out.1).mono ?_
    rintro e w1 ⟨rfl, hb⟩
    have HB1 := Lib.hid (HB0.out.1.trans (hb.mono HB0.out.1.size))
    have HN1 : Hid (w1.heap[w.heap.size]? = some (.cells #[.int .i64 l, .int .i64 s, .slice iad n icap] 32 (0, 0)) ∧ w1.heap[w.heap.size + 1]? = some (.cells #[.slice cad m ccap] 30 (0, 0)) ∧ w1.heap[w.heap.size + 1 + 1]? = some (.cells #[.int .i64 0, .int .i64 0, .slice none 0 0] 49 (0, 0))) :=
      ⟨(hb.block _ (lt_of_block HB0.out.2.1)).trans HB0.out.2.1, (hb.block _ (lt_of_block HB0.out.2.2.1)).trans HB0.out.2.2.1, (hb.block _ (lt_of_block HB0.out.2.2.2)).trans HB0.out.2.2.2⟩
    clear hb HB0
    obtain ⟨c0, c1, c2, -, -, -, l0⟩ := three_cells HN1.out.1
    obtain ⟨z0, z1, z2, y0, y1, y2, l2⟩ := three_cells HN1.out.2.2
    have k0 := cell_of_one HN1.out.2.1
  · go_wp2_with fail
    exact bodyPost_ret (v := .tuple #[.agg #[.int .i64 0, .int .i64 0, .slice none 0 0], .int .i64 D2]) (by simp [results, Tryd.results36, go_sem, z0, z1, z2]) rfl ⟨rfl, ((HB1.out.setCell (p := ⟨w.heap.size + 1 + 1, 0, none⟩) (by show w.heap.size ≤ w.heap.size + 1 + 1; omega) _).setCell (p := ⟨w.heap.size + 1 + 1, 1, none⟩) (by show w.heap.size ≤ w.heap.size + 1 + 1; omega) _).setCell (p := ⟨w.heap.size + 1 + 1, 2, none⟩) (by show w.heap.size ≤ w.heap.size + 1 + 1; omega) _⟩
  all_goals
    go_wp2_with fail
    refine (C2.out _ HB1.out).mono ?_
    rintro e w2 ⟨rfl, q, rfl⟩
    go_wp2_with fail
    exact bodyPost_ret (v := .tuple #[.agg #[.int .i64 0, .int .i64 0, .slice none 0 0], .int .i64 _]) (by simp [results, Tryd.results36, go_sem, z0, z1, z2]) rfl ⟨rfl, (((HB1.out.trans (below_drewN' _ _ _)).setCell (p := ⟨w.heap.size + 1 + 1, 0, none⟩) (by show w.heap.size ≤ w.heap.size + 1 + 1; omega) _).setCell (p := ⟨w.heap.size + 1 + 1, 1, none⟩) (by show w.heap.size ≤ w.heap.size + 1 + 1; omega) _).setCell (p := ⟨w.heap.size + 1 + 1, 2, none⟩) (by show w.heap.size ≤ w.heap.size + 1 + 1; omega) _⟩
end Go.Proofs.YtcjdbhcpcigmdaaDoor
