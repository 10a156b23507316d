import Derived.Test.YtmiaglkkjncfnaaDoorWa
namespace Go.Proofs.YtmiaglkkjncfnaaDoor
open Go.RowKit Go.Proofs.YtmiaglkkjncfnaaDoor.Flt

theorem smpErrs_get {k : FloatKind} {M : Int} {zs : List (Nat × Nat)} {i : Nat} (h : i < zs.length) : (smpErrs k M zs)[i]? = some (smpErr (wv k.format (zs.getD i (0, 0)).1) (wv k.format (zs.getD i (0, 0)).2) M) := by
  simp [smpErrs, List.getElem?_eq_getElem h, List.getD_eq_getElem?_getD]

set_option maxRecDepth 100000 in
set_option maxHeartbeats 1000000 in
theorem refCheckImage_any (l s : Int) (v : Value) (zs : List (Nat × Nat)) (w : World) (hv : Sl w v (cvals .f32 zs)) :
    Calls Tryd.prog 19 #[.agg #[.int .i64 l, .int .i64 s, v]] w fun e w' => e = .returned (.tuple #[.int .i64 (dataErr .f32 2047 l s zs).1, .int .i64 (dataErr .f32 2047 l s zs).2]) ∧ Below w.heap.size w w' := by
  have C0 := Lib.hid (fun w => refSize_any l s zs.length w)
  have HV := Lib.hid hv
  obtain ⟨ad, cap, rfl, hll, -⟩ := hv
  obtain ⟨n, hn⟩ : ∃ n, n = zs.length := ⟨_, rfl⟩
  have hn' : (cvals .f32 zs).length = n := by rw [hn]; simp [cvals]
  rw [hn'] at hll HV ⊢
  rw [← hn] at C0
  obtain ⟨R, hR⟩ : ∃ R, R = dataErr .f32 2047 l s zs := ⟨_, rfl⟩
  rw [← hR]
  unfold dataErr at hR
  rw [← hn] at hR
  have HR := Lib.hid hR
  have HN := Lib.hid hn
  clear hR hn hn'
  generalize sizeErr l s (n : Int) = E at *
  by_cases hE : E = 0
  · subst hE
    have HF : Hid (R = firstErr 0 ((smpErrs .f32 2047 zs).drop 0)) := HR.out.trans (by rw [if_neg (by simp)]; rfl)
    clear HR
    go_enter Tryd.func19, Tryd.ntmps19
    go_wp2_with fail
    refine (C0.out _).mono ?_
    rintro e w' ⟨rfl, rfl⟩
    go_wp2_with fail
    obtain ⟨W0, hW0⟩ : ∃ W0, W0 = w.alloc (.cells #[.int .i64 l, .int .i64 s, .slice ad n cap] 50) := ⟨_, rfl⟩
    have HB : Hid (Below w.heap.size w W0) := by rw [hW0]; exact (Below.refl _ _).alloc (Nat.le_refl _) _
    have H3 : Hid (W0.heap[w.heap.size]? = some (.cells #[.int .i64 l, .int .i64 s, .slice ad n cap] 50 (0, 0))) := by rw [hW0]; exact heap_alloc_new _ _
    have HV0 := Lib.hid (HV.out.below HB.out (Nat.le_refl _))
    rw [← hW0]
    clear hW0 HV C0
    obtain ⟨-, -, c2, -, -, -, l1⟩ := three_cells H3.out
    go_loopw [5] (fun i wr => ∃ k : Nat, k ≤ n ∧ i = .int .i64 k ∧ Hid (R = firstErr k ((smpErrs .f32 2047 zs).drop k)) ∧ ∃ q, wr = W0.drewN q) (fun i _ => n - (intOf i).toNat)
    case atStart => exact ⟨0, Nat.zero_le _, rfl, HF, 0, rfl⟩
    case round =>
      obtain ⟨k, hk, rfl, HK, q, rfl⟩ := hrel
      clear HF
      by_cases hlt : k < n
      · obtain ⟨-, b, off, rfl, -, hcell⟩ := HV0.out.at (by omega)
        have hkz : k < zs.length := by have := HN.out; omega
        have hck : W0.cell? ⟨b, off + k, none⟩ = some (.complex .f32 (zs.getD k (0, 0)).1 (zs.getD k (0, 0)).2) := hcell k _ (cvals_get hkz)
        have HE := Lib.hid (smpErrs_get (k := .f32) (M := 2047) hkz)
        have C := Lib.hid (fun w => sampleErr_any (zs.getD k (0, 0)).1 (zs.getD k (0, 0)).2 2047 (by decide) (by decide) w)
        have e0 : Ieee.single = FloatKind.f32.format := rfl
        rw [e0] at C
        generalize smpErr (wv FloatKind.f32.format (zs.getD k (0, 0)).1) (wv FloatKind.f32.format (zs.getD k (0, 0)).2) 2047 = E at *
        generalize (zs.getD k (0, 0)).1 = x at *
        generalize (zs.getD k (0, 0)).2 = y at *
        clear hcell e0 hkz
        by_cases hE0 : E = 0
        · subst hE0
          have HK' : Hid (R = firstErr (k + 1) ((smpErrs .f32 2047 zs).drop (k + 1))) := by
            have := firstErr_zero 0 _ k HE.out
            simp only [Nat.zero_add] at this
            exact HK.out.trans this
          clear HE HK
          go_wp2_with fail
          refine (C.out _).mono ?_
          rintro e w' ⟨rfl, n2, rfl⟩
          go_wp2_with fail
          go_roundw
          case rel => exact ⟨k + 1, by omega, by go_num, HK', _, rfl⟩
          case measure => simp [intOf]; omega
        · have HK' : Hid (R = ((k : Int), E)) := by
            have := firstErr_hit 0 _ k E HE.out hE0
            simp only [Nat.zero_add] at this
            exact HK.out.trans this
          clear HE HK
          have hne : (E != 0) = true := by rw [bne_iff_ne]; exact hE0
          go_wp2_with fail
          refine (C.out _).mono ?_
          rintro e w' ⟨rfl, n2, rfl⟩
          go_wp2_with fail
          go_ret2
          exact ⟨by rw [HK'.out]; rfl, HB.out.trans (below_drewN' _ _ _)⟩
      · have HK' : Hid (R = (0, 0)) := by
          have : (smpErrs .f32 2047 zs).length ≤ k := by have := HN.out; simp [smpErrs]; omega
          exact HK.out.trans (firstErr_end k _ k this)
        clear HK
        go_wp2_with fail
        go_ret2
        exact ⟨by rw [HK'.out]; rfl, HB.out.trans (below_drewN' _ _ _)⟩
  · have HF : Hid (R = (0, E)) := HR.out.trans (by rw [if_pos hE])
    have h5 : (E != 0) = true := by rw [bne_iff_ne]; exact hE
    clear HR hE
    go_enter Tryd.func19, Tryd.ntmps19
    go_wp2_with fail
    refine (C0.out _).mono ?_
    rintro e w' ⟨rfl, rfl⟩
    go_wp2_with fail
    go_ret2
    exact ⟨by rw [HF.out]; rfl, (Below.refl _ _).alloc (Nat.le_refl _) _⟩

set_option maxRecDepth 100000 in
set_option maxHeartbeats 1000000 in
theorem refCheckField_any (l s : Int) (v : Value) (zs : List (Nat × Nat)) (w : World) (hv : Sl w v (cvals .f64 zs)) :
    Calls Tryd.prog 10 #[.agg #[.int .i64 l, .int .i64 s, v]] w fun e w' => e = .returned (.tuple #[.int .i64 (dataErr .f64 1000000000 l s zs).1, .int .i64 (dataErr .f64 1000000000 l s zs).2]) ∧ Below w.heap.size w w' := by
  have C0 := Lib.hid (fun w => refSize_any l s zs.length w)
  have HV := Lib.hid hv
  obtain ⟨ad, cap, rfl, hll, -⟩ := hv
  obtain ⟨n, hn⟩ : ∃ n, n = zs.length := ⟨_, rfl⟩
  have hn' : (cvals .f64 zs).length = n := by rw [hn]; simp [cvals]
  rw [hn'] at hll HV ⊢
  rw [← hn] at C0
  obtain ⟨R, hR⟩ : ∃ R, R = dataErr .f64 1000000000 l s zs := ⟨_, rfl⟩
  rw [← hR]
  unfold dataErr at hR
  rw [← hn] at hR
  have HR := Lib.hid hR
  have HN := Lib.hid hn
  clear hR hn hn'
  generalize sizeErr l s (n : Int) = E at *
  by_cases hE : E = 0
  · subst hE
    have HF : Hid (R = firstErr 0 ((smpErrs .f64 1000000000 zs).drop 0)) := HR.out.trans (by rw [if_neg (by simp)]; rfl)
    clear HR
    go_enter Tryd.func10, Tryd.ntmps10
    go_wp2_with fail
    refine (C0.out _).mono ?_
    rintro e w' ⟨rfl, rfl⟩
    go_wp2_with fail
    obtain ⟨W0, hW0⟩ : ∃ W0, W0 = w.alloc (.cells #[.int .i64 l, .int .i64 s, .slice ad n cap] 37) := ⟨_, rfl⟩
    have HB : Hid (Below w.heap.size w W0) := by rw [hW0]; exact (Below.refl _ _).alloc (Nat.le_refl _) _
    have H3 : Hid (W0.heap[w.heap.size]? = some (.cells #[.int .i64 l, .int .i64 s, .slice ad n cap] 37 (0, 0))) := by rw [hW0]; exact heap_alloc_new _ _
    have HV0 := Lib.hid (HV.out.below HB.out (Nat.le_refl _))
    rw [← hW0]
    clear hW0 HV C0
    obtain ⟨-, -, c2, -, -, -, l1⟩ := three_cells H3.out
    go_loopw [5] (fun i wr => ∃ k : Nat, k ≤ n ∧ i = .int .i64 k ∧ Hid (R = firstErr k ((smpErrs .f64 1000000000 zs).drop k)) ∧ ∃ q, wr = W0.drewN q) (fun i _ => n - (intOf i).toNat)
    case atStart => exact ⟨0, Nat.zero_le _, rfl, HF, 0, rfl⟩
    case round =>
      obtain ⟨k, hk, rfl, HK, q, rfl⟩ := hrel
      clear HF
      by_cases hlt : k < n
      · obtain ⟨-, b, off, rfl, -, hcell⟩ := HV0.out.at (by omega)
        have hkz : k < zs.length := by have := HN.out; omega
        have hck : W0.cell? ⟨b, off + k, none⟩ = some (.complex .f64 (zs.getD k (0, 0)).1 (zs.getD k (0, 0)).2) := hcell k _ (cvals_get hkz)
        have HE := Lib.hid (smpErrs_get (k := .f64) (M := 1000000000) hkz)
        have C := Lib.hid (fun w => partErr_any (zs.getD k (0, 0)).1 (zs.getD k (0, 0)).2 1000000000 (by decide) (by decide) w)
        have e0 : Ieee.double = FloatKind.f64.format := rfl
        rw [e0] at C
        generalize smpErr (wv FloatKind.f64.format (zs.getD k (0, 0)).1) (wv FloatKind.f64.format (zs.getD k (0, 0)).2) 1000000000 = E at *
        generalize (zs.getD k (0, 0)).1 = x at *
        generalize (zs.getD k (0, 0)).2 = y at *
        clear hcell e0 hkz
        by_cases hE0 : E = 0
        · subst hE0
          have HK' : Hid (R = firstErr (k + 1) ((smpErrs .f64 1000000000 zs).drop (k + 1))) := by
            have := firstErr_zero 0 _ k HE.out
            simp only [Nat.zero_add] at this
            exact HK.out.trans this
          clear HE HK
          obtain ⟨wq, hwq⟩ : ∃ wq, wq = W0.drewN q := ⟨_, rfl⟩
          have k2 : wq.cell? ⟨w.heap.size, 2, none⟩ = some (.slice (some ⟨b, off, none⟩) n cap) := by rw [hwq]; exact c2
          have kk : wq.cell? ⟨b, off + k, none⟩ = some (.complex .f64 x y) := by rw [hwq]; exact hck
          have HQ := Lib.hid hwq
          rw [← hwq]
          clear hwq c2 hck
          go_wp2_with fail
          go_quiet ((go_at_call 38; exact Calls.quiet_of (C.out _)))
          go_wp2_with fail
          go_roundw
          case rel => exact ⟨k + 1, by omega, by go_num, HK', _, by rw [HQ.out, World.drewN_drewN]⟩
          case measure => simp [intOf]; omega
        · have HK' : Hid (R = ((k : Int), E)) := by
            have := firstErr_hit 0 _ k E HE.out hE0
            simp only [Nat.zero_add] at this
            exact HK.out.trans this
          clear HE HK
          have hne : (E != 0) = true := by rw [bne_iff_ne]; exact hE0
          obtain ⟨wq, hwq⟩ : ∃ wq, wq = W0.drewN q := ⟨_, rfl⟩
          have k2 : wq.cell? ⟨w.heap.size, 2, none⟩ = some (.slice (some ⟨b, off, none⟩) n cap) := by rw [hwq]; exact c2
          have kk : wq.cell? ⟨b, off + k, none⟩ = some (.complex .f64 x y) := by rw [hwq]; exact hck
          have HQ := Lib.hid hwq
          rw [← hwq]
          clear hwq c2 hck
          go_wp2_with fail
          go_quiet ((go_at_call 38; exact Calls.quiet_of (C.out _)))
          go_wp2_with fail
          go_ret2
          exact ⟨by rw [HK'.out]; rfl, HB.out.trans (by rw [HQ.out, World.drewN_drewN]; exact below_drewN' _ _ _)⟩
      · have HK' : Hid (R = (0, 0)) := by
          have : (smpErrs .f64 1000000000 zs).length ≤ k := by have := HN.out; simp [smpErrs]; omega
          exact HK.out.trans (firstErr_end k _ k this)
        clear HK
        go_wp2_with fail
        go_ret2
        exact ⟨by rw [HK'.out]; rfl, HB.out.trans (below_drewN' _ _ _)⟩
  · have HF : Hid (R = (0, E)) := HR.out.trans (by rw [if_pos hE])
    have h5 : (E != 0) = true := by rw [bne_iff_ne]; exact hE
    clear HR hE
    go_enter Tryd.func10, Tryd.ntmps10
    go_wp2_with fail
    refine (C0.out _).mono ?_
    rintro e w' ⟨rfl, rfl⟩
    go_wp2_with fail
    go_ret2
    exact ⟨by rw [HF.out]; rfl, (Below.refl _ _).alloc (Nat.le_refl _) _⟩
end Go.Proofs.YtmiaglkkjncfnaaDoor
