import Derived.Test.YtcjdbhcpcigmdaaDoorSl
namespace Go.Proofs.YtcjdbhcpcigmdaaDoor
open Go.RowKit Go.Proofs.YtcjdbhcpcigmdaaDoor.Flt

namespace Flt
open Go Ieee
/-- is it a zero? -/
theorem zero_test (f : Format) (g : Good f) (x : Nat) : (f.order x 0 == some .eq) = decide (wv f x = some 0) := by
  have hz : f.read 0 = .number false 0 f.leastPlace := by have := read_zero f; rwa [enc_zero] at this
  cases h : f.read x with
  | nan s t => rw [order_nan h, wv_nan h]; rfl
  | infinity s =>
    rw [wv_inf h]
    simp only [Format.order, h, hz, Datum.order]
    cases s <;> rfl
  | number s m e =>
    have hp := (number_place h).1
    have hlp := lp_nonpos g
    have key : ∀ u : Int, (some (compare u 0) == some Ordering.eq) = decide (u = 0) := by
      intro u
      have : (some (compare u 0) == some Ordering.eq) = (compare u 0 == Ordering.eq) := rfl
      rw [this]
      simp only [compare, compareOfLessAndEq]
      by_cases h1 : u < 0
      · simp [h1]; omega
      · by_cases h2 : u = 0 <;> simp [h1, h2]
    have h0 : signed false 0 (f.leastPlace - min e f.leastPlace).toNat = 0 := by rw [signed_val]; simp
    simp only [Format.order, h, hz, Datum.order, h0]
    rw [key]
    have hs : signed s m (e - min e f.leastPlace).toNat = 0 ↔ m = 0 := by
      rw [signed_val]
      constructor
      · intro hh
        have := congrArg Int.natAbs hh
        rw [sgn_natAbs] at this
        rcases Nat.mul_eq_zero.1 (by simpa using this) with h5 | h5
        · exact h5
        · exact absurd h5 (Nat.ne_of_gt (Nat.two_pow_pos _))
      · intro hh; subst hh; simp
    have hw : wv f x = some 0 ↔ m = 0 := by
      unfold wv
      rw [h]
      dsimp only
      by_cases he : 0 ≤ e
      · rw [if_pos he, Option.some.injEq]
        constructor
        · intro hh
          have := congrArg Int.natAbs hh
          rw [sgn_natAbs] at this
          rcases Nat.mul_eq_zero.1 (by simpa using this) with h5 | h5
          · exact h5
          · exact absurd h5 (Nat.ne_of_gt (Nat.two_pow_pos _))
        · intro hh; subst hh; simp
      · rw [if_neg he]
        by_cases hd : m % 2 ^ (-e).toNat = 0
        · rw [if_pos hd, Option.some.injEq]
          constructor
          · intro hh
            have := congrArg Int.natAbs hh
            rw [sgn_natAbs] at this
            have h2 := Nat.div_add_mod m (2 ^ (-e).toNat)
            rw [hd, show m / 2 ^ (-e).toNat = 0 from by simpa using this] at h2
            simpa using h2.symm
          · intro hh; subst hh; simp
        · rw [if_neg hd]
          constructor
          · intro hh; cases hh
          · intro hh; subst hh; simp at hd
    simp only [hs, hw]
end Flt

/-- both parts are zeros -/
def isZ (k : FloatKind) (z : Nat × Nat) : Bool := decide (wv k.format z.1 = some 0) && decide (wv k.format z.2 = some 0)

theorem all_drop_true (k : FloatKind) (zs : List (Nat × Nat)) (j : Nat) (hj : j < zs.length) (h : isZ k zs[j] = true) : (zs.drop j).all (isZ k) = (zs.drop (j + 1)).all (isZ k) := by
  rw [List.drop_eq_getElem_cons hj, List.all_cons, h, Bool.true_and]
theorem all_drop_false (k : FloatKind) (zs : List (Nat × Nat)) (j : Nat) (hj : j < zs.length) (h : isZ k zs[j] = false) : (zs.drop j).all (isZ k) = false := by
  rw [List.drop_eq_getElem_cons hj, List.all_cons, h, Bool.false_and]

theorem bool_neq (a b : Bool) : (!a || !b) = !(a && b) := by cases a <;> cases b <;> rfl

set_option maxRecDepth 100000 in
/-- ARE ALL SAMPLES ZERO? -/
theorem allZero_any (v : Value) (zs : List (Nat × Nat)) (w : World) (hv : Sl w v (cvals .f32 zs)) :
    Calls Tryd.prog 74 #[v] w fun e w' => e = .returned (.bool (zs.all (isZ .f32))) ∧ w = w' := by
  obtain ⟨ad, cap, rfl, hl, hc⟩ := hv
  obtain ⟨n, hn⟩ : ∃ n, n = (cvals .f32 zs).length := ⟨_, rfl⟩
  rw [← hn] at hl ⊢
  have hn' : n = zs.length := by rw [hn]; simp [cvals]
  obtain ⟨R, hR⟩ : ∃ R, R = zs.all (isZ .f32) := ⟨_, rfl⟩
  rw [← hR]
  have HR := Lib.hid hR
  have HN := Lib.hid hn'
  have HC := Lib.hid hc
  clear hR hn hn' hc
  go_enter Tryd.func74, Tryd.ntmps74
  go_wp2_with fail
  go_loop [7] (fun i => ∃ k : Nat, k ≤ n ∧ i = .int .i64 k ∧ Hid (R = (zs.drop k).all (isZ .f32))) (fun i => n - (intOf i).toNat)
  case atStart => exact ⟨0, Nat.zero_le _, rfl, HR⟩
  case round =>
    obtain ⟨k, hk, rfl, HK⟩ := hrel
    by_cases hlt : k < n
    · have hkz : k < zs.length := by have := HN.out; omega
      rcases HC.out with h | ⟨b, off, rfl, hb, hcell⟩
      · have := HN.out; rw [show zs = [] from by simpa [cvals] using h] at this; simp at this; omega
      have hck : w.cell? ⟨b, off + k, none⟩ = some (.complex .f32 zs[k].1 zs[k].2) := hcell k _ (by simp [cvals, List.getElem?_eq_getElem hkz])
      have t1 := zero_test Ieee.single good_single zs[k].1
      have t2 := zero_test Ieee.single good_single zs[k].2
      cases hz : isZ .f32 zs[k] with
      | true =>
        have HK' : Hid (R = (zs.drop (k + 1)).all (isZ .f32)) := HK.out.trans (all_drop_true _ _ _ hkz hz)
        have e1 : (FloatKind.f32.format.order zs[k].1 0 == some .eq) = true := by
          have : decide (wv Ieee.single zs[k].1 = some 0) = true := by unfold isZ at hz; rw [Bool.and_eq_true] at hz; exact hz.1
          exact t1.trans this
        have e2 : (FloatKind.f32.format.order zs[k].2 0 == some .eq) = true := by
          have : decide (wv Ieee.single zs[k].2 = some 0) = true := by unfold isZ at hz; rw [Bool.and_eq_true] at hz; exact hz.2
          exact t2.trans this
        generalize zs[k].1 = z1 at *
        generalize zs[k].2 = z2 at *
        clear t1 t2 hz HK hcell HC
        go_wp2_with fail
        go_round
        case rel => exact ⟨k + 1, by omega, by go_num, HK'⟩
        case measure => simp [intOf]; omega
      | false =>
        have HK' : Hid (R = false) := HK.out.trans (all_drop_false _ _ _ hkz hz)
        have e3 : (!(FloatKind.f32.format.order zs[k].1 0 == some .eq) || !(FloatKind.f32.format.order zs[k].2 0 == some .eq)) = true := by
          rw [bool_neq]
          have : (FloatKind.f32.format.order zs[k].1 0 == some .eq && FloatKind.f32.format.order zs[k].2 0 == some .eq) = isZ .f32 zs[k] := by
            unfold isZ; exact congr (congrArg and t1) t2
          rw [this, hz]; rfl
        generalize zs[k].1 = z1 at *
        generalize zs[k].2 = z2 at *
        clear t1 t2 hz HK hcell HC
        go_wp2_with fail
        go_ret
        exact ⟨by rw [HK'.out]; rfl, rfl⟩
    · have HK' : Hid (R = true) := by
        have : zs.length ≤ k := by have := HN.out; omega
        exact HK.out.trans (by rw [List.drop_of_length_le this]; rfl)
      clear HK
      go_wp2_with fail
      go_ret
      exact ⟨by rw [HK'.out]; rfl, rfl⟩

set_option maxHeartbeats 1000000 in
set_option maxRecDepth 100000 in
/-- THE FIRST WRONG SAMPLE, of complex128 -/
theorem checkSamples128_any (v : Value) (zs : List (Nat × Nat)) (m : Nat) (M : Int) (w : World) (hv : Sl w v (cvals .f64 zs)) (hz : ∀ z ∈ zs, z.1 < 2 ^ 64 ∧ z.2 < 2 ^ 64) (hm : Rep Ieee.double m M) (h0 : 0 ≤ M) (hM : M.natAbs ≤ 2 ^ 53) :
    Calls Tryd.prog 80 #[v, .float .f64 m] w fun e w' => e = .returned (.tuple #[.int .i64 (firstErr 0 (smpErrs .f64 M zs)).1, .int .i64 (firstErr 0 (smpErrs .f64 M zs)).2]) ∧ ∃ n, w' = w.drewN n := by
  obtain ⟨ad, cap, rfl, hl, hc⟩ := hv
  obtain ⟨n, hn⟩ : ∃ n, n = (cvals .f64 zs).length := ⟨_, rfl⟩
  rw [← hn] at hl ⊢
  have hn' : n = zs.length := by rw [hn]; simp [cvals]
  have HM := Lib.hid (And.intro hm (And.intro h0 hM))
  obtain ⟨R, hR⟩ : ∃ R, R = firstErr 0 (smpErrs .f64 M zs) := ⟨_, rfl⟩
  rw [← hR]
  have HR := Lib.hid hR
  have HN := Lib.hid hn'
  have HC := Lib.hid hc
  have HZ := Lib.hid hz
  clear hm h0 hM hR hn hn' hc hz
  go_enter Tryd.func80, Tryd.ntmps80
  go_wp2_with fail
  go_loopw [11] (fun i wr => ∃ k : Nat, k ≤ n ∧ i = .int .i64 k ∧ Hid (R = firstErr k ((smpErrs .f64 M zs).drop k)) ∧ ∃ q, wr = w.drewN q) (fun i _ => n - (intOf i).toNat)
  case atStart => exact ⟨0, Nat.zero_le _, rfl, HR, 0, rfl⟩
  case round =>
    obtain ⟨k, hk, rfl, HK, q, rfl⟩ := hrel
    by_cases hlt : k < n
    · have hkz : k < zs.length := by have := HN.out; omega
      rcases HC.out with h | ⟨b, off, rfl, hb, hcell⟩
      · have := HN.out; rw [show zs = [] from by simpa [cvals] using h] at this; simp at this; omega
      have hck : w.cell? ⟨b, off + k, none⟩ = some (.complex .f64 zs[k].1 zs[k].2) := hcell k _ (by simp [cvals, List.getElem?_eq_getElem hkz])
      have hx' := HZ.out zs[k] (List.getElem_mem hkz)
      have hE : (smpErrs .f64 M zs)[k]? = some (smpErr (wv Ieee.double zs[k].1) (wv Ieee.double zs[k].2) M) := by
        simp [smpErrs, List.getElem?_eq_getElem hkz]; rfl
      have C := Lib.hid (fun w => checkSample_any zs[k].1 zs[k].2 m M hx'.1 hx'.2 HM.out.1 HM.out.2.1 HM.out.2.2 w)
      have HE := Lib.hid hE
      generalize smpErr (wv Ieee.double zs[k].1) (wv Ieee.double zs[k].2) M = E at *
      generalize zs[k].1 = z1 at *
      generalize zs[k].2 = z2 at *
      clear hE hx' hkz hcell hb HC
      by_cases hE0 : E = 0
      · subst hE0
        have HK' : Hid (R = firstErr (k + 1) ((smpErrs .f64 M zs).drop (k + 1))) := by
          have := firstErr_zero 0 _ k HE.out
          simp only [Nat.zero_add] at this
          exact HK.out.trans this
        clear HE HK
        go_wp2_with fail
        refine (C.out _).mono ?_
        rintro e w' ⟨rfl, n2, rfl⟩
        go_wp2_with fail
        go_roundw
        case rel => exact ⟨k + 1, by omega, by go_num, HK', _, rfl⟩
        case measure => simp [intOf]; omega
      · have HK' : Hid (R = ((k : Int), E)) := by
          have := firstErr_hit 0 _ k E HE.out hE0
          simp only [Nat.zero_add] at this
          exact HK.out.trans this
        clear HE HK
        have hne : (E != 0) = true := by rw [bne_iff_ne]; exact hE0
        go_wp2_with fail
        refine (C.out _).mono ?_
        rintro e w' ⟨rfl, n2, rfl⟩
        go_wp2_with fail
        go_ret2
        exact ⟨by rw [HK'.out]; rfl, _, rfl⟩
    · have HK' : Hid (R = (0, 0)) := by
        have : (smpErrs .f64 M zs).length ≤ k := by have := HN.out; simp [smpErrs]; omega
        exact HK.out.trans (firstErr_end k _ k this)
      clear HK
      go_wp2_with fail
      go_ret2
      exact ⟨by rw [HK'.out]; rfl, _, rfl⟩

/-- what CheckCode answers -/
def codeErr (zs : List (Nat × Nat)) : Int × Int :=
  if zs.length = 0 then (0, 10) else if 32 < zs.length then (0, 8)
  else if (firstErr 0 (smpErrs .f32 3 zs)).2 ≠ 0 then firstErr 0 (smpErrs .f32 3 zs)
  else if zs.all (isZ .f32) then (0, 11) else (0, 0)

theorem three_rep : Rep Ieee.double 4613937818241073152 3 := .inl (by decide +kernel)
theorem sample_rep : Rep Ieee.double 4656717616654581760 2047 := .inl (by decide +kernel)
theorem field_rep : Rep Ieee.double 4741671816366391296 1000000000 := .inl (by decide +kernel)

set_option maxHeartbeats 1000000 in
set_option maxRecDepth 100000 in
theorem CheckCode_any (v : Value) (zs : List (Nat × Nat)) (w : World) (hv : Sl w v (cvals .f32 zs)) :
    Calls Tryd.prog 34 #[v] w fun e w' => e = .returned (.tuple #[.int .i64 (codeErr zs).1, .int .i64 (codeErr zs).2]) ∧ ∃ n, w' = w.drewN n := by
  have C1 := Lib.hid (fun q => checkSamples64_any v zs 4613937818241073152 3 (w.drewN q) (hv.drewN q) three_rep (by decide) (by decide))
  have C2 := Lib.hid (fun q => allZero_any v zs (w.drewN q) (hv.drewN q))
  obtain ⟨ad, cap, rfl, hl, hc⟩ := hv
  obtain ⟨n, hn⟩ : ∃ n, n = (cvals .f32 zs).length := ⟨_, rfl⟩
  rw [← hn] at hl C1 C2 ⊢
  have hn' : n = zs.length := by rw [hn]; simp [cvals]
  obtain ⟨R, hR⟩ : ∃ R, R = codeErr zs := ⟨_, rfl⟩
  rw [← hR]
  unfold codeErr at hR
  rw [← hn'] at hR
  have HR := Lib.hid hR
  clear hR hn hn' hc
  by_cases h1 : n = 0
  · subst h1
    have HF : Hid (R = (0, 10)) := HR.out.trans (by rw [if_pos rfl])
    clear HR C1 C2
    go_enter Tryd.func34, Tryd.ntmps34
    go_wp2_with fail
    go_ret2
    exact ⟨by rw [HF.out]; rfl, 0, rfl⟩
  by_cases h2 : 32 < n
  · have HF : Hid (R = (0, 8)) := HR.out.trans (by rw [if_neg h1, if_pos h2])
    have h3 : ((n : Int) == 0) = false := by rw [beq_eq_false_iff_ne]; omega
    clear HR C1 C2 h1
    go_enter Tryd.func34, Tryd.ntmps34
    go_wp2_with fail
    go_ret2
    exact ⟨by rw [HF.out]; rfl, 0, rfl⟩
  have h3 : ((n : Int) == 0) = false := by rw [beq_eq_false_iff_ne]; omega
  rw [if_neg h1, if_neg h2] at HR
  generalize firstErr 0 (smpErrs .f32 3 zs) = F at *
  generalize zs.all (isZ .f32) = z at *
  obtain ⟨F1, F2⟩ := F
  dsimp only at HR C1
  by_cases h4 : F2 = 0
  · subst h4
    rw [if_neg (by simp)] at HR
    clear h1
    cases z
    · have HF : Hid (R = (0, 0)) := HR.out.trans (by simp)
      clear HR
      go_enter Tryd.func34, Tryd.ntmps34
      go_wp2_with fail
      refine (C1.out 0).mono ?_
      rintro e w' ⟨rfl, n2, rfl⟩
      go_wp2_with fail
      refine (C2.out _).mono ?_
      rintro e w' ⟨rfl, rfl⟩
      go_wp2_with fail
      go_ret2
      exact ⟨by rw [HF.out]; rfl, _, rfl⟩
    · have HF : Hid (R = (0, 11)) := HR.out.trans (by simp)
      clear HR
      go_enter Tryd.func34, Tryd.ntmps34
      go_wp2_with fail
      refine (C1.out 0).mono ?_
      rintro e w' ⟨rfl, n2, rfl⟩
      go_wp2_with fail
      refine (C2.out _).mono ?_
      rintro e w' ⟨rfl, rfl⟩
      go_wp2_with fail
      go_ret2
      exact ⟨by rw [HF.out]; rfl, _, rfl⟩
  · have HF : Hid (R = (F1, F2)) := HR.out.trans (by rw [if_pos h4])
    have h5 : (F2 != 0) = true := by rw [bne_iff_ne]; exact h4
    clear HR h1 h4
    go_enter Tryd.func34, Tryd.ntmps34
    go_wp2_with fail
    refine (C1.out 0).mono ?_
    rintro e w' ⟨rfl, n2, rfl⟩
    go_wp2_with fail
    go_ret2
    exact ⟨by rw [HF.out]; rfl, _, rfl⟩

/-- what CheckImage and CheckField answer -/
def dataErr (k : FloatKind) (M l s : Int) (zs : List (Nat × Nat)) : Int × Int :=
  if sizeErr l s zs.length ≠ 0 then (0, sizeErr l s zs.length) else firstErr 0 (smpErrs k M zs)

/-- the range of an int -/
def I64 (n : Int) : Prop := -9223372036854775808 ≤ n ∧ n ≤ 9223372036854775807

set_option maxHeartbeats 1000000 in
set_option maxRecDepth 100000 in
theorem CheckImage_any (l s : Int) (v : Value) (zs : List (Nat × Nat)) (w : World) (hl : I64 l) (hs : I64 s) (hv : Sl w v (cvals .f32 zs)) :
    Calls Tryd.prog 17 #[.agg #[.int .i64 l, .int .i64 s, v]] w fun e w' => e = .returned (.tuple #[.int .i64 (dataErr .f32 2047 l s zs).1, .int .i64 (dataErr .f32 2047 l s zs).2]) ∧ Below w.heap.size w w' := by
  have C0 := Lib.hid (fun w => checkSize_any l s zs.length hl.1 hl.2 hs.1 hs.2 w)
  have hb : ∀ o, Sl (w.alloc o) v (cvals .f32 zs) := fun o => hv.below ((Below.refl w.heap.size w).alloc (Nat.le_refl _) o) (Nat.le_refl _)
  have C1 := Lib.hid (fun o => checkSamples64_any v zs 4656717616654581760 2047 (w.alloc o) (hb o) sample_rep (by decide) (by decide))
  obtain ⟨ad, cap, rfl, hll, -⟩ := hv
  obtain ⟨n, hn⟩ : ∃ n, n = zs.length := ⟨_, rfl⟩
  have hn' : (cvals .f32 zs).length = n := by rw [hn]; simp [cvals]
  rw [hn'] at hll C1 ⊢
  rw [← hn] at C0
  obtain ⟨R, hR⟩ : ∃ R, R = dataErr .f32 2047 l s zs := ⟨_, rfl⟩
  rw [← hR]
  unfold dataErr at hR
  rw [← hn] at hR
  have HR := Lib.hid hR
  clear hR hn hn' hb hl hs
  generalize sizeErr l s (n : Int) = E at *
  generalize firstErr 0 (smpErrs .f32 2047 zs) = F at *
  by_cases hE : E = 0
  · subst hE
    have HF : Hid (R = F) := HR.out.trans (by rw [if_neg (by simp)])
    clear HR
    go_enter Tryd.func17, Tryd.ntmps17
    go_wp2_with fail
    refine (C0.out _).mono ?_
    rintro e w' ⟨rfl, rfl⟩
    go_wp2_with fail
    refine (C1.out _).mono ?_
    rintro e w' ⟨rfl, n2, rfl⟩
    go_wp2_with fail
    go_ret2
    exact ⟨by rw [HF.out]; rfl, ((Below.refl _ _).alloc (Nat.le_refl _) _).trans (below_drewN' _ _ _)⟩
  · have HF : Hid (R = (0, E)) := HR.out.trans (by rw [if_pos hE])
    have h5 : (E != 0) = true := by rw [bne_iff_ne]; exact hE
    clear HR hE
    go_enter Tryd.func17, Tryd.ntmps17
    go_wp2_with fail
    refine (C0.out _).mono ?_
    rintro e w' ⟨rfl, rfl⟩
    go_wp2_with fail
    go_ret2
    exact ⟨by rw [HF.out]; rfl, (Below.refl _ _).alloc (Nat.le_refl _) _⟩

set_option maxHeartbeats 1000000 in
set_option maxRecDepth 100000 in
theorem CheckField_any (l s : Int) (v : Value) (zs : List (Nat × Nat)) (w : World) (hl : I64 l) (hs : I64 s) (hv : Sl w v (cvals .f64 zs)) (hz : ∀ z ∈ zs, z.1 < 2 ^ 64 ∧ z.2 < 2 ^ 64) :
    Calls Tryd.prog 26 #[.agg #[.int .i64 l, .int .i64 s, v]] w fun e w' => e = .returned (.tuple #[.int .i64 (dataErr .f64 1000000000 l s zs).1, .int .i64 (dataErr .f64 1000000000 l s zs).2]) ∧ Below w.heap.size w w' := by
  have C0 := Lib.hid (fun w => checkSize_any l s zs.length hl.1 hl.2 hs.1 hs.2 w)
  have hb : ∀ o, Sl (w.alloc o) v (cvals .f64 zs) := fun o => hv.below ((Below.refl w.heap.size w).alloc (Nat.le_refl _) o) (Nat.le_refl _)
  have C1 := Lib.hid (fun o => checkSamples128_any v zs 4741671816366391296 1000000000 (w.alloc o) (hb o) hz field_rep (by decide) (by decide))
  obtain ⟨ad, cap, rfl, hll, -⟩ := hv
  obtain ⟨n, hn⟩ : ∃ n, n = zs.length := ⟨_, rfl⟩
  have hn' : (cvals .f64 zs).length = n := by rw [hn]; simp [cvals]
  rw [hn'] at hll C1 ⊢
  rw [← hn] at C0
  obtain ⟨R, hR⟩ : ∃ R, R = dataErr .f64 1000000000 l s zs := ⟨_, rfl⟩
  rw [← hR]
  unfold dataErr at hR
  rw [← hn] at hR
  have HR := Lib.hid hR
  clear hR hn hn' hb hl hs hz
  generalize sizeErr l s (n : Int) = E at *
  generalize firstErr 0 (smpErrs .f64 1000000000 zs) = F at *
  by_cases hE : E = 0
  · subst hE
    have HF : Hid (R = F) := HR.out.trans (by rw [if_neg (by simp)])
    clear HR
    go_enter Tryd.func26, Tryd.ntmps26
    go_wp2_with fail
    refine (C0.out _).mono ?_
    rintro e w' ⟨rfl, rfl⟩
    go_wp2_with fail
    refine (C1.out _).mono ?_
    rintro e w' ⟨rfl, n2, rfl⟩
    go_wp2_with fail
    go_ret2
    exact ⟨by rw [HF.out]; rfl, ((Below.refl _ _).alloc (Nat.le_refl _) _).trans (below_drewN' _ _ _)⟩
  · have HF : Hid (R = (0, E)) := HR.out.trans (by rw [if_pos hE])
    have h5 : (E != 0) = true := by rw [bne_iff_ne]; exact hE
    clear HR hE
    go_enter Tryd.func26, Tryd.ntmps26
    go_wp2_with fail
    refine (C0.out _).mono ?_
    rintro e w' ⟨rfl, rfl⟩
    go_wp2_with fail
    go_ret2
    exact ⟨by rw [HF.out]; rfl, (Below.refl _ _).alloc (Nat.le_refl _) _⟩
end Go.Proofs.YtcjdbhcpcigmdaaDoor
