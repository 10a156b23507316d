import Derived.Test.YtadajelonekpmaaEa
import Derived.Deep.RegionHeld3
import Derived.Shelf.Abstract
import Derived.BigRegion
namespace Go.Proofs.Ytadajelonekpmaa
open Go.RowKit Go.Proofs.Ytadajelonekpmaa.Flt

namespace Flt
open Go Ieee
/-- is it a zero? -/
theorem zero_test (f : Format) (g : Good f) (x : Nat) : (f.order x 0 == some .eq) = decide (wv f x = some 0) := by
  have hz : f.read 0 = .number false 0 f.leastPlace := by have := read_zero f; rwa [enc_zero] at this
  cases h : f.read x with
  | nan s t => rw [order_nan h, wv_nan h]; rfl
  | infinity s =>
    rw [wv_inf h]
    simp only [Format.order, h, hz, Datum.order]
    cases s <;> rfl
  | number s m e =>
    have hp := (number_place h).1
    have hlp := lp_nonpos g
    have key : ∀ u : Int, (some (compare u 0) == some Ordering.eq) = decide (u = 0) := by
      intro u
      have : (some (compare u 0) == some Ordering.eq) = (compare u 0 == Ordering.eq) := rfl
      rw [this]
      simp only [compare, compareOfLessAndEq]
      by_cases h1 : u < 0
      · simp [h1]; omega
      · by_cases h2 : u = 0 <;> simp [h1, h2]
    have h0 : signed false 0 (f.leastPlace - min e f.leastPlace).toNat = 0 := by rw [signed_val]; simp
    simp only [Format.order, h, hz, Datum.order, h0]
    rw [key]
    have hs : signed s m (e - min e f.leastPlace).toNat = 0 ↔ m = 0 := by
      rw [signed_val]
      constructor
      · intro hh
        have := congrArg Int.natAbs hh
        rw [sgn_natAbs] at this
        rcases Nat.mul_eq_zero.1 (by simpa using this) with h5 | h5
        · exact h5
        · exact absurd h5 (Nat.ne_of_gt (Nat.two_pow_pos _))
      · intro hh; subst hh; simp
    have hw : wv f x = some 0 ↔ m = 0 := by
      unfold wv
      rw [h]
      dsimp only
      by_cases he : 0 ≤ e
      · rw [if_pos he, Option.some.injEq]
        constructor
        · intro hh
          have := congrArg Int.natAbs hh
          rw [sgn_natAbs] at this
          rcases Nat.mul_eq_zero.1 (by simpa using this) with h5 | h5
          · exact h5
          · exact absurd h5 (Nat.ne_of_gt (Nat.two_pow_pos _))
        · intro hh; subst hh; simp
      · rw [if_neg he]
        by_cases hd : m % 2 ^ (-e).toNat = 0
        · rw [if_pos hd, Option.some.injEq]
          constructor
          · intro hh
            have := congrArg Int.natAbs hh
            rw [sgn_natAbs] at this
            have h2 := Nat.div_add_mod m (2 ^ (-e).toNat)
            rw [hd, show m / 2 ^ (-e).toNat = 0 from by simpa using this] at h2
            simpa using h2.symm
          · intro hh; subst hh; simp
        · rw [if_neg hd]
          constructor
          · intro hh; cases hh
          · intro hh; subst hh; simp at hd
    simp only [hs, hw]
end Flt

/-- both parts are zeros -/
def isZ (k : FloatKind) (z : Nat × Nat) : Bool := decide (wv k.format z.1 = some 0) && decide (wv k.format z.2 = some 0)

theorem all_drop_true (k : FloatKind) (zs : List (Nat × Nat)) (j : Nat) (hj : j < zs.length) (h : isZ k zs[j] = true) : (zs.drop j).all (isZ k) = (zs.drop (j + 1)).all (isZ k) := by
  rw [List.drop_eq_getElem_cons hj, List.all_cons, h, Bool.true_and]
theorem all_drop_false (k : FloatKind) (zs : List (Nat × Nat)) (j : Nat) (hj : j < zs.length) (h : isZ k zs[j] = false) : (zs.drop j).all (isZ k) = false := by
  rw [List.drop_eq_getElem_cons hj, List.all_cons, h, Bool.false_and]

theorem bool_neq (a b : Bool) : (!a || !b) = !(a && b) := by cases a <;> cases b <;> rfl

set_option maxRecDepth 100000 in
/-- ARE ALL SAMPLES ZERO? -/
theorem allZero_any (v : Value) (zs : List (Nat × Nat)) (w : World) (hv : Sl w v (cvals .f32 zs)) :
    Calls Try.prog 40 #[v] w fun e w' => e = .returned (.bool (zs.all (isZ .f32))) ∧ w = w' := by
  obtain ⟨ad, cap, rfl, hl, hc⟩ := hv
  obtain ⟨n, hn⟩ : ∃ n, n = (cvals .f32 zs).length := ⟨_, rfl⟩
  rw [← hn] at hl ⊢
  have hn' : n = zs.length := by rw [hn]; simp [cvals]
  obtain ⟨R, hR⟩ : ∃ R, R = zs.all (isZ .f32) := ⟨_, rfl⟩
  rw [← hR]
  have HR := Lib.hid hR
  have HN := Lib.hid hn'
  have HC := Lib.hid hc
  clear hR hn hn' hc
  go_enter Try.func40, Try.ntmps40
  go_wp2_with fail
  go_loop [7] (fun i => ∃ k : Nat, k ≤ n ∧ i = .int .i64 k ∧ Hid (R = (zs.drop k).all (isZ .f32))) (fun i => n - (intOf i).toNat)
  case atStart => exact ⟨0, Nat.zero_le _, rfl, HR⟩
  case round =>
    obtain ⟨k, hk, rfl, HK⟩ := hrel
    by_cases hlt : k < n
    · have hkz : k < zs.length := by have := HN.out; omega
      rcases HC.out with h | ⟨b, off, rfl, hb, hcell⟩
      · have := HN.out; rw [show zs = [] from by simpa [cvals] using h] at this; simp at this; omega
      have hck : w.cell? ⟨b, off + k, none⟩ = some (.complex .f32 zs[k].1 zs[k].2) := hcell k _ (by simp [cvals, List.getElem?_eq_getElem hkz])
      have t1 := zero_test Ieee.single good_single zs[k].1
      have t2 := zero_test Ieee.single good_single zs[k].2
      cases hz : isZ .f32 zs[k] with
      | true =>
        have HK' : Hid (R = (zs.drop (k + 1)).all (isZ .f32)) := HK.out.trans (all_drop_true _ _ _ hkz hz)
        have e1 : (FloatKind.f32.format.order zs[k].1 0 == some .eq) = true := by
          have : decide (wv Ieee.single zs[k].1 = some 0) = true := by unfold isZ at hz; rw [Bool.and_eq_true] at hz; exact hz.1
          exact t1.trans this
        have e2 : (FloatKind.f32.format.order zs[k].2 0 == some .eq) = true := by
          have : decide (wv Ieee.single zs[k].2 = some 0) = true := by unfold isZ at hz; rw [Bool.and_eq_true] at hz; exact hz.2
          exact t2.trans this
        generalize zs[k].1 = z1 at *
        generalize zs[k].2 = z2 at *
        clear t1 t2 hz HK hcell HC
        go_wp2_with fail
        go_round
        case rel => exact ⟨k + 1, by omega, by go_num, HK'⟩
        case measure => simp [intOf]; omega
      | false =>
        have HK' : Hid (R = false) := HK.out.trans (all_drop_false _ _ _ hkz hz)
        have e3 : (!(FloatKind.f32.format.order zs[k].1 0 == some .eq) || !(FloatKind.f32.format.order zs[k].2 0 == some .eq)) = true := by
          rw [bool_neq]
          have : (FloatKind.f32.format.order zs[k].1 0 == some .eq && FloatKind.f32.format.order zs[k].2 0 == some .eq) = isZ .f32 zs[k] := by
            unfold isZ; exact congr (congrArg and t1) t2
          rw [this, hz]; rfl
        generalize zs[k].1 = z1 at *
        generalize zs[k].2 = z2 at *
        clear t1 t2 hz HK hcell HC
        go_wp2_with fail
        go_ret
        exact ⟨by rw [HK'.out]; rfl, rfl⟩
    · have HK' : Hid (R = true) := by
        have : zs.length ≤ k := by have := HN.out; omega
        exact HK.out.trans (by rw [List.drop_of_length_le this]; rfl)
      clear HK
      go_wp2_with fail
      go_ret
      exact ⟨by rw [HK'.out]; rfl, rfl⟩

set_option maxHeartbeats 1000000 in
set_option maxRecDepth 100000 in
/-- THE FIRST WRONG SAMPLE, of complex128 -/
theorem checkSamples128_any (v : Value) (zs : List (Nat × Nat)) (m : Nat) (M : Int) (w : World) (hv : Sl w v (cvals .f64 zs)) (hz : ∀ z ∈ zs, z.1 < 2 ^ 64 ∧ z.2 < 2 ^ 64) (hm : Rep Ieee.double m M) (h0 : 0 ≤ M) (hM : M.natAbs ≤ 2 ^ 53) :
    Calls Try.prog 44 #[v, .float .f64 m] w fun e w' => e = .returned (.tuple #[.int .i64 (firstErr 0 (smpErrs .f64 M zs)).1, .int .i64 (firstErr 0 (smpErrs .f64 M zs)).2]) ∧ ∃ n, w' = w.drewN n := by
  obtain ⟨ad, cap, rfl, hl, hc⟩ := hv
  obtain ⟨n, hn⟩ : ∃ n, n = (cvals .f64 zs).length := ⟨_, rfl⟩
  rw [← hn] at hl ⊢
  have hn' : n = zs.length := by rw [hn]; simp [cvals]
  have HM := Lib.hid (And.intro hm (And.intro h0 hM))
  obtain ⟨R, hR⟩ : ∃ R, R = firstErr 0 (smpErrs .f64 M zs) := ⟨_, rfl⟩
  rw [← hR]
  have HR := Lib.hid hR
  have HN := Lib.hid hn'
  have HC := Lib.hid hc
  have HZ := Lib.hid hz
  clear hm h0 hM hR hn hn' hc hz
  go_enter Try.func44, Try.ntmps44
  go_wp2_with fail
  go_loopw [11] (fun i wr => ∃ k : Nat, k ≤ n ∧ i = .int .i64 k ∧ Hid (R = firstErr k ((smpErrs .f64 M zs).drop k)) ∧ ∃ q, wr = w.drewN q) (fun i _ => n - (intOf i).toNat)
  case atStart => exact ⟨0, Nat.zero_le _, rfl, HR, 0, rfl⟩
  case round =>
    obtain ⟨k, hk, rfl, HK, q, rfl⟩ := hrel
    by_cases hlt : k < n
    · have hkz : k < zs.length := by have := HN.out; omega
      rcases HC.out with h | ⟨b, off, rfl, hb, hcell⟩
      · have := HN.out; rw [show zs = [] from by simpa [cvals] using h] at this; simp at this; omega
      have hck : w.cell? ⟨b, off + k, none⟩ = some (.complex .f64 zs[k].1 zs[k].2) := hcell k _ (by simp [cvals, List.getElem?_eq_getElem hkz])
      have hx' := HZ.out zs[k] (List.getElem_mem hkz)
      have hE : (smpErrs .f64 M zs)[k]? = some (smpErr (wv Ieee.double zs[k].1) (wv Ieee.double zs[k].2) M) := by
        simp [smpErrs, List.getElem?_eq_getElem hkz]; rfl
      have C := Lib.hid (fun w => checkSample_any zs[k].1 zs[k].2 m M hx'.1 hx'.2 HM.out.1 HM.out.2.1 HM.out.2.2 w)
      have HE := Lib.hid hE
      generalize smpErr (wv Ieee.double zs[k].1) (wv Ieee.double zs[k].2) M = E at *
      generalize zs[k].1 = z1 at *
      generalize zs[k].2 = z2 at *
      clear hE hx' hkz hcell hb HC
      by_cases hE0 : E = 0
      · subst hE0
        have HK' : Hid (R = firstErr (k + 1) ((smpErrs .f64 M zs).drop (k + 1))) := by
          have := firstErr_zero 0 _ k HE.out
          simp only [Nat.zero_add] at this
          exact HK.out.trans this
        clear HE HK
        go_wp2_with fail
        refine (C.out _).mono ?_
        rintro e w' ⟨rfl, n2, rfl⟩
        go_wp2_with fail
        go_roundw
        case rel => exact ⟨k + 1, by omega, by go_num, HK', _, rfl⟩
        case measure => simp [intOf]; omega
      · have HK' : Hid (R = ((k : Int), E)) := by
          have := firstErr_hit 0 _ k E HE.out hE0
          simp only [Nat.zero_add] at this
          exact HK.out.trans this
        clear HE HK
        have hne : (E != 0) = true := by rw [bne_iff_ne]; exact hE0
        go_wp2_with fail
        refine (C.out _).mono ?_
        rintro e w' ⟨rfl, n2, rfl⟩
        go_wp2_with fail
        go_ret2
        exact ⟨by rw [HK'.out]; rfl, _, rfl⟩
    · have HK' : Hid (R = (0, 0)) := by
        have : (smpErrs .f64 M zs).length ≤ k := by have := HN.out; simp [smpErrs]; omega
        exact HK.out.trans (firstErr_end k _ k this)
      clear HK
      go_wp2_with fail
      go_ret2
      exact ⟨by rw [HK'.out]; rfl, _, rfl⟩

/-- what CheckCode answers -/
def codeErr (zs : List (Nat × Nat)) : Int × Int :=
  if zs.length = 0 then (0, 10) else if 32 < zs.length then (0, 8)
  else if (firstErr 0 (smpErrs .f32 3 zs)).2 ≠ 0 then firstErr 0 (smpErrs .f32 3 zs)
  else if zs.all (isZ .f32) then (0, 11) else (0, 0)

theorem three_rep : Rep Ieee.double 4613937818241073152 3 := .inl (by decide +kernel)
theorem sample_rep : Rep Ieee.double 4656717616654581760 2047 := .inl (by decide +kernel)
theorem field_rep : Rep Ieee.double 4741671816366391296 1000000000 := .inl (by decide +kernel)

set_option maxHeartbeats 1000000 in
set_option maxRecDepth 100000 in
theorem CheckCode_any (v : Value) (zs : List (Nat × Nat)) (w : World) (hv : Sl w v (cvals .f32 zs)) :
    Calls Try.prog 22 #[v] w fun e w' => e = .returned (.tuple #[.int .i64 (codeErr zs).1, .int .i64 (codeErr zs).2]) ∧ ∃ n, w' = w.drewN n := by
  have C1 := Lib.hid (fun q => checkSamples64_any v zs 4613937818241073152 3 (w.drewN q) (hv.drewN q) three_rep (by decide) (by decide))
  have C2 := Lib.hid (fun q => allZero_any v zs (w.drewN q) (hv.drewN q))
  obtain ⟨ad, cap, rfl, hl, hc⟩ := hv
  obtain ⟨n, hn⟩ : ∃ n, n = (cvals .f32 zs).length := ⟨_, rfl⟩
  rw [← hn] at hl C1 C2 ⊢
  have hn' : n = zs.length := by rw [hn]; simp [cvals]
  obtain ⟨R, hR⟩ : ∃ R, R = codeErr zs := ⟨_, rfl⟩
  rw [← hR]
  unfold codeErr at hR
  rw [← hn'] at hR
  have HR := Lib.hid hR
  clear hR hn hn' hc
  by_cases h1 : n = 0
  · subst h1
    have HF : Hid (R = (0, 10)) := HR.out.trans (by rw [if_pos rfl])
    clear HR C1 C2
    go_enter Try.func22, Try.ntmps22
    go_wp2_with fail
    go_ret2
    exact ⟨by rw [HF.out]; rfl, 0, rfl⟩
  by_cases h2 : 32 < n
  · have HF : Hid (R = (0, 8)) := HR.out.trans (by rw [if_neg h1, if_pos h2])
    have h3 : ((n : Int) == 0) = false := by rw [beq_eq_false_iff_ne]; omega
    clear HR C1 C2 h1
    go_enter Try.func22, Try.ntmps22
    go_wp2_with fail
    go_ret2
    exact ⟨by rw [HF.out]; rfl, 0, rfl⟩
  have h3 : ((n : Int) == 0) = false := by rw [beq_eq_false_iff_ne]; omega
  rw [if_neg h1, if_neg h2] at HR
  generalize firstErr 0 (smpErrs .f32 3 zs) = F at *
  generalize zs.all (isZ .f32) = z at *
  obtain ⟨F1, F2⟩ := F
  dsimp only at HR C1
  by_cases h4 : F2 = 0
  · subst h4
    rw [if_neg (by simp)] at HR
    clear h1
    cases z
    · have HF : Hid (R = (0, 0)) := HR.out.trans (by simp)
      clear HR
      go_enter Try.func22, Try.ntmps22
      go_wp2_with fail
      refine (C1.out 0).mono ?_
      rintro e w' ⟨rfl, n2, rfl⟩
      go_wp2_with fail
      refine (C2.out _).mono ?_
      rintro e w' ⟨rfl, rfl⟩
      go_wp2_with fail
      go_ret2
      exact ⟨by rw [HF.out]; rfl, _, rfl⟩
    · have HF : Hid (R = (0, 11)) := HR.out.trans (by simp)
      clear HR
      go_enter Try.func22, Try.ntmps22
      go_wp2_with fail
      refine (C1.out 0).mono ?_
      rintro e w' ⟨rfl, n2, rfl⟩
      go_wp2_with fail
      refine (C2.out _).mono ?_
      rintro e w' ⟨rfl, rfl⟩
      go_wp2_with fail
      go_ret2
      exact ⟨by rw [HF.out]; rfl, _, rfl⟩
  · have HF : Hid (R = (F1, F2)) := HR.out.trans (by rw [if_pos h4])
    have h5 : (F2 != 0) = true := by rw [bne_iff_ne]; exact h4
    clear HR h1 h4
    go_enter Try.func22, Try.ntmps22
    go_wp2_with fail
    refine (C1.out 0).mono ?_
    rintro e w' ⟨rfl, n2, rfl⟩
    go_wp2_with fail
    go_ret2
    exact ⟨by rw [HF.out]; rfl, _, rfl⟩

/-- what CheckImage and CheckField answer -/
def dataErr (k : FloatKind) (M l s : Int) (zs : List (Nat × Nat)) : Int × Int :=
  if sizeErr l s zs.length ≠ 0 then (0, sizeErr l s zs.length) else firstErr 0 (smpErrs k M zs)

/-- the range of an int -/
def I64 (n : Int) : Prop := -9223372036854775808 ≤ n ∧ n ≤ 9223372036854775807

set_option maxHeartbeats 1000000 in
set_option maxRecDepth 100000 in
theorem CheckImage_any (l s : Int) (v : Value) (zs : List (Nat × Nat)) (w : World) (hl : I64 l) (hs : I64 s) (hv : Sl w v (cvals .f32 zs)) :
    Calls Try.prog 21 #[.agg #[.int .i64 l, .int .i64 s, v]] w fun e w' => e = .returned (.tuple #[.int .i64 (dataErr .f32 2047 l s zs).1, .int .i64 (dataErr .f32 2047 l s zs).2]) ∧ Below w.heap.size w w' := by
  have C0 := Lib.hid (fun w => checkSize_any l s zs.length hl.1 hl.2 hs.1 hs.2 w)
  have hb : ∀ o, Sl (w.alloc o) v (cvals .f32 zs) := fun o => hv.below ((Below.refl w.heap.size w).alloc (Nat.le_refl _) o) (Nat.le_refl _)
  have C1 := Lib.hid (fun o => checkSamples64_any v zs 4656717616654581760 2047 (w.alloc o) (hb o) sample_rep (by decide) (by decide))
  obtain ⟨ad, cap, rfl, hll, -⟩ := hv
  obtain ⟨n, hn⟩ : ∃ n, n = zs.length := ⟨_, rfl⟩
  have hn' : (cvals .f32 zs).length = n := by rw [hn]; simp [cvals]
  rw [hn'] at hll C1 ⊢
  rw [← hn] at C0
  obtain ⟨R, hR⟩ : ∃ R, R = dataErr .f32 2047 l s zs := ⟨_, rfl⟩
  rw [← hR]
  unfold dataErr at hR
  rw [← hn] at hR
  have HR := Lib.hid hR
  clear hR hn hn' hb hl hs
  generalize sizeErr l s (n : Int) = E at *
  generalize firstErr 0 (smpErrs .f32 2047 zs) = F at *
  by_cases hE : E = 0
  · subst hE
    have HF : Hid (R = F) := HR.out.trans (by rw [if_neg (by simp)])
    clear HR
    go_enter Try.func21, Try.ntmps21
    go_wp2_with fail
    refine (C0.out _).mono ?_
    rintro e w' ⟨rfl, rfl⟩
    go_wp2_with fail
    refine (C1.out _).mono ?_
    rintro e w' ⟨rfl, n2, rfl⟩
    go_wp2_with fail
    go_ret2
    exact ⟨by rw [HF.out]; rfl, ((Below.refl _ _).alloc (Nat.le_refl _) _).trans (below_drewN' _ _ _)⟩
  · have HF : Hid (R = (0, E)) := HR.out.trans (by rw [if_pos hE])
    have h5 : (E != 0) = true := by rw [bne_iff_ne]; exact hE
    clear HR hE
    go_enter Try.func21, Try.ntmps21
    go_wp2_with fail
    refine (C0.out _).mono ?_
    rintro e w' ⟨rfl, rfl⟩
    go_wp2_with fail
    go_ret2
    exact ⟨by rw [HF.out]; rfl, (Below.refl _ _).alloc (Nat.le_refl _) _⟩

set_option maxHeartbeats 1000000 in
set_option maxRecDepth 100000 in
theorem CheckField_any (l s : Int) (v : Value) (zs : List (Nat × Nat)) (w : World) (hl : I64 l) (hs : I64 s) (hv : Sl w v (cvals .f64 zs)) (hz : ∀ z ∈ zs, z.1 < 2 ^ 64 ∧ z.2 < 2 ^ 64) :
    Calls Try.prog 33 #[.agg #[.int .i64 l, .int .i64 s, v]] w fun e w' => e = .returned (.tuple #[.int .i64 (dataErr .f64 1000000000 l s zs).1, .int .i64 (dataErr .f64 1000000000 l s zs).2]) ∧ Below w.heap.size w w' := by
  have C0 := Lib.hid (fun w => checkSize_any l s zs.length hl.1 hl.2 hs.1 hs.2 w)
  have hb : ∀ o, Sl (w.alloc o) v (cvals .f64 zs) := fun o => hv.below ((Below.refl w.heap.size w).alloc (Nat.le_refl _) o) (Nat.le_refl _)
  have C1 := Lib.hid (fun o => checkSamples128_any v zs 4741671816366391296 1000000000 (w.alloc o) (hb o) hz field_rep (by decide) (by decide))
  obtain ⟨ad, cap, rfl, hll, -⟩ := hv
  obtain ⟨n, hn⟩ : ∃ n, n = zs.length := ⟨_, rfl⟩
  have hn' : (cvals .f64 zs).length = n := by rw [hn]; simp [cvals]
  rw [hn'] at hll C1 ⊢
  rw [← hn] at C0
  obtain ⟨R, hR⟩ : ∃ R, R = dataErr .f64 1000000000 l s zs := ⟨_, rfl⟩
  rw [← hR]
  unfold dataErr at hR
  rw [← hn] at hR
  have HR := Lib.hid hR
  clear hR hn hn' hb hl hs hz
  generalize sizeErr l s (n : Int) = E at *
  generalize firstErr 0 (smpErrs .f64 1000000000 zs) = F at *
  by_cases hE : E = 0
  · subst hE
    have HF : Hid (R = F) := HR.out.trans (by rw [if_neg (by simp)])
    clear HR
    go_enter Try.func33, Try.ntmps33
    go_wp2_with fail
    refine (C0.out _).mono ?_
    rintro e w' ⟨rfl, rfl⟩
    go_wp2_with fail
    refine (C1.out _).mono ?_
    rintro e w' ⟨rfl, n2, rfl⟩
    go_wp2_with fail
    go_ret2
    exact ⟨by rw [HF.out]; rfl, ((Below.refl _ _).alloc (Nat.le_refl _) _).trans (below_drewN' _ _ _)⟩
  · have HF : Hid (R = (0, E)) := HR.out.trans (by rw [if_pos hE])
    have h5 : (E != 0) = true := by rw [bne_iff_ne]; exact hE
    clear HR hE
    go_enter Try.func33, Try.ntmps33
    go_wp2_with fail
    refine (C0.out _).mono ?_
    rintro e w' ⟨rfl, rfl⟩
    go_wp2_with fail
    go_ret2
    exact ⟨by rw [HF.out]; rfl, (Below.refl _ _).alloc (Nat.le_refl _) _⟩
end Go.Proofs.Ytadajelonekpmaa

namespace Go.Proofs.Ytadajelonekpmaa
open Go.RowKit Go.Proofs.Ytadajelonekpmaa.Flt

/-- the sum of the first k numbers -/
def sumTo (a : Nat → Int) : Nat → Int
  | 0 => 0
  | k + 1 => sumTo a k + a k

theorem run_sum_step {P : Program} (t : TypeId) (s u a b : Int) (x y : Nat) (hx : Rep Ieee.double x a) (hy : Rep Ieee.double y b) (hs : s.natAbs ≤ 2 ^ 53) (hu : u.natAbs ≤ 2 ^ 53) (ha : a.natAbs ≤ 2 ^ 53) (hb : b.natAbs ≤ 2 ^ 53)
    (hsa : (s + a).natAbs ≤ 2 ^ 53) (hub : (u + b).natAbs ≤ 2 ^ 53) (w : World) :
    (binOp .add t (.complex .f64 (enc Ieee.double s) (enc Ieee.double u)) (.complex .f64 x y)).run P w = .ok (.complex .f64 (enc Ieee.double (s + a)) (enc Ieee.double (u + b))) w := by
  have add1 : ∀ (s a : Int) (x : Nat), Rep Ieee.double x a → s.natAbs ≤ 2 ^ 53 → a.natAbs ≤ 2 ^ 53 → (s + a).natAbs ≤ 2 ^ 53 → floatBits .add .f64 (enc Ieee.double s) x = some (enc Ieee.double (s + a)) := by
    intro s a x hx hs ha hsa
    obtain ⟨r, h1, h2, h3⟩ := add_rep good_double (Rep.enc _ s) hx hs ha hsa
    have hr : r = enc Ieee.double (s + a) := by
      rcases h2 with h2 | ⟨h0, h2⟩
      · exact h2
      · by_cases hs0 : 0 ≤ s
        · exact h3 (.inl ⟨rfl, hs0⟩)
        · rcases hx with hx | ⟨hx0, -⟩
          · exact h3 (.inr ⟨hx, by omega⟩)
          · omega
    have : floatBits .add .f64 (enc Ieee.double s) x = Ieee.double.add (enc Ieee.double s) x := rfl
    rw [this, h1, hr]
  refine run_complex_sum w .add (.inl rfl) t .f64 _ _ _ _ _ _ ?_
  unfold cSumBits
  rw [add1 s a x hx hs ha hsa, add1 u b y hy hu hb hub]
  rfl

set_option maxHeartbeats 1000000 in
set_option maxRecDepth 100000 in
/-- A SUM OVER WHAT A FUNCTION VALUE HANDS -/
theorem sumOver_any (g : FuncId) (eg : ∀ args w, (callFunc g args).run Try.prog w = .ok (.enter g args) w) (lb : Array Value) (n : Nat) (hn : n ≤ 1000000) (x y : Nat → Nat) (a b : Nat → Int) (w : World)
    (hx : ∀ k, k < n → Rep Ieee.double (x k) (a k) ∧ Rep Ieee.double (y k) (b k)) (ha : ∀ k, k < n → (a k).natAbs ≤ 2 ^ 53 ∧ (b k).natAbs ≤ 2 ^ 53) (hs : ∀ k, k ≤ n → (sumTo a k).natAbs ≤ 2 ^ 53 ∧ (sumTo b k).natAbs ≤ 2 ^ 53)
    (hf : ∀ (k : Nat), k < n → ∀ q, Calls Try.prog g (#[.int .i64 k] ++ lb) (w.drewN q) fun e w' => e = .returned (.complex .f64 (x k) (y k)) ∧ ∃ m, w' = w.drewN m) :
    Calls Try.prog 24 #[.int .i64 n, .func (.func g) #[] lb] w fun e w' => e = .returned (.complex .f64 (enc Ieee.double (sumTo a n)) (enc Ieee.double (sumTo b n))) ∧ ∃ m, w' = w.drewN m := by
  have HX := Lib.hid hx
  have HA := Lib.hid ha
  have HS := Lib.hid hs
  have HF := Lib.hid hf
  clear hx ha hs hf
  have z1 : Hid (enc Ieee.double (sumTo a 0) = 0) := enc_zero _
  have z2 : Hid (enc Ieee.double (sumTo b 0) = 0) := enc_zero _
  go_enter Try.func24, Try.ntmps24
  go_wp2_with fail
  go_loopw [5, 8] (fun s i wr => ∃ k : Nat, k ≤ n ∧ i = .int .i64 k ∧ s = .complex .f64 (enc Ieee.double (sumTo a k)) (enc Ieee.double (sumTo b k)) ∧ ∃ q, wr = w.drewN q) (fun _ i _ => n - (intOf i).toNat)
  case atStart => exact ⟨0, Nat.zero_le _, rfl, by rw [z1.out, z2.out], 0, rfl⟩
  case round =>
    obtain ⟨k, hk, rfl, rfl, q, rfl⟩ := hrel
    by_cases hlt : k < n
    · have C := HF.out k hlt q
      have hst := fun w => run_sum_step (P := Try.prog) 43 (sumTo a k) (sumTo b k) (a k) (b k) (x k) (y k) (HX.out k hlt).1 (HX.out k hlt).2 (HS.out k hk).1 (HS.out k hk).2 (HA.out k hlt).1 (HA.out k hlt).2 (HS.out (k + 1) hlt).1 (HS.out (k + 1) hlt).2 w
      have e1 : Hid (enc Ieee.double (sumTo a (k + 1)) = enc Ieee.double (sumTo a k + a k)) := rfl
      have e2 : Hid (enc Ieee.double (sumTo b (k + 1)) = enc Ieee.double (sumTo b k + b k)) := rfl
      generalize enc Ieee.double (sumTo a k + a k) = A' at *
      generalize enc Ieee.double (sumTo b k + b k) = B' at *
      generalize enc Ieee.double (sumTo a k) = A at *
      generalize enc Ieee.double (sumTo b k) = B at *
      generalize x k = X at *
      generalize y k = Y at *
      have C' := Lib.hid C
      clear C
      go_wp2_with fail
      refine (C'.out).mono ?_
      rintro e w' ⟨rfl, m, rfl⟩
      go_wp2_with fail
      go_roundw
      case rel => exact ⟨k + 1, by omega, by go_num, by rw [e1.out, e2.out], _, rfl⟩
      case measure => simp [intOf]; omega
    · obtain rfl : k = n := by omega
      go_wp2_with fail
      go_ret
      exact ⟨rfl, _, rfl⟩

theorem enters_Compress1 : ∀ args w, (callFunc 25 args).run Try.prog w = .ok (.enter 25 args) w := enters_of Try.func25 (by kernel_rfl) rfl

/-- complex64 made complex128, of whole parts: no draw -/
theorem run_conv_whole {P : Program} (src dst : TypeId) (hs : (P.underlying src).isSome = true) (hd : P.underlying dst = some (.complex .f64)) {a b : Nat} {k l : Int} (ha : Rep Ieee.single a k) (hb : Rep Ieee.single b l) (hk : k.natAbs ≤ 2 ^ 24) (hl : l.natAbs ≤ 2 ^ 24) :
    ∃ x y, (∀ w, (convert src dst (.complex .f32 a b)).run P w = .ok (.complex .f64 x y) w) ∧ Rep Ieee.double x k ∧ Rep Ieee.double y l := by
  obtain ⟨x, h1, h2, -⟩ := floatToFloat_rep (k := .f32) (k' := .f64) good_single good_double ha hk (Nat.le_trans hk (by decide))
  obtain ⟨y, h3, h4, -⟩ := floatToFloat_rep (k := .f32) (k' := .f64) good_single good_double hb hl (Nat.le_trans hl (by decide))
  refine ⟨x, y, fun w => run_convert_complex w src dst .f32 .f64 a b x y hs hd ?_, h2, h4⟩
  unfold cConvBits
  rw [h1, h3]; rfl

/-- a product of whole numbers' words -/
theorem mulBits_rep {x y : Nat} {a b : Int} (hx : Rep Ieee.double x a) (hy : Rep Ieee.double y b) (ha : a.natAbs ≤ 2 ^ 53) (hb : b.natAbs ≤ 2 ^ 53) (hab : (a * b).natAbs ≤ 2 ^ 53) :
    ∃ r, floatBits .mul .f64 x y = some r ∧ Rep Ieee.double r (a * b) := by
  obtain ⟨r, h1, h2⟩ := mul_rep good_double hx hy ha hb hab
  exact ⟨r, h1, h2⟩
theorem subBits_rep {x y : Nat} {a b : Int} (hx : Rep Ieee.double x a) (hy : Rep Ieee.double y b) (ha : a.natAbs ≤ 2 ^ 53) (hb : b.natAbs ≤ 2 ^ 53) (hab : (a - b).natAbs ≤ 2 ^ 53) :
    ∃ r, floatBits .sub .f64 x y = some r ∧ Rep Ieee.double r (a - b) := by
  obtain ⟨r, h1, h2, -⟩ := sub_rep good_double hx hy ha hb hab
  exact ⟨r, h1, h2⟩
theorem addBits_rep {x y : Nat} {a b : Int} (hx : Rep Ieee.double x a) (hy : Rep Ieee.double y b) (ha : a.natAbs ≤ 2 ^ 53) (hb : b.natAbs ≤ 2 ^ 53) (hab : (a + b).natAbs ≤ 2 ^ 53) :
    ∃ r, floatBits .add .f64 x y = some r ∧ Rep Ieee.double r (a + b) := by
  obtain ⟨r, h1, h2, -⟩ := add_rep good_double hx hy ha hb hab
  exact ⟨r, h1, h2⟩

/-- z times the conjugate of u, for whole parts: (a + b i)(c - d i) -/
theorem run_times_conj {P : Program} (t : TypeId) {x y u v : Nat} {a b c d : Int} (hx : Rep Ieee.double x a) (hy : Rep Ieee.double y b) (hu : Rep Ieee.double u c) (hv : Rep Ieee.double v d)
    (ha : a.natAbs ≤ 2000000000) (hb : b.natAbs ≤ 2000000000) (hc : c.natAbs ≤ 2047) (hd : d.natAbs ≤ 2047) :
    ∃ p q, (∀ w, (binOp .mul t (.complex .f64 x y) (.complex .f64 u (Op.negFloat .f64 v))).run P w = .ok (.complex .f64 p q) w) ∧ Rep Ieee.double p (a * c + b * d) ∧ Rep Ieee.double q (b * c - a * d) := by
  have hm : ∀ a c : Int, a.natAbs ≤ 2000000000 → c.natAbs ≤ 2047 → (a * c).natAbs ≤ 4094000000000 := by
    intro a c h1 h2
    rw [Int.natAbs_mul]
    exact Nat.le_trans (Nat.mul_le_mul h1 h2) (by decide)
  have hv' : Rep Ieee.double (Op.negFloat .f64 v) (-d) := neg_rep (k := .f64) good_double hv (by show d.natAbs ≤ 2 ^ 53; omega)
  have b1 := hm a c ha hc
  have b2 := hm b (-d) hb (by omega)
  have b3 := hm a (-d) ha (by omega)
  have b4 := hm b c hb hc
  obtain ⟨r1, e1, q1⟩ := mulBits_rep hx hu (by omega) (by omega) (by omega)
  obtain ⟨r2, e2, q2⟩ := mulBits_rep hy hv' (by omega) (by omega) (by omega)
  obtain ⟨p, e3, q3⟩ := subBits_rep q1 q2 (by omega) (by omega) (by omega)
  obtain ⟨r3, e4, q4⟩ := mulBits_rep hx hv' (by omega) (by omega) (by omega)
  obtain ⟨r4, e5, q5⟩ := mulBits_rep hy hu (by omega) (by omega) (by omega)
  obtain ⟨q, e6, q6⟩ := addBits_rep q4 q5 (by omega) (by omega) (by omega)
  refine ⟨p, q, fun w => run_complex_mul w t x y u (Op.negFloat .f64 v) p q ?_, ?_, ?_⟩
  · unfold cMulBits
    rw [e1, e2, e4, e5]
    simp only [Option.bind_some]
    rw [e3, e6]
    rfl
  · rw [Int.mul_neg] at q3
    rw [show a * c + b * d = a * c - -(b * d) from by omega]
    exact q3
  · rw [Int.mul_neg] at q6
    rw [show b * c - a * d = -(a * d) + b * c from by omega]
    exact q6

set_option maxHeartbeats 1000000 in
set_option maxRecDepth 100000 in
theorem Compress1_core (k f : Nat) (ilen icap clen ccap : Nat) (Bi Bf Bc bi oi bc oc : Nat) (z1 z2 u1 u2 x y u v p q : Nat) (w : World)
    (hk : k < 100000) (hf : f < 100000)
    (h1 : w.cell? ⟨Bi, 0 + 2, none⟩ = some (.slice (some ⟨bi, oi, none⟩) ilen icap)) (h2 : w.cell? ⟨Bf, 0, none⟩ = some (.int .i64 f)) (h3 : w.cell? ⟨Bc, 0, none⟩ = some (.slice (some ⟨bc, oc, none⟩) clen ccap))
    (hil : (f : Int) + k < ilen) (hcl : (k : Int) < clen)
    (h4 : w.cell? ⟨bi, oi + (f + k), none⟩ = some (.complex .f32 z1 z2)) (h5 : w.cell? ⟨bc, oc + k, none⟩ = some (.complex .f32 u1 u2))
    (hconv1 : ∀ w, (convert 54 43 (.complex .f32 z1 z2)).run Try.prog w = .ok (.complex .f64 x y) w)
    (hconv2 : ∀ w, (convert 54 43 (.complex .f32 u1 u2)).run Try.prog w = .ok (.complex .f64 u v) w)
    (hmul : ∀ w, (binOp .mul 43 (.complex .f64 x y) (.complex .f64 u (Op.negFloat .f64 v))).run Try.prog w = .ok (.complex .f64 p q) w) :
    Calls Try.prog 25 #[.int .i64 k, .pointer (some ⟨Bi, 0, none⟩), .pointer (some ⟨Bf, 0, none⟩), .pointer (some ⟨Bc, 0, none⟩)] w fun e w' => e = .returned (.complex .f64 p q) ∧ ∃ m, w' = w.drewN m := by
  have e1 : IntKind.i64.wrap ((f : Int) + k) = (f : Int) + k := IntWalk.i64_in _ ⟨by omega, by omega⟩
  have e2 : ((f : Int) + k).toNat = f + k := by omega
  have e3 : (0 : Int) ≤ (f : Int) + k := by omega
  clear hk hf
  go_enter Try.func25, Try.ntmps25
  go_wp2_with fail
  go_quiet ((go_at_call 26; exact Calls.quiet_of_same ((conj_any _ _ _).mono fun e w' ⟨h1, h2⟩ => ⟨h1, h2.symm⟩)))
  go_wp2_with fail
  go_ret
  exact ⟨rfl, _, rfl⟩

/-- ONE PRODUCT OF THE COMPRESSION: the captured image, first, code -/
theorem Compress1_any (k f : Nat) (ilen icap clen ccap : Nat) (Bi Bf Bc bi oi bc oc : Nat) (z1 z2 u1 u2 : Nat) (a b c d : Int) (w : World)
    (hk : k < 100000) (hf : f < 100000)
    (h1 : w.cell? ⟨Bi, 0 + 2, none⟩ = some (.slice (some ⟨bi, oi, none⟩) ilen icap)) (h2 : w.cell? ⟨Bf, 0, none⟩ = some (.int .i64 f)) (h3 : w.cell? ⟨Bc, 0, none⟩ = some (.slice (some ⟨bc, oc, none⟩) clen ccap))
    (hil : (f : Int) + k < ilen) (hcl : (k : Int) < clen)
    (h4 : w.cell? ⟨bi, oi + (f + k), none⟩ = some (.complex .f32 z1 z2)) (h5 : w.cell? ⟨bc, oc + k, none⟩ = some (.complex .f32 u1 u2))
    (r1 : Rep Ieee.single z1 a) (r2 : Rep Ieee.single z2 b) (r3 : Rep Ieee.single u1 c) (r4 : Rep Ieee.single u2 d)
    (ha : a.natAbs ≤ 2047) (hb : b.natAbs ≤ 2047) (hcc : c.natAbs ≤ 3) (hd : d.natAbs ≤ 3) :
    ∃ p q, (∀ n, Calls Try.prog 25 #[.int .i64 k, .pointer (some ⟨Bi, 0, none⟩), .pointer (some ⟨Bf, 0, none⟩), .pointer (some ⟨Bc, 0, none⟩)] (w.drewN n) fun e w' => e = .returned (.complex .f64 p q) ∧ ∃ m, w' = w.drewN m) ∧
      Rep Ieee.double p (a * c + b * d) ∧ Rep Ieee.double q (b * c - a * d) := by
  obtain ⟨x, y, hconv1, q1, q2⟩ := run_conv_whole (P := Try.prog) 54 43 Try.und109 Try.und88 r1 r2 (by omega) (by omega)
  obtain ⟨u, v, hconv2, q3, q4⟩ := run_conv_whole (P := Try.prog) 54 43 Try.und109 Try.und88 r3 r4 (by omega) (by omega)
  obtain ⟨p, q, hmul, q5, q6⟩ := run_times_conj (P := Try.prog) 43 q1 q2 q3 q4 (by omega) (by omega) (by omega) (by omega)
  refine ⟨p, q, fun n => ?_, q5, q6⟩
  refine (Compress1_core k f ilen icap clen ccap Bi Bf Bc bi oi bc oc z1 z2 u1 u2 x y u v p q (w.drewN n) hk hf h1 h2 h3 hil hcl h4 h5 hconv1 hconv2 hmul).mono ?_
  rintro e w' ⟨rfl, m, rfl⟩
  exact ⟨rfl, _, World.drewN_drewN _ _ _⟩
end Go.Proofs.Ytadajelonekpmaa

namespace Go.Proofs.Ytadajelonekpmaa
open Go.RowKit Go.Proofs.Ytadajelonekpmaa.Flt

theorem Try.info88 : (Try.prog.info? 43).map (fun i => (i.zero, i.size, i.bytes)) = some (some (.complex .f64 0 0), 1, 16) := by kernel_rfl

/-- an owned row, read -/
theorem Sl.of_owns {w : World} {base : Nat} {e : TypeId} {v : Value} {n : Nat} {xs : List Value} (h : w.ownsRow base e 1 v n xs) (hn : n ≤ 140737488351232) : Sl w v xs := by
  obtain ⟨h1, h2⟩ := h
  have hl : xs.length = n := by omega
  rcases h2 with ⟨hv, h0⟩ | ⟨g, cap, cur, hv, hb, hh, h3, h4, h5, h6⟩
  · subst hv h0
    have : xs = [] := List.length_eq_zero_iff.1 hl
    exact ⟨none, 0, by rw [this]; rfl, by omega, .inl this⟩
  · refine ⟨some ⟨g, 0, none⟩, cap, by rw [hl]; exact hv, by omega, .inr ⟨g, 0, rfl, ?_, fun j x hx => ?_⟩⟩
    · exact (Array.getElem?_eq_some_iff.1 hh).1
    · rw [cell_of_row w g (0 + j) cur e (0, 0) hh, Nat.zero_add]
      have hj : j < xs.length := by
        rcases Nat.lt_or_ge j xs.length with h | h
        · exact h
        · rw [List.getElem?_eq_none h] at hx; cases hx
      rw [← h6, List.getElem?_take_of_lt (by omega)] at hx
      rw [← hx, Array.getElem?_toList]

section
variable {P : Program} (t : TypeId) (a b : Nat) (w : World)
theorem run_quo_n (hb : 1 ≤ b) (ha : a ≤ 9223372036854775807) : (binOp .quo t (.int .i64 a) (.int .i64 b)).run P w = .ok (.int .i64 ((a / b : Nat) : Int)) w := by
  have h0 : ¬ (b : Int) = 0 := by omega
  have h1 : (a : Int).tdiv b = ((a / b : Nat) : Int) := rfl
  have h2 : IntKind.i64.wrap ((a / b : Nat) : Int) = ((a / b : Nat) : Int) := by
    have h3 := Nat.div_le_self a b
    generalize a / b = q at *
    exact IntWalk.i64_in _ ⟨by omega, by omega⟩
  simp only [binOp, Op.intDiv, if_neg h0, h1, h2]
  rfl
theorem run_rem_n (hb : 1 ≤ b) : (binOp .rem t (.int .i64 a) (.int .i64 b)).run P w = .ok (.int .i64 ((a % b : Nat) : Int)) w := by
  have h0 : ¬ (b : Int) = 0 := by omega
  have h1 : (a : Int).tmod b = ((a % b : Nat) : Int) := rfl
  simp only [binOp, Op.intDiv, if_neg h0, h1]
  rfl
theorem run_mul_n (h : a * b ≤ 9223372036854775807) : (binOp .mul t (.int .i64 a) (.int .i64 b)).run P w = .ok (.int .i64 ((a * b : Nat) : Int)) w := by
  have h2 : IntKind.i64.wrap ((a : Int) * b) = ((a * b : Nat) : Int) := by rw [← Int.natCast_mul]; exact IntWalk.i64_in _ ⟨by omega, by omega⟩
  simp only [binOp, Op.intArith, h2]
  rfl
theorem run_add_n (h : a + b ≤ 9223372036854775807) : (binOp .add t (.int .i64 a) (.int .i64 b)).run P w = .ok (.int .i64 ((a + b : Nat) : Int)) w := by
  have h2 : IntKind.i64.wrap ((a : Int) + b) = ((a + b : Nat) : Int) := by rw [← Int.natCast_add]; exact IntWalk.i64_in _ ⟨by omega, by omega⟩
  simp only [binOp, Op.intArith, h2]
  rfl
end

/-- a block of three cells: what the walk wants of it -/
theorem three_cells {w : World} {N : Nat} {a b c : Value} {t : TypeId} (h : w.heap[N]? = some (.cells #[a, b, c] t (0, 0))) :
    w.cell? ⟨N, 0, none⟩ = some a ∧ w.cell? ⟨N, 1, none⟩ = some b ∧ w.cell? ⟨N, 2, none⟩ = some c ∧ w.frozen? ⟨N, 0, none⟩ = false ∧ w.frozen? ⟨N, 1, none⟩ = false ∧ w.frozen? ⟨N, 2, none⟩ = false ∧ N < w.heap.size :=
  ⟨cell_of_row w N 0 _ t _ h, cell_of_row w N 1 _ t _ h, cell_of_row w N 2 _ t _ h, frozen_of_row w N 0 _ t h, frozen_of_row w N 1 _ t h, frozen_of_row w N 2 _ t h, lt_of_block h⟩

/-- a field of n zeros, new -/
def NewZeros (N : Nat) (l s n : Nat) (w : World) (e : Ending) (w' : World) : Prop :=
  ∃ g, e = .returned (.agg #[.int .i64 l, .int .i64 s, .slice (some ⟨g, 0, none⟩) n n]) ∧ N ≤ g ∧ Below N w w' ∧ w'.ownsRow N 43 1 (.slice (some ⟨g, 0, none⟩) n n) n (List.replicate n (.complex .f64 0 0))

set_option maxRecDepth 100000 in
set_option maxHeartbeats 1000000 in
/-- A NEW FIELD, all zero -/
theorem newField_any (l s : Nat) (hl : l ≤ 64) (hs : s ≤ 64) (w : World) :
    Calls Try.prog 23 #[.int .i64 l, .int .i64 s] w (NewZeros w.heap.size l s (l * s) w) := by
  obtain ⟨i0, hi, hz0, hz1, hz2⟩ := info_parts Try.info88
  have hp : l * s ≤ 4096 := Nat.le_trans (Nat.mul_le_mul hl hs) (by decide)
  have hm : wrap64 ((l : Int) * s) = ((l * s : Nat) : Int) := by
    rw [IntWalk.wrap64_in]
    · exact (Int.natCast_mul l s).symm
    · rw [← Int.natCast_mul]; omega
  generalize l * s = n at *
  clear hl hs
  go_enter Try.func23, Try.ntmps23
  go_wp2_with (at_make; refine wpList_make_full _ rfl _ _ 32 rfl w.heap.size 43 i0 (.complex .f64 0 0) 1 Try.underlying32 hi hz0 hz1 .i64 .i64 _ _ n rfl rfl ?c1 ?c2 ?c3 ?c4 ?c5 ?_)
  case c1 => first | rfl | exact hm
  case c2 => first | rfl | exact hm
  case c3 => rw [hz2]; omega
  case c4 => unfold maxLen; omega
  case c5 => simp
  intro w1 hown hgrow
  have hN : w1.heap[w.heap.size]? = some (.cells #[.int .i64 0, .int .i64 0, .slice none 0 0] 34 (0, 0)) := by
    rw [hgrow.block _ (by simp) (by simp)]
    exact heap_alloc_new _ _
  obtain ⟨c0, c1, c2, f0, f1, f2, hlt⟩ := three_cells hN
  have hlist : (madeCells #[Value.complex .f64 0 0] n).toList = List.replicate n (.complex .f64 0 0) := toList_madeCells_one _ _
  rw [hlist] at hown
  have HO := Lib.hid hown
  have HB : Below w.heap.size w w1 := ((Below.refl _ _).alloc (Nat.le_refl _) _).grown hgrow (by simp) (by intro k h; cases h)
  have hsz : Hid (w.heap.size < w1.heap.size) := hlt
  clear hown hgrow hlist hN hm hi hz0 hz1 hz2 hlt
  go_wp2_with fail
  refine bodyPost_ret (v := .agg #[.int .i64 l, .int .i64 s, .slice (some ⟨w.heap.size + 1, 0, none⟩) n n]) (by simp [results, Try.results23, go_sem, c0, c1, c2]) rfl ⟨w.heap.size + 1, rfl, by omega, ?_, ?_⟩
  · exact ((HB.setCell (Nat.le_refl _) _).setCell (Nat.le_refl _) _).setCell (Nat.le_refl _) _
  · exact ownsRow_setCell_other (ownsRow_setCell_other (ownsRow_setCell_other HO.out (by simp [Value.ownBlock]) _) (by simp [Value.ownBlock]) _) (by simp [Value.ownBlock]) _
end Go.Proofs.Ytadajelonekpmaa
