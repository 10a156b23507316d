import Derived.Test.YtadajelonekpmaaBa
namespace Go.Proofs.Ytadajelonekpmaa
open Go.RowKit Go.Proofs.Ytadajelonekpmaa.Flt

/-- the sample-by-sample sum of two lists -/
def addAt (zs ys : List (Nat × Nat)) (i : Nat) : Nat × Nat := (enc Ieee.single (re .f32 zs i + re .f32 ys i), enc Ieee.single (im .f32 zs i + im .f32 ys i))
def addS (zs ys : List (Nat × Nat)) : List (Nat × Nat) := (List.range zs.length).map (addAt zs ys)
/-- is a part of a sum beyond the greatest? -/
def bigAt (zs ys : List (Nat × Nat)) (i : Nat) : Bool := decide (2047 < (re .f32 zs i + re .f32 ys i).natAbs) || decide (2047 < (im .f32 zs i + im .f32 ys i).natAbs)
def bigAny (zs ys : List (Nat × Nat)) : Bool := (List.range zs.length).any (bigAt zs ys)
theorem addS_length (zs ys : List (Nat × Nat)) : (addS zs ys).length = zs.length := by simp [addS]
theorem addS_get (zs ys : List (Nat × Nat)) (i : Nat) (h : i < zs.length) : (addS zs ys).getD i (0, 0) = addAt zs ys i := by
  simp [addS, List.getD_eq_getElem?_getD, List.getElem?_range h]
theorem big_none {zs ys : List (Nat × Nat)} (h : bigAny zs ys = false) (i : Nat) (hi : i < zs.length) : (re .f32 zs i + re .f32 ys i).natAbs ≤ 2047 ∧ (im .f32 zs i + im .f32 ys i).natAbs ≤ 2047 := by
  have := List.any_eq_false.1 h i (List.mem_range.2 hi)
  unfold bigAt at this
  simp at this
  omega
theorem re_addS {zs ys : List (Nat × Nat)} (h : bigAny zs ys = false) (i : Nat) (hi : i < zs.length) : re .f32 (addS zs ys) i = re .f32 zs i + re .f32 ys i ∧ im .f32 (addS zs ys) i = im .f32 zs i + im .f32 ys i := by
  obtain ⟨b1, b2⟩ := big_none h i hi
  have w1 : wv FloatKind.f32.format (enc Ieee.single (re .f32 zs i + re .f32 ys i)) = some (re .f32 zs i + re .f32 ys i) := wv_enc24 (by omega)
  have w2 : wv FloatKind.f32.format (enc Ieee.single (im .f32 zs i + im .f32 ys i)) = some (im .f32 zs i + im .f32 ys i) := wv_enc24 (by omega)
  have g : (addS zs ys).getD i (0, 0) = (enc Ieee.single (re .f32 zs i + re .f32 ys i), enc Ieee.single (im .f32 zs i + im .f32 ys i)) := addS_get zs ys i hi
  generalize re .f32 zs i + re .f32 ys i = a at *
  generalize im .f32 zs i + im .f32 ys i = b at *
  unfold re im ival
  rw [g]
  dsimp only
  rw [w1, w2]
  exact ⟨rfl, rfl⟩
theorem addS_right {zs ys : List (Nat × Nat)} (h : bigAny zs ys = false) : Right .f32 2047 (addS zs ys) := by
  intro i hi
  rw [addS_length] at hi
  obtain ⟨e1, e2⟩ := re_addS h i hi
  obtain ⟨b1, b2⟩ := big_none h i hi
  rw [e1, e2, addS_get zs ys i hi]
  exact ⟨.inl rfl, .inl rfl, b1, b2⟩
theorem firstErr_zeros (es : List Int) (h : ∀ e ∈ es, e = 0) : ∀ i, firstErr i es = (0, 0) := by
  induction es with
  | nil => intro i; rfl
  | cons e r ih =>
    intro i
    unfold firstErr
    rw [if_pos (h e (List.mem_cons_self ..))]
    exact ih (fun x hx => h x (List.mem_cons_of_mem _ hx)) _
theorem right_errs {k : FloatKind} {M : Nat} {zs : List (Nat × Nat)} (hM : M ≤ 2 ^ (k.format.fractionBits + 1)) (R : Right k M zs) : ∀ i, firstErr i (smpErrs k M zs) = (0, 0) := by
  refine firstErr_zeros _ fun e he => ?_
  obtain ⟨z, hz, rfl⟩ := List.mem_map.1 he
  obtain ⟨i, hi, rfl⟩ := List.getElem_of_mem hz
  obtain ⟨r1, r2, r3, r4⟩ := R i hi
  have g : zs.getD i (0, 0) = zs[i] := by rw [List.getD_eq_getElem?_getD, List.getElem?_eq_getElem hi]; rfl
  rw [g] at r1 r2
  rw [rep_wv (good k) r1 (by omega), rep_wv (good k) r2 (by omega)]
  unfold smpErr
  dsimp only
  rw [if_neg (by omega)]
theorem right_data {k : FloatKind} {M : Nat} {zs : List (Nat × Nat)} {l s : Int} (hM : M ≤ 2 ^ (k.format.fractionBits + 1)) (R : Right k M zs) (h : sizeErr l s zs.length = 0) : dataErr k M l s zs = (0, 0) := by
  unfold dataErr
  rw [h, if_neg (by simp), right_errs hM R]

/-- the error of a sum of images -/
def addErr (l s : Int) (zs : List (Nat × Nat)) (l' s' : Int) (ys : List (Nat × Nat)) : Int :=
  if (dataErr .f32 2047 l s zs).2 ≠ 0 then (dataErr .f32 2047 l s zs).2 else if (dataErr .f32 2047 l' s' ys).2 ≠ 0 then (dataErr .f32 2047 l' s' ys).2
  else if l ≠ l' ∨ s ≠ s' then 13 else if bigAny zs ys then 8 else 0

/-- sums of products are linear -/
theorem cRe_add {zs ys : List (Nat × Nat)} (us : List (Nat × Nat)) (h : bigAny zs ys = false) (f m : Nat) (hf : f + m ≤ zs.length) :
    cRe (addS zs ys) us f m = cRe zs us f m + cRe ys us f m ∧ cIm (addS zs ys) us f m = cIm zs us f m + cIm ys us f m := by
  unfold cRe cIm
  rw [← sum_add, ← sum_add]
  refine ⟨sum_eq _ fun k hk => ?_, sum_eq _ fun k hk => ?_⟩
  all_goals
    obtain ⟨e1, e2⟩ := re_addS h (f + k) (by omega)
    rw [e1, e2]
    simp only [Int.add_mul]
    omega
end Go.Proofs.Ytadajelonekpmaa
