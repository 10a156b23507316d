import Derived.Test.YtadajelonekpmaaLb
import Derived.Test.YtadajelonekpmaaJc
namespace Go.Proofs.Ytadajelonekpmaa
open Go.RowKit Go.Proofs.Ytadajelonekpmaa.Flt

/-- the numbers of a compressed field -/
theorem re_comp {zs us : List (Nat × Nat)} (S S' N j : Nat) (RI : Right .f32 2047 zs) (RC : Right .f32 3 us) (hj : j < N) (hf : j / S' * S + j % S' + us.length ≤ zs.length) (hm : us.length ≤ 32) :
    re .f64 (compList zs us S S' N) j = cRe zs us (j / S' * S + j % S') us.length ∧ im .f64 (compList zs us S S' N) j = cIm zs us (j / S' * S + j % S') us.length := by
  have g : (compList zs us S S' N).getD j (0, 0) = (enc Ieee.double (cRe zs us (j / S' * S + j % S') us.length), enc Ieee.double (cIm zs us (j / S' * S + j % S') us.length)) := by
    simp only [compList, List.getD_eq_getElem?_getD, List.getElem?_map, List.getElem?_range hj, Option.map_some, Option.getD_some]
    unfold compAt
    rfl
  obtain ⟨b1, b2⟩ := c_b RI RC _ us.length hf hm (Nat.le_refl _)
  generalize cRe zs us (j / S' * S + j % S') us.length = a at *
  generalize cIm zs us (j / S' * S + j % S') us.length = b at *
  have w1 : wv FloatKind.f64.format (enc Ieee.double a) = some a := rep_wv good_double (.inl rfl) (Nat.le_trans b1 (by decide))
  have w2 : wv FloatKind.f64.format (enc Ieee.double b) = some b := rep_wv good_double (.inl rfl) (Nat.le_trans b2 (by decide))
  unfold re im ival
  rw [g]
  dsimp only
  rw [w1, w2]
  exact ⟨rfl, rfl⟩

/-- a field that is compressed and focused without an error -/
def FocFin (l s : Int) (zs us vs Y : List (Nat × Nat)) : Prop :=
  ∃ L S m n : Nat, l = L ∧ s = S ∧ L ≤ 64 ∧ S ≤ 64 ∧ us.length = m ∧ vs.length = n ∧ 1 ≤ m ∧ m ≤ 32 ∧ 1 ≤ n ∧ n ≤ 32 ∧ m ≤ S ∧ n ≤ L ∧ zs.length = L * S ∧ Right .f32 2047 zs ∧ Right .f32 3 us ∧ Right .f32 3 vs ∧
    Right .f64 1000000000 (compList zs us S (S - m + 1) (L * (S - m + 1))) ∧ Y = focList (compList zs us S (S - m + 1) (L * (S - m + 1))) vs (S - m + 1) ((L - n + 1) * (S - m + 1))

theorem comp_words (zs us : List (Nat × Nat)) (S S' N : Nat) : ∀ z ∈ compList zs us S S' N, z.1 < 2 ^ 64 ∧ z.2 < 2 ^ 64 := by
  intro z hz
  obtain ⟨i, -, rfl⟩ := List.mem_map.1 hz
  exact ⟨rep_lt (f := Ieee.double) (.inl rfl), rep_lt (f := Ieee.double) (.inl rfl)⟩

/-- an image compressed, and what comes out focused, whatever they answer -/
theorem focus_P (l s : Int) (zs us vs : List (Nat × Nat)) (hl : I64 l) (hs : I64 s) (hz : ∀ z ∈ zs, z.1 < 2 ^ 32 ∧ z.2 < 2 ^ 32) (hu : ∀ z ∈ us, z.1 < 2 ^ 32 ∧ z.2 < 2 ^ 32) (hv : ∀ z ∈ vs, z.1 < 2 ^ 32 ∧ z.2 < 2 ^ 32) :
    ∃ (lx sx : Int) (X : List (Nat × Nat)) (EX : Int) (ly sy : Int) (Y : List (Nat × Nat)) (EY : Int),
      (∀ W v k, Smp .f32 zs W v → Smp .f32 us W k → Calls Try.prog 9 #[.agg #[.int .i64 l, .int .i64 s, v], k] W (FieldE lx sx X EX W)) ∧
      (EX = 0 → ∀ W v k, Smp .f64 X W v → Smp .f32 vs W k → Calls Try.prog 17 #[.agg #[.int .i64 lx, .int .i64 sx, v], k] W (FieldF ly sy Y EY W)) ∧
      (EX = 0 → EY = 0 → FocFin l s zs us vs Y) := by
  by_cases hE : compErr l s zs us = 0
  · have hE' := hE
    unfold compErr at hE'
    have hD : (dataErr .f32 2047 l s zs).2 = 0 := by
      by_cases h : (dataErr .f32 2047 l s zs).2 = 0
      · exact h
      · rw [if_pos h] at hE'; exact absurd hE' h
    rw [if_neg (fun c => c hD)] at hE'
    have hK : (codeErr us).2 = 0 := by
      by_cases h : (codeErr us).2 = 0
      · exact h
      · rw [if_pos h] at hE'; exact absurd hE' h
    rw [if_neg (fun c => c hK)] at hE'
    have hm : ¬ s < us.length := by
      intro h
      rw [if_pos h] at hE'; cases hE'
    obtain ⟨a1, a2, a3, a4, a5, a6⟩ := dataErr_ok hD
    obtain ⟨u1, u2, u3⟩ := codeErr_ok hK
    obtain ⟨L, rfl⟩ : ∃ L : Nat, l = L := ⟨l.toNat, by omega⟩
    obtain ⟨S, rfl⟩ : ∃ S : Nat, s = S := ⟨s.toNat, by omega⟩
    have hlen : zs.length = L * S := by
      have : ((L * S : Nat) : Int) = zs.length := by rw [Int.natCast_mul, a5]
      omega
    obtain ⟨m, hmm⟩ : ∃ m, us.length = m := ⟨_, rfl⟩
    obtain ⟨S', hS'⟩ : ∃ S', S - m + 1 = S' := ⟨_, rfl⟩
    have hn : L * S' ≤ 4096 := Nat.le_trans (Nat.mul_le_mul (show L ≤ 64 by omega) (show S' ≤ 64 by omega)) (by decide)
    obtain ⟨X, hX⟩ : ∃ X, compList zs us S S' (L * S') = X := ⟨_, rfl⟩
    have hXw : ∀ z ∈ X, z.1 < 2 ^ 64 ∧ z.2 < 2 ^ 64 := by rw [← hX]; exact comp_words _ _ _ _ _
    have CX : ∀ W v k, Smp .f32 zs W v → Smp .f32 us W k → Calls Try.prog 9 #[.agg #[.int .i64 L, .int .i64 S, v], k] W (FieldE L S' X 0 W) := by
      intro W v k hv hk
      refine (Compress_ok L S m v k zs us W hv.sl hk.sl hz hu (by omega) (by omega) (by omega) (by omega) hmm hD hK (by omega)).mono ?_
      rintro e w' ⟨g, rfl, -, hb, ho⟩
      rw [hS', hX] at ho
      rw [hS']
      exact ⟨_, rfl, hb, ⟨Sl.of_owns ho (by omega)⟩⟩
    by_cases hF : focErr L S' X vs = 0
    · have hF' := hF
      unfold focErr at hF'
      have hD2 : (dataErr .f64 1000000000 L S' X).2 = 0 := by
        by_cases h : (dataErr .f64 1000000000 L S' X).2 = 0
        · exact h
        · rw [if_pos h] at hF'; exact absurd hF' h
      rw [if_neg (fun c => c hD2)] at hF'
      have hK2 : (codeErr vs).2 = 0 := by
        by_cases h : (codeErr vs).2 = 0
        · exact h
        · rw [if_pos h] at hF'; exact absurd hF' h
      rw [if_neg (fun c => c hK2)] at hF'
      have hm2 : ¬ (L : Int) < vs.length := by
        intro h
        rw [if_pos h] at hF'; cases hF'
      obtain ⟨b1, b2, b3, b4, b5, b6⟩ := dataErr_ok hD2
      obtain ⟨v1, v2, v3⟩ := codeErr_ok hK2
      have CF : ∀ W v k, Smp .f64 X W v → Smp .f32 vs W k → Calls Try.prog 17 #[.agg #[.int .i64 L, .int .i64 S', v], k] W (FocF X vs (L - vs.length + 1) S' ((L - vs.length + 1) * S') W) :=
        fun W v k hx hk => Focus_okF L S' vs.length v k X vs W hx.sl hk.sl hXw hv (by omega) (by omega) (by omega) (by omega) rfl hD2 hK2 (by omega)
      unfold FocF at CF
      refine ⟨L, S', X, 0, _, _, _, _, CX, fun _ => CF, fun _ h => ?_⟩
      have hbad : focBad X vs S' ((L - vs.length + 1) * S') = false := by
        cases hx : focBad X vs S' ((L - vs.length + 1) * S')
        · rfl
        · rw [hx] at h; cases h
      rw [hbad]
      have RX : Right .f64 1000000000 X := right_of_ok (by decide) hXw b6
      subst hX hS' hmm
      exact ⟨L, S, us.length, vs.length, rfl, rfl, by omega, by omega, rfl, rfl, by omega, by omega, by omega, by omega, by omega, by omega, hlen, right_of_ok (by decide) hz a6, right_of_ok (by decide) hu u3, right_of_ok (by decide) hv v3, RX, rfl⟩
    · refine ⟨L, S', X, 0, 0, 0, [], _, CX, fun _ W v k hx hk => (Focus_bad L S' v k X vs W ⟨by omega, by omega⟩ ⟨by omega, by omega⟩ hx.sl hk.sl hXw hF).mono fun e w' ⟨h1, h2⟩ => ⟨_, h1, h2, smp_nil _, fun b hb => by cases hb⟩, fun _ h => absurd h hF⟩
  · exact ⟨0, 0, [], _, 0, 0, [], 0, fun W v k hv hk => (Compress_bad l s v k zs us W hl hs hv.sl hk.sl hE).mono fun e w' ⟨h1, h2⟩ => ⟨_, h1, h2, smp_nil _⟩, fun h => absurd h hE, fun h => absurd h hE⟩

/-- focused sums are the sums of what is focused -/
theorem foc_add {l s : Int} {zs ys us vs Y0 Y1 Y2 : List (Nat × Nat)} (hbg : bigAny zs ys = false) (h0 : FocFin l s zs us vs Y0) (h1 : FocFin l s ys us vs Y1) (h2 : FocFin l s (addS zs ys) us vs Y2) :
    ∃ N, Y0.length = N ∧ Y1.length = N ∧ Y2.length = N ∧ N ≤ 4096 ∧
      ∀ i, i < N → ∃ a b c d : Int, Y0.getD i (0, 0) = (enc Ieee.double a, enc Ieee.double b) ∧ Y1.getD i (0, 0) = (enc Ieee.double c, enc Ieee.double d) ∧ Y2.getD i (0, 0) = (enc Ieee.double (a + c), enc Ieee.double (b + d)) ∧
        a.natAbs ≤ 192000000000 ∧ b.natAbs ≤ 192000000000 ∧ c.natAbs ≤ 192000000000 ∧ d.natAbs ≤ 192000000000 := by
  obtain ⟨L, S, m, n, rfl, rfl, hL, hS, hm, hn, m1, m2, n1, n2, mS, nL, lz, RZ, RU, RV, RX0, rfl⟩ := h0
  obtain ⟨L', S', m', n', e1, e2, -, -, hm', hn', -, -, -, -, -, -, ly, RY, -, -, RX1, rfl⟩ := h1
  obtain rfl : L = L' := by omega
  obtain rfl : S = S' := by omega
  obtain rfl : m = m' := by omega
  obtain rfl : n = n' := by omega
  obtain ⟨L', S', m', n', e3, e4, -, -, hm', hn', -, -, -, -, -, -, la, RA, -, -, RX2, rfl⟩ := h2
  obtain rfl : L = L' := by omega
  obtain rfl : S = S' := by omega
  obtain rfl : m = m' := by omega
  obtain rfl : n = n' := by omega
  obtain ⟨S', hS'⟩ : ∃ S', S - m + 1 = S' := ⟨_, rfl⟩
  rw [hS'] at RX0 RX1 RX2 ⊢
  have hN0 : L * S' ≤ 4096 := Nat.le_trans (Nat.mul_le_mul (show L ≤ 64 by omega) (show S' ≤ 64 by omega)) (by decide)
  have hN : (L - n + 1) * S' ≤ 4096 := Nat.le_trans (Nat.mul_le_mul (show L - n + 1 ≤ 64 by omega) (show S' ≤ 64 by omega)) (by decide)
  refine ⟨(L - n + 1) * S', by simp [focList], by simp [focList], by simp [focList], hN, fun i hi => ?_⟩
  have hik : ∀ k, k < n → i + k * S' < L * S' := by
    intro k hk
    have h4 : (n - 1) * S' + (L - n + 1) * S' = L * S' := by rw [← Nat.add_mul, show n - 1 + (L - n + 1) = L from by omega]
    have h5 : k * S' ≤ (n - 1) * S' := Nat.mul_le_mul_right _ (by omega)
    omega
  have hfj : ∀ j, j < L * S' → j / S' * S + j % S' + m ≤ L * S := by
    intro j hj
    have d1 : j / S' < L := (Nat.div_lt_iff_lt_mul (by omega)).2 hj
    have d2 : j % S' < S' := Nat.mod_lt _ (by omega)
    have d4 : j / S' * S + S ≤ L * S := by rw [← Nat.succ_mul]; exact Nat.mul_le_mul_right _ d1
    omega
  have len : ∀ ts : List (Nat × Nat), (compList ts us S S' (L * S')).length = L * S' := fun ts => by simp [compList]
  have bb : ∀ ts : List (Nat × Nat), Right .f64 1000000000 (compList ts us S S' (L * S')) → (fRe (compList ts us S S' (L * S')) vs S' i n).natAbs ≤ 192000000000 ∧ (fIm (compList ts us S S' (L * S')) vs S' i n).natAbs ≤ 192000000000 := by
    intro ts RT
    exact f_b RT RV S' i n (by rw [hn, len]; exact hik) (by omega) (by omega)
  have key : ∀ k, k < n → re .f64 (compList (addS zs ys) us S S' (L * S')) (i + k * S') = re .f64 (compList zs us S S' (L * S')) (i + k * S') + re .f64 (compList ys us S S' (L * S')) (i + k * S') ∧
      im .f64 (compList (addS zs ys) us S S' (L * S')) (i + k * S') = im .f64 (compList zs us S S' (L * S')) (i + k * S') + im .f64 (compList ys us S S' (L * S')) (i + k * S') := by
    intro k hk
    have hj := hik k hk
    generalize i + k * S' = j at *
    have hf := hfj j hj
    obtain ⟨p1, p2⟩ := re_comp S S' (L * S') j RZ RU hj (by rw [hm, lz]; exact hf) (by omega)
    obtain ⟨q1, q2⟩ := re_comp S S' (L * S') j RY RU hj (by rw [hm, ly]; exact hf) (by omega)
    obtain ⟨r1, r2⟩ := re_comp S S' (L * S') j RA RU hj (by rw [hm, la]; exact hf) (by omega)
    obtain ⟨e1, e2⟩ := cRe_add us hbg (j / S' * S + j % S') us.length (by rw [hm, lz]; exact hf)
    rw [p1, p2, q1, q2, r1, r2, e1, e2]
    exact ⟨rfl, rfl⟩
  have sums : fRe (compList (addS zs ys) us S S' (L * S')) vs S' i n = fRe (compList zs us S S' (L * S')) vs S' i n + fRe (compList ys us S S' (L * S')) vs S' i n ∧
      fIm (compList (addS zs ys) us S S' (L * S')) vs S' i n = fIm (compList zs us S S' (L * S')) vs S' i n + fIm (compList ys us S S' (L * S')) vs S' i n := by
    unfold fRe fIm
    rw [← sum_add, ← sum_add]
    refine ⟨sum_eq _ fun k hk => ?_, sum_eq _ fun k hk => ?_⟩
    all_goals
      obtain ⟨e1, e2⟩ := key k hk
      first | unfold fpRe | unfold fpIm
      rw [e1, e2]
      simp only [Int.add_mul]
      omega
  obtain ⟨x1, x2⟩ := bb zs RX0
  obtain ⟨y1, y2⟩ := bb ys RX1
  have g : ∀ ts : List (Nat × Nat), (focList (compList ts us S S' (L * S')) vs S' ((L - n + 1) * S')).getD i (0, 0) = (enc Ieee.double (fRe (compList ts us S S' (L * S')) vs S' i n), enc Ieee.double (fIm (compList ts us S S' (L * S')) vs S' i n)) := by
    intro ts
    rw [foc_get _ _ _ _ _ hi, hn]
  exact ⟨_, _, _, _, g zs, g ys, by rw [g, sums.1, sums.2], x1, x2, y1, y2⟩
end Go.Proofs.Ytadajelonekpmaa
