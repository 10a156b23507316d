import Derived.Test.YtadajelonekpmaaKc
namespace Go.Proofs.Ytadajelonekpmaa
open Go.RowKit Go.Proofs.Ytadajelonekpmaa.Flt

/-- Added in one: what it answers, and what is so where it answers no error -/
theorem added_E (l s l' s' : Int) (zs ys : List (Nat × Nat)) (hl : I64 l) (hs : I64 s) (hl' : I64 l') (hs' : I64 s') (hz : ∀ z ∈ zs, z.1 < 2 ^ 32 ∧ z.2 < 2 ^ 32) (hy : ∀ z ∈ ys, z.1 < 2 ^ 32 ∧ z.2 < 2 ^ 32) :
    ∃ (la sa : Int) (A : List (Nat × Nat)), (∀ W v u, Smp .f32 zs W v → Smp .f32 ys W u → Calls Try.prog 16 #[.agg #[.int .i64 l, .int .i64 s, v], .agg #[.int .i64 l', .int .i64 s', u]] W (ImgE la sa A (addErr l s zs l' s' ys) W)) ∧
      (addErr l s zs l' s' ys ≠ 0 → la = 0 ∧ sa = 0 ∧ A = []) ∧
      (addErr l s zs l' s' ys = 0 → l = l' ∧ s = s' ∧ la = l ∧ sa = s ∧ A = addS zs ys ∧ bigAny zs ys = false ∧ (dataErr .f32 2047 l s zs).2 = 0 ∧ (dataErr .f32 2047 l s ys).2 = 0 ∧ ∃ L S : Nat, l = L ∧ s = S ∧ 1 ≤ L ∧ L ≤ 64 ∧ 1 ≤ S ∧ S ≤ 64 ∧ zs.length = L * S ∧ ys.length = L * S ∧ Right .f32 2047 zs ∧ Right .f32 2047 ys) := by
  by_cases hb : (dataErr .f32 2047 l s zs).2 ≠ 0 ∨ (dataErr .f32 2047 l' s' ys).2 ≠ 0 ∨ l ≠ l' ∨ s ≠ s'
  · refine ⟨0, 0, [], fun W v u hv hu => (Added_bad l s l' s' v u zs ys W hl hs hl' hs' hv.sl hu.sl hb).mono fun e w' ⟨h1, h2⟩ => ⟨_, h1, h2, smp_nil32 _⟩, fun _ => ⟨rfl, rfl, rfl⟩, fun h => ?_⟩
    exfalso
    unfold addErr at h
    by_cases h1 : (dataErr .f32 2047 l s zs).2 = 0
    · rw [if_neg (fun c => c h1)] at h
      by_cases h2 : (dataErr .f32 2047 l' s' ys).2 = 0
      · rw [if_neg (fun c => c h2)] at h
        have h3 : l ≠ l' ∨ s ≠ s' := by
          rcases hb with hb | hb | hb
          · exact absurd h1 hb
          · exact absurd h2 hb
          · exact hb
        rw [if_pos h3] at h
        cases h
      · rw [if_pos h2] at h; exact h2 h
    · rw [if_pos h1] at h; exact h1 h
  · obtain ⟨h1, h2, h3, h4⟩ : (dataErr .f32 2047 l s zs).2 = 0 ∧ (dataErr .f32 2047 l' s' ys).2 = 0 ∧ l = l' ∧ s = s' := by
      refine ⟨?_, ?_, ?_, ?_⟩ <;> (apply Decidable.byContradiction; intro h; exact hb (by simp [h]))
    subst h3 h4
    obtain ⟨a1, a2, a3, a4, a5, a6⟩ := dataErr_ok h1
    obtain ⟨-, -, -, -, b5, b6⟩ := dataErr_ok h2
    obtain ⟨L, rfl⟩ : ∃ L : Nat, l = L := ⟨l.toNat, by omega⟩
    obtain ⟨S, rfl⟩ : ∃ S : Nat, s = S := ⟨s.toNat, by omega⟩
    have hlz : zs.length = L * S := by
      have : ((L * S : Nat) : Int) = zs.length := by rw [Int.natCast_mul, a5]
      omega
    have hly : ys.length = L * S := by
      have : ((L * S : Nat) : Int) = ys.length := by rw [Int.natCast_mul, b5]
      omega
    have RZ : Right .f32 2047 zs := right_of_ok (by decide) hz a6
    have RY : Right .f32 2047 ys := right_of_ok (by decide) hy b6
    have hE : addErr L S zs L S ys = if bigAny zs ys then 8 else 0 := by
      unfold addErr
      rw [if_neg (fun c => c h1), if_neg (fun c => c h2), if_neg (by simp)]
    rw [hE]
    refine ⟨_, _, _, fun W v u hv hu => Added_ok L S v u zs ys W hv.sl hu.sl (by omega) (by omega) hlz hly RZ RY h1 h2, fun h => ?_, fun h => ?_⟩
    · have hbg : bigAny zs ys = true := by
        cases hx : bigAny zs ys
        · rw [hx] at h; exact absurd rfl h
        · rfl
      rw [hbg]
      exact ⟨rfl, rfl, rfl⟩
    · have hbg : bigAny zs ys = false := by
        cases hx : bigAny zs ys
        · rfl
        · rw [hx] at h; cases h
      rw [hbg]
      exact ⟨rfl, rfl, rfl, rfl, rfl, rfl, h1, h2, L, S, rfl, rfl, by omega, by omega, by omega, by omega, hlz, hly, RZ, RY⟩

/-- Compress in one, whatever it answers -/
theorem compress_P (l s : Int) (zs us : List (Nat × Nat)) (hl : I64 l) (hs : I64 s) (hz : ∀ z ∈ zs, z.1 < 2 ^ 32 ∧ z.2 < 2 ^ 32) (hu : ∀ z ∈ us, z.1 < 2 ^ 32 ∧ z.2 < 2 ^ 32) :
    ∃ (lx sx : Int) (X : List (Nat × Nat)), ∀ W v k, Smp .f32 zs W v → Smp .f32 us W k → Calls Try.prog 9 #[.agg #[.int .i64 l, .int .i64 s, v], k] W (FieldE lx sx X (compErr l s zs us) W) := by
  by_cases hE : compErr l s zs us = 0
  · have hE' := hE
    unfold compErr at hE'
    have hD : (dataErr .f32 2047 l s zs).2 = 0 := by
      by_cases h : (dataErr .f32 2047 l s zs).2 = 0
      · exact h
      · rw [if_pos h] at hE'; exact absurd hE' h
    rw [if_neg (fun c => c hD)] at hE'
    have hK : (codeErr us).2 = 0 := by
      by_cases h : (codeErr us).2 = 0
      · exact h
      · rw [if_pos h] at hE'; exact absurd hE' h
    rw [if_neg (fun c => c hK)] at hE'
    have hm : ¬ s < us.length := by
      intro h
      rw [if_pos h] at hE'; cases hE'
    obtain ⟨a1, a2, a3, a4, a5, a6⟩ := dataErr_ok hD
    obtain ⟨u1, -, -⟩ := codeErr_ok hK
    obtain ⟨L, rfl⟩ : ∃ L : Nat, l = L := ⟨l.toNat, by omega⟩
    obtain ⟨S, rfl⟩ : ∃ S : Nat, s = S := ⟨s.toNat, by omega⟩
    have hn : L * (S - us.length + 1) ≤ 4096 := Nat.le_trans (Nat.mul_le_mul (show L ≤ 64 by omega) (show S - us.length + 1 ≤ 64 by omega)) (by decide)
    refine ⟨L, (S - us.length + 1 : Nat), compList zs us S (S - us.length + 1) (L * (S - us.length + 1)), fun W v k hv hk => ?_⟩
    rw [hE]
    refine (Compress_ok L S us.length v k zs us W hv.sl hk.sl hz hu (by omega) (by omega) (by omega) (by omega) rfl hD hK (by omega)).mono ?_
    rintro e w' ⟨g, rfl, -, hb, ho⟩
    exact ⟨_, rfl, hb, ⟨Sl.of_owns ho (by omega)⟩⟩
  · exact ⟨0, 0, [], fun W v k hv hk => (Compress_bad l s v k zs us W hl hs hv.sl hk.sl hE).mono fun e w' ⟨h1, h2⟩ => ⟨_, h1, h2, smp_nil _⟩⟩

/-- the three compressions behind a sum, where nothing is wrong -/
theorem linear_E (l s l' s' : Int) (zs ys us : List (Nat × Nat)) (hl : I64 l) (hs : I64 s) (hl' : I64 l') (hs' : I64 s') (hz : ∀ z ∈ zs, z.1 < 2 ^ 32 ∧ z.2 < 2 ^ 32) (hy : ∀ z ∈ ys, z.1 < 2 ^ 32 ∧ z.2 < 2 ^ 32) (hu : ∀ z ∈ us, z.1 < 2 ^ 32 ∧ z.2 < 2 ^ 32) :
    ∃ (la sa : Int) (A : List (Nat × Nat)) (EA : Int) (lx sx : Int) (X : List (Nat × Nat)) (EX : Int),
      (∀ W v u, Smp .f32 zs W v → Smp .f32 ys W u → Calls Try.prog 16 #[.agg #[.int .i64 l, .int .i64 s, v], .agg #[.int .i64 l', .int .i64 s', u]] W (ImgE la sa A EA W)) ∧
      (∀ W v k, Smp .f32 zs W v → Smp .f32 us W k → Calls Try.prog 9 #[.agg #[.int .i64 l, .int .i64 s, v], k] W (FieldE lx sx X EX W)) ∧
      (EA ≠ 0 ∨ (EA = 0 ∧ EX ≠ 0) ∨ (EA = 0 ∧ EX = 0 ∧ ∃ (f t : Int) (Y Z : List (Nat × Nat)) (n : Nat),
        (∀ W v k, Smp .f32 ys W v → Smp .f32 us W k → Calls Try.prog 9 #[.agg #[.int .i64 l', .int .i64 s', v], k] W (FieldE f t Y 0 W)) ∧
        (∀ W v k, Smp .f32 A W v → Smp .f32 us W k → Calls Try.prog 9 #[.agg #[.int .i64 la, .int .i64 sa, v], k] W (FieldE f t Z 0 W)) ∧
        X.length = n ∧ Y.length = n ∧ Z.length = n ∧ n ≤ 4096 ∧
        ∀ i, i < n → ∃ a b c d : Int, X.getD i (0, 0) = (enc Ieee.double a, enc Ieee.double b) ∧ Y.getD i (0, 0) = (enc Ieee.double c, enc Ieee.double d) ∧ Z.getD i (0, 0) = (enc Ieee.double (a + c), enc Ieee.double (b + d)) ∧ a.natAbs ≤ 393024 ∧ b.natAbs ≤ 393024 ∧ c.natAbs ≤ 393024 ∧ d.natAbs ≤ 393024)) := by
  obtain ⟨la, sa, A, hA, -, hA0⟩ := added_E l s l' s' zs ys hl hs hl' hs' hz hy
  obtain ⟨lx, sx, X, hX⟩ := compress_P l s zs us hl hs hz hu
  by_cases hEA : addErr l s zs l' s' ys = 0
  · by_cases hEX : compErr l s zs us = 0
    · obtain ⟨rfl, rfl, rfl, rfl, rfl, hbg, hDz, hDy, L, S, rfl, rfl, hL1, hL, hS1, hS, hlz, hly, RZ, RY⟩ := hA0 hEA
      have hE' := hEX
      unfold compErr at hE'
      rw [if_neg (fun c => c hDz)] at hE'
      have hK : (codeErr us).2 = 0 := by
        by_cases h : (codeErr us).2 = 0
        · exact h
        · rw [if_pos h] at hE'; exact absurd hE' h
      rw [if_neg (fun c => c hK)] at hE'
      have hm : us.length ≤ S := by
        rcases Nat.lt_or_ge S us.length with h | h
        · rw [if_pos (by omega)] at hE'; cases hE'
        · exact h
      obtain ⟨k1, k2, k3⟩ := codeErr_ok hK
      have RC : Right .f32 3 us := right_of_ok (by decide) hu k3
      have RA := addS_right hbg
      have hla : (addS zs ys).length = L * S := by rw [addS_length, hlz]
      have hDa : dataErr .f32 2047 L S (addS zs ys) = (0, 0) := by
        refine right_data (by decide) RA ?_
        have := hDz
        unfold dataErr at this
        rw [hla, ← hlz]
        by_cases h : sizeErr L S zs.length = 0
        · exact h
        · rw [if_pos h] at this; exact absurd this h
      have hza : ∀ z ∈ addS zs ys, z.1 < 2 ^ 32 ∧ z.2 < 2 ^ 32 := by
        intro z hz
        obtain ⟨i, hi, rfl⟩ := List.mem_map.1 hz
        exact ⟨rep_lt (.enc Ieee.single _), rep_lt (.enc Ieee.single _)⟩
      obtain ⟨S', hS'⟩ : ∃ S', S' = S - us.length + 1 := ⟨_, rfl⟩
      obtain ⟨n, hn⟩ : ∃ n, n = L * S' := ⟨_, rfl⟩
      have hn4 : n ≤ 4096 := by rw [hn]; exact Nat.le_trans (Nat.mul_le_mul hL (show S' ≤ 64 by omega)) (by decide)
      have key : ∀ (ts : List (Nat × Nat)), (∀ z ∈ ts, z.1 < 2 ^ 32 ∧ z.2 < 2 ^ 32) → (dataErr .f32 2047 L S ts).2 = 0 → ∀ W v k, Smp .f32 ts W v → Smp .f32 us W k → Calls Try.prog 9 #[.agg #[.int .i64 L, .int .i64 S, v], k] W (FieldE L S' (compList ts us S S' n) 0 W) := by
        intro ts ht hD W v k hv hk
        rw [hn, hS']
        refine (Compress_ok L S us.length v k ts us W hv.sl hk.sl ht hu (by omega) (by omega) (by omega) (by omega) rfl hD hK (by omega)).mono ?_
        rintro e w' ⟨g, rfl, -, hb, ho⟩
        exact ⟨_, rfl, hb, ⟨Sl.of_owns ho (by rw [← hS', ← hn]; omega)⟩⟩
      refine ⟨L, S, addS zs ys, 0, L, S', compList zs us S S' n, 0, fun W v u hv hu => by have := hA W v u hv hu; rwa [hEA] at this, key zs hz hDz, .inr (.inr ⟨rfl, rfl, L, S', compList ys us S S' n, compList (addS zs ys) us S S' n, n, key ys hy hDy, key _ hza (by rw [hDa]), by simp [compList], by simp [compList], by simp [compList], hn4, fun i hi => ?_⟩)⟩
      have d1 : i / S' < L := (Nat.div_lt_iff_lt_mul (by omega)).2 (by rw [← hn]; exact hi)
      have d2 : i % S' < S' := Nat.mod_lt _ (by omega)
      have d4 : i / S' * S + S ≤ L * S := by rw [← Nat.succ_mul]; exact Nat.mul_le_mul_right _ d1
      obtain ⟨f, hf⟩ : ∃ f, f = i / S' * S + i % S' := ⟨_, rfl⟩
      have hfm : f + us.length ≤ zs.length := by omega
      have get : ∀ ts, (compList ts us S S' n).getD i (0, 0) = (enc Ieee.double (cRe ts us f us.length), enc Ieee.double (cIm ts us f us.length)) := by
        intro ts
        simp only [compList, List.getD_eq_getElem?_getD, List.getElem?_map, List.getElem?_range hi, Option.map_some, Option.getD_some]
        unfold compAt
        rw [← hf]
        rfl
      obtain ⟨e1, e2⟩ := cRe_add us hbg f us.length hfm
      obtain ⟨g1, g2⟩ := c_b RZ RC f us.length hfm k2 (Nat.le_refl _)
      obtain ⟨g3, g4⟩ := c_b RY RC f us.length (by rw [hly, ← hlz]; exact hfm) k2 (Nat.le_refl _)
      exact ⟨_, _, _, _, get zs, get ys, by rw [get, e1, e2], g1, g2, g3, g4⟩
    · exact ⟨la, sa, A, _, lx, sx, X, _, hA, hX, .inr (.inl ⟨hEA, hEX⟩)⟩
  · exact ⟨la, sa, A, _, lx, sx, X, _, hA, hX, .inl hEA⟩
end Go.Proofs.Ytadajelonekpmaa
