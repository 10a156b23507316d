import Derived.Test.YtmmmaanflmgblaaDoorGb
import Derived.Test.YtmmmaanflmgblaaDoorWc
namespace Go.Proofs.YtmmmaanflmgblaaDoor
open Go.RowKit Go.Proofs.YtmmmaanflmgblaaDoor.Flt

/-- the error of a line of a field -/
def lineErr (l s : Int) (zs : List (Nat × Nat)) (line : Int) : Int :=
  if (dataErr .f64 1000000000 l s zs).2 ≠ 0 then (dataErr .f64 1000000000 l s zs).2 else if line < 0 ∨ l ≤ line then 2 else 0

set_option maxRecDepth 100000 in
theorem checkLine_any (l s : Int) (v : Value) (zs : List (Nat × Nat)) (line : Int) (w : World) (hl : I64 l) (hs : I64 s) (hv : Sl w v (cvals .f64 zs)) (hz : ∀ z ∈ zs, z.1 < 2 ^ 64 ∧ z.2 < 2 ^ 64) :
    Calls Tryd.prog 69 #[.agg #[.int .i64 l, .int .i64 s, v], .int .i64 line] w fun e w' => e = .returned (.int .i64 (lineErr l s zs line)) ∧ Below w.heap.size w w' := by
  obtain ⟨W0, hW0⟩ : ∃ W0, W0 = w.alloc (.cells #[.int .i64 l, .int .i64 s, v] 49) := ⟨_, rfl⟩
  have hb : Below w.heap.size w W0 := by rw [hW0]; exact (Below.refl _ _).alloc (Nat.le_refl _) _
  have C := Lib.hid (CheckField_any l s v zs W0 hl hs (hv.below hb (Nat.le_refl _)) hz)
  have H0 : Hid (W0.heap[w.heap.size]? = some (.cells #[.int .i64 l, .int .i64 s, v] 49 (0, 0))) := by rw [hW0]; exact heap_alloc_new _ _
  have HB := Lib.hid hb
  have HW0 := Lib.hid hW0
  obtain ⟨R, hR⟩ : ∃ R, R = lineErr l s zs line := ⟨_, rfl⟩
  rw [← hR]
  unfold lineErr at hR
  have HR := Lib.hid hR
  obtain ⟨va, vc, rfl, -, -⟩ := hv
  generalize (cvals .f64 zs).length = n at *
  generalize (dataErr .f64 1000000000 l s zs).1 = D1 at *
  generalize (dataErr .f64 1000000000 l s zs).2 = D2 at *
  clear hl hs hz hb hW0 hR
  have hw : ((D2 != 0) = true ∧ Hid (R = D2)) ∨ ((D2 != 0) = false ∧ line < 0 ∧ Hid (R = 2)) ∨ ((D2 != 0) = false ∧ ¬ line < 0 ∧ l ≤ line ∧ Hid (R = 2)) ∨ ((D2 != 0) = false ∧ ¬ line < 0 ∧ ¬ l ≤ line ∧ Hid (R = 0)) := by
    unfold Hid
    have := HR.out
    by_cases h1 : D2 = 0
    · right
      rw [if_neg (fun c => c h1)] at this
      have hd : (D2 != 0) = false := by rw [h1]; rfl
      by_cases h2 : line < 0
      · exact .inl ⟨hd, h2, by rw [this, if_pos (.inl h2)]⟩
      · by_cases h3 : l ≤ line
        · exact .inr (.inl ⟨hd, h2, h3, by rw [this, if_pos (.inr h3)]⟩)
        · exact .inr (.inr ⟨hd, h2, h3, by rw [this, if_neg (by omega)]⟩)
    · exact .inl ⟨by rw [bne_iff_ne]; exact h1, by rw [this, if_pos h1]⟩
  clear HR
  rcases hw with ⟨h1, HF⟩ | ⟨h1, h2, HF⟩ | ⟨h1, h2, h3, HF⟩ | ⟨h1, h2, h3, HF⟩
  all_goals
    go_enter Tryd.func69, Tryd.ntmps69
    go_wp2_with fail
    rw [← HW0.out]
    refine C.out.mono ?_
    rintro e w2 ⟨rfl, hb2⟩
    have H2 : Hid (w2.heap[w.heap.size]? = some (.cells #[.int .i64 l, .int .i64 s, .slice va n vc] 49 (0, 0))) := (hb2.block _ (lt_of_block H0.out)).trans H0.out
    have HB2 := Lib.hid (HB.out.trans (hb2.mono HB.out.size))
    obtain ⟨c0, c1, c2, -, -, -, lc⟩ := three_cells H2.out
    clear hb2
    go_wp2_with fail
    go_ret
    exact ⟨by rw [HF.out] <;> rfl, HB2.out⟩

/-- what EnergyAt answers -/
def enErr (l s : Int) (zs : List (Nat × Nat)) (line sample : Int) : Int :=
  if lineErr l s zs line ≠ 0 then lineErr l s zs line else if sample < 0 ∨ s ≤ sample then 2 else 0

theorem lineErr_ok {l s : Int} {zs : List (Nat × Nat)} {line : Int} (h : lineErr l s zs line = 0) (hz : ∀ z ∈ zs, z.1 < 2 ^ 64 ∧ z.2 < 2 ^ 64) :
    ∃ L S m : Nat, l = L ∧ s = S ∧ line = m ∧ 1 ≤ L ∧ L ≤ 64 ∧ 1 ≤ S ∧ S ≤ 64 ∧ m < L ∧ zs.length = L * S ∧ Right .f64 1000000000 zs := by
  unfold lineErr at h
  by_cases h1 : (dataErr .f64 1000000000 l s zs).2 = 0
  · rw [if_neg (fun c => c h1)] at h
    obtain ⟨a, b, c, d, e, f⟩ := dataErr_ok h1
    by_cases h2 : line < 0 ∨ l ≤ line
    · rw [if_pos h2] at h; cases h
    · refine ⟨l.toNat, s.toNat, line.toNat, by omega, by omega, by omega, by omega, by omega, by omega, by omega, by omega, ?_, right_of_ok (by decide) hz f⟩
      have e1 : l = (l.toNat : Int) := by omega
      have e2 : s = (s.toNat : Int) := by omega
      rw [e1, e2, ← Int.natCast_mul] at e
      exact_mod_cast e
  · rw [if_pos h1] at h; exact absurd h h1

set_option maxRecDepth 100000 in
set_option maxHeartbeats 1000000 in
theorem EnergyAt_any (l s : Int) (v : Value) (zs : List (Nat × Nat)) (line sample : Int) (w : World) (hl : I64 l) (hs : I64 s) (hv : Sl w v (cvals .f64 zs)) (hz : ∀ z ∈ zs, z.1 < 2 ^ 64 ∧ z.2 < 2 ^ 64) :
    Calls Tryd.prog 25 #[.agg #[.int .i64 l, .int .i64 s, v], .int .i64 line, .int .i64 sample] w fun e w' => e = .returned (.tuple #[.int .i64 (if enErr l s zs line sample = 0 then enAt zs (line * s + sample).toNat else 0), .int .i64 (enErr l s zs line sample)]) ∧ Below w.heap.size w w' := by
  obtain ⟨W0, hW0⟩ : ∃ W0, W0 = w.alloc (.cells #[.int .i64 l, .int .i64 s, v] 49) := ⟨_, rfl⟩
  have hb : Below w.heap.size w W0 := by rw [hW0]; exact (Below.refl _ _).alloc (Nat.le_refl _) _
  have C := Lib.hid (checkLine_any l s v zs line W0 hl hs (hv.below hb (Nat.le_refl _)) hz)
  have H0 : Hid (W0.heap[w.heap.size]? = some (.cells #[.int .i64 l, .int .i64 s, v] 49 (0, 0))) := by rw [hW0]; exact heap_alloc_new _ _
  have HB := Lib.hid hb
  have HW0 := Lib.hid hW0
  have HV := Lib.hid (hv.below hb (Nat.le_refl _))
  obtain ⟨R, hR⟩ : ∃ R, R = enErr l s zs line sample := ⟨_, rfl⟩
  rw [← hR]
  unfold enErr at hR
  have HR := Lib.hid hR
  have HZ := Lib.hid hz
  obtain ⟨va, vc, rfl, hvl, -⟩ := hv
  clear hl hs hz hb hW0 hR
  have hn : (cvals .f64 zs).length = zs.length := by simp [cvals]
  rw [hn] at hvl C H0 HV HW0 ⊢
  by_cases h1 : lineErr l s zs line = 0
  · obtain ⟨L, S, m, rfl, rfl, rfl, hL1, hL, hS1, hS, hm, hlen, RR⟩ := lineErr_ok h1 HZ.out
    rw [h1] at C
    have HR2 : Hid (R = if sample < 0 ∨ (S : Int) ≤ sample then 2 else 0) := HR.out.trans (by rw [if_neg (fun c => c h1)])
    obtain ⟨n, hn2⟩ : ∃ n, n = zs.length := ⟨_, rfl⟩
    rw [← hn2] at hvl C H0 HV HW0 hlen ⊢
    have HN := Lib.hid hn2
    have HRR := Lib.hid RR
    have hn4 : n ≤ 4096 := by rw [hlen]; exact Nat.le_trans (Nat.mul_le_mul hL hS) (by decide)
    have HLen := Lib.hid hlen
    clear HR h1 hn hn2 RR hlen
    by_cases h2 : sample < 0
    · have HF : Hid (R = 2) := HR2.out.trans (if_pos (.inl h2))
      rw [HF.out, if_neg (by decide)]
      clear HR2
      go_enter Tryd.func25, Tryd.ntmps25
      go_wp2_with fail
      rw [← HW0.out]
      refine C.out.mono ?_
      rintro e w2 ⟨rfl, hb2⟩
      have HB2 := Lib.hid (HB.out.trans (hb2.mono HB.out.size))
      clear hb2
      go_wp2_with fail
      go_ret2
      exact ⟨rfl, HB2.out⟩
    · by_cases h3 : (S : Int) ≤ sample
      · have HF : Hid (R = 2) := HR2.out.trans (if_pos (.inr h3))
        rw [HF.out, if_neg (by decide)]
        clear HR2
        go_enter Tryd.func25, Tryd.ntmps25
        go_wp2_with fail
        rw [← HW0.out]
        refine C.out.mono ?_
        rintro e w2 ⟨rfl, hb2⟩
        have HB2 := Lib.hid (HB.out.trans (hb2.mono HB.out.size))
        have H2 : Hid (w2.heap[w.heap.size]? = some (.cells #[.int .i64 L, .int .i64 S, .slice va n vc] 49 (0, 0))) := (hb2.block _ (lt_of_block H0.out)).trans H0.out
        obtain ⟨c0, c1, c2, -, -, -, lc⟩ := three_cells H2.out
        clear hb2
        go_wp2_with fail
        go_ret2
        exact ⟨rfl, HB2.out⟩
      · have HF : Hid (R = 0) := HR2.out.trans (if_neg (by omega))
        obtain ⟨j, rfl⟩ : ∃ j : Nat, sample = j := ⟨sample.toNat, by omega⟩
        have hj : j < S := by omega
        have ht : m * S + j < n := by
          have : m * S + S ≤ L * S := by rw [← Nat.succ_mul]; exact Nat.mul_le_mul_right _ hm
          have := HLen.out
          omega
        obtain ⟨p, hp⟩ : ∃ p, p = m * S := ⟨_, rfl⟩
        have hpi : (m : Int) * S = p := by rw [hp, Int.natCast_mul]
        rw [← hp] at ht
        rw [HF.out, if_pos rfl, hpi, show ((p : Int) + j).toNat = p + j from by omega]
        have hpj : (p : Int) + j = ((p + j : Nat) : Int) := by omega
        obtain ⟨t, htt⟩ : ∃ t, t = p + j := ⟨_, rfl⟩
        rw [← htt] at hpj ht ⊢
        obtain ⟨a1, a2, a3, a4⟩ := HRR.out t (by have := HN.out; omega)
        have CE := Lib.hid (fun w => energy_any _ _ _ _ a1 a2 a3 a4 w)
        have HE : Hid (enAt zs t = re .f64 zs t * re .f64 zs t + im .f64 zs t * im .f64 zs t) := rfl
        rw [← HE.out] at CE
        obtain ⟨-, b1, o1, rfl, q1, g1⟩ := HV.out.at (by omega)
        have d1 : W0.cell? ⟨b1, o1 + t, none⟩ = some (.complex .f64 (zs.getD t (0, 0)).1 (zs.getD t (0, 0)).2) := g1 t _ (cvals_get (by have := HN.out; omega))
        generalize enAt zs t = E at *
        generalize (zs.getD t (0, 0)).1 = z1 at *
        generalize (zs.getD t (0, 0)).2 = z2 at *
        have ht2 : (t : Int) < n := by omega
        clear g1 a1 a2 a3 a4 HE HR2 hp htt h2 h3 hm
        go_enter Tryd.func25, Tryd.ntmps25
        go_wp2_with fail
        rw [← HW0.out]
        refine C.out.mono ?_
        rintro e w2 ⟨rfl, hb2⟩
        have HB2 := Lib.hid (HB.out.trans (hb2.mono HB.out.size))
        have H2 : Hid (w2.heap[w.heap.size]? = some (.cells #[.int .i64 L, .int .i64 S, .slice (some ⟨b1, o1, none⟩) n vc] 49 (0, 0))) := (hb2.block _ (lt_of_block H0.out)).trans H0.out
        obtain ⟨c0, c1, c2, -, -, -, lc⟩ := three_cells H2.out
        have d2 : w2.cell? ⟨b1, o1 + t, none⟩ = some (.complex .f64 z1 z2) := (hb2.cell (p := ⟨b1, o1 + t, none⟩) q1).trans d1
        clear hb2 d1
        go_wp2_with fail
        refine (CE.out _).mono ?_
        rintro e w' ⟨rfl, rfl⟩
        go_wp2_with fail
        go_ret2
        exact ⟨rfl, HB2.out⟩
  · have HF : Hid (R = lineErr l s zs line) := HR.out.trans (if_pos h1)
    rw [HF.out, if_neg h1]
    have hd : (lineErr l s zs line != 0) = true := by rw [bne_iff_ne]; exact h1
    generalize lineErr l s zs line = E at *
    generalize zs.length = n at *
    clear HR h1 hn
    go_enter Tryd.func25, Tryd.ntmps25
    go_wp2_with fail
    rw [← HW0.out]
    refine C.out.mono ?_
    rintro e w2 ⟨rfl, hb2⟩
    have HB2 := Lib.hid (HB.out.trans (hb2.mono HB.out.size))
    clear hb2
    go_wp2_with fail
    go_ret2
    exact ⟨rfl, HB2.out⟩
end Go.Proofs.YtmmmaanflmgblaaDoor
