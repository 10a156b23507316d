import Derived.Test.YtmiaglkkjncfnaaDoorGb
import Derived.Test.YtmiaglkkjncfnaaDoorWc
namespace Go.Proofs.YtmiaglkkjncfnaaDoor
open Go.RowKit Go.Proofs.YtmiaglkkjncfnaaDoor.Flt

/-- the error of a line of a field -/
def lineErr (l s : Int) (zs : List (Nat × Nat)) (line : Int) : Int :=
  if (dataErr .f64 1000000000 l s zs).2 ≠ 0 then (dataErr .f64 1000000000 l s zs).2 else if line < 0 ∨ l ≤ line then 2 else 0

set_option maxRecDepth 100000 in
theorem checkLine_any (l s : Int) (v : Value) (zs : List (Nat × Nat)) (line : Int) (w : World) (hl : I64 l) (hs : I64 s) (hv : Sl w v (cvals .f64 zs)) (hz : ∀ z ∈ zs, z.1 < 2 ^ 64 ∧ z.2 < 2 ^ 64) :
    Calls Tryd.prog 30 #[.agg #[.int .i64 l, .int .i64 s, v], .int .i64 line] w fun e w' => e = .returned (.int .i64 (lineErr l s zs line)) ∧ Below w.heap.size w w' := by
  obtain ⟨W0, hW0⟩ : ∃ W0, W0 = w.alloc (.cells #[.int .i64 l, .int .i64 s, v] 37) := ⟨_, rfl⟩
  have hb : Below w.heap.size w W0 := by rw [hW0]; exact (Below.refl _ _).alloc (Nat.le_refl _) _
  have C := Lib.hid (CheckField_any l s v zs W0 hl hs (hv.below hb (Nat.le_refl _)) hz)
  have H0 : Hid (W0.heap[w.heap.size]? = some (.cells #[.int .i64 l, .int .i64 s, v] 37 (0, 0))) := by rw [hW0]; exact heap_alloc_new _ _
  have HB := Lib.hid hb
  have HW0 := Lib.hid hW0
  obtain ⟨R, hR⟩ : ∃ R, R = lineErr l s zs line := ⟨_, rfl⟩
  rw [← hR]
  unfold lineErr at hR
  have HR := Lib.hid hR
  obtain ⟨va, vc, rfl, -, -⟩ := hv
  generalize (cvals .f64 zs).length = n at *
  generalize (dataErr .f64 1000000000 l s zs).1 = D1 at *
  generalize (dataErr .f64 1000000000 l s zs).2 = D2 at *
  clear hl hs hz hb hW0 hR
  have hw : ((D2 != 0) = true ∧ Hid (R = D2)) ∨ ((D2 != 0) = false ∧ line < 0 ∧ Hid (R = 2)) ∨ ((D2 != 0) = false ∧ ¬ line < 0 ∧ l ≤ line ∧ Hid (R = 2)) ∨ ((D2 != 0) = false ∧ ¬ line < 0 ∧ ¬ l ≤ line ∧ Hid (R = 0)) := by
    unfold Hid
    have := HR.out
    by_cases h1 : D2 = 0
    · right
      rw [if_neg (fun c => c h1)] at this
      have hd : (D2 != 0) = false := by rw [h1]; rfl
      by_cases h2 : line < 0
      · exact .inl ⟨hd, h2, by rw [this, if_pos (.inl h2)]⟩
      · by_cases h3 : l ≤ line
        · exact .inr (.inl ⟨hd, h2, h3, by rw [this, if_pos (.inr h3)]⟩)
        · exact .inr (.inr ⟨hd, h2, h3, by rw [this, if_neg (by omega)]⟩)
    · exact .inl ⟨by rw [bne_iff_ne]; exact h1, by rw [this, if_pos h1]⟩
  clear HR
  rcases hw with ⟨h1, HF⟩ | ⟨h1, h2, HF⟩ | ⟨h1, h2, h3, HF⟩ | ⟨h1, h2, h3, HF⟩
  all_goals
    go_enter Tryd.func30, Tryd.ntmps30
    go_wp2_with fail
    rw [← HW0.out]
    refine C.out.mono ?_
    rintro e w2 ⟨rfl, hb2⟩
    have H2 : Hid (w2.heap[w.heap.size]? = some (.cells #[.int .i64 l, .int .i64 s, .slice va n vc] 37 (0, 0))) := (hb2.block _ (lt_of_block H0.out)).trans H0.out
    have HB2 := Lib.hid (HB.out.trans (hb2.mono HB.out.size))
    obtain ⟨c0, c1, c2, -, -, -, lc⟩ := three_cells H2.out
    clear hb2
    go_wp2_with fail
    go_ret
    exact ⟨by rw [HF.out] <;> rfl, HB2.out⟩

/-- what EnergyAt answers -/
def enErr (l s : Int) (zs : List (Nat × Nat)) (line sample : Int) : Int :=
  if lineErr l s zs line ≠ 0 then lineErr l s zs line else if sample < 0 ∨ s ≤ sample then 2 else 0

theorem lineErr_ok {l s : Int} {zs : List (Nat × Nat)} {line : Int} (h : lineErr l s zs line = 0) (hz : ∀ z ∈ zs, z.1 < 2 ^ 64 ∧ z.2 < 2 ^ 64) :
    ∃ L S m : Nat, l = L ∧ s = S ∧ line = m ∧ 1 ≤ L ∧ L ≤ 64 ∧ 1 ≤ S ∧ S ≤ 64 ∧ m < L ∧ zs.length = L * S ∧ Right .f64 1000000000 zs := by
  unfold lineErr at h
  by_cases h1 : (dataErr .f64 1000000000 l s zs).2 = 0
  · rw [if_neg (fun c => c h1)] at h
    obtain ⟨a, b, c, d, e, f⟩ := dataErr_ok h1
    by_cases h2 : line < 0 ∨ l ≤ line
    · rw [if_pos h2] at h; cases h
    · refine ⟨l.toNat, s.toNat, line.toNat, by omega, by omega, by omega, by omega, by omega, by omega, by omega, by omega, ?_, right_of_ok (by decide) hz f⟩
      have e1 : l = (l.toNat : Int) := by omega
      have e2 : s = (s.toNat : Int) := by omega
      rw [e1, e2, ← Int.natCast_mul] at e
      exact_mod_cast e
  · rw [if_pos h1] at h; exact absurd h h1

end Go.Proofs.YtmiaglkkjncfnaaDoor
