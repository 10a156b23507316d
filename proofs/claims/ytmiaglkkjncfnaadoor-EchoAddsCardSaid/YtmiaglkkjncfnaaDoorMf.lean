import Derived.Test.YtmiaglkkjncfnaaDoorMe
import Derived.Test.YtmiaglkkjncfnaaDoorLb
import Derived.Test.YtmiaglkkjncfnaaDoorOb
namespace Go.Proofs.YtmiaglkkjncfnaaDoor
open Go.RowKit Go.Proofs.YtmiaglkkjncfnaaDoor.Flt

set_option maxRecDepth 100000 in
theorem noImage_any (a : Option Addr) (c : Nat) (w : World) : Calls Tryd.prog 20 #[.agg #[.int .i64 0, .int .i64 0, .slice a 0 c]] w fun e w' => e = .returned (.bool true) ∧ Below w.heap.size w w' := by
  go_enter Tryd.func20, Tryd.ntmps20
  go_wp2_with fail
  go_ret
  exact ⟨rfl, (Below.refl _ _).alloc (Nat.le_refl _) _⟩

/-- Added and its reference, in one -/
theorem adds_E (l s l' s' : Int) (zs ys : List (Nat × Nat)) (hl : I64 l) (hs : I64 s) (hl' : I64 l') (hs' : I64 s') (hz : ∀ z ∈ zs, z.1 < 2 ^ 32 ∧ z.2 < 2 ^ 32) (hy : ∀ z ∈ ys, z.1 < 2 ^ 32 ∧ z.2 < 2 ^ 32) :
    ∃ (la sa : Int) (A : List (Nat × Nat)) (EA : Int), (∀ W v u, Smp .f32 zs W v → Smp .f32 ys W u → Calls Tryd.prog 14 #[.agg #[.int .i64 l, .int .i64 s, v], .agg #[.int .i64 l', .int .i64 s', u]] W (ImgE la sa A EA W)) ∧
      (((dataErr .f32 2047 l s zs).2 ≠ 0 ∧ la = 0 ∧ sa = 0 ∧ A = [] ∧ EA = (dataErr .f32 2047 l s zs).2) ∨
       ((dataErr .f32 2047 l s zs).2 = 0 ∧ (dataErr .f32 2047 l' s' ys).2 ≠ 0 ∧ la = 0 ∧ sa = 0 ∧ A = [] ∧ EA = (dataErr .f32 2047 l' s' ys).2) ∨
       ((dataErr .f32 2047 l s zs).2 = 0 ∧ (dataErr .f32 2047 l' s' ys).2 = 0 ∧ ∀ W v u, Smp .f32 zs W v → Smp .f32 ys W u → Calls Tryd.prog 23 #[.agg #[.int .i64 l, .int .i64 s, v], .agg #[.int .i64 l', .int .i64 s', u]] W (ImgE la sa A EA W))) := by
  obtain ⟨la, sa, A, hA, hA1, -⟩ := added_E l s l' s' zs ys hl hs hl' hs' hz hy
  by_cases h1 : (dataErr .f32 2047 l s zs).2 = 0
  · by_cases h2 : (dataErr .f32 2047 l' s' ys).2 = 0
    · by_cases h3 : l ≠ l' ∨ s ≠ s'
      · have hE : addErr l s zs l' s' ys = 13 := by unfold addErr; rw [if_neg (fun c => c h1), if_neg (fun c => c h2), if_pos h3]
        rw [hE] at hA hA1
        obtain ⟨rfl, rfl, rfl⟩ := hA1 (by decide)
        exact ⟨0, 0, [], 13, hA, .inr (.inr ⟨h1, h2, fun W v u hv hu => (refAdded_clash l s l' s' v u zs ys W hv.sl hu.sl h3).mono fun e w' ⟨q1, q2⟩ => ⟨_, q1, q2, smp_nil32 _⟩⟩)⟩
      · obtain ⟨rfl, rfl⟩ : l = l' ∧ s = s' := by
          constructor <;> (apply Decidable.byContradiction; intro h; exact h3 (by simp [h]))
        obtain ⟨a1, a2, a3, a4, a5, a6⟩ := dataErr_ok h1
        obtain ⟨-, -, -, -, b5, b6⟩ := dataErr_ok h2
        obtain ⟨L, rfl⟩ : ∃ L : Nat, l = L := ⟨l.toNat, by omega⟩
        obtain ⟨S, rfl⟩ : ∃ S : Nat, s = S := ⟨s.toNat, by omega⟩
        have hlz : zs.length = L * S := by
          have : ((L * S : Nat) : Int) = zs.length := by rw [Int.natCast_mul, a5]
          omega
        have hly : ys.length = L * S := by
          have : ((L * S : Nat) : Int) = ys.length := by rw [Int.natCast_mul, b5]
          omega
        have RZ : Right .f32 2047 zs := right_of_ok (by decide) hz a6
        have RY : Right .f32 2047 ys := right_of_ok (by decide) hy b6
        exact ⟨_, _, _, _, fun W v u hv hu => Added_ok L S v u zs ys W hv.sl hu.sl (by omega) (by omega) hlz hly RZ RY h1 h2, .inr (.inr ⟨h1, h2, fun W v u hv hu => refAdded_ok L S v u zs ys W hv.sl hu.sl (by omega) (by omega) hlz hly RZ RY⟩)⟩
    · have hE : addErr l s zs l' s' ys = (dataErr .f32 2047 l' s' ys).2 := by unfold addErr; rw [if_neg (fun c => c h1), if_pos h2]
      rw [hE] at hA hA1
      obtain ⟨rfl, rfl, rfl⟩ := hA1 h2
      exact ⟨0, 0, [], _, hA, .inr (.inl ⟨h1, h2, rfl, rfl, rfl, rfl⟩)⟩
  · have hE : addErr l s zs l' s' ys = (dataErr .f32 2047 l s zs).2 := by unfold addErr; rw [if_pos h1]
    rw [hE] at hA hA1
    obtain ⟨rfl, rfl, rfl⟩ := hA1 h1
    exact ⟨0, 0, [], _, hA, .inl ⟨h1, rfl, rfl, rfl, rfl⟩⟩

/-- Shifted and its reference, in one -/
theorem shift_E (l s : Int) (zs : List (Nat × Nat)) (a b : Int) (hl : I64 l) (hs : I64 s) (hz : ∀ z ∈ zs, z.1 < 2 ^ 32 ∧ z.2 < 2 ^ 32) :
    ∃ (ls ss : Int) (B : List (Nat × Nat)) (ES : Int), (∀ W v, Smp .f32 zs W v → Calls Tryd.prog 18 #[.agg #[.int .i64 l, .int .i64 s, v], .agg #[.int .i64 a, .int .i64 b]] W (ImgE ls ss B ES W)) ∧
      (((dataErr .f32 2047 l s zs).2 ≠ 0 ∧ ls = 0 ∧ ss = 0 ∧ B = [] ∧ ES = (dataErr .f32 2047 l s zs).2) ∨
       ((dataErr .f32 2047 l s zs).2 = 0 ∧ ¬ (-64 ≤ a ∧ a ≤ 64) ∧ ls = 0 ∧ ss = 0 ∧ B = [] ∧ ES = 2) ∨
       ((dataErr .f32 2047 l s zs).2 = 0 ∧ (-64 ≤ a ∧ a ≤ 64) ∧ ¬ (-64 ≤ b ∧ b ≤ 64) ∧ ls = 0 ∧ ss = 0 ∧ B = [] ∧ ES = 2) ∨
       ((dataErr .f32 2047 l s zs).2 = 0 ∧ (-64 ≤ a ∧ a ≤ 64) ∧ (-64 ≤ b ∧ b ≤ 64) ∧ ES = 0 ∧ ∀ W v, Smp .f32 zs W v → Calls Tryd.prog 22 #[.agg #[.int .i64 l, .int .i64 s, v], .agg #[.int .i64 a, .int .i64 b]] W (ImgR ls ss B W))) := by
  have hbad : shErr l s zs a b ≠ 0 → ∀ W v, Smp .f32 zs W v → Calls Tryd.prog 18 #[.agg #[.int .i64 l, .int .i64 s, v], .agg #[.int .i64 a, .int .i64 b]] W (ImgE 0 0 [] (shErr l s zs a b) W) := fun h W v hv =>
    (Shifted_bad l s v zs a b W hl hs hv.sl h).mono fun e w' ⟨h1, h2⟩ => ⟨_, h1, h2, smp_nil32 _⟩
  by_cases h1 : (dataErr .f32 2047 l s zs).2 = 0
  · by_cases h2 : -64 ≤ a ∧ a ≤ 64
    · by_cases h3 : -64 ≤ b ∧ b ≤ 64
      · obtain ⟨a1, a2, a3, a4, a5, a6⟩ := dataErr_ok h1
        obtain ⟨L, rfl⟩ : ∃ L : Nat, l = L := ⟨l.toNat, by omega⟩
        obtain ⟨S, rfl⟩ : ∃ S : Nat, s = S := ⟨s.toNat, by omega⟩
        have hlz : zs.length = L * S := by
          have : ((L * S : Nat) : Int) = zs.length := by rw [Int.natCast_mul, a5]
          omega
        have RZ : Right .f32 2047 zs := right_of_ok (by decide) hz a6
        exact ⟨_, _, _, _, fun W v hv => Shifted_ok L S v zs a b W hv.sl (by omega) (by omega) (by omega) hlz RZ h2 h3 h1, .inr (.inr (.inr ⟨h1, h2, h3, rfl, fun W v hv => refShifted_ok L S v zs a b W hv.sl (by omega) (by omega) (by omega) hlz RZ h2 h3⟩))⟩
      · have hE : shErr l s zs a b = 2 := by unfold shErr; rw [if_neg (fun c => c h1), if_pos (.inr (by omega))]
        rw [hE] at hbad
        exact ⟨0, 0, [], 2, hbad (by decide), .inr (.inr (.inl ⟨h1, h2, h3, rfl, rfl, rfl, rfl⟩))⟩
    · have hE : shErr l s zs a b = 2 := by unfold shErr; rw [if_neg (fun c => c h1), if_pos (.inl (by omega))]
      rw [hE] at hbad
      exact ⟨0, 0, [], 2, hbad (by decide), .inr (.inl ⟨h1, h2, rfl, rfl, rfl, rfl⟩)⟩
  · have hE : shErr l s zs a b = (dataErr .f32 2047 l s zs).2 := by unfold shErr; rw [if_pos h1]
    rw [hE] at hbad
    exact ⟨0, 0, [], _, hbad h1, .inl ⟨h1, rfl, rfl, rfl, rfl⟩⟩
end Go.Proofs.YtmiaglkkjncfnaaDoor
