import Derived.Test.YtmiaglkkjncfnaaDoorPa
namespace Go.Proofs.YtmiaglkkjncfnaaDoor
open Go.RowKit Go.Proofs.YtmiaglkkjncfnaaDoor.Flt

/-- the greatest of the first k numbers that lie outside a range, or 0 -/
def outMax (f : Nat → Int) (lo hi : Nat) : Nat → Int
  | 0 => 0
  | k + 1 => if k < lo ∨ hi < k then max (outMax f lo hi k) (f k) else outMax f lo hi k

set_option maxRecDepth 100000 in
set_option maxHeartbeats 1000000 in
theorem greatestOutside_any (v : Value) (xs : List Int) (lo hi : Nat) (w : World) (hv : Sl w v (ivals xs)) (hn4 : xs.length ≤ 4096) (hlo : lo ≤ 4096) (hhi : hi ≤ 4096) :
    Calls Tryd.prog 36 #[v, .agg #[.int .i64 lo, .int .i64 hi]] w fun e w' => e = .returned (.int .i64 (outMax (fun i => xs.getD i 0) lo hi xs.length)) ∧ Below w.heap.size w w' := by
  have HA := Lib.hid hv
  obtain ⟨aa, ac, rfl, hla, -⟩ := hv
  obtain ⟨n, hn⟩ : ∃ n, n = xs.length := ⟨_, rfl⟩
  have ex : (ivals xs).length = n := by simp [ivals, hn]
  rw [ex] at hla HA ⊢
  rw [← hn] at hn4 ⊢
  have HN := Lib.hid hn
  clear ex hn
  obtain ⟨W0, hW0⟩ : ∃ W0, W0 = w.alloc (.cells #[.int .i64 lo, .int .i64 hi] 29) := ⟨_, rfl⟩
  have hb : Below w.heap.size w W0 := by rw [hW0]; exact (Below.refl _ _).alloc (Nat.le_refl _) _
  have H0 : W0.heap[w.heap.size]? = some (.cells #[.int .i64 lo, .int .i64 hi] 29 (0, 0)) := by rw [hW0]; exact heap_alloc_new _ _
  obtain ⟨z0, z1, -, -, -⟩ := two_cells H0
  have HB := Lib.hid hb
  have HW0 := Lib.hid hW0
  obtain ⟨M, hM⟩ : ∃ M, M = outMax (fun i => xs.getD i 0) lo hi n := ⟨_, rfl⟩
  rw [← hM]
  have HM := Lib.hid hM
  clear hb hW0 H0 hM
  go_enter Tryd.func36, Tryd.ntmps36
  go_wp2_with fail
  rw [← HW0.out]
  go_loop [5, 10] (fun mv i => ∃ k : Nat, k ≤ n ∧ i = .int .i64 k ∧ mv = .int .i64 (outMax (fun i => xs.getD i 0) lo hi k)) (fun _ i => n - (intOf i).toNat)
  case atStart => exact ⟨0, Nat.zero_le _, rfl, rfl⟩
  case round =>
    obtain ⟨k, hk, rfl, rfl⟩ := hrel
    by_cases hlt : k < n
    · obtain ⟨-, b1, o1, rfl, q1, hcl⟩ := HA.out.at (by omega)
      have d1 : W0.cell? ⟨b1, o1 + k, none⟩ = some (.int .i64 (xs.getD k 0)) := (HB.out.cell (p := ⟨b1, o1 + k, none⟩) q1).trans (hcl k _ (ivals_get (by have := HN.out; omega)))
      have HS : Hid (outMax (fun i => xs.getD i 0) lo hi (k + 1) = if k < lo ∨ hi < k then max (outMax (fun i => xs.getD i 0) lo hi k) (xs.getD k 0) else outMax (fun i => xs.getD i 0) lo hi k) := rfl
      obtain ⟨m, hm⟩ : ∃ m, m = outMax (fun i => xs.getD i 0) lo hi k := ⟨_, rfl⟩
      rw [← hm] at HS ⊢
      generalize xs.getD k 0 = x at *
      clear hcl q1 hm
      by_cases h1 : k < lo
      · have HS2 : Hid (outMax (fun i => xs.getD i 0) lo hi (k + 1) = max m x) := HS.out.trans (if_pos (.inl h1))
        clear HS
        go_wp2_with fail
        go_round
        case rel => exact ⟨k + 1, by omega, by go_num, by rw [HS2.out]⟩
        case measure => simp [intOf]; omega
      · by_cases h2 : hi < k
        · have HS2 : Hid (outMax (fun i => xs.getD i 0) lo hi (k + 1) = max m x) := HS.out.trans (if_pos (.inr h2))
          clear HS
          go_wp2_with fail
          go_round
          case rel => exact ⟨k + 1, by omega, by go_num, by rw [HS2.out]⟩
          case measure => simp [intOf]; omega
        · have HS2 : Hid (outMax (fun i => xs.getD i 0) lo hi (k + 1) = m) := HS.out.trans (if_neg (by omega))
          clear HS
          go_wp2_with fail
          go_round
          case rel => exact ⟨k + 1, by omega, by go_num, by rw [HS2.out]⟩
          case measure => simp [intOf]; omega
    · have e : n = k := by omega
      subst e
      rw [← HM.out]
      go_wp2_with fail
      go_ret
      exact ⟨rfl, HB.out⟩

set_option maxRecDepth 100000 in
theorem Response1_any (a b n g c G0 G1 : Nat) (x y : Int) (w : World) (h1 : w.cell? ⟨G0, 0, none⟩ = some (.slice (some ⟨g, 0, none⟩) n c)) (h2 : w.cell? ⟨G1, 0, none⟩ = some (.int .i64 y)) (h3 : w.cell? ⟨g, 0 + b, none⟩ = some (.int .i64 x)) (hb : b < n) (hx : 0 ≤ x ∧ x ≤ 2000000000000000000) :
    Calls Tryd.prog 34 #[.int .i64 a, .int .i64 b, .pointer (some ⟨G0, 0, none⟩), .pointer (some ⟨G1, 0, none⟩)] w fun e w' => e = .returned (.bool (decide (y ≤ 2 * x))) ∧ ∃ q, w' = w.drewN q := by
  have hm : IntKind.i64.wrap (2 * x) = 2 * x := IntWalk.i64_in _ ⟨by omega, by omega⟩
  have hbn : (b : Int) < n := by omega
  have h4 : w.cell? ⟨g, b, none⟩ = some (.int .i64 x) := by rw [Nat.zero_add] at h3; exact h3
  clear hx h3
  go_enter Tryd.func34, Tryd.ntmps34
  go_wp2_with fail
  go_quiet (fail)
  go_wp2_with fail
  go_ret
  exact ⟨rfl, _, rfl⟩

set_option maxRecDepth 100000 in
theorem Response2_any (a b n g c G0 : Nat) (x y : Int) (w : World) (h1 : w.cell? ⟨G0, 0, none⟩ = some (.slice (some ⟨g, 0, none⟩) n c)) (h2 : w.cell? ⟨g, 0 + a, none⟩ = some (.int .i64 y)) (h3 : w.cell? ⟨g, 0 + b, none⟩ = some (.int .i64 x)) (ha : a < n) (hb : b < n) :
    Calls Tryd.prog 35 #[.int .i64 a, .int .i64 b, .pointer (some ⟨G0, 0, none⟩)] w fun e w' => e = .returned (.bool (decide (x < y))) ∧ ∃ q, w' = w.drewN q := by
  have hbn : (b : Int) < n := by omega
  have han : (a : Int) < n := by omega
  have h4 : w.cell? ⟨g, b, none⟩ = some (.int .i64 x) := by rw [Nat.zero_add] at h3; exact h3
  have h5 : w.cell? ⟨g, a, none⟩ = some (.int .i64 y) := by rw [Nat.zero_add] at h2; exact h2
  clear h2 h3
  go_enter Tryd.func35, Tryd.ntmps35
  go_wp2_with fail
  go_quiet (fail)
  go_wp2_with fail
  go_ret
  exact ⟨rfl, _, rfl⟩
theorem enters_Response1 : ∀ args w, (callFunc 34 args).run Tryd.prog w = .ok (.enter 34 args) w := enters_of Tryd.func34 (by kernel_rfl) rfl
theorem enters_Response2 : ∀ args w, (callFunc 35 args).run Tryd.prog w = .ok (.enter 35 args) w := enters_of Tryd.func35 (by kernel_rfl) rfl
end Go.Proofs.YtmiaglkkjncfnaaDoor
