import Derived.Test.YtcjdbhcpcigmdaaDoorEq
namespace Go.Proofs.YtcjdbhcpcigmdaaDoor
open Go.RowKit Go.Proofs.YtcjdbhcpcigmdaaDoor.Flt

theorem hv_le (m : Nat) : ∀ j i, i * 2 ^ j ≤ m → m < (i + 1) * 2 ^ j → hv (fun h _ => decide (h ≤ m)) j i = m := by
  intro j
  induction j with
  | zero => intro i h1 h2; simp at h1 h2; rw [hv]; omega
  | succ j ih =>
    intro i h1 h2
    have p1 : i * 2 ^ (j + 1) = 2 * i * 2 ^ j := by rw [Nat.pow_succ, Nat.mul_comm 2 i, Nat.mul_assoc, Nat.mul_comm 2 (2 ^ j)]
    have p2 : (i + 1) * 2 ^ (j + 1) = (2 * i + 1 + 1) * 2 ^ j := by
      rw [Nat.pow_succ, Nat.mul_comm (2 ^ j) 2, ← Nat.mul_assoc, Nat.add_mul i 1 2]
      congr 1; omega
    rw [hv]
    by_cases hc : (2 * i + 1) * 2 ^ j ≤ m
    · simp only [decide_eq_true hc, if_true]
      exact ih _ hc (by rw [← p2]; exact h2)
    · simp only [decide_eq_false hc]
      exact ih _ (by rw [← p1]; exact h1) (by omega)

set_option maxRecDepth 100000 in
/-- A DIRECTION -/
theorem Direction_any (m : Nat) (hm : m ≤ 1024) (w : World) :
    Calls Tryd.prog 53 #[.int .i64 m] w fun e w' => e = .returned (.tuple #[.agg #[.int .i64 (dAt 10 m).1, .int .i64 (dAt 10 m).2], .int .i64 0]) ∧ Below w.heap.size w w' := by
  by_cases h : m = 1024
  · subst h
    have HE : Hid (dAt 10 1024 = (diag, diag)) := dAt_scale 0 1 10
    have C := Lib.hid diagonal_any
    generalize diag = d at *
    generalize dAt 10 1024 = D at *
    go_enter Tryd.func53, Tryd.ntmps53
    go_wp2_with fail
    refine (C.out _).mono ?_
    rintro e w1 ⟨rfl, hb⟩
    have hN : w1.heap[w.heap.size + 1]? = some (.cells #[.int .i64 0, .int .i64 0] 51 (0, 0)) := (hb.block _ (by simp)).trans (by
      have := heap_alloc_new (w.alloc (.cells #[.int .i64 1024] 3)) (.cells #[.int .i64 0, .int .i64 0] 51)
      rwa [World.size_alloc] at this)
    have HB := Lib.hid ((((Below.refl w.heap.size w).alloc (Nat.le_refl _) (.cells #[.int .i64 1024] 3)).alloc (by simp) (.cells #[.int .i64 0, .int .i64 0] 51)).trans (hb.mono (by simp; omega)))
    clear hb
    obtain ⟨z0, z1, y0, y1, l3⟩ := two_cells hN
    clear hN
    go_wp2_with fail
    refine bodyPost_ret (v := .tuple #[.agg #[.int .i64 d, .int .i64 d], .int .i64 0]) (by simp [results, Tryd.results53, go_sem, z0, z1]) rfl ⟨by rw [HE.out], ?_⟩
    exact (HB.out.setCell (p := ⟨w.heap.size + 1, 0, none⟩) (by show w.heap.size ≤ w.heap.size + 1; omega) _).setCell (p := ⟨w.heap.size + 1, 1, none⟩) (by show w.heap.size ≤ w.heap.size + 1; omega) _
  · have C := halve_any 102 enters_Direction1 #[.pointer (some ⟨w.heap.size, 0, none⟩)] (fun h _ => decide (h ≤ m)) m (hv_le m 10 0 (by omega) (by omega))
      ((w.alloc (.cells #[.int .i64 m] 3)).alloc (.cells #[.int .i64 0, .int .i64 0] 51)) (by
        intro k d W hk hd hb
        have b0 : W.heap[w.heap.size]? = some (.cells #[.int .i64 m] 3 (0, 0)) := by
          rw [hb.block _ (by simp; omega), Below.heap_alloc _ _ _ (by simp)]; exact heap_alloc_new _ _
        exact Direction1_any k d m w.heap.size W (cell_of_one b0))
    generalize dAt 10 m = D at *
    have h1 : ((m : Int) == 1024) = false := by rw [beq_eq_false_iff_ne]; omega
    have HC := Lib.hid C
    clear C h
    go_enter Tryd.func53, Tryd.ntmps53
    go_wp2_with fail
    refine HC.out.mono ?_
    rintro e w1 ⟨rfl, hb⟩
    have hN : w1.heap[w.heap.size + 1]? = some (.cells #[.int .i64 0, .int .i64 0] 51 (0, 0)) := (hb.block _ (by simp)).trans (by
      have := heap_alloc_new (w.alloc (.cells #[.int .i64 m] 3)) (.cells #[.int .i64 0, .int .i64 0] 51)
      rwa [World.size_alloc] at this)
    have HB := Lib.hid ((((Below.refl w.heap.size w).alloc (Nat.le_refl _) (.cells #[.int .i64 m] 3)).alloc (by simp) (.cells #[.int .i64 0, .int .i64 0] 51)).trans (hb.mono (by simp; omega)))
    clear hb HC
    obtain ⟨z0, z1, y0, y1, l3⟩ := two_cells hN
    clear hN
    go_wp2_with fail
    refine bodyPost_ret (v := .tuple #[.agg #[.int .i64 D.1, .int .i64 D.2], .int .i64 0]) (by simp [results, Tryd.results53, go_sem, z0, z1, l3]) rfl ⟨rfl, ?_⟩
    exact ((HB.out.setCell (p := ⟨w.heap.size + 1, 0, none⟩) (by show w.heap.size ≤ w.heap.size + 1; omega) _).setCell (p := ⟨w.heap.size + 1, 1, none⟩) (by show w.heap.size ≤ w.heap.size + 1; omega) _).alloc (by simp; exact HB.out.size) _

theorem Direction_out (m : Int) (hm : m < 0 ∨ 1024 < m) (w : World) :
    Calls Tryd.prog 53 #[.int .i64 m] w fun e w' => e = .returned (.tuple #[.agg #[.int .i64 0, .int .i64 0], .int .i64 2]) ∧ Below w.heap.size w w' := by
  rcases hm with h | h
  all_goals
    go_enter Tryd.func53, Tryd.ntmps53
    go_wp2_with fail
    exact bodyPost_ret (v := .tuple #[.agg #[.int .i64 0, .int .i64 0], .int .i64 2]) (by simp [results, Tryd.results53, go_sem]) rfl ⟨rfl, ((Below.refl _ _).alloc (Nat.le_refl _) _).alloc (by simp) _⟩

theorem Within_any (n lo hi : Int) (w : World) :
    Calls Tryd.prog 32 #[.int .i64 n, .int .i64 lo, .int .i64 hi] w fun e w' => e = .returned (.bool (decide (lo ≤ n ∧ n ≤ hi))) ∧ w = w' := by
  by_cases h : lo ≤ n
  · have e : decide (lo ≤ n ∧ n ≤ hi) = decide (n ≤ hi) := by simp [h]
    rw [e]
    go_enter Tryd.func32, Tryd.ntmps32
    go_wp2_with fail
    go_ret
    exact ⟨rfl, rfl⟩
  · have e : decide (lo ≤ n ∧ n ≤ hi) = false := by simp [h]
    rw [e]
    go_enter Tryd.func32, Tryd.ntmps32
    go_wp2_with fail
    go_ret
    exact ⟨rfl, rfl⟩
end Go.Proofs.YtcjdbhcpcigmdaaDoor
