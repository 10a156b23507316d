import Derived.Test.YtcjdbhcpcigmdaaDoorNd
import Derived.Test.YtcjdbhcpcigmdaaDoorEr
namespace Go.Proofs.YtcjdbhcpcigmdaaDoor
open Go.RowKit Go.Proofs.YtcjdbhcpcigmdaaDoor.Flt

/-- the least power of two that the reference comes to -/
def upF (L : Nat) : Nat → Nat → Nat
  | 0, n => n
  | t + 1, n => if n < L ∧ n < 128 then upF L t (2 * n) else n
theorem up_all : ∀ L : Nat, L < 131 → (upF L 7 1 ≠ L ↔ (128 < L ∨ ones 8 L ≠ 1)) := by decide +kernel

set_option maxRecDepth 100000 in
set_option maxHeartbeats 1000000 in
theorem refCheckList_any (va : Value) (xs : List Int) (w : World) (ha : Sl w va (ivals xs)) (hn : xs.length ≤ 130) :
    Calls Tryd.prog 47 #[va] w fun e w' => e = .returned (.int .i64 (listErr xs)) ∧ w = w' := by
  have HA := Lib.hid ha
  obtain ⟨aa, ac, rfl, hla, -⟩ := ha
  have ex : (ivals xs).length = xs.length := by simp [ivals]
  obtain ⟨n, hn'⟩ : ∃ n, n = xs.length := ⟨_, rfl⟩
  rw [ex, ← hn'] at hla HA ⊢
  have HN := Lib.hid hn'
  have h130 : n ≤ 130 := by omega
  have hall := Lib.hid (up_all n (by omega))
  have HE : Hid (listErr xs = if upF n 7 1 ≠ n then 10 else if xs.any offP then 2 else 0) := by
    unfold Hid listErr
    rw [← HN.out]
    by_cases h : upF n 7 1 ≠ n
    · rw [if_pos h, if_pos (hall.out.1 h)]
    · rw [if_neg h, if_neg (fun hh => h (hall.out.2 hh))]
  obtain ⟨U, hU⟩ : ∃ U, U = upF n 7 1 := ⟨_, rfl⟩
  rw [← hU] at HE
  have HU : Hid (upF n 7 1 = U) := hU.symm
  generalize listErr xs = E at *
  clear hn hn' ex hall hU
  go_enter Tryd.func47, Tryd.ntmps47
  go_wp2_with fail
  go_loop [3] (fun nv => ∃ t m : Nat, nv = .int .i64 m ∧ 1 ≤ m ∧ m ≤ 128 ∧ Hid (m * 2 ^ t = 128 ∧ upF n t m = U)) (fun nv => 128 - (intOf nv).toNat)
  case atStart => exact ⟨7, 1, rfl, by decide, by decide, ⟨rfl, HU.out⟩⟩
  case round =>
    obtain ⟨t, m, rfl, hm1, hm2, HK⟩ := hrel
    clear HU
    by_cases hc : m < n ∧ m < 128
    · obtain ⟨hc1, hc2⟩ := hc
      cases t with
      | zero => have := HK.out.1; simp at this; omega
      | succ t =>
        have HN2 : Hid (2 * m * 2 ^ t = 128 ∧ upF n t (2 * m) = U) := by
          obtain ⟨k1, k2⟩ := HK.out
          rw [upF, if_pos ⟨hc1, hc2⟩] at k2
          refine ⟨?_, k2⟩
          rw [Nat.pow_succ] at k1
          rw [Nat.mul_comm 2 m, Nat.mul_assoc, Nat.mul_comm 2]; exact k1
        have hm3 : 2 * m ≤ 128 := by
          have h1 := HN2.out.1
          have h2 := Nat.mul_le_mul_left (2 * m) (Nat.two_pow_pos t)
          rw [h1] at h2
          omega
        clear HK
        go_wp2_with fail
        go_round
        case rel => exact ⟨t, 2 * m, by go_num, by omega, hm3, HN2⟩
        case measure => simp [intOf]; omega
    · have HF : Hid (m = U) := by
        have k2 := HK.out.2
        cases t with
        | zero => exact k2
        | succ t => rw [upF, if_neg hc] at k2; exact k2
      clear HK
      have hc' : ¬ (m < n ∧ m < 128) := hc
      by_cases hd : m = n
      · have HE2 : Hid (E = if xs.any offP then 2 else 0) := by
          have := HE.out
          rw [← HF.out, hd, if_neg (fun h => h rfl)] at this
          exact this
        have hne : ((n : Int) != m) = false := by rw [hd]; simp
        have hlt : ¬ m < n := by omega
        clear hc hc' hd HF HE
        go_wp2_with fail
        go_loop [4] (fun i => ∃ j : Nat, j ≤ n ∧ i = .int .i64 j ∧ Hid (E = if (xs.drop j).any offP then 2 else 0)) (fun i => n - (intOf i).toNat)
        case atStart => exact ⟨0, Nat.zero_le _, rfl, HE2⟩
        case round =>
          obtain ⟨j, hj, rfl, HK⟩ := hrel
          clear HE2
          by_cases hlj : j < n
          · obtain ⟨-, bb, o1, rfl, q1, hcl⟩ := HA.out.at (by omega)
            have d1 : w.cell? ⟨bb, o1 + j, none⟩ = some (.int .i64 (xs.getD j 0)) := hcl j _ (ivals_get (by have := HN.out; omega))
            have CW := Lib.hid (fun w => Within_any (xs.getD j 0) 0 998244352 w)
            by_cases ho : 0 ≤ xs.getD j 0 ∧ xs.getD j 0 ≤ 998244352
            · rw [decide_eq_true ho] at CW
              have HK2 : Hid (E = if (xs.drop (j + 1)).any offP then 2 else 0) := by
                rw [← any_drop_false xs j (by have := HN.out; omega) (by unfold offP; rw [decide_eq_false (by omega), decide_eq_false (by omega)]; rfl)]
                exact HK.out
              generalize xs.getD j 0 = X at *
              clear HK hcl q1 ho
              go_wp2_with fail
              refine (CW.out _).mono ?_
              rintro e w' ⟨rfl, rfl⟩
              go_wp2_with fail
              go_round
              case rel => exact ⟨j + 1, by omega, by go_num, HK2⟩
              case measure => simp [intOf]; omega
            · rw [decide_eq_false ho] at CW
              have HK2 : Hid (E = 2) := by
                have := HK.out
                rw [any_drop_true xs j (by have := HN.out; omega) (by unfold offP; rw [Bool.or_eq_true, decide_eq_true_eq, decide_eq_true_eq]; omega)] at this
                exact this
              generalize xs.getD j 0 = X at *
              clear HK hcl q1 ho
              go_wp2_with fail
              refine (CW.out _).mono ?_
              rintro e w' ⟨rfl, rfl⟩
              go_wp2_with fail
              go_ret
              exact ⟨by rw [HK2.out] <;> rfl, rfl⟩
          · have HK2 : Hid (E = 0) := by
              have := HK.out
              rw [List.drop_of_length_le (by have := HN.out; omega)] at this
              exact this
            clear HK
            go_wp2_with fail
            go_ret
            exact ⟨by rw [HK2.out] <;> rfl, rfl⟩
      · have HE2 : Hid (E = 10) := by
          have := HE.out
          rw [← HF.out, if_pos hd] at this
          exact this
        have hne : ((n : Int) != m) = true := by rw [bne_iff_ne]; omega
        clear HF HE
        by_cases hlt : m < n
        · have h128 : ¬ m < 128 := fun h => hc ⟨hlt, h⟩
          clear hc hc' hd
          go_wp2_with fail
          go_ret
          exact ⟨by rw [HE2.out] <;> rfl, rfl⟩
        · clear hc hc' hd
          go_wp2_with fail
          go_ret
          exact ⟨by rw [HE2.out] <;> rfl, rfl⟩
end Go.Proofs.YtcjdbhcpcigmdaaDoor
