import Derived.Test.YtmbolmmcfnfamaaRg
import Derived.Outline
import Derived.IntWalk
import Derived.BigQuiet
namespace Go.Proofs.Ytmbolmmcfnfamaa.Orb
open Go.RowKit Lib

theorem isPlace_any (n : Int) (w : World) : Calls Try.prog 107 #[.int .i64 n] w fun e w' => e = .returned (.bool (decide (-100000000 ≤ n ∧ n ≤ 100000000))) ∧ w = w' := by
  have C := Lib.hid (fun W => Within_any n (-100000000) 100000000 W)
  generalize decide (-100000000 ≤ n ∧ n ≤ 100000000) = R at *
  go_enter Try.func107, Try.ntmps107
  go_wp2_with fail
  refine (C.out _).mono ?_
  rintro e w1 ⟨rfl, rfl⟩
  go_wp2_with fail
  go_ret
  exact ⟨rfl, rfl⟩
theorem isError_any (n : Int) (w : World) : Calls Try.prog 70 #[.int .i64 n] w fun e w' => e = .returned (.bool (decide (0 ≤ n ∧ n ≤ 100000))) ∧ w = w' := by
  have C := Lib.hid (fun W => Within_any n 0 100000 W)
  generalize decide (0 ≤ n ∧ n ≤ 100000) = R at *
  go_enter Try.func70, Try.ntmps70
  go_wp2_with fail
  refine (C.out _).mono ?_
  rintro e w1 ⟨rfl, rfl⟩
  go_wp2_with fail
  go_ret
  exact ⟨rfl, rfl⟩

/-- is it a place? -/
def placeB (x y z : Int) : Bool := decide (-100000000 ≤ x ∧ x ≤ 100000000) && (decide (-100000000 ≤ y ∧ y ≤ 100000000) && decide (-100000000 ≤ z ∧ z ≤ 100000000))
theorem placeB_iff (x y z : Int) : placeB x y z = true ↔ placeE x y z = 0 := by
  rw [placeE_zero]; unfold placeB; simp
set_option maxRecDepth 100000 in
theorem IsPlace_any (x y z : Int) (w : World) : Calls Try.prog 97 #[.agg #[.int .i64 x, .int .i64 y, .int .i64 z]] w fun e w' => e = .returned (.bool (placeB x y z)) ∧ Below w.heap.size w w' := by
  have C1 := Lib.hid (fun W => isPlace_any x W)
  have C2 := Lib.hid (fun W => isPlace_any y W)
  have C3 := Lib.hid (fun W => isPlace_any z W)
  unfold placeB
  generalize decide (-100000000 ≤ x ∧ x ≤ 100000000) = B1 at *
  generalize decide (-100000000 ≤ y ∧ y ≤ 100000000) = B2 at *
  generalize decide (-100000000 ≤ z ∧ z ≤ 100000000) = B3 at *
  cases B1
  · go_enter Try.func97, Try.ntmps97
    go_wp2_with fail
    refine (C1.out _).mono ?_
    rintro e w1 ⟨rfl, rfl⟩
    go_wp2_with fail
    go_ret
    exact ⟨rfl, by (repeat (first | with_reducible exact Below.refl _ _ | with_reducible refine alloc1 ?_ _ | with_reducible refine Below.drew ?_ | with_reducible refine drewN1 ?_ _ | with_reducible refine setC ?_ (by omega) _))⟩
  cases B2
  · go_enter Try.func97, Try.ntmps97
    go_wp2_with fail
    refine (C1.out _).mono ?_
    rintro e w1 ⟨rfl, rfl⟩
    go_wp2_with fail
    refine (C2.out _).mono ?_
    rintro e w1 ⟨rfl, rfl⟩
    go_wp2_with fail
    go_ret
    exact ⟨rfl, by (repeat (first | with_reducible exact Below.refl _ _ | with_reducible refine alloc1 ?_ _ | with_reducible refine Below.drew ?_ | with_reducible refine drewN1 ?_ _ | with_reducible refine setC ?_ (by omega) _))⟩
  · go_enter Try.func97, Try.ntmps97
    go_wp2_with fail
    refine (C1.out _).mono ?_
    rintro e w1 ⟨rfl, rfl⟩
    go_wp2_with fail
    refine (C2.out _).mono ?_
    rintro e w1 ⟨rfl, rfl⟩
    go_wp2_with fail
    refine (C3.out _).mono ?_
    rintro e w1 ⟨rfl, rfl⟩
    go_wp2_with fail
    go_ret
    exact ⟨rfl, by (repeat (first | with_reducible exact Below.refl _ _ | with_reducible refine alloc1 ?_ _ | with_reducible refine Below.drew ?_ | with_reducible refine drewN1 ?_ _ | with_reducible refine setC ?_ (by omega) _))⟩

theorem stE_cases (t x y z u : Int) : (decide (0 ≤ t ∧ t ≤ 1000000000) = false ∧ stE ⟨t, x, y, z, u⟩ = 2) ∨ (decide (0 ≤ t ∧ t ≤ 1000000000) = true ∧ placeB x y z = false ∧ stE ⟨t, x, y, z, u⟩ = 2) ∨
    (decide (0 ≤ t ∧ t ≤ 1000000000) = true ∧ placeB x y z = true ∧ decide (0 ≤ u ∧ u ≤ 100000) = false ∧ stE ⟨t, x, y, z, u⟩ = 2) ∨ (decide (0 ≤ t ∧ t ≤ 1000000000) = true ∧ placeB x y z = true ∧ decide (0 ≤ u ∧ u ≤ 100000) = true ∧ stE ⟨t, x, y, z, u⟩ = 0) := by
  have hr : ∀ n lo hi : Int, ¬ (lo ≤ n ∧ n ≤ hi) → rangeE n lo hi = 2 := fun n lo hi h => if_neg h
  have e : stE ⟨t, x, y, z, u⟩ = firstE [rangeE t 0 1000000000, placeE x y z, rangeE u 0 100000] := rfl
  rw [e]
  by_cases h1 : 0 ≤ t ∧ t ≤ 1000000000
  · have z1 : rangeE t 0 1000000000 = 0 := if_pos h1
    right
    cases h2 : placeB x y z with
    | false =>
      left
      have hp : placeE x y z = 2 := by
        have hne : ¬ placeE x y z = 0 := fun h => by rw [(placeB_iff x y z).2 h] at h2; cases h2
        unfold placeE at hne ⊢
        unfold rangeE at hne ⊢
        revert hne
        simp only [firstE]
        split
        · split
          · split <;> simp_all
          · simp
        · simp
      refine ⟨decide_eq_true h1, rfl, ?_⟩
      rw [z1, hp]; rfl
    | true =>
      right
      have hp := (placeB_iff x y z).1 h2
      by_cases h3 : 0 ≤ u ∧ u ≤ 100000
      · right
        have z3 : rangeE u 0 100000 = 0 := if_pos h3
        refine ⟨decide_eq_true h1, rfl, decide_eq_true h3, ?_⟩
        rw [z1, hp, z3]; rfl
      · left
        refine ⟨decide_eq_true h1, rfl, decide_eq_false h3, ?_⟩
        rw [z1, hp, hr _ _ _ h3]; rfl
  · left
    refine ⟨decide_eq_false h1, ?_⟩
    rw [hr _ _ _ h1]; rfl

set_option maxRecDepth 100000 in
theorem CheckState_any (t x y z u : Int) (w : World) : Calls Try.prog 71 #[.agg #[.int .i64 t, .int .i64 x, .int .i64 y, .int .i64 z, .int .i64 u]] w fun e w' => e = .returned (.int .i64 (stE ⟨t, x, y, z, u⟩)) ∧ Below w.heap.size w w' := by
  have C1 := Lib.hid (fun W => Within_any t 0 1000000000 W)
  have C2 := Lib.hid (fun W => IsPlace_any x y z W)
  have C3 := Lib.hid (fun W => isError_any u W)
  have hw := stE_cases t x y z u
  generalize stE ⟨t, x, y, z, u⟩ = R at *
  generalize decide (0 ≤ t ∧ t ≤ 1000000000) = B1 at *
  generalize placeB x y z = B2 at *
  generalize decide (0 ≤ u ∧ u ≤ 100000) = B3 at *
  obtain ⟨W0, hW0⟩ : ∃ W0, W0 = w.alloc (.cells #[.int .i64 t, .int .i64 x, .int .i64 y, .int .i64 z, .int .i64 u] 45) := ⟨_, rfl⟩
  have HW0 := Lib.hid hW0
  have HB := Lib.hid (show Below w.heap.size w W0 by rw [hW0]; exact new_below _ _)
  have HK := Lib.hid (show W0.heap[w.heap.size]? = some (.cells #[.int .i64 t, .int .i64 x, .int .i64 y, .int .i64 z, .int .i64 u] 45 (0, 0)) by rw [hW0]; exact heap_alloc_new _ _)
  clear hW0
  obtain ⟨k0, k1, k2, k3, k4⟩ := cells5 HK.out
  rcases hw with ⟨rfl, rfl⟩ | ⟨rfl, rfl, rfl⟩ | ⟨rfl, rfl, rfl, rfl⟩ | ⟨rfl, rfl, rfl, rfl⟩
  · go_enter Try.func71, Try.ntmps71
    go_wp2_with fail
    rw [← HW0.out]
    refine (C1.out _).mono ?_
    rintro e w1 ⟨rfl, rfl⟩
    go_wp2_with fail
    go_ret
    exact ⟨rfl, HB.out⟩
  all_goals
    go_enter Try.func71, Try.ntmps71
    go_wp2_with fail
    rw [← HW0.out]
    refine (C1.out _).mono ?_
    rintro e w1 ⟨rfl, rfl⟩
    go_wp2_with fail
    refine (C2.out _).mono ?_
    rintro e w2 ⟨rfl, hb⟩
    have HB2 := Lib.hid (trans' HB.out hb)
    obtain ⟨m0, m1, m2, m3, m4⟩ := cells5 (keepb hb HK.out)
    clear hb k0 k1 k2 k3 k4
    go_wp2_with fail
  · go_ret
    exact ⟨rfl, HB2.out⟩
  all_goals
    refine (C3.out _).mono ?_
    rintro e w1 ⟨rfl, rfl⟩
    go_wp2_with fail
    go_ret
    exact ⟨rfl, HB2.out⟩

set_option maxRecDepth 100000 in
theorem First_any (v : Value) (nm : ByteArray) (bend : Int) (L : List St) (h0 : 0 < L.length) (w : World) (hv : OV w v nm bend L) :
    Calls Try.prog 24 #[v] w fun e w' => e = .returned (.int .i64 (fst L)) ∧ Below w.heap.size w w' := by
  obtain ⟨p, cap, rfl, -, -, hS⟩ := hv.form
  obtain ⟨b, o, rfl, hT⟩ := hS h0
  have c0 := (hT.next (new_below w (.cells #[.string nm, .int .i64 bend, .slice (some ⟨b, o, none⟩) L.length cap] 24)) 0 h0).1
  rw [Nat.zero_mul, Nat.add_zero] at c0
  have hf : (gt L 0).t = fst L := rfl
  rw [hf] at c0
  clear hS hT hv hf
  generalize fst L = f at *
  generalize L.length = n at *
  go_enter Try.func24, Try.ntmps24
  go_wp2_with fail
  go_ret
  exact ⟨rfl, new_below _ _⟩
set_option maxRecDepth 100000 in
theorem Last_any (v : Value) (nm : ByteArray) (bend : Int) (L : List St) (h0 : 0 < L.length) (hn : L.length ≤ 1000) (w : World) (hv : OV w v nm bend L) :
    Calls Try.prog 25 #[v] w fun e w' => e = .returned (.int .i64 (lst L)) ∧ Below w.heap.size w w' := by
  obtain ⟨p, cap, rfl, -, -, hS⟩ := hv.form
  obtain ⟨b, o, rfl, hT⟩ := hS h0
  obtain ⟨m, hm⟩ : ∃ m, L.length = m + 1 := ⟨L.length - 1, by omega⟩
  have c0 := (hT.next (new_below w (.cells #[.string nm, .int .i64 bend, .slice (some ⟨b, o, none⟩) L.length cap] 24)) m (by omega)).1
  have HR : Hid (lst L = (gt L m).t) := by unfold Hid lst; rw [hm]; rfl
  generalize lst L = R at *
  generalize (gt L m).t = x at *
  rw [hm] at c0 hn ⊢
  clear hS hT hv h0 hm
  go_enter Try.func25, Try.ntmps25
  go_wp2_with fail
  go_ret
  exact ⟨by rw [HR.out]; rfl, new_below _ _⟩

theorem Mod_any (n k : Int) (hk : 0 < k) (hk2 : k ≤ 4611686018427387904) (w : World) :
    Calls Try.prog 23 #[.int .i64 n, .int .i64 k] w fun e w' => e = .returned (.int .i64 (n % k)) ∧ w = w' := by
  have h0 : ¬ k = 0 := by omega
  have e1 := Int.emod_nonneg n h0
  have e2 := Int.emod_lt_of_pos n hk
  have h1 := Int.tmod_eq_emod (a := n) (b := k)
  have hb : -k < n.tmod k ∧ n.tmod k < k := by
    have := Int.natAbs_tmod n k
    have hlt : n.natAbs % k.natAbs < k.natAbs := Nat.mod_lt _ (by omega)
    omega
  by_cases h : n.tmod k < 0
  · have HR : Hid (n.tmod k + k = n % k) := by
      unfold Hid
      by_cases hc : 0 ≤ n ∨ k ∣ n
      · rw [if_pos hc] at h1; omega
      · rw [if_neg hc] at h1; omega
    clear h1 e1 e2
    generalize n % k = R at *
    go_enter Try.func23, Try.ntmps23
    go_wp2_with fail
    go_ret
    exact ⟨by rw [← HR.out]; rfl, rfl⟩
  · have HR : Hid (n.tmod k = n % k) := by
      unfold Hid
      by_cases hc : 0 ≤ n ∨ k ∣ n
      · rw [if_pos hc] at h1; omega
      · rw [if_neg hc] at h1; omega
    clear h1 e1 e2
    generalize n % k = R at *
    go_enter Try.func23, Try.ntmps23
    go_wp2_with fail
    go_ret
    exact ⟨by rw [← HR.out]; rfl, rfl⟩
end Go.Proofs.Ytmbolmmcfnfamaa.Orb
