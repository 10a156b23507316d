import Derived.Test.YtcjdbhcpcigmdaaDoorDa
namespace Go.Proofs.YtcjdbhcpcigmdaaDoor
open Go.RowKit Go.Proofs.YtcjdbhcpcigmdaaDoor.Flt

theorem tdiv_neg_case (n k : Int) (hk : 0 < k) (h : n.tmod k < 0) : n.tdiv k - 1 = n / k := by
  have e := Int.emod_nonneg n (Int.ne_of_gt hk)
  have e2 := Int.emod_lt_of_pos n hk
  have h1 := Int.tmod_eq_emod (a := n) (b := k)
  have h2 := Int.tdiv_eq_ediv (a := n) (b := k)
  have h3 : k.sign = 1 := Int.sign_eq_one_of_pos hk
  by_cases hc : 0 ≤ n ∨ k ∣ n
  · rw [if_pos hc] at h1 h2; omega
  · rw [if_neg hc] at h1 h2; omega
theorem tdiv_pos_case (n k : Int) (hk : 0 < k) (h : ¬ n.tmod k < 0) : n.tdiv k = n / k := by
  have e := Int.emod_nonneg n (Int.ne_of_gt hk)
  have e2 := Int.emod_lt_of_pos n hk
  have h1 := Int.tmod_eq_emod (a := n) (b := k)
  have h2 := Int.tdiv_eq_ediv (a := n) (b := k)
  by_cases hc : 0 ≤ n ∨ k ∣ n
  · rw [if_pos hc] at h1 h2; omega
  · rw [if_neg hc] at h1 h2; omega

/-- THE REFERENCE's DIVISION -/
theorem Floor_any (n k : Int) (hk : 0 < k) (hk2 : k ≤ 4611686018427387904) (hn : -1152921504606846976 ≤ n) (hn2 : n ≤ 1152921504606846976) (w : World) :
    Calls Tryd.prog 113 #[.int .i64 n, .int .i64 k] w fun e w' => e = .returned (.int .i64 (n / k)) ∧ w = w' := by
  have h0 : ¬ k = 0 := by omega
  have hb : -1152921504606846976 ≤ n.tdiv k ∧ n.tdiv k ≤ 1152921504606846976 := by
    have h1 : (n.tdiv k).natAbs = n.natAbs / k.natAbs := Int.natAbs_tdiv n k
    have h2 := Nat.div_le_self n.natAbs k.natAbs
    omega
  obtain ⟨b1, b2⟩ := hb
  by_cases h : n.tmod k < 0
  · have HR := Lib.hid (tdiv_neg_case n k hk h)
    generalize n / k = R at *
    go_enter Tryd.func113, Tryd.ntmps113
    go_wp2_with fail
    go_ret
    exact ⟨by rw [← HR.out] <;> rfl, rfl⟩
  · have HR := Lib.hid (tdiv_pos_case n k hk h)
    generalize n / k = R at *
    go_enter Tryd.func113, Tryd.ntmps113
    go_wp2_with fail
    go_ret
    exact ⟨by rw [← HR.out] <;> rfl, rfl⟩

theorem isBeyond_any (n : Int) (w : World) :
    Calls Tryd.prog 112 #[.int .i64 n, .int .i64 100000000] w fun e w' => e = .returned (.bool (decide (n < -100000000 ∨ 100000000 < n))) ∧ w = w' := by
  have hw : (n < -100000000 ∧ Hid (decide (n < -100000000 ∨ 100000000 < n) = true)) ∨ (¬ n < -100000000 ∧ 100000000 < n ∧ Hid (decide (n < -100000000 ∨ 100000000 < n) = true)) ∨ (¬ n < -100000000 ∧ ¬ 100000000 < n ∧ Hid (decide (n < -100000000 ∨ 100000000 < n) = false)) := by
    unfold Hid
    by_cases h1 : n < -100000000
    · left; exact ⟨h1, decide_eq_true (.inl h1)⟩
    · right
      by_cases h2 : 100000000 < n
      · left; exact ⟨h1, h2, decide_eq_true (.inr h2)⟩
      · right; exact ⟨h1, h2, decide_eq_false (by omega)⟩
  generalize decide (n < -100000000 ∨ 100000000 < n) = R at *
  rcases hw with ⟨h1, HR⟩ | ⟨h1, h2, HR⟩ | ⟨h1, h2, HR⟩
  all_goals
    go_enter Tryd.func112, Tryd.ntmps112
    go_wp2_with fail
    go_ret
    exact ⟨by first | (rw [HR.out] <;> rfl) | (rw [HR.out]; simp; done) | (rw [HR.out]; simp; omega), rfl⟩

/-- the number nearest to the second one -/
def unfI (p n : Int) : Int := n + wrapI (p - n)

theorem Unfolded_ok (p n : Int) (hp : ¬ (p < -100000000 ∨ 100000000 < p)) (hn : ¬ (n < -100000000 ∨ 100000000 < n)) (w : World) :
    Calls Tryd.prog 61 #[.int .i64 p, .int .i64 n] w fun e w' => e = .returned (.tuple #[.int .i64 (unfI p n), .int .i64 0]) ∧ w = w' := by
  have C1 := Lib.hid (fun w => isBeyond_any p w)
  have C2 := Lib.hid (fun w => isBeyond_any n w)
  rw [decide_eq_false hp] at C1
  rw [decide_eq_false hn] at C2
  have C3 := Lib.hid (fun w => wrapped_any (p - n) (by omega) (by omega) w)
  obtain ⟨b1, b2⟩ := wrapI_b (p - n)
  have HR : Hid (unfI p n = n + wrapI (p - n)) := rfl
  generalize unfI p n = R at *
  generalize wrapI (p - n) = Q at *
  have n1 : -100000000 ≤ n := by omega
  have n2 : n ≤ 100000000 := by omega
  have p1 : -100000000 ≤ p := by omega
  have p2 : p ≤ 100000000 := by omega
  clear hp hn
  go_enter Tryd.func61, Tryd.ntmps61
  go_wp2_with fail
  refine (C1.out _).mono ?_
  rintro e w' ⟨rfl, rfl⟩
  go_wp2_with fail
  refine (C2.out _).mono ?_
  rintro e w' ⟨rfl, rfl⟩
  go_wp2_with fail
  refine (C3.out _).mono ?_
  rintro e w' ⟨rfl, rfl⟩
  go_wp2_with fail
  go_ret2
  exact ⟨by rw [HR.out] <;> rfl, rfl⟩

theorem Unfolded_bad (p n : Int) (h : (p < -100000000 ∨ 100000000 < p) ∨ (n < -100000000 ∨ 100000000 < n)) (w : World) :
    Calls Tryd.prog 61 #[.int .i64 p, .int .i64 n] w fun e w' => e = .returned (.tuple #[.int .i64 0, .int .i64 2]) ∧ w = w' := by
  have C1 := Lib.hid (fun w => isBeyond_any p w)
  have C2 := Lib.hid (fun w => isBeyond_any n w)
  by_cases hp : p < -100000000 ∨ 100000000 < p
  · rw [decide_eq_true hp] at C1
    clear h hp
    go_enter Tryd.func61, Tryd.ntmps61
    go_wp2_with fail
    refine (C1.out _).mono ?_
    rintro e w' ⟨rfl, rfl⟩
    go_wp2_with fail
    go_ret2
    exact ⟨rfl, rfl⟩
  · rw [decide_eq_false hp] at C1
    have hn : n < -100000000 ∨ 100000000 < n := by
      rcases h with h | h
      · exact absurd h hp
      · exact h
    rw [decide_eq_true hn] at C2
    clear h hp hn
    go_enter Tryd.func61, Tryd.ntmps61
    go_wp2_with fail
    refine (C1.out _).mono ?_
    rintro e w' ⟨rfl, rfl⟩
    go_wp2_with fail
    refine (C2.out _).mono ?_
    rintro e w' ⟨rfl, rfl⟩
    go_wp2_with fail
    go_ret2
    exact ⟨rfl, rfl⟩

theorem refUnfolded_any (p n : Int) (p1 : -100000000 ≤ p) (p2 : p ≤ 100000000) (n1 : -100000000 ≤ n) (n2 : n ≤ 100000000) (w : World) :
    Calls Tryd.prog 62 #[.int .i64 p, .int .i64 n] w fun e w' => e = .returned (.int .i64 (unfI p n)) ∧ w = w' := by
  have C := Lib.hid (fun w => Floor_any (n - p) 4096 (by decide) (by decide) (by omega) (by omega) w)
  have HR : Hid (unfI p n = n + ((p - n + 2048) % 4096 - 2048)) := rfl
  have hf1 : -50000 ≤ (n - p) / 4096 := by omega
  have hf2 : (n - p) / 4096 ≤ 50000 := by omega
  have hw : (n - (p + (n - p) / 4096 * 4096) ≤ p + (n - p) / 4096 * 4096 + 4096 - n ∧ Hid (unfI p n = p + (n - p) / 4096 * 4096)) ∨ (¬ n - (p + (n - p) / 4096 * 4096) ≤ p + (n - p) / 4096 * 4096 + 4096 - n ∧ Hid (unfI p n = p + (n - p) / 4096 * 4096 + 4096)) := by
    unfold Hid
    rw [HR.out]
    omega
  generalize unfI p n = R at *
  generalize (n - p) / 4096 = q at *
  clear HR
  rcases hw with ⟨h1, HR⟩ | ⟨h1, HR⟩
  all_goals
    go_enter Tryd.func62, Tryd.ntmps62
    go_wp2_with fail
    refine (C.out _).mono ?_
    rintro e w' ⟨rfl, rfl⟩
    go_wp2_with fail
    go_ret
    exact ⟨by rw [HR.out] <;> rfl, rfl⟩

/-- the phase of a sum -/
def phS (a b : Int) : Int × Int := if a = 0 ∧ b = 0 then (0, 31) else (wrapI (phC a b), 0)
theorem phaPart_sum (a b : Int) (ha : a.natAbs ≤ 100000000000) (hb : b.natAbs ≤ 100000000000) : phaPart (some a) (some b) = phS a b := by
  have h0 : smpErr (some a) (some b) 100000000000 = 0 := by
    unfold smpErr
    dsimp only
    rw [if_neg (by omega)]
  unfold phaPart
  rw [if_pos h0]
  rfl
theorem PhaseSum_any (a b : Int) (ha : a.natAbs ≤ 100000000000) (hb : b.natAbs ≤ 100000000000) (w : World) :
    Calls Tryd.prog 55 #[.complex .f64 (enc Ieee.double a) (enc Ieee.double b)] w fun e w' => e = .returned (.tuple #[.int .i64 (phS a b).1, .int .i64 (phS a b).2]) ∧ Below w.heap.size w w' := by
  have := PhaseOf_any (enc Ieee.double a) (enc Ieee.double b) (rep_lt (Rep.enc _ _)) (rep_lt (Rep.enc _ _)) w
  rw [rep_wv good_double (Rep.enc _ _) (by show a.natAbs ≤ 2 ^ 53; omega), rep_wv good_double (Rep.enc _ _) (by show b.natAbs ≤ 2 ^ 53; omega), phaPart_sum a b ha hb] at this
  exact this

theorem Doppler_bad (l s : Int) (v : Value) (zs : List (Nat × Nat)) (w : World) (hl : I64 l) (hs : I64 s) (hv : Sl w v (cvals .f32 zs)) (h : pairErr l s zs ≠ 0) :
    Calls Tryd.prog 65 #[.agg #[.int .i64 l, .int .i64 s, v]] w fun e w' => e = .returned (.tuple #[.int .i64 0, .int .i64 (pairErr l s zs)]) ∧ Below w.heap.size w w' := by
  have C0 := Lib.hid (fun W (hb : Below w.heap.size w W) => PairSum_bad l s v zs W hl hs (hv.below hb (Nat.le_refl _)) h)
  have h2 : (pairErr l s zs != 0) = true := by rw [bne_iff_ne]; exact h
  obtain ⟨ad, cap, rfl, -, -⟩ := hv
  generalize (cvals .f32 zs).length = n at *
  generalize pairErr l s zs = E at *
  clear h hl hs
  go_enter Tryd.func65, Tryd.ntmps65
  go_wp2_with fail
  refine (C0.out _ (by first | exact Below.refl _ _ | exact (Below.refl _ _).alloc (Nat.le_refl _) _)).mono ?_
  rintro e w1 ⟨rfl, hb⟩
  have HB := Lib.hid hb
  clear hb
  go_wp2_with fail
  go_ret2
  exact ⟨rfl, by first | exact HB.out | exact ((Below.refl w.heap.size w).alloc (Nat.le_refl _) _).trans (HB.out.mono (by simp))⟩

theorem Doppler_ok (L S : Nat) (v : Value) (zs : List (Nat × Nat)) (w : World) (hv : Sl w v (cvals .f32 zs)) (hL1 : 2 ≤ L) (hL : L ≤ 64) (hS1 : 1 ≤ S) (hS : S ≤ 64) (hlen : zs.length = L * S) (RI : Right .f32 2047 zs) (hE : (dataErr .f32 2047 L S zs).2 = 0)
    (ha : (pairRe zs S ((L - 1) * S)).natAbs ≤ 100000000000) (hb : (pairIm zs S ((L - 1) * S)).natAbs ≤ 100000000000) :
    Calls Tryd.prog 65 #[.agg #[.int .i64 L, .int .i64 S, v]] w fun e w' => e = .returned (.tuple #[.int .i64 (phS (pairRe zs S ((L - 1) * S)) (pairIm zs S ((L - 1) * S))).1, .int .i64 (phS (pairRe zs S ((L - 1) * S)) (pairIm zs S ((L - 1) * S))).2]) ∧ Below w.heap.size w w' := by
  have C0 := Lib.hid (fun W (hb : Below w.heap.size w W) => PairSum_ok L S v zs W (hv.below hb (Nat.le_refl _)) hL1 hL hS1 hS hlen RI hE)
  have C1 := Lib.hid (fun w => PhaseSum_any _ _ ha hb w)
  obtain ⟨ad, cap, rfl, -, -⟩ := hv
  generalize (cvals .f32 zs).length = n at *
  generalize (phS (pairRe zs S ((L - 1) * S)) (pairIm zs S ((L - 1) * S))).1 = N at *
  generalize (phS (pairRe zs S ((L - 1) * S)) (pairIm zs S ((L - 1) * S))).2 = E at *
  generalize enc Ieee.double (pairRe zs S ((L - 1) * S)) = X at *
  generalize enc Ieee.double (pairIm zs S ((L - 1) * S)) = Y at *
  clear hlen RI hE ha hb hL1 hL hS1 hS
  go_enter Tryd.func65, Tryd.ntmps65
  go_wp2_with fail
  refine (C0.out _ (by first | exact Below.refl _ _ | exact (Below.refl _ _).alloc (Nat.le_refl _) _)).mono ?_
  rintro e w1 ⟨rfl, hb⟩
  have HB : Hid (Below w.heap.size w w1) := by first | exact hb | exact ((Below.refl w.heap.size w).alloc (Nat.le_refl _) _).trans (hb.mono (by simp))
  clear hb
  go_wp2_with fail
  refine (C1.out _).mono ?_
  rintro e w2 ⟨rfl, hb⟩
  have HB2 := Lib.hid (HB.out.trans (hb.mono HB.out.size))
  clear hb
  go_wp2_with fail
  go_ret2
  exact ⟨rfl, HB2.out⟩

theorem refParts_any (x y : Nat) (a b : Int) (ra : Rep Ieee.single x a) (rb : Rep Ieee.single y b) (la : a.natAbs ≤ 2 ^ 24) (lb : b.natAbs ≤ 2 ^ 24) (w : World) :
    Calls Tryd.prog 78 #[.complex .f32 x y] w fun e w' => e = .returned (.tuple #[.int .i64 a, .int .i64 b]) ∧ w = w' := by
  have c1 := fun w => run_convert_float_int (P := Tryd.prog) w 113 3 .f32 .i64 x a (by kernel_rfl) (by kernel_rfl) (by
    unfold floatToIntVal
    have : (FloatKind.f32.decode x).toInt .zero = some a := toInt_rep good_single ra la .zero
    rw [this]
    dsimp only
    rw [if_pos ⟨by show (-9223372036854775808 : Int) ≤ a; omega, by show a ≤ (9223372036854775807 : Int); omega⟩])
  have c2 := fun w => run_convert_float_int (P := Tryd.prog) w 113 3 .f32 .i64 y b (by kernel_rfl) (by kernel_rfl) (by
    unfold floatToIntVal
    have : (FloatKind.f32.decode y).toInt .zero = some b := toInt_rep good_single rb lb .zero
    rw [this]
    dsimp only
    rw [if_pos ⟨by show (-9223372036854775808 : Int) ≤ b; omega, by show b ≤ (9223372036854775807 : Int); omega⟩])
  clear ra rb la lb
  go_enter Tryd.func78, Tryd.ntmps78
  go_wp2_with fail
  go_ret2
  exact ⟨rfl, rfl⟩

theorem mul_bb {a c : Int} (h1 : a.natAbs ≤ 2000000000) (h2 : c.natAbs ≤ 2047) : -4094000000000 ≤ a * c ∧ a * c ≤ 4094000000000 := by
  have : (a * c).natAbs ≤ 4094000000000 := by rw [Int.natAbs_mul]; exact Nat.le_trans (Nat.mul_le_mul h1 h2) (by decide)
  omega

theorem Times_any (x y u v : Int) (hx : x.natAbs ≤ 2000000000) (hy : y.natAbs ≤ 2000000000) (hu : u.natAbs ≤ 2047) (hv : v.natAbs ≤ 2047) (w : World) :
    Calls Tryd.prog 91 #[.int .i64 x, .int .i64 y, .int .i64 u, .int .i64 v] w fun e w' => e = .returned (.tuple #[.int .i64 (x * u + y * v), .int .i64 (y * u - x * v)]) ∧ w = w' := by
  obtain ⟨a1, a2⟩ := mul_bb hx hu
  obtain ⟨a3, a4⟩ := mul_bb hy hv
  obtain ⟨a5, a6⟩ := mul_bb hy hu
  obtain ⟨a7, a8⟩ := mul_bb hx hv
  clear hx hy hu hv
  go_enter Tryd.func91, Tryd.ntmps91
  go_wp2_with fail
  go_ret2
  exact ⟨rfl, rfl⟩
end Go.Proofs.YtcjdbhcpcigmdaaDoor
