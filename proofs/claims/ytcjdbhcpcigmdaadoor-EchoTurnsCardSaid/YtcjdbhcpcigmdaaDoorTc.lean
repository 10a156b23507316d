import Derived.Test.YtcjdbhcpcigmdaaDoorTb
namespace Go.Proofs.YtcjdbhcpcigmdaaDoor
open Go.RowKit Go.Proofs.YtcjdbhcpcigmdaaDoor.Flt

set_option maxRecDepth 100000 in
set_option maxHeartbeats 1000000 in
theorem turns_out (a b : Int) (h : ¬ (-10000000000 ≤ a ∧ a ≤ 10000000000) ∨ ¬ (-10000000000 ≤ b ∧ b ≤ 10000000000) ∨ (a = 0 ∧ b = 0)) (w : World) (ht : Tab w) :
    Calls Tryd.prog 11 #[.int .i64 a, .int .i64 b] w fun e w' => e = .returned (.bool true) ∧ Below w.heap.size w w' := by
  have CA := Lib.hid (awake_any w ht)
  have CW1 := Lib.hid (fun w => Within_any a (-10000000000) 10000000000 w)
  have CW2 := Lib.hid (fun w => Within_any b (-10000000000) 10000000000 w)
  clear ht
  by_cases h1 : -10000000000 ≤ a ∧ a ≤ 10000000000
  · rw [decide_eq_true h1] at CW1
    by_cases h2 : -10000000000 ≤ b ∧ b ≤ 10000000000
    · rw [decide_eq_true h2] at CW2
      obtain ⟨rfl, rfl⟩ : a = 0 ∧ b = 0 := by
        rcases h with h | h | h
        · exact absurd h1 h
        · exact absurd h2 h
        · exact h
      clear h h1 h2
      go_enter Tryd.func11, Tryd.ntmps11
      go_wp2_with fail
      refine CA.out.mono ?_
      rintro e w1 ⟨rfl, hb⟩
      have HB1 := Lib.hid hb
      clear hb
      go_wp2_with fail
      refine (CW1.out _).mono ?_
      rintro e w' ⟨rfl, rfl⟩
      go_wp2_with fail
      refine (CW2.out _).mono ?_
      rintro e w' ⟨rfl, rfl⟩
      go_wp2_with fail
      go_ret
      exact ⟨rfl, HB1.out⟩
    · rw [decide_eq_false h2] at CW2
      clear h h1 h2
      go_enter Tryd.func11, Tryd.ntmps11
      go_wp2_with fail
      refine CA.out.mono ?_
      rintro e w1 ⟨rfl, hb⟩
      have HB1 := Lib.hid hb
      clear hb
      go_wp2_with fail
      refine (CW1.out _).mono ?_
      rintro e w' ⟨rfl, rfl⟩
      go_wp2_with fail
      refine (CW2.out _).mono ?_
      rintro e w' ⟨rfl, rfl⟩
      go_wp2_with fail
      go_ret
      exact ⟨rfl, HB1.out⟩
  · rw [decide_eq_false h1] at CW1
    clear h h1
    go_enter Tryd.func11, Tryd.ntmps11
    go_wp2_with fail
    refine CA.out.mono ?_
    rintro e w1 ⟨rfl, hb⟩
    have HB1 := Lib.hid hb
    clear hb
    go_wp2_with fail
    refine (CW1.out _).mono ?_
    rintro e w' ⟨rfl, rfl⟩
    go_wp2_with fail
    go_ret
    exact ⟨rfl, HB1.out⟩

/-- what is known of the four phases -/
structure FourPh (a b N A B : Int) : Prop where
  c1 : ∀ w, Calls Tryd.prog 55 #[.complex .f64 (enc Ieee.double a) (enc Ieee.double b)] w fun e w' => e = .returned (.tuple #[.int .i64 N, .int .i64 0]) ∧ Below w.heap.size w w'
  c2 : ∀ w, Calls Tryd.prog 55 #[.complex .f64 (enc Ieee.double a) (enc Ieee.double (-b))] w fun e w' => e = .returned (.tuple #[.int .i64 A, .int .i64 0]) ∧ Below w.heap.size w w'
  c3 : ∀ w, Calls Tryd.prog 55 #[.complex .f64 (enc Ieee.double (-b)) (enc Ieee.double a)] w fun e w' => e = .returned (.tuple #[.int .i64 B, .int .i64 0]) ∧ Below w.heap.size w w'
  c4 : ∀ w, Calls Tryd.prog 55 #[.complex .f64 (enc Ieee.double (2 * a)) (enc Ieee.double (2 * b))] w fun e w' => e = .returned (.tuple #[.int .i64 N, .int .i64 0]) ∧ Below w.heap.size w w'
  w1 : ∀ w, Calls Tryd.prog 58 #[.int .i64 (-N)] w fun e w' => e = .returned (.int .i64 A) ∧ w = w'
  w2 : ∀ w, Calls Tryd.prog 58 #[.int .i64 (N + 1024)] w fun e w' => e = .returned (.int .i64 B) ∧ w = w'
  w3 : ∀ w, Calls Tryd.prog 32 #[.int .i64 N, .int .i64 (-2048), .int .i64 2047] w fun e w' => e = .returned (.bool true) ∧ w = w'

theorem fourPh (a b : Int) (ha : a.natAbs ≤ 10000000000) (hb : b.natAbs ≤ 10000000000) (h : ¬ (a = 0 ∧ b = 0)) : FourPh a b (wrapI (phC a b)) (wrapI (-(wrapI (phC a b)))) (wrapI (wrapI (phC a b) + 1024)) := by
  refine ⟨fun w => PhaseInt_any a b (by omega) (by omega) h w, fun w => ?_, fun w => ?_, fun w => ?_, fun w => Wrap_any _ w, fun w => Wrap_any _ w, fun w => ?_⟩
  · rw [← turn_conj a b h]; exact PhaseInt_any a (-b) (by omega) (by omega) (by omega) w
  · rw [← turn_quarter a b h]; exact PhaseInt_any (-b) a (by omega) (by omega) (by omega) w
  · rw [← phC_double a b]; exact PhaseInt_any (2 * a) (2 * b) (by omega) (by omega) (by omega) w
  · have := Within_any (wrapI (phC a b)) (-2048) 2047 w
    rw [decide_eq_true (wrapI_b _)] at this
    exact this

set_option maxRecDepth 100000 in
set_option maxHeartbeats 1000000 in
theorem turns_far (a b : Int) (h1 : -10000000000 ≤ a ∧ a ≤ 10000000000) (h2 : -10000000000 ≤ b ∧ b ≤ 10000000000) (h3 : ¬ (a = 0 ∧ b = 0)) (h4 : b < 0 ∨ a < b) (w : World) (ht : Tab w) :
    Calls Tryd.prog 11 #[.int .i64 a, .int .i64 b] w fun e w' => e = .returned (.bool true) ∧ Below w.heap.size w w' := by
  have CA := Lib.hid (awake_any w ht)
  have CW1 := Lib.hid (fun w => Within_any a (-10000000000) 10000000000 w)
  have CW2 := Lib.hid (fun w => Within_any b (-10000000000) 10000000000 w)
  rw [decide_eq_true h1] at CW1
  rw [decide_eq_true h2] at CW2
  have F := Lib.hid (fourPh a b (by omega) (by omega) h3)
  obtain ⟨n1, n2⟩ := wrapI_b (phC a b)
  generalize wrapI (phC a b) = N at *
  generalize wrapI (-N) = A at *
  generalize wrapI (N + 1024) = B at *
  have S1 := Lib.hid (fun w => Sum_any a b w)
  have S2 := Lib.hid (fun w => Sum_any a (-b) w)
  have S3 := Lib.hid (fun w => Sum_any (-b) a w)
  have S4 := Lib.hid (fun w => Sum_any (2 * a) (2 * b) w)
  obtain ⟨a1, a2⟩ := h1
  obtain ⟨b1, b2⟩ := h2
  have hq : (((a : Int) == 0) = true ∧ ((b : Int) == 0) = false ∨ ((a : Int) == 0) = false) := by
    by_cases ha : a = 0
    · left; exact ⟨by rw [beq_iff_eq]; exact ha, by rw [beq_eq_false_iff_ne]; exact fun hb => h3 ⟨ha, hb⟩⟩
    · right; rw [beq_eq_false_iff_ne]; exact ha
  have hr : b < 0 ∨ (¬ b < 0 ∧ a < b) := by omega
  clear ht h3 h4
  rcases hq with ⟨q1, q2⟩ | q1 <;> rcases hr with r1 | ⟨r1, r2⟩
  all_goals
    go_enter Tryd.func11, Tryd.ntmps11
    go_wp2_with fail
    refine CA.out.mono ?_
    rintro e w1 ⟨rfl, hb⟩
    have HB1 := Lib.hid hb
    clear hb
    go_wp2_with fail
    refine (CW1.out _).mono ?_
    rintro e w' ⟨rfl, rfl⟩
    go_wp2_with fail
    refine (CW2.out _).mono ?_
    rintro e w' ⟨rfl, rfl⟩
    go_wp2_with fail
    refine (S1.out _).mono ?_
    rintro e w' ⟨rfl, rfl⟩
    go_wp2_with fail
    refine (F.out.c1 _).mono ?_
    rintro e w2 ⟨rfl, hb⟩
    have HB2 := Lib.hid (HB1.out.trans (hb.mono HB1.out.size))
    clear hb
    go_wp2_with fail
    refine (S2.out _).mono ?_
    rintro e w' ⟨rfl, rfl⟩
    go_wp2_with fail
    refine (F.out.c2 _).mono ?_
    rintro e w3 ⟨rfl, hb⟩
    have HB3 := Lib.hid (HB2.out.trans (hb.mono HB2.out.size))
    clear hb
    go_wp2_with fail
    refine (S3.out _).mono ?_
    rintro e w' ⟨rfl, rfl⟩
    go_wp2_with fail
    refine (F.out.c3 _).mono ?_
    rintro e w4 ⟨rfl, hb⟩
    have HB4 := Lib.hid (HB3.out.trans (hb.mono HB3.out.size))
    clear hb
    go_wp2_with fail
    refine (S4.out _).mono ?_
    rintro e w' ⟨rfl, rfl⟩
    go_wp2_with fail
    refine (F.out.c4 _).mono ?_
    rintro e w5 ⟨rfl, hb⟩
    have HB5 := Lib.hid (HB4.out.trans (hb.mono HB4.out.size))
    clear hb HB1 HB2 HB3 HB4
    go_wp2_with fail
    refine (F.out.w3 _).mono ?_
    rintro e w' ⟨rfl, rfl⟩
    go_wp2_with fail
    refine (F.out.w1 _).mono ?_
    rintro e w' ⟨rfl, rfl⟩
    go_wp2_with fail
    refine (F.out.w2 _).mono ?_
    rintro e w' ⟨rfl, rfl⟩
    go_wp2_with fail
    go_ret
    exact ⟨rfl, HB5.out⟩

/-- what a direction that is asked for says -/
def Beside (x y k : Nat) (r : Bool) : Prop := ∃ d1 d2 : Nat, d1 ≤ 16777216 ∧ d2 ≤ 16777216 ∧ decide (d2 * x ≤ d1 * y) = r ∧
  ∀ w, Calls Tryd.prog 53 #[.int .i64 (k : Int)] w fun e w' => e = .returned (.tuple #[.agg #[.int .i64 d1, .int .i64 d2], .int .i64 0]) ∧ Below w.heap.size w w'
theorem beside (x y k : Nat) (hk : k ≤ 1024) (r : Bool) (h : decide (notBeyond x y k) = r) : Beside x y k r := by
  have g := dAt_good 10 k
  have h1 := g.le
  have h2 := g.low
  exact ⟨(dAt 10 k).1, (dAt 10 k).2, h1, by omega, h, fun w => Direction_any k hk w⟩

theorem prodN_b {d1 d2 x y : Nat} (h1 : d1 ≤ 16777216) (h2 : d2 ≤ 16777216) (hx : x ≤ 10000000000) (hy : y ≤ 10000000000) :
    0 ≤ (d1 : Int) * x ∧ (d1 : Int) * x ≤ 167772160000000000 ∧ 0 ≤ (d2 : Int) * y ∧ (d2 : Int) * y ≤ 167772160000000000 ∧ (d2 * y ≤ d1 * x ↔ (d2 : Int) * y ≤ (d1 : Int) * x) := by
  have p1 : d1 * x ≤ 16777216 * 10000000000 := Nat.mul_le_mul h1 hx
  have p2 : d2 * y ≤ 16777216 * 10000000000 := Nat.mul_le_mul h2 hy
  rw [← Int.natCast_mul, ← Int.natCast_mul]
  omega

set_option maxRecDepth 100000 in
set_option maxHeartbeats 2000000 in
theorem turns_near (a b : Nat) (h1 : a ≤ 10000000000) (h2 : b ≤ a) (h3 : 1 ≤ a) (w : World) (ht : Tab w) :
    Calls Tryd.prog 11 #[.int .i64 a, .int .i64 b] w fun e w' => e = .returned (.bool true) ∧ Below w.heap.size w w' := by
  have CA := Lib.hid (awake_any w ht)
  have CW1 := Lib.hid (fun w => Within_any a (-10000000000) 10000000000 w)
  have CW2 := Lib.hid (fun w => Within_any b (-10000000000) 10000000000 w)
  rw [decide_eq_true (by omega)] at CW1
  rw [decide_eq_true (by omega)] at CW2
  have F := Lib.hid (fourPh a b (by omega) (by omega) (by omega))
  obtain ⟨n, hn, hn512, hlo, hhi⟩ := turn_beside a b h3 h2
  rw [hn] at F
  have HLo : Hid (0 < n → Beside a b (2 * n - 1) true) := fun h => beside a b _ (by omega) _ (decide_eq_true (hlo h))
  have HHi : Hid (n < 512 → Beside a b (2 * n + 1) false) := fun h => beside a b _ (by omega) _ (decide_eq_false (hhi h))
  clear hlo hhi hn
  generalize wrapI (-(n : Int)) = A at *
  generalize wrapI ((n : Int) + 1024) = B at *
  have S1 := Lib.hid (fun w => Sum_any a b w)
  have S2 := Lib.hid (fun w => Sum_any a (-b) w)
  have S3 := Lib.hid (fun w => Sum_any (-b) a w)
  have S4 := Lib.hid (fun w => Sum_any (2 * a) (2 * b) w)
  have q1 : ((a : Int) == 0) = false := by rw [beq_eq_false_iff_ne]; omega
  have a1 : (0 : Int) ≤ a := by omega
  have a2 : (a : Int) ≤ 10000000000 := by omega
  have b1 : (0 : Int) ≤ b := by omega
  have b2 : (b : Int) ≤ 10000000000 := by omega
  have r1 : ¬ (b : Int) < 0 := by omega
  have r2 : ¬ (a : Int) < b := by omega
  clear ht h3
  go_enter Tryd.func11, Tryd.ntmps11
  go_wp2_with fail
  refine CA.out.mono ?_
  rintro e w1 ⟨rfl, hb⟩
  have HB1 := Lib.hid hb
  clear hb
  go_wp2_with fail
  refine (CW1.out _).mono ?_
  rintro e w' ⟨rfl, rfl⟩
  go_wp2_with fail
  refine (CW2.out _).mono ?_
  rintro e w' ⟨rfl, rfl⟩
  go_wp2_with fail
  refine (S1.out _).mono ?_
  rintro e w' ⟨rfl, rfl⟩
  go_wp2_with fail
  refine (F.out.c1 _).mono ?_
  rintro e w2 ⟨rfl, hb⟩
  have HB2 := Lib.hid (HB1.out.trans (hb.mono HB1.out.size))
  clear hb
  go_wp2_with fail
  refine (S2.out _).mono ?_
  rintro e w' ⟨rfl, rfl⟩
  go_wp2_with fail
  refine (F.out.c2 _).mono ?_
  rintro e w3 ⟨rfl, hb⟩
  have HB3 := Lib.hid (HB2.out.trans (hb.mono HB2.out.size))
  clear hb
  go_wp2_with fail
  refine (S3.out _).mono ?_
  rintro e w' ⟨rfl, rfl⟩
  go_wp2_with fail
  refine (F.out.c3 _).mono ?_
  rintro e w4 ⟨rfl, hb⟩
  have HB4 := Lib.hid (HB3.out.trans (hb.mono HB3.out.size))
  clear hb
  go_wp2_with fail
  refine (S4.out _).mono ?_
  rintro e w' ⟨rfl, rfl⟩
  go_wp2_with fail
  refine (F.out.c4 _).mono ?_
  rintro e w5 ⟨rfl, hb⟩
  have HB5 := Lib.hid (HB4.out.trans (hb.mono HB4.out.size))
  clear hb HB1 HB2 HB3 HB4
  go_wp2_with fail
  refine (F.out.w3 _).mono ?_
  rintro e w' ⟨rfl, rfl⟩
  go_wp2_with fail
  refine (F.out.w1 _).mono ?_
  rintro e w' ⟨rfl, rfl⟩
  go_wp2_with fail
  refine (F.out.w2 _).mono ?_
  rintro e w' ⟨rfl, rfl⟩
  clear CA CW1 CW2 F S1 S2 S3 S4
  have HB := Lib.hid HB5.out
  clear HB5
  by_cases h0 : 0 < n
  · obtain ⟨d1, d2, g1, g2, hd, CD⟩ := HLo.out h0
    obtain ⟨p1, p2, p3, p4, p5⟩ := prodN_b g1 g2 (show b ≤ 10000000000 by omega) h1
    have hd' : ¬ (d1 : Int) * b < (d2 : Int) * a := Int.not_lt.2 (p5.1 (of_decide_eq_true hd))
    have CD' : Hid (∀ w, Calls Tryd.prog 53 #[.int .i64 (2 * (n : Int) - 1)] w fun e w' => e = .returned (.tuple #[.agg #[.int .i64 d1, .int .i64 d2], .int .i64 0]) ∧ Below w.heap.size w w') := by
      intro w
      have := CD w
      rwa [show ((2 * n - 1 : Nat) : Int) = 2 * (n : Int) - 1 from by omega] at this
    clear CD hd HLo p5
    by_cases h5 : n < 512
    · obtain ⟨e1, e2, g3, g4, he, CE⟩ := HHi.out h5
      obtain ⟨k1, k2, k3, k4, k5⟩ := prodN_b g3 g4 (show b ≤ 10000000000 by omega) h1
      have he' : ¬ (e2 : Int) * a ≤ (e1 : Int) * b := fun h => absurd (k5.2 h) (of_decide_eq_false he)
      have CE' : Hid (∀ w, Calls Tryd.prog 53 #[.int .i64 (2 * (n : Int) + 1)] w fun e w' => e = .returned (.tuple #[.agg #[.int .i64 e1, .int .i64 e2], .int .i64 0]) ∧ Below w.heap.size w w') := by
        intro w
        have := CE w
        rwa [show ((2 * n + 1 : Nat) : Int) = 2 * (n : Int) + 1 from by omega] at this
      clear CE he HHi k5
      go_wp2_with fail
      refine (CD'.out _).mono ?_
      rintro e w6 ⟨rfl, hb⟩
      have HB6 := Lib.hid (HB.out.trans (hb.mono HB.out.size))
      clear hb HB
      go_wp2_with fail
      refine (CE'.out _).mono ?_
      rintro e w7 ⟨rfl, hb⟩
      have HB7 : Hid (Below w.heap.size w w7) := (HB6.out.alloc HB6.out.size _).trans (hb.mono (by have := HB6.out.size; simp; omega))
      clear hb HB6
      go_wp2_with fail
      go_ret
      exact ⟨rfl, HB7.out.alloc HB7.out.size _⟩
    · clear HHi
      go_wp2_with fail
      refine (CD'.out _).mono ?_
      rintro e w6 ⟨rfl, hb⟩
      have HB6 := Lib.hid (HB.out.trans (hb.mono HB.out.size))
      clear hb HB
      go_wp2_with fail
      go_ret
      exact ⟨rfl, HB6.out.alloc HB6.out.size _⟩
  · have h5 : n < 512 := by omega
    clear HLo
    have hx0 : True := trivial
    · obtain ⟨e1, e2, g3, g4, he, CE⟩ := HHi.out h5
      obtain ⟨k1, k2, k3, k4, k5⟩ := prodN_b g3 g4 (show b ≤ 10000000000 by omega) h1
      have he' : ¬ (e2 : Int) * a ≤ (e1 : Int) * b := fun h => absurd (k5.2 h) (of_decide_eq_false he)
      have CE' : Hid (∀ w, Calls Tryd.prog 53 #[.int .i64 (2 * (n : Int) + 1)] w fun e w' => e = .returned (.tuple #[.agg #[.int .i64 e1, .int .i64 e2], .int .i64 0]) ∧ Below w.heap.size w w') := by
        intro w
        have := CE w
        rwa [show ((2 * n + 1 : Nat) : Int) = 2 * (n : Int) + 1 from by omega] at this
      clear CE he HHi k5
      go_wp2_with fail
      refine (CE'.out _).mono ?_
      rintro e w7 ⟨rfl, hb⟩
      have HB7 := Lib.hid (HB.out.trans (hb.mono HB.out.size))
      clear hb HB
      go_wp2_with fail
      go_ret
      exact ⟨rfl, HB7.out.alloc HB7.out.size _⟩

/-- THE LAW, FOR ALL NUMBERS -/
theorem turns_any (a b : Int) (w : World) (ht : Tab w) :
    Calls Tryd.prog 11 #[.int .i64 a, .int .i64 b] w fun e w' => e = .returned (.bool true) ∧ Below w.heap.size w w' := by
  by_cases h : ¬ (-10000000000 ≤ a ∧ a ≤ 10000000000) ∨ ¬ (-10000000000 ≤ b ∧ b ≤ 10000000000) ∨ (a = 0 ∧ b = 0)
  · exact turns_out a b h w ht
  · by_cases h4 : b < 0 ∨ a < b
    · exact turns_far a b (by omega) (by omega) (by omega) h4 w ht
    · obtain ⟨x, rfl⟩ : ∃ x : Nat, a = x := ⟨a.toNat, by omega⟩
      obtain ⟨y, rfl⟩ : ∃ y : Nat, b = y := ⟨b.toNat, by omega⟩
      exact turns_near x y (by omega) (by omega) (by omega) w ht
end Go.Proofs.YtcjdbhcpcigmdaaDoor
