import Derived.Test.YtmiaglkkjncfnaaDoorEi
namespace Go.Proofs.YtmiaglkkjncfnaaDoor
open Go.RowKit Go.Proofs.YtmiaglkkjncfnaaDoor.Flt

theorem lt_of_block' {w : World} {b o : Nat} {v : Value} (h : w.cell? ⟨b, o, none⟩ = some v) : b < w.heap.size := block_lt_of_cell h

theorem enters_halvesAt1 : ∀ args w, (callFunc 83 args).run Tryd.prog w = .ok (.enter 83 args) w := enters_of Tryd.func83 (by kernel_rfl) rfl

theorem halvesAt1_any (m : Nat) (d : Nat × Nat) (hd : GoodD d) (x y : Nat) (hx : x ≤ 100000000000) (hy : y ≤ 100000000000) (By Bx : Nat) (w : World) (cy : w.cell? ⟨By, 0, none⟩ = some (.int .i64 y)) (cx : w.cell? ⟨Bx, 0, none⟩ = some (.int .i64 x)) :
    Calls Tryd.prog 83 (#[.int .i64 m, .agg #[.int .i64 d.1, .int .i64 d.2]] ++ #[.pointer (some ⟨By, 0, none⟩), .pointer (some ⟨Bx, 0, none⟩)]) w fun e w' => e = .returned (.bool (decide (d.2 * x ≤ d.1 * y))) ∧ Below w.heap.size w w' := by
  have h1 := hd.le
  have h2 := hd.low
  obtain ⟨a, b⟩ := d
  dsimp only at *
  have p1 : a * y ≤ 16777216 * 100000000000 := Nat.mul_le_mul h1 hy
  have p2 : b * x ≤ 16777216 * 100000000000 := Nat.mul_le_mul (by omega) hx
  have q1 : (0 : Int) ≤ (a : Int) * y := by rw [← Int.natCast_mul]; omega
  have q2 : (a : Int) * y ≤ 1677721600000000000 := by rw [← Int.natCast_mul]; omega
  have q3 : (0 : Int) ≤ (b : Int) * x := by rw [← Int.natCast_mul]; omega
  have q4 : (b : Int) * x ≤ 1677721600000000000 := by rw [← Int.natCast_mul]; omega
  have hx1 := lt_of_block' cx
  have hy1 := lt_of_block' cy
  have HE : Hid (decide ((b : Int) * x ≤ (a : Int) * y) = decide (b * x ≤ a * y)) := by
    unfold Hid
    rw [← Int.natCast_mul, ← Int.natCast_mul]
    exact decide_eq_decide.2 Int.ofNat_le
  clear p1 p2 h1 h2 hd hx hy
  show Calls Tryd.prog 83 #[.int .i64 m, .agg #[.int .i64 a, .int .i64 b], .pointer (some ⟨By, 0, none⟩), .pointer (some ⟨Bx, 0, none⟩)] w _
  go_enter Tryd.func83, Tryd.ntmps83
  go_wp2_with fail
  go_ret
  exact ⟨by rw [← HE.out]; rfl, (Below.refl _ _).alloc (Nat.le_refl _) _⟩

theorem hv_lt (r : Nat → Nat × Nat → Bool) : ∀ j i, hv r j i < (i + 1) * 2 ^ j := by
  intro j
  induction j with
  | zero => intro i; simp [hv]
  | succ j ih =>
    intro i
    rw [hv]
    have e : (i + 1) * 2 ^ (j + 1) = (2 * i + 1 + 1) * 2 ^ j := by
      rw [Nat.pow_succ, Nat.mul_comm (2 ^ j) 2, ← Nat.mul_assoc]; congr 1; omega
    have h1 := ih (2 * i + 1)
    have h2 := ih (2 * i)
    have h3 : (2 * i + 1) * 2 ^ j ≤ (2 * i + 1 + 1) * 2 ^ j := Nat.mul_le_mul_right _ (by omega)
    rw [e]
    split <;> omega

/-- the phase of x + y i in halves of a part, for 0 <= y <= x -/
def halv (x y : Nat) : Nat := if x = y then 1024 else hv (fun _ d => decide (d.2 * x ≤ d.1 * y)) 10 0
theorem halv_le (x y : Nat) : halv x y ≤ 1024 := by
  unfold halv
  split
  · omega
  · have := hv_lt (fun _ d => decide (d.2 * x ≤ d.1 * y)) 10 0
    omega

set_option maxRecDepth 100000 in
theorem halvesAt_any (x y : Nat) (hx : x ≤ 100000000000) (hy : y ≤ 100000000000) (w : World) :
    Calls Tryd.prog 72 #[.int .i64 x, .int .i64 y] w fun e w' => e = .returned (.int .i64 (halv x y)) ∧ Below w.heap.size w w' := by
  by_cases hxy : x = y
  · subst hxy
    have HF : Hid (halv x x = 1024) := by unfold Hid halv; rw [if_pos rfl]
    generalize halv x x = R at *
    go_enter Tryd.func72, Tryd.ntmps72
    go_wp2_with fail
    go_ret
    exact ⟨by rw [HF.out]; rfl, ((Below.refl _ _).alloc (Nat.le_refl _) _).alloc (by simp) _⟩
  · have HF : Hid (halv x y = hv (fun _ d => decide (d.2 * x ≤ d.1 * y)) 10 0) := by unfold Hid halv; rw [if_neg hxy]
    obtain ⟨R, hR⟩ : ∃ R, R = hv (fun _ d => decide (d.2 * x ≤ d.1 * y)) 10 0 := ⟨_, rfl⟩
    rw [← hR] at HF
    have C := halve_any 83 enters_halvesAt1 #[.pointer (some ⟨w.heap.size + 1, 0, none⟩), .pointer (some ⟨w.heap.size, 0, none⟩)] (fun _ d => decide (d.2 * x ≤ d.1 * y)) R hR.symm
      ((w.alloc (.cells #[.int .i64 x] 3)).alloc (.cells #[.int .i64 y] 3)) (by
        intro m d W hm hd hb
        have b0 : W.heap[w.heap.size]? = some (.cells #[.int .i64 x] 3 (0, 0)) := by
          rw [hb.block _ (by simp; omega), Below.heap_alloc _ _ _ (by simp)]; exact heap_alloc_new _ _
        have b1 : W.heap[w.heap.size + 1]? = some (.cells #[.int .i64 y] 3 (0, 0)) := by
          rw [hb.block _ (by simp)]
          have := heap_alloc_new (w.alloc (.cells #[.int .i64 x] 3)) (.cells #[.int .i64 y] 3)
          rwa [World.size_alloc] at this
        exact halvesAt1_any m d hd x y hx hy (w.heap.size + 1) w.heap.size W (cell_of_one b1) (cell_of_one b0))
    generalize dAt 10 R = D at *
    have h1 : ((x : Int) == y) = false := by rw [beq_eq_false_iff_ne]; omega
    have HC := Lib.hid C
    clear C hR hxy hx hy
    go_enter Tryd.func72, Tryd.ntmps72
    go_wp2_with fail
    refine HC.out.mono ?_
    rintro e w1 ⟨rfl, hb⟩
    go_wp2_with fail
    go_ret
    have hB : Below w.heap.size w w1 := (((Below.refl _ _).alloc (Nat.le_refl _) _).alloc (by simp) _).trans (hb.mono (by simp; omega))
    exact ⟨by rw [HF.out]; rfl, hB.alloc hB.size _⟩

/-- the phase in parts, of x + y i -/
def ph0 (x y : Nat) : Int := ((halv x y + 1) / 2 : Nat)
def phA (x y : Nat) : Int := if x < y then 1024 - ph0 y x else ph0 x y
def phB (x : Int) (y : Nat) : Int := if x < 0 then 2048 - phA x.natAbs y else phA x.natAbs y
def phC (x y : Int) : Int := if y < 0 then - phB x y.natAbs else phB x y.natAbs

theorem ph0_b (x y : Nat) : 0 ≤ ph0 x y ∧ ph0 x y ≤ 512 := by
  unfold ph0
  have := halv_le x y
  omega
theorem phA_b (x y : Nat) : 0 ≤ phA x y ∧ phA x y ≤ 1024 := by
  unfold phA
  have := ph0_b x y
  have := ph0_b y x
  split <;> omega
theorem phB_b (x : Int) (y : Nat) : 0 ≤ phB x y ∧ phB x y ≤ 2048 := by
  unfold phB
  have := phA_b x.natAbs y
  split <;> omega
theorem phC_b (x y : Int) : -2048 ≤ phC x y ∧ phC x y ≤ 2048 := by
  unfold phC
  have := phB_b x y.natAbs
  split <;> omega

theorem phaseAt0 (x y : Nat) (hx : x ≤ 100000000000) (hy : y ≤ x) (w : World) :
    Calls Tryd.prog 56 #[.int .i64 x, .int .i64 y] w fun e w' => e = .returned (.int .i64 (ph0 x y)) ∧ Below w.heap.size w w' := by
  have C := Lib.hid (halvesAt_any x y hx (by omega))
  have hb := halv_le x y
  have HF : Hid (ph0 x y = ((halv x y : Int) + 1) / 2) := by unfold Hid ph0; omega
  generalize halv x y = H at *
  generalize ph0 x y = R at *
  have hyx : ¬ x < y := by omega
  go_enter Tryd.func56, Tryd.ntmps56
  go_wp2_with fail
  refine (C.out _).mono ?_
  rintro e w1 ⟨rfl, hb1⟩
  go_wp2_with fail
  go_ret
  exact ⟨by rw [HF.out]; rfl, hb1⟩

theorem phaseAtA (x y : Nat) (hx : x ≤ 100000000000) (hy : y ≤ 100000000000) (w : World) :
    Calls Tryd.prog 56 #[.int .i64 x, .int .i64 y] w fun e w' => e = .returned (.int .i64 (phA x y)) ∧ Below w.heap.size w w' := by
  by_cases h : x < y
  · have C := Lib.hid (phaseAt0 y x hy (by omega))
    have hb := ph0_b y x
    obtain ⟨b1, b2⟩ := hb
    have HF : Hid (phA x y = 1024 - ph0 y x) := by unfold Hid phA; rw [if_pos h]
    generalize ph0 y x = P at *
    generalize phA x y = R at *
    go_enter Tryd.func56, Tryd.ntmps56
    go_wp2_with fail
    refine (C.out _).mono ?_
    rintro e w1 ⟨rfl, hb1⟩
    go_wp2_with fail
    go_ret
    exact ⟨by rw [HF.out]; rfl, hb1⟩
  · have e : phA x y = ph0 x y := by unfold phA; rw [if_neg h]
    rw [e]
    exact phaseAt0 x y hx (by omega) w

theorem phaseAtB (x : Int) (y : Nat) (hx : x.natAbs ≤ 100000000000) (hy : y ≤ 100000000000) (w : World) :
    Calls Tryd.prog 56 #[.int .i64 x, .int .i64 y] w fun e w' => e = .returned (.int .i64 (phB x y)) ∧ Below w.heap.size w w' := by
  by_cases h : x < 0
  · have C := phaseAtA x.natAbs y hx hy
    have hn : ((x.natAbs : Nat) : Int) = -x := by omega
    rw [hn] at C
    have C := Lib.hid C
    obtain ⟨b1, b2⟩ := phA_b x.natAbs y
    have HF : Hid (phB x y = 2048 - phA x.natAbs y) := by unfold Hid phB; rw [if_pos h]
    have hlo : -100000000000 ≤ x := by omega
    clear hx hn
    generalize phA x.natAbs y = P at *
    generalize phB x y = R at *
    go_enter Tryd.func56, Tryd.ntmps56
    go_wp2_with fail
    refine (C.out _).mono ?_
    rintro e w1 ⟨rfl, hb1⟩
    go_wp2_with fail
    go_ret
    exact ⟨by rw [HF.out]; rfl, hb1⟩
  · have e : phB x y = phA x.natAbs y := by unfold phB; rw [if_neg h]
    have hn : ((x.natAbs : Nat) : Int) = x := by omega
    have := phaseAtA x.natAbs y hx hy w
    rw [hn, ← e] at this
    exact this

theorem phaseAtC (x y : Int) (hx : x.natAbs ≤ 100000000000) (hy : y.natAbs ≤ 100000000000) (w : World) :
    Calls Tryd.prog 56 #[.int .i64 x, .int .i64 y] w fun e w' => e = .returned (.int .i64 (phC x y)) ∧ Below w.heap.size w w' := by
  by_cases h : y < 0
  · have C := phaseAtB x y.natAbs hx hy
    have hn : ((y.natAbs : Nat) : Int) = -y := by omega
    rw [hn] at C
    have C := Lib.hid C
    obtain ⟨b1, b2⟩ := phB_b x y.natAbs
    have HF : Hid (phC x y = - phB x y.natAbs) := by unfold Hid phC; rw [if_pos h]
    have hlo : -100000000000 ≤ y := by omega
    clear hy hn hx
    generalize phB x y.natAbs = P at *
    generalize phC x y = R at *
    go_enter Tryd.func56, Tryd.ntmps56
    go_wp2_with fail
    refine (C.out _).mono ?_
    rintro e w1 ⟨rfl, hb1⟩
    go_wp2_with fail
    go_ret
    exact ⟨by rw [HF.out]; rfl, hb1⟩
  · have e : phC x y = phB x y.natAbs := by unfold phC; rw [if_neg h]
    have hn : ((y.natAbs : Nat) : Int) = y := by omega
    have := phaseAtB x y.natAbs hx hy w
    rw [hn, ← e] at this
    exact this

/-- whole turns taken away -/
def wrapI (p : Int) : Int := (p + 2048) % 4096 - 2048

theorem wrapped_any (p : Int) (h1 : -1000000000 ≤ p) (h2 : p ≤ 1000000000) (w : World) :
    Calls Tryd.prog 55 #[.int .i64 p] w fun e w' => e = .returned (.int .i64 (wrapI p)) ∧ w = w' := by
  by_cases h0 : 0 ≤ p + 2048
  · have HF : Hid (wrapI p = (p + 2048) % 4096 - 2048) := rfl
    have b1 : 0 ≤ (p + 2048) % 4096 := by omega
    have b2 : (p + 2048) % 4096 < 4096 := by omega
    generalize wrapI p = R at *
    go_enter Tryd.func55, Tryd.ntmps55
    go_wp2
    go_ret
    exact ⟨by rw [HF.out]; rfl, rfl⟩
  · obtain ⟨q, hq⟩ : ∃ q : Int, q = (p + 2048).tmod 4096 := ⟨_, rfl⟩
    have hneg : (p + 2048).tmod 4096 = - ((-(p + 2048)) % 4096) := by
      have e1 : p + 2048 = -(-(p + 2048)) := by omega
      rw [e1, Int.neg_tmod, Int.tmod_eq_emod_of_nonneg (by omega)]
      simp
    by_cases hz : (p + 2048).tmod 4096 < 0
    · have HF : Hid (wrapI p = (p + 2048).tmod 4096 + 4096 - 2048) := by unfold Hid wrapI; omega
      have b1 : -4096 ≤ (p + 2048).tmod 4096 := by omega
      generalize wrapI p = R at *
      clear hneg hq
      go_enter Tryd.func55, Tryd.ntmps55
      go_wp2
      go_ret
      exact ⟨by rw [HF.out]; rfl, rfl⟩
    · have HF : Hid (wrapI p = (p + 2048).tmod 4096 - 2048) := by unfold Hid wrapI; omega
      have b1 : (p + 2048).tmod 4096 ≤ 0 := by omega
      have b2 : 0 ≤ (p + 2048).tmod 4096 := by omega
      generalize wrapI p = R at *
      clear hneg hq
      go_enter Tryd.func55, Tryd.ntmps55
      go_wp2
      go_ret
      exact ⟨by rw [HF.out]; rfl, rfl⟩
end Go.Proofs.YtmiaglkkjncfnaaDoor
