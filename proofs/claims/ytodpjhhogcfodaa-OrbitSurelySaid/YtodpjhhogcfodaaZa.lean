import Derived.Test.YtodpjhhogcfodaaRl
import Derived.BigQuiet
import Derived.StillTailTactics
import Derived.IntWalk
import Derived.Outline
namespace Go.Proofs.Ytodpjhhogcfodaa.Orb
open Go.RowKit Lib

/-- the greatest common divisor, as a number of the program -/
def gI (n d : Int) : Int := ((Int.gcd n d : Nat) : Int)
theorem gI_pos {n d : Int} (h : 0 < d) : 1 ≤ gI n d ∧ gI n d ≤ d := by
  unfold gI
  have h1 : 0 < Int.gcd n d := Int.gcd_pos_of_ne_zero_right n (by omega)
  have h2 : ((Int.gcd n d : Nat) : Int) ∣ d := Int.gcd_dvd_right n d
  exact ⟨by omega, Int.le_of_dvd h h2⟩
theorem gcd_start (n d : Int) (h : 0 < d) : Nat.gcd d.toNat n.natAbs = Int.gcd n d := by
  rw [Int.gcd, Nat.gcd_comm, show d.toNat = d.natAbs from by omega]
theorem gcd_step (A B : Nat) : Nat.gcd B (A % B) = Nat.gcd A B := by
  rw [Nat.gcd_comm A B, Nat.gcd_rec B A, Nat.gcd_comm]
theorem gcd_stepI (a b : Int) : Int.gcd b (a.tmod b) = Int.gcd a b := by
  rw [Int.gcd, Int.gcd, Int.natAbs_tmod]
  exact gcd_step _ _
theorem tmod_bd (a b : Int) (h : b ≠ 0) : (a.tmod b).natAbs < b.natAbs := by
  rw [Int.natAbs_tmod]
  exact Nat.mod_lt _ (by omega)

set_option maxRecDepth 100000 in
set_option maxHeartbeats 2000000 in
theorem lowest_any (n d : Int) (hn : -400000000 ≤ n) (hn2 : n ≤ 400000000) (hd : 0 < d) (hd2 : d ≤ 1000000000) (w : World) :
    Calls Try.prog 96 #[.int .i64 n, .int .i64 d] w fun e w' => e = .returned (.agg #[.int .i64 (n.tdiv (gI n d)), .int .i64 (d.tdiv (gI n d))]) ∧ Below w.heap.size w w' := by
  have hg := gI_pos (n := n) hd
  have HST := Lib.hid (gcd_start n d hd)
  have HG : Hid (gI n d = ((Int.gcd n d : Nat) : Int)) := rfl
  have t1 := tdiv_size n (gI n d) 1000000000 (by omega) (by omega)
  have t2 := tdiv_size d (gI n d) 1000000000 (by omega) (by omega)
  generalize Int.gcd n d = G at *
  generalize gI n d = g at *
  have e1 : IntKind.i64.wrap (n.tdiv g) = n.tdiv g := IntWalk.i64_in _ (by omega)
  have e2 : IntKind.i64.wrap (d.tdiv g) = d.tdiv g := IntWalk.i64_in _ (by omega)
  have hng : IntKind.i64.wrap (-n) = -n := IntWalk.i64_in _ (by omega)
  have HE := Lib.hid (And.intro e1 (And.intro e2 hg))
  clear t1 t2 e1 e2 hg
  by_cases hs : n < -n
  all_goals
    go_enter Try.func96, Try.ntmps96
    go_wp2_with fail
    obtain ⟨W0, hW0⟩ : ∃ W0, W0 = w.alloc (.cells #[.int .i64 0, .int .i64 0] 56) := ⟨_, rfl⟩
    rw [← hW0]
    have HB0 := Lib.hid (show Below w.heap.size w W0 by rw [hW0]; exact new_below _ _)
    have HQ0 := Lib.hid (show W0.heap[w.heap.size]? = some (.cells #[.int .i64 0, .int .i64 0] 56 (0, 0)) by rw [hW0]; exact heap_alloc_new _ _)
    clear hW0
    go_loopw [5, 6] (fun a b wr => ∃ A B : Nat, a = .int .i64 (A : Int) ∧ b = .int .i64 (B : Int) ∧ A ≤ 1000000000 ∧ B ≤ 1000000000 ∧ Hid (Nat.gcd A B = G) ∧ Hid (Below w.heap.size w wr) ∧ Hid (wr.heap[w.heap.size]? = some (.cells #[.int .i64 0, .int .i64 0] 56 (0, 0)))) (fun _ b _ => (intV b).toNat)
    case atStart => exact ⟨d.toNat, n.natAbs, by rw [show ((d.toNat : Nat) : Int) = d from by omega], by first | rw [show ((n.natAbs : Nat) : Int) = -n from by omega] | rw [show ((n.natAbs : Nat) : Int) = n from by omega], by omega, by omega, HST, HB0, HQ0⟩
    case round =>
      obtain ⟨A, B, rfl, rfl, hA, hB, HGC, HBZ, HQZ⟩ := hrel
      obtain ⟨wz, rfl⟩ : ∃ wz : World, wz = wr := ⟨_, rfl⟩
      clear HB0 HQ0 HST
      by_cases h0 : B = 0
      · subst h0
        have hAg : Hid (g = (A : Int)) := by
          rw [HG.out, ← HGC.out, Nat.gcd_zero_right]
          exact rfl
        rw [hAg.out] at HE
        obtain ⟨e1, e2, hg⟩ := HE.out
        have hg0 : (0 : Int) < (A : Int) := by omega
        have hg1 : ((A : Int) == 0) = false := by rw [beq_eq_false_iff_ne]; omega
        have hg2 : (A : Int) ≠ 0 := by omega
        have hg3 : ((A : Int) == -1) = false := by rw [beq_eq_false_iff_ne]; omega
        have hg4 : A ≠ 0 := by omega
        go_upto_region 4 with fail
        refine region_tail 7 (by kernel_rfl) (by kernel_rfl) (fun W hW => ?_)
        simp only [List.take_succ_cons, List.take_zero, List.drop_succ_cons, List.drop_zero]
        have HBW := Lib.hid (show Below w.heap.size w W by rw [hW]; exact HBZ.out.drew)
        have HQW := Lib.hid (show W.heap[w.heap.size]? = some (.cells #[.int .i64 0, .int .i64 0] 56 (0, 0)) by rw [hW]; exact HQZ.out)
        clear hW HBZ HQZ
        obtain ⟨q0, q1, f0, f1⟩ := two_cells HQW.out
        still_step
        still_step
        still_step
        still_step
        still_step
        still_step
        still_step
        refine wpStill_nil ?_
        go_wp2_with fail
        refine bodyPost_ret (v := .agg #[.int .i64 (n.tdiv (A : Int)), .int .i64 (d.tdiv (A : Int))]) (by simp [results, Try.results96, go_sem, q0, q1]) rfl ⟨by rw [hAg.out], ?_⟩
        exact setC (setC HBW.out (by omega) _) (by omega) _
      · have hb0 : (0 : Int) < (B : Int) := by omega
        have hb1 : ((B : Int) == 0) = false := by rw [beq_eq_false_iff_ne]; omega
        have hb2 : ((B : Int) != 0) = true := by rw [bne_iff_ne]; omega
        have hb3 : (B : Int) ≠ 0 := by omega
        obtain ⟨C, hC⟩ : ∃ C, C = A % B := ⟨_, rfl⟩
        have hlt : C < B := by rw [hC]; exact Nat.mod_lt _ (by omega)
        have ht : ((A : Int).tmod (B : Int)) = (C : Int) := by rw [hC]; exact (Int.ofNat_tmod A B).symm
        have ht2 : ((A : Int) % (B : Int)) = (C : Int) := by rw [hC]; exact (Int.natCast_emod A B).symm
        have hw0 : IntKind.i64.wrap (C : Int) = (C : Int) := IntWalk.i64_in _ (by omega)
        have HGS : Hid (Nat.gcd B C = G) := by rw [hC]; exact (gcd_step A B).trans HGC.out
        clear hC HGC
        go_upto_region 3 with fail
        go_quiet (fail)
        go_wp2_with fail
        go_roundw
        case rel => exact ⟨B, C, rfl, rfl, hB, by omega, HGS, Lib.hid (drewN1 HBZ.out _), Lib.hid (by first | exact HQZ.out | (rw [World.drewN_heap]; exact HQZ.out) | (have h := keepb (drewN1 (Below.refl _ wz) _) HQZ.out; exact h))⟩
        case measure => simp [intV]; omega

set_option maxRecDepth 100000 in
theorem refSize_any (n : Int) (hn : -1000000000000 ≤ n) (hn2 : n ≤ 1000000000000) (w : World) :
    Calls Try.prog 111 #[.int .i64 n] w fun e w' => e = .returned (.int .i64 ((n.natAbs : Nat) : Int)) ∧ w = w' := by
  have hng : IntKind.i64.wrap (-n) = -n := IntWalk.i64_in _ (by omega)
  by_cases hs : n < -n
  · have HR := Lib.hid (show ((n.natAbs : Nat) : Int) = -n by omega)
    rw [HR.out]
    clear HR
    go_enter Try.func111, Try.ntmps111
    go_wp2_with fail
    go_ret
    exact ⟨rfl, rfl⟩
  · have HR := Lib.hid (show ((n.natAbs : Nat) : Int) = n by omega)
    rw [HR.out]
    clear HR
    go_enter Try.func111, Try.ntmps111
    go_wp2_with fail
    go_ret
    exact ⟨rfl, rfl⟩

set_option maxRecDepth 100000 in
set_option maxHeartbeats 2000000 in
theorem refGcd_any (n d : Int) (hn : -400000000 ≤ n) (hn2 : n ≤ 400000000) (hd : 0 < d) (hd2 : d ≤ 1000000000) (w : World) :
    Calls Try.prog 125 #[.int .i64 n, .int .i64 d] w fun e w' => e = .returned (.int .i64 (gI n d)) ∧ Below w.heap.size w w' := by
  have HG : Hid (gI n d = ((Int.gcd n d : Nat) : Int)) := rfl
  have HGC0 := Lib.hid (show Int.gcd n d = Int.gcd n d from rfl)
  obtain ⟨G, hG⟩ : ∃ G, G = Int.gcd n d := ⟨_, rfl⟩
  have HG0 := Lib.hid hG.symm
  rw [← hG] at HG
  clear hG HGC0
  generalize gI n d = g at *
  go_enter Try.func125, Try.ntmps125
  go_wp2_with fail
  go_loopw [0, 1] (fun x y wr => ∃ a b : Int, x = .int .i64 a ∧ y = .int .i64 b ∧ (-1000000000 ≤ a ∧ a ≤ 1000000000) ∧ (-1000000000 ≤ b ∧ b ≤ 1000000000) ∧ Hid (Int.gcd a b = G) ∧ Hid (Below w.heap.size w wr)) (fun _ y _ => (intV y).natAbs)
  case atStart => exact ⟨n, d, rfl, rfl, by omega, by omega, HG0, Lib.hid (Below.refl _ _)⟩
  case round =>
    obtain ⟨a, b, rfl, rfl, ha, hb, HGC, HBZ⟩ := hrel
    obtain ⟨wz, rfl⟩ : ∃ wz : World, wz = wr := ⟨_, rfl⟩
    clear HG0
    by_cases h0 : b = 0
    · subst h0
      have CS := Lib.hid (fun W => same (refSize_any a (by omega) (by omega) W))
      have HR := Lib.hid (show g = ((a.natAbs : Nat) : Int) by rw [HG.out, ← HGC.out, Int.gcd_zero_right])
      clear HGC HG
      go_wp2_with fail
      refine (CS.out _).mono ?_
      rintro e w1 ⟨rfl, rfl⟩
      go_wp2_with fail
      go_ret
      exact ⟨by rw [HR.out]; rfl, HBZ.out⟩
    · have hb1 : (b == 0) = false := by rw [beq_eq_false_iff_ne]; omega
      have hb2 : (b != 0) = true := by rw [bne_iff_ne]; omega
      have hlt := tmod_bd a b h0
      have hw1 : IntKind.i64.wrap (a.tmod b) = a.tmod b := IntWalk.i64_in _ (by omega)
      have HGS := Lib.hid ((gcd_stepI a b).trans HGC.out)
      clear HGC
      obtain ⟨c, hc⟩ : ∃ c, c = a.tmod b := ⟨_, rfl⟩
      rw [← hc] at hlt HGS
      have HC := Lib.hid hc
      clear hc
      go_upto_region 2 with fail
      go_quiet (fail)
      go_wp2_with fail
      go_roundw
      case rel => exact ⟨b, c, rfl, by rw [HC.out], hb, by omega, HGS, Lib.hid (drewN1 HBZ.out _)⟩
      case measure => simp [intV]; have := HC.out; have := Nat.mod_lt a.natAbs (show 0 < b.natAbs by omega); omega

set_option maxRecDepth 100000 in
set_option maxHeartbeats 2000000 in
theorem refLowest_any (n d : Int) (hn : -400000000 ≤ n) (hn2 : n ≤ 400000000) (hd : 0 < d) (hd2 : d ≤ 1000000000) (w : World) :
    Calls Try.prog 100 #[.int .i64 n, .int .i64 d] w fun e w' => e = .returned (.agg #[.int .i64 (n.tdiv (gI n d)), .int .i64 (d.tdiv (gI n d))]) ∧ Below w.heap.size w w' := by
  have CG := Lib.hid (fun W => refGcd_any n d hn hn2 hd hd2 W)
  have hg := gI_pos (n := n) hd
  have t1 := tdiv_size n (gI n d) 1000000000 (by omega) (by omega)
  have t2 := tdiv_size d (gI n d) 1000000000 (by omega) (by omega)
  generalize gI n d = g at *
  have e1 : IntKind.i64.wrap (n.tdiv g) = n.tdiv g := IntWalk.i64_in _ (by omega)
  have e2 : IntKind.i64.wrap (d.tdiv g) = d.tdiv g := IntWalk.i64_in _ (by omega)
  have hg0 : 0 < g := by omega
  have hg1 : (g == 0) = false := by rw [beq_eq_false_iff_ne]; omega
  have hg2 : g ≠ 0 := by omega
  have hg3 : (g == -1) = false := by rw [beq_eq_false_iff_ne]; omega
  have hdn : ¬ d < 0 := by omega
  clear t1 t2 hg
  go_enter Try.func100, Try.ntmps100
  go_wp2_with fail
  obtain ⟨W0, hW0⟩ : ∃ W0, W0 = w.alloc (.cells #[.int .i64 0, .int .i64 0] 56) := ⟨_, rfl⟩
  rw [← hW0]
  have HB0 := Lib.hid (show Below w.heap.size w W0 by rw [hW0]; exact new_below _ _)
  have HQ0 := Lib.hid (show W0.heap[w.heap.size]? = some (.cells #[.int .i64 0, .int .i64 0] 56 (0, 0)) by rw [hW0]; exact heap_alloc_new _ _)
  clear hW0
  refine (CG.out _).mono ?_
  rintro e w1 ⟨rfl, hb⟩
  have HB1 := Lib.hid (trans' HB0.out hb)
  have HQ1 := Lib.hid (keepb hb HQ0.out)
  clear hb HB0 HQ0
  go_upto_region 4 with fail
  refine region_tail 7 (by kernel_rfl) (by kernel_rfl) (fun W hW => ?_)
  simp only [List.take_succ_cons, List.take_zero, List.drop_succ_cons, List.drop_zero]
  have HBW := Lib.hid (show Below w.heap.size w W by rw [hW]; exact HB1.out.drew)
  have HQW := Lib.hid (show W.heap[w.heap.size]? = some (.cells #[.int .i64 0, .int .i64 0] 56 (0, 0)) by rw [hW]; exact HQ1.out)
  clear hW HB1 HQ1
  obtain ⟨q0, q1, f0, f1⟩ := two_cells HQW.out
  still_step
  still_step
  still_step
  still_step
  still_step
  still_step
  still_step
  refine wpStill_nil ?_
  go_wp2_with fail
  refine bodyPost_ret (v := .agg #[.int .i64 (n.tdiv g), .int .i64 (d.tdiv g)]) (by simp [results, Try.results100, go_sem, q0, q1]) rfl ⟨rfl, ?_⟩
  exact setC (setC HBW.out (by omega) _) (by omega) _
end Go.Proofs.Ytodpjhhogcfodaa.Orb
