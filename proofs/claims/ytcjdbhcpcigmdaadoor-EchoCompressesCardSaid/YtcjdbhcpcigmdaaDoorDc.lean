import Derived.Test.YtcjdbhcpcigmdaaDoorDb
namespace Go.Proofs.YtcjdbhcpcigmdaaDoor
open Go.RowKit Go.Proofs.YtcjdbhcpcigmdaaDoor.Flt

set_option maxRecDepth 100000 in
set_option maxHeartbeats 1000000 in
/-- THE REFERENCE's SUM OF PAIRS -/
theorem refPairSum_any (L S : Nat) (v : Value) (zs : List (Nat × Nat)) (w : World) (hv : Sl w v (cvals .f32 zs)) (hL1 : 2 ≤ L) (hL : L ≤ 64) (hS1 : 1 ≤ S) (hS : S ≤ 64) (hlen : zs.length = L * S) (RI : Right .f32 2047 zs) :
    Calls Tryd.prog 66 #[.agg #[.int .i64 L, .int .i64 S, v]] w fun e w' => e = .returned (.tuple #[.int .i64 (pairRe zs S ((L - 1) * S)), .int .i64 (pairIm zs S ((L - 1) * S))]) ∧ Below w.heap.size w w' := by
  have HV := Lib.hid hv
  obtain ⟨ad, cap, rfl, hll, -⟩ := hv
  have ex : (cvals .f32 zs).length = zs.length := by simp [cvals]
  rw [ex] at hll HV ⊢
  have hz : zs.length ≤ 4096 := by rw [hlen]; exact Nat.le_trans (Nat.mul_le_mul hL hS) (by decide)
  have hp : (L - 1) * S + S = zs.length := by
    rw [hlen]
    obtain ⟨m, rfl⟩ : ∃ m, L = m + 1 := ⟨L - 1, by omega⟩
    rw [Nat.add_sub_cancel, Nat.succ_mul]
  obtain ⟨P, hP⟩ : ∃ P, P = (L - 1) * S := ⟨_, rfl⟩
  rw [← hP] at hp ⊢
  have HSB := Lib.hid (pairSum_b RI S P hz (by omega))
  have HR := Lib.hid RI
  obtain ⟨n, hn⟩ : ∃ n, n = zs.length := ⟨_, rfl⟩
  have HN := Lib.hid hn
  rw [← hn] at hll HV hz hp ⊢
  have HB : Hid (Below w.heap.size w (w.alloc (.cells #[.int .i64 L, .int .i64 S, .slice ad n cap] 32))) := (Below.refl _ _).alloc (Nat.le_refl _) _
  clear hlen RI ex hn hP
  go_enter Tryd.func66, Tryd.ntmps66
  go_wp2_with fail
  obtain ⟨W0, hW0⟩ : ∃ W0, W0 = w.alloc (.cells #[.int .i64 L, .int .i64 S, .slice ad n cap] 32) := ⟨_, rfl⟩
  rw [← hW0] at HB
  have hN : W0.heap[w.heap.size]? = some (.cells #[.int .i64 L, .int .i64 S, .slice ad n cap] 32 (0, 0)) := by rw [hW0]; exact heap_alloc_new _ _
  have HV0 := Lib.hid (HV.out.below HB.out (Nat.le_refl _))
  rw [← hW0]
  clear hW0 HV
  obtain ⟨c0, c1, c2, -, -, -, l1⟩ := three_cells hN
  clear hN
  go_loop [4, 5, 6] (fun rv mv i => ∃ j t : Nat, j ≤ P ∧ t = j + S ∧ i = .int .i64 t ∧ rv = .int .i64 (pairRe zs S j) ∧ mv = .int .i64 (pairIm zs S j)) (fun _ _ i => n - (intOf i).toNat)
  case atStart => exact ⟨0, S, Nat.zero_le _, by omega, rfl, rfl, rfl⟩
  case round =>
    obtain ⟨j, t, hj, ht, rfl, rfl, rfl⟩ := hrel
    obtain ⟨sb1, sb2⟩ := HSB.out j hj
    by_cases hlt : j < P
    · obtain ⟨-, b, off, rfl, -, hcl⟩ := HV0.out.at (by omega)
      have hz1 : t < zs.length := by have := HN.out; omega
      have hz2 : j < zs.length := by have := HN.out; omega
      have d1 : W0.cell? ⟨b, off + t, none⟩ = some (.complex .f32 (zs.getD t (0, 0)).1 (zs.getD t (0, 0)).2) := hcl t _ (cvals_get hz1)
      have d2 : W0.cell? ⟨b, off + j, none⟩ = some (.complex .f32 (zs.getD j (0, 0)).1 (zs.getD j (0, 0)).2) := hcl j _ (cvals_get hz2)
      obtain ⟨a1, a2, a3, a4⟩ := HR.out t hz1
      obtain ⟨b1, b2, b3, b4⟩ := HR.out j hz2
      have CP1 := Lib.hid (fun w => refParts_any _ _ _ _ a1 a2 (by omega) (by omega) w)
      have CP2 := Lib.hid (fun w => refParts_any _ _ _ _ b1 b2 (by omega) (by omega) w)
      have CT := Lib.hid (fun w => Times_any (re .f32 zs t) (im .f32 zs t) (re .f32 zs j) (im .f32 zs j) (by omega) (by omega) b3 b4 w)
      have e1 : Hid (pairRe zs S (j + 1) = pairRe zs S j + (re .f32 zs t * re .f32 zs j + im .f32 zs t * im .f32 zs j)) := by rw [ht]; rfl
      have e2 : Hid (pairIm zs S (j + 1) = pairIm zs S j + (im .f32 zs t * re .f32 zs j - re .f32 zs t * im .f32 zs j)) := by rw [ht]; rfl
      obtain ⟨sb3, sb4⟩ := HSB.out (j + 1) hlt
      have q1 : -34326192128 ≤ pairRe zs S j ∧ pairRe zs S j ≤ 34326192128 := by omega
      have q2 : -34326192128 ≤ pairIm zs S j ∧ pairIm zs S j ≤ 34326192128 := by omega
      rw [e1.out] at sb3
      rw [e2.out] at sb4
      generalize (zs.getD t (0, 0)).1 = z1 at *
      generalize (zs.getD t (0, 0)).2 = z2 at *
      generalize (zs.getD j (0, 0)).1 = z3 at *
      generalize (zs.getD j (0, 0)).2 = z4 at *
      generalize re .f32 zs t * re .f32 zs j + im .f32 zs t * im .f32 zs j = T1 at *
      generalize im .f32 zs t * re .f32 zs j - re .f32 zs t * im .f32 zs j = T2 at *
      generalize re .f32 zs t = x1 at *
      generalize im .f32 zs t = x2 at *
      generalize re .f32 zs j = x3 at *
      generalize im .f32 zs j = x4 at *
      generalize pairRe zs S j = Q3 at *
      generalize pairIm zs S j = Q4 at *
      have q3 : -34326192128 ≤ Q3 + T1 ∧ Q3 + T1 ≤ 34326192128 := by omega
      have q4 : -34326192128 ≤ Q4 + T2 ∧ Q4 + T2 ≤ 34326192128 := by omega
      obtain ⟨q1, q1'⟩ := q1
      obtain ⟨q2, q2'⟩ := q2
      obtain ⟨q3, q3'⟩ := q3
      obtain ⟨q4, q4'⟩ := q4
      have e3 : (t : Int) - S = j := by omega
      have e4 : (t : Int) < n := by omega
      have e5 : (j : Int) < n := by omega
      have HT := Lib.hid ht
      clear hcl hz1 hz2 a1 a2 a3 a4 b1 b2 b3 b4 sb1 sb2 sb3 sb4 ht hp
      go_wp2_with fail
      refine (CP1.out _).mono ?_
      rintro e w' ⟨rfl, rfl⟩
      go_wp2_with fail
      refine (CP2.out _).mono ?_
      rintro e w' ⟨rfl, rfl⟩
      go_wp2_with fail
      refine (CT.out _).mono ?_
      rintro e w' ⟨rfl, rfl⟩
      go_wp2_with fail
      go_round
      case rel => exact ⟨j + 1, t + 1, by omega, by have := HT.out; omega, by go_num, by rw [e1.out], by rw [e2.out]⟩
      case measure => simp [intOf]; omega
    · obtain rfl : j = P := by omega
      have e4 : ¬ (t : Int) < n := by omega
      clear sb1 sb2
      go_wp2_with fail
      go_ret2
      exact ⟨rfl, HB.out⟩
end Go.Proofs.YtcjdbhcpcigmdaaDoor
