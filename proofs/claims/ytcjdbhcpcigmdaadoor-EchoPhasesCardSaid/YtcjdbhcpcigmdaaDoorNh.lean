import Derived.Test.YtcjdbhcpcigmdaaDoorNg
namespace Go.Proofs.YtcjdbhcpcigmdaaDoor
open Go.RowKit Go.Proofs.YtcjdbhcpcigmdaaDoor.Flt

set_option maxRecDepth 100000 in
set_option maxHeartbeats 1000000 in
/-- THE REFERENCE's CORRELATION -/
theorem refCorrelate_any (va vb : Value) (xs ys : List Int) (w : World) (ha : Sl w va (ivals xs)) (hb : Sl w vb (ivals ys)) (ea : listErr xs = 0) (eb : listErr ys = 0) (hl : xs.length = ys.length) :
    Calls Tryd.prog 52 #[va, vb] w (CopyOk (corList xs ys) w) := by
  obtain ⟨n1, n2, n3⟩ := listErr_ok ea
  obtain ⟨-, -, m3⟩ := listErr_ok eb
  have HA := Lib.hid ha
  have HB := Lib.hid hb
  obtain ⟨aa, ac, rfl, hla, -⟩ := ha
  obtain ⟨ba, bc, rfl, hlb, -⟩ := hb
  obtain ⟨n, hn⟩ : ∃ n, n = xs.length := ⟨_, rfl⟩
  have ex : (ivals xs).length = n := by simp [ivals, hn]
  have ey : (ivals ys).length = n := by simp [ivals, hn, hl]
  rw [ex] at hla HA ⊢
  rw [ey] at hlb HB ⊢
  rw [← hn] at n1 n2
  have HN := Lib.hid (And.intro hn (hn.trans hl))
  have HO := Lib.hid (And.intro n3 m3)
  obtain ⟨i0, hi, hz0, hz1, hz2⟩ := info_parts Tryd.infoInt
  have HI := Lib.hid (And.intro hi (And.intro hz0 (And.intro hz1 hz2)))
  obtain ⟨L, hL⟩ : ∃ L, L = corList xs ys := ⟨_, rfl⟩
  have HL : Hid (L.length = n) := by unfold Hid; rw [hL, corList_length, hn]
  have HG : Hid (∀ k, k < n → L.getD k 0 = corTo xs ys k n) := by
    intro k hk
    rw [hL, corList_get _ _ _ (by omega), ← hn]
  rw [← hL]
  clear ea eb hl ex ey n3 m3 hn hi hz0 hz1 hz2 hL
  go_enter Tryd.func52, Tryd.ntmps52
  go_wp2_with fail
  go_loopw [5, 6] (fun vv i wr => ∃ (s : Nat) (v : Value), s ≤ n ∧ i = .int .i64 s ∧ v = vv ∧ Hid (Build L w s v wr)) (fun _ i _ => n - (intOf i).toNat)
  case atStart => exact ⟨0, _, Nat.zero_le _, rfl, rfl, Build.start _ _⟩
  case round =>
    obtain ⟨s, v0, hs, rfl, rfl, IS⟩ := hrel
    obtain ⟨wo, rfl⟩ : ∃ wo : World, wo = wr := ⟨_, rfl⟩
    by_cases hlt : s < n
    · have HGs := Lib.hid (HG.out s hlt)
      go_wp2_with fail
      go_loopw [7, 8] (fun sv i wr => ∃ k : Nat, k ≤ n ∧ i = .int .i64 k ∧ sv = .int .i64 (corTo xs ys s k) ∧ Hid (Build L w s v0 wr)) (fun _ i _ => n - (intOf i).toNat)
      case atStart => exact ⟨0, Nat.zero_le _, rfl, rfl, IS⟩
      case round =>
        obtain ⟨k, hk, rfl, rfl, IK⟩ := hrel
        obtain ⟨wz, rfl⟩ : ∃ wz : World, wz = wr := ⟨_, rfl⟩
        clear IS
        obtain ⟨z0, z1⟩ := corTo_b xs ys s k
        by_cases hlk : k < n
        · obtain ⟨t, ht⟩ : ∃ t, t = (s + k) % n := ⟨_, rfl⟩
          have ht' : t < n := by rw [ht]; exact Nat.mod_lt _ (by omega)
          obtain ⟨-, b1, o1, rfl, q1, h1⟩ := HA.out.at (by omega)
          obtain ⟨-, b2, o2, rfl, q2, h2⟩ := HB.out.at (by omega)
          have d1 : wz.cell? ⟨b1, o1 + t, none⟩ = some (.int .i64 (xs.getD t 0)) := (IK.out.hb.cell (p := ⟨b1, o1 + t, none⟩) q1).trans (h1 t _ (ivals_get (by have := HN.out.1; omega)))
          have d2 : wz.cell? ⟨b2, o2 + k, none⟩ = some (.int .i64 (ys.getD k 0)) := (IK.out.hb.cell (p := ⟨b2, o2 + k, none⟩) q2).trans (h2 k _ (ivals_get (by have := HN.out.2; omega)))
          obtain ⟨x0, x1⟩ := getD_off HO.out.1 t
          obtain ⟨y0, y1⟩ := getD_off HO.out.2 k
          have HV : Hid (corTo xs ys s (k + 1) = (corTo xs ys s k + xs.getD t 0 * ys.getD k 0) % 998244353) := by
            unfold Hid; rw [corTo, ← HN.out.1, ← ht]
          obtain ⟨m1, m2⟩ := prodI_b x0 x1 y0 y1
          generalize xs.getD t 0 = X at *
          generalize ys.getD k 0 = Y at *
          generalize corTo xs ys s k = Z at *
          have e1 : IntKind.i64.wrap (X * Y) = X * Y := IntWalk.i64_in _ ⟨by omega, by omega⟩
          have e2 : ((s : Int) + k) % n = t := by rw [ht, Int.natCast_emod, Int.natCast_add]
          have e3 : (t : Int) < n := by omega
          have HV2 : Hid ((wrap64 (Z + wrap64 (X * Y))).tmod 998244353 = corTo xs ys s (k + 1)) := by
            unfold Hid
            rw [IntWalk.wrap64_in (X * Y) ⟨by omega, by omega⟩, IntWalk.wrap64_in _ ⟨by omega, by omega⟩, Int.tmod_eq_emod_of_nonneg (by omega)]
            exact HV.out.symm
          have q3 : b1 < wz.heap.size := Nat.lt_of_lt_of_le q1 IK.out.hb.size
          clear ht h1 h2 x0 x1 y0 y1 q1 q2 m1 m2 e1 HV
          go_wp2_with fail
          go_quiet (fail)
          go_wp2_with fail
          rw [HV2.out]
          go_roundw
          case rel => exact ⟨k + 1, by omega, by go_num, rfl, IK.out.hb.trans (below_drewN' _ _ _), IK.out.ho⟩
          case measure => simp [intOf]; omega
        · obtain rfl : k = n := by omega
          generalize corTo xs ys s k = Z at *
          go_wp2_with (at_builtin; refine wpList_append_own _ (by rfl) (.tmp 38) (.tmp 40) 73 (by rfl) w.heap.size 3 i0 (.int .i64 0) 1 8 Tryd.underlying73 HI.out.1 HI.out.2.1 HI.out.2.2.1 HI.out.2.2.2 rfl (by decide) v0 s (ivals (L.take s)) (by rfl) (IK.out.ho.alloc _) ⟨wz.heap.size, 0, none⟩ 1 1 [.int .i64 Z] (by rfl) rfl (cell1_new _ _ _) (by intro u hu; simp at hu; rw [hu]; rfl) (by unfold maxLen; omega) (by omega) (by have := IK.out.hb.size; simp; omega) ?_)
          intro v' w' hown hgrow _
          have HB : Hid (Build L w (s + 1) v' w') := IK.out.next (by have := HL.out; omega) HGs.out hown hgrow
          clear hown hgrow
          go_wp2_with fail
          go_roundw
          case rel => exact ⟨s + 1, _, by omega, by go_num, rfl, HB⟩
          case measure => simp [intOf]; omega
    · obtain rfl : s = n := by omega
      have HB := Lib.hid IS.out.hb
      have HO2 : Hid (wo.ownsRow w.heap.size 3 1 v0 L.length (ivals L)) := by
        have := IS.out.ho
        rw [List.take_of_length_le (by have := HL.out; omega)] at this
        unfold Hid
        rw [HL.out]
        exact this
      clear IS
      go_wp2_with fail
      go_ret
      exact ⟨_, rfl, HB.out, HO2.out⟩
end Go.Proofs.YtcjdbhcpcigmdaaDoor
