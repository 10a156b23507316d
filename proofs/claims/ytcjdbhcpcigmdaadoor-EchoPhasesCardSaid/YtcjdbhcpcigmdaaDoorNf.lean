import Derived.Test.YtcjdbhcpcigmdaaDoorNe
namespace Go.Proofs.YtcjdbhcpcigmdaaDoor
open Go.RowKit Go.Proofs.YtcjdbhcpcigmdaaDoor.Flt

/-- a list under way: the first k numbers of L lie in a row of its own -/
structure Build (L : List Int) (w : World) (k : Nat) (v : Value) (wr : World) : Prop where
  hb : Below w.heap.size w wr
  ho : wr.ownsRow w.heap.size 3 1 v k (ivals (L.take k))

theorem Build.start (L : List Int) (w : World) : Build L w 0 (.slice none 0 0) w := ⟨Below.refl _ _, World.ownsRow_nil _ _ _ _⟩

theorem Build.next {L : List Int} {w wz w' : World} {k : Nat} {v v' : Value} {x : Int} (h : Build L w k v wz) (hk : k < L.length) (hx : L.getD k 0 = x)
    (hown : w'.ownsRow w.heap.size 3 1 v' (k + 1) (ivals (L.take k) ++ [.int .i64 x])) (hgrow : (wz.alloc (.cells #[.int .i64 x] 3)).grownBy w' v.ownBlock) :
    Build L w (k + 1) v' w' := by
  refine ⟨?_, ?_⟩
  · exact (h.hb.alloc h.hb.size _).grown hgrow (by have := h.hb.size; simp; omega) (fun i e => (h.ho.lt i e).1)
  · have e : ivals (L.take (k + 1)) = ivals (L.take k) ++ [.int .i64 x] := by
      rw [List.take_succ_eq_append_getElem hk]
      rw [List.getD_eq_getElem?_getD, List.getElem?_eq_getElem hk, Option.getD_some] at hx
      rw [hx]; simp [ivals]
    rw [e]; exact hown

set_option maxRecDepth 100000 in
set_option maxHeartbeats 1000000 in
/-- THE REFERENCE's SUMS -/
theorem Sums_any (va : Value) (xs : List Int) (u : Nat) (w : World) (ha : Sl w va (ivals xs)) (h2 : xs.length ≤ 128) (hx : xs.any offP = false) (hu : u < 998244353) :
    Calls Tryd.prog 98 #[va, .int .i64 u] w (CopyOk (trList xs u 1) w) := by
  have HA := Lib.hid ha
  obtain ⟨aa, ac, rfl, hla, -⟩ := ha
  obtain ⟨n, hn⟩ : ∃ n, n = xs.length := ⟨_, rfl⟩
  have ex : (ivals xs).length = n := by simp [ivals, hn]
  rw [ex] at hla HA ⊢
  rw [← hn] at h2
  have HN := Lib.hid hn
  have HO := Lib.hid hx
  obtain ⟨i0, hi, hz0, hz1, hz2⟩ := info_parts Tryd.infoInt
  have HI := Lib.hid (And.intro hi (And.intro hz0 (And.intro hz1 hz2)))
  have HL : Hid ((trList xs u 1).length = n) := by unfold Hid; rw [trList_length, hn]
  obtain ⟨L, hL⟩ : ∃ L, L = trList xs u 1 := ⟨_, rfl⟩
  have HG : Hid (∀ k, k < n → L.getD k 0 = (trS xs (stepOf u k) n).1) := by
    intro k hk
    rw [hL, trList_get _ _ _ _ (by omega), trAt_one, ← hn]
  rw [← hL] at HL ⊢
  have CP := Lib.hid (fun k (hk : k < 2 ^ 31) w => Power_any u k hu hk w)
  clear ex hx hn hi hz0 hz1 hz2 hL
  go_enter Tryd.func98, Tryd.ntmps98
  go_wp2_with fail
  go_loopw [5, 6] (fun vv i wr => ∃ (k : Nat) (v : Value), k ≤ n ∧ i = .int .i64 k ∧ v = vv ∧ Hid (Build L w k v wr)) (fun _ i _ => n - (intOf i).toNat)
  case atStart => exact ⟨0, _, Nat.zero_le _, rfl, rfl, Build.start _ _⟩
  case round =>
    obtain ⟨k, v0, hk, rfl, rfl, IK⟩ := hrel
    obtain ⟨wr0, rfl⟩ : ∃ wr0 : World, wr0 = wr := ⟨_, rfl⟩
    by_cases hlt : k < n
    · have C1 := Lib.hid (CP.out k (by omega))
      rw [stepOf_pm u k (by omega)] at C1
      obtain ⟨b1, b2⟩ := stepOf_b u k
      have HGk := Lib.hid (HG.out k hlt)
      generalize stepOf u k = st at *
      go_wp2_with fail
      refine (C1.out _).mono ?_
      rintro e w' ⟨rfl, rfl⟩
      go_wp2_with fail
      go_loop [7, 9, 10] (fun sv tv i => ∃ j : Nat, j ≤ n ∧ i = .int .i64 j ∧ sv = .int .i64 (trS xs st j).1 ∧ tv = .int .i64 (trS xs st j).2) (fun _ _ i => n - (intOf i).toNat)
      case atStart => exact ⟨0, Nat.zero_le _, rfl, rfl, rfl⟩
      case round =>
        obtain ⟨j, hj, rfl, rfl, rfl⟩ := hrel
        obtain ⟨s0, s1, t0, t1⟩ := trS_b xs st j
        by_cases hlj : j < n
        · obtain ⟨-, bb, o1, rfl, q1, hcl⟩ := HA.out.at (by omega)
          have d1 : wr0.cell? ⟨bb, o1 + j, none⟩ = some (.int .i64 (xs.getD j 0)) := (IK.out.hb.cell (p := ⟨bb, o1 + j, none⟩) q1).trans (hcl j _ (ivals_get (by have := HN.out; omega)))
          obtain ⟨x0, x1⟩ := getD_off HO.out j
          obtain ⟨p1, p2⟩ := prodI_b x0 x1 t0 t1
          obtain ⟨p3, p4⟩ := prodI_b t0 t1 b1 b2
          have HV : Hid ((trS xs st (j + 1)).1 = ((trS xs st j).1 + xs.getD j 0 * (trS xs st j).2) % 998244353 ∧ (trS xs st (j + 1)).2 = (trS xs st j).2 * st % 998244353) := ⟨rfl, rfl⟩
          generalize (trS xs st j).1 = S at *
          generalize (trS xs st j).2 = T at *
          generalize xs.getD j 0 = X at *
          clear hcl q1 HA
          go_wp2_with fail
          go_round
          case rel => exact ⟨j + 1, by omega, by go_num, by rw [HV.out.1], by rw [HV.out.2]⟩
          case measure => simp [intOf]; omega
        · obtain rfl : j = n := by omega
          generalize (trS xs st j).1 = S at *
          generalize (trS xs st j).2 = T at *
          go_wp2_with (at_builtin; refine wpList_append_own _ (by rfl) (.tmp 39) (.tmp 41) 73 (by rfl) w.heap.size 3 i0 (.int .i64 0) 1 8 Tryd.underlying73 HI.out.1 HI.out.2.1 HI.out.2.2.1 HI.out.2.2.2 rfl (by decide) v0 k (ivals (L.take k)) (by rfl) (IK.out.ho.alloc _) ⟨wr0.heap.size, 0, none⟩ 1 1 [.int .i64 S] (by rfl) rfl (cell1_new _ _ _) (by intro u hu; simp at hu; rw [hu]; rfl) (by unfold maxLen; omega) (by omega) (by have := IK.out.hb.size; simp; omega) ?_)
          intro v' w' hown hgrow _
          have HB : Hid (Build L w (k + 1) v' w') := IK.out.next (by have := HL.out; omega) HGk.out hown hgrow
          clear hown hgrow
          go_wp2_with fail
          go_roundw
          case rel => exact ⟨k + 1, _, by omega, by go_num, rfl, HB⟩
          case measure => simp [intOf]; omega
    · obtain rfl : k = n := by omega
      have HB := Lib.hid IK.out.hb
      have HO2 : Hid (wr0.ownsRow w.heap.size 3 1 v0 L.length (ivals L)) := by
        have := IK.out.ho
        rw [List.take_of_length_le (by have := HL.out; omega)] at this
        unfold Hid
        rw [HL.out]
        exact this
      clear IK
      go_wp2_with fail
      go_ret
      exact ⟨_, rfl, HB.out, HO2.out⟩
end Go.Proofs.YtcjdbhcpcigmdaaDoor
