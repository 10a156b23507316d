import Derived.Test.YtodpjhhogcfodaaZa
import Derived.Test.YtodpjhhogcfodaaSs
import Derived.Test.YtodpjhhogcfodaaVg
import Derived.Deep.RegionHeld3
import Derived.BigQuiet
import Derived.Outline
namespace Go.Proofs.Ytodpjhhogcfodaa.Orb
open Go.RowKit Lib

/-- the speed of an arc -/
def spN (A B : St) (i : Nat) : Int := (cOf B i - cOf A i).tdiv (gI (cOf B i - cOf A i) (B.t - A.t))
def spD (A B : St) (i : Nat) : Int := (B.t - A.t).tdiv (gI (cOf B i - cOf A i) (B.t - A.t))
/-- the error of an orbit and an arc -/
def asE (ne bend : Int) (L : List St) (arc : Int) : Int := firstE [(orbE ne bend L).2, arcE L.length arc]
theorem asE_zero {ne bend : Int} {L : List St} {arc : Int} (h : asE ne bend L arc = 0) : (orbE ne bend L).2 = 0 ∧ Rt bend L ∧ 0 ≤ arc ∧ arc + 1 < L.length := by
  unfold asE at h
  rw [firstE_zero_iff] at h
  have h1 := h _ (List.mem_cons_self ..)
  have h2 := h (arcE L.length arc) (by simp)
  unfold arcE at h2
  by_cases hc : 0 ≤ arc ∧ arc + 1 < L.length
  · exact ⟨h1, (Rt.of h1).2, hc.1, hc.2⟩
  · rw [if_neg hc] at h2; cases h2
theorem Sts.ticks2 {W : World} {b o k : Nat} {L : List St} (h : Sts W b o L) (hk : k + 1 < L.length) : W.cell? ⟨b, o + k * 5, none⟩ = some (.int .i64 (gt L k).t) ∧ W.cell? ⟨b, o + (k + 1) * 5, none⟩ = some (.int .i64 (gt L (k + 1)).t) := ⟨(h k (by omega)).1, (h (k + 1) hk).1⟩
theorem rt_tick {bend : Int} {L : List St} (h : Rt bend L) (k : Nat) (hk : k + 1 < L.length) : 0 < (gt L (k + 1)).t - (gt L k).t ∧ (gt L (k + 1)).t - (gt L k).t ≤ 20000 := by
  have h1 := h.mono 1 k hk
  have h2 := h.arc (k + 1) hk
  have h3 := h.le 0 k (Nat.zero_le _) (by omega)
  have e : fst L = (gt L 0).t := rfl
  constructor
  · omega
  · omega

set_option maxRecDepth 100000 in
set_option maxHeartbeats 8000000 in
/-- THE PROGRAM'S SPEED -/
theorem SpeedOf_any (v : Value) (nm : ByteArray) (hs : nm.size ≤ 1000) (bend : Int) (L : List St) (hn : L.length ≤ 1000) (hI : ∀ k, (gt L k).t ≤ 9223372036854775807) (arc : Int) (w : World) (hv : OV w v nm bend L) :
    Calls Try.prog 34 #[v, .int .i64 arc] w fun e w' => e = .returned (.tuple #[.agg #[.int .i64 (zif (asE (nameE nm) bend L arc) (spN (gt L arc.toNat) (gt L (arc.toNat + 1)) 0)), .int .i64 (zif (asE (nameE nm) bend L arc) (spD (gt L arc.toNat) (gt L (arc.toNat + 1)) 0)), .int .i64 (zif (asE (nameE nm) bend L arc) (spN (gt L arc.toNat) (gt L (arc.toNat + 1)) 1)), .int .i64 (zif (asE (nameE nm) bend L arc) (spD (gt L arc.toNat) (gt L (arc.toNat + 1)) 1)), .int .i64 (zif (asE (nameE nm) bend L arc) (spN (gt L arc.toNat) (gt L (arc.toNat + 1)) 2)), .int .i64 (zif (asE (nameE nm) bend L arc) (spD (gt L arc.toNat) (gt L (arc.toNat + 1)) 2))], .int .i64 (asE (nameE nm) bend L arc)]) ∧ Below w.heap.size w w' := by
  have CC := Lib.hid (fun W (h : Below w.heap.size w W) => check_any v nm hs bend L hI W (hv.next h))
  have CT := Lib.hid (fun W (h : Below w.heap.size w W) => arcError_any v nm bend L hn arc W (hv.next h))
  have CF := Lib.hid (fun W => firstError2 (orbE (nameE nm) bend L).2 (arcE L.length arc) W)
  obtain ⟨sp, cap, rfl, -, -, hS⟩ := hv.form
  have HOK := Lib.hid (show asE (nameE nm) bend L arc = 0 → ∃ (k b o : Nat), arc = k ∧ k + 1 < L.length ∧ sp = some ⟨b, o, none⟩ ∧ Sts w b o L ∧ StOk (gt L k) ∧ StOk (gt L (k + 1)) ∧ 0 < (gt L (k + 1)).t - (gt L k).t ∧ (gt L (k + 1)).t - (gt L k).t ≤ 20000 by
    intro h0
    obtain ⟨-, hR, a0, a1⟩ := asE_zero h0
    obtain ⟨b, o, e, hT⟩ := hS (by have := hR.n0; omega)
    have := rt_tick hR arc.toNat (by omega)
    exact ⟨arc.toNat, b, o, by omega, by omega, e, hT, hR.st _ (by omega), hR.st _ (by omega), this.1, this.2⟩)
  have hR : firstE [(orbE (nameE nm) bend L).2, arcE L.length arc] = asE (nameE nm) bend L arc := rfl
  rw [hR] at CF
  have HN := Lib.hid hn
  clear hv hR hs hn hI hS
  generalize asE (nameE nm) bend L arc = E at *
  generalize (orbE (nameE nm) bend L).2 = e1 at *
  generalize arcE L.length arc = e2 at *
  obtain ⟨P, hP⟩ : ∃ P : Nat → Int, P = spN (gt L arc.toNat) (gt L (arc.toNat + 1)) := ⟨_, rfl⟩
  obtain ⟨Q, hQ⟩ : ∃ Q : Nat → Int, Q = spD (gt L arc.toNat) (gt L (arc.toNat + 1)) := ⟨_, rfl⟩
  rw [← hP, ← hQ]
  have HP := Lib.hid (And.intro hP hQ)
  clear hP hQ
  obtain ⟨n, hnn⟩ : ∃ n, n = L.length := ⟨_, rfl⟩
  rw [← hnn] at CC CT ⊢
  have HNN := Lib.hid hnn
  clear hnn
  have hw : (E = 0 ∧ Hid (∀ x, zif E x = x)) ∨ ((E != 0) = true ∧ Hid (∀ x, zif E x = 0)) := by
    by_cases h : E = 0
    · exact .inl ⟨h, fun x => if_pos h⟩
    · exact .inr ⟨by rw [bne_iff_ne]; exact h, fun x => if_neg h⟩
  rcases hw with ⟨rfl, HZ⟩ | ⟨hne, HZ⟩
  all_goals
    simp only [HZ.out]
    go_enter Try.func34, Try.ntmps34
    go_upto_region 2 with fail
    obtain ⟨W0, hW0⟩ : ∃ W0, W0 = ((w.alloc (.cells #[.string nm, .int .i64 bend, .slice sp n cap] 24)).alloc (.cells #[.int .i64 0, .int .i64 0, .int .i64 0, .int .i64 0, .int .i64 0, .int .i64 0] 57)).alloc (.cells #[.string nm, .int .i64 bend, .slice sp n cap] 115) := ⟨_, rfl⟩
    rw [← hW0]
    have HB0 := Lib.hid (show Below w.heap.size w W0 by rw [hW0]; (repeat (first | with_reducible exact Below.refl _ _ | with_reducible refine alloc1 ?_ _ | with_reducible refine Below.drew ?_ | with_reducible refine drewN1 ?_ _ | with_reducible refine setC ?_ (by omega) _)))
    have HP0 := Lib.hid (show W0.heap[w.heap.size + 1 + 1]? = some (.cells #[.string nm, .int .i64 bend, .slice sp n cap] 115 (0, 0)) by rw [hW0]; (repeat (first | ((with_reducible refine hnew ?_); (simp; done)) | with_reducible refine hdrew ?_ | with_reducible refine hold ?_)))
    have HQ0 := Lib.hid (show W0.heap[w.heap.size + 1]? = some (.cells #[.int .i64 0, .int .i64 0, .int .i64 0, .int .i64 0, .int .i64 0, .int .i64 0] 57 (0, 0)) by rw [hW0]; (repeat (first | ((with_reducible refine hnew ?_); (simp; done)) | with_reducible refine hdrew ?_ | with_reducible refine hold ?_)))
    clear hW0
    obtain ⟨k0, k1, k2⟩ := cells3 HP0.out
    go_region_held3 (fun W => W.cell? ⟨w.heap.size + 1 + 1, 0, none⟩ = some (.string nm) ∧ W.cell? ⟨w.heap.size + 1 + 1, 1, none⟩ = some (.int .i64 bend) ∧ W.cell? ⟨w.heap.size + 1 + 1, 2, none⟩ = some (.slice sp n cap)) (with_reducible refine ⟨keepc ?_ k0, keepc ?_ k1, keepc ?_ k2⟩ <;> (repeat (first | with_reducible exact Below.refl _ _ | with_reducible refine andThen ?_ hbT | with_reducible refine andThen ?_ hbC | with_reducible refine alloc1 ?_ _ | with_reducible refine Below.drew ?_ | with_reducible refine drewN1 ?_ _ | with_reducible refine setC ?_ (by omega) _)) <;> done)
      (first
        | (go_at_call 67; (with_reducible refine (CC.out _ (trans' HB0.out (by (repeat (first | with_reducible exact Below.refl _ _ | with_reducible refine andThen ?_ hbT | with_reducible refine alloc1 ?_ _ | with_reducible refine Below.drew ?_ | with_reducible refine drewN1 ?_ _ | with_reducible refine setC ?_ (by omega) _))))).mono ?_); rintro e wC ⟨rfl, hbC⟩)
        | (go_at_call 93; (with_reducible refine (CT.out _ (trans' HB0.out (by (repeat (first | with_reducible exact Below.refl _ _ | with_reducible refine andThen ?_ hbC | with_reducible refine alloc1 ?_ _ | with_reducible refine Below.drew ?_ | with_reducible refine drewN1 ?_ _ | with_reducible refine setC ?_ (by omega) _))))).mono ?_); rintro e wT ⟨rfl, hbT⟩)
        | (go_at_call 66; (with_reducible refine (CF.out _).mono ?_); rintro e w1 ⟨rfl, rfl⟩))
    all_goals
      obtain ⟨W5, hW5⟩ : ∃ W5, W5 = wT.alloc (.cells #[.int .i64 e1, .int .i64 e2] 30) := ⟨_, rfl⟩
      rw [← hW5]
      have hb5 : Below W0.heap.size W0 W5 := by rw [hW5]; (repeat (first | with_reducible exact Below.refl _ _ | with_reducible refine andThen ?_ hbT | with_reducible refine andThen ?_ hbC | with_reducible refine alloc1 ?_ _ | with_reducible refine Below.drew ?_ | with_reducible refine drewN1 ?_ _ | with_reducible refine setC ?_ (by omega) _))
      have HB5 := Lib.hid (trans' HB0.out hb5)
      have HP5 := Lib.hid (keepb hb5 HP0.out)
      have HQ5 := Lib.hid (keepb hb5 HQ0.out)
      clear hW5 hb5 k0 k1 k2 hbT hbC HB0 HP0 HQ0 CC CT CF
  · all_goals
      obtain ⟨k, b, o, ha, hk, he, hT, hA, hB, ht0, ht1⟩ := HOK.out trivial
      subst ha
      subst he
      have hn := HN.out
      have hn2 := HNN.out
      have TT := hT.two hk
      have T2 := hT.ticks2 hk
      have hpq := HP.out
      simp only [Int.toNat_natCast] at hpq
      obtain ⟨hp, hq⟩ := hpq
      rw [← hn2] at hk hn
      clear hT HOK HNN HN hn2 HP
      have SA := Lib.hid (fun i => cOf_bd hA i)
      have SB := Lib.hid (fun i => cOf_bd hB i)
      have a1' := hA.t0
      have a2' := hA.t1
      generalize gt L k = A at *
      generalize gt L (k + 1) = B at *
      obtain ⟨⟨a1, a2, a3⟩, c1, c2, c3⟩ := TT
      obtain ⟨a0, c0⟩ := T2
      have hx : cOf A 0 = A.x ∧ cOf A 1 = A.y ∧ cOf A 2 = A.z ∧ cOf B 0 = B.x ∧ cOf B 1 = B.y ∧ cOf B 2 = B.z := ⟨rfl, rfl, rfl, rfl, rfl, rfl⟩
      have b0 := SA.out 0; have b1 := SA.out 1; have b2 := SA.out 2; have b3 := SB.out 0; have b4 := SB.out 1; have b5 := SB.out 2
      obtain ⟨x0, x1, x2, x3, x4, x5⟩ := hx
      rw [x0] at b0; rw [x1] at b1; rw [x2] at b2; rw [x3] at b3; rw [x4] at b4; rw [x5] at b5
      have CW : Hid (∀ W, Below w.heap.size w W → Calls Try.prog 95 #[.agg #[.string nm, .int .i64 bend, .slice (some ⟨b, o, none⟩) n cap], .int .i64 k] W fun e w' => e = .returned (.agg #[.int .i64 (B.x - A.x), .int .i64 (B.y - A.y), .int .i64 (B.z - A.z)]) ∧ Below W.heap.size W w') := fun W h =>
        (wayOf_exact b o nm bend cap n k hk hn A.x A.y A.z B.x B.y B.z (by omega) (by omega) (by omega) (by omega) (by omega) (by omega) W (keepc h a1) (keepc h a2) (keepc h a3) (keepc h c1) (keepc h c2) (keepc h c3)).mono fun e w' ⟨h1, h2⟩ => ⟨h1, by rw [← h2]; (repeat (first | with_reducible exact Below.refl _ _ | with_reducible refine alloc1 ?_ _ | with_reducible refine Below.drew ?_ | with_reducible refine drewN1 ?_ _ | with_reducible refine setC ?_ (by omega) _))⟩
      have CO := Lib.hid (fun W => coordinates_any (B.x - A.x) (B.y - A.y) (B.z - A.z) W)
      obtain ⟨D, hD⟩ : ∃ D : Nat → Int, D = cc3 (B.x - A.x) (B.y - A.y) (B.z - A.z) := ⟨_, rfl⟩
      have HAR : Hid (∀ j : Nat, j < 3 → ∀ W, (Instr.index 82 (.agg #[.int .i64 (B.x - A.x), .int .i64 (B.y - A.y), .int .i64 (B.z - A.z)]) (.int .i64 (j : Int))).run Try.prog W = .ok (.int .i64 (D j)) W) := fun j hj => by rw [hD]; exact arr_read _ _ _ j hj
      have HDD : Hid (∀ j, j < 3 → D j = cOf B j - cOf A j) := by
        intro j hj
        rw [hD]
        match j, hj with
        | 0, _ => rfl
        | 1, _ => rfl
        | 2, _ => rfl
      have CLO : Hid (∀ j, j < 3 → ∀ W, Calls Try.prog 96 #[.int .i64 (D j), .int .i64 (B.t - A.t)] W fun e w' => e = .returned (.agg #[.int .i64 (P j), .int .i64 (Q j)]) ∧ Below W.heap.size W w') := fun j hj W => by
        have s1 := SA.out j
        have s2 := SB.out j
        have h := lowest_any (D j) (B.t - A.t) (by rw [HDD.out j hj]; omega) (by rw [HDD.out j hj]; omega) (by omega) (by omega) W
        rw [HDD.out j hj] at h ⊢
        rw [hp, hq]
        exact h
      have hwt : IntKind.i64.wrap (B.t - A.t) = B.t - A.t := IntWalk.i64_in _ (by omega)
      have a0 := keepc HB5.out a0
      have c0 := keepc HB5.out c0
      have i0 : (0 : Int) ≤ (k : Int) := by omega
      have i1 : (k : Int) < (n : Int) := by omega
      have i2 : IntKind.i64.wrap ((k : Int) + 1) = (k : Int) + 1 := IntWalk.i64_in _ (by omega)
      have i3 : ((k : Int) + 1).toNat = k + 1 := by omega
      have i4 : (0 : Int) ≤ (k : Int) + 1 := by omega
      have i5 : (k : Int) + 1 < (n : Int) := by omega
      clear a1 a2 a3 c1 c2 c3 b0 b1 b2 b3 b4 b5 x0 x1 x2 x3 x4 x5 hp hq hD hA hB SA SB HDD a1' a2' ht0 ht1
      generalize B.x - A.x = dx at *
      generalize B.y - A.y = dy at *
      generalize B.z - A.z = dz at *
      obtain ⟨k0, k1, k2⟩ := cells3 HP5.out
      go_upto_region 5 with fail
      go_quiet (fail)
      obtain ⟨w6, hw6⟩ : ∃ w6, w6 = W5.drewN nq := ⟨_, rfl⟩
      have hb6 : Below W5.heap.size W5 w6 := by rw [hw6]; (repeat (first | with_reducible exact Below.refl _ _ | with_reducible refine alloc1 ?_ _ | with_reducible refine Below.drew ?_ | with_reducible refine drewN1 ?_ _ | with_reducible refine setC ?_ (by omega) _))
      rw [← hw6]
      have HB6 := Lib.hid (trans' HB5.out hb6)
      have HP6 := Lib.hid (keepb hb6 HP5.out)
      have HQ6 := Lib.hid (keepb hb6 HQ5.out)
      clear hw6 hb6 k0 k1 k2 HB5 HP5 HQ5 a0 c0 i1 i2 i3 i4 i5
      have HQ6o := Lib.hid HQ6.out
      go_upto_region 7 with fail
      obtain ⟨w7, hW⟩ : ∃ w7, w7 = w6.alloc (.cells #[.int .i64 0, .int .i64 0, .int .i64 0, .int .i64 0, .int .i64 0, .int .i64 0] 57) := ⟨_, rfl⟩
      rw [← hW]
      have hb := new_below w6 (.cells #[.int .i64 0, .int .i64 0, .int .i64 0, .int .i64 0, .int .i64 0, .int .i64 0] 57)
      rw [← hW] at hb
      have HV7 := Lib.hid (show w7.heap[w6.heap.size]? = some (.cells #[.int .i64 0, .int .i64 0, .int .i64 0, .int .i64 0, .int .i64 0, .int .i64 0] 57 (0, 0)) by rw [hW]; exact heap_alloc_new _ _)
      have HB7 := Lib.hid (trans' HB6.out hb)
      have HP7 := Lib.hid (keepb hb HP6.out)
      have HQ7 := Lib.hid (keepb hb HQ6.out)
      clear hW hb HB6 HP6 HQ6
      obtain ⟨k0, k1, k2⟩ := cells3 HP7.out
      go_wp2_with fail
      refine (CW.out _ HB7.out).mono ?_
      rintro e w8 ⟨rfl, hb⟩
      have HB8 := Lib.hid (trans' HB7.out hb)
      have HQ8 := Lib.hid (keepb hb HQ7.out)
      have HV8 := Lib.hid (keepb hb HV7.out)
      clear hb HB7 HQ7 HV7
      clear k0 k1 k2 CW HP7
      go_wp2_with fail
      refine (CO.out _).mono ?_
      rintro e w9 ⟨rfl, hb⟩
      have HB9 := Lib.hid (trans' HB8.out hb)
      have HQ9 := Lib.hid (keepb hb HQ8.out)
      have HV9 := Lib.hid (keepb hb HV8.out)
      clear hb HB8 HQ8 HV8
      go_wp2_with fail
      go_loopw [45] (fun i wr => ∃ j : Nat, j ≤ 3 ∧ i = .int .i64 j ∧ Hid (Below w.heap.size w wr) ∧ Hid (wr.heap[w.heap.size + 1]? = some (.cells #[.int .i64 0, .int .i64 0, .int .i64 0, .int .i64 0, .int .i64 0, .int .i64 0] 57 (0, 0))) ∧ Hid (wr.heap[w6.heap.size]? = some (.cells (boxCells P Q j) 57 (0, 0)))) (fun i _ => 3 - (intV i).toNat)
      case atStart => exact ⟨0, Nat.zero_le _, rfl, HB9, HQ9, HV9⟩
      case round =>
        obtain ⟨j, hj, rfl, HBZ, HQZ, HVZ⟩ := hrel
        obtain ⟨wz, rfl⟩ : ∃ wz : World, wz = wr := ⟨_, rfl⟩
        clear HB9 HQ9 HV9
        by_cases hlt : j < 3
        · have har := HAR.out j hlt
          have CL := Lib.hid (CLO.out j hlt)
          have j0 : (0 : Int) ≤ (j : Int) := by omega
          have j1 : (j : Int) < 3 := by omega
          clear HAR CLO
          generalize D j = dj at *
          go_wp2_with fail
          refine (CL.out _).mono ?_
          rintro e w2 ⟨rfl, hb⟩
          have HB2 := Lib.hid (trans' HBZ.out hb)
          have HQ2 := Lib.hid (keepb hb HQZ.out)
          have HV2 := Lib.hid (keepb hb HVZ.out)
          have hlv := lt_of_block HQ6o.out
          clear hb
          obtain ⟨v0, v1, v2, v3⟩ := box_cell hlt HV2.out
          go_wp2_with fail
          go_roundw
          case rel => exact ⟨j + 1, by omega, by go_num, Lib.hid (setC (setC HB2.out (by omega) _) (by omega) _), Lib.hid (heap_ne (by omega) (heap_ne (by omega) HQ2.out)), Lib.hid (box_step hlt HV2.out)⟩
          case measure => simp [intV]; omega
        · have e : j = 3 := by omega
          subst e
          have HYE := Lib.hid (show wz.heap[w6.heap.size]? = some (.cells #[.int .i64 (P 0), .int .i64 (Q 0), .int .i64 (P 1), .int .i64 (Q 1), .int .i64 (P 2), .int .i64 (Q 2)] 57 (0, 0)) from HVZ.out)
          obtain ⟨y0, y1, y2, y3, y4, y5⟩ := cells6 HYE.out
          obtain ⟨z0, z1, z2, z3, z4, z5⟩ := cells6 HQZ.out
          obtain ⟨g0, g1, g2, g3, g4, g5⟩ := free6 HQZ.out
          have hls := lt_of_block HQZ.out
          clear HVZ
          go_wp2_with fail
          refine bodyPost_ret (v := .tuple #[.agg #[.int .i64 (P 0), .int .i64 (Q 0), .int .i64 (P 1), .int .i64 (Q 1), .int .i64 (P 2), .int .i64 (Q 2)], .int .i64 0]) (by simp [results, Try.results34, go_sem, z0, z1, z2, z3, z4, z5]) rfl ⟨rfl, ?_⟩
          exact setC (setC (setC (setC (setC (setC HBZ.out (by omega) _) (by omega) _) (by omega) _) (by omega) _) (by omega) _) (by omega) _
  · all_goals
      obtain ⟨z0, z1, z2, z3, z4, z5⟩ := cells6 HQ5.out
      obtain ⟨g0, g1, g2, g3, g4, g5⟩ := free6 HQ5.out
      have hls := lt_of_block HQ5.out
      go_wp2_with fail
      refine bodyPost_ret (v := .tuple #[.agg #[.int .i64 0, .int .i64 0, .int .i64 0, .int .i64 0, .int .i64 0, .int .i64 0], .int .i64 E]) (by simp [results, Try.results34, go_sem, z0, z1, z2, z3, z4, z5]) rfl ⟨rfl, ?_⟩
      exact setC (setC (setC (setC (setC (setC HB5.out (by omega) _) (by omega) _) (by omega) _) (by omega) _) (by omega) _) (by omega) _
end Go.Proofs.Ytodpjhhogcfodaa.Orb
