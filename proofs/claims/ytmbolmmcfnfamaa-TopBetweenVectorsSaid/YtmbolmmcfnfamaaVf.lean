import Derived.Test.YtmbolmmcfnfamaaVb
import Derived.Deep.RegionHeld3
import Derived.Deep.CutRange
import Derived.BigQuiet
import Derived.IntWalk
import Derived.Outline
namespace Go.Proofs.Ytmbolmmcfnfamaa.Orb
open Go.RowKit Lib

set_option maxRecDepth 100000 in
theorem refCoordinates_exact (x y z : Int) (w : World) :
    Calls Try.prog 98 #[.agg #[.int .i64 x, .int .i64 y, .int .i64 z]] w fun e w' => e = .returned (.agg #[.int .i64 x, .int .i64 y, .int .i64 z]) ∧ (w.alloc (.cells #[.int .i64 x, .int .i64 y, .int .i64 z] 43)).alloc (.cells #[.int .i64 x, .int .i64 y, .int .i64 z] 57) = w' := by
  go_enter Try.func98, Try.ntmps98
  go_wp2_with fail
  exact bodyPost_ret (v := .agg #[.int .i64 x, .int .i64 y, .int .i64 z]) (by simp [results, Try.results98, go_sem]) rfl ⟨rfl, rfl⟩
/-- the bend at a tick, times the ticks of the arc -/
def bendR (bend : Int) (A B : St) (t : Int) : Int := if t - A.t ≠ 0 ∧ t - A.t ≠ B.t - A.t then bend * (B.t - A.t) else 0
/-- the reference's point -/
def pointR (bend : Int) (A B : St) (t : Int) : Value := .agg #[.int .i64 (pt (cOf A 0) (cOf B 0) (t - A.t) (B.t - A.t)), .int .i64 (pt (cOf A 1) (cOf B 1) (t - A.t) (B.t - A.t)), .int .i64 (pt (cOf A 2) (cOf B 2) (t - A.t) (B.t - A.t)), .int .i64 (pt A.e B.e (t - A.t) (B.t - A.t)), .int .i64 (bendR bend A B t), .int .i64 (B.t - A.t)]

/-- the reference's search for the arc, k arcs on -/
structure PtArc (L : List St) (t : Int) (k : Nat) : Prop where
  h1 : k + 1 < L.length
  h2 : (gt L k).t ≤ t

/-- the point under way: its first k coordinates -/
def ptCells (P : Nat → Int) (k : Nat) (wr bn den : Int) : Array Value :=
  #[.int .i64 (if 0 < k then P 0 else 0), .int .i64 (if 1 < k then P 1 else 0), .int .i64 (if 2 < k then P 2 else 0), .int .i64 wr, .int .i64 bn, .int .i64 den]
theorem pt_step {w : World} {b k : Nat} {P : Nat → Int} {wr bn den : Int} {t : TypeId} (hk : k < 3) (h : w.heap[b]? = some (.cells (ptCells P k wr bn den) t (0, 0))) :
    (w.setCell ⟨b, k, none⟩ (.int .i64 (P k))).heap[b]? = some (.cells (ptCells P (k + 1) wr bn den) t (0, 0)) := by
  rw [set_block h]
  match k, hk with
  | 0, _ => rfl
  | 1, _ => rfl
  | 2, _ => rfl
theorem pt_cell {w : World} {b k : Nat} {P : Nat → Int} {wr bn den : Int} {t : TypeId} (hk : k < 3) (h : w.heap[b]? = some (.cells (ptCells P k wr bn den) t (0, 0))) :
    w.cell? ⟨b, k, none⟩ = some (.int .i64 0) ∧ w.frozen? ⟨b, k, none⟩ = false := by
  rw [cell_of_row _ _ _ _ _ _ h, frozen_of_row w b _ _ t h]
  match k, hk with
  | 0, _ => exact ⟨rfl, rfl⟩
  | 1, _ => exact ⟨rfl, rfl⟩
  | 2, _ => exact ⟨rfl, rfl⟩

set_option maxRecDepth 100000 in
set_option maxHeartbeats 8000000 in
theorem pointAt_any (v : Value) (nm : ByteArray) (bend : Int) (L : List St) (hR : Rt bend L) (t : Int) (h0 : fst L ≤ t) (h1 : t ≤ lst L) (w : World) (hv : OV w v nm bend L) :
    Calls Try.prog 72 #[v, .int .i64 t] w fun e w' => ∃ k, InArc L t k ∧ e = .returned (pointR bend (gt L k) (gt L (k + 1)) t) ∧ Below w.heap.size w w' := by
  obtain ⟨sp, cap, rfl, -, -, hS⟩ := hv.form
  obtain ⟨b, o, rfl, hT⟩ := hS (by have := hR.n0; omega)
  obtain ⟨n, hn⟩ : ∃ n, n = L.length := ⟨_, rfl⟩
  have hn2 : 2 ≤ n ∧ n ≤ 40 := by have := hR.n0; have := hR.n1; omega
  have HT := Lib.hid hT
  have HR := Lib.hid hR
  have HL := Lib.hid (show (gt L (n - 1)).t = lst L by rw [hn]; rfl)
  have P0 := Lib.hid (show PtArc L t 0 from ⟨by omega, h0⟩)
  have H1 := Lib.hid h1
  rw [← hn] at hv ⊢
  have HN := Lib.hid hn
  clear hv hT hR hS h0 h1 hn
  go_enter Try.func72, Try.ntmps72
  go_wp2_with fail
  obtain ⟨W0, hW0⟩ : ∃ W0, W0 = (w.alloc (.cells #[.string nm, .int .i64 bend, .slice (some ⟨b, o, none⟩) n cap] 24)).alloc (.cells #[.int .i64 0, .int .i64 0, .int .i64 0, .int .i64 0, .int .i64 0, .int .i64 0] 112) := ⟨_, rfl⟩
  rw [← hW0]
  have HB0 := Lib.hid (show Below w.heap.size w W0 by rw [hW0]; (repeat (first | with_reducible exact Below.refl _ _ | with_reducible refine alloc1 ?_ _ | with_reducible refine Below.drew ?_ | with_reducible refine drewN1 ?_ _ | with_reducible refine setC ?_ (by omega) _)))
  have HP0 := Lib.hid (show W0.heap[w.heap.size]? = some (.cells #[.string nm, .int .i64 bend, .slice (some ⟨b, o, none⟩) n cap] 24 (0, 0)) by rw [hW0]; (repeat (first | ((with_reducible refine hnew ?_); (simp; done)) | with_reducible refine hdrew ?_ | with_reducible refine hold ?_)))
  have HQ0 := Lib.hid (show W0.heap[w.heap.size + 1]? = some (.cells #[.int .i64 0, .int .i64 0, .int .i64 0, .int .i64 0, .int .i64 0, .int .i64 0] 112 (0, 0)) by rw [hW0]; (repeat (first | ((with_reducible refine hnew ?_); (simp; done)) | with_reducible refine hdrew ?_ | with_reducible refine hold ?_)))
  clear hW0
  obtain ⟨k0, k1, k2⟩ := cells3 HP0.out
  have HTW := Lib.hid (HT.out.next HB0.out)
  go_loop [5] (fun i => ∃ k : Nat, i = .int .i64 k ∧ Hid (PtArc L t k)) (fun i => n - (intV i).toNat)
  case atStart => exact ⟨0, rfl, P0⟩
  case round =>
    clear P0
    obtain ⟨k, rfl, PK⟩ := hrel
    have hk1 : k + 1 < n := by have := PK.out.h1; have := HN.out; omega
    have hw2 : IntKind.i64.wrap ((k : Int) + 2) = (k : Int) + 2 := IntWalk.i64_in _ (by omega)
    have hw1 : IntKind.i64.wrap ((k : Int) + 1) = (k : Int) + 1 := IntWalk.i64_in _ (by omega)
    have i0 : (0 : Int) ≤ (k : Int) := by omega
    have i1 : (k : Int) < (n : Int) := by omega
    have i3 : ((k : Int) + 1).toNat = k + 1 := by omega
    have i4 : (0 : Int) ≤ (k : Int) + 1 := by omega
    have i5 : (k : Int) + 1 < (n : Int) := by omega
    have hst : Hid (InArc L t k → k + 1 < n) := fun _ => hk1
    have c0 := (HTW.out (k + 1) (by have := HN.out; omega)).1
    obtain ⟨cb, hcb⟩ : ∃ cb, cb = (decide ((k : Int) + 2 < n) && decide ((gt L (k + 1)).t ≤ t)) := ⟨_, rfl⟩
    have HCB := Lib.hid hcb
    clear hcb hst
    go_upto_region 2 with fail
    go_cut [30] from 14 to 29 (fun s30 wx => s30 = .bool cb ∧ Hid (wx = W0))
    case first =>
      by_cases hlt : (k : Int) + 2 < n
      · have HC := Lib.hid (show cb = decide ((gt L (k + 1)).t ≤ t) by rw [HCB.out, decide_eq_true hlt]; rfl)
        generalize (gt L (k + 1)).t = tk at *
        go_wp2_with fail
        go_meet
        case rel => exact ⟨by rw [HC.out], rfl⟩
      · have HC := Lib.hid (show cb = false by rw [HCB.out, decide_eq_false hlt]; rfl)
        go_wp2_with fail
        go_meet
        case rel => exact ⟨by rw [HC.out], rfl⟩
    obtain ⟨rfl, HWC⟩ := hcut
    obtain ⟨w4, rfl⟩ : ∃ w4 : World, w4 = wc := ⟨_, rfl⟩
    obtain rfl : w4 = W0 := HWC.out
    clear HWC c0
    cases hcc : cb with
    | true =>
      have PN := Lib.hid (show PtArc L t (k + 1) from by
        have h := HCB.out
        rw [hcc] at h
        have h := (Bool.and_eq_true _ _ ▸ h.symm : _ ∧ _)
        have h1 := of_decide_eq_true h.1
        exact ⟨by have := HN.out; omega, of_decide_eq_true h.2⟩)
      clear HCB
      subst hcc
      go_wp2_with fail
      go_round
      case rel => exact ⟨k + 1, by go_num, PN⟩
      case measure => simp [intV]; omega
    | false =>
      have HA := Lib.hid (show InArc L t k from by
        have h := HCB.out
        rw [hcc] at h
        refine ⟨PK.out.h1, PK.out.h2, ?_⟩
        by_cases h1 : (k : Int) + 2 < n
        · rw [decide_eq_true h1, Bool.true_and] at h
          have := of_decide_eq_false h.symm
          omega
        · have e : k + 1 = n - 1 := by omega
          rw [e, HL.out]; exact H1.out)
      clear HCB
      subst hcc
      go_upto_region 4 with fail
      obtain ⟨hsA, hsB, q0, q1, q2, q3⟩ := HA.out.arc HR.out
      have b0 := HR.out.b0
      have b1 := HR.out.b1
      obtain ⟨⟨a0, a1, a2, a3, a4⟩, c0, c1, c2, c3, c4⟩ := And.intro (HTW.out k (by have := HN.out; omega)) (HTW.out (k + 1) (by have := HN.out; omega))
      obtain ⟨pv, hpv⟩ : ∃ pv, pv = pointR bend (gt L k) (gt L (k + 1)) t := ⟨_, rfl⟩
      have HPV := Lib.hid hpv.symm
      have HFIN := Lib.hid (show ∀ u : Value, u = pv → ∃ k', InArc L t k' ∧ u = pointR bend (gt L k') (gt L (k' + 1)) t from fun u h => ⟨k, HA.out, h.trans hpv⟩)
      generalize gt L k = A at *
      generalize gt L (k + 1) = B at *
      obtain ⟨At, Ax, Ay, Az, Ae⟩ := A
      obtain ⟨Bt, Bx, By, Bz, Be⟩ := B
      obtain ⟨-, -, A0, A1, A2, A3, A4, A5, A6, A7⟩ := hsA
      obtain ⟨-, -, B0, B1, B2, B3, B4, B5, B6, B7⟩ := hsB
      dsimp only at *
      have SZ := Lib.hid (show (∀ i, -100000000 ≤ cOf ⟨At, Ax, Ay, Az, Ae⟩ i ∧ cOf ⟨At, Ax, Ay, Az, Ae⟩ i ≤ 100000000) ∧ (∀ i, -100000000 ≤ cOf ⟨Bt, Bx, By, Bz, Be⟩ i ∧ cOf ⟨Bt, Bx, By, Bz, Be⟩ i ≤ 100000000) by
        constructor <;> intro i <;> unfold cOf <;> dsimp only <;> split <;> (first | omega | (split <;> omega)))
      have AE := Lib.hid (show (0 ≤ Ae ∧ Ae ≤ 100000) ∧ (0 ≤ Be ∧ Be ≤ 100000) from ⟨⟨A6, A7⟩, B6, B7⟩)
      clear A0 A1 A2 A3 A4 A5 A6 A7 B0 B1 B2 B3 B4 B5 B6 B7 hpv
      obtain ⟨k0, k1, k2⟩ := cells3 HP0.out
      go_cut [6, 7] from 33 to 43 (fun s6 s7 wx => ∃ b6 b7, s6 = .pointer (some ⟨b6, 0, none⟩) ∧ s7 = .pointer (some ⟨b7, 0, none⟩) ∧ Hid (Below w4.heap.size w4 wx) ∧ Hid (wx.heap[b6]? = some (.cells #[.int .i64 At, .int .i64 Ax, .int .i64 Ay, .int .i64 Az, .int .i64 Ae] 45 (0, 0))) ∧ Hid (wx.heap[b7]? = some (.cells #[.int .i64 Bt, .int .i64 Bx, .int .i64 By, .int .i64 Bz, .int .i64 Be] 45 (0, 0))))
      case first =>
        go_region_held3 (fun W => W.cell? ⟨w.heap.size, 2, none⟩ = some (.slice (some ⟨b, o, none⟩) n cap) ∧ W.cell? ⟨b, o + k * 5, none⟩ = some (.int .i64 At) ∧ W.cell? ⟨b, o + k * 5 + 1, none⟩ = some (.int .i64 Ax) ∧ W.cell? ⟨b, o + k * 5 + 2, none⟩ = some (.int .i64 Ay) ∧ W.cell? ⟨b, o + k * 5 + 3, none⟩ = some (.int .i64 Az) ∧ W.cell? ⟨b, o + k * 5 + 4, none⟩ = some (.int .i64 Ae) ∧ W.cell? ⟨b, o + (k + 1) * 5, none⟩ = some (.int .i64 Bt) ∧ W.cell? ⟨b, o + (k + 1) * 5 + 1, none⟩ = some (.int .i64 Bx) ∧ W.cell? ⟨b, o + (k + 1) * 5 + 2, none⟩ = some (.int .i64 By) ∧ W.cell? ⟨b, o + (k + 1) * 5 + 3, none⟩ = some (.int .i64 Bz) ∧ W.cell? ⟨b, o + (k + 1) * 5 + 4, none⟩ = some (.int .i64 Be)) (with_reducible refine ⟨keepc ?_ k2, keepc ?_ a0, keepc ?_ a1, keepc ?_ a2, keepc ?_ a3, keepc ?_ a4, keepc ?_ c0, keepc ?_ c1, keepc ?_ c2, keepc ?_ c3, keepc ?_ c4⟩ <;> (repeat (first | with_reducible exact Below.refl _ _ | with_reducible refine alloc1 ?_ _ | with_reducible refine Below.drew ?_ | with_reducible refine drewN1 ?_ _ | with_reducible refine setC ?_ (by omega) _)) <;> done)
          (fail)
        all_goals
          go_wp2_with fail
          go_meet
          case rel => exact ⟨_, _, rfl, rfl, Lib.hid (by (repeat (first | with_reducible exact Below.refl _ _ | with_reducible refine alloc1 ?_ _ | with_reducible refine Below.drew ?_ | with_reducible refine drewN1 ?_ _ | with_reducible refine setC ?_ (by omega) _))), Lib.hid (by (repeat (first | ((with_reducible refine hnew ?_); (simp; done)) | with_reducible refine hdrew ?_ | with_reducible refine hold ?_))), Lib.hid (by (repeat (first | ((with_reducible refine hnew ?_); (simp; done)) | with_reducible refine hdrew ?_ | with_reducible refine hold ?_)))⟩
      obtain ⟨b6, b7, rfl, rfl, HBX, H6, H7⟩ := hcut
      obtain ⟨w5, rfl⟩ : ∃ w5 : World, w5 = wc := ⟨_, rfl⟩
      have HB5 := Lib.hid (trans' HB0.out HBX.out)
      have HP5 := Lib.hid (keepb HBX.out HP0.out)
      have HQ5 := Lib.hid (keepb HBX.out HQ0.out)
      clear k0 k1 k2 a0 a1 a2 a3 a4 c0 c1 c2 c3 c4 HBX hk1 hw2 hw1 i0 i1 i3 i4 i5 hn2 HT
      obtain ⟨a0, a1, a2, a3, a4⟩ := cells5 H6.out
      obtain ⟨c0, c1, c2, c3, c4⟩ := cells5 H7.out
      have hq1 : IntKind.i64.wrap (Bt - At) = Bt - At := IntWalk.i64_in _ (by omega)
      have hq2 : IntKind.i64.wrap (t - At) = t - At := IntWalk.i64_in _ (by omega)
      go_wp2_with fail
      go_quiet (fail)
      obtain ⟨w6, hw6⟩ : ∃ w6, w6 = w5.drewN nq := ⟨_, rfl⟩
      rw [← hw6]
      have HB6 := Lib.hid (show Below w.heap.size w w6 by rw [hw6]; exact drewN1 HB5.out nq)
      have HA6 := Lib.hid (show w6.heap[b6]? = some (.cells #[.int .i64 At, .int .i64 Ax, .int .i64 Ay, .int .i64 Az, .int .i64 Ae] 45 (0, 0)) by rw [hw6]; exact H6.out)
      have HC6 := Lib.hid (show w6.heap[b7]? = some (.cells #[.int .i64 Bt, .int .i64 Bx, .int .i64 By, .int .i64 Bz, .int .i64 Be] 45 (0, 0)) by rw [hw6]; exact H7.out)
      have HP6 := Lib.hid (show w6.heap[w.heap.size]? = some (.cells #[.string nm, .int .i64 bend, .slice (some ⟨b, o, none⟩) n cap] 24 (0, 0)) by rw [hw6]; exact HP5.out)
      have HQ6 := Lib.hid (show w6.heap[w.heap.size + 1]? = some (.cells #[.int .i64 0, .int .i64 0, .int .i64 0, .int .i64 0, .int .i64 0, .int .i64 0] 112 (0, 0)) by rw [hw6]; exact HQ5.out)
      have HPW := Lib.hid (show pv = .agg #[.int .i64 (pt (cOf ⟨At, Ax, Ay, Az, Ae⟩ 0) (cOf ⟨Bt, Bx, By, Bz, Be⟩ 0) (t - At) (Bt - At)), .int .i64 (pt (cOf ⟨At, Ax, Ay, Az, Ae⟩ 1) (cOf ⟨Bt, Bx, By, Bz, Be⟩ 1) (t - At) (Bt - At)), .int .i64 (pt (cOf ⟨At, Ax, Ay, Az, Ae⟩ 2) (cOf ⟨Bt, Bx, By, Bz, Be⟩ 2) (t - At) (Bt - At)), .int .i64 (pt Ae Be (t - At) (Bt - At)), .int .i64 (if t - At ≠ 0 ∧ t - At ≠ Bt - At then bend * (Bt - At) else 0), .int .i64 (Bt - At)] by rw [← HPV.out]; rfl)
      have hpp : 0 ≤ t - At ∧ t - At ≤ Bt - At ∧ 0 < Bt - At ∧ Bt - At ≤ 20000 := by omega
      clear hw6 H6 H7 HP5 HQ5 HB5 hq1 hq2 a0 a1 a2 a3 a4 c0 c1 c2 c3 c4 q0 q1 q2 q3 HP0 HQ0 HB0 HTW HR HL H1 PK HPV
      obtain ⟨a0, a1, a2, a3, a4⟩ := cells5 HA6.out
      obtain ⟨c0, c1, c2, c3, c4⟩ := cells5 HC6.out
      generalize t - At = pp at *
      generalize Bt - At = qq at *
      obtain ⟨p0, p1, p2, p3⟩ := hpp
      obtain ⟨⟨e0, e1⟩, e2, e3⟩ := AE.out
      have v1 : IntKind.i64.wrap (qq - pp) = qq - pp := IntWalk.i64_in _ (by omega)
      obtain ⟨m0, m1⟩ := mul_bd Ae (qq - pp) 200000000 (by omega) (by omega) (by omega) (by omega)
      obtain ⟨m2, m3⟩ := mul_bd Be pp 200000000 (by omega) (by omega) (by omega) (by omega)
      have v2 : IntKind.i64.wrap (Ae * (qq - pp)) = Ae * (qq - pp) := IntWalk.i64_in _ (by omega)
      have v3 : IntKind.i64.wrap (Be * pp) = Be * pp := IntWalk.i64_in _ (by omega)
      have v4 : IntKind.i64.wrap (Ae * (qq - pp) + Be * pp) = Ae * (qq - pp) + Be * pp := IntWalk.i64_in _ (by omega)
      have HPP := Lib.hid (show 0 ≤ pp ∧ pp ≤ qq ∧ 0 < qq ∧ qq ≤ 20000 from ⟨p0, p1, p2, p3⟩)
      clear m0 m1 m2 m3 e0 e1 e2 e3 p0 p1 p2 p3
      obtain ⟨PF, hPF⟩ : ∃ PF : Nat → Int, PF = fun i => pt (cOf ⟨At, Ax, Ay, Az, Ae⟩ i) (cOf ⟨Bt, Bx, By, Bz, Be⟩ i) pp qq := ⟨_, rfl⟩
      have HPF := Lib.hid hPF
      clear hPF
      go_upto_region 7 with fail
      clear v2 v3 v4 v1
      obtain ⟨W7, hW7⟩ : ∃ W7, W7 = w6.alloc (.cells (ptCells PF 0 (pt Ae Be pp qq) 0 qq) 112) := ⟨_, rfl⟩
      have hW7' : w6.alloc (.cells #[.int .i64 0, .int .i64 0, .int .i64 0, .int .i64 (Ae * (qq - pp) + Be * pp), .int .i64 0, .int .i64 qq] 112) = W7 := hW7.symm
      rw [hW7']
      have hb := new_below w6 (.cells (ptCells PF 0 (pt Ae Be pp qq) 0 qq) 112)
      rw [← hW7] at hb
      have HB7 := Lib.hid (trans' HB6.out hb)
      have HA7 := Lib.hid (keepb hb HA6.out)
      have HC7 := Lib.hid (keepb hb HC6.out)
      have HP7 := Lib.hid (keepb hb HP6.out)
      have HQ7 := Lib.hid (keepb hb HQ6.out)
      have HX7 := Lib.hid (show W7.heap[w6.heap.size]? = some (.cells (ptCells PF 0 (pt Ae Be pp qq) 0 qq) 112 (0, 0)) by rw [hW7]; exact heap_alloc_new _ _)
      have HL6 := Lib.hid (lt_of_block HQ6.out)
      clear hW7 hW7' hb a0 a1 a2 a3 a4 c0 c1 c2 c3 c4 HA6 HC6 HP6 HQ6 HB6
      obtain ⟨a0, a1, a2, a3, a4⟩ := cells5 HA7.out
      obtain ⟨c0, c1, c2, c3, c4⟩ := cells5 HC7.out
      have CA1 := Lib.hid (fun W => refCoordinates_exact Ax Ay Az W)
      have CA2 := Lib.hid (fun W => refCoordinates_exact Bx By Bz W)
      go_cut [11, 12] from 66 to 71 (fun s11 s12 wx => ∃ b11 b12, s11 = .pointer (some ⟨b11, 0, none⟩) ∧ s12 = .pointer (some ⟨b12, 0, none⟩) ∧ Hid (Below W7.heap.size W7 wx) ∧ Hid (wx.heap[b11]? = some (.cells #[.int .i64 Ax, .int .i64 Ay, .int .i64 Az] 57 (0, 0))) ∧ Hid (wx.heap[b12]? = some (.cells #[.int .i64 Bx, .int .i64 By, .int .i64 Bz] 57 (0, 0))))
      case first =>
        go_region_held3 (fun W => W.cell? ⟨b6, 1, none⟩ = some (.int .i64 Ax) ∧ W.cell? ⟨b6, 2, none⟩ = some (.int .i64 Ay) ∧ W.cell? ⟨b6, 3, none⟩ = some (.int .i64 Az) ∧ W.cell? ⟨b7, 1, none⟩ = some (.int .i64 Bx) ∧ W.cell? ⟨b7, 2, none⟩ = some (.int .i64 By) ∧ W.cell? ⟨b7, 3, none⟩ = some (.int .i64 Bz)) (with_reducible refine ⟨keepc ?_ a1, keepc ?_ a2, keepc ?_ a3, keepc ?_ c1, keepc ?_ c2, keepc ?_ c3⟩ <;> (repeat (first | with_reducible exact Below.refl _ _ | with_reducible refine alloc1 ?_ _ | with_reducible refine Below.drew ?_ | with_reducible refine drewN1 ?_ _ | with_reducible refine setC ?_ (by omega) _)) <;> done)
          (first
            | (go_at_call 98; (with_reducible refine (CA1.out _).mono ?_); rintro e wX ⟨rfl, rfl⟩)
            | (go_at_call 98; (with_reducible refine (CA2.out _).mono ?_); rintro e wY ⟨rfl, rfl⟩))
        all_goals
          go_wp2_with fail
          go_meet
          case rel => exact ⟨_, _, rfl, rfl, Lib.hid (by (repeat (first | with_reducible exact Below.refl _ _ | with_reducible refine alloc1 ?_ _ | with_reducible refine Below.drew ?_ | with_reducible refine drewN1 ?_ _ | with_reducible refine setC ?_ (by omega) _))), Lib.hid (by (repeat (first | ((with_reducible refine hnew ?_); (simp; done)) | with_reducible refine hdrew ?_ | with_reducible refine hold ?_))), Lib.hid (by (repeat (first | ((with_reducible refine hnew ?_); (simp; done)) | with_reducible refine hdrew ?_ | with_reducible refine hold ?_)))⟩
      obtain ⟨b11, b12, rfl, rfl, HBX, H11, H12⟩ := hcut
      obtain ⟨w8, rfl⟩ : ∃ w8 : World, w8 = wc := ⟨_, rfl⟩
      have HB8 := Lib.hid (trans' HB7.out HBX.out)
      have HP8 := Lib.hid (keepb HBX.out HP7.out)
      have HQ8 := Lib.hid (keepb HBX.out HQ7.out)
      have HX8 := Lib.hid (keepb HBX.out HX7.out)
      clear a0 a1 a2 a3 a4 c0 c1 c2 c3 c4 HBX HA7 HC7 HP7 HQ7 HX7 HB7 CA1 CA2
      go_wp2_with fail
      have hne1 : b11 ≠ w6.heap.size := fun e => by
        have h1 := H11.out
        rw [e, HX8.out] at h1
        simp [ptCells] at h1
      have hne2 : b12 ≠ w6.heap.size := fun e => by
        have h1 := H12.out
        rw [e, HX8.out] at h1
        simp [ptCells] at h1
      have HNE := Lib.hid (And.intro hne1 hne2)
      clear hne1 hne2 k0 k1 k2
      go_loopw [13] (fun i wr => ∃ j : Nat, j ≤ 3 ∧ i = .int .i64 j ∧ Hid (Below w.heap.size w wr) ∧ Hid (wr.heap[w.heap.size]? = some (.cells #[.string nm, .int .i64 bend, .slice (some ⟨b, o, none⟩) n cap] 24 (0, 0))) ∧ Hid (wr.heap[w.heap.size + 1]? = some (.cells #[.int .i64 0, .int .i64 0, .int .i64 0, .int .i64 0, .int .i64 0, .int .i64 0] 112 (0, 0))) ∧
        Hid (wr.heap[w6.heap.size]? = some (.cells (ptCells PF j (pt Ae Be pp qq) 0 qq) 112 (0, 0))) ∧ Hid (wr.heap[b11]? = some (.cells #[.int .i64 Ax, .int .i64 Ay, .int .i64 Az] 57 (0, 0))) ∧ Hid (wr.heap[b12]? = some (.cells #[.int .i64 Bx, .int .i64 By, .int .i64 Bz] 57 (0, 0)))) (fun i _ => 3 - (intV i).toNat)
      case atStart => exact ⟨0, Nat.zero_le _, rfl, HB8, HP8, HQ8, HX8, H11, H12⟩
      case round =>
        obtain ⟨j, hj, rfl, HBZ, HPZ, HQZ, HXZ, H1Z, H2Z⟩ := hrel
        obtain ⟨wz, rfl⟩ : ∃ wz : World, wz = wr := ⟨_, rfl⟩
        clear HB8 HP8 HQ8 HX8 H11 H12
        obtain ⟨p0, p1, p2, p3⟩ := HPP.out
        by_cases hlt : j < 3
        · have c1 := coord_cell hlt H1Z.out ⟨At, Ax, Ay, Az, Ae⟩ rfl rfl rfl
          have c2 := coord_cell hlt H2Z.out ⟨Bt, Bx, By, Bz, Be⟩ rfl rfl rfl
          obtain ⟨x0, f0⟩ := pt_cell hlt HXZ.out
          have HS := Lib.hid (pt_step hlt HXZ.out)
          have hpf : PF j = pt (cOf ⟨At, Ax, Ay, Az, Ae⟩ j) (cOf ⟨Bt, Bx, By, Bz, Be⟩ j) pp qq := by rw [HPF.out]
          unfold pt at hpf
          have s1 := SZ.out.1 j
          have s2 := SZ.out.2 j
          generalize cOf ⟨At, Ax, Ay, Az, Ae⟩ j = ca at *
          generalize cOf ⟨Bt, Bx, By, Bz, Be⟩ j = cb at *
          have v1 : IntKind.i64.wrap (qq - pp) = qq - pp := IntWalk.i64_in _ (by omega)
          obtain ⟨m0, m1⟩ := mul_bd ca (qq - pp) 200000000 (by omega) (by omega) (by omega) (by omega)
          obtain ⟨m2, m3⟩ := mul_bd cb pp 200000000 (by omega) (by omega) (by omega) (by omega)
          have v2 : IntKind.i64.wrap (ca * (qq - pp)) = ca * (qq - pp) := IntWalk.i64_in _ (by omega)
          have v3 : IntKind.i64.wrap (cb * pp) = cb * pp := IntWalk.i64_in _ (by omega)
          have v4 : IntKind.i64.wrap (ca * (qq - pp) + cb * pp) = ca * (qq - pp) + cb * pp := IntWalk.i64_in _ (by omega)
          have i0 : (0 : Int) ≤ (j : Int) := by omega
          have i1 : (j : Int) < 3 := by omega
          have HPJ := Lib.hid hpf
          clear m0 m1 m2 m3 s1 s2 p0 p1 p2 p3 hpf
          go_wp2_with fail
          go_region
          go_wp2_with fail
          go_roundw
          case rel =>
            have hs := HS.out
            rw [HPJ.out] at hs
            have h6 := HL6.out
            exact ⟨j + 1, by omega, by go_num, Lib.hid (setC HBZ.out (by omega) _).drew, Lib.hid (heap_ne (by omega) HPZ.out), Lib.hid (heap_ne (by omega) HQZ.out), Lib.hid hs, Lib.hid (heap_ne HNE.out.1 H1Z.out), Lib.hid (heap_ne HNE.out.2 H2Z.out)⟩
          case measure => simp [intV]; omega
        · have e : j = 3 := by omega
          subst e
          have HXE := Lib.hid (show wz.heap[w6.heap.size]? = some (.cells #[.int .i64 (PF 0), .int .i64 (PF 1), .int .i64 (PF 2), .int .i64 (pt Ae Be pp qq), .int .i64 0, .int .i64 qq] 112 (0, 0)) from HXZ.out)
          clear HXZ H1Z H2Z HNE
          have hl6 := HL6.out
          obtain ⟨k0, k1, k2⟩ := cells3 HPZ.out
          obtain ⟨x0, x1, x2, x3, x4, x5⟩ := cells6 HXE.out
          obtain ⟨f0, f1, f2, f3, f4, f5⟩ := free6 HXE.out
          obtain ⟨y0, y1, y2, y3, y4, y5⟩ := cells6 HQZ.out
          obtain ⟨g0, g1, g2, g3, g4, g5⟩ := free6 HQZ.out
          have hPF0 : pt (cOf ⟨At, Ax, Ay, Az, Ae⟩ 0) (cOf ⟨Bt, Bx, By, Bz, Be⟩ 0) pp qq = PF 0 := by rw [HPF.out]
          have hPF1 : pt (cOf ⟨At, Ax, Ay, Az, Ae⟩ 1) (cOf ⟨Bt, Bx, By, Bz, Be⟩ 1) pp qq = PF 1 := by rw [HPF.out]
          have hPF2 : pt (cOf ⟨At, Ax, Ay, Az, Ae⟩ 2) (cOf ⟨Bt, Bx, By, Bz, Be⟩ 2) pp qq = PF 2 := by rw [HPF.out]
          have HPX := Lib.hid (show pv = .agg #[.int .i64 (PF 0), .int .i64 (PF 1), .int .i64 (PF 2), .int .i64 (pt Ae Be pp qq), .int .i64 (if pp ≠ 0 ∧ pp ≠ qq then bend * qq else 0), .int .i64 qq] by rw [HPW.out, hPF0, hPF1, hPF2])
          clear hPF0 hPF1 hPF2 HPW HPF SZ AE
          generalize PF 0 = P0 at *
          generalize PF 1 = P1 at *
          generalize PF 2 = P2 at *
          generalize pt Ae Be pp qq = wr at *
          have hne : w.heap.size + 1 ≠ w6.heap.size := by omega
          have hwb : IntKind.i64.wrap (bend * qq) = bend * qq := by
            obtain ⟨m0, m1⟩ := mul_bd bend qq 200000000 (by omega) (by omega) (by omega) (by omega)
            exact IntWalk.i64_in _ (by omega)
          have HHL := Lib.hid (lt_of_block HQZ.out)
          by_cases z1 : pp = 0
          · have HPY := Lib.hid (show pv = .agg #[.int .i64 P0, .int .i64 P1, .int .i64 P2, .int .i64 wr, .int .i64 0, .int .i64 qq] by rw [HPX.out, if_neg (by omega)])
            have z2 : (pp != 0) = false := by rw [z1]; rfl
            go_wp2_with fail
            obtain ⟨k', r1, r2⟩ := HFIN.out _ HPY.out.symm
            refine bodyPost_ret (v := .agg #[.int .i64 P0, .int .i64 P1, .int .i64 P2, .int .i64 wr, .int .i64 0, .int .i64 qq]) (by simp [results, Try.results72, go_sem, y0, y1, y2, y3, y4, y5]) rfl ⟨k', r1, by rw [r2], ?_⟩
            exact setC (setC (setC (setC (setC (setC (HBZ.out) (by omega) _) (by omega) _) (by omega) _) (by omega) _) (by omega) _) (by omega) _
          · have z2 : (pp != 0) = true := by rw [bne_iff_ne]; exact z1
            by_cases z3 : pp = qq
            · have HPY := Lib.hid (show pv = .agg #[.int .i64 P0, .int .i64 P1, .int .i64 P2, .int .i64 wr, .int .i64 0, .int .i64 qq] by rw [HPX.out, if_neg (by omega)])
              have z4 : (pp != qq) = false := by rw [z3]; exact bne_self_eq_false _
              go_wp2_with fail
              obtain ⟨k', r1, r2⟩ := HFIN.out _ HPY.out.symm
              refine bodyPost_ret (v := .agg #[.int .i64 P0, .int .i64 P1, .int .i64 P2, .int .i64 wr, .int .i64 0, .int .i64 qq]) (by simp [results, Try.results72, go_sem, y0, y1, y2, y3, y4, y5]) rfl ⟨k', r1, by rw [r2], ?_⟩
              exact setC (setC (setC (setC (setC (setC (HBZ.out) (by omega) _) (by omega) _) (by omega) _) (by omega) _) (by omega) _) (by omega) _
            · have HPY := Lib.hid (show pv = .agg #[.int .i64 P0, .int .i64 P1, .int .i64 P2, .int .i64 wr, .int .i64 (bend * qq), .int .i64 qq] by rw [HPX.out, if_pos ⟨z1, z3⟩])
              have z4 : (pp != qq) = true := by rw [bne_iff_ne]; exact z3
              go_wp2_with fail
              obtain ⟨k', r1, r2⟩ := HFIN.out _ HPY.out.symm
              refine bodyPost_ret (v := .agg #[.int .i64 P0, .int .i64 P1, .int .i64 P2, .int .i64 wr, .int .i64 (bend * qq), .int .i64 qq]) (by simp [results, Try.results72, go_sem, y0, y1, y2, y3, y4, y5]) rfl ⟨k', r1, by rw [r2], ?_⟩
              exact setC (setC (setC (setC (setC (setC (setC (HBZ.out) (by omega) _) (by omega) _) (by omega) _) (by omega) _) (by omega) _) (by omega) _) (by omega) _
end Go.Proofs.Ytmbolmmcfnfamaa.Orb
