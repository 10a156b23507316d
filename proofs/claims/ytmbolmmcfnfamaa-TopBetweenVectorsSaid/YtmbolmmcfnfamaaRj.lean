import Derived.Test.YtmbolmmcfnfamaaRi
import Derived.Outline
import Derived.Deep.RegionHeld3
import Derived.Deep.CutRange
import Derived.StillTailTactics
import Derived.IntWalk
namespace Go.Proofs.Ytmbolmmcfnfamaa.Orb
open Go.RowKit Lib

/-- the six numbers of a box, those of the first k coordinates in place -/
def boxCells (lo hi : Nat → Int) (k : Nat) : Array Value :=
  #[.int .i64 (if 0 < k then lo 0 else 0), .int .i64 (if 0 < k then hi 0 else 0), .int .i64 (if 1 < k then lo 1 else 0), .int .i64 (if 1 < k then hi 1 else 0), .int .i64 (if 2 < k then lo 2 else 0), .int .i64 (if 2 < k then hi 2 else 0)]
theorem set_block {w : World} {b i : Nat} {cs : Array Value} {u : Value} {t : TypeId} (h : w.heap[b]? = some (.cells cs t (0, 0))) : (w.setCell ⟨b, i, none⟩ u).heap[b]? = some (.cells (cs.setIfInBounds i u) t (0, 0)) := by
  have hlt := lt_of_block h
  have h' : w.heap[b] = .cells cs t (0, 0) := by simpa [Array.getElem?_eq_getElem hlt] using h
  show (w.heap.modify b _)[b]? = _
  rw [Array.getElem?_eq_getElem (by simpa using hlt), Array.getElem_modify_self, h']
  rfl
theorem box_step {w : World} {b k : Nat} {lo hi : Nat → Int} {t : TypeId} (hk : k < 3) (h : w.heap[b]? = some (.cells (boxCells lo hi k) t (0, 0))) :
    ((w.setCell ⟨b, k * 2, none⟩ (.int .i64 (lo k))).setCell ⟨b, k * 2 + 1, none⟩ (.int .i64 (hi k))).heap[b]? = some (.cells (boxCells lo hi (k + 1)) t (0, 0)) := by
  rw [set_block (set_block h)]
  match k, hk with
  | 0, _ => rfl
  | 1, _ => rfl
  | 2, _ => rfl
theorem box_cell {w : World} {b k : Nat} {lo hi : Nat → Int} {t : TypeId} (hk : k < 3) (h : w.heap[b]? = some (.cells (boxCells lo hi k) t (0, 0))) :
    w.cell? ⟨b, k * 2, none⟩ = some (.int .i64 0) ∧ w.cell? ⟨b, k * 2 + 1, none⟩ = some (.int .i64 0) ∧ w.frozen? ⟨b, k * 2, none⟩ = false ∧ w.frozen? ⟨b, k * 2 + 1, none⟩ = false := by
  rw [cell_of_row _ _ _ _ _ _ h, cell_of_row _ _ _ _ _ _ h, frozen_of_row w b _ _ t h, frozen_of_row w b _ _ t h]
  match k, hk with
  | 0, _ => exact ⟨rfl, rfl, rfl, rfl⟩
  | 1, _ => exact ⟨rfl, rfl, rfl, rfl⟩
  | 2, _ => exact ⟨rfl, rfl, rfl, rfl⟩
theorem coord_cell {w : World} {b k : Nat} {x y z : Int} {t : TypeId} (hk : k < 3) (h : w.heap[b]? = some (.cells #[.int .i64 x, .int .i64 y, .int .i64 z] t (0, 0))) (A : St) (hx : A.x = x) (hy : A.y = y) (hz : A.z = z) : w.cell? ⟨b, k, none⟩ = some (.int .i64 (cOf A k)) := by
  subst hx hy hz
  rw [cell_of_row _ _ _ _ _ _ h]
  match k, hk with
  | 0, _ => rfl
  | 1, _ => rfl
  | 2, _ => rfl

theorem cells6 {W : World} {b : Nat} {c0 c1 c2 c3 c4 c5 : Value} {t : TypeId} (h : W.heap[b]? = some (.cells #[c0, c1, c2, c3, c4, c5] t (0, 0))) :
    W.cell? ⟨b, 0, none⟩ = some c0 ∧ W.cell? ⟨b, 1, none⟩ = some c1 ∧ W.cell? ⟨b, 2, none⟩ = some c2 ∧ W.cell? ⟨b, 3, none⟩ = some c3 ∧ W.cell? ⟨b, 4, none⟩ = some c4 ∧ W.cell? ⟨b, 5, none⟩ = some c5 :=
  ⟨cell_of_row W b 0 _ t _ h, cell_of_row W b 1 _ t _ h, cell_of_row W b 2 _ t _ h, cell_of_row W b 3 _ t _ h, cell_of_row W b 4 _ t _ h, cell_of_row W b 5 _ t _ h⟩
theorem free6 {W : World} {b : Nat} {cs : Array Value} {t : TypeId} (h : W.heap[b]? = some (.cells cs t (0, 0))) :
    W.frozen? ⟨b, 0, none⟩ = false ∧ W.frozen? ⟨b, 1, none⟩ = false ∧ W.frozen? ⟨b, 2, none⟩ = false ∧ W.frozen? ⟨b, 3, none⟩ = false ∧ W.frozen? ⟨b, 4, none⟩ = false ∧ W.frozen? ⟨b, 5, none⟩ = false :=
  ⟨frozen_of_row W b 0 cs t h, frozen_of_row W b 1 cs t h, frozen_of_row W b 2 cs t h, frozen_of_row W b 3 cs t h, frozen_of_row W b 4 cs t h, frozen_of_row W b 5 cs t h⟩
theorem hnew {W : World} {b : Nat} {o : Obj} (h : b = W.heap.size) : (W.alloc o).heap[b]? = some o := by rw [h]; exact heap_alloc_new _ _
theorem hold {W : World} {b : Nat} {o o' : Obj} (h : W.heap[b]? = some o) : (W.alloc o').heap[b]? = some o := keepb (new_below _ _) h
theorem hdrew {W : World} {b : Nat} {o : Obj} (h : W.heap[b]? = some o) : W.drew.heap[b]? = some o := h

set_option maxRecDepth 100000 in
set_option maxHeartbeats 8000000 in
/-- THE BOX -/
theorem boxAt_any (v : Value) (nm : ByteArray) (bend : Int) (L : List St) (hR : Rt bend L) (t : Int) (h0 : fst L ≤ t) (h1 : t ≤ lst L) (w : World) (hv : OV w v nm bend L) :
    Calls Try.prog 37 #[v, .int .i64 t] w fun e w' => e = .returned (.agg (boxCells (loC bend L t) (hiC bend L t) 3)) ∧ Below w.heap.size w w' := by
  have CL := Lib.hid (fun W (h : Below w.heap.size w W) => legAt_any v nm bend L hR t h0 h1 W (hv.next h))
  have hArc := (inArc hR t h0 h1).arc hR
  obtain ⟨sp, cap, rfl, -, -, -⟩ := hv.form
  have hb0 := hR.b0
  have hb1 := hR.b1
  have eL : loC bend L t = loS bend (gt L (arcP L t)) (gt L (arcP L t + 1)) t := rfl
  have eH : hiC bend L t = hiS bend (gt L (arcP L t)) (gt L (arcP L t + 1)) t := rfl
  rw [eL, eH]
  clear hv hR eL eH
  generalize gt L (arcP L t) = A at *
  generalize gt L (arcP L t + 1) = B at *
  have ARC := Lib.hid hArc
  obtain ⟨bA, bB, b0, b1, bw, bw2⟩ := hArc
  have CS := Lib.hid (fun W => isAtState_any A B (t - A.t) (B.t - A.t) W)
  have CB := Lib.hid (fun W a b ha hb => between_any A B (t - A.t) (B.t - A.t) a b ha hb (by omega) (by omega) bw2 W)
  have CA1 := Lib.hid (fun W => coordinates_exact A.x A.y A.z W)
  have CA2 := Lib.hid (fun W => coordinates_exact B.x B.y B.z W)
  have hbs : (decide (t - A.t = 0 ∨ t - A.t = B.t - A.t) = true ∧ Hid (bendS bend A B t = 0)) ∨ (decide (t - A.t = 0 ∨ t - A.t = B.t - A.t) = false ∧ Hid (bendS bend A B t = bend)) := by
    unfold Hid bendS
    by_cases h : t - A.t = 0 ∨ t - A.t = B.t - A.t
    · left; exact ⟨decide_eq_true h, if_pos h⟩
    · right; exact ⟨decide_eq_false h, if_neg h⟩
  have bs := bendS_bd bend A B t hb0
  have HLO : Hid (∀ k, loS bend A B t k = pt (cOf A k - A.e) (cOf B k - B.e) (t - A.t) (B.t - A.t) / (B.t - A.t) - bendS bend A B t) := fun k => rfl
  have HHI : Hid (∀ k, hiS bend A B t k = ceilI (pt (cOf A k + A.e) (cOf B k + B.e) (t - A.t) (B.t - A.t)) (B.t - A.t) + bendS bend A B t) := fun k => rfl
  generalize bendS bend A B t = bd at *
  generalize loS bend A B t = LO at *
  generalize hiS bend A B t = HI at *
  generalize decide (t - A.t = 0 ∨ t - A.t = B.t - A.t) = DB at *
  unfold legV at CL CS CB
  generalize L.length = n at *
  have hA := Lib.hid (rfl : A = A)
  have HA := Lib.hid (show 0 ≤ t - A.t ∧ t - A.t ≤ B.t - A.t ∧ 0 < B.t - A.t ∧ B.t - A.t ≤ 20000 by omega)
  have KA := Lib.hid bA
  have KB := Lib.hid bB
  clear bA bB b0 b1 bw bw2 h0 h1 ARC hA
  generalize t - A.t = p at *
  generalize B.t - A.t = q at *
  obtain ⟨At, Ax, Ay, Az, Ae, hAt, hAx, hAy, hAz, hAe⟩ : ∃ At Ax Ay Az Ae, At = A.t ∧ Ax = A.x ∧ Ay = A.y ∧ Az = A.z ∧ Ae = A.e := ⟨_, _, _, _, _, rfl, rfl, rfl, rfl, rfl⟩
  obtain ⟨Bt, Bx, By, Bz, Be, hBt, hBx, hBy, hBz, hBe⟩ : ∃ Bt Bx By Bz Be, Bt = B.t ∧ Bx = B.x ∧ By = B.y ∧ Bz = B.z ∧ Be = B.e := ⟨_, _, _, _, _, rfl, rfl, rfl, rfl, rfl⟩
  rw [← hAt, ← hAx, ← hAy, ← hAz, ← hAe, ← hBt, ← hBx, ← hBy, ← hBz, ← hBe] at CL CS CB
  rw [← hAx, ← hAy, ← hAz] at CA1
  rw [← hBx, ← hBy, ← hBz] at CA2
  have EA := Lib.hid (show A.x = Ax ∧ A.y = Ay ∧ A.z = Az ∧ A.e = Ae from ⟨hAx.symm, hAy.symm, hAz.symm, hAe.symm⟩)
  have EB := Lib.hid (show B.x = Bx ∧ B.y = By ∧ B.z = Bz ∧ B.e = Be from ⟨hBx.symm, hBy.symm, hBz.symm, hBe.symm⟩)
  clear hAt hAx hAy hAz hAe hBt hBx hBy hBz hBe
  go_enter Try.func37, Try.ntmps37
  go_wp2_with fail
  obtain ⟨W0, hW0⟩ : ∃ W0, W0 = (w.alloc (.cells #[.string nm, .int .i64 bend, .slice sp n cap] 73)).alloc (.cells #[.int .i64 0, .int .i64 0, .int .i64 0, .int .i64 0, .int .i64 0, .int .i64 0] 77) := ⟨_, rfl⟩
  rw [← hW0]
  have hbel : Below w.heap.size w W0 := by rw [hW0]; (repeat (first | with_reducible exact Below.refl _ _ | with_reducible refine alloc1 ?_ _ | with_reducible refine Below.drew ?_ | with_reducible refine drewN1 ?_ _ | with_reducible refine setC ?_ (by omega) _))
  have HP := Lib.hid (show W0.heap[w.heap.size]? = some (.cells #[.string nm, .int .i64 bend, .slice sp n cap] 73 (0, 0)) by rw [hW0]; exact (two_new _ _ _).1)
  have HQ := Lib.hid (show W0.heap[w.heap.size + 1]? = some (.cells #[.int .i64 0, .int .i64 0, .int .i64 0, .int .i64 0, .int .i64 0, .int .i64 0] 77 (0, 0)) by rw [hW0]; exact (two_new _ _ _).2)
  have HB := Lib.hid hbel
  clear hW0 hbel
  refine (CL.out _ HB.out).mono ?_
  rintro e w1 ⟨rfl, hb⟩
  have HB1 := Lib.hid (trans' HB.out hb)
  have HQ1 := Lib.hid (keepb hb HQ.out)
  have HP1 := Lib.hid (keepb hb HP.out)
  clear hb HQ HP HB CL
  go_upto_region 2 with fail
  obtain ⟨W2, hW2⟩ : ∃ W2, W2 = w1.alloc (.cells #[.int .i64 At, .int .i64 Ax, .int .i64 Ay, .int .i64 Az, .int .i64 Ae, .int .i64 Bt, .int .i64 Bx, .int .i64 By, .int .i64 Bz, .int .i64 Be, .int .i64 p, .int .i64 q] 102) := ⟨_, rfl⟩
  have hbel : Below w1.heap.size w1 W2 := by rw [hW2]; exact new_below _ _
  have HL2 := Lib.hid (show W2.heap[w1.heap.size]? = some (.cells #[.int .i64 At, .int .i64 Ax, .int .i64 Ay, .int .i64 Az, .int .i64 Ae, .int .i64 Bt, .int .i64 Bx, .int .i64 By, .int .i64 Bz, .int .i64 Be, .int .i64 p, .int .i64 q] 102 (0, 0)) by rw [hW2]; exact heap_alloc_new _ _)
  rw [← hW2]
  have HB2 := Lib.hid (trans' HB1.out hbel)
  have HQ2 := Lib.hid (keepb hbel HQ1.out)
  have HP2 := Lib.hid (keepb hbel HP1.out)
  have HNE := Lib.hid (show w.heap.size + 1 < w1.heap.size ∧ w1.heap.size < W2.heap.size from ⟨lt_of_block HQ1.out, lt_of_block HL2.out⟩)
  clear hW2 hbel HB1 HQ1 HP1
  obtain ⟨k0, k1, k2, k3, k4, k5, k6, k7, k8, k9, k10, k11⟩ := cells12 HL2.out
  obtain ⟨p0, p1, p2⟩ := cells3 HP2.out
  go_upto_if 20 with fail
  refine (CS.out _).mono ?_
  rintro e w3 ⟨rfl, hb⟩
  have HL3 := Lib.hid (keepb hb HL2.out)
  have HB3 := Lib.hid (trans' HB2.out hb)
  have HQ3 := Lib.hid (keepb hb HQ2.out)
  have HSZ := Lib.hid hb.size
  clear hb k0 k1 k2 k3 k4 k5 k6 k7 k8 k9 k10 k11 p0 p1 p2 HL2 HB2 HQ2 HP2
  go_upto_if 20 with fail
  go_cut [6] from 20 to 20 (fun s6 wx => s6 = .int .i64 bd ∧ Hid (wx = w3))
  case first =>
    rcases hbs with ⟨rfl, HBS⟩ | ⟨rfl, HBS⟩
    · go_wp2_with fail
      go_meet
      case rel => exact ⟨by rw [HBS.out], rfl⟩
    · go_wp2_with fail
      go_meet
      case rel => exact ⟨by rw [HBS.out], rfl⟩
  obtain ⟨rfl, HW⟩ := hcut
  obtain ⟨w4, rfl⟩ : ∃ w4 : World, w4 = wc := ⟨_, rfl⟩
  obtain rfl : w4 = w3 := HW.out
  clear hbs HW CS
  go_upto_region 5 with fail
  obtain ⟨k0, k1, k2, k3, k4, k5, k6, k7, k8, k9, k10, k11⟩ := cells12 HL3.out
  go_cut [7, 8] from 21 to 28 (fun s7 s8 wx => ∃ b7 b8, s7 = .pointer (some ⟨b7, 0, none⟩) ∧ s8 = .pointer (some ⟨b8, 0, none⟩) ∧ Hid (Below w4.heap.size w4 wx) ∧ Hid (wx.heap[b7]? = some (.cells #[.int .i64 Ax, .int .i64 Ay, .int .i64 Az] 57 (0, 0))) ∧ Hid (wx.heap[b8]? = some (.cells #[.int .i64 Bx, .int .i64 By, .int .i64 Bz] 57 (0, 0))))
  case first =>
    go_region_held3 (fun W => W.cell? ⟨w1.heap.size, 0, none⟩ = some (.int .i64 At) ∧ W.cell? ⟨w1.heap.size, 1, none⟩ = some (.int .i64 Ax) ∧ W.cell? ⟨w1.heap.size, 2, none⟩ = some (.int .i64 Ay) ∧ W.cell? ⟨w1.heap.size, 3, none⟩ = some (.int .i64 Az) ∧ W.cell? ⟨w1.heap.size, 4, none⟩ = some (.int .i64 Ae) ∧ W.cell? ⟨w1.heap.size, 5, none⟩ = some (.int .i64 Bt) ∧ W.cell? ⟨w1.heap.size, 6, none⟩ = some (.int .i64 Bx) ∧ W.cell? ⟨w1.heap.size, 7, none⟩ = some (.int .i64 By) ∧ W.cell? ⟨w1.heap.size, 8, none⟩ = some (.int .i64 Bz) ∧ W.cell? ⟨w1.heap.size, 9, none⟩ = some (.int .i64 Be) ∧ W.cell? ⟨w1.heap.size, 10, none⟩ = some (.int .i64 p) ∧ W.cell? ⟨w1.heap.size, 11, none⟩ = some (.int .i64 q)) (with_reducible refine ⟨keepc ?_ k0, keepc ?_ k1, keepc ?_ k2, keepc ?_ k3, keepc ?_ k4, keepc ?_ k5, keepc ?_ k6, keepc ?_ k7, keepc ?_ k8, keepc ?_ k9, keepc ?_ k10, keepc ?_ k11⟩ <;> (repeat (first | with_reducible exact Below.refl _ _ | with_reducible refine andThen ?_ hbX | with_reducible refine andThen ?_ hbY | with_reducible refine alloc1 ?_ _ | with_reducible refine Below.drew ?_ | with_reducible refine drewN1 ?_ _ | with_reducible refine setC ?_ (by omega) _)) <;> done)
      (first
        | (go_at_call 62; (with_reducible refine (CA1.out _).mono ?_); rintro e wX ⟨rfl, rfl⟩)
        | (go_at_call 62; (with_reducible refine (CA2.out _).mono ?_); rintro e wY ⟨rfl, rfl⟩))
    all_goals
      go_wp2_with fail
      go_meet
      case rel => exact ⟨_, _, rfl, rfl, Lib.hid (by (repeat (first | with_reducible exact Below.refl _ _ | with_reducible refine alloc1 ?_ _ | with_reducible refine Below.drew ?_ | with_reducible refine drewN1 ?_ _ | with_reducible refine setC ?_ (by omega) _))), Lib.hid (by (repeat (first | ((with_reducible refine hnew ?_); (simp; done)) | with_reducible refine hdrew ?_ | with_reducible refine hold ?_))), Lib.hid (by (repeat (first | ((with_reducible refine hnew ?_); (simp; done)) | with_reducible refine hdrew ?_ | with_reducible refine hold ?_)))⟩
  obtain ⟨b7, b8, rfl, rfl, HBX, H7, H8⟩ := hcut
  obtain ⟨w5, rfl⟩ : ∃ w5 : World, w5 = wc := ⟨_, rfl⟩
  have HL5 := Lib.hid (keepb HBX.out HL3.out)
  have HQ5 := Lib.hid (keepb HBX.out HQ3.out)
  have HB5 := Lib.hid (trans' HB3.out HBX.out)
  have HS5 := Lib.hid (show w.heap.size + 1 < w5.heap.size by have := HBX.out.size; have := HNE.out; have := HSZ.out; omega)
  clear k0 k1 k2 k3 k4 k5 k6 k7 k8 k9 k10 k11 HL3 HQ3 HB3 HBX HNE HSZ CA1 CA2
  go_wp2_with fail
  obtain ⟨W6, hW6⟩ : ∃ W6, W6 = w5.alloc (.cells #[.int .i64 0, .int .i64 0, .int .i64 0, .int .i64 0, .int .i64 0, .int .i64 0] 77) := ⟨_, rfl⟩
  have HB6 := Lib.hid (show Below w5.heap.size w5 W6 by rw [hW6]; exact new_below _ _)
  have HX6 := Lib.hid (show W6.heap[w5.heap.size]? = some (.cells (boxCells LO HI 0) 77 (0, 0)) by rw [hW6]; exact heap_alloc_new _ _)
  rw [← hW6]
  clear hW6
  go_loopw [29] (fun i wr => ∃ k : Nat, k ≤ 3 ∧ i = .int .i64 k ∧ Hid (Below w5.heap.size w5 wr) ∧ Hid (wr.heap[w5.heap.size]? = some (.cells (boxCells LO HI k) 77 (0, 0)))) (fun i _ => 3 - (intV i).toNat)
  case atStart => exact ⟨0, Nat.zero_le _, rfl, HB6, HX6⟩
  case round =>
    obtain ⟨k, hk, rfl, HBZ, HXZ⟩ := hrel
    obtain ⟨wz, rfl⟩ : ∃ wz : World, wz = wr := ⟨_, rfl⟩
    clear HB6 HX6
    by_cases hlt : k < 3
    · have HLZ := Lib.hid (keepb HBZ.out HL5.out)
      have H7Z := Lib.hid (keepb HBZ.out H7.out)
      have H8Z := Lib.hid (keepb HBZ.out H8.out)
      obtain ⟨k0, k1, k2, k3, k4, k5, k6, k7, k8, k9, k10, k11⟩ := cells12 HLZ.out
      have c7 := coord_cell hlt H7Z.out A EA.out.1 EA.out.2.1 EA.out.2.2.1
      have c8 := coord_cell hlt H8Z.out B EB.out.1 EB.out.2.1 EB.out.2.2.1
      have ba := cOf_bd KA.out k
      have bb := cOf_bd KB.out k
      have ea : 0 ≤ Ae ∧ Ae ≤ 100000 := by have := KA.out.e0; have := KA.out.e1; have := EA.out.2.2.2; omega
      have eb : 0 ≤ Be ∧ Be ≤ 100000 := by have := KB.out.e0; have := KB.out.e1; have := EB.out.2.2.2; omega
      have HL := Lib.hid (show LO k = pt (cOf A k - Ae) (cOf B k - Be) p q / q - bd by rw [← EA.out.2.2.2, ← EB.out.2.2.2]; exact HLO.out k)
      have HH := Lib.hid (show HI k = ceilI (pt (cOf A k + Ae) (cOf B k + Be) p q) q + bd by rw [← EA.out.2.2.2, ← EB.out.2.2.2]; exact HHI.out k)
      generalize cOf A k = ca at *
      generalize cOf B k = cb at *
      have s1 := pt_size (ca - Ae) (cb - Be) p q (by omega) (by omega) (by omega) (by omega) HA.out.1 HA.out.2.1 HA.out.2.2.2
      have s2 := pt_size (ca + Ae) (cb + Be) p q (by omega) (by omega) (by omega) (by omega) HA.out.1 HA.out.2.1 HA.out.2.2.2
      have CB1 := Lib.hid (fun W => CB.out W (ca - Ae) (cb - Be) (by omega) (by omega))
      have CB2 := Lib.hid (fun W => CB.out W (ca + Ae) (cb + Be) (by omega) (by omega))
      have e1 := Lib.hid (IntWalk.i64_in (ca - Ae) (by omega))
      have e2 := Lib.hid (IntWalk.i64_in (cb - Be) (by omega))
      have e3 := Lib.hid (IntWalk.i64_in (ca + Ae) (by omega))
      have e4 := Lib.hid (IntWalk.i64_in (cb + Be) (by omega))
      generalize pt (ca - Ae) (cb - Be) p q = P1 at *
      generalize pt (ca + Ae) (cb + Be) p q = P2 at *
      have CF := Lib.hid (fun W => same (floorOf_any P1 q HA.out.2.2.1 (by have := HA.out; omega) (by omega) (by omega) W))
      have CC := Lib.hid (fun W => same (ceilOf_any P2 q HA.out.2.2.1 (by have := HA.out; omega) (by omega) (by omega) W))
      have z1 := ediv_size P1 q 4000000000000 (by omega) HA.out.2.2.1 s1.1 s1.2
      have z2 := ediv_size (-P2) q 4000000000000 (by omega) HA.out.2.2.1 (by omega) (by omega)
      have z3 : -4000000000000 ≤ ceilI P2 q ∧ ceilI P2 q ≤ 4000000000000 := by unfold ceilI; omega
      clear s1 s2 z2 bb
      generalize P1 / q = F1 at *
      generalize ceilI P2 q = F2 at *
      have e5 := Lib.hid (IntWalk.i64_in (F1 - bd) (by omega))
      have e6 := Lib.hid (IntWalk.i64_in (F2 + bd) (by omega))
      clear z1 z3 ea eb ba
      have x0 : (0 : Int) ≤ (k : Int) := by omega
      have x1 : (k : Int) < 3 := by omega
      go_upto_region 10 with fail
      have e1' := e1.out
      have e2' := e2.out
      go_region_held3 (fun W => W.cell? ⟨w1.heap.size, 0, none⟩ = some (.int .i64 At) ∧ W.cell? ⟨w1.heap.size, 1, none⟩ = some (.int .i64 Ax) ∧ W.cell? ⟨w1.heap.size, 2, none⟩ = some (.int .i64 Ay) ∧ W.cell? ⟨w1.heap.size, 3, none⟩ = some (.int .i64 Az) ∧ W.cell? ⟨w1.heap.size, 4, none⟩ = some (.int .i64 Ae) ∧ W.cell? ⟨w1.heap.size, 5, none⟩ = some (.int .i64 Bt) ∧ W.cell? ⟨w1.heap.size, 6, none⟩ = some (.int .i64 Bx) ∧ W.cell? ⟨w1.heap.size, 7, none⟩ = some (.int .i64 By) ∧ W.cell? ⟨w1.heap.size, 8, none⟩ = some (.int .i64 Bz) ∧ W.cell? ⟨w1.heap.size, 9, none⟩ = some (.int .i64 Be) ∧ W.cell? ⟨w1.heap.size, 10, none⟩ = some (.int .i64 p) ∧ W.cell? ⟨w1.heap.size, 11, none⟩ = some (.int .i64 q) ∧ W.cell? ⟨b7, k, none⟩ = some (.int .i64 ca) ∧ W.cell? ⟨b8, k, none⟩ = some (.int .i64 cb)) (with_reducible refine ⟨keepc ?_ k0, keepc ?_ k1, keepc ?_ k2, keepc ?_ k3, keepc ?_ k4, keepc ?_ k5, keepc ?_ k6, keepc ?_ k7, keepc ?_ k8, keepc ?_ k9, keepc ?_ k10, keepc ?_ k11, keepc ?_ c7, keepc ?_ c8⟩ <;> (repeat (first | with_reducible exact Below.refl _ _ | with_reducible refine andThen ?_ hbX | with_reducible refine alloc1 ?_ _ | with_reducible refine Below.drew ?_ | with_reducible refine drewN1 ?_ _ | with_reducible refine setC ?_ (by omega) _)) <;> done)
        (first
          | (go_at_call 63; (with_reducible refine (CB1.out _).mono ?_); rintro e wX ⟨rfl, hbX⟩))
      have HBX := Lib.hid (show Below wz.heap.size wz wX by (repeat (first | with_reducible exact Below.refl _ _ | with_reducible refine andThen ?_ hbX | with_reducible refine alloc1 ?_ _ | with_reducible refine Below.drew ?_ | with_reducible refine drewN1 ?_ _ | with_reducible refine setC ?_ (by omega) _)))
      clear hbX e1' e2' k0 k1 k2 k3 k4 k5 k6 k7 k8 k9 k10 k11
      obtain ⟨k0, k1, k2, k3, k4, k5, k6, k7, k8, k9, k10, k11⟩ := cells12 (keepb HBX.out HLZ.out)
      have d7 := keepc HBX.out c7
      have d8 := keepc HBX.out c8
      clear c7 c8
      have e3' := e3.out
      have e4' := e4.out
      go_upto_region 11 with fail
      go_region_held3 (fun W => W.cell? ⟨w1.heap.size, 0, none⟩ = some (.int .i64 At) ∧ W.cell? ⟨w1.heap.size, 1, none⟩ = some (.int .i64 Ax) ∧ W.cell? ⟨w1.heap.size, 2, none⟩ = some (.int .i64 Ay) ∧ W.cell? ⟨w1.heap.size, 3, none⟩ = some (.int .i64 Az) ∧ W.cell? ⟨w1.heap.size, 4, none⟩ = some (.int .i64 Ae) ∧ W.cell? ⟨w1.heap.size, 5, none⟩ = some (.int .i64 Bt) ∧ W.cell? ⟨w1.heap.size, 6, none⟩ = some (.int .i64 Bx) ∧ W.cell? ⟨w1.heap.size, 7, none⟩ = some (.int .i64 By) ∧ W.cell? ⟨w1.heap.size, 8, none⟩ = some (.int .i64 Bz) ∧ W.cell? ⟨w1.heap.size, 9, none⟩ = some (.int .i64 Be) ∧ W.cell? ⟨w1.heap.size, 10, none⟩ = some (.int .i64 p) ∧ W.cell? ⟨w1.heap.size, 11, none⟩ = some (.int .i64 q) ∧ W.cell? ⟨b7, k, none⟩ = some (.int .i64 ca) ∧ W.cell? ⟨b8, k, none⟩ = some (.int .i64 cb)) (with_reducible refine ⟨keepc ?_ k0, keepc ?_ k1, keepc ?_ k2, keepc ?_ k3, keepc ?_ k4, keepc ?_ k5, keepc ?_ k6, keepc ?_ k7, keepc ?_ k8, keepc ?_ k9, keepc ?_ k10, keepc ?_ k11, keepc ?_ d7, keepc ?_ d8⟩ <;> (repeat (first | with_reducible exact Below.refl _ _ | with_reducible refine andThen ?_ hbY | with_reducible refine alloc1 ?_ _ | with_reducible refine Below.drew ?_ | with_reducible refine drewN1 ?_ _ | with_reducible refine setC ?_ (by omega) _)) <;> done)
        (first
          | (go_at_call 63; (with_reducible refine (CB2.out _).mono ?_); rintro e wY ⟨rfl, hbY⟩))
      have HBY := Lib.hid (show Below wz.heap.size wz wY from trans' HBX.out (by (repeat (first | with_reducible exact Below.refl _ _ | with_reducible refine andThen ?_ hbY | with_reducible refine alloc1 ?_ _ | with_reducible refine Below.drew ?_ | with_reducible refine drewN1 ?_ _ | with_reducible refine setC ?_ (by omega) _))))
      clear hbY HBX e3' e4' d7 d8 k0 k1 k2 k3 k4 k5 k6 k7 k8 k9 k10 k11
      go_upto_region 12 with fail
      refine region_tail 15 (by kernel_rfl) (by kernel_rfl) (fun W hW => ?_)
      simp only [List.take_succ_cons, List.take_zero, List.drop_succ_cons, List.drop_zero]
      have HBW := Lib.hid (show Below wz.heap.size wz W by rw [hW]; exact HBY.out.drew)
      clear hW HBY
      have k11 := (cells12 (keepb HBW.out HLZ.out)).2.2.2.2.2.2.2.2.2.2.2
      obtain ⟨y0, y1, y2, y3⟩ := box_cell hlt (keepb HBW.out HXZ.out)
      have e5' := e5.out
      have e6' := e6.out
      still_step
      still_step
      still_step
      still_step
      still_call (CF.out _)
      still_step
      still_step
      still_step
      still_step
      still_step
      still_call (CC.out _)
      still_step
      still_step
      still_step
      still_step
      refine wpStill_nil ?_
      clear e5' e6'
      go_wp2_with fail
      go_roundw
      case rel => exact ⟨k + 1, by omega, by go_num, Lib.hid (setC (setC (trans' HBZ.out HBW.out) (Nat.le_refl _) _) (Nat.le_refl _) _), Lib.hid (by rw [← HL.out, ← HH.out]; exact box_step hlt (keepb HBW.out HXZ.out))⟩
      case measure => simp [intV]; omega
    · obtain rfl : k = 3 := by omega
      have HQZ := Lib.hid (keepb HBZ.out HQ5.out)
      have hsz := HS5.out
      have hsz2 := HBZ.out.size
      have hX : wz.heap[w5.heap.size]? = some (.cells #[.int .i64 (LO 0), .int .i64 (HI 0), .int .i64 (LO 1), .int .i64 (HI 1), .int .i64 (LO 2), .int .i64 (HI 2)] 77 (0, 0)) := HXZ.out
      obtain ⟨y0, y1, y2, y3, y4, y5⟩ := cells6 hX
      obtain ⟨q0, q1, q2, q3, q4, q5⟩ := cells6 HQZ.out
      obtain ⟨f0, f1, f2, f3, f4, f5⟩ := free6 HQZ.out
      have hne : w5.heap.size ≠ w.heap.size + 1 := by omega
      have hR : Ending.returned (.agg #[.int .i64 (LO 0), .int .i64 (HI 0), .int .i64 (LO 1), .int .i64 (HI 1), .int .i64 (LO 2), .int .i64 (HI 2)]) = Ending.returned (.agg (boxCells LO HI 3)) := rfl
      have HRR := Lib.hid hR
      clear hX hR HXZ
      generalize LO 0 = L0 at *
      generalize LO 1 = L1 at *
      generalize LO 2 = L2 at *
      generalize HI 0 = H0 at *
      generalize HI 1 = H1 at *
      generalize HI 2 = H2 at *
      go_wp2_with fail
      refine bodyPost_ret (v := .agg #[.int .i64 L0, .int .i64 H0, .int .i64 L1, .int .i64 H1, .int .i64 L2, .int .i64 H2]) (by simp [results, Try.results37, go_sem, q0, q1, q2, q3, q4, q5]) rfl ⟨HRR.out, ?_⟩
      exact setC (setC (setC (setC (setC (setC (trans' HB5.out HBZ.out) (by omega) _) (by omega) _) (by omega) _) (by omega) _) (by omega) _) (by omega) _
end Go.Proofs.Ytmbolmmcfnfamaa.Orb
