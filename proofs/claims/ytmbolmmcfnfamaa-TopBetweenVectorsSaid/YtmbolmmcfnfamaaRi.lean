import Derived.Test.YtmbolmmcfnfamaaRh
import Derived.Outline
import Derived.Deep.RegionHeld3
import Derived.Deep.CutRange
namespace Go.Proofs.Ytmbolmmcfnfamaa.Orb
open Go.RowKit Lib

def legCells (A B : St) (p q : Int) : Array Value := #[.int .i64 A.t, .int .i64 A.x, .int .i64 A.y, .int .i64 A.z, .int .i64 A.e, .int .i64 B.t, .int .i64 B.x, .int .i64 B.y, .int .i64 B.z, .int .i64 B.e, .int .i64 p, .int .i64 q]
/-- a leg in its box -/
def LegIn (W : World) (b : Nat) (A B : St) (p q : Int) : Prop := W.heap[b]? = some (.cells (legCells A B p q) 102 (0, 0))
theorem LegIn.next {w W : World} {b : Nat} {A B : St} {p q : Int} (h : LegIn w b A B p q) (hb : Below w.heap.size w W) : LegIn W b A B p q := keepb hb h

set_option maxRecDepth 100000 in
theorem nearest_any (A B : St) (p q a b : Int) (ha : -100000000 ≤ a ∧ a ≤ 100000000) (hb : -100000000 ≤ b ∧ b ≤ 100000000) (hp : 0 ≤ p) (hq : p ≤ q) (hq1 : 0 < q) (hq2 : q ≤ 20000) (w : World) :
    Calls Try.prog 75 #[legV A B p q, .int .i64 a, .int .i64 b] w fun e w' => e = .returned (.int .i64 (nearI (pt a b p q) q)) ∧ Below w.heap.size w w' := by
  have hs := pt_size a b p q (by omega) (by omega) (by omega) (by omega) hp hq hq2
  have CB := Lib.hid (fun W => between_any A B p q a b (by omega) (by omega) hp hq hq2 W)
  have CN := Lib.hid (fun W => nearestTo_any (pt a b p q) q hq1 (by omega) (by omega) (by omega) W)
  clear hs
  unfold legV at CB ⊢
  generalize nearI (pt a b p q) q = R at *
  generalize pt a b p q = P at *
  obtain ⟨At, Ax, Ay, Az, Ae⟩ := A
  obtain ⟨Bt, Bx, By, Bz, Be⟩ := B
  dsimp only at *
  go_enter Try.func75, Try.ntmps75
  go_wp2_with fail
  obtain ⟨W0, hW0⟩ : ∃ W0, W0 = w.alloc (.cells #[.int .i64 At, .int .i64 Ax, .int .i64 Ay, .int .i64 Az, .int .i64 Ae, .int .i64 Bt, .int .i64 Bx, .int .i64 By, .int .i64 Bz, .int .i64 Be, .int .i64 p, .int .i64 q] 102) := ⟨_, rfl⟩
  have HB : Hid (Below w.heap.size w W0) := by rw [hW0]; exact new_below _ _
  obtain ⟨k0, k1, k2, k3, k4, k5, k6, k7, k8, k9, k10, k11⟩ := cells12 (W := W0) (b := w.heap.size) (by rw [hW0]; exact heap_alloc_new _ _)
  rw [← hW0]
  clear hW0
  go_region_held3 (fun W => W.cell? ⟨w.heap.size, 0, none⟩ = some (.int .i64 At) ∧ W.cell? ⟨w.heap.size, 1, none⟩ = some (.int .i64 Ax) ∧ W.cell? ⟨w.heap.size, 2, none⟩ = some (.int .i64 Ay) ∧ W.cell? ⟨w.heap.size, 3, none⟩ = some (.int .i64 Az) ∧ W.cell? ⟨w.heap.size, 4, none⟩ = some (.int .i64 Ae) ∧ W.cell? ⟨w.heap.size, 5, none⟩ = some (.int .i64 Bt) ∧ W.cell? ⟨w.heap.size, 6, none⟩ = some (.int .i64 Bx) ∧ W.cell? ⟨w.heap.size, 7, none⟩ = some (.int .i64 By) ∧ W.cell? ⟨w.heap.size, 8, none⟩ = some (.int .i64 Bz) ∧ W.cell? ⟨w.heap.size, 9, none⟩ = some (.int .i64 Be) ∧ W.cell? ⟨w.heap.size, 10, none⟩ = some (.int .i64 p) ∧ W.cell? ⟨w.heap.size, 11, none⟩ = some (.int .i64 q)) (with_reducible refine ⟨keepc ?_ k0, keepc ?_ k1, keepc ?_ k2, keepc ?_ k3, keepc ?_ k4, keepc ?_ k5, keepc ?_ k6, keepc ?_ k7, keepc ?_ k8, keepc ?_ k9, keepc ?_ k10, keepc ?_ k11⟩ <;> (repeat (first | with_reducible exact Below.refl _ _ | with_reducible refine andThen ?_ hbP | with_reducible refine alloc1 ?_ _ | with_reducible refine Below.drew ?_ | with_reducible refine drewN1 ?_ _ | with_reducible refine setC ?_ (by omega) _)) <;> done)
    (first
      | (go_at_call 63; (with_reducible refine (CB.out _).mono ?_); rintro e wP ⟨rfl, hbP⟩)
      | (go_at_call 99; (with_reducible refine (CN.out _).mono ?_); rintro e w1 ⟨rfl, rfl⟩))
  all_goals
    go_wp2_with fail
    go_ret
    exact ⟨rfl, andThen HB.out (by (repeat (first | with_reducible exact Below.refl _ _ | with_reducible refine andThen ?_ hbP | with_reducible refine alloc1 ?_ _ | with_reducible refine Below.drew ?_ | with_reducible refine drewN1 ?_ _ | with_reducible refine setC ?_ (by omega) _)))⟩

theorem two_new (W : World) (o o' : Obj) : ((W.alloc o).alloc o').heap[W.heap.size]? = some o ∧ ((W.alloc o).alloc o').heap[W.heap.size + 1]? = some o' := by
  refine ⟨?_, ?_⟩
  · rw [Below.heap_alloc _ _ _ (by simp)]; exact heap_alloc_new _ _
  · have := heap_alloc_new (W.alloc o) o'
    rwa [World.size_alloc] at this
theorem two_drew (W : World) (o o' : Obj) : ((W.alloc o).alloc o').drew.heap[W.heap.size]? = some o ∧ ((W.alloc o).alloc o').drew.heap[W.heap.size + 1]? = some o' := two_new W o o'
theorem free3 {W : World} {b : Nat} {cs : Array Value} {t : TypeId} (h : W.heap[b]? = some (.cells cs t (0, 0))) : W.frozen? ⟨b, 0, none⟩ = false ∧ W.frozen? ⟨b, 1, none⟩ = false ∧ W.frozen? ⟨b, 2, none⟩ = false :=
  ⟨frozen_of_row W b 0 cs t h, frozen_of_row W b 1 cs t h, frozen_of_row W b 2 cs t h⟩

/-- three cells of another block are written -/
theorem set3p {W : World} {g : Nat} {p : Addr} {u0 u1 u2 : Value} {v : Option Value} (h : W.cell? p = v) (hb : p.block ≠ g) : (((W.setCell ⟨g, 0, none⟩ u0).setCell ⟨g, 1, none⟩ u1).setCell ⟨g, 2, none⟩ u2).cell? p = v := by
  rw [← h]
  exact World.cell?_of_block ((Below.heap_setCell _ _ _ _ hb).trans ((Below.heap_setCell _ _ _ _ hb).trans (Below.heap_setCell _ _ _ _ hb)))
theorem set3k {W : World} {b o g : Nat} {v u0 u1 u2 : Value} (h : W.cell? ⟨b, o, none⟩ = some v) (hne : b ≠ g) : (((W.setCell ⟨g, 0, none⟩ u0).setCell ⟨g, 1, none⟩ u1).setCell ⟨g, 2, none⟩ u2).cell? ⟨b, o, none⟩ = some v :=
  set3p h hne

set_option maxRecDepth 100000 in
set_option maxHeartbeats 4000000 in
/-- THE NOMINAL PLACE -/
theorem nominalAt_any (v : Value) (nm : ByteArray) (bend : Int) (L : List St) (hR : Rt bend L) (t : Int) (h0 : fst L ≤ t) (h1 : t ≤ lst L) (w : World) (hv : OV w v nm bend L) :
    Calls Try.prog 52 #[v, .int .i64 t] w fun e w' => e = .returned (.agg #[.int .i64 (nomC L t 0), .int .i64 (nomC L t 1), .int .i64 (nomC L t 2)]) ∧ Below w.heap.size w w' := by
  have CL := Lib.hid (fun W (h : Below w.heap.size w W) => legAt_any v nm bend L hR t h0 h1 W (hv.next h))
  have hArc := (inArc hR t h0 h1).arc hR
  obtain ⟨sp, cap, rfl, -, -, -⟩ := hv.form
  unfold nomC
  clear hv hR
  generalize gt L (arcP L t) = A at *
  generalize gt L (arcP L t + 1) = B at *
  obtain ⟨bA, bB, b0, b1, bw, bw2⟩ := hArc
  have CX := Lib.hid (fun W => nearest_any A B (t - A.t) (B.t - A.t) A.x B.x ⟨bA.x0, bA.x1⟩ ⟨bB.x0, bB.x1⟩ (by omega) (by omega) (by omega) bw2 W)
  have CY := Lib.hid (fun W => nearest_any A B (t - A.t) (B.t - A.t) A.y B.y ⟨bA.y0, bA.y1⟩ ⟨bB.y0, bB.y1⟩ (by omega) (by omega) (by omega) bw2 W)
  have CZ := Lib.hid (fun W => nearest_any A B (t - A.t) (B.t - A.t) A.z B.z ⟨bA.z0, bA.z1⟩ ⟨bB.z0, bB.z1⟩ (by omega) (by omega) (by omega) bw2 W)
  have eX : nomS A B t 0 = nearI (pt A.x B.x (t - A.t) (B.t - A.t)) (B.t - A.t) := rfl
  have eY : nomS A B t 1 = nearI (pt A.y B.y (t - A.t) (B.t - A.t)) (B.t - A.t) := rfl
  have eZ : nomS A B t 2 = nearI (pt A.z B.z (t - A.t) (B.t - A.t)) (B.t - A.t) := rfl
  rw [← eX] at CX
  rw [← eY] at CY
  rw [← eZ] at CZ
  unfold legV at CL CX CY CZ
  generalize L.length = n at *
  clear bA bB b0 b1 bw bw2 eX eY eZ h0 h1
  generalize nomS A B t 0 = RX at *
  generalize nomS A B t 1 = RY at *
  generalize nomS A B t 2 = RZ at *
  obtain ⟨At, Ax, Ay, Az, Ae⟩ := A
  obtain ⟨Bt, Bx, By, Bz, Be⟩ := B
  dsimp only at *
  generalize t - At = p at *
  generalize Bt - At = q at *
  go_enter Try.func52, Try.ntmps52
  go_wp2_with fail
  obtain ⟨W0, hW0⟩ : ∃ W0, W0 = (w.alloc (.cells #[.string nm, .int .i64 bend, .slice sp n cap] 73)).alloc (.cells #[.int .i64 0, .int .i64 0, .int .i64 0] 43) := ⟨_, rfl⟩
  rw [← hW0]
  have hbel : Below w.heap.size w W0 := by rw [hW0]; (repeat (first | with_reducible exact Below.refl _ _ | with_reducible refine alloc1 ?_ _ | with_reducible refine Below.drew ?_ | with_reducible refine drewN1 ?_ _ | with_reducible refine setC ?_ (by omega) _))
  have HP := Lib.hid (show W0.heap[w.heap.size]? = some (.cells #[.string nm, .int .i64 bend, .slice sp n cap] 73 (0, 0)) by rw [hW0]; exact (two_new _ _ _).1)
  have HQ := Lib.hid (show W0.heap[w.heap.size + 1]? = some (.cells #[.int .i64 0, .int .i64 0, .int .i64 0] 43 (0, 0)) by rw [hW0]; exact (two_new _ _ _).2)
  have HB := Lib.hid hbel
  clear hW0 hbel
  refine (CL.out _ HB.out).mono ?_
  rintro e w1 ⟨rfl, hb⟩
  have HB1 := Lib.hid (trans' HB.out hb)
  have HQ1 := Lib.hid (keepb hb HQ.out)
  clear hb HQ HP HB CL
  go_wp2_with fail
  obtain ⟨W2, hW2⟩ : ∃ W2, W2 = w1.alloc (.cells #[.int .i64 At, .int .i64 Ax, .int .i64 Ay, .int .i64 Az, .int .i64 Ae, .int .i64 Bt, .int .i64 Bx, .int .i64 By, .int .i64 Bz, .int .i64 Be, .int .i64 p, .int .i64 q] 102) := ⟨_, rfl⟩
  have hbel : Below w1.heap.size w1 W2 := by rw [hW2]; exact new_below _ _
  have HL2 := Lib.hid (show W2.heap[w1.heap.size]? = some (.cells #[.int .i64 At, .int .i64 Ax, .int .i64 Ay, .int .i64 Az, .int .i64 Ae, .int .i64 Bt, .int .i64 Bx, .int .i64 By, .int .i64 Bz, .int .i64 Be, .int .i64 p, .int .i64 q] 102 (0, 0)) by rw [hW2]; exact heap_alloc_new _ _)
  rw [← hW2]
  have HB2 := Lib.hid (trans' HB1.out hbel)
  have HQ2 := Lib.hid (keepb hbel HQ1.out)
  have HNE := Lib.hid (show w.heap.size + 1 < w1.heap.size ∧ w1.heap.size < W2.heap.size from ⟨lt_of_block HQ1.out, lt_of_block HL2.out⟩)
  clear hW2 hbel HB1 HQ1
  obtain ⟨k0, k1, k2, k3, k4, k5, k6, k7, k8, k9, k10, k11⟩ := cells12 HL2.out
  go_cut [6, 7] from 11 (fun s6 s7 wx => ∃ b6 b7, s6 = .pointer (some ⟨b6, 0, none⟩) ∧ s7 = .pointer (some ⟨b7, 0, none⟩) ∧ Hid (W2.heap.size ≤ b6 ∧ W2.heap.size ≤ b7) ∧ Hid (Below W2.heap.size W2 wx) ∧ Hid (wx.heap[b6]? = some (.cells #[.int .i64 Ax, .int .i64 Ay, .int .i64 Az] 43 (0, 0))) ∧ Hid (wx.heap[b7]? = some (.cells #[.int .i64 Bx, .int .i64 By, .int .i64 Bz] 43 (0, 0))))
  case first =>
    go_region_held3 (fun W => W.cell? ⟨w1.heap.size, 0, none⟩ = some (.int .i64 At) ∧ W.cell? ⟨w1.heap.size, 1, none⟩ = some (.int .i64 Ax) ∧ W.cell? ⟨w1.heap.size, 2, none⟩ = some (.int .i64 Ay) ∧ W.cell? ⟨w1.heap.size, 3, none⟩ = some (.int .i64 Az) ∧ W.cell? ⟨w1.heap.size, 4, none⟩ = some (.int .i64 Ae) ∧ W.cell? ⟨w1.heap.size, 5, none⟩ = some (.int .i64 Bt) ∧ W.cell? ⟨w1.heap.size, 6, none⟩ = some (.int .i64 Bx) ∧ W.cell? ⟨w1.heap.size, 7, none⟩ = some (.int .i64 By) ∧ W.cell? ⟨w1.heap.size, 8, none⟩ = some (.int .i64 Bz) ∧ W.cell? ⟨w1.heap.size, 9, none⟩ = some (.int .i64 Be) ∧ W.cell? ⟨w1.heap.size, 10, none⟩ = some (.int .i64 p) ∧ W.cell? ⟨w1.heap.size, 11, none⟩ = some (.int .i64 q)) (with_reducible refine ⟨keepc ?_ k0, keepc ?_ k1, keepc ?_ k2, keepc ?_ k3, keepc ?_ k4, keepc ?_ k5, keepc ?_ k6, keepc ?_ k7, keepc ?_ k8, keepc ?_ k9, keepc ?_ k10, keepc ?_ k11⟩ <;> (repeat (first | with_reducible exact Below.refl _ _ | with_reducible refine alloc1 ?_ _ | with_reducible refine Below.drew ?_ | with_reducible refine drewN1 ?_ _ | with_reducible refine setC ?_ (by omega) _)) <;> done) (fail)
    all_goals
      go_wp2_with fail
      go_meet
      case rel =>
        first
          | exact ⟨_, _, rfl, rfl, Lib.hid ⟨Nat.le_refl _, Nat.le_succ _⟩, Lib.hid (by (repeat (first | with_reducible exact Below.refl _ _ | with_reducible refine alloc1 ?_ _ | with_reducible refine Below.drew ?_ | with_reducible refine drewN1 ?_ _ | with_reducible refine setC ?_ (by omega) _))), Lib.hid (two_drew _ _ _).1, Lib.hid (two_drew _ _ _).2⟩
          | exact ⟨_, _, rfl, rfl, Lib.hid ⟨Nat.le_succ _, Nat.le_refl _⟩, Lib.hid (by (repeat (first | with_reducible exact Below.refl _ _ | with_reducible refine alloc1 ?_ _ | with_reducible refine Below.drew ?_ | with_reducible refine drewN1 ?_ _ | with_reducible refine setC ?_ (by omega) _))), Lib.hid (two_drew _ _ _).2, Lib.hid (two_drew _ _ _).1⟩
  obtain ⟨b6, b7, rfl, rfl, HLE, HBX, H6, H7⟩ := hcut
  obtain ⟨w5, rfl⟩ : ∃ w5 : World, w5 = wc := ⟨_, rfl⟩
  have HL5 := Lib.hid (keepb HBX.out HL2.out)
  have HQ5 := Lib.hid (keepb HBX.out HQ2.out)
  have HB5 := Lib.hid (trans' HB2.out HBX.out)
  clear k0 k1 k2 k3 k4 k5 k6 k7 k8 k9 k10 k11 HL2 HQ2 HB2 HBX
  obtain ⟨k0, k1, k2, k3, k4, k5, k6, k7, k8, k9, k10, k11⟩ := cells12 HL5.out
  obtain ⟨m0, m1, m2⟩ := cells3 H6.out
  obtain ⟨n0, n1, n2⟩ := cells3 H7.out
  have hlt1 := lt_of_block HQ5.out
  have NE := Lib.hid (show w1.heap.size ≠ w.heap.size + 1 ∧ b6 ≠ w.heap.size + 1 ∧ b7 ≠ w.heap.size + 1 by have := HLE.out; have := HNE.out; omega)
  go_wp2_with fail
  go_region_held3 (fun W => W.cell? ⟨w1.heap.size, 0, none⟩ = some (.int .i64 At) ∧ W.cell? ⟨w1.heap.size, 1, none⟩ = some (.int .i64 Ax) ∧ W.cell? ⟨w1.heap.size, 2, none⟩ = some (.int .i64 Ay) ∧ W.cell? ⟨w1.heap.size, 3, none⟩ = some (.int .i64 Az) ∧ W.cell? ⟨w1.heap.size, 4, none⟩ = some (.int .i64 Ae) ∧ W.cell? ⟨w1.heap.size, 5, none⟩ = some (.int .i64 Bt) ∧ W.cell? ⟨w1.heap.size, 6, none⟩ = some (.int .i64 Bx) ∧ W.cell? ⟨w1.heap.size, 7, none⟩ = some (.int .i64 By) ∧ W.cell? ⟨w1.heap.size, 8, none⟩ = some (.int .i64 Bz) ∧ W.cell? ⟨w1.heap.size, 9, none⟩ = some (.int .i64 Be) ∧ W.cell? ⟨w1.heap.size, 10, none⟩ = some (.int .i64 p) ∧ W.cell? ⟨w1.heap.size, 11, none⟩ = some (.int .i64 q) ∧ W.cell? ⟨b6, 0, none⟩ = some (.int .i64 Ax) ∧ W.cell? ⟨b6, 1, none⟩ = some (.int .i64 Ay) ∧ W.cell? ⟨b6, 2, none⟩ = some (.int .i64 Az) ∧ W.cell? ⟨b7, 0, none⟩ = some (.int .i64 Bx) ∧ W.cell? ⟨b7, 1, none⟩ = some (.int .i64 By) ∧ W.cell? ⟨b7, 2, none⟩ = some (.int .i64 Bz))
    (first | (with_reducible refine ⟨keepc ?_ k0, keepc ?_ k1, keepc ?_ k2, keepc ?_ k3, keepc ?_ k4, keepc ?_ k5, keepc ?_ k6, keepc ?_ k7, keepc ?_ k8, keepc ?_ k9, keepc ?_ k10, keepc ?_ k11, keepc ?_ m0, keepc ?_ m1, keepc ?_ m2, keepc ?_ n0, keepc ?_ n1, keepc ?_ n2⟩ <;> (repeat (first | with_reducible exact Below.refl _ _ | with_reducible refine andThen ?_ hbX | with_reducible refine andThen ?_ hbY | with_reducible refine andThen ?_ hbZ | with_reducible refine alloc1 ?_ _ | with_reducible refine Below.drew ?_ | with_reducible refine drewN1 ?_ _ | with_reducible refine setC ?_ (by omega) _)) <;> done) | (with_reducible refine ⟨set3k (keepc ?_ k0) NE.out.1, set3k (keepc ?_ k1) NE.out.1, set3k (keepc ?_ k2) NE.out.1, set3k (keepc ?_ k3) NE.out.1, set3k (keepc ?_ k4) NE.out.1, set3k (keepc ?_ k5) NE.out.1, set3k (keepc ?_ k6) NE.out.1, set3k (keepc ?_ k7) NE.out.1, set3k (keepc ?_ k8) NE.out.1, set3k (keepc ?_ k9) NE.out.1, set3k (keepc ?_ k10) NE.out.1, set3k (keepc ?_ k11) NE.out.1, set3k (keepc ?_ m0) NE.out.2.1, set3k (keepc ?_ m1) NE.out.2.1, set3k (keepc ?_ m2) NE.out.2.1, set3k (keepc ?_ n0) NE.out.2.2, set3k (keepc ?_ n1) NE.out.2.2, set3k (keepc ?_ n2) NE.out.2.2⟩ <;> (repeat (first | with_reducible exact Below.refl _ _ | with_reducible refine andThen ?_ hbX | with_reducible refine andThen ?_ hbY | with_reducible refine andThen ?_ hbZ | with_reducible refine alloc1 ?_ _ | with_reducible refine Below.drew ?_ | with_reducible refine drewN1 ?_ _ | with_reducible refine setC ?_ (by omega) _)) <;> done))
    (first
      | (go_at_call 75; (with_reducible refine (CX.out _).mono ?_); rintro e wX ⟨rfl, hbX⟩; have HQX := Lib.hid (keepb (show Below w5.heap.size w5 wX by (repeat (first | with_reducible exact Below.refl _ _ | with_reducible refine andThen ?_ hbX | with_reducible refine andThen ?_ hbY | with_reducible refine andThen ?_ hbZ | with_reducible refine alloc1 ?_ _ | with_reducible refine Below.drew ?_ | with_reducible refine drewN1 ?_ _ | with_reducible refine setC ?_ (by omega) _))) HQ5.out); obtain ⟨q0, q1, q2⟩ := cells3 HQX.out; obtain ⟨f0, f1, f2⟩ := free3 HQX.out)
      | (go_at_call 75; (with_reducible refine (CY.out _).mono ?_); rintro e wY ⟨rfl, hbY⟩; have HQY := Lib.hid (keepb (show Below w5.heap.size w5 wY by (repeat (first | with_reducible exact Below.refl _ _ | with_reducible refine andThen ?_ hbX | with_reducible refine andThen ?_ hbY | with_reducible refine andThen ?_ hbZ | with_reducible refine alloc1 ?_ _ | with_reducible refine Below.drew ?_ | with_reducible refine drewN1 ?_ _ | with_reducible refine setC ?_ (by omega) _))) HQ5.out); obtain ⟨q0, q1, q2⟩ := cells3 HQY.out; obtain ⟨f0, f1, f2⟩ := free3 HQY.out)
      | (go_at_call 75; (with_reducible refine (CZ.out _).mono ?_); rintro e wZ ⟨rfl, hbZ⟩; have HQZ := Lib.hid (keepb (show Below w5.heap.size w5 wZ by (repeat (first | with_reducible exact Below.refl _ _ | with_reducible refine andThen ?_ hbX | with_reducible refine andThen ?_ hbY | with_reducible refine andThen ?_ hbZ | with_reducible refine alloc1 ?_ _ | with_reducible refine Below.drew ?_ | with_reducible refine drewN1 ?_ _ | with_reducible refine setC ?_ (by omega) _))) HQ5.out); obtain ⟨q0, q1, q2⟩ := cells3 HQZ.out; obtain ⟨f0, f1, f2⟩ := free3 HQZ.out))
  all_goals
    go_wp2_with fail
    refine bodyPost_ret (v := .agg #[.int .i64 RX, .int .i64 RY, .int .i64 RZ]) (by simp [results, Try.results52, go_sem, q0, q1, q2]) rfl ⟨rfl, ?_⟩
    refine setC (setC (setC (trans' HB5.out ?_) (by omega) _) (by omega) _) (by omega) _
    (repeat (first | with_reducible exact Below.refl _ _ | with_reducible refine andThen ?_ hbX | with_reducible refine andThen ?_ hbY | with_reducible refine andThen ?_ hbZ | with_reducible refine alloc1 ?_ _ | with_reducible refine Below.drew ?_ | with_reducible refine drewN1 ?_ _ | with_reducible refine setC ?_ (by omega) _))
end Go.Proofs.Ytmbolmmcfnfamaa.Orb
