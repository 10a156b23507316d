import Derived.Test.YtmbolmmcfnfamaaRk
import Derived.Test.YtmbolmmcfnfamaaRl
import Derived.Deep.RegionHeld3
namespace Go.Proofs.Ytmbolmmcfnfamaa.Orb
open Go.RowKit Lib

/-- the square from a place to the nominal one -/
def nsq (L : List St) (t x y z : Int) : Int := (nomC L t 0 - x) * (nomC L t 0 - x) + (nomC L t 1 - y) * (nomC L t 1 - y) + (nomC L t 2 - z) * (nomC L t 2 - z)

set_option maxRecDepth 100000 in
set_option maxHeartbeats 2000000 in
theorem nominalSquareAt_any (v : Value) (nm : ByteArray) (bend : Int) (L : List St) (hR : Rt bend L) (t : Int) (h0 : fst L ≤ t) (h1 : t ≤ lst L) (x y z : Int) (hp : placeE x y z = 0) (w : World) (hv : OV w v nm bend L) :
    Calls Try.prog 57 #[v, .int .i64 t, .agg #[.int .i64 x, .int .i64 y, .int .i64 z]] w fun e w' => e = .returned (.int .i64 (nsq L t x y z)) ∧ Below w.heap.size w w' := by
  have CN := Lib.hid (fun W (h : Below w.heap.size w W) => nominalAt_any v nm bend L hR t h0 h1 W (hv.next h))
  have hA := (inArc hR t h0 h1).arc hR
  obtain ⟨p1, p2, p3⟩ := (placeE_zero x y z).1 hp
  have b0 : -100000000 ≤ nomC L t 0 ∧ nomC L t 0 ≤ 100000000 := hA.nom 0
  have b1 : -100000000 ≤ nomC L t 1 ∧ nomC L t 1 ≤ 100000000 := hA.nom 1
  have b2 : -100000000 ≤ nomC L t 2 ∧ nomC L t 2 ≤ 100000000 := hA.nom 2
  obtain ⟨sp, cap, rfl, -, -, -⟩ := hv.form
  unfold nsq
  clear hv hR h0 h1 hp hA
  generalize nomC L t 0 = X at *
  generalize nomC L t 1 = Y at *
  generalize nomC L t 2 = Z at *
  generalize L.length = n at *
  have CL := Lib.hid (fun W => less_any X Y Z x y z (by omega) (by omega) (by omega) (by omega) (by omega) (by omega) W)
  have CP := Lib.hid (fun W => product_any (X - x) (Y - y) (Z - z) (X - x) (Y - y) (Z - z) (by omega) (by omega) (by omega) (by omega) (by omega) (by omega) W)
  generalize X - x = dx at *
  generalize Y - y = dy at *
  generalize Z - z = dz at *
  clear p1 p2 p3 b0 b1 b2
  go_enter Try.func57, Try.ntmps57
  go_wp2_with fail
  obtain ⟨W0, hW0⟩ : ∃ W0, W0 = (w.alloc (.cells #[.string nm, .int .i64 bend, .slice sp n cap] 73)).alloc (.cells #[.int .i64 x, .int .i64 y, .int .i64 z] 43) := ⟨_, rfl⟩
  rw [← hW0]
  have HB0 := Lib.hid (show Below w.heap.size w W0 by rw [hW0]; (repeat (first | with_reducible exact Below.refl _ _ | with_reducible refine alloc1 ?_ _ | with_reducible refine Below.drew ?_ | with_reducible refine drewN1 ?_ _ | with_reducible refine setC ?_ (by omega) _)))
  obtain ⟨k0, k1, k2⟩ := cells3 (show W0.heap[w.heap.size]? = some (.cells #[.string nm, .int .i64 bend, .slice sp n cap] 73 (0, 0)) by rw [hW0]; (repeat (first | ((with_reducible refine hnew ?_); (simp; done)) | with_reducible refine hdrew ?_ | with_reducible refine hold ?_)))
  obtain ⟨m0, m1, m2⟩ := cells3 (show W0.heap[w.heap.size + 1]? = some (.cells #[.int .i64 x, .int .i64 y, .int .i64 z] 43 (0, 0)) by rw [hW0]; (repeat (first | ((with_reducible refine hnew ?_); (simp; done)) | with_reducible refine hdrew ?_ | with_reducible refine hold ?_)))
  clear hW0
  go_cut [7] from 8 to 12 (fun s7 wx => ∃ b7, s7 = .pointer (some ⟨b7, 0, none⟩) ∧ Hid (Below W0.heap.size W0 wx) ∧ Hid (wx.heap[b7]? = some (.cells #[.int .i64 dx, .int .i64 dy, .int .i64 dz] 43 (0, 0))))
  case first =>
    go_region_held3 (fun W => W.cell? ⟨w.heap.size, 0, none⟩ = some (.string nm) ∧ W.cell? ⟨w.heap.size, 1, none⟩ = some (.int .i64 bend) ∧ W.cell? ⟨w.heap.size, 2, none⟩ = some (.slice sp n cap) ∧ W.cell? ⟨w.heap.size + 1, 0, none⟩ = some (.int .i64 x) ∧ W.cell? ⟨w.heap.size + 1, 1, none⟩ = some (.int .i64 y) ∧ W.cell? ⟨w.heap.size + 1, 2, none⟩ = some (.int .i64 z))
      (with_reducible refine ⟨keepc ?_ k0, keepc ?_ k1, keepc ?_ k2, keepc ?_ m0, keepc ?_ m1, keepc ?_ m2⟩ <;> (repeat (first | with_reducible exact Below.refl _ _ | with_reducible refine andThen ?_ hbN | with_reducible refine andThen ?_ hbL | with_reducible refine alloc1 ?_ _ | with_reducible refine Below.drew ?_ | with_reducible refine setC ?_ (by first | exact hbN.size | exact hbL.size | exact Nat.le_refl _ | (have := hbN.size; simp at this; omega)) _)) <;> done)
      (first
        | (go_at_call 52; (with_reducible refine (CN.out _ (trans' HB0.out (by (repeat (first | with_reducible exact Below.refl _ _ | with_reducible refine andThen ?_ hbN | with_reducible refine alloc1 ?_ _ | with_reducible refine Below.drew ?_ | with_reducible refine drewN1 ?_ _ | with_reducible refine setC ?_ (by omega) _))))).mono ?_); rintro e wN ⟨rfl, hbN⟩; first | (have QB := Lib.hid (keepb hbN (heap_alloc_new _ _)); obtain ⟨q0, q1, q2⟩ := cells3 QB.out; obtain ⟨f0, f1, f2⟩ := free3 QB.out) | skip)
        | (go_at_call 77; (with_reducible refine (CL.out _).mono ?_); rintro e wL ⟨rfl, hbL⟩; first | (have QB := Lib.hid (keepb hbL QB.out); obtain ⟨q0, q1, q2⟩ := cells3 QB.out; obtain ⟨f0, f1, f2⟩ := free3 QB.out) | (have QB := Lib.hid (keepb hbL (heap_alloc_new _ _)); obtain ⟨q0, q1, q2⟩ := cells3 QB.out; obtain ⟨f0, f1, f2⟩ := free3 QB.out) | skip))
    all_goals
      go_wp2_with fail
      go_meet
      case rel =>
        first
          | exact ⟨_, rfl, Lib.hid (by (repeat (first | with_reducible exact Below.refl _ _ | with_reducible refine andThen ?_ hbN | with_reducible refine andThen ?_ hbL | with_reducible refine alloc1 ?_ _ | with_reducible refine Below.drew ?_ | with_reducible refine setC ?_ (by first | exact hbN.size | exact hbL.size | exact Nat.le_refl _ | (have := hbN.size; simp at this; omega)) _))), Lib.hid (set_block (set_block (set_block QB.out)))⟩
          | exact ⟨_, rfl, Lib.hid (by (repeat (first | with_reducible exact Below.refl _ _ | with_reducible refine andThen ?_ hbN | with_reducible refine andThen ?_ hbL | with_reducible refine alloc1 ?_ _ | with_reducible refine Below.drew ?_ | with_reducible refine drewN1 ?_ _ | with_reducible refine setC ?_ (by omega) _))), Lib.hid (by (repeat (first | ((with_reducible refine hnew ?_); (simp; done)) | with_reducible refine hdrew ?_ | with_reducible refine hold ?_)))⟩
  obtain ⟨b7, rfl, HBX, H7⟩ := hcut
  obtain ⟨w5, rfl⟩ : ∃ w5 : World, w5 = wc := ⟨_, rfl⟩
  have HB5 := Lib.hid (trans' HB0.out HBX.out)
  obtain ⟨n0, n1, n2⟩ := cells3 H7.out
  clear k0 k1 k2 m0 m1 m2
  go_wp2_with fail
  refine (CP.out _).mono ?_
  rintro e w6 ⟨rfl, hb⟩
  have HB6 := Lib.hid (trans' HB5.out hb)
  clear hb
  go_wp2_with fail
  go_ret
  exact ⟨rfl, HB6.out⟩
end Go.Proofs.Ytmbolmmcfnfamaa.Orb
