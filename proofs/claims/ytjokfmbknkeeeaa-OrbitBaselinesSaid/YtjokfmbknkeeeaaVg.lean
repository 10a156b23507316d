import Derived.Test.YtjokfmbknkeeeaaVf
import Derived.StillTailTactics
import Derived.IntWalk
import Derived.Outline
namespace Go.Proofs.Ytjokfmbknkeeeaa.Orb
open Go.RowKit Lib

/-- three numbers, the first k of them in place -/
def arrCells (N : Nat → Int) (k : Nat) : Array Value := #[.int .i64 (if 0 < k then N 0 else 0), .int .i64 (if 1 < k then N 1 else 0), .int .i64 (if 2 < k then N 2 else 0)]
theorem arr_step {w : World} {b k : Nat} {N : Nat → Int} {t : TypeId} (hk : k < 3) (h : w.heap[b]? = some (.cells (arrCells N k) t (0, 0))) :
    (w.setCell ⟨b, k, none⟩ (.int .i64 (N k))).heap[b]? = some (.cells (arrCells N (k + 1)) t (0, 0)) := by
  rw [set_block h]
  match k, hk with
  | 0, _ => rfl
  | 1, _ => rfl
  | 2, _ => rfl
theorem arr_cell {w : World} {b k : Nat} {N : Nat → Int} {t : TypeId} (hk : k < 3) (h : w.heap[b]? = some (.cells (arrCells N k) t (0, 0))) :
    w.cell? ⟨b, k, none⟩ = some (.int .i64 0) ∧ w.frozen? ⟨b, k, none⟩ = false := by
  rw [cell_of_row _ _ _ _ _ _ h, frozen_of_row w b _ _ t h]
  match k, hk with
  | 0, _ => exact ⟨rfl, rfl⟩
  | 1, _ => exact ⟨rfl, rfl⟩
  | 2, _ => exact ⟨rfl, rfl⟩
theorem pt_read {w : World} {b k : Nat} {P : Nat → Int} {wr bn den : Int} {t : TypeId} (hk : k < 3) (h : w.heap[b]? = some (.cells (ptCells P 3 wr bn den) t (0, 0))) :
    w.cell? ⟨b, k, none⟩ = some (.int .i64 (P k)) ∧ w.cell? ⟨b, 3, none⟩ = some (.int .i64 wr) ∧ w.cell? ⟨b, 4, none⟩ = some (.int .i64 bn) ∧ w.cell? ⟨b, 5, none⟩ = some (.int .i64 den) := by
  rw [cell_of_row _ _ _ _ _ _ h, cell_of_row _ _ _ _ _ _ h, cell_of_row _ _ _ _ _ _ h, cell_of_row _ _ _ _ _ _ h]
  match k, hk with
  | 0, _ => exact ⟨rfl, rfl, rfl, rfl⟩
  | 1, _ => exact ⟨rfl, rfl, rfl, rfl⟩
  | 2, _ => exact ⟨rfl, rfl, rfl, rfl⟩

set_option maxRecDepth 100000 in
set_option maxHeartbeats 4000000 in
theorem refNominal_any (v : Value) (nm : ByteArray) (bend : Int) (L : List St) (hR : Rt bend L) (t : Int) (h0 : fst L ≤ t) (h1 : t ≤ lst L) (w : World) (hv : OV w v nm bend L) :
    Calls Try.prog 62 #[v, .int .i64 t] w fun e w' => e = .returned (.agg #[.int .i64 (nomC L t 0), .int .i64 (nomC L t 1), .int .i64 (nomC L t 2)]) ∧ Below w.heap.size w w' := by
  have CP := Lib.hid (fun W (h : Below w.heap.size w W) => pointAt_any v nm bend L hR t h0 h1 W (hv.next h))
  have HARC : Hid (∀ k, InArc L t k → ∀ i, nomS (gt L k) (gt L (k + 1)) t i = nomC L t i) := fun k h i => nomS_arc hR h (inArc hR t h0 h1) i
  have HAR := Lib.hid (fun k (h : InArc L t k) => h.arc hR)
  have CO := Lib.hid (fun x y z W => placeOf_any x y z W)
  obtain ⟨sp, cap, rfl, -, -, -⟩ := hv.form
  clear hv h0 h1 hR
  generalize nomC L t = NC at *
  obtain ⟨n, hn⟩ : ∃ n, n = L.length := ⟨_, rfl⟩
  rw [← hn] at CP ⊢
  clear hn
  go_enter Try.func62, Try.ntmps62
  go_wp2_with fail
  obtain ⟨W0, hW0⟩ : ∃ W0, W0 = (w.alloc (.cells #[.string nm, .int .i64 bend, .slice sp n cap] 24)).alloc (.cells #[.int .i64 0, .int .i64 0, .int .i64 0] 28) := ⟨_, rfl⟩
  rw [← hW0]
  have HB0 := Lib.hid (show Below w.heap.size w W0 by rw [hW0]; (repeat (first | with_reducible exact Below.refl _ _ | with_reducible refine alloc1 ?_ _ | with_reducible refine Below.drew ?_ | with_reducible refine drewN1 ?_ _ | with_reducible refine setC ?_ (by omega) _)))
  have HQ0 := Lib.hid (show W0.heap[w.heap.size + 1]? = some (.cells #[.int .i64 0, .int .i64 0, .int .i64 0] 28 (0, 0)) by rw [hW0]; (repeat (first | ((with_reducible refine hnew ?_); (simp; done)) | with_reducible refine hdrew ?_ | with_reducible refine hold ?_)))
  clear hW0
  refine (CP.out _ HB0.out).mono ?_
  rintro e w1 ⟨k, hk, rfl, hb⟩
  have HB1 := Lib.hid (trans' HB0.out hb)
  have HQ1 := Lib.hid (keepb hb HQ0.out)
  have HNC := Lib.hid (HARC.out k hk)
  have hA := HAR.out k hk
  clear hb HARC HAR CP hk HQ0 HB0
  generalize gt L k = A at *
  generalize gt L (k + 1) = B at *
  unfold pointR
  obtain ⟨hsA, hsB, q0, q1, q2, q3⟩ := hA
  have SA := Lib.hid (fun i => cOf_bd hsA i)
  have SB := Lib.hid (fun i => cOf_bd hsB i)
  obtain ⟨PF, hPF⟩ : ∃ PF : Nat → Int, PF = fun i => pt (cOf A i) (cOf B i) (t - A.t) (B.t - A.t) := ⟨_, rfl⟩
  have HPF := Lib.hid hPF
  have e0 : pt (cOf A 0) (cOf B 0) (t - A.t) (B.t - A.t) = PF 0 := by rw [hPF]
  have e1 : pt (cOf A 1) (cOf B 1) (t - A.t) (B.t - A.t) = PF 1 := by rw [hPF]
  have e2 : pt (cOf A 2) (cOf B 2) (t - A.t) (B.t - A.t) = PF 2 := by rw [hPF]
  rw [e0, e1, e2]
  clear e0 e1 e2 hPF hsA hsB
  have HNN := Lib.hid (show ∀ i, (2 * PF i + (B.t - A.t)) / (2 * (B.t - A.t)) = NC i from fun i => by rw [← HNC.out i, HPF.out]; rfl)
  have HSZ := Lib.hid (show ∀ i, -4000000000000 ≤ PF i ∧ PF i ≤ 4000000000000 from fun i => by
    rw [HPF.out]
    have s1 := SA.out i
    have s2 := SB.out i
    exact pt_size _ _ _ _ (by omega) (by omega) (by omega) (by omega) (by omega) (by omega) q3)
  have HQQ := Lib.hid (show 0 < B.t - A.t ∧ B.t - A.t ≤ 20000 by omega)
  clear HNC HPF SA SB q0 q1 q2 q3
  generalize pt A.e B.e (t - A.t) (B.t - A.t) = wrg at *
  generalize bendR bend A B t = bn at *
  generalize B.t - A.t = qq at *
  go_wp2_with fail
  obtain ⟨W2, hW2⟩ : ∃ W2, W2 = (w1.alloc (.cells (ptCells PF 3 wrg bn qq) 170)).alloc (.cells (arrCells NC 0) 64) := ⟨_, rfl⟩
  have hW2' : (w1.alloc (.cells #[.int .i64 (PF 0), .int .i64 (PF 1), .int .i64 (PF 2), .int .i64 wrg, .int .i64 bn, .int .i64 qq] 170)).alloc (.cells #[.int .i64 0, .int .i64 0, .int .i64 0] 64) = W2 := hW2.symm
  rw [hW2']
  have HB2 := Lib.hid (show Below w1.heap.size w1 W2 by rw [hW2]; (repeat (first | with_reducible exact Below.refl _ _ | with_reducible refine alloc1 ?_ _ | with_reducible refine Below.drew ?_ | with_reducible refine drewN1 ?_ _ | with_reducible refine setC ?_ (by omega) _)))
  have HX2 := Lib.hid (show W2.heap[w1.heap.size]? = some (.cells (ptCells PF 3 wrg bn qq) 170 (0, 0)) by rw [hW2]; (repeat (first | ((with_reducible refine hnew ?_); (simp; done)) | with_reducible refine hdrew ?_ | with_reducible refine hold ?_)))
  have HY2 := Lib.hid (show W2.heap[w1.heap.size + 1]? = some (.cells (arrCells NC 0) 64 (0, 0)) by rw [hW2]; (repeat (first | ((with_reducible refine hnew ?_); (simp; done)) | with_reducible refine hdrew ?_ | with_reducible refine hold ?_)))
  clear hW2 hW2'
  go_loopw [7] (fun i wr => ∃ j : Nat, j ≤ 3 ∧ i = .int .i64 j ∧ Hid (Below w1.heap.size w1 wr) ∧ Hid (wr.heap[w1.heap.size]? = some (.cells (ptCells PF 3 wrg bn qq) 170 (0, 0))) ∧ Hid (wr.heap[w1.heap.size + 1]? = some (.cells (arrCells NC j) 64 (0, 0)))) (fun i _ => 3 - (intV i).toNat)
  case atStart => exact ⟨0, Nat.zero_le _, rfl, HB2, HX2, HY2⟩
  case round =>
    obtain ⟨j, hj, rfl, HBZ, HXZ, HYZ⟩ := hrel
    obtain ⟨wz, rfl⟩ : ∃ wz : World, wz = wr := ⟨_, rfl⟩
    clear HB2 HX2 HY2
    by_cases hlt : j < 3
    · have HS := Lib.hid (HSZ.out j)
      have hs := HS.out
      have hnn := HNN.out j
      have hq := HQQ.out
      have v1 : IntKind.i64.wrap (2 * PF j) = 2 * PF j := IntWalk.i64_in _ (by omega)
      have v2 : IntKind.i64.wrap (2 * PF j + qq) = 2 * PF j + qq := IntWalk.i64_in _ (by omega)
      have v3 : IntKind.i64.wrap (2 * qq) = 2 * qq := IntWalk.i64_in _ (by omega)
      have CF := Lib.hid (fun W => same (Floor_any (2 * PF j + qq) (2 * qq) (by omega) (by omega) (by omega) (by omega) W))
      rw [hnn] at CF
      have i0 : (0 : Int) ≤ (j : Int) := by omega
      have i1 : (j : Int) < 3 := by omega
      clear hs hnn hq HS
      go_upto_region 6 with fail
      refine region_tail 14 (by kernel_rfl) (by kernel_rfl) (fun W hW => ?_)
      simp only [List.take_succ_cons, List.take_zero, List.drop_succ_cons, List.drop_zero]
      have HBW := Lib.hid (show Below w1.heap.size w1 W by rw [hW]; exact HBZ.out.drew)
      have HXW := Lib.hid (show W.heap[w1.heap.size]? = some (.cells (ptCells PF 3 wrg bn qq) 170 (0, 0)) by rw [hW]; exact HXZ.out)
      have HYW := Lib.hid (show W.heap[w1.heap.size + 1]? = some (.cells (arrCells NC j) 64 (0, 0)) by rw [hW]; exact HYZ.out)
      clear hW
      obtain ⟨x0, -, -, x5⟩ := pt_read hlt HXW.out
      obtain ⟨y0, f0⟩ := arr_cell hlt HYW.out
      still_step
      still_step
      still_step
      still_step
      still_step
      still_step
      still_step
      still_step
      still_step
      still_step
      still_step
      still_step
      still_call (CF.out _)
      still_step
      refine wpStill_nil ?_
      go_wp2_with fail
      go_roundw
      case rel => exact ⟨j + 1, by omega, by go_num, Lib.hid (setC HBW.out (by omega) _), Lib.hid (heap_ne (by omega) HXW.out), Lib.hid (arr_step hlt HYW.out)⟩
      case measure => simp [intV]; omega
    · have e : j = 3 := by omega
      subst e
      have HYE := Lib.hid (show wz.heap[w1.heap.size + 1]? = some (.cells #[.int .i64 (NC 0), .int .i64 (NC 1), .int .i64 (NC 2)] 64 (0, 0)) from HYZ.out)
      obtain ⟨y0, y1, y2⟩ := cells3 HYE.out
      have HBE := Lib.hid (trans' HB1.out HBZ.out)
      have HQE := Lib.hid (keepb HBZ.out HQ1.out)
      clear HXZ HYZ HBZ HB1 HQ1
      go_wp2_with fail
      refine (CO.out _ _ _ _).mono ?_
      rintro e w9 ⟨rfl, hb⟩
      have HBF := Lib.hid (trans' HBE.out hb)
      have hq9 := keepb hb HQE.out
      obtain ⟨z0, z1, z2⟩ := cells3 hq9
      obtain ⟨g0, g1, g2⟩ := free3 hq9
      clear hb y0 y1 y2 HYE HBE HQE hq9
      go_wp2_with fail
      refine bodyPost_ret (v := .agg #[.int .i64 (NC 0), .int .i64 (NC 1), .int .i64 (NC 2)]) (by simp [results, Try.results62, go_sem, z0, z1, z2]) rfl ⟨rfl, ?_⟩
      exact setC (setC (setC HBF.out (by omega) _) (by omega) _) (by omega) _
end Go.Proofs.Ytjokfmbknkeeeaa.Orb
