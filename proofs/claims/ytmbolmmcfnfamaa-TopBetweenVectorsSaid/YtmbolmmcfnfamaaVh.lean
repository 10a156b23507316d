import Derived.Test.YtmbolmmcfnfamaaVg
import Derived.StillTailTactics
import Derived.IntWalk
import Derived.Outline
namespace Go.Proofs.Ytmbolmmcfnfamaa.Orb
open Go.RowKit Lib

theorem bendR_is (bend : Int) (A B : St) (t : Int) : bendR bend A B t = bendS bend A B t * (B.t - A.t) := by
  unfold bendR bendS
  by_cases h : t - A.t = 0 ∨ t - A.t = B.t - A.t
  · rw [if_pos h, if_neg (by omega), Int.zero_mul]
  · rw [if_neg h, if_pos (by omega)]
theorem pt_sub (a b c d p w : Int) : pt (a - c) (b - d) p w = pt a b p w - pt c d p w := by
  unfold pt
  rw [Int.sub_mul, Int.sub_mul]
  omega
theorem pt_add (a b c d p w : Int) : pt (a + c) (b + d) p w = pt a b p w + pt c d p w := by
  unfold pt
  rw [Int.add_mul, Int.add_mul]
  omega
theorem lo_ref (bend : Int) (A B : St) (t : Int) (i : Nat) (h : 0 < B.t - A.t) :
    (pt (cOf A i) (cOf B i) (t - A.t) (B.t - A.t) - (pt A.e B.e (t - A.t) (B.t - A.t) + bendR bend A B t)) / (B.t - A.t) = loS bend A B t i := by
  unfold loS
  rw [pt_sub, bendR_is]
  generalize pt (cOf A i) (cOf B i) (t - A.t) (B.t - A.t) = X
  generalize pt A.e B.e (t - A.t) (B.t - A.t) = Y
  generalize bendS bend A B t = c
  generalize B.t - A.t = q at *
  rw [show X - (Y + c * q) = (X - Y) + (-c) * q from by rw [Int.neg_mul]; omega, Int.add_mul_ediv_right _ _ (by omega)]
  omega
theorem hi_ref (bend : Int) (A B : St) (t : Int) (i : Nat) (h : 0 < B.t - A.t) :
    ceilI (pt (cOf A i) (cOf B i) (t - A.t) (B.t - A.t) + (pt A.e B.e (t - A.t) (B.t - A.t) + bendR bend A B t)) (B.t - A.t) = hiS bend A B t i := by
  unfold hiS ceilI
  rw [pt_add, bendR_is]
  generalize pt (cOf A i) (cOf B i) (t - A.t) (B.t - A.t) = X
  generalize pt A.e B.e (t - A.t) (B.t - A.t) = Y
  generalize bendS bend A B t = c
  generalize B.t - A.t = q at *
  rw [show -(X + (Y + c * q)) = -(X + Y) + (-c) * q from by rw [Int.neg_mul]; omega, Int.add_mul_ediv_right _ _ (by omega)]
  omega

set_option maxRecDepth 100000 in
set_option maxHeartbeats 4000000 in
theorem refBoxAt_any (v : Value) (nm : ByteArray) (bend : Int) (L : List St) (hR : Rt bend L) (t : Int) (h0 : fst L ≤ t) (h1 : t ≤ lst L) (w : World) (hv : OV w v nm bend L) :
    Calls Try.prog 47 #[v, .int .i64 t] w fun e w' => e = .returned (.agg (boxCells (loC bend L t) (hiC bend L t) 3)) ∧ Below w.heap.size w w' := by
  have CP := Lib.hid (fun W (h : Below w.heap.size w W) => pointAt_any v nm bend L hR t h0 h1 W (hv.next h))
  have HARL : Hid (∀ k, InArc L t k → ∀ i, loS bend (gt L k) (gt L (k + 1)) t i = loC bend L t i) := fun k h i => loS_arc hR h (inArc hR t h0 h1) i
  have HARH : Hid (∀ k, InArc L t k → ∀ i, hiS bend (gt L k) (gt L (k + 1)) t i = hiC bend L t i) := fun k h i => hiS_arc hR h (inArc hR t h0 h1) i
  have HAR := Lib.hid (fun k (h : InArc L t k) => h.arc hR)
  obtain ⟨sp, cap, rfl, -, -, -⟩ := hv.form
  have hb0 := hR.b0
  have hb1 := hR.b1
  clear hv h0 h1 hR
  generalize loC bend L t = LO at *
  generalize hiC bend L t = HI at *
  obtain ⟨n, hn⟩ : ∃ n, n = L.length := ⟨_, rfl⟩
  rw [← hn] at CP ⊢
  clear hn
  go_enter Try.func47, Try.ntmps47
  go_wp2_with fail
  obtain ⟨W0, hW0⟩ : ∃ W0, W0 = (w.alloc (.cells #[.string nm, .int .i64 bend, .slice sp n cap] 24)).alloc (.cells #[.int .i64 0, .int .i64 0, .int .i64 0, .int .i64 0, .int .i64 0, .int .i64 0] 61) := ⟨_, rfl⟩
  rw [← hW0]
  have HB0 := Lib.hid (show Below w.heap.size w W0 by rw [hW0]; (repeat (first | with_reducible exact Below.refl _ _ | with_reducible refine alloc1 ?_ _ | with_reducible refine Below.drew ?_ | with_reducible refine drewN1 ?_ _ | with_reducible refine setC ?_ (by omega) _)))
  have HQ0 := Lib.hid (show W0.heap[w.heap.size + 1]? = some (.cells #[.int .i64 0, .int .i64 0, .int .i64 0, .int .i64 0, .int .i64 0, .int .i64 0] 61 (0, 0)) by rw [hW0]; (repeat (first | ((with_reducible refine hnew ?_); (simp; done)) | with_reducible refine hdrew ?_ | with_reducible refine hold ?_)))
  clear hW0
  refine (CP.out _ HB0.out).mono ?_
  rintro e w1 ⟨k, hk, rfl, hb⟩
  have HB1 := Lib.hid (trans' HB0.out hb)
  have HQ1 := Lib.hid (keepb hb HQ0.out)
  have HNL := Lib.hid (HARL.out k hk)
  have HNH := Lib.hid (HARH.out k hk)
  have hA := HAR.out k hk
  clear hb HARL HARH HAR CP hk HQ0 HB0
  generalize gt L k = A at *
  generalize gt L (k + 1) = B at *
  unfold pointR
  obtain ⟨hsA, hsB, q0, q1, q2, q3⟩ := hA
  have SA := Lib.hid (fun i => cOf_bd hsA i)
  have SB := Lib.hid (fun i => cOf_bd hsB i)
  have ea0 := hsA.e0
  have ea1 := hsA.e1
  have eb0 := hsB.e0
  have eb1 := hsB.e1
  obtain ⟨PF, hPF⟩ : ∃ PF : Nat → Int, PF = fun i => pt (cOf A i) (cOf B i) (t - A.t) (B.t - A.t) := ⟨_, rfl⟩
  have HPF := Lib.hid hPF
  have e0 : pt (cOf A 0) (cOf B 0) (t - A.t) (B.t - A.t) = PF 0 := by rw [hPF]
  have e1 : pt (cOf A 1) (cOf B 1) (t - A.t) (B.t - A.t) = PF 1 := by rw [hPF]
  have e2 : pt (cOf A 2) (cOf B 2) (t - A.t) (B.t - A.t) = PF 2 := by rw [hPF]
  rw [e0, e1, e2]
  clear e0 e1 e2 hPF hsA hsB
  have HNN := Lib.hid (show ∀ i, (PF i - (pt A.e B.e (t - A.t) (B.t - A.t) + bendR bend A B t)) / (B.t - A.t) = LO i from fun i => by rw [← HNL.out i, HPF.out]; exact lo_ref bend A B t i (by omega))
  have HMM := Lib.hid (show ∀ i, ceilI (PF i + (pt A.e B.e (t - A.t) (B.t - A.t) + bendR bend A B t)) (B.t - A.t) = HI i from fun i => by rw [← HNH.out i, HPF.out]; exact hi_ref bend A B t i (by omega))
  have HSZ := Lib.hid (show ∀ i, -4000000000000 ≤ PF i ∧ PF i ≤ 4000000000000 from fun i => by
    rw [HPF.out]
    have s1 := SA.out i
    have s2 := SB.out i
    exact pt_size _ _ _ _ (by omega) (by omega) (by omega) (by omega) (by omega) (by omega) q3)
  have HWS := Lib.hid (show -4000000000000 ≤ pt A.e B.e (t - A.t) (B.t - A.t) ∧ pt A.e B.e (t - A.t) (B.t - A.t) ≤ 4000000000000 from pt_size _ _ _ _ (by omega) (by omega) (by omega) (by omega) (by omega) (by omega) q3)
  have HBS := Lib.hid (show -40000000000000000 ≤ bendR bend A B t ∧ bendR bend A B t ≤ 40000000000000000 by
    have hc := bendS_bd bend A B t hb0
    obtain ⟨m0, m1⟩ := mul_bd (bendS bend A B t) (B.t - A.t) 200000000 (by omega) (by omega) (by omega) (by omega)
    rw [bendR_is]
    omega)
  have HQQ := Lib.hid (show 0 < B.t - A.t ∧ B.t - A.t ≤ 20000 by omega)
  clear HNL HNH HPF SA SB q0 q1 q2 q3 ea0 ea1 eb0 eb1 hb0 hb1
  generalize pt A.e B.e (t - A.t) (B.t - A.t) = wrg at *
  generalize bendR bend A B t = bn at *
  generalize B.t - A.t = qq at *
  go_wp2_with fail
  obtain ⟨W2, hW2⟩ : ∃ W2, W2 = (w1.alloc (.cells (ptCells PF 3 wrg bn qq) 112)).alloc (.cells (boxCells LO HI 0) 61) := ⟨_, rfl⟩
  have hW2' : (w1.alloc (.cells #[.int .i64 (PF 0), .int .i64 (PF 1), .int .i64 (PF 2), .int .i64 wrg, .int .i64 bn, .int .i64 qq] 112)).alloc (.cells #[.int .i64 0, .int .i64 0, .int .i64 0, .int .i64 0, .int .i64 0, .int .i64 0] 61) = W2 := hW2.symm
  rw [hW2']
  have HB2 := Lib.hid (show Below w1.heap.size w1 W2 by rw [hW2]; (repeat (first | with_reducible exact Below.refl _ _ | with_reducible refine alloc1 ?_ _ | with_reducible refine Below.drew ?_ | with_reducible refine drewN1 ?_ _ | with_reducible refine setC ?_ (by omega) _)))
  have HX2 := Lib.hid (show W2.heap[w1.heap.size]? = some (.cells (ptCells PF 3 wrg bn qq) 112 (0, 0)) by rw [hW2]; (repeat (first | ((with_reducible refine hnew ?_); (simp; done)) | with_reducible refine hdrew ?_ | with_reducible refine hold ?_)))
  have HY2 := Lib.hid (show W2.heap[w1.heap.size + 1]? = some (.cells (boxCells LO HI 0) 61 (0, 0)) by rw [hW2]; (repeat (first | ((with_reducible refine hnew ?_); (simp; done)) | with_reducible refine hdrew ?_ | with_reducible refine hold ?_)))
  clear hW2 hW2'
  go_loopw [7] (fun i wr => ∃ j : Nat, j ≤ 3 ∧ i = .int .i64 j ∧ Hid (Below w1.heap.size w1 wr) ∧ Hid (wr.heap[w1.heap.size]? = some (.cells (ptCells PF 3 wrg bn qq) 112 (0, 0))) ∧ Hid (wr.heap[w1.heap.size + 1]? = some (.cells (boxCells LO HI j) 61 (0, 0)))) (fun i _ => 3 - (intV i).toNat)
  case atStart => exact ⟨0, Nat.zero_le _, rfl, HB2, HX2, HY2⟩
  case round =>
    obtain ⟨j, hj, rfl, HBZ, HXZ, HYZ⟩ := hrel
    obtain ⟨wz, rfl⟩ : ∃ wz : World, wz = wr := ⟨_, rfl⟩
    clear HB2 HX2 HY2
    by_cases hlt : j < 3
    · have HS := Lib.hid (HSZ.out j)
      have hs := HS.out
      have hws := HWS.out
      have hbs := HBS.out
      have hnn := HNN.out j
      have hmm := HMM.out j
      have hq := HQQ.out
      have v1 : IntKind.i64.wrap (wrg + bn) = wrg + bn := IntWalk.i64_in _ (by omega)
      have v2 : IntKind.i64.wrap (PF j - (wrg + bn)) = PF j - (wrg + bn) := IntWalk.i64_in _ (by omega)
      have v3 : IntKind.i64.wrap (PF j + (wrg + bn)) = PF j + (wrg + bn) := IntWalk.i64_in _ (by omega)
      have CF := Lib.hid (fun W => same (Floor_any (PF j - (wrg + bn)) qq (by omega) (by omega) (by omega) (by omega) W))
      have CC := Lib.hid (fun W => same (Ceil_any (PF j + (wrg + bn)) qq (by omega) (by omega) (by omega) (by omega) W))
      rw [hnn] at CF
      rw [hmm] at CC
      have i0 : (0 : Int) ≤ (j : Int) := by omega
      have i1 : (j : Int) < 3 := by omega
      clear hs hnn hmm hq HS hws hbs
      obtain ⟨x0, x3, x4, x5⟩ := pt_read hlt HXZ.out
      go_upto_region 7 with fail
      refine region_tail 21 (by kernel_rfl) (by kernel_rfl) (fun W hW => ?_)
      simp only [List.take_succ_cons, List.take_zero, List.drop_succ_cons, List.drop_zero]
      have HBW := Lib.hid (show Below w1.heap.size w1 W by rw [hW]; exact HBZ.out.drew)
      have HXW := Lib.hid (show W.heap[w1.heap.size]? = some (.cells (ptCells PF 3 wrg bn qq) 112 (0, 0)) by rw [hW]; exact HXZ.out)
      have HYW := Lib.hid (show W.heap[w1.heap.size + 1]? = some (.cells (boxCells LO HI j) 61 (0, 0)) by rw [hW]; exact HYZ.out)
      clear hW x0 x3 x4 x5
      obtain ⟨x0, x3, x4, x5⟩ := pt_read hlt HXW.out
      obtain ⟨y0, y1, y2, y3⟩ := box_cell hlt HYW.out
      still_step
      still_step
      still_step
      still_step
      still_step
      still_step
      still_step
      still_step
      still_step
      still_call (CF.out _)
      still_step
      still_step
      still_step
      still_step
      still_step
      still_step
      still_step
      still_step
      still_call (CC.out _)
      still_step
      still_step
      refine wpStill_nil ?_
      go_wp2_with fail
      go_roundw
      case rel => exact ⟨j + 1, by omega, by go_num, Lib.hid (setC (setC HBW.out (by omega) _) (by omega) _), Lib.hid (heap_ne (by omega) (heap_ne (by omega) HXW.out)), Lib.hid (box_step hlt HYW.out)⟩
      case measure => simp [intV]; omega
    · have e : j = 3 := by omega
      subst e
      have HYE := Lib.hid (show wz.heap[w1.heap.size + 1]? = some (.cells #[.int .i64 (LO 0), .int .i64 (HI 0), .int .i64 (LO 1), .int .i64 (HI 1), .int .i64 (LO 2), .int .i64 (HI 2)] 61 (0, 0)) from HYZ.out)
      obtain ⟨y0, y1, y2, y3, y4, y5⟩ := cells6 HYE.out
      have HBE := Lib.hid (trans' HB1.out HBZ.out)
      have hqe := keepb HBZ.out HQ1.out
      obtain ⟨z0, z1, z2, z3, z4, z5⟩ := cells6 hqe
      obtain ⟨g0, g1, g2, g3, g4, g5⟩ := free6 hqe
      have hls := lt_of_block HQ1.out
      clear HXZ HYZ HBZ HB1 HQ1 hqe
      go_wp2_with fail
      refine bodyPost_ret (v := .agg #[.int .i64 (LO 0), .int .i64 (HI 0), .int .i64 (LO 1), .int .i64 (HI 1), .int .i64 (LO 2), .int .i64 (HI 2)]) (by simp [results, Try.results47, go_sem, z0, z1, z2, z3, z4, z5]) rfl ⟨rfl, ?_⟩
      exact setC (setC (setC (setC (setC (setC HBE.out (by omega) _) (by omega) _) (by omega) _) (by omega) _) (by omega) _) (by omega) _
end Go.Proofs.Ytmbolmmcfnfamaa.Orb
