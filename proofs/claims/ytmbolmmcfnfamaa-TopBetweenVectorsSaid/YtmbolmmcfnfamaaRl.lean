import Derived.Test.YtmbolmmcfnfamaaRj
import Derived.Outline
import Derived.Deep.RegionHeld3
import Derived.IntWalk
namespace Go.Proofs.Ytmbolmmcfnfamaa.Orb
open Go.RowKit Lib

/-- how near, and how far, a coordinate is -/
def near1 (lo hi c : Int) : Int := max (max 0 (lo - c)) (c - hi)
def far1 (lo hi c : Int) : Int := max (hi - c) (c - lo)
def sqLo (lo hi c : Nat → Int) : Nat → Int
  | 0 => 0
  | k + 1 => sqLo lo hi c k + near1 (lo k) (hi k) (c k) * near1 (lo k) (hi k) (c k)
def sqHi (lo hi c : Nat → Int) : Nat → Int
  | 0 => 0
  | k + 1 => sqHi lo hi c k + far1 (lo k) (hi k) (c k) * far1 (lo k) (hi k) (c k)
def cc3 (x y z : Int) (i : Nat) : Int := if i = 0 then x else if i = 1 then y else z
theorem box_read {w : World} {b k : Nat} {lo hi : Nat → Int} {t : TypeId} (hk : k < 3) (h : w.heap[b]? = some (.cells (boxCells lo hi 3) t (0, 0))) :
    w.cell? ⟨b, k * 2, none⟩ = some (.int .i64 (lo k)) ∧ w.cell? ⟨b, k * 2 + 1, none⟩ = some (.int .i64 (hi k)) := by
  rw [cell_of_row _ _ _ _ _ _ h, cell_of_row _ _ _ _ _ _ h]
  match k, hk with
  | 0, _ => exact ⟨rfl, rfl⟩
  | 1, _ => exact ⟨rfl, rfl⟩
  | 2, _ => exact ⟨rfl, rfl⟩
theorem arr0 (x y z : Int) : ∀ w, (Instr.index 57 (.agg #[.int .i64 x, .int .i64 y, .int .i64 z]) (.int .i64 0)).run Try.prog w = .ok (.int .i64 x) w := fun _ => by kernel_rfl
theorem arr1 (x y z : Int) : ∀ w, (Instr.index 57 (.agg #[.int .i64 x, .int .i64 y, .int .i64 z]) (.int .i64 1)).run Try.prog w = .ok (.int .i64 y) w := fun _ => by kernel_rfl
theorem arr2 (x y z : Int) : ∀ w, (Instr.index 57 (.agg #[.int .i64 x, .int .i64 y, .int .i64 z]) (.int .i64 2)).run Try.prog w = .ok (.int .i64 z) w := fun _ => by kernel_rfl
theorem arr_read (x y z : Int) (k : Nat) (hk : k < 3) : ∀ w, (Instr.index 57 (.agg #[.int .i64 x, .int .i64 y, .int .i64 z]) (.int .i64 k)).run Try.prog w = .ok (.int .i64 (cc3 x y z k)) w :=
  match k, hk with
  | 0, _ => arr0 x y z
  | 1, _ => arr1 x y z
  | 2, _ => arr2 x y z
theorem sq_bd (n : Int) (h0 : -300000000 ≤ n) (h1 : n ≤ 300000000) : 0 ≤ n * n ∧ n * n ≤ 90000000000000000 := by
  have := mul_bd n n 300000000 h0 h1 h0 h1
  refine ⟨?_, by omega⟩
  rcases Int.le_total 0 n with h | h
  · exact Int.mul_nonneg h h
  · exact Int.mul_nonneg_of_nonpos_of_nonpos h h
theorem near1_bd (lo hi c : Int) (h0 : -110000000 ≤ lo) (h1 : lo ≤ 110000000) (h2 : -110000000 ≤ hi) (h3 : hi ≤ 110000000) (h4 : -100000000 ≤ c) (h5 : c ≤ 100000000) : 0 ≤ near1 lo hi c ∧ near1 lo hi c ≤ 210000000 ∧ -210000000 ≤ far1 lo hi c ∧ far1 lo hi c ≤ 210000000 := by
  unfold near1 far1; omega
theorem sq_size (lo hi c : Nat → Int) (h : ∀ k, k < 3 → (-110000000 ≤ lo k ∧ lo k ≤ 110000000) ∧ (-110000000 ≤ hi k ∧ hi k ≤ 110000000) ∧ (-100000000 ≤ c k ∧ c k ≤ 100000000)) : ∀ k, k ≤ 3 → 0 ≤ sqLo lo hi c k ∧ sqLo lo hi c k ≤ 90000000000000000 * k ∧ 0 ≤ sqHi lo hi c k ∧ sqHi lo hi c k ≤ 90000000000000000 * k
  | 0, _ => by simp [sqLo, sqHi]
  | k + 1, hk => by
    obtain ⟨a1, a2, a3, a4⟩ := sq_size lo hi c h k (by omega)
    obtain ⟨⟨b1, b2⟩, ⟨b3, b4⟩, b5, b6⟩ := h k (by omega)
    obtain ⟨c1, c2, c3, c4⟩ := near1_bd (lo k) (hi k) (c k) b1 b2 b3 b4 b5 b6
    have d1 := sq_bd (near1 (lo k) (hi k) (c k)) (by omega) (by omega)
    have d2 := sq_bd (far1 (lo k) (hi k) (c k)) (by omega) (by omega)
    simp only [sqLo, sqHi]
    omega

theorem heap_ne {W : World} {b g i : Nat} {o : Obj} {v : Value} (hne : b ≠ g) (h : W.heap[b]? = some o) : (W.setCell ⟨g, i, none⟩ v).heap[b]? = some o := (Below.heap_setCell _ _ _ _ hne).trans h
theorem two_cells {W : World} {b : Nat} {x y : Value} {t : TypeId} (h : W.heap[b]? = some (.cells #[x, y] t (0, 0))) : W.cell? ⟨b, 0, none⟩ = some x ∧ W.cell? ⟨b, 1, none⟩ = some y ∧ W.frozen? ⟨b, 0, none⟩ = false ∧ W.frozen? ⟨b, 1, none⟩ = false :=
  ⟨by rw [cell_of_row _ _ _ _ _ _ h]; rfl, by rw [cell_of_row _ _ _ _ _ _ h]; rfl, frozen_of_row W b 0 _ t h, frozen_of_row W b 1 _ t h⟩

set_option maxRecDepth 100000 in
set_option maxHeartbeats 8000000 in
/-- THE SQUARES -/
theorem squareAt_any (v : Value) (nm : ByteArray) (bend : Int) (L : List St) (hR : Rt bend L) (t : Int) (h0 : fst L ≤ t) (h1 : t ≤ lst L) (x y z : Int) (hp : placeE x y z = 0) (w : World) (hv : OV w v nm bend L) :
    Calls Try.prog 54 #[v, .int .i64 t, .agg #[.int .i64 x, .int .i64 y, .int .i64 z]] w fun e w' => e = .returned (.agg #[.int .i64 (sqLo (loC bend L t) (hiC bend L t) (cc3 x y z) 3), .int .i64 (sqHi (loC bend L t) (hiC bend L t) (cc3 x y z) 3)]) ∧ Below w.heap.size w w' := by
  have CB := Lib.hid (fun W (h : Below w.heap.size w W) => boxAt_any v nm bend L hR t h0 h1 W (hv.next h))
  have hA := (inArc hR t h0 h1).arc hR
  have HBD := Lib.hid (show ∀ k, k < 3 → (-110000000 ≤ loC bend L t k ∧ loC bend L t k ≤ 110000000) ∧ (-110000000 ≤ hiC bend L t k ∧ hiC bend L t k ≤ 110000000) ∧ (-100000000 ≤ cc3 x y z k ∧ cc3 x y z k ≤ 100000000) by
    intro k _
    obtain ⟨a1, a2⟩ := hA.size bend hR.b0 hR.b1 k
    obtain ⟨a3, a4⟩ := hA.between bend hR.b0 k
    obtain ⟨a5, a6⟩ := hA.nom k
    have e1 : loC bend L t k = loS bend (gt L (arcP L t)) (gt L (arcP L t + 1)) t k := rfl
    have e2 : hiC bend L t k = hiS bend (gt L (arcP L t)) (gt L (arcP L t + 1)) t k := rfl
    rw [e1, e2]
    obtain ⟨⟨p1, p2⟩, ⟨p3, p4⟩, p5, p6⟩ := (placeE_zero x y z).1 hp
    refine ⟨by omega, by omega, ?_⟩
    unfold cc3
    split
    · omega
    · split <;> omega)
  have HSZ := Lib.hid (sq_size _ _ _ HBD.out)
  obtain ⟨sp, cap, rfl, -, -, -⟩ := hv.form
  have HSL : Hid (∀ k, sqLo (loC bend L t) (hiC bend L t) (cc3 x y z) (k + 1) = sqLo (loC bend L t) (hiC bend L t) (cc3 x y z) k + near1 (loC bend L t k) (hiC bend L t k) (cc3 x y z k) * near1 (loC bend L t k) (hiC bend L t k) (cc3 x y z k)) := fun k => rfl
  have HSH : Hid (∀ k, sqHi (loC bend L t) (hiC bend L t) (cc3 x y z) (k + 1) = sqHi (loC bend L t) (hiC bend L t) (cc3 x y z) k + far1 (loC bend L t k) (hiC bend L t k) (cc3 x y z k) * far1 (loC bend L t k) (hiC bend L t k) (cc3 x y z k)) := fun k => rfl
  have HS0 : Hid (sqLo (loC bend L t) (hiC bend L t) (cc3 x y z) 0 = 0 ∧ sqHi (loC bend L t) (hiC bend L t) (cc3 x y z) 0 = 0) := ⟨rfl, rfl⟩
  have HAR := Lib.hid (arr_read x y z)
  clear hv hR h0 h1 hp hA
  generalize sqLo (loC bend L t) (hiC bend L t) (cc3 x y z) = SL at *
  generalize sqHi (loC bend L t) (hiC bend L t) (cc3 x y z) = SH at *
  generalize loC bend L t = LO at *
  generalize hiC bend L t = HI at *
  generalize cc3 x y z = CO at *
  generalize L.length = n at *
  go_enter Try.func54, Try.ntmps54
  go_wp2_with fail
  obtain ⟨W0, hW0⟩ : ∃ W0, W0 = ((w.alloc (.cells #[.string nm, .int .i64 bend, .slice sp n cap] 73)).alloc (.cells #[.int .i64 x, .int .i64 y, .int .i64 z] 43)).alloc (.cells #[.int .i64 0, .int .i64 0] 54) := ⟨_, rfl⟩
  rw [← hW0]
  have HB0 := Lib.hid (show Below w.heap.size w W0 by rw [hW0]; (repeat (first | with_reducible exact Below.refl _ _ | with_reducible refine alloc1 ?_ _ | with_reducible refine Below.drew ?_ | with_reducible refine drewN1 ?_ _ | with_reducible refine setC ?_ (by omega) _)))
  have HP0 := Lib.hid (show W0.heap[w.heap.size + 1]? = some (.cells #[.int .i64 x, .int .i64 y, .int .i64 z] 43 (0, 0)) by rw [hW0]; (repeat (first | ((with_reducible refine hnew ?_); (simp; done)) | with_reducible refine hdrew ?_ | with_reducible refine hold ?_)))
  have HQ0 := Lib.hid (show W0.heap[w.heap.size + 1 + 1]? = some (.cells #[.int .i64 0, .int .i64 0] 54 (0, 0)) by rw [hW0]; (repeat (first | ((with_reducible refine hnew ?_); (simp; done)) | with_reducible refine hdrew ?_ | with_reducible refine hold ?_)))
  clear hW0
  refine (CB.out _ HB0.out).mono ?_
  rintro e w1 ⟨rfl, hb⟩
  have HB1 := Lib.hid (trans' HB0.out hb)
  have HP1 := Lib.hid (keepb hb HP0.out)
  have HQ1 := Lib.hid (keepb hb HQ0.out)
  clear hb HP0 HQ0 HB0 CB
  have hbc : (Value.agg (boxCells LO HI 3)) = .agg #[.int .i64 (LO 0), .int .i64 (HI 0), .int .i64 (LO 1), .int .i64 (HI 1), .int .i64 (LO 2), .int .i64 (HI 2)] := rfl
  have hbk : boxCells LO HI 3 = #[.int .i64 (LO 0), .int .i64 (HI 0), .int .i64 (LO 1), .int .i64 (HI 1), .int .i64 (LO 2), .int .i64 (HI 2)] := rfl
  rw [hbc]
  have HBK := Lib.hid hbk
  clear hbc hbk
  go_upto_region 3 with fail
  obtain ⟨W2, hW2⟩ : ∃ W2, W2 = (w1.alloc (.cells #[.int .i64 (LO 0), .int .i64 (HI 0), .int .i64 (LO 1), .int .i64 (HI 1), .int .i64 (LO 2), .int .i64 (HI 2)] 77)).alloc (.cells #[.int .i64 0, .int .i64 0] 54) := ⟨_, rfl⟩
  rw [← hW2]
  have hb2 : Below w1.heap.size w1 W2 := by rw [hW2]; (repeat (first | with_reducible exact Below.refl _ _ | with_reducible refine alloc1 ?_ _ | with_reducible refine Below.drew ?_ | with_reducible refine drewN1 ?_ _ | with_reducible refine setC ?_ (by omega) _))
  have HX2 := Lib.hid (show W2.heap[w1.heap.size]? = some (.cells (boxCells LO HI 3) 77 (0, 0)) by rw [hW2, HBK.out]; (repeat (first | ((with_reducible refine hnew ?_); (simp; done)) | with_reducible refine hdrew ?_ | with_reducible refine hold ?_)))
  have HY2 := Lib.hid (show W2.heap[w1.heap.size + 1]? = some (.cells #[.int .i64 0, .int .i64 0] 54 (0, 0)) by rw [hW2]; (repeat (first | ((with_reducible refine hnew ?_); (simp; done)) | with_reducible refine hdrew ?_ | with_reducible refine hold ?_)))
  have HB2 := Lib.hid (trans' HB1.out hb2)
  have HQ2 := Lib.hid (keepb hb2 HQ1.out)
  have HNE := Lib.hid (show w.heap.size + 1 + 1 < w1.heap.size ∧ w1.heap.size + 1 < W2.heap.size from ⟨lt_of_block HQ1.out, lt_of_block HY2.out⟩)
  obtain ⟨k0, k1, k2⟩ := cells3 (keepb hb2 HP1.out)
  have hz1 := Lib.hid hb2
  clear hW2 hb2 HP1 HBK
  have CC := Lib.hid (fun W => coordinates_any x y z W)
  go_wp2_with fail
  refine (CC.out _).mono ?_
  rintro e w3 ⟨rfl, hb⟩
  have HB3 := Lib.hid (trans' HB2.out hb)
  have HX3 := Lib.hid (keepb hb HX2.out)
  have HY3 := Lib.hid (keepb hb HY2.out)
  have HZ3 := Lib.hid (trans' hz1.out hb)
  clear hb k0 k1 k2 HX2 HY2 HQ2 HB2 CC hz1
  go_wp2_with fail
  go_loopw [18] (fun i wr => ∃ k : Nat, k ≤ 3 ∧ i = .int .i64 k ∧ Hid (Below w1.heap.size w1 wr) ∧ Hid (wr.heap[w1.heap.size]? = some (.cells (boxCells LO HI 3) 77 (0, 0))) ∧ Hid (wr.heap[w1.heap.size + 1]? = some (.cells #[.int .i64 (SL k), .int .i64 (SH k)] 54 (0, 0)))) (fun i _ => 3 - (intV i).toNat)
  case atStart => exact ⟨0, Nat.zero_le _, rfl, HZ3, HX3, by rw [HS0.out.1, HS0.out.2]; exact HY3⟩
  case round =>
    obtain ⟨k, hk, rfl, HBZ, HXZ, HYZ⟩ := hrel
    obtain ⟨wz, rfl⟩ : ∃ wz : World, wz = wr := ⟨_, rfl⟩
    clear HB3 HX3 HY3 HZ3
    obtain ⟨y0, y1, g0, g1⟩ := two_cells HYZ.out
    by_cases hlt : k < 3
    · obtain ⟨r0, r1⟩ := box_read hlt HXZ.out
      have har := HAR.out k hlt
      have RD := Lib.hid (fun (W : World) (h : W.heap[w1.heap.size]? = some (.cells (boxCells LO HI 3) 77 (0, 0))) => box_read hlt h)
      obtain ⟨⟨b1, b2⟩, ⟨b3, b4⟩, b5, b6⟩ := HBD.out k hlt
      obtain ⟨n1, n2, n3, n4⟩ := near1_bd (LO k) (HI k) (CO k) b1 b2 b3 b4 b5 b6
      have q1 := sq_bd (near1 (LO k) (HI k) (CO k)) (by omega) (by omega)
      have q2 := sq_bd (far1 (LO k) (HI k) (CO k)) (by omega) (by omega)
      obtain ⟨p1, p2, p3, p4⟩ := HSZ.out k hk
      have s1 := HSL.out k
      have s2 := HSH.out k
      have d1 := Lib.hid (show near1 (LO k) (HI k) (CO k) = max (max 0 (LO k - CO k)) (CO k - HI k) from rfl)
      have d2 := Lib.hid (show far1 (LO k) (HI k) (CO k) = max (HI k - CO k) (CO k - LO k) from rfl)
      have S1 := Lib.hid s1
      have S2 := Lib.hid s2
      clear s1 s2
      generalize near1 (LO k) (HI k) (CO k) = nr at *
      generalize far1 (LO k) (HI k) (CO k) = fr at *
      generalize LO k = lk at *
      generalize HI k = hk' at *
      generalize CO k = ck at *
      generalize SL k = sl at *
      generalize SH k = sh at *
      have e1 : IntKind.i64.wrap (lk - ck) = lk - ck := IntWalk.i64_in _ (by omega)
      have e2 : IntKind.i64.wrap (ck - hk') = ck - hk' := IntWalk.i64_in _ (by omega)
      have e3 : IntKind.i64.wrap (hk' - ck) = hk' - ck := IntWalk.i64_in _ (by omega)
      have e4 : IntKind.i64.wrap (ck - lk) = ck - lk := IntWalk.i64_in _ (by omega)
      have x0 : (0 : Int) ≤ (k : Int) := by omega
      have x1 : (k : Int) < 3 := by omega
      go_upto_region 6 with fail
      go_quiet (fail)
      have m1 : (if (if ck < lk then lk - ck else 0) < ck - hk' then ck - hk' else if ck < lk then lk - ck else 0) = nr := by
        have := d1.out
        by_cases c1 : ck < lk
        · rw [if_pos c1]; split <;> omega
        · rw [if_neg c1]; split <;> omega
      rw [m1]
      obtain ⟨wq, hwq⟩ : ∃ wq, wq = wz.drewN nq := ⟨_, rfl⟩
      have hbq : Below wz.heap.size wz wq := by rw [hwq]; (repeat (first | with_reducible exact Below.refl _ _ | with_reducible refine alloc1 ?_ _ | with_reducible refine Below.drew ?_ | with_reducible refine drewN1 ?_ _ | with_reducible refine setC ?_ (by omega) _))
      rw [← hwq]
      have HXQ := Lib.hid (keepb hbq HXZ.out)
      have HYQ := Lib.hid (keepb hbq HYZ.out)
      have HBQ := Lib.hid (HBZ.out.trans (hbq.mono HBZ.out.size))
      clear hwq hbq r0 r1 y0 y1 g0 g1 m1
      obtain ⟨r0, r1⟩ : wq.cell? ⟨w1.heap.size, k * 2, none⟩ = some (.int .i64 lk) ∧ wq.cell? ⟨w1.heap.size, k * 2 + 1, none⟩ = some (.int .i64 hk') := RD.out wq HXQ.out
      go_upto_region 7 with fail
      go_quiet (fail)
      have m2 : (if hk' - ck < ck - lk then ck - lk else hk' - ck) = fr := by
        have := d2.out
        split <;> omega
      rw [m2]
      obtain ⟨wp, hwp⟩ : ∃ wp, wp = wq.drewN nq := ⟨_, rfl⟩
      have hbp : Below wq.heap.size wq wp := by rw [hwp]; (repeat (first | with_reducible exact Below.refl _ _ | with_reducible refine alloc1 ?_ _ | with_reducible refine Below.drew ?_ | with_reducible refine drewN1 ?_ _ | with_reducible refine setC ?_ (by omega) _))
      rw [← hwp]
      have HXP := Lib.hid (keepb hbp HXQ.out)
      have HYP := Lib.hid (keepb hbp HYQ.out)
      have HBP := Lib.hid (HBQ.out.trans (hbp.mono HBQ.out.size))
      clear hwp hbp r0 r1 m2 har e1 e2 e3 e4
      obtain ⟨y0, y1, g0, g1⟩ := two_cells HYP.out
      go_wp2_with fail
      go_roundw
      case rel => exact ⟨k + 1, by omega, by go_num, Lib.hid ((HBP.out.setCell (p := ⟨w1.heap.size + 1, 0, none⟩) (Nat.le_succ _) _).setCell (p := ⟨w1.heap.size + 1, 1, none⟩) (Nat.le_succ _) _), Lib.hid (heap_ne (Nat.ne_of_lt (Nat.lt_succ_self _)) (heap_ne (Nat.ne_of_lt (Nat.lt_succ_self _)) HXP.out)), Lib.hid (by rw [S1.out, S2.out]; exact set_block (set_block HYP.out))⟩
      case measure => simp [intV]; omega
    · obtain rfl : k = 3 := by omega
      have hq := (HBZ.out.block _ (lt_of_block HQ1.out)).trans HQ1.out
      obtain ⟨q0, q1, f0, f1⟩ := two_cells hq
      have hsz := HNE.out
      have hsz2 := HBZ.out.size
      have HBF := Lib.hid (HB1.out.trans (HBZ.out.mono HB1.out.size))
      clear hq
      go_wp2_with fail
      refine bodyPost_ret (v := .agg #[.int .i64 (SL 3), .int .i64 (SH 3)]) (by simp [results, Try.results54, go_sem, q0, q1]) rfl ⟨rfl, ?_⟩
      exact setC (setC HBF.out (by omega) _) (by omega) _
end Go.Proofs.Ytmbolmmcfnfamaa.Orb
