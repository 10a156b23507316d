import Derived.Test.YtmbolmmcfnfamaaZx
import Derived.Test.YtmbolmmcfnfamaaYe
import Derived.StillTailTactics
namespace Go.Proofs.Ytmbolmmcfnfamaa.Orb
open Go.RowKit Lib

section
variable {P : Program} {ops : Array Oper} {w : World} {Q : Act → Prop} {a : Act} {o : Oper} {rest : List Oper}
/-- a value, in a great frame -/
theorem still_val (hw : Region.wanted o (yielded ops a.tmps) = true) (v : Value) (hr : (execOp a.eval o).run P w = .ok (.value v) w) (h : wpStill P ops w Q rest (a.put o.dst v)) : wpStill P ops w Q (o :: rest) a := by
  unfold wpStill
  rw [if_pos hw]
  unfold Oper.still
  rw [hr]
  exact ⟨rfl, h⟩
/-- a call that leaves the world alone, in a great frame -/
theorem still_enter (hw : Region.wanted o (yielded ops a.tmps) = true) (f : FuncId) (args : Array Value) (v : Value) (hr : (execOp a.eval o).run P w = .ok (.enter f args) w) (hc : Calls P f args w fun e w'' => e = .returned v ∧ w'' = w) (h : wpStill P ops w Q rest (a.put o.dst v)) : wpStill P ops w Q (o :: rest) a := by
  unfold wpStill
  rw [if_pos hw]
  unfold Oper.still
  rw [hr]
  exact ⟨rfl, v, hc, h⟩
end

/-- how far the differences of a state are reckoned -/
def dArr (d : Nat → Int) (i : Nat) : Array Value := #[.int .i64 (if 0 < i then d 0 else 0), .int .i64 (if 1 < i then d 1 else 0), .int .i64 (if 2 < i then d 2 else 0)]
theorem dArr_set (d : Nat → Int) (i : Nat) (h : i < 3) : (dArr d i).setIfInBounds i (.int .i64 (d i)) = dArr d (i + 1) := by
  match i, h with
  | 0, _ => rfl
  | 1, _ => rfl
  | 2, _ => rfl
theorem arr_at {W : World} {b : Nat} {t : TypeId} {d : Nat → Int} (h : W.heap[b]? = some (.cells #[.int .i64 (d 0), .int .i64 (d 1), .int .i64 (d 2)] t (0, 0))) (i : Nat) (hi : i < 3) : W.cell? ⟨b, i, none⟩ = some (.int .i64 (d i)) := by
  rw [cell_of_row _ _ _ _ _ _ h]
  match i, hi with
  | 0, _ => rfl
  | 1, _ => rfl
  | 2, _ => rfl
theorem dArr_at {W : World} {b : Nat} {t : TypeId} {d : Nat → Int} {k : Nat} (h : W.heap[b]? = some (.cells (dArr d k) t (0, 0))) (i : Nat) (hi : i < 3) : ∃ x, W.cell? ⟨b, i, none⟩ = some (.int .i64 x) := by
  rw [cell_of_row _ _ _ _ _ _ h]
  match i, hi with
  | 0, _ => exact ⟨_, rfl⟩
  | 1, _ => exact ⟨_, rfl⟩
  | 2, _ => exact ⟨_, rfl⟩

/-- the loop that reckons the differences of a state: its j-th round -/
structure DvInv (wz : World) (T sx sy sz se : Int) (u D : Nat → Int) (j : Nat) (W : World) : Prop where
  hb : Below wz.heap.size wz W
  h9 : W.heap[wz.heap.size]? = some (.cells #[.int .i64 T, .int .i64 sx, .int .i64 sy, .int .i64 sz, .int .i64 se] 45 (0, 0))
  h10 : W.heap[wz.heap.size + 1]? = some (.cells #[.int .i64 (u 0), .int .i64 (u 1), .int .i64 (u 2)] 57 (0, 0))
  h11 : W.heap[wz.heap.size + 1 + 1]? = some (.cells (dArr D j) 57 (0, 0))
theorem DvInv.step {wz W : World} {T sx sy sz se : Int} {u D : Nat → Int} {j : Nat} (h : DvInv wz T sx sy sz se u D j W) (hj : j < 3) : DvInv wz T sx sy sz se u D (j + 1) (W.drew.setCell ⟨wz.heap.size + 1 + 1, j, none⟩ (.int .i64 (D j))) := by
  have n9 : wz.heap.size ≠ wz.heap.size + 1 + 1 := by omega
  have n10 : wz.heap.size + 1 ≠ wz.heap.size + 1 + 1 := by omega
  exact ⟨setC h.hb.drew (show wz.heap.size ≤ wz.heap.size + 1 + 1 by omega) _, heap_ne (W := W.drew) n9 h.h9, heap_ne (W := W.drew) n10 h.h10, by rw [← dArr_set D j hj]; exact set_block (w := W.drew) h.h11⟩

/-- is t the tick of one of the first states? -/
def tickB (L : List St) (t : Int) : Nat → Bool
  | 0 => false
  | i + 1 => tickB L t i || ((gt L i).t == t)

theorem tickB_false {L : List St} {t : Int} : ∀ n, tickB L t n = false → ∀ j, j < n → (gt L j).t ≠ t
  | 0, _, j, hj => absurd hj (Nat.not_lt_zero _)
  | n + 1, h, j, hj => by
    unfold tickB at h
    rw [Bool.or_eq_false_iff] at h
    rcases Nat.lt_or_ge j n with h1 | h1
    · exact tickB_false n h.1 j h1
    · rw [show j = n by omega]
      intro he
      have := h.2
      rw [he] at this
      simp at this
theorem sq_b (a : Int) (h : -100500000 ≤ a ∧ a ≤ 100500000) : 0 ≤ a * a ∧ a * a ≤ 10100250000000000 := by
  have h1 : (a * a).natAbs ≤ 10100250000000000 := by rw [Int.natAbs_mul]; exact Nat.le_trans (Nat.mul_le_mul (show a.natAbs ≤ 100500000 by omega) (show a.natAbs ≤ 100500000 by omega)) (by decide)
  have h2 : 0 ≤ a * a := by
    rcases Int.le_total 0 a with h3 | h3
    · exact Int.mul_nonneg h3 h3
    · exact Int.mul_nonneg_of_nonpos_of_nonpos h3 h3
  omega
/-- what is so while the true place is moved off the line -/
structure PvI (w w11 : World) (P X M : Obj) (b14 b16 : Nat) (a0 a1 a2 : Int) (W : World) : Prop where
  hb : Below w.heap.size w W
  hz : Below w11.heap.size w11 W
  hp : W.heap[w.heap.size]? = some P
  hx : W.heap[w.heap.size + 1]? = some X
  hm : W.heap[b16]? = some M
  hn : W.heap[b14]? = some (.cells #[.int .i64 a0, .int .i64 a1, .int .i64 a2] 43 (0, 0))
theorem PvI.next {w w11 W W' : World} {P X M : Obj} {b14 b16 : Nat} {a0 a1 a2 : Int} (h : PvI w w11 P X M b14 b16 a0 a1 a2 W) (hb : Below W.heap.size W W') : PvI w w11 P X M b14 b16 a0 a1 a2 W' :=
  ⟨andThen h.hb hb, andThen h.hz hb, keepb hb h.hp, keepb hb h.hx, keepb hb h.hm, keepb hb h.hn⟩
theorem PvI.set {w w11 W : World} {P X M : Obj} {b14 b16 : Nat} {a0 a1 a2 c0 c1 c2 : Int} (h : PvI w w11 P X M b14 b16 a0 a1 a2 W) (h1 : w.heap.size + 1 < b14) (h2 : w11.heap.size ≤ b14) (h3 : b16 ≠ b14) (i : Nat) (x : Int)
    (he : (#[.int .i64 a0, .int .i64 a1, .int .i64 a2] : Array Value).setIfInBounds i (.int .i64 x) = #[.int .i64 c0, .int .i64 c1, .int .i64 c2]) : PvI w w11 P X M b14 b16 c0 c1 c2 (W.drew.setCell ⟨b14, i, none⟩ (.int .i64 x)) :=
  ⟨setC h.hb.drew (by omega) _, setC h.hz.drew h2 _, heap_ne (W := W.drew) (by omega) h.hp, heap_ne (W := W.drew) (by omega) h.hx, heap_ne (W := W.drew) h3 h.hm, by rw [← he]; exact set_block (w := W.drew) h.hn⟩

set_option maxRecDepth 100000 in
set_option maxHeartbeats 40000000 in
theorem between_law (nm : ByteArray) (bend : Int) (L : List St) (v pv : Value) (nw : Nat) (part : Nat → Nat → Int) (f0 f1 f2 : Int) (w : World) (hv : OV w v nm bend L) (hI : ∀ k, (gt L k).t ≤ 9223372036854775807) (hP : Parts w pv nw part) (hR : Rt bend L) (hE : (orbE (nameE nm) bend L).2 = 0) (hbr : briefB nm.size (nameE nm) bend L = true) (hw1 : 1 ≤ nw) (hw2 : nw ≤ 50) :
    Calls Try.prog 5 #[v, pv, .agg #[.int .i64 f0, .int .i64 f1, .int .i64 f2]] w fun e w' => e = .returned (.bool true) ∧ Below w.heap.size w w' := by
  have CA := Lib.hid flown_any
  have CB := Lib.hid (fun W (h : Below w.heap.size w W) => Brief_any v nm bend L W (hv.next h))
  rw [hbr] at CB
  obtain ⟨hfw, hsp⟩ := briefB_true hbr
  obtain ⟨hs1, hn1⟩ := fewB_true hfw
  have CE := Lib.hid (fun W (h : Below w.heap.size w W) => refErr_any v nm (by omega) bend L W (hv.next h))
  rw [hE] at CE
  have HV := Lib.hid hv
  have HI := Lib.hid hI
  obtain ⟨p, cap, hvf, -, -, hS0⟩ := hv.form
  subst hvf
  obtain ⟨pb, po, rfl, hSt⟩ := hS0 (by have := hR.n0; omega)
  have HSt := Lib.hid hSt
  clear hS0 hSt
  have HPP := Lib.hid hP
  obtain ⟨pa, pc, hpv, hpc1, hpc2, hpx⟩ := hP
  subst hpv
  obtain ⟨bp, op, rfl, hcell⟩ := hpx (by omega)
  have HC := Lib.hid hcell
  have HRR := Lib.hid (And.intro hR (And.intro hE hsp))
  have hnn : 2 ≤ L.length ∧ L.length ≤ 40 := ⟨by have := hR.n0; omega, by have := hR.n1; omega⟩
  clear hv hI hcell hpx hR hE hbr hfw hsp
  obtain ⟨n, hn⟩ : ∃ n, n = L.length := ⟨_, rfl⟩
  rw [← hn] at CB CE HV hnn ⊢
  have HN := Lib.hid hn
  clear hn hn1
  have hw1' : ¬ (nw : Int) = 0 := by omega
  have hw1b : ((nw : Int) == 0) = false := by rw [beq_eq_false_iff_ne]; exact hw1'
  have hw2' : ¬ (50 : Int) < nw := by omega
  have hw2b : decide ((50 : Int) < nw) = false := by rw [decide_eq_false_iff_not]; exact hw2'
  go_enter Try.func5, Try.ntmps5
  go_wp2_with fail
  obtain ⟨W0, hW0⟩ : ∃ W0, W0 = (w.alloc (.cells #[.string nm, .int .i64 bend, .slice (some ⟨pb, po, none⟩) n cap] 24)).alloc (.cells #[.int .i64 f0, .int .i64 f1, .int .i64 f2] 57) := ⟨_, rfl⟩
  rw [← hW0]
  have HB0 := Lib.hid (show Below w.heap.size w W0 by rw [hW0]; (repeat (first | with_reducible exact Below.refl _ _ | with_reducible refine alloc1 ?_ _ | with_reducible refine Below.drew ?_ | with_reducible refine drewN1 ?_ _ | with_reducible refine setC ?_ (by omega) _)))
  have HP0 := Lib.hid (show W0.heap[w.heap.size]? = some (.cells #[.string nm, .int .i64 bend, .slice (some ⟨pb, po, none⟩) n cap] 24 (0, 0)) by rw [hW0]; (repeat (first | ((with_reducible refine hnew ?_); (simp; done)) | with_reducible refine hdrew ?_ | with_reducible refine hold ?_)))
  have HX0 := Lib.hid (show W0.heap[w.heap.size + 1]? = some (.cells #[.int .i64 f0, .int .i64 f1, .int .i64 f2] 57 (0, 0)) by rw [hW0]; (repeat (first | ((with_reducible refine hnew ?_); (simp; done)) | with_reducible refine hdrew ?_ | with_reducible refine hold ?_)))
  clear hW0
  refine (CA.out _).mono ?_
  rintro e w1 ⟨rfl, hb⟩
  have HB1 := Lib.hid (trans' HB0.out hb)
  have HP1 := Lib.hid (keepb hb HP0.out)
  have HX1 := Lib.hid (keepb hb HX0.out)
  clear hb HB0 HP0 HX0 CA
  obtain ⟨k0, k1, k2⟩ := cells3 HP1.out
  go_wp2_with fail
  refine (CB.out _ HB1.out).mono ?_
  rintro e w2 ⟨rfl, hb⟩
  have HB2 := Lib.hid (trans' HB1.out hb)
  have HP2 := Lib.hid (keepb hb HP1.out)
  have HX2 := Lib.hid (keepb hb HX1.out)
  clear hb k0 k1 k2 HB1 HP1 HX1 CB
  obtain ⟨k0, k1, k2⟩ := cells3 HP2.out
  go_wp2_with fail
  refine (CE.out _ HB2.out).mono ?_
  rintro e w3 ⟨rfl, hb⟩
  have HB3 := Lib.hid (trans' HB2.out hb)
  have HP3 := Lib.hid (keepb hb HP2.out)
  have HX3 := Lib.hid (keepb hb HX2.out)
  clear hb k0 k1 k2 HB2 HP2 HX2 CE
  obtain ⟨k0, k1, k2⟩ := cells3 HP3.out
  go_wp2_with fail
  refine (Copy_own _ nm bend L (by have := HN.out; omega) w3 (HV.out.next HB3.out)).mono ?_
  rintro e w4 ⟨sl, base, rfl, hb4, hbase, ho4⟩
  rw [← HN.out] at ho4
  obtain ⟨g, cp, rfl, hg1, hg2⟩ : ∃ g cp, sl = .slice (some ⟨g, 0, none⟩) n cp ∧ base ≤ g ∧ g < w4.heap.size := by
    rcases ho4.2 with ⟨-, h0⟩ | ⟨g, cp, cur, h1, h2, h3, -⟩
    · omega
    · exact ⟨g, cp, h1, h2, lt_of_block h3⟩
  have HB4 := Lib.hid (trans' HB3.out hb4)
  have HP4 := Lib.hid (keepb hb4 HP3.out)
  have HX4 := Lib.hid (keepb hb4 HX3.out)
  have HZ := Lib.hid (show w.heap.size + 1 < g ∧ w4.heap.size ≠ g ∧ g < w4.heap.size by have := lt_of_block HX3.out; omega)
  have HO4 := Lib.hid ho4
  clear hb4 hbase ho4 hg1 hg2 k0 k1 k2 HB3 HP3 HX3
  go_wp2_with fail
  obtain ⟨W5, hW5⟩ : ∃ W5, W5 = w4.alloc (.cells #[.string nm, .int .i64 0, .slice (some ⟨g, 0, none⟩) n cp] 24) := ⟨_, rfl⟩
  rw [← hW5]
  have hb5 : Below w4.heap.size w4 W5 := by rw [hW5]; exact new_below _ _
  have I0 := Lib.hid (show TvInv w (.cells #[.string nm, .int .i64 bend, .slice (some ⟨pb, po, none⟩) n cap] 24) (.cells #[.int .i64 f0, .int .i64 f1, .int .i64 f2] 57) (.cells #[.string nm, .int .i64 0, .slice (some ⟨g, 0, none⟩) n cp] 24) w4.heap.size base g n cp part nw L 0 W5 from ⟨trans' HB4.out hb5, keepb hb5 HP4.out, keepb hb5 HX4.out, by rw [hW5]; exact heap_alloc_new _ _, by rw [stT_zero]; exact owns_below HO4.out hb5⟩)
  clear hW5 hb5 HB4 HP4 HX4 HO4
  go_loopw [8] (fun i wr => ∃ k : Nat, k ≤ n ∧ i = .int .i64 k ∧ Hid (TvInv w (.cells #[.string nm, .int .i64 bend, .slice (some ⟨pb, po, none⟩) n cap] 24) (.cells #[.int .i64 f0, .int .i64 f1, .int .i64 f2] 57) (.cells #[.string nm, .int .i64 0, .slice (some ⟨g, 0, none⟩) n cp] 24) w4.heap.size base g n cp part nw L k wr)) (fun i _ => n - (intOf i).toNat)
  case atStart => exact ⟨0, Nat.zero_le _, rfl, I0⟩
  case round =>
    clear I0
    obtain ⟨k, hk, rfl, IK⟩ := hrel
    obtain ⟨wz, rfl⟩ : ∃ wz : World, wz = wr := ⟨_, rfl⟩
    obtain ⟨y0, y1, y2⟩ := cells3 IK.out.hy
    by_cases hlt : k < n
    · have hkL : k < L.length := by have := HN.out; omega
      have c0 : wz.cell? ⟨g, k * 5, none⟩ = some (.int .i64 (gt L k).t) := (IK.out.ho.cellAt (k * 5) (by omega)).trans (stT_at part nw L k 0 hkL (by decide))
      have c1 : wz.cell? ⟨g, k * 5 + 1, none⟩ = some (.int .i64 (gt L k).x) := (IK.out.ho.cellAt (k * 5 + 1) (by omega)).trans (stT_at part nw L k 1 hkL (by decide))
      have c2 : wz.cell? ⟨g, k * 5 + 2, none⟩ = some (.int .i64 (gt L k).y) := (IK.out.ho.cellAt (k * 5 + 2) (by omega)).trans (stT_at part nw L k 2 hkL (by decide))
      have c3 : wz.cell? ⟨g, k * 5 + 3, none⟩ = some (.int .i64 (gt L k).z) := (IK.out.ho.cellAt (k * 5 + 3) (by omega)).trans (stT_at part nw L k 3 hkL (by decide))
      have c4 : wz.cell? ⟨g, k * 5 + 4, none⟩ = some (.int .i64 (gt L k).e) := (IK.out.ho.cellAt (k * 5 + 4) (by omega)).trans (stT_at part nw L k 4 hkL (by decide))
      have HCc := Lib.hid (And.intro c0 (And.intro c1 (And.intro c2 (And.intro c3 c4))))
      obtain ⟨q, hq⟩ : ∃ q, q = k % nw := ⟨_, rfl⟩
      have hqn : q < nw := by rw [hq]; exact Nat.mod_lt _ (by omega)
      obtain ⟨v0, v1, v2⟩ := HC.out q hqn
      have u0 := keepc IK.out.hb v0
      have u1 := keepc IK.out.hb v1
      have u2 := keepc IK.out.hb v2
      have CM := Lib.hid (fun W => Mod_any (k : Int) (nw : Int) (by omega) (by omega) W)
      rw [show (k : Int) % (nw : Int) = (q : Int) from by rw [hq]; exact (Int.natCast_emod k nw).symm] at CM
      have HQ := Lib.hid hq
      have hst := HRR.out.1.st k hkL
      have HE := Lib.hid (And.intro hst.e0 hst.e1)
      have HCO := Lib.hid (And.intro (cOf_bd hst 0) (And.intro (cOf_bd hst 1) (cOf_bd hst 2)))
      have HD : Hid (∀ i, dvI part nw L k i = part q i % (2 * (gt L k).e + 1) - (gt L k).e) := fun i => by rw [hq]; rfl
      have HTR : Hid (truS part nw L k = ⟨(gt L k).t, (gt L k).x + dvI part nw L k 0, (gt L k).y + dvI part nw L k 1, (gt L k).z + dvI part nw L k 2, 0⟩) := rfl
      have HDB := Lib.hid (fun i => dvI_b part nw L k i hst.e0)
      have IN := Lib.hid (fun W (h : Below wz.heap.size wz W) => (IK.out.next h).step HZ.out.1 HZ.out.2.1)
      have HF := Lib.hid (fun W (h : Below wz.heap.size wz W) i => (IK.out.next h).ho.frozenAt i)
      have hgz : g < wz.heap.size := (IK.out.ho.lt g rfl).2
      have HYY := Lib.hid (fun W (h : Below wz.heap.size wz W) => (IK.out.next h).hy)
      have hyz : w4.heap.size < wz.heap.size := lt_of_block IK.out.hy
      generalize truS part nw L k = TS at *
      generalize hdd : dvI part nw L k = D at *
      have e1 : cOf (gt L k) 0 = (gt L k).x := rfl
      have e2 : cOf (gt L k) 1 = (gt L k).y := rfl
      have e3 : cOf (gt L k) 2 = (gt L k).z := rfl
      rw [e1, e2, e3] at HCO
      generalize (gt L k).t = T at *
      generalize (gt L k).x = sx at *
      generalize (gt L k).y = sy at *
      generalize (gt L k).z = sz at *
      generalize (gt L k).e = se at *
      have hk5 : (k : Int) < (n : Int) := by omega
      have hq5 : (q : Int) < (nw : Int) := by omega
      clear hst v0 v1 v2 hq hkL e1 e2 e3 hdd IK
      go_wp2_with fail
      obtain ⟨W6, hW6⟩ : ∃ W6, W6 = wz.alloc (.cells #[.int .i64 T, .int .i64 sx, .int .i64 sy, .int .i64 sz, .int .i64 se] 45) := ⟨_, rfl⟩
      have hb6 : Below wz.heap.size wz W6 := by rw [hW6]; exact new_below _ _
      have h96 : W6.heap[wz.heap.size]? = some (.cells #[.int .i64 T, .int .i64 sx, .int .i64 sy, .int .i64 sz, .int .i64 se] 45 (0, 0)) := by rw [hW6]; exact heap_alloc_new _ _
      have hs6 : W6.heap.size = wz.heap.size + 1 := by rw [hW6]; exact World.size_alloc _ _
      have r0 := keepc hb6 u0
      have r1 := keepc hb6 u1
      have r2 := keepc hb6 u2
      rw [← hW6]
      clear hW6 u0 u1 u2 c0 c1 c2 c3 c4 y0 y1 y2
      refine (CM.out _).mono ?_
      rintro e w' ⟨rfl, rfl⟩
      go_wp2_with fail
      obtain ⟨W7, hW7⟩ : ∃ W7, W7 = (W6.alloc (.cells #[.int .i64 (part q 0), .int .i64 (part q 1), .int .i64 (part q 2)] 57)).alloc (.cells #[.int .i64 0, .int .i64 0, .int .i64 0] 57) := ⟨_, rfl⟩
      have n1 := new_below W6 (.cells #[.int .i64 (part q 0), .int .i64 (part q 1), .int .i64 (part q 2)] 57)
      have n2 := new_below (W6.alloc (.cells #[.int .i64 (part q 0), .int .i64 (part q 1), .int .i64 (part q 2)] 57)) (.cells #[.int .i64 0, .int .i64 0, .int .i64 0] 57)
      have h10 : (W6.alloc (.cells #[.int .i64 (part q 0), .int .i64 (part q 1), .int .i64 (part q 2)] 57)).heap[wz.heap.size + 1]? = some (.cells #[.int .i64 (part q 0), .int .i64 (part q 1), .int .i64 (part q 2)] 57 (0, 0)) := by rw [← hs6]; exact heap_alloc_new _ _
      have h11 : W7.heap[wz.heap.size + 1 + 1]? = some (.cells (dArr D 0) 57 (0, 0)) := by
        have := heap_alloc_new (W6.alloc (.cells #[.int .i64 (part q 0), .int .i64 (part q 1), .int .i64 (part q 2)] 57)) (.cells #[.int .i64 0, .int .i64 0, .int .i64 0] 57)
        rw [World.size_alloc, hs6] at this
        rw [hW7]
        exact this
      have J0 : Hid (DvInv wz T sx sy sz se (part q) D 0 W7) := ⟨by rw [hW7]; exact andThen (andThen hb6 n1) n2, by rw [hW7]; exact keepb n2 (keepb n1 h96), by rw [hW7]; exact keepb n2 h10, h11⟩
      rw [← hW7]
      clear hW7 n1 n2 h10 h11 hb6 h96 hs6 r0 r1 r2 CM
      go_loopw [12] (fun i wr => ∃ j : Nat, j ≤ 3 ∧ i = .int .i64 j ∧ Hid (DvInv wz T sx sy sz se (part q) D j wr)) (fun i _ => 3 - (intOf i).toNat)
      case atStart => exact ⟨0, Nat.zero_le _, rfl, J0⟩
      case round =>
        clear J0
        obtain ⟨j, hj, rfl, IJ⟩ := hrel
        obtain ⟨wq, rfl⟩ : ∃ wq : World, wq = wr := ⟨_, rfl⟩
        by_cases hjt : j < 3
        · have a10 := arr_at IJ.out.h10 j hjt
          obtain ⟨x11, a11⟩ := dArr_at IJ.out.h11 j hjt
          have f11 := frozen_of_row wq (wz.heap.size + 1 + 1) j _ _ IJ.out.h11
          have a9 : wq.cell? ⟨wz.heap.size, 4, none⟩ = some (.int .i64 se) := by rw [cell_of_row _ _ _ _ _ _ IJ.out.h9]; rfl
          have CM2 := Lib.hid (fun W => Mod_any (part q j) (2 * se + 1) (by have := HE.out; omega) (by have := HE.out; omega) W)
          have hD := HD.out j
          have hDb := HDB.out j
          have IJN := Lib.hid (IJ.out.step hjt)
          have w1 : IntKind.i64.wrap (2 * se) = 2 * se := IntWalk.i64_in _ ⟨by have := HE.out; omega, by have := HE.out; omega⟩
          have w2 : IntKind.i64.wrap (2 * se + 1) = 2 * se + 1 := IntWalk.i64_in _ ⟨by have := HE.out; omega, by have := HE.out; omega⟩
          have w3 : IntKind.i64.wrap (part q j % (2 * se + 1) - se) = D j := by rw [hD]; exact IntWalk.i64_in _ ⟨by have := HE.out; omega, by have := HE.out; omega⟩
          have W1 := Lib.hid w1
          have W2 := Lib.hid w2
          have W3 := Lib.hid w3
          have hj3 : (j : Int) < 3 := by omega
          have HJT := Lib.hid (And.intro hjt hk)
          clear hD hDb w1 w2 w3 hjt hj
          generalize part q j % (2 * se + 1) = mm at *
          generalize part q j = uu at *
          generalize D j = dd at *
          go_wp2_with fail
          refine region_tail 13 (by kernel_rfl) (by kernel_rfl) (fun W hW => ?_)
          simp only [List.take_succ_cons, List.take_zero, List.drop_succ_cons, List.drop_zero]
          refine still_val (by rfl) (.int .i64 j) ?_ ?_
          · go_simp
          simp only [Act.put, List.setIfInBounds_toArray, List.set_cons_succ, List.set_cons_zero]
          refine still_val (by rfl) (.int .i64 j) ?_ ?_
          · go_simp
          simp only [Act.put, List.setIfInBounds_toArray, List.set_cons_succ, List.set_cons_zero]
          refine still_val (by rfl) (.pointer (some ⟨wz.heap.size + 1, j, none⟩)) ?_ ?_
          · have zq := hj3
            go_simp
          simp only [Act.put, List.setIfInBounds_toArray, List.set_cons_succ, List.set_cons_zero]
          refine still_val (by rfl) (.int .i64 uu) ?_ ?_
          · have zq : W.cell? ⟨wz.heap.size + 1, j, none⟩ = some (.int .i64 uu) := by rw [hW]; exact a10
            go_simp
          simp only [Act.put, List.setIfInBounds_toArray, List.set_cons_succ, List.set_cons_zero]
          refine still_val (by rfl) (.pointer (some ⟨wz.heap.size, 4, none⟩)) ?_ ?_
          · go_simp
          simp only [Act.put, List.setIfInBounds_toArray, List.set_cons_succ, List.set_cons_zero]
          refine still_val (by rfl) (.int .i64 se) ?_ ?_
          · have zq : W.cell? ⟨wz.heap.size, 4, none⟩ = some (.int .i64 se) := by rw [hW]; exact a9
            go_simp
          simp only [Act.put, List.setIfInBounds_toArray, List.set_cons_succ, List.set_cons_zero]
          refine still_val (by rfl) (.int .i64 (2 * se)) ?_ ?_
          · have zq := W1.out
            go_simp
          simp only [Act.put, List.setIfInBounds_toArray, List.set_cons_succ, List.set_cons_zero]
          refine still_val (by rfl) (.int .i64 (2 * se + 1)) ?_ ?_
          · have zq := W2.out
            go_simp
          simp only [Act.put, List.setIfInBounds_toArray, List.set_cons_succ, List.set_cons_zero]
          refine still_enter (by rfl) 23 #[.int .i64 uu, .int .i64 (2 * se + 1)] (.int .i64 mm) ?_ (same (CM2.out W)) ?_
          · go_simp
          simp only [Act.put, List.setIfInBounds_toArray, List.set_cons_succ, List.set_cons_zero]
          refine still_val (by rfl) (.pointer (some ⟨wz.heap.size, 4, none⟩)) ?_ ?_
          · go_simp
          simp only [Act.put, List.setIfInBounds_toArray, List.set_cons_succ, List.set_cons_zero]
          refine still_val (by rfl) (.int .i64 se) ?_ ?_
          · have zq : W.cell? ⟨wz.heap.size, 4, none⟩ = some (.int .i64 se) := by rw [hW]; exact a9
            go_simp
          simp only [Act.put, List.setIfInBounds_toArray, List.set_cons_succ, List.set_cons_zero]
          refine still_val (by rfl) (.int .i64 dd) ?_ ?_
          · have zq := W3.out
            go_simp
          simp only [Act.put, List.setIfInBounds_toArray, List.set_cons_succ, List.set_cons_zero]
          refine still_val (by rfl) (.pointer (some ⟨wz.heap.size + 1 + 1, j, none⟩)) ?_ ?_
          · have zq := hj3
            go_simp
          simp only [Act.put, List.setIfInBounds_toArray, List.set_cons_succ, List.set_cons_zero]
          refine wpStill_nil ?_
          have z1 : W.cell? ⟨wz.heap.size + 1 + 1, j, none⟩ = some (.int .i64 x11) := by rw [hW]; exact a11
          have z2 : W.frozen? ⟨wz.heap.size + 1 + 1, j, none⟩ = false := by rw [hW]; exact f11
          rw [← hW] at IJN
          clear hW
          go_wp2_with fail
          go_roundw
          case rel => exact ⟨j + 1, by have := HJT.out; omega, by go_num, IJN⟩
          case measure =>
            have := HJT.out
            simp [intOf]
            omega
        · have e : j = 3 := by omega
          subst e
          obtain ⟨s0, s1, s2, s3, s4⟩ := cells5 IJ.out.h9
          obtain ⟨d0, d1, d2⟩ := cells3 (x := .int .i64 (D 0)) (y := .int .i64 (D 1)) (z := .int .i64 (D 2)) (t := 57) IJ.out.h11
          have g1 := frozen_of_row wq wz.heap.size 1 _ _ IJ.out.h9
          have g2 := frozen_of_row wq wz.heap.size 2 _ _ IJ.out.h9
          have g3 := frozen_of_row wq wz.heap.size 3 _ _ IJ.out.h9
          have g4 := frozen_of_row wq wz.heap.size 4 _ _ IJ.out.h9
          obtain ⟨m0, m1, m2, m3, m4⟩ := HCc.out
          have m0 := keepc IJ.out.hb m0
          have m1 := keepc IJ.out.hb m1
          have m2 := keepc IJ.out.hb m2
          have m3 := keepc IJ.out.hb m3
          have m4 := keepc IJ.out.hb m4
          have l0 := HF.out wq IJ.out.hb (k * 5)
          have l1 := HF.out wq IJ.out.hb (k * 5 + 1)
          have l2 := HF.out wq IJ.out.hb (k * 5 + 2)
          have l3 := HF.out wq IJ.out.hb (k * 5 + 3)
          have l4 := HF.out wq IJ.out.hb (k * 5 + 4)
          have hne : g ≠ wz.heap.size := by omega
          have hne2 : wz.heap.size ≠ g := by omega
          obtain ⟨y0, y1, y2⟩ := cells3 (HYY.out wq IJ.out.hb)
          have hy9 : w4.heap.size ≠ wz.heap.size := by omega
          have w1 : IntKind.i64.wrap (sx + D 0) = sx + D 0 := IntWalk.i64_in _ ⟨by have := HCO.out; have := HDB.out 0; have := HE.out; omega, by have := HCO.out; have := HDB.out 0; have := HE.out; omega⟩
          have w2 : IntKind.i64.wrap (sy + D 1) = sy + D 1 := IntWalk.i64_in _ ⟨by have := HCO.out; have := HDB.out 1; have := HE.out; omega, by have := HCO.out; have := HDB.out 1; have := HE.out; omega⟩
          have w3 : IntKind.i64.wrap (sz + D 2) = sz + D 2 := IntWalk.i64_in _ ⟨by have := HCO.out; have := HDB.out 2; have := HE.out; omega, by have := HCO.out; have := HDB.out 2; have := HE.out; omega⟩
          generalize D 0 = D0 at *
          generalize D 1 = D1 at *
          generalize D 2 = D2 at *
          go_wp2_with fail
          go_roundw
          case rel =>
            have hb9 : Below wz.heap.size wz ((((wq.setCell ⟨wz.heap.size, 1, none⟩ (.int .i64 (sx + D0))).setCell ⟨wz.heap.size, 2, none⟩ (.int .i64 (sy + D1))).setCell ⟨wz.heap.size, 3, none⟩ (.int .i64 (sz + D2))).setCell ⟨wz.heap.size, 4, none⟩ (.int .i64 0)) := setC (setC (setC (setC IJ.out.hb (Nat.le_refl _) _) (Nat.le_refl _) _) (Nat.le_refl _) _) (Nat.le_refl _) _
            have hN := IN.out _ hb9
            rw [HTR.out] at hN
            exact ⟨k + 1, by omega, by go_num, hN⟩
          case measure => simp [intOf]; omega
    · have e : k = n := by omega
      subst e
      have hL' : (truL part nw L).length = k := by rw [truL_len]; exact HN.out.symm
      have OT := IK.out.ho
      rw [show stT part nw L k = stVals (truL part nw L) from by rw [HN.out]; exact stT_all part nw L, ← hL'] at OT
      have OV9 := Lib.hid (OV.made (nm := nm) (bend := 0) OT)
      rw [hL'] at OV9
      have HT := Lib.hid (tru_truth (part := part) (nw := nw) (L := L) (fun k hk => (HRR.out.1.st k hk).e0))
      have CE := Lib.hid (refErr_any _ nm (by omega) 0 (truL part nw L) wz OV9.out)
      have HB9 := Lib.hid IK.out.hb
      have HP9 := Lib.hid IK.out.hp
      have HX9 := Lib.hid IK.out.hx
      have HY9 := Lib.hid IK.out.hy
      have HL' := Lib.hid hL'
      clear OT IK y0 y1 y2 hL'
      generalize truL part nw L = L' at *
      obtain ⟨y0, y1, y2⟩ := cells3 HY9.out
      generalize hEE : (orbE (nameE nm) 0 L').2 = E9 at *
      have HEE := Lib.hid hEE
      clear hEE
      have hE9 : (E9 != 0) = true ∨ E9 = 0 := by
        by_cases h : E9 = 0
        · exact .inr h
        · exact .inl (by rw [bne_iff_ne]; exact h)
      rcases hE9 with hE9 | rfl
      · go_wp2_with fail
        refine CE.out.mono ?_
        rintro e w10 ⟨rfl, hb⟩
        have HB10 := Lib.hid (trans' HB9.out hb)
        clear hb
        go_wp2_with fail
        go_ret
        exact ⟨rfl, HB10.out⟩
      go_wp2_with fail
      refine CE.out.mono ?_
      rintro e w10 ⟨rfl, hb⟩
      have HB10 := Lib.hid (trans' HB9.out hb)
      have HP10 := Lib.hid (keepb hb HP9.out)
      have HX10 := Lib.hid (keepb hb HX9.out)
      have HY10 := Lib.hid (keepb hb HY9.out)
      have OV10 := Lib.hid (OV9.out.next hb)
      clear hb HB9 HP9 HX9 HY9 OV9 CE y0 y1 y2
      obtain ⟨k0, k1, k2⟩ := cells3 HP10.out
      go_wp2_with fail
      refine (First_any _ nm bend L (by have := HN.out; omega) w10 (HV.out.next HB10.out)).mono ?_
      rintro e w11 ⟨rfl, hb⟩
      have HB11 := Lib.hid (trans' HB10.out hb)
      have HP11 := Lib.hid (keepb hb HP10.out)
      have HX11 := Lib.hid (keepb hb HX10.out)
      have HY11 := Lib.hid (keepb hb HY10.out)
      have OV11 := Lib.hid (OV10.out.next hb)
      clear hb HB10 HP10 HX10 HY10 OV10 k0 k1 k2
      have hfl : fst L ≤ lst L := HRR.out.1.le 0 (L.length - 1) (by omega) (by have := HN.out; omega)
      have HT2 : Hid (fst L' = fst L ∧ lst L' = lst L ∧ L'.length = k ∧ (∀ j, (gt L' j).t ≤ 9223372036854775807)) := ⟨HT.out.fst, HT.out.lst, HL'.out, fun j => by rw [HT.out.tt]; exact HI.out j⟩
      go_wp2_with fail
      go_loopw [13] (fun tv wr => ∃ t : Int, fst L ≤ t ∧ t ≤ lst L + 1 ∧ tv = .int .i64 t ∧ Hid (Below w11.heap.size w11 wr)) (fun tv _ => (lst L + 1 - intOf tv).toNat)
      case atStart => exact ⟨_, Int.le_refl _, by omega, rfl, Lib.hid (Below.refl _ _)⟩
      case round =>
        obtain ⟨t, ht1, ht2, rfl, HBt⟩ := hrel
        obtain ⟨wa, rfl⟩ : ∃ wa : World, wa = wr := ⟨_, rfl⟩
        have HPa := Lib.hid (keepb HBt.out HP11.out)
        have HXa := Lib.hid (keepb HBt.out HX11.out)
        have HYa := Lib.hid (keepb HBt.out HY11.out)
        have OVa := Lib.hid (OV11.out.next HBt.out)
        have HVa := Lib.hid (HV.out.next (trans' HB11.out HBt.out))
        have HBa := Lib.hid (trans' HB11.out HBt.out)
        obtain ⟨k0, k1, k2⟩ := cells3 HPa.out
        go_wp2_with fail
        refine (Last_any _ nm bend L (by have := HN.out; omega) (by have := HN.out; omega) wa HVa.out).mono ?_
        rintro e wb ⟨rfl, hb⟩
        have HBb := Lib.hid (trans' HBa.out hb)
        have HZb := Lib.hid (trans' HBt.out hb)
        have HPb := Lib.hid (keepb hb HPa.out)
        have HXb := Lib.hid (keepb hb HXa.out)
        have HYb := Lib.hid (keepb hb HYa.out)
        have OVb := Lib.hid (OVa.out.next hb)
        have HVb := Lib.hid (HVa.out.next hb)
        clear hb HBa HPa HXa HYa OVa HVa k0 k1 k2
        by_cases htl : t ≤ lst L
        · have hE0 : tkE (nameE nm) 0 L' t = 0 := tkE_of HEE.out (by rw [HT2.out.1]; exact ht1) (by rw [HT2.out.2.1]; exact htl) (by rw [HT2.out.2.2.1]; omega)
          have hE1 : tkE (nameE nm) bend L t = 0 := tkE_of HRR.out.2.1 ht1 htl (by have := HN.out; omega)
          have CN := Lib.hid (fun v W hv => Nominal_any v nm (by omega) 0 L' (by rw [HT2.out.2.2.1]; omega) HT2.out.2.2.2 t W hv)
          have CX := Lib.hid (fun v W hv => BoxAt_any v nm (by omega) bend L (by have := HN.out; omega) HI.out t W hv)
          have CS := Lib.hid (fun v W hv => SquareAt_any v nm (by omega) bend L (by have := HN.out; omega) HI.out t 0 0 0 W hv)
          have hE2 : plE (nameE nm) bend L t 0 0 0 = 0 := by
            unfold plE
            have h3 : placeE 0 0 0 = 0 := by decide
            unfold tkE at hE1
            rw [firstE_zero_iff] at hE1 ⊢
            intro e he
            simp only [List.mem_cons, List.not_mem_nil, or_false] at he hE1
            rcases he with rfl | rfl | rfl
            · exact hE1 _ (.inl rfl)
            · exact hE1 _ (.inr rfl)
            · exact h3
          rw [hE0] at CN
          rw [hE1] at CX
          rw [hE2] at CS
          simp only [zif, if_true] at CN CX CS
          obtain ⟨y0, y1, y2⟩ := cells3 HYb.out
          go_wp2_with fail
          refine (Copy_any _ nm 0 L' (by rw [HT2.out.2.2.1]; omega) wb OVb.out).mono ?_
          rintro e wc ⟨vc, rfl, hb, hvc⟩
          have HBc := Lib.hid (trans' HBb.out hb)
          have HZc := Lib.hid (trans' HZb.out hb)
          have HPc := Lib.hid (keepb hb HPb.out)
          have HXc := Lib.hid (keepb hb HXb.out)
          have HYc := Lib.hid (keepb hb HYb.out)
          have OVc := Lib.hid (OVb.out.next hb)
          have HVc := Lib.hid (HVb.out.next hb)
          clear hb HBb HZb HPb HXb HYb OVb HVb y0 y1 y2
          go_wp2_with fail
          refine (CN.out _ wc hvc).mono ?_
          rintro e wd ⟨rfl, hb⟩
          have HBd := Lib.hid (trans' HBc.out hb)
          have HZd := Lib.hid (trans' HZc.out hb)
          have HPd := Lib.hid (keepb hb HPc.out)
          have HXd := Lib.hid (keepb hb HXc.out)
          have HYd := Lib.hid (keepb hb HYc.out)
          have OVd := Lib.hid (OVc.out.next hb)
          have HVd := Lib.hid (HVc.out.next hb)
          clear hb hvc HBc HZc HPc HXc HYc OVc HVc CN
          go_upto_region 25 with fail
          obtain ⟨we, hwe⟩ : ∃ we, we = wd.alloc (.cells #[.int .i64 (nomC L' t 0), .int .i64 (nomC L' t 1), .int .i64 (nomC L' t 2)] 43) := ⟨_, rfl⟩
          have hb : Below wd.heap.size wd we := by rw [hwe]; exact new_below _ _
          obtain ⟨b14, hb14⟩ : ∃ b14, b14 = wd.heap.size := ⟨_, rfl⟩
          have HNe : Hid (we.heap[b14]? = some (.cells #[.int .i64 (nomC L' t 0), .int .i64 (nomC L' t 1), .int .i64 (nomC L' t 2)] 43 (0, 0))) := by rw [hwe, hb14]; exact heap_alloc_new _ _
          have HG14 : Hid (w11.heap.size ≤ b14) := by rw [hb14]; exact HZd.out.size
          have HBe := Lib.hid (trans' HBd.out hb)
          have HZe := Lib.hid (trans' HZd.out hb)
          have HPe := Lib.hid (keepb hb HPd.out)
          have HXe := Lib.hid (keepb hb HXd.out)
          have HYe := Lib.hid (keepb hb HYd.out)
          have OVe := Lib.hid (OVd.out.next hb)
          have HVe := Lib.hid (HVd.out.next hb)
          rw [← hwe, ← hb14]
          clear hb hwe hb14 HBd HZd HPd HXd HYd OVd HVd
          obtain ⟨k0, k1, k2⟩ := cells3 HPe.out
          go_wp2_with fail
          refine (Copy_any _ nm bend L (by have := HN.out; omega) we HVe.out).mono ?_
          rintro e wf ⟨vc, rfl, hb, hvc⟩
          have HBf := Lib.hid (trans' HBe.out hb)
          have HZf := Lib.hid (trans' HZe.out hb)
          have HPf := Lib.hid (keepb hb HPe.out)
          have HXf := Lib.hid (keepb hb HXe.out)
          have HYf := Lib.hid (keepb hb HYe.out)
          have OVf := Lib.hid (OVe.out.next hb)
          have HVf := Lib.hid (HVe.out.next hb)
          have HNf := Lib.hid (keepb hb HNe.out)
          clear hb HBe HZe HPe HXe HYe OVe HVe HNe k0 k1 k2
          go_wp2_with fail
          refine (CX.out _ wf hvc).mono ?_
          rintro e wg ⟨rfl, hb⟩
          have HBg := Lib.hid (trans' HBf.out hb)
          have HZg := Lib.hid (trans' HZf.out hb)
          have HPg := Lib.hid (keepb hb HPf.out)
          have HXg := Lib.hid (keepb hb HXf.out)
          have HYg := Lib.hid (keepb hb HYf.out)
          have OVg := Lib.hid (OVf.out.next hb)
          have HVg := Lib.hid (HVf.out.next hb)
          have HNg := Lib.hid (keepb hb HNf.out)
          clear hb hvc HBf HZf HPf HXf HYf OVf HVf HNf CX
          go_upto_region 26 with fail
          obtain ⟨wh, hwh⟩ : ∃ wh, wh = wg.alloc (.cells #[.int .i64 (loC bend L t 0), .int .i64 (hiC bend L t 0), .int .i64 (loC bend L t 1), .int .i64 (hiC bend L t 1), .int .i64 (loC bend L t 2), .int .i64 (hiC bend L t 2)] 61) := ⟨_, rfl⟩
          have hb : Below wg.heap.size wg wh := by rw [hwh]; exact new_below _ _
          obtain ⟨b16, hb16⟩ : ∃ b16, b16 = wg.heap.size := ⟨_, rfl⟩
          have HMh : Hid (wh.heap[b16]? = some (.cells #[.int .i64 (loC bend L t 0), .int .i64 (hiC bend L t 0), .int .i64 (loC bend L t 1), .int .i64 (hiC bend L t 1), .int .i64 (loC bend L t 2), .int .i64 (hiC bend L t 2)] 61 (0, 0))) := by rw [hwh, hb16]; exact heap_alloc_new _ _
          have H1416 : Hid (b14 ≠ b16) := by have := lt_of_block HNg.out; unfold Hid; omega
          have HBh := Lib.hid (trans' HBg.out hb)
          have HZh := Lib.hid (trans' HZg.out hb)
          have HPh := Lib.hid (keepb hb HPg.out)
          have HXh := Lib.hid (keepb hb HXg.out)
          have HYh := Lib.hid (keepb hb HYg.out)
          have OVh := Lib.hid (OVg.out.next hb)
          have HVh := Lib.hid (HVg.out.next hb)
          have HNh := Lib.hid (keepb hb HNg.out)
          rw [← hwh, ← hb16]
          clear hb hwh hb16 HBg HZg HPg HXg HYg OVg HVg HNg
          obtain ⟨k0, k1, k2⟩ := cells3 HPh.out
          go_wp2_with fail
          go_loop [18, 19] (fun sv iv => ∃ i : Nat, i ≤ k ∧ iv = .int .i64 i ∧ sv = .bool (tickB L t i)) (fun _ iv => k - (intOf iv).toNat)
          case atStart => exact ⟨0, Nat.zero_le _, rfl, rfl⟩
          case round =>
            obtain ⟨i, hi, rfl, rfl⟩ := hrel
            by_cases hik : i < k
            · have ci := keepc HBh.out (HSt.out i (by have := HN.out; omega)).1
              have hi5 : (i : Int) < (k : Int) := by omega
              have HTB : Hid (tickB L t (i + 1) = (tickB L t i || ((gt L i).t == t))) := rfl
              generalize hg : (gt L i).t = ti at *
              clear hg
              cases hb : tickB L t i
              · rw [hb] at HTB
                cases he : (ti == t)
                · rw [he] at HTB
                  have he2 : ¬ ti = t := by simpa using he
                  go_wp2_with fail
                  go_round
                  case rel => exact ⟨i + 1, by omega, by go_num, by rw [HTB.out]; rfl⟩
                  case measure => simp [intOf]; omega
                · rw [he] at HTB
                  have he2 : ti = t := by simpa using he
                  subst he2
                  go_wp2_with fail
                  go_round
                  case rel => exact ⟨i + 1, by omega, by go_num, by rw [HTB.out]; rfl⟩
                  case measure => simp [intOf]; omega
              · rw [hb] at HTB
                go_wp2_with fail
                go_round
                case rel => exact ⟨i + 1, by omega, by go_num, by rw [HTB.out]; rfl⟩
                case measure => simp [intOf]; omega
            · have e : i = k := by omega
              subst e
              have hR' : Rt 0 L' := (Rt.of HEE.out).2
              have nb : ∀ c, -100000000 ≤ nomC L' t c ∧ nomC L' t c ≤ 100000000 := fun c => ((inArc hR' t (by rw [HT2.out.1]; exact ht1) (by rw [HT2.out.2.1]; exact htl)).arc hR').nom c
              have hb0 := HRR.out.1.b0
              have hb1 := HRR.out.1.b1
              have md : ∀ f : Int, 0 ≤ f % (2 * bend + 1) ∧ f % (2 * bend + 1) ≤ 2 * bend := fun f => by
                have := Int.emod_nonneg f (show 2 * bend + 1 ≠ 0 by omega)
                have := Int.emod_lt_of_pos f (show 0 < 2 * bend + 1 by omega)
                omega
              have PV0 : Hid (PvI w w11 (.cells #[.string nm, .int .i64 bend, .slice (some ⟨pb, po, none⟩) i cap] 24) (.cells #[.int .i64 f0, .int .i64 f1, .int .i64 f2] 57) (.cells #[.int .i64 (loC bend L t 0), .int .i64 (hiC bend L t 0), .int .i64 (loC bend L t 1), .int .i64 (hiC bend L t 1), .int .i64 (loC bend L t 2), .int .i64 (hiC bend L t 2)] 61) b14 b16 (nomC L' t 0) (nomC L' t 1) (nomC L' t 2) wh) := ⟨HBh.out, HZh.out, HPh.out, HXh.out, HMh.out, HNh.out⟩
              have HG1 : Hid (w.heap.size + 1 < b14 ∧ w11.heap.size ≤ b14 ∧ b16 ≠ b14) := ⟨by have := lt_of_block HX11.out; have := HG14.out; omega, HG14.out, fun h => H1416.out h.symm⟩
              have hwt : IntKind.i64.wrap (t + 1) = t + 1 := by
                have h1 := (HRR.out.1.st (L.length - 1) (by have := HN.out; omega)).t1
                have h0 := (HRR.out.1.st 0 (by have := HN.out; omega)).t0
                have h2 : lst L = (gt L (L.length - 1)).t := rfl
                have h3 : fst L = (gt L 0).t := rfl
                exact IntWalk.i64_in _ ⟨by omega, by omega⟩
              have HWT := Lib.hid hwt
              have HVE := fun d (hd : -bend ≤ d ∧ d ≤ bend) (hz : ∀ j, j < L.length → (gt L j).t = t → d = 0) c => vec_in HRR.out.1 HT.out t d ht1 htl hd hz c
              cases hst : tickB L t i
              case' false =>
                have hnt := tickB_false i hst
                have V0 := HVE (f0 % (2 * bend + 1) - bend) (by have := md f0; omega) (fun j hj he => absurd he (hnt j (by have := HN.out; omega))) 0
                have V1 := HVE (f1 % (2 * bend + 1) - bend) (by have := md f1; omega) (fun j hj he => absurd he (hnt j (by have := HN.out; omega))) 1
                have V2 := HVE (f2 % (2 * bend + 1) - bend) (by have := md f2; omega) (fun j hj he => absurd he (hnt j (by have := HN.out; omega))) 2
                have M0 := md f0
                have M1 := md f1
                have M2 := md f2
                have n0 := nb 0
                have n1 := nb 1
                have n2 := nb 2
                have CM0 := Lib.hid (fun W => Mod_any f0 (2 * bend + 1) (by omega) (by omega) W)
                have CM1 := Lib.hid (fun W => Mod_any f1 (2 * bend + 1) (by omega) (by omega) W)
                have CM2 := Lib.hid (fun W => Mod_any f2 (2 * bend + 1) (by omega) (by omega) W)
                generalize f0 % (2 * bend + 1) = mm0 at *
                generalize f1 % (2 * bend + 1) = mm1 at *
                generalize f2 % (2 * bend + 1) = mm2 at *
                generalize nomC L' t 0 = N0 at *
                generalize nomC L' t 1 = N1 at *
                generalize nomC L' t 2 = N2 at *
                have WB1 : Hid (IntKind.i64.wrap (2 * bend) = 2 * bend) := IntWalk.i64_in _ ⟨by omega, by omega⟩
                have WB2 : Hid (IntKind.i64.wrap (2 * bend + 1) = 2 * bend + 1) := IntWalk.i64_in _ ⟨by omega, by omega⟩
                have WA0 : Hid (IntKind.i64.wrap (N0 + mm0) = N0 + mm0) := IntWalk.i64_in _ ⟨by omega, by omega⟩
                have WA1 : Hid (IntKind.i64.wrap (N1 + mm1) = N1 + mm1) := IntWalk.i64_in _ ⟨by omega, by omega⟩
                have WA2 : Hid (IntKind.i64.wrap (N2 + mm2) = N2 + mm2) := IntWalk.i64_in _ ⟨by omega, by omega⟩
                obtain ⟨P0, hP0⟩ : ∃ P0, P0 = N0 + mm0 - bend := ⟨_, rfl⟩
                obtain ⟨P1, hP1⟩ : ∃ P1, P1 = N1 + mm1 - bend := ⟨_, rfl⟩
                obtain ⟨P2, hP2⟩ : ∃ P2, P2 = N2 + mm2 - bend := ⟨_, rfl⟩
                have WP0 : Hid (IntKind.i64.wrap (N0 + mm0 - bend) = P0) := by rw [hP0]; exact IntWalk.i64_in _ ⟨by omega, by omega⟩
                have WP1 : Hid (IntKind.i64.wrap (N1 + mm1 - bend) = P1) := by rw [hP1]; exact IntWalk.i64_in _ ⟨by omega, by omega⟩
                have WP2 : Hid (IntKind.i64.wrap (N2 + mm2 - bend) = P2) := by rw [hP2]; exact IntWalk.i64_in _ ⟨by omega, by omega⟩
                have HIN : Hid (((loC bend L t 0 ≤ P0 ∧ P0 ≤ hiC bend L t 0) ∧ (loC bend L t 1 ≤ P1 ∧ P1 ≤ hiC bend L t 1) ∧ (loC bend L t 2 ≤ P2 ∧ P2 ≤ hiC bend L t 2)) ∧ (-100500000 ≤ P0 ∧ P0 ≤ 100500000) ∧ (-100500000 ≤ P1 ∧ P1 ≤ 100500000) ∧ (-100500000 ≤ P2 ∧ P2 ≤ 100500000)) := by
                  unfold Hid
                  omega
                clear V0 V1 V2 M0 M1 M2 n0 n1 n2 hP0 hP1 hP2 hnt HVE nb md hwt

                obtain ⟨z0, z1, z2⟩ := cells3 PV0.out.hn
                obtain ⟨k0, k1, k2⟩ := cells3 PV0.out.hp
                obtain ⟨x0, x1, x2⟩ := cells3 PV0.out.hx
                have fr := frozen_of_row wh b14 0 _ _ PV0.out.hn
                have PVN := Lib.hid (PV0.out.set (c0 := P0) (c1 := N1) (c2 := N2) HG1.out.1 HG1.out.2.1 HG1.out.2.2 0 P0 rfl)
                go_wp2_with fail
                refine region_tail 14 (by kernel_rfl) (by kernel_rfl) (fun W hW => ?_)
                simp only [List.take_succ_cons, List.take_zero, List.drop_succ_cons, List.drop_zero]
                refine still_val (by rfl) (.pointer (some ⟨b14, 0, none⟩)) ?_ ?_
                · go_simp
                simp only [Act.put, List.setIfInBounds_toArray, List.set_cons_succ, List.set_cons_zero]
                refine still_val (by rfl) (.int .i64 N0) ?_ ?_
                · have zq : W.cell? ⟨b14, 0, none⟩ = some (.int .i64 N0) := by rw [hW]; exact z0
                  go_simp
                simp only [Act.put, List.setIfInBounds_toArray, List.set_cons_succ, List.set_cons_zero]
                refine still_val (by rfl) (.pointer (some ⟨w.heap.size + 1, 0, none⟩)) ?_ ?_
                · go_simp
                simp only [Act.put, List.setIfInBounds_toArray, List.set_cons_succ, List.set_cons_zero]
                refine still_val (by rfl) (.int .i64 f0) ?_ ?_
                · have zq : W.cell? ⟨w.heap.size + 1, 0, none⟩ = some (.int .i64 f0) := by rw [hW]; exact x0
                  go_simp
                simp only [Act.put, List.setIfInBounds_toArray, List.set_cons_succ, List.set_cons_zero]
                refine still_val (by rfl) (.pointer (some ⟨w.heap.size, 1, none⟩)) ?_ ?_
                · go_simp
                simp only [Act.put, List.setIfInBounds_toArray, List.set_cons_succ, List.set_cons_zero]
                refine still_val (by rfl) (.int .i64 bend) ?_ ?_
                · have zq : W.cell? ⟨w.heap.size, 1, none⟩ = some (.int .i64 bend) := by rw [hW]; exact k1
                  go_simp
                simp only [Act.put, List.setIfInBounds_toArray, List.set_cons_succ, List.set_cons_zero]
                refine still_val (by rfl) (.int .i64 (2 * bend)) ?_ ?_
                · have zq := WB1.out
                  go_simp
                simp only [Act.put, List.setIfInBounds_toArray, List.set_cons_succ, List.set_cons_zero]
                refine still_val (by rfl) (.int .i64 (2 * bend + 1)) ?_ ?_
                · have zq := WB2.out
                  go_simp
                simp only [Act.put, List.setIfInBounds_toArray, List.set_cons_succ, List.set_cons_zero]
                refine still_enter (by rfl) 23 #[.int .i64 f0, .int .i64 (2 * bend + 1)] (.int .i64 mm0) ?_ (same (CM0.out W)) ?_
                · go_simp
                simp only [Act.put, List.setIfInBounds_toArray, List.set_cons_succ, List.set_cons_zero]
                refine still_val (by rfl) (.int .i64 (N0 + mm0)) ?_ ?_
                · have zq := WA0.out
                  go_simp
                simp only [Act.put, List.setIfInBounds_toArray, List.set_cons_succ, List.set_cons_zero]
                refine still_val (by rfl) (.pointer (some ⟨w.heap.size, 1, none⟩)) ?_ ?_
                · go_simp
                simp only [Act.put, List.setIfInBounds_toArray, List.set_cons_succ, List.set_cons_zero]
                refine still_val (by rfl) (.int .i64 bend) ?_ ?_
                · have zq : W.cell? ⟨w.heap.size, 1, none⟩ = some (.int .i64 bend) := by rw [hW]; exact k1
                  go_simp
                simp only [Act.put, List.setIfInBounds_toArray, List.set_cons_succ, List.set_cons_zero]
                refine still_val (by rfl) (.int .i64 P0) ?_ ?_
                · have zq := WP0.out
                  go_simp
                simp only [Act.put, List.setIfInBounds_toArray, List.set_cons_succ, List.set_cons_zero]
                refine still_val (by rfl) (.pointer (some ⟨b14, 0, none⟩)) ?_ ?_
                · go_simp
                simp only [Act.put, List.setIfInBounds_toArray, List.set_cons_succ, List.set_cons_zero]
                refine wpStill_nil ?_
                have zz : W.cell? ⟨b14, 0, none⟩ = some (.int .i64 N0) := by rw [hW]; exact z0
                have zf : W.frozen? ⟨b14, 0, none⟩ = false := by rw [hW]; exact fr
                rw [← hW] at PVN
                clear hW fr z0 z1 z2 k0 k1 k2 x0 x1 x2 PV0
                go_upto_region 35 with fail
                obtain ⟨wi, hWW⟩ : ∃ wi, wi = W.setCell ⟨b14, 0, none⟩ (.int .i64 P0) := ⟨_, rfl⟩
                rw [← hWW] at PVN ⊢
                have PV1 := PVN
                clear PVN hWW zz zf

                obtain ⟨z0, z1, z2⟩ := cells3 PV1.out.hn
                obtain ⟨k0, k1, k2⟩ := cells3 PV1.out.hp
                obtain ⟨x0, x1, x2⟩ := cells3 PV1.out.hx
                have fr := frozen_of_row wi b14 1 _ _ PV1.out.hn
                have PVN := Lib.hid (PV1.out.set (c0 := P0) (c1 := P1) (c2 := N2) HG1.out.1 HG1.out.2.1 HG1.out.2.2 1 P1 rfl)
                go_wp2_with fail
                refine region_tail 14 (by kernel_rfl) (by kernel_rfl) (fun W hW => ?_)
                simp only [List.take_succ_cons, List.take_zero, List.drop_succ_cons, List.drop_zero]
                refine still_val (by rfl) (.pointer (some ⟨b14, 1, none⟩)) ?_ ?_
                · go_simp
                simp only [Act.put, List.setIfInBounds_toArray, List.set_cons_succ, List.set_cons_zero]
                refine still_val (by rfl) (.int .i64 N1) ?_ ?_
                · have zq : W.cell? ⟨b14, 1, none⟩ = some (.int .i64 N1) := by rw [hW]; exact z1
                  go_simp
                simp only [Act.put, List.setIfInBounds_toArray, List.set_cons_succ, List.set_cons_zero]
                refine still_val (by rfl) (.pointer (some ⟨w.heap.size + 1, 1, none⟩)) ?_ ?_
                · go_simp
                simp only [Act.put, List.setIfInBounds_toArray, List.set_cons_succ, List.set_cons_zero]
                refine still_val (by rfl) (.int .i64 f1) ?_ ?_
                · have zq : W.cell? ⟨w.heap.size + 1, 1, none⟩ = some (.int .i64 f1) := by rw [hW]; exact x1
                  go_simp
                simp only [Act.put, List.setIfInBounds_toArray, List.set_cons_succ, List.set_cons_zero]
                refine still_val (by rfl) (.pointer (some ⟨w.heap.size, 1, none⟩)) ?_ ?_
                · go_simp
                simp only [Act.put, List.setIfInBounds_toArray, List.set_cons_succ, List.set_cons_zero]
                refine still_val (by rfl) (.int .i64 bend) ?_ ?_
                · have zq : W.cell? ⟨w.heap.size, 1, none⟩ = some (.int .i64 bend) := by rw [hW]; exact k1
                  go_simp
                simp only [Act.put, List.setIfInBounds_toArray, List.set_cons_succ, List.set_cons_zero]
                refine still_val (by rfl) (.int .i64 (2 * bend)) ?_ ?_
                · have zq := WB1.out
                  go_simp
                simp only [Act.put, List.setIfInBounds_toArray, List.set_cons_succ, List.set_cons_zero]
                refine still_val (by rfl) (.int .i64 (2 * bend + 1)) ?_ ?_
                · have zq := WB2.out
                  go_simp
                simp only [Act.put, List.setIfInBounds_toArray, List.set_cons_succ, List.set_cons_zero]
                refine still_enter (by rfl) 23 #[.int .i64 f1, .int .i64 (2 * bend + 1)] (.int .i64 mm1) ?_ (same (CM1.out W)) ?_
                · go_simp
                simp only [Act.put, List.setIfInBounds_toArray, List.set_cons_succ, List.set_cons_zero]
                refine still_val (by rfl) (.int .i64 (N1 + mm1)) ?_ ?_
                · have zq := WA1.out
                  go_simp
                simp only [Act.put, List.setIfInBounds_toArray, List.set_cons_succ, List.set_cons_zero]
                refine still_val (by rfl) (.pointer (some ⟨w.heap.size, 1, none⟩)) ?_ ?_
                · go_simp
                simp only [Act.put, List.setIfInBounds_toArray, List.set_cons_succ, List.set_cons_zero]
                refine still_val (by rfl) (.int .i64 bend) ?_ ?_
                · have zq : W.cell? ⟨w.heap.size, 1, none⟩ = some (.int .i64 bend) := by rw [hW]; exact k1
                  go_simp
                simp only [Act.put, List.setIfInBounds_toArray, List.set_cons_succ, List.set_cons_zero]
                refine still_val (by rfl) (.int .i64 P1) ?_ ?_
                · have zq := WP1.out
                  go_simp
                simp only [Act.put, List.setIfInBounds_toArray, List.set_cons_succ, List.set_cons_zero]
                refine still_val (by rfl) (.pointer (some ⟨b14, 1, none⟩)) ?_ ?_
                · go_simp
                simp only [Act.put, List.setIfInBounds_toArray, List.set_cons_succ, List.set_cons_zero]
                refine wpStill_nil ?_
                have zz : W.cell? ⟨b14, 1, none⟩ = some (.int .i64 N1) := by rw [hW]; exact z1
                have zf : W.frozen? ⟨b14, 1, none⟩ = false := by rw [hW]; exact fr
                rw [← hW] at PVN
                clear hW fr z0 z1 z2 k0 k1 k2 x0 x1 x2 PV1
                go_upto_region 36 with fail
                obtain ⟨wj, hWW⟩ : ∃ wj, wj = W.setCell ⟨b14, 1, none⟩ (.int .i64 P1) := ⟨_, rfl⟩
                rw [← hWW] at PVN ⊢
                have PV2 := PVN
                clear PVN hWW zz zf

                obtain ⟨z0, z1, z2⟩ := cells3 PV2.out.hn
                obtain ⟨k0, k1, k2⟩ := cells3 PV2.out.hp
                obtain ⟨x0, x1, x2⟩ := cells3 PV2.out.hx
                have fr := frozen_of_row wj b14 2 _ _ PV2.out.hn
                have PVN := Lib.hid (PV2.out.set (c0 := P0) (c1 := P1) (c2 := P2) HG1.out.1 HG1.out.2.1 HG1.out.2.2 2 P2 rfl)
                go_wp2_with fail
                refine region_tail 14 (by kernel_rfl) (by kernel_rfl) (fun W hW => ?_)
                simp only [List.take_succ_cons, List.take_zero, List.drop_succ_cons, List.drop_zero]
                refine still_val (by rfl) (.pointer (some ⟨b14, 2, none⟩)) ?_ ?_
                · go_simp
                simp only [Act.put, List.setIfInBounds_toArray, List.set_cons_succ, List.set_cons_zero]
                refine still_val (by rfl) (.int .i64 N2) ?_ ?_
                · have zq : W.cell? ⟨b14, 2, none⟩ = some (.int .i64 N2) := by rw [hW]; exact z2
                  go_simp
                simp only [Act.put, List.setIfInBounds_toArray, List.set_cons_succ, List.set_cons_zero]
                refine still_val (by rfl) (.pointer (some ⟨w.heap.size + 1, 2, none⟩)) ?_ ?_
                · go_simp
                simp only [Act.put, List.setIfInBounds_toArray, List.set_cons_succ, List.set_cons_zero]
                refine still_val (by rfl) (.int .i64 f2) ?_ ?_
                · have zq : W.cell? ⟨w.heap.size + 1, 2, none⟩ = some (.int .i64 f2) := by rw [hW]; exact x2
                  go_simp
                simp only [Act.put, List.setIfInBounds_toArray, List.set_cons_succ, List.set_cons_zero]
                refine still_val (by rfl) (.pointer (some ⟨w.heap.size, 1, none⟩)) ?_ ?_
                · go_simp
                simp only [Act.put, List.setIfInBounds_toArray, List.set_cons_succ, List.set_cons_zero]
                refine still_val (by rfl) (.int .i64 bend) ?_ ?_
                · have zq : W.cell? ⟨w.heap.size, 1, none⟩ = some (.int .i64 bend) := by rw [hW]; exact k1
                  go_simp
                simp only [Act.put, List.setIfInBounds_toArray, List.set_cons_succ, List.set_cons_zero]
                refine still_val (by rfl) (.int .i64 (2 * bend)) ?_ ?_
                · have zq := WB1.out
                  go_simp
                simp only [Act.put, List.setIfInBounds_toArray, List.set_cons_succ, List.set_cons_zero]
                refine still_val (by rfl) (.int .i64 (2 * bend + 1)) ?_ ?_
                · have zq := WB2.out
                  go_simp
                simp only [Act.put, List.setIfInBounds_toArray, List.set_cons_succ, List.set_cons_zero]
                refine still_enter (by rfl) 23 #[.int .i64 f2, .int .i64 (2 * bend + 1)] (.int .i64 mm2) ?_ (same (CM2.out W)) ?_
                · go_simp
                simp only [Act.put, List.setIfInBounds_toArray, List.set_cons_succ, List.set_cons_zero]
                refine still_val (by rfl) (.int .i64 (N2 + mm2)) ?_ ?_
                · have zq := WA2.out
                  go_simp
                simp only [Act.put, List.setIfInBounds_toArray, List.set_cons_succ, List.set_cons_zero]
                refine still_val (by rfl) (.pointer (some ⟨w.heap.size, 1, none⟩)) ?_ ?_
                · go_simp
                simp only [Act.put, List.setIfInBounds_toArray, List.set_cons_succ, List.set_cons_zero]
                refine still_val (by rfl) (.int .i64 bend) ?_ ?_
                · have zq : W.cell? ⟨w.heap.size, 1, none⟩ = some (.int .i64 bend) := by rw [hW]; exact k1
                  go_simp
                simp only [Act.put, List.setIfInBounds_toArray, List.set_cons_succ, List.set_cons_zero]
                refine still_val (by rfl) (.int .i64 P2) ?_ ?_
                · have zq := WP2.out
                  go_simp
                simp only [Act.put, List.setIfInBounds_toArray, List.set_cons_succ, List.set_cons_zero]
                refine still_val (by rfl) (.pointer (some ⟨b14, 2, none⟩)) ?_ ?_
                · go_simp
                simp only [Act.put, List.setIfInBounds_toArray, List.set_cons_succ, List.set_cons_zero]
                refine wpStill_nil ?_
                have zz : W.cell? ⟨b14, 2, none⟩ = some (.int .i64 N2) := by rw [hW]; exact z2
                have zf : W.frozen? ⟨b14, 2, none⟩ = false := by rw [hW]; exact fr
                rw [← hW] at PVN
                clear hW fr z0 z1 z2 k0 k1 k2 x0 x1 x2 PV2
                go_upto_region 37 with fail
                obtain ⟨wk, hWW⟩ : ∃ wk, wk = W.setCell ⟨b14, 2, none⟩ (.int .i64 P2) := ⟨_, rfl⟩
                rw [← hWW] at PVN ⊢
                have PV3 := PVN
                clear PVN hWW zz zf
                have PV := PV3
                have HE2 : Hid True := trivial
                clear PV3
              case' true =>
                have tk : ∀ c, loC bend L t c ≤ nomC L' t c ∧ nomC L' t c ≤ hiC bend L t c := fun c => by
                  have := HVE 0 (by omega) (fun _ _ _ => rfl) c
                  omega
                have V0 := tk 0
                have V1 := tk 1
                have V2 := tk 2
                have n0 := nb 0
                have n1 := nb 1
                have n2 := nb 2
                generalize nomC L' t 0 = P0 at *
                generalize nomC L' t 1 = P1 at *
                generalize nomC L' t 2 = P2 at *
                have HIN : Hid (((loC bend L t 0 ≤ P0 ∧ P0 ≤ hiC bend L t 0) ∧ (loC bend L t 1 ≤ P1 ∧ P1 ≤ hiC bend L t 1) ∧ (loC bend L t 2 ≤ P2 ∧ P2 ≤ hiC bend L t 2)) ∧ (-100500000 ≤ P0 ∧ P0 ≤ 100500000) ∧ (-100500000 ≤ P1 ∧ P1 ≤ 100500000) ∧ (-100500000 ≤ P2 ∧ P2 ≤ 100500000)) := by
                  unfold Hid
                  omega
                clear V0 V1 V2 n0 n1 n2 tk HVE nb md hwt
                have PV := PV0
                clear PV0
                go_upto_region 37 with fail
              all_goals
                obtain ⟨z0, z1, z2⟩ := cells3 PV.out.hn
                obtain ⟨q0, q1, q2, q3, q4, q5⟩ := cells6 PV.out.hm
                obtain ⟨k0, k1, k2⟩ := cells3 PV.out.hp
                have CI := Lib.hid (fun W => inBox_any P0 P1 P2 (loC bend L t 0) (hiC bend L t 0) (loC bend L t 1) (hiC bend L t 1) (loC bend L t 2) (hiC bend L t 2) W)
                rw [decide_eq_true HIN.out.1.1, decide_eq_true HIN.out.1.2.1, decide_eq_true HIN.out.1.2.2] at CI
                have hsq := vec_sq (loC bend L t) (hiC bend L t) (fun c => if c = 0 then P0 else if c = 1 then P1 else P2) (fun c hc => by
                  match c, hc with
                  | 0, _ => exact HIN.out.1.1
                  | 1, _ => exact HIN.out.1.2.1
                  | 2, _ => exact HIN.out.1.2.2)
                have hsq2 : sqLo (loC bend L t) (hiC bend L t) (cc3 0 0 0) 3 ≤ P0 * P0 + P1 * P1 + P2 * P2 ∧ P0 * P0 + P1 * P1 + P2 * P2 ≤ sqHi (loC bend L t) (hiC bend L t) (cc3 0 0 0) 3 := hsq
                have b0 := sq_b P0 HIN.out.2.1
                have b1 := sq_b P1 HIN.out.2.2.1
                have b2 := sq_b P2 HIN.out.2.2.2
                obtain ⟨Q0, hQ0⟩ : ∃ Q0, Q0 = P0 * P0 := ⟨_, rfl⟩
                obtain ⟨Q1, hQ1⟩ : ∃ Q1, Q1 = P1 * P1 := ⟨_, rfl⟩
                obtain ⟨Q2, hQ2⟩ : ∃ Q2, Q2 = P2 * P2 := ⟨_, rfl⟩
                rw [← hQ0] at b0 hsq2
                rw [← hQ1] at b1 hsq2
                rw [← hQ2] at b2 hsq2
                have w0 : IntKind.i64.wrap (P0 * P0) = Q0 := by rw [← hQ0]; exact IntWalk.i64_in _ ⟨by omega, by omega⟩
                have w1 : IntKind.i64.wrap (P1 * P1) = Q1 := by rw [← hQ1]; exact IntWalk.i64_in _ ⟨by omega, by omega⟩
                have w2 : IntKind.i64.wrap (P2 * P2) = Q2 := by rw [← hQ2]; exact IntWalk.i64_in _ ⟨by omega, by omega⟩
                have HW := Lib.hid (And.intro w0 (And.intro w1 w2))
                have HQB := Lib.hid (And.intro b0 (And.intro b1 (And.intro b2 hsq2)))
                clear hsq hsq2 b0 b1 b2 hQ0 hQ1 hQ2 w0 w1 w2
                generalize sqLo (loC bend L t) (hiC bend L t) (cc3 0 0 0) 3 = SL at *
                generalize sqHi (loC bend L t) (hiC bend L t) (cc3 0 0 0) 3 = SH at *
                go_wp2_with fail
                refine (CI.out _).mono ?_
                rintro e wl ⟨rfl, hb⟩
                have PVl := Lib.hid (PV.out.next hb)
                clear hb PV CI z0 z1 z2 q0 q1 q2 q3 q4 q5 k0 k1 k2
                obtain ⟨k0, k1, k2⟩ := cells3 PVl.out.hp
                go_wp2_with fail
                refine (Copy_any _ nm bend L (by have := HN.out; omega) wl (HV.out.next PVl.out.hb)).mono ?_
                rintro e wm ⟨vc, rfl, hb, hvc⟩
                have PVm := Lib.hid (PVl.out.next hb)
                clear hb PVl k0 k1 k2
                go_wp2_with fail
                refine (CS.out _ wm hvc).mono ?_
                rintro e wn ⟨rfl, hb⟩
                have PVn := Lib.hid (PVm.out.next hb)
                clear hb hvc PVm CS
                go_upto_region 40 with fail
                obtain ⟨wo, hwo⟩ : ∃ wo, wo = wn.alloc (.cells #[.int .i64 SL, .int .i64 SH] 54) := ⟨_, rfl⟩
                have hb : Below wn.heap.size wn wo := by rw [hwo]; exact new_below _ _
                have hr : wo.heap[wn.heap.size]? = some (.cells #[.int .i64 SL, .int .i64 SH] 54 (0, 0)) := by rw [hwo]; exact heap_alloc_new _ _
                rw [← hwo]
                have PVo := Lib.hid (PVn.out.next hb)
                clear hb hwo PVn
                obtain ⟨z0, z1, z2⟩ := cells3 PVo.out.hn
                obtain ⟨r0, r1, -, -⟩ := two_cells hr
                obtain ⟨w0, w1, w2⟩ := HW.out
                obtain ⟨b0, b1, b2, hlo, hhi⟩ := HQB.out
                have hlt1 : ¬ Q0 + Q1 + Q2 < SL := by omega
                have hlt2 : ¬ SH < Q0 + Q1 + Q2 := by omega
                have hwt := HWT.out
                clear hr HIN HW HQB
                go_wp2_with fail
                go_roundw
                case rel => exact ⟨t + 1, by omega, by omega, by go_num, Lib.hid PVo.out.hz⟩
                case measure => simp [intOf]; omega
        · have HBx := HBb.out
          go_wp2_with fail
          go_ret
          exact ⟨rfl, HBx⟩
end Go.Proofs.Ytmbolmmcfnfamaa.Orb
