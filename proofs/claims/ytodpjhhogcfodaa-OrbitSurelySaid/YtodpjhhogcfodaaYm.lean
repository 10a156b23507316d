import Derived.Test.YtodpjhhogcfodaaSp
import Derived.Test.YtodpjhhogcfodaaYj
import Derived.Deep.RegionHeld3
import Derived.Outline
import Derived.BigQuiet
namespace Go.Proofs.Ytodpjhhogcfodaa.Orb
open Go.RowKit Lib

/-- the least and the greatest square at a tick -/
def sLo (bend : Int) (L : List St) (x y z t : Int) : Int := sqLo (loC bend L t) (hiC bend L t) (cc3 x y z) 3
def sHi (bend : Int) (L : List St) (x y z t : Int) : Int := sqHi (loC bend L t) (hiC bend L t) (cc3 x y z) 3
/-- the errors of what is claimed -/
def chE (ne bend : Int) (L : List St) (x y z lo hi wt : Int) : Int := firstE [(orbE ne bend L).2, placeE x y z, tickE L lo, tickE L hi, tickE L wt]
theorem tickE_zero {L : List St} {t : Int} (h : tickE L t = 0) : fst L ≤ t ∧ t ≤ lst L := by
  unfold tickE at h
  by_cases hb : hasB L t = true
  · unfold hasB at hb; simp at hb; exact hb.2
  · rw [if_neg hb] at h; cases h
theorem chE_zero {ne bend : Int} {L : List St} {x y z lo hi wt : Int} (h : chE ne bend L x y z lo hi wt = 0) : (orbE ne bend L).2 = 0 ∧ ne = 0 ∧ Rt bend L ∧ placeE x y z = 0 ∧ (fst L ≤ lo ∧ lo ≤ lst L) ∧ (fst L ≤ hi ∧ hi ≤ lst L) ∧ (fst L ≤ wt ∧ wt ≤ lst L) := by
  unfold chE at h
  rw [firstE_zero_iff] at h
  have h1 := h _ (List.mem_cons_self ..)
  obtain ⟨h3, h4⟩ := Rt.of h1
  exact ⟨h1, h3, h4, h _ (by simp), tickE_zero (h _ (by simp)), tickE_zero (h (tickE L hi) (by simp)), tickE_zero (h (tickE L wt) (by simp))⟩
/-- what a claim comes to -/
def chN (ne bend : Int) (L : List St) (x y z lo hi wt : Int) : Int × Int :=
  if chE ne bend L x y z lo hi wt ≠ 0 then (0, chE ne bend L x y z lo hi wt) else if hi < lo then (0, 9) else if outB (sLo bend L x y z) (sHi bend L x y z wt) lo hi (ticksOf (fst L) (nTicks L)) = true then (0, 22) else (hi - lo + 1, 0)

theorem outB_pre {F : Int → Int} {bound lo hi : Int} {pre xs : List Int} (h : pre <+: xs) (ho : outB F bound lo hi pre = true) : outB F bound lo hi xs = true := by
  unfold outB at *
  rw [List.any_eq_true] at *
  obtain ⟨t, ht, h2⟩ := ho
  exact ⟨t, h.subset ht, h2⟩

theorem firstError5 (a b c d f : Int) (W : World) :
    Calls Try.prog 66 #[.slice (some ⟨W.heap.size, 0, none⟩) 5 5] (W.alloc (.cells #[.int .i64 a, .int .i64 b, .int .i64 c, .int .i64 d, .int .i64 f] 30)) fun e w' => e = .returned (.int .i64 (firstE [a, b, c, d, f])) ∧ (W.alloc (.cells #[.int .i64 a, .int .i64 b, .int .i64 c, .int .i64 d, .int .i64 f] 30)) = w' := by
  refine firstError_any W.heap.size 5 [a, b, c, d, f] rfl (by decide) _ ?_
  intro k e he
  have hb : (W.alloc (.cells #[.int .i64 a, .int .i64 b, .int .i64 c, .int .i64 d, .int .i64 f] 30)).heap[W.heap.size]? = some (.cells #[.int .i64 a, .int .i64 b, .int .i64 c, .int .i64 d, .int .i64 f] 30 (0, 0)) := heap_alloc_new _ _
  rw [cell_of_row _ _ _ _ _ _ hb]
  match k, he with
  | 0, he => cases he; rfl
  | 1, he => cases he; rfl
  | 2, he => cases he; rfl
  | 3, he => cases he; rfl
  | 4, he => cases he; rfl

theorem fld_lo (a b : Int) : ∀ w, (Instr.field 42 (.agg #[.int .i64 a, .int .i64 b]) 0).run Try.prog w = .ok (.int .i64 a) w := fun _ => by kernel_rfl
theorem fld_hi (a b : Int) : ∀ w, (Instr.field 42 (.agg #[.int .i64 a, .int .i64 b]) 1).run Try.prog w = .ok (.int .i64 b) w := fun _ => by kernel_rfl

attribute [local go_sem] Oper.semAt_some

set_option maxRecDepth 100000 in
set_option maxHeartbeats 8000000 in
/-- THE PROGRAM'S CHECK OF A CLAIM -/
theorem CheckNearest_any (v : Value) (nm : ByteArray) (hs : nm.size ≤ 1000) (bend : Int) (L : List St) (hn : L.length ≤ 1000) (hI : ∀ k, (gt L k).t ≤ 9223372036854775807) (x y z lo hi wt : Int) (w : World) (hv : OV w v nm bend L) :
    Calls Try.prog 41 #[v, .agg #[.int .i64 x, .int .i64 y, .int .i64 z], .agg #[.int .i64 lo, .int .i64 hi, .int .i64 wt]] w fun e w' => e = .returned (.tuple #[.int .i64 (chN (nameE nm) bend L x y z lo hi wt).1, .int .i64 (chN (nameE nm) bend L x y z lo hi wt).2]) ∧ Below w.heap.size w w' := by
  have CC := Lib.hid (fun W (h : Below w.heap.size w W) => check_any v nm hs bend L hI W (hv.next h))
  have CQ := Lib.hid (fun W => placeError_any x y z W)
  have CT := Lib.hid (fun t W (h : Below w.heap.size w W) => tickError_any v nm bend L hn t W (hv.next h))
  have CF := Lib.hid (fun W => firstError5 (orbE (nameE nm) bend L).2 (placeE x y z) (tickE L lo) (tickE L hi) (tickE L wt) W)
  have CTl := Lib.hid (CT.out lo)
  have CTh := Lib.hid (CT.out hi)
  have CTw := Lib.hid (CT.out wt)
  obtain ⟨sp, cap, hvf, -, -, -⟩ := hv.form
  have HOK := Lib.hid (show chE (nameE nm) bend L x y z lo hi wt = 0 → (∀ W, Below w.heap.size w W → Iter Try.prog 70 #[v] 4 w.heap.size (ticksOf (fst L) (nTicks L)) W) ∧
      (∀ pre t, pre ++ [t] <+: ticksOf (fst L) (nTicks L) → ∀ W, Below w.heap.size w W → Calls Try.prog 76 #[v, .int .i64 t, .agg #[.int .i64 x, .int .i64 y, .int .i64 z]] W fun e w' => e = .returned (.agg #[.int .i64 (sLo bend L x y z t), .int .i64 (sHi bend L x y z t)]) ∧ Below W.heap.size W w') ∧
      (∀ W, Below w.heap.size w W → Calls Try.prog 76 #[v, .int .i64 wt, .agg #[.int .i64 x, .int .i64 y, .int .i64 z]] W fun e w' => e = .returned (.agg #[.int .i64 (sLo bend L x y z wt), .int .i64 (sHi bend L x y z wt)]) ∧ Below W.heap.size W w') ∧ (0 ≤ lo ∧ lo ≤ 1000000000 ∧ 0 ≤ hi ∧ hi ≤ 1000000000) by
    intro h0
    obtain ⟨-, -, hR, hpl, hl, hh, hw⟩ := chE_zero h0
    have n0 := hR.n0
    have n1 := hR.n1
    have hlo : 0 ≤ fst L := (hR.st 0 (by omega)).t0
    have hhi : lst L ≤ 1000000000 := (hR.st (L.length - 1) (by omega)).t1
    have hle : fst L ≤ lst L := hR.le 0 (L.length - 1) (Nat.zero_le _) (by omega)
    refine ⟨fun W h => ticks_iter v nm bend L (by omega) (by omega) hle hlo hhi 4 (by decide) w W hv h, fun pre t h W hW => ?_, fun W hW => squareAt_any v nm bend L hR wt hw.1 hw.2 x y z hpl W (hv.next hW), by omega⟩
    have hx : t ∈ ticksOf (fst L) (nTicks L) := h.subset (by simp)
    obtain ⟨i, hi', rfl⟩ := List.mem_map.1 hx
    have := List.mem_range.1 hi'
    have hnt : (nTicks L : Int) = lst L - fst L + 1 := by unfold nTicks; omega
    exact squareAt_any v nm bend L hR _ (by omega) (by omega) x y z hpl W (hv.next hW))
  have hR : firstE [(orbE (nameE nm) bend L).2, placeE x y z, tickE L lo, tickE L hi, tickE L wt] = chE (nameE nm) bend L x y z lo hi wt := rfl
  have HCN := Lib.hid (show chN (nameE nm) bend L x y z lo hi wt = if chE (nameE nm) bend L x y z lo hi wt ≠ 0 then (0, chE (nameE nm) bend L x y z lo hi wt) else if hi < lo then (0, 9) else if outB (sLo bend L x y z) (sHi bend L x y z wt) lo hi (ticksOf (fst L) (nTicks L)) = true then (0, 22) else (hi - lo + 1, 0) from rfl)
  have HSN := Lib.hid (fun pre t => outB_snoc (sLo bend L x y z) (sHi bend L x y z wt) lo hi pre t)
  rw [hR] at CF
  subst hvf
  clear hv hR hs hI CT hn
  generalize chN (nameE nm) bend L x y z lo hi wt = R at *
  generalize chE (nameE nm) bend L x y z lo hi wt = E at *
  generalize (orbE (nameE nm) bend L).2 = e1 at *
  generalize placeE x y z = e2 at *
  generalize tickE L lo = e3 at *
  generalize tickE L hi = e4 at *
  generalize tickE L wt = e5 at *
  generalize ticksOf (fst L) (nTicks L) = xs at *
  generalize sLo bend L x y z = FL at *
  generalize sHi bend L x y z = FH at *
  generalize L.length = n at *
  have hw : E = 0 ∨ (E != 0) = true := by
    by_cases h : E = 0
    · exact .inl h
    · exact .inr (by rw [bne_iff_ne]; exact h)
  rcases hw with rfl | hne
  all_goals
    refine (callsIn_wide (n := 5)).1 ?_
    refine callsIn_of_wp_marks Try.func41 rfl trivial ?_ rfl
    simp only [Try.ntmps41, List.size_toArray, List.length_cons, List.length_nil, Nat.reduceAdd, Nat.reduceSub, Array.replicate_succ, Array.replicate_zero, List.push_toArray, List.append_toArray, List.nil_append, List.cons_append]
    refine wpIn_wide.2 ?_
    go_upto_region 2 with fail
    obtain ⟨W0, hW0⟩ : ∃ W0, W0 = (((((w.alloc (.cells #[.string nm, .int .i64 bend, .slice sp n cap] 24)).alloc (.cells #[.int .i64 x, .int .i64 y, .int .i64 z] 26)).alloc (.cells #[.int .i64 lo, .int .i64 hi, .int .i64 wt] 73)).alloc (.cells #[.int .i64 0] 3)).alloc (.cells #[.int .i64 0] 30)).alloc (.cells #[.string nm, .int .i64 bend, .slice sp n cap] 115) := ⟨_, rfl⟩
    rw [← hW0]
    have HB0 := Lib.hid (show Below w.heap.size w W0 by rw [hW0]; (repeat (first | with_reducible exact Below.refl _ _ | with_reducible refine alloc1 ?_ _ | with_reducible refine Below.drew ?_ | with_reducible refine drewN1 ?_ _ | with_reducible refine setC ?_ (by omega) _)))
    have HW0 := Lib.hid (show W0.heap[w.heap.size + 1 + 1 + 1 + 1 + 1]? = some (.cells #[.string nm, .int .i64 bend, .slice sp n cap] 115 (0, 0)) by rw [hW0]; (repeat (first | ((with_reducible refine hnew ?_); (simp; done)) | with_reducible refine hdrew ?_ | with_reducible refine hold ?_)))
    have HY0 := Lib.hid (show W0.heap[w.heap.size + 1]? = some (.cells #[.int .i64 x, .int .i64 y, .int .i64 z] 26 (0, 0)) by rw [hW0]; (repeat (first | ((with_reducible refine hnew ?_); (simp; done)) | with_reducible refine hdrew ?_ | with_reducible refine hold ?_)))
    have HM0 := Lib.hid (show W0.heap[w.heap.size + 1 + 1]? = some (.cells #[.int .i64 lo, .int .i64 hi, .int .i64 wt] 73 (0, 0)) by rw [hW0]; (repeat (first | ((with_reducible refine hnew ?_); (simp; done)) | with_reducible refine hdrew ?_ | with_reducible refine hold ?_)))
    have HR0 := Lib.hid (show W0.heap[w.heap.size + 1 + 1 + 1]? = some (.cells #[.int .i64 0] 3 (0, 0)) by rw [hW0]; (repeat (first | ((with_reducible refine hnew ?_); (simp; done)) | with_reducible refine hdrew ?_ | with_reducible refine hold ?_)))
    have HS0 := Lib.hid (show W0.heap[w.heap.size + 1 + 1 + 1 + 1]? = some (.cells #[.int .i64 0] 30 (0, 0)) by rw [hW0]; (repeat (first | ((with_reducible refine hnew ?_); (simp; done)) | with_reducible refine hdrew ?_ | with_reducible refine hold ?_)))
    clear hW0
    obtain ⟨k0, k1, k2⟩ := cells3 HW0.out
    obtain ⟨y0, y1, y2⟩ := cells3 HY0.out
    obtain ⟨m0, m1, m2⟩ := cells3 HM0.out
    go_region_held3 (fun W => W.cell? ⟨w.heap.size + 1 + 1 + 1 + 1 + 1, 0, none⟩ = some (.string nm) ∧ W.cell? ⟨w.heap.size + 1 + 1 + 1 + 1 + 1, 1, none⟩ = some (.int .i64 bend) ∧ W.cell? ⟨w.heap.size + 1 + 1 + 1 + 1 + 1, 2, none⟩ = some (.slice sp n cap) ∧ W.cell? ⟨w.heap.size + 1, 0, none⟩ = some (.int .i64 x) ∧ W.cell? ⟨w.heap.size + 1, 1, none⟩ = some (.int .i64 y) ∧ W.cell? ⟨w.heap.size + 1, 2, none⟩ = some (.int .i64 z) ∧ W.cell? ⟨w.heap.size + 1 + 1, 0, none⟩ = some (.int .i64 lo) ∧ W.cell? ⟨w.heap.size + 1 + 1, 1, none⟩ = some (.int .i64 hi) ∧ W.cell? ⟨w.heap.size + 1 + 1, 2, none⟩ = some (.int .i64 wt)) (with_reducible refine ⟨keepc ?_ k0, keepc ?_ k1, keepc ?_ k2, keepc ?_ y0, keepc ?_ y1, keepc ?_ y2, keepc ?_ m0, keepc ?_ m1, keepc ?_ m2⟩ <;> (repeat (first | with_reducible exact Below.refl _ _ | with_reducible refine andThen ?_ hbX | with_reducible refine andThen ?_ hbH | with_reducible refine andThen ?_ hbL | with_reducible refine andThen ?_ hbP | with_reducible refine andThen ?_ hbC | with_reducible refine alloc1 ?_ _ | with_reducible refine Below.drew ?_ | with_reducible refine drewN1 ?_ _ | with_reducible refine setC ?_ (by omega) _)) <;> done)
      (first
        | (go_at_call 67; (with_reducible refine (CC.out _ (trans' HB0.out (by (repeat (first | with_reducible exact Below.refl _ _ | with_reducible refine andThen ?_ hbX | with_reducible refine andThen ?_ hbH | with_reducible refine andThen ?_ hbL | with_reducible refine andThen ?_ hbP | with_reducible refine alloc1 ?_ _ | with_reducible refine Below.drew ?_ | with_reducible refine drewN1 ?_ _ | with_reducible refine setC ?_ (by omega) _))))).mono ?_); rintro e wC ⟨rfl, hbC⟩)
        | (go_at_call 68; (with_reducible refine (CQ.out _).mono ?_); rintro e wP ⟨rfl, hbP⟩)
        | (go_at_call 75; (with_reducible refine (CTl.out _ (trans' HB0.out (by (repeat (first | with_reducible exact Below.refl _ _ | with_reducible refine andThen ?_ hbX | with_reducible refine andThen ?_ hbH | with_reducible refine andThen ?_ hbP | with_reducible refine andThen ?_ hbC | with_reducible refine alloc1 ?_ _ | with_reducible refine Below.drew ?_ | with_reducible refine drewN1 ?_ _ | with_reducible refine setC ?_ (by omega) _))))).mono ?_); rintro e wL ⟨rfl, hbL⟩)
        | (go_at_call 75; (with_reducible refine (CTh.out _ (trans' HB0.out (by (repeat (first | with_reducible exact Below.refl _ _ | with_reducible refine andThen ?_ hbX | with_reducible refine andThen ?_ hbL | with_reducible refine andThen ?_ hbP | with_reducible refine andThen ?_ hbC | with_reducible refine alloc1 ?_ _ | with_reducible refine Below.drew ?_ | with_reducible refine drewN1 ?_ _ | with_reducible refine setC ?_ (by omega) _))))).mono ?_); rintro e wH ⟨rfl, hbH⟩)
        | (go_at_call 75; (with_reducible refine (CTw.out _ (trans' HB0.out (by (repeat (first | with_reducible exact Below.refl _ _ | with_reducible refine andThen ?_ hbH | with_reducible refine andThen ?_ hbL | with_reducible refine andThen ?_ hbP | with_reducible refine andThen ?_ hbC | with_reducible refine alloc1 ?_ _ | with_reducible refine Below.drew ?_ | with_reducible refine drewN1 ?_ _ | with_reducible refine setC ?_ (by omega) _))))).mono ?_); rintro e wX ⟨rfl, hbX⟩)
        | (go_at_call 66; (with_reducible refine (CF.out _).mono ?_); rintro e w1 ⟨rfl, rfl⟩))
  · all_goals
      obtain ⟨W5, hW5⟩ : ∃ W5, W5 = wX.alloc (.cells #[.int .i64 e1, .int .i64 e2, .int .i64 e3, .int .i64 e4, .int .i64 e5] 30) := ⟨_, rfl⟩
      rw [← hW5]
      have hb5 : Below W0.heap.size W0 W5 := by rw [hW5]; (repeat (first | with_reducible exact Below.refl _ _ | with_reducible refine andThen ?_ hbX | with_reducible refine andThen ?_ hbH | with_reducible refine andThen ?_ hbL | with_reducible refine andThen ?_ hbP | with_reducible refine andThen ?_ hbC | with_reducible refine alloc1 ?_ _ | with_reducible refine Below.drew ?_ | with_reducible refine drewN1 ?_ _ | with_reducible refine setC ?_ (by omega) _))
      have HB5 := Lib.hid (trans' HB0.out hb5)
      generalize Value.slice (some ⟨wX.heap.size, 0, none⟩) 5 5 = s33 at *
      have HW5 := Lib.hid (keepb hb5 HW0.out)
      have HY5 := Lib.hid (keepb hb5 HY0.out)
      have HM5 := Lib.hid (keepb hb5 HM0.out)
      have HR5 := Lib.hid (keepb hb5 HR0.out)
      have HS5 := Lib.hid (keepb hb5 HS0.out)
      clear hW5 hb5 k0 k1 k2 y0 y1 y2 m0 m1 m2 hbX hbH hbL hbP hbC HB0 HW0 HY0 HM0 HR0 HS0 CC CQ CTl CTh CTw CF
      have HCN := Lib.hid (HCN.out.trans (if_neg (by simp)))
      obtain ⟨HIT, HRD, HWT, g0, g1, g2, g3⟩ := HOK.out trivial
      have HIT := Lib.hid HIT
      have HRD := Lib.hid HRD
      have HWT := Lib.hid HWT
      clear HOK
      obtain ⟨k0, k1, k2⟩ := cells3 HW5.out
      obtain ⟨y0, y1, y2⟩ := cells3 HY5.out
      obtain ⟨m0, m1, m2⟩ := cells3 HM5.out
      by_cases hlt : hi < lo
      · have HCN := Lib.hid (HCN.out.trans (if_pos hlt))
        have r0 := cells_one HR5.out
        have s0 := cells_one HS5.out
        have fr := free_of_one HR5.out
        have fs := free_of_one HS5.out
        go_wp2_with fail
        have hrs : w.heap.size + 1 + 1 + 1 + 1 ≠ w.heap.size + 1 + 1 + 1 := by omega
        have c6 : ((W5.setCell ⟨w.heap.size + 1 + 1 + 1, 0, none⟩ (.int .i64 0)).setCell ⟨w.heap.size + 1 + 1 + 1 + 1, 0, none⟩ (.int .i64 9)).cell? ⟨w.heap.size + 1 + 1 + 1, 0, none⟩ = some (.int .i64 0) := cells_one (heap_ne hrs.symm (one_setCell HR5.out))
        have c7 : ((W5.setCell ⟨w.heap.size + 1 + 1 + 1, 0, none⟩ (.int .i64 0)).setCell ⟨w.heap.size + 1 + 1 + 1 + 1, 0, none⟩ (.int .i64 9)).cell? ⟨w.heap.size + 1 + 1 + 1 + 1, 0, none⟩ = some (.int .i64 9) := cells_one (one_setCell (heap_ne hrs HS5.out))
        refine ⟨.tuple #[.int .i64 0, .int .i64 9], ?_, by rw [HCN.out], setC (setC HB5.out (by omega) _) (by omega) _⟩
        simp [results, Try.f41, go_sem, c6, c7]
      · have HCN := Lib.hid (HCN.out.trans (if_neg hlt))
        go_wp2_with fail
        refine (HWT.out _ HB5.out).mono ?_
        rintro e w6 ⟨rfl, hb⟩
        have HB6 := Lib.hid (trans' HB5.out hb)
        have HW6 := Lib.hid (keepb hb HW5.out)
        have HY6 := Lib.hid (keepb hb HY5.out)
        have HM6 := Lib.hid (keepb hb HM5.out)
        have HR6 := Lib.hid (keepb hb HR5.out)
        have HS6 := Lib.hid (keepb hb HS5.out)
        clear hb HB5 HW5 HY5 HM5 HR5 HS5
        have FH1 := fld_hi (FL wt) (FH wt)
        go_upto_region 8 with fail
        obtain ⟨w7, hW⟩ : ∃ w7, w7 = w6.alloc (.cells #[.int .i64 (FH wt)] 3) := ⟨_, rfl⟩
        rw [← hW]
        have hb := new_below w6 (.cells #[.int .i64 (FH wt)] 3)
        rw [← hW] at hb
        have HX7 := Lib.hid (show w7.heap[w6.heap.size]? = some (.cells #[.int .i64 (FH wt)] 3 (0, 0)) by rw [hW]; exact heap_alloc_new _ _)
        have HB7 := Lib.hid (trans' HB6.out hb)
        have HW7 := Lib.hid (keepb hb HW6.out)
        have HY7 := Lib.hid (keepb hb HY6.out)
        have HM7 := Lib.hid (keepb hb HM6.out)
        have HR7 := Lib.hid (keepb hb HR6.out)
        have HS7 := Lib.hid (keepb hb HS6.out)
        clear hW hb HB6 HW6 HY6 HM6 HR6 HS6
        clear k0 k1 k2 y0 y1 y2 m0 m1 m2
        obtain ⟨k0, k1, k2⟩ := cells3 HW7.out
        go_wp2_with fail
        refine (wpIn_wide (n := 5)).1 ?_
        have hz7 := lt_of_block HW7.out
        have hx7 := lt_of_block HX7.out
        have hz6 := lt_of_block HR7.out
        have HSZ := Lib.hid (And.intro hz7 hx7)
        have hb76 : w.heap.size ≤ w7.heap.size := HB7.out.size
        refine wpIn_over (n₀ := w.heap.size) (by decide) rfl enters_ticks (by omega) xs (HIT.out w7 HB7.out)
          (fun pre W => Below w.heap.size w W ∧ W.heap[w.heap.size + 1 + 1 + 1 + 1 + 1]? = some (.cells #[.string nm, .int .i64 bend, .slice sp n cap] 115 (0, 0)) ∧ W.heap[w.heap.size + 1]? = some (.cells #[.int .i64 x, .int .i64 y, .int .i64 z] 26 (0, 0)) ∧ W.heap[w.heap.size + 1 + 1]? = some (.cells #[.int .i64 lo, .int .i64 hi, .int .i64 wt] 73 (0, 0)) ∧ W.heap[w6.heap.size]? = some (.cells #[.int .i64 (FH wt)] 3 (0, 0)) ∧ W.heap[w.heap.size + 1 + 1 + 1]? = some (.cells #[.int .i64 0] 3 (0, 0)) ∧ W.heap[w.heap.size + 1 + 1 + 1 + 1]? = some (.cells #[.int .i64 0] 30 (0, 0)) ∧ outB FL (FH wt) lo hi pre = false)
          (fun c pre W => (c = Code.ret ∧ outB FL (FH wt) lo hi pre = true) ∧ Below w.heap.size w W ∧ W.heap[w.heap.size + 1 + 1 + 1]? = some (.cells #[.int .i64 0] 3 (0, 0)) ∧ W.heap[w.heap.size + 1 + 1 + 1 + 1]? = some (.cells #[.int .i64 22] 30 (0, 0)))
          (fun s => (Calm.below hb76).and ((Calm.blk (by omega)).and ((Calm.blk (by omega)).and ((Calm.blk (by omega)).and ((Calm.blk hx7).and ((Calm.blk (by omega)).and ((Calm.blk (by omega)).and Calm.pure)))))))
          (fun _ _ => Calm.pure.and ((Calm.below hb76).and ((Calm.blk (by omega)).and (Calm.blk (by omega)))))
          ⟨HB7.out, HW7.out, HY7.out, HM7.out, HX7.out, HR7.out, HS7.out, rfl⟩
          (fun t => { tmps := #[.agg #[.string nm, .int .i64 bend, .slice sp n cap], .agg #[.int .i64 x, .int .i64 y, .int .i64 z], .agg #[.int .i64 lo, .int .i64 hi, .int .i64 wt], .pointer (some ⟨w.heap.size, 0, none⟩), .pointer (some ⟨w.heap.size + 1, 0, none⟩), .pointer (some ⟨w.heap.size + 1 + 1, 0, none⟩), .pointer (some ⟨w.heap.size + 1 + 1 + 1, 0, none⟩), .pointer (some ⟨w.heap.size + 1 + 1 + 1 + 1, 0, none⟩), .pointer (some ⟨w.heap.size + 1 + 1 + 1 + 1 + 1, 0, none⟩), .int .i64 0, .pointer (some ⟨w6.heap.size, 0, none⟩), .int .i64 t, undef, .agg #[.string nm, .int .i64 bend, .slice sp n cap], .agg #[.string nm, .int .i64 bend, .slice sp n cap], .agg #[.string nm, .int .i64 bend, .slice sp n cap], .int .i64 e1, .agg #[.int .i64 x, .int .i64 y, .int .i64 z], .int .i64 e2, .agg #[.string nm, .int .i64 bend, .slice sp n cap], .pointer (some ⟨w.heap.size + 1 + 1, 0, none⟩), .pointer (some ⟨w.heap.size + 1 + 1, 0, none⟩), .int .i64 lo, .int .i64 e3, .agg #[.string nm, .int .i64 bend, .slice sp n cap], .pointer (some ⟨w.heap.size + 1 + 1, 0, none⟩), .pointer (some ⟨w.heap.size + 1 + 1, 1, none⟩), .int .i64 hi, .int .i64 e4, .agg #[.string nm, .int .i64 bend, .slice sp n cap], .pointer (some ⟨w.heap.size + 1 + 1, 2, none⟩), .int .i64 wt, .int .i64 e5, s33, .int .i64 0, .int .i64 0, .bool false, undef, .pointer (some ⟨w.heap.size + 1 + 1, 0, none⟩), .pointer (some ⟨w.heap.size + 1 + 1, 0, none⟩), .int .i64 lo, .pointer (some ⟨w.heap.size + 1 + 1, 0, none⟩), .pointer (some ⟨w.heap.size + 1 + 1, 1, none⟩), .int .i64 hi, .bool false, .agg #[.string nm, .int .i64 bend, .slice sp n cap], .pointer (some ⟨w.heap.size + 1 + 1, 2, none⟩), .int .i64 wt, .agg #[.int .i64 x, .int .i64 y, .int .i64 z], .agg #[.int .i64 (FL wt), .int .i64 (FH wt)], .int .i64 (FH wt), .agg #[.string nm, .int .i64 bend, .slice sp n cap], .func (.func 70) #[.agg #[.string nm, .int .i64 bend, .slice sp n cap]] #[], .int .i64 t, undef, undef, undef, undef, undef, undef, undef, undef, undef, undef, undef, undef, undef, undef, undef, undef, undef, undef, undef, undef, undef, undef, undef, undef, undef, undef, undef, undef, undef, undef], defers := [] }) ?assign ?body ?done ?stop
        case assign =>
          intro l x W K hK
          gi_wp2_with fail
          exact hK
        case body =>
          rintro l pre t W ⟨hB, hp, hy, hm, hx, hr, hs, hout⟩ hpre hsz
          have hcall := HRD.out pre t hpre
          have HC := Lib.hid (fun WQ (h : Below W.heap.size W WQ) => (hcall WQ (trans' hB h)).mono (fun e w' (h2 : e = .returned (.agg #[.int .i64 (FL t), .int .i64 (FH t)]) ∧ Below WQ.heap.size WQ w') => (⟨h2.1, andThen h h2.2⟩ : e = .returned (.agg #[.int .i64 (FL t), .int .i64 (FH t)]) ∧ Below W.heap.size W w')))
          have HQT : Hid (outB FL (FH wt) lo hi (pre ++ [t]) = ((decide (t < lo) || decide (hi < t)) && decide (FL t ≤ FH wt))) := by
            have h := HSN.out pre t
            rw [hout, Bool.false_or] at h
            exact h
          have HFL := Lib.hid (fld_lo (FL t) (FH t))
          have HB := Lib.hid hB
          have HW := Lib.hid hp
          have HY := Lib.hid hy
          have HM := Lib.hid hm
          have HX := Lib.hid hx
          have HR := Lib.hid hr
          have HS := Lib.hid hs
          clear hcall hB hp hy hx hr hs hout HSN HRD HWT HIT HSZ
          obtain ⟨m0, m1, m2⟩ := cells3 hm
          clear hm
          by_cases c1 : t < lo
          · by_cases c3 : FL t ≤ FH wt
            · have HQ : Hid (outB FL (FH wt) lo hi (pre ++ [t]) = true) := HQT.out.trans (by rw [decide_eq_true c1, decide_eq_true c3]; rfl)
              gi_wp2_with fail
              refine region_round (by kernel_rfl) (by kernel_rfl) (no_defer (by kernel_rfl)) (fun W' => Below W.heap.size W W') (Below.refl _ W).drew ?_
              refine Go.BigFrame.wpQuiet_want (by rfl) (fun K hK => ⟨.bool true, fun WQ hWQ => ?_, hK _ ?_⟩)
              · clear hK
                unfold Oper.quietAt
                go_simp
              clear hK K
              simp only [Act.put, List.setIfInBounds_toArray, List.set_cons_succ, List.set_cons_zero]
              refine Go.BigFrame.wpQuiet_want (by rfl) (fun K hK => ⟨.bool true, fun WQ hWQ => ?_, hK _ ?_⟩)
              · clear hK
                unfold Oper.quietAt
                go_simp
              clear hK K
              simp only [Act.put, List.setIfInBounds_toArray, List.set_cons_succ, List.set_cons_zero]
              refine Go.BigFrame.wpQuiet_want (by rfl) (fun K hK => ⟨.agg #[.string nm, .int .i64 bend, .slice sp n cap], fun WQ hWQ => ?_, hK _ ?_⟩)
              · clear hK
                obtain ⟨q0, q1, q2⟩ := cells3 (keepb hWQ HW.out)
                unfold Oper.quietAt
                go_simp
              clear hK K
              simp only [Act.put, List.setIfInBounds_toArray, List.set_cons_succ, List.set_cons_zero]
              refine Go.BigFrame.wpQuiet_want (by rfl) (fun K hK => ⟨.int .i64 t, fun WQ hWQ => ?_, hK _ ?_⟩)
              · clear hK
                unfold Oper.quietAt
                go_simp
              clear hK K
              simp only [Act.put, List.setIfInBounds_toArray, List.set_cons_succ, List.set_cons_zero]
              refine Go.BigFrame.wpQuiet_want (by rfl) (fun K hK => ⟨.agg #[.int .i64 x, .int .i64 y, .int .i64 z], fun WQ hWQ => ?_, hK _ ?_⟩)
              · clear hK
                obtain ⟨q0, q1, q2⟩ := cells3 (keepb hWQ HY.out)
                unfold Oper.quietAt
                go_simp
              clear hK K
              simp only [Act.put, List.setIfInBounds_toArray, List.set_cons_succ, List.set_cons_zero]
              refine Go.BigFrame.wpQuiet_want (by rfl) (fun K hK => ⟨.agg #[.int .i64 (FL t), .int .i64 (FH t)], fun WQ hWQ => ?_, hK _ ?_⟩)
              · clear hK
                unfold Oper.quietAt
                go_simp
                exact HC.out WQ hWQ
              clear hK K
              simp only [Act.put, List.setIfInBounds_toArray, List.set_cons_succ, List.set_cons_zero]
              refine Go.BigFrame.wpQuiet_want (by rfl) (fun K hK => ⟨.int .i64 (FL t), fun WQ hWQ => ?_, hK _ ?_⟩)
              · clear hK
                have hf := HFL.out
                unfold Oper.quietAt
                go_simp
              clear hK K
              simp only [Act.put, List.setIfInBounds_toArray, List.set_cons_succ, List.set_cons_zero]
              refine Go.BigFrame.wpQuiet_want (by rfl) (fun K hK => ⟨.int .i64 (FH wt), fun WQ hWQ => ?_, hK _ ?_⟩)
              · clear hK
                have q0 := cells_one (keepb hWQ HX.out)
                unfold Oper.quietAt
                go_simp
              clear hK K
              simp only [Act.put, List.setIfInBounds_toArray, List.set_cons_succ, List.set_cons_zero]
              refine Go.BigFrame.wpQuiet_want (by rfl) (fun K hK => ⟨.bool true, fun WQ hWQ => ?_, hK _ ?_⟩)
              · clear hK
                unfold Oper.quietAt
                go_simp
              clear hK K
              simp only [Act.put, List.setIfInBounds_toArray, List.set_cons_succ, List.set_cons_zero]
              refine Go.BigFrame.wpQuiet_want (by rfl) (fun K hK => ⟨.bool true, fun WQ hWQ => ?_, hK _ ?_⟩)
              · clear hK
                unfold Oper.quietAt
                go_simp
              clear hK K
              simp only [Act.put, List.setIfInBounds_toArray, List.set_cons_succ, List.set_cons_zero]
              refine wpQuiet_nil ?_
              intro W7 hb7
              have HO7 := Lib.hid (KeepsOthers.trans (others_of_below hb7) (KeepsOthers.refl _))
              have HK7 := Lib.hid (Keeps.of_below (n₀ := w.heap.size) (B := w7.heap.size + 2) hb7 HB.out.size)
              have HB7 := Lib.hid (trans' HB.out hb7)
              have HW7 := Lib.hid (keepb hb7 HW.out)
              have HY7 := Lib.hid (keepb hb7 HY.out)
              have HM7 := Lib.hid (keepb hb7 HM.out)
              have HX7 := Lib.hid (keepb hb7 HX.out)
              have HR7 := Lib.hid (keepb hb7 HR.out)
              have HS7 := Lib.hid (keepb hb7 HS.out)
              clear hb7
              have r0 := cells_one HR7.out
              have s0 := cells_one HS7.out
              have fr := free_of_one HR7.out
              have fs := free_of_one HS7.out
              gi_wp2_with fail
              have hrs : w.heap.size + 1 + 1 + 1 + 1 ≠ w.heap.size + 1 + 1 + 1 := by omega
              exact ⟨HO7.out.trans ((KeepsOthers.setCell _ _ _).trans (KeepsOthers.setCell _ _ _)), ⟨rfl, HQ.out⟩, setC (setC HB7.out (by omega) _) (by omega) _, heap_ne hrs.symm (one_setCell HR7.out), one_setCell (heap_ne hrs HS7.out)⟩
            · have HQ : Hid (outB FL (FH wt) lo hi (pre ++ [t]) = false) := HQT.out.trans (by rw [decide_eq_false c3, Bool.and_false])
              gi_wp2_with fail
              refine region_round (by kernel_rfl) (by kernel_rfl) (no_defer (by kernel_rfl)) (fun W' => Below W.heap.size W W') (Below.refl _ W).drew ?_
              refine Go.BigFrame.wpQuiet_want (by rfl) (fun K hK => ⟨.bool true, fun WQ hWQ => ?_, hK _ ?_⟩)
              · clear hK
                unfold Oper.quietAt
                go_simp
              clear hK K
              simp only [Act.put, List.setIfInBounds_toArray, List.set_cons_succ, List.set_cons_zero]
              refine Go.BigFrame.wpQuiet_want (by rfl) (fun K hK => ⟨.bool true, fun WQ hWQ => ?_, hK _ ?_⟩)
              · clear hK
                unfold Oper.quietAt
                go_simp
              clear hK K
              simp only [Act.put, List.setIfInBounds_toArray, List.set_cons_succ, List.set_cons_zero]
              refine Go.BigFrame.wpQuiet_want (by rfl) (fun K hK => ⟨.agg #[.string nm, .int .i64 bend, .slice sp n cap], fun WQ hWQ => ?_, hK _ ?_⟩)
              · clear hK
                obtain ⟨q0, q1, q2⟩ := cells3 (keepb hWQ HW.out)
                unfold Oper.quietAt
                go_simp
              clear hK K
              simp only [Act.put, List.setIfInBounds_toArray, List.set_cons_succ, List.set_cons_zero]
              refine Go.BigFrame.wpQuiet_want (by rfl) (fun K hK => ⟨.int .i64 t, fun WQ hWQ => ?_, hK _ ?_⟩)
              · clear hK
                unfold Oper.quietAt
                go_simp
              clear hK K
              simp only [Act.put, List.setIfInBounds_toArray, List.set_cons_succ, List.set_cons_zero]
              refine Go.BigFrame.wpQuiet_want (by rfl) (fun K hK => ⟨.agg #[.int .i64 x, .int .i64 y, .int .i64 z], fun WQ hWQ => ?_, hK _ ?_⟩)
              · clear hK
                obtain ⟨q0, q1, q2⟩ := cells3 (keepb hWQ HY.out)
                unfold Oper.quietAt
                go_simp
              clear hK K
              simp only [Act.put, List.setIfInBounds_toArray, List.set_cons_succ, List.set_cons_zero]
              refine Go.BigFrame.wpQuiet_want (by rfl) (fun K hK => ⟨.agg #[.int .i64 (FL t), .int .i64 (FH t)], fun WQ hWQ => ?_, hK _ ?_⟩)
              · clear hK
                unfold Oper.quietAt
                go_simp
                exact HC.out WQ hWQ
              clear hK K
              simp only [Act.put, List.setIfInBounds_toArray, List.set_cons_succ, List.set_cons_zero]
              refine Go.BigFrame.wpQuiet_want (by rfl) (fun K hK => ⟨.int .i64 (FL t), fun WQ hWQ => ?_, hK _ ?_⟩)
              · clear hK
                have hf := HFL.out
                unfold Oper.quietAt
                go_simp
              clear hK K
              simp only [Act.put, List.setIfInBounds_toArray, List.set_cons_succ, List.set_cons_zero]
              refine Go.BigFrame.wpQuiet_want (by rfl) (fun K hK => ⟨.int .i64 (FH wt), fun WQ hWQ => ?_, hK _ ?_⟩)
              · clear hK
                have q0 := cells_one (keepb hWQ HX.out)
                unfold Oper.quietAt
                go_simp
              clear hK K
              simp only [Act.put, List.setIfInBounds_toArray, List.set_cons_succ, List.set_cons_zero]
              refine Go.BigFrame.wpQuiet_want (by rfl) (fun K hK => ⟨.bool false, fun WQ hWQ => ?_, hK _ ?_⟩)
              · clear hK
                unfold Oper.quietAt
                go_simp
              clear hK K
              simp only [Act.put, List.setIfInBounds_toArray, List.set_cons_succ, List.set_cons_zero]
              refine Go.BigFrame.wpQuiet_want (by rfl) (fun K hK => ⟨.bool false, fun WQ hWQ => ?_, hK _ ?_⟩)
              · clear hK
                unfold Oper.quietAt
                go_simp
              clear hK K
              simp only [Act.put, List.setIfInBounds_toArray, List.set_cons_succ, List.set_cons_zero]
              refine wpQuiet_nil ?_
              intro W7 hb7
              have HO7 := Lib.hid (KeepsOthers.trans (others_of_below hb7) (KeepsOthers.refl _))
              have HK7 := Lib.hid (Keeps.of_below (n₀ := w.heap.size) (B := w7.heap.size + 2) hb7 HB.out.size)
              have HB7 := Lib.hid (trans' HB.out hb7)
              have HW7 := Lib.hid (keepb hb7 HW.out)
              have HY7 := Lib.hid (keepb hb7 HY.out)
              have HM7 := Lib.hid (keepb hb7 HM.out)
              have HX7 := Lib.hid (keepb hb7 HX.out)
              have HR7 := Lib.hid (keepb hb7 HR.out)
              have HS7 := Lib.hid (keepb hb7 HS.out)
              clear hb7
              gi_wp2_with fail
              exact ⟨HO7.out, HK7.out, HB7.out, HW7.out, HY7.out, HM7.out, HX7.out, HR7.out, HS7.out, HQ.out⟩
          · by_cases c2 : hi < t
            · by_cases c3 : FL t ≤ FH wt
              · have HQ : Hid (outB FL (FH wt) lo hi (pre ++ [t]) = true) := HQT.out.trans (by rw [decide_eq_true c2, decide_eq_true c3, Bool.or_true]; rfl)
                gi_wp2_with fail
                refine region_round (by kernel_rfl) (by kernel_rfl) (no_defer (by kernel_rfl)) (fun W' => Below W.heap.size W W') (Below.refl _ W).drew ?_
                refine Go.BigFrame.wpQuiet_want (by rfl) (fun K hK => ⟨.bool true, fun WQ hWQ => ?_, hK _ ?_⟩)
                · clear hK
                  unfold Oper.quietAt
                  go_simp
                clear hK K
                simp only [Act.put, List.setIfInBounds_toArray, List.set_cons_succ, List.set_cons_zero]
                refine Go.BigFrame.wpQuiet_want (by rfl) (fun K hK => ⟨.bool true, fun WQ hWQ => ?_, hK _ ?_⟩)
                · clear hK
                  unfold Oper.quietAt
                  go_simp
                clear hK K
                simp only [Act.put, List.setIfInBounds_toArray, List.set_cons_succ, List.set_cons_zero]
                refine Go.BigFrame.wpQuiet_want (by rfl) (fun K hK => ⟨.agg #[.string nm, .int .i64 bend, .slice sp n cap], fun WQ hWQ => ?_, hK _ ?_⟩)
                · clear hK
                  obtain ⟨q0, q1, q2⟩ := cells3 (keepb hWQ HW.out)
                  unfold Oper.quietAt
                  go_simp
                clear hK K
                simp only [Act.put, List.setIfInBounds_toArray, List.set_cons_succ, List.set_cons_zero]
                refine Go.BigFrame.wpQuiet_want (by rfl) (fun K hK => ⟨.int .i64 t, fun WQ hWQ => ?_, hK _ ?_⟩)
                · clear hK
                  unfold Oper.quietAt
                  go_simp
                clear hK K
                simp only [Act.put, List.setIfInBounds_toArray, List.set_cons_succ, List.set_cons_zero]
                refine Go.BigFrame.wpQuiet_want (by rfl) (fun K hK => ⟨.agg #[.int .i64 x, .int .i64 y, .int .i64 z], fun WQ hWQ => ?_, hK _ ?_⟩)
                · clear hK
                  obtain ⟨q0, q1, q2⟩ := cells3 (keepb hWQ HY.out)
                  unfold Oper.quietAt
                  go_simp
                clear hK K
                simp only [Act.put, List.setIfInBounds_toArray, List.set_cons_succ, List.set_cons_zero]
                refine Go.BigFrame.wpQuiet_want (by rfl) (fun K hK => ⟨.agg #[.int .i64 (FL t), .int .i64 (FH t)], fun WQ hWQ => ?_, hK _ ?_⟩)
                · clear hK
                  unfold Oper.quietAt
                  go_simp
                  exact HC.out WQ hWQ
                clear hK K
                simp only [Act.put, List.setIfInBounds_toArray, List.set_cons_succ, List.set_cons_zero]
                refine Go.BigFrame.wpQuiet_want (by rfl) (fun K hK => ⟨.int .i64 (FL t), fun WQ hWQ => ?_, hK _ ?_⟩)
                · clear hK
                  have hf := HFL.out
                  unfold Oper.quietAt
                  go_simp
                clear hK K
                simp only [Act.put, List.setIfInBounds_toArray, List.set_cons_succ, List.set_cons_zero]
                refine Go.BigFrame.wpQuiet_want (by rfl) (fun K hK => ⟨.int .i64 (FH wt), fun WQ hWQ => ?_, hK _ ?_⟩)
                · clear hK
                  have q0 := cells_one (keepb hWQ HX.out)
                  unfold Oper.quietAt
                  go_simp
                clear hK K
                simp only [Act.put, List.setIfInBounds_toArray, List.set_cons_succ, List.set_cons_zero]
                refine Go.BigFrame.wpQuiet_want (by rfl) (fun K hK => ⟨.bool true, fun WQ hWQ => ?_, hK _ ?_⟩)
                · clear hK
                  unfold Oper.quietAt
                  go_simp
                clear hK K
                simp only [Act.put, List.setIfInBounds_toArray, List.set_cons_succ, List.set_cons_zero]
                refine Go.BigFrame.wpQuiet_want (by rfl) (fun K hK => ⟨.bool true, fun WQ hWQ => ?_, hK _ ?_⟩)
                · clear hK
                  unfold Oper.quietAt
                  go_simp
                clear hK K
                simp only [Act.put, List.setIfInBounds_toArray, List.set_cons_succ, List.set_cons_zero]
                refine wpQuiet_nil ?_
                intro W7 hb7
                have HO7 := Lib.hid (KeepsOthers.trans (others_of_below hb7) (KeepsOthers.refl _))
                have HK7 := Lib.hid (Keeps.of_below (n₀ := w.heap.size) (B := w7.heap.size + 2) hb7 HB.out.size)
                have HB7 := Lib.hid (trans' HB.out hb7)
                have HW7 := Lib.hid (keepb hb7 HW.out)
                have HY7 := Lib.hid (keepb hb7 HY.out)
                have HM7 := Lib.hid (keepb hb7 HM.out)
                have HX7 := Lib.hid (keepb hb7 HX.out)
                have HR7 := Lib.hid (keepb hb7 HR.out)
                have HS7 := Lib.hid (keepb hb7 HS.out)
                clear hb7
                have r0 := cells_one HR7.out
                have s0 := cells_one HS7.out
                have fr := free_of_one HR7.out
                have fs := free_of_one HS7.out
                gi_wp2_with fail
                have hrs : w.heap.size + 1 + 1 + 1 + 1 ≠ w.heap.size + 1 + 1 + 1 := by omega
                exact ⟨HO7.out.trans ((KeepsOthers.setCell _ _ _).trans (KeepsOthers.setCell _ _ _)), ⟨rfl, HQ.out⟩, setC (setC HB7.out (by omega) _) (by omega) _, heap_ne hrs.symm (one_setCell HR7.out), one_setCell (heap_ne hrs HS7.out)⟩
              · have HQ : Hid (outB FL (FH wt) lo hi (pre ++ [t]) = false) := HQT.out.trans (by rw [decide_eq_false c3, Bool.and_false])
                gi_wp2_with fail
                refine region_round (by kernel_rfl) (by kernel_rfl) (no_defer (by kernel_rfl)) (fun W' => Below W.heap.size W W') (Below.refl _ W).drew ?_
                refine Go.BigFrame.wpQuiet_want (by rfl) (fun K hK => ⟨.bool true, fun WQ hWQ => ?_, hK _ ?_⟩)
                · clear hK
                  unfold Oper.quietAt
                  go_simp
                clear hK K
                simp only [Act.put, List.setIfInBounds_toArray, List.set_cons_succ, List.set_cons_zero]
                refine Go.BigFrame.wpQuiet_want (by rfl) (fun K hK => ⟨.bool true, fun WQ hWQ => ?_, hK _ ?_⟩)
                · clear hK
                  unfold Oper.quietAt
                  go_simp
                clear hK K
                simp only [Act.put, List.setIfInBounds_toArray, List.set_cons_succ, List.set_cons_zero]
                refine Go.BigFrame.wpQuiet_want (by rfl) (fun K hK => ⟨.agg #[.string nm, .int .i64 bend, .slice sp n cap], fun WQ hWQ => ?_, hK _ ?_⟩)
                · clear hK
                  obtain ⟨q0, q1, q2⟩ := cells3 (keepb hWQ HW.out)
                  unfold Oper.quietAt
                  go_simp
                clear hK K
                simp only [Act.put, List.setIfInBounds_toArray, List.set_cons_succ, List.set_cons_zero]
                refine Go.BigFrame.wpQuiet_want (by rfl) (fun K hK => ⟨.int .i64 t, fun WQ hWQ => ?_, hK _ ?_⟩)
                · clear hK
                  unfold Oper.quietAt
                  go_simp
                clear hK K
                simp only [Act.put, List.setIfInBounds_toArray, List.set_cons_succ, List.set_cons_zero]
                refine Go.BigFrame.wpQuiet_want (by rfl) (fun K hK => ⟨.agg #[.int .i64 x, .int .i64 y, .int .i64 z], fun WQ hWQ => ?_, hK _ ?_⟩)
                · clear hK
                  obtain ⟨q0, q1, q2⟩ := cells3 (keepb hWQ HY.out)
                  unfold Oper.quietAt
                  go_simp
                clear hK K
                simp only [Act.put, List.setIfInBounds_toArray, List.set_cons_succ, List.set_cons_zero]
                refine Go.BigFrame.wpQuiet_want (by rfl) (fun K hK => ⟨.agg #[.int .i64 (FL t), .int .i64 (FH t)], fun WQ hWQ => ?_, hK _ ?_⟩)
                · clear hK
                  unfold Oper.quietAt
                  go_simp
                  exact HC.out WQ hWQ
                clear hK K
                simp only [Act.put, List.setIfInBounds_toArray, List.set_cons_succ, List.set_cons_zero]
                refine Go.BigFrame.wpQuiet_want (by rfl) (fun K hK => ⟨.int .i64 (FL t), fun WQ hWQ => ?_, hK _ ?_⟩)
                · clear hK
                  have hf := HFL.out
                  unfold Oper.quietAt
                  go_simp
                clear hK K
                simp only [Act.put, List.setIfInBounds_toArray, List.set_cons_succ, List.set_cons_zero]
                refine Go.BigFrame.wpQuiet_want (by rfl) (fun K hK => ⟨.int .i64 (FH wt), fun WQ hWQ => ?_, hK _ ?_⟩)
                · clear hK
                  have q0 := cells_one (keepb hWQ HX.out)
                  unfold Oper.quietAt
                  go_simp
                clear hK K
                simp only [Act.put, List.setIfInBounds_toArray, List.set_cons_succ, List.set_cons_zero]
                refine Go.BigFrame.wpQuiet_want (by rfl) (fun K hK => ⟨.bool false, fun WQ hWQ => ?_, hK _ ?_⟩)
                · clear hK
                  unfold Oper.quietAt
                  go_simp
                clear hK K
                simp only [Act.put, List.setIfInBounds_toArray, List.set_cons_succ, List.set_cons_zero]
                refine Go.BigFrame.wpQuiet_want (by rfl) (fun K hK => ⟨.bool false, fun WQ hWQ => ?_, hK _ ?_⟩)
                · clear hK
                  unfold Oper.quietAt
                  go_simp
                clear hK K
                simp only [Act.put, List.setIfInBounds_toArray, List.set_cons_succ, List.set_cons_zero]
                refine wpQuiet_nil ?_
                intro W7 hb7
                have HO7 := Lib.hid (KeepsOthers.trans (others_of_below hb7) (KeepsOthers.refl _))
                have HK7 := Lib.hid (Keeps.of_below (n₀ := w.heap.size) (B := w7.heap.size + 2) hb7 HB.out.size)
                have HB7 := Lib.hid (trans' HB.out hb7)
                have HW7 := Lib.hid (keepb hb7 HW.out)
                have HY7 := Lib.hid (keepb hb7 HY.out)
                have HM7 := Lib.hid (keepb hb7 HM.out)
                have HX7 := Lib.hid (keepb hb7 HX.out)
                have HR7 := Lib.hid (keepb hb7 HR.out)
                have HS7 := Lib.hid (keepb hb7 HS.out)
                clear hb7
                gi_wp2_with fail
                exact ⟨HO7.out, HK7.out, HB7.out, HW7.out, HY7.out, HM7.out, HX7.out, HR7.out, HS7.out, HQ.out⟩
            · have HQ : Hid (outB FL (FH wt) lo hi (pre ++ [t]) = false) := HQT.out.trans (by rw [decide_eq_false c1, decide_eq_false c2]; rfl)
              gi_wp2_with fail
              refine region_round (by kernel_rfl) (by kernel_rfl) (no_defer (by kernel_rfl)) (fun W' => Below W.heap.size W W') (Below.refl _ W).drew ?_
              refine Go.BigFrame.wpQuiet_want (by rfl) (fun K hK => ⟨.bool false, fun WQ hWQ => ?_, hK _ ?_⟩)
              · clear hK
                unfold Oper.quietAt
                go_simp
              clear hK K
              simp only [Act.put, List.setIfInBounds_toArray, List.set_cons_succ, List.set_cons_zero]
              refine Go.BigFrame.wpQuiet_want (by rfl) (fun K hK => ⟨.bool false, fun WQ hWQ => ?_, hK _ ?_⟩)
              · clear hK
                unfold Oper.quietAt
                go_simp
              clear hK K
              simp only [Act.put, List.setIfInBounds_toArray, List.set_cons_succ, List.set_cons_zero]
              go_big_quiet_skip
              go_big_quiet_skip
              go_big_quiet_skip
              go_big_quiet_skip
              go_big_quiet_skip
              go_big_quiet_skip
              go_big_quiet_skip
              refine Go.BigFrame.wpQuiet_want (by rfl) (fun K hK => ⟨.bool false, fun WQ hWQ => ?_, hK _ ?_⟩)
              · clear hK
                unfold Oper.quietAt
                go_simp
              clear hK K
              simp only [Act.put, List.setIfInBounds_toArray, List.set_cons_succ, List.set_cons_zero]
              refine wpQuiet_nil ?_
              intro W7 hb7
              have HO7 := Lib.hid (KeepsOthers.trans (others_of_below hb7) (KeepsOthers.refl _))
              have HK7 := Lib.hid (Keeps.of_below (n₀ := w.heap.size) (B := w7.heap.size + 2) hb7 HB.out.size)
              have HB7 := Lib.hid (trans' HB.out hb7)
              have HW7 := Lib.hid (keepb hb7 HW.out)
              have HY7 := Lib.hid (keepb hb7 HY.out)
              have HM7 := Lib.hid (keepb hb7 HM.out)
              have HX7 := Lib.hid (keepb hb7 HX.out)
              have HR7 := Lib.hid (keepb hb7 HR.out)
              have HS7 := Lib.hid (keepb hb7 HS.out)
              clear hb7
              gi_wp2_with fail
              exact ⟨HO7.out, HK7.out, HB7.out, HW7.out, HY7.out, HM7.out, HX7.out, HR7.out, HS7.out, HQ.out⟩
        case done =>
          rintro D W hD ⟨hB, -, -, hm, -, hr, hs, hout⟩ hK
          have HCN := Lib.hid (HCN.out.trans (if_neg (by rw [hout]; simp)))
          obtain ⟨m0, m1, m2⟩ := cells3 hm
          have r0 := cells_one hr
          have s0 := cells_one hs
          have fr := free_of_one hr
          have fs := free_of_one hs
          have HB := Lib.hid hB
          have HK := Lib.hid hK
          have HR := Lib.hid hr
          have HS := Lib.hid hs
          have e1 : IntKind.i64.wrap (hi - lo) = hi - lo := IntWalk.i64_in _ (by omega)
          have e2 : IntKind.i64.wrap (hi - lo + 1) = hi - lo + 1 := IntWalk.i64_in _ (by omega)
          clear hB hm hK hr hs
          go_wp2_with fail
          have hrs : w.heap.size + 1 + 1 + 1 + 1 ≠ w.heap.size + 1 + 1 + 1 := by omega
          have hdl : w.heap.size + 1 + 1 + 1 + 1 < D := by omega
          obtain ⟨Wf, hWf⟩ : ∃ Wf, Wf = (W.setCell ⟨w.heap.size + 1 + 1 + 1, 0, none⟩ (.int .i64 (hi - lo + 1))).setCell ⟨w.heap.size + 1 + 1 + 1 + 1, 0, none⟩ (.int .i64 0) := ⟨_, rfl⟩
          rw [← hWf]
          have h6 : Wf.heap[w.heap.size + 1 + 1 + 1]? = some (.cells #[.int .i64 (hi - lo + 1)] 3 (0, 0)) := by rw [hWf]; exact heap_ne hrs.symm (one_setCell HR.out)
          have h7 : Wf.heap[w.heap.size + 1 + 1 + 1 + 1]? = some (.cells #[.int .i64 0] 30 (0, 0)) := by rw [hWf]; exact one_setCell (heap_ne hrs HS.out)
          have hk : Wf.heap[D]? = some (.deferred (some [])) := by rw [hWf]; exact heap_ne (by omega) (heap_ne (by omega) HK.out)
          have hbf : Below w.heap.size w Wf := by rw [hWf]; exact setC (setC HB.out (by omega) _) (by omega) _
          clear hWf r0 s0 fr fs m0 m1 m2 e1 e2
          have c6 : ∀ o, (Wf.putObj D o).cell? ⟨w.heap.size + 1 + 1 + 1, 0, none⟩ = some (.int .i64 (hi - lo + 1)) := fun o => cells_one ((World.putObj_heap_other (by omega)).trans h6)
          have c7 : ∀ o, (Wf.putObj D o).cell? ⟨w.heap.size + 1 + 1 + 1 + 1, 0, none⟩ = some (.int .i64 0) := fun o => cells_one ((World.putObj_heap_other (by omega)).trans h7)
          refine ⟨by simp, .inl ⟨_, _, rfl, run_takeDeferred hk, ?_⟩⟩
          refine ⟨.tuple #[.int .i64 (hi - lo + 1), .int .i64 0], ?_, by rw [HCN.out], hbf.trans (belowK_b (w := w7) hb76 Wf D _ _ hD hk rfl rfl)⟩
          simp [results, Try.f41, go_sem, c6, c7]
        case stop =>
          rintro D c pre W hD hpre ⟨⟨rfl, hout⟩, hbf, h6, h7⟩ hk
          have HCN := Lib.hid (HCN.out.trans (if_pos (outB_pre hpre hout)))
          have hdl : w.heap.size + 1 + 1 + 1 + 1 < D := by omega
          refine wpIn_wide.2 ?_
          go_wp2_with fail
          have c6 : ∀ o, (W.putObj D o).cell? ⟨w.heap.size + 1 + 1 + 1, 0, none⟩ = some (.int .i64 0) := fun o => cells_one ((World.putObj_heap_other (by omega)).trans h6)
          have c7 : ∀ o, (W.putObj D o).cell? ⟨w.heap.size + 1 + 1 + 1 + 1, 0, none⟩ = some (.int .i64 22) := fun o => cells_one ((World.putObj_heap_other (by omega)).trans h7)
          refine ⟨by simp, .inl ⟨_, _, rfl, run_takeDeferred hk, ?_⟩⟩
          refine ⟨.tuple #[.int .i64 0, .int .i64 22], ?_, by rw [HCN.out], hbf.trans (belowK_b (w := w7) hb76 W D _ _ hD hk rfl rfl)⟩
          simp [results, Try.f41, go_sem, c6, c7]
  · all_goals
      obtain ⟨W5, hW5⟩ : ∃ W5, W5 = wX.alloc (.cells #[.int .i64 e1, .int .i64 e2, .int .i64 e3, .int .i64 e4, .int .i64 e5] 30) := ⟨_, rfl⟩
      rw [← hW5]
      have hb5 : Below W0.heap.size W0 W5 := by rw [hW5]; (repeat (first | with_reducible exact Below.refl _ _ | with_reducible refine andThen ?_ hbX | with_reducible refine andThen ?_ hbH | with_reducible refine andThen ?_ hbL | with_reducible refine andThen ?_ hbP | with_reducible refine andThen ?_ hbC | with_reducible refine alloc1 ?_ _ | with_reducible refine Below.drew ?_ | with_reducible refine drewN1 ?_ _ | with_reducible refine setC ?_ (by omega) _))
      have HB5 := Lib.hid (trans' HB0.out hb5)
      have HR5 := Lib.hid (keepb hb5 HR0.out)
      have HS5 := Lib.hid (keepb hb5 HS0.out)
      clear hW5 hb5 k0 k1 k2 y0 y1 y2 m0 m1 m2 hbX hbH hbL hbP hbC HB0 HW0 HY0 HM0 HR0 HS0 CC CQ CTl CTh CTw CF HOK HSN
      have HCN := Lib.hid (HCN.out.trans (if_pos (by simpa using hne)))
      have r0 := cells_one HR5.out
      have s0 := cells_one HS5.out
      have fr := free_of_one HR5.out
      have fs := free_of_one HS5.out
      go_wp2_with fail
      have hrs : w.heap.size + 1 + 1 + 1 + 1 ≠ w.heap.size + 1 + 1 + 1 := by omega
      have c6 : ((W5.setCell ⟨w.heap.size + 1 + 1 + 1, 0, none⟩ (.int .i64 0)).setCell ⟨w.heap.size + 1 + 1 + 1 + 1, 0, none⟩ (.int .i64 E)).cell? ⟨w.heap.size + 1 + 1 + 1, 0, none⟩ = some (.int .i64 0) := cells_one (heap_ne hrs.symm (one_setCell HR5.out))
      have c7 : ((W5.setCell ⟨w.heap.size + 1 + 1 + 1, 0, none⟩ (.int .i64 0)).setCell ⟨w.heap.size + 1 + 1 + 1 + 1, 0, none⟩ (.int .i64 E)).cell? ⟨w.heap.size + 1 + 1 + 1 + 1, 0, none⟩ = some (.int .i64 E) := cells_one (one_setCell (heap_ne hrs HS5.out))
      refine ⟨.tuple #[.int .i64 0, .int .i64 E], ?_, by rw [HCN.out], setC (setC HB5.out (by omega) _) (by omega) _⟩
      simp [results, Try.f41, go_sem, c6, c7]
end Go.Proofs.Ytodpjhhogcfodaa.Orb
