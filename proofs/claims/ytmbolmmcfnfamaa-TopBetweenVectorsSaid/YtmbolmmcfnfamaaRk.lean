import Derived.Test.YtmbolmmcfnfamaaRj
import Derived.Deep.RegionHeld3
namespace Go.Proofs.Ytmbolmmcfnfamaa.Orb
open Go.RowKit Lib

/-- the error of an orbit and of a tick -/
def tkE (ne bend : Int) (L : List St) (t : Int) : Int := firstE [(orbE ne bend L).2, tickE L t]
theorem tkE_zero {ne bend : Int} {L : List St} {t : Int} (h : tkE ne bend L t = 0) : (orbE ne bend L).2 = 0 ∧ ne = 0 ∧ Rt bend L ∧ fst L ≤ t ∧ t ≤ lst L := by
  unfold tkE at h
  rw [firstE_zero_iff] at h
  have h1 := h _ (List.mem_cons_self ..)
  have h2 := h (tickE L t) (by simp)
  obtain ⟨h3, h4⟩ := Rt.of h1
  refine ⟨h1, h3, h4, ?_⟩
  unfold tickE at h2
  split at h2
  · rename_i hb
    unfold hasB at hb
    simp at hb
    exact hb.2
  · simp at h2
/-- the box, written out -/
theorem boxAt_six (v : Value) (nm : ByteArray) (bend : Int) (L : List St) (hR : Rt bend L) (t : Int) (h0 : fst L ≤ t) (h1 : t ≤ lst L) (w : World) (hv : OV w v nm bend L) :
    Calls Try.prog 37 #[v, .int .i64 t] w fun e w' => e = .returned (.agg #[.int .i64 (loC bend L t 0), .int .i64 (hiC bend L t 0), .int .i64 (loC bend L t 1), .int .i64 (hiC bend L t 1), .int .i64 (loC bend L t 2), .int .i64 (hiC bend L t 2)]) ∧ Below w.heap.size w w' :=
  boxAt_any v nm bend L hR t h0 h1 w hv
def zif (E x : Int) : Int := if E = 0 then x else 0

set_option maxRecDepth 100000 in
set_option maxHeartbeats 4000000 in
theorem Nominal_any (v : Value) (nm : ByteArray) (hs : nm.size ≤ 1000) (bend : Int) (L : List St) (hn : L.length ≤ 1000) (hI : ∀ k, (gt L k).t ≤ 9223372036854775807) (t : Int) (w : World) (hv : OV w v nm bend L) :
    Calls Try.prog 26 #[v, .int .i64 t] w fun e w' => e = .returned (.tuple #[.agg #[.int .i64 (zif (tkE (nameE nm) bend L t) (nomC L t 0)), .int .i64 (zif (tkE (nameE nm) bend L t) (nomC L t 1)), .int .i64 (zif (tkE (nameE nm) bend L t) (nomC L t 2))], .int .i64 (tkE (nameE nm) bend L t)]) ∧ Below w.heap.size w w' := by
  have CC := Lib.hid (fun W (h : Below w.heap.size w W) => check_any v nm hs bend L hI W (hv.next h))
  have CT := Lib.hid (fun W (h : Below w.heap.size w W) => tickError_any v nm bend L hn t W (hv.next h))
  have CF := Lib.hid (fun W => firstError2 (orbE (nameE nm) bend L).2 (tickE L t) W)
  have CN := Lib.hid (fun (h0 : tkE (nameE nm) bend L t = 0) W (h : Below w.heap.size w W) => nominalAt_any v nm bend L (tkE_zero h0).2.2.1 t (tkE_zero h0).2.2.2.1 (tkE_zero h0).2.2.2.2 W (hv.next h))
  obtain ⟨sp, cap, rfl, -, -, -⟩ := hv.form
  have hR : firstE [(orbE (nameE nm) bend L).2, tickE L t] = tkE (nameE nm) bend L t := rfl
  rw [hR] at CF
  clear hv hR hs hn hI
  generalize tkE (nameE nm) bend L t = E at *
  generalize (orbE (nameE nm) bend L).2 = e1 at *
  generalize tickE L t = e2 at *
  generalize nomC L t 0 = r0 at *
  generalize nomC L t 1 = r1 at *
  generalize nomC L t 2 = r2 at *
  generalize L.length = n at *
  have hw : (E = 0 ∧ Hid (∀ x, zif E x = x)) ∨ ((E != 0) = true ∧ Hid (∀ x, zif E x = 0)) := by
    by_cases h : E = 0
    · exact .inl ⟨h, fun x => if_pos h⟩
    · exact .inr ⟨by rw [bne_iff_ne]; exact h, fun x => if_neg h⟩
  rcases hw with ⟨rfl, HZ⟩ | ⟨hne, HZ⟩
  all_goals
    simp only [HZ.out]
    go_enter Try.func26, Try.ntmps26
    go_upto_region 2 with fail
    obtain ⟨W0, hW0⟩ : ∃ W0, W0 = ((w.alloc (.cells #[.string nm, .int .i64 bend, .slice sp n cap] 24)).alloc (.cells #[.int .i64 0, .int .i64 0, .int .i64 0] 43)).alloc (.cells #[.string nm, .int .i64 bend, .slice sp n cap] 73) := ⟨_, rfl⟩
    rw [← hW0]
    have HB0 := Lib.hid (show Below w.heap.size w W0 by rw [hW0]; (repeat (first | with_reducible exact Below.refl _ _ | with_reducible refine alloc1 ?_ _ | with_reducible refine Below.drew ?_ | with_reducible refine drewN1 ?_ _ | with_reducible refine setC ?_ (by omega) _)))
    have HP0 := Lib.hid (show W0.heap[w.heap.size + 1 + 1]? = some (.cells #[.string nm, .int .i64 bend, .slice sp n cap] 73 (0, 0)) by rw [hW0]; (repeat (first | ((with_reducible refine hnew ?_); (simp; done)) | with_reducible refine hdrew ?_ | with_reducible refine hold ?_)))
    have HQ0 := Lib.hid (show W0.heap[w.heap.size + 1]? = some (.cells #[.int .i64 0, .int .i64 0, .int .i64 0] 43 (0, 0)) by rw [hW0]; (repeat (first | ((with_reducible refine hnew ?_); (simp; done)) | with_reducible refine hdrew ?_ | with_reducible refine hold ?_)))
    clear hW0
    obtain ⟨k0, k1, k2⟩ := cells3 HP0.out
    go_region_held3 (fun W => W.cell? ⟨w.heap.size + 1 + 1, 0, none⟩ = some (.string nm) ∧ W.cell? ⟨w.heap.size + 1 + 1, 1, none⟩ = some (.int .i64 bend) ∧ W.cell? ⟨w.heap.size + 1 + 1, 2, none⟩ = some (.slice sp n cap)) (with_reducible refine ⟨keepc ?_ k0, keepc ?_ k1, keepc ?_ k2⟩ <;> (repeat (first | with_reducible exact Below.refl _ _ | with_reducible refine andThen ?_ hbC | with_reducible refine andThen ?_ hbT | with_reducible refine alloc1 ?_ _ | with_reducible refine Below.drew ?_ | with_reducible refine drewN1 ?_ _ | with_reducible refine setC ?_ (by omega) _)) <;> done)
      (first
        | (go_at_call 35; (with_reducible refine (CC.out _ (trans' HB0.out (by (repeat (first | with_reducible exact Below.refl _ _ | with_reducible refine andThen ?_ hbT | with_reducible refine alloc1 ?_ _ | with_reducible refine Below.drew ?_ | with_reducible refine drewN1 ?_ _ | with_reducible refine setC ?_ (by omega) _))))).mono ?_); rintro e wC ⟨rfl, hbC⟩)
        | (go_at_call 36; (with_reducible refine (CT.out _ (trans' HB0.out (by (repeat (first | with_reducible exact Below.refl _ _ | with_reducible refine andThen ?_ hbC | with_reducible refine alloc1 ?_ _ | with_reducible refine Below.drew ?_ | with_reducible refine drewN1 ?_ _ | with_reducible refine setC ?_ (by omega) _))))).mono ?_); rintro e wT ⟨rfl, hbT⟩)
        | (go_at_call 34; (with_reducible refine (CF.out _).mono ?_); rintro e w1 ⟨rfl, rfl⟩))
  · all_goals
      first
        | (obtain ⟨W5, hW5⟩ : ∃ W5, W5 = wT.alloc (.cells #[.int .i64 e1, .int .i64 e2] 29) := ⟨_, rfl⟩; rw [← hW5])
        | (obtain ⟨W5, hW5⟩ : ∃ W5, W5 = wC.alloc (.cells #[.int .i64 e1, .int .i64 e2] 29) := ⟨_, rfl⟩; rw [← hW5])
      have hb5 : Below W0.heap.size W0 W5 := by rw [hW5]; (repeat (first | with_reducible exact Below.refl _ _ | with_reducible refine andThen ?_ hbC | with_reducible refine andThen ?_ hbT | with_reducible refine alloc1 ?_ _ | with_reducible refine Below.drew ?_ | with_reducible refine drewN1 ?_ _ | with_reducible refine setC ?_ (by omega) _))
      have HB5 := Lib.hid (trans' HB0.out hb5)
      have HQ5 := Lib.hid (keepb hb5 HQ0.out)
      have hP5 := keepb hb5 HP0.out
      clear hW5 hb5 k0 k1 k2 hbC hbT
      obtain ⟨k0, k1, k2⟩ := cells3 hP5
      go_wp2_with fail
      refine (CN.out trivial _ HB5.out).mono ?_
      rintro e w6 ⟨rfl, hb⟩
      have HB6 := Lib.hid (trans' HB5.out hb)
      have hQ6 := keepb hb HQ5.out
      obtain ⟨q0, q1, q2⟩ := cells3 hQ6
      obtain ⟨f0, f1, f2⟩ := free3 hQ6
      clear hb
      go_wp2_with fail
      refine bodyPost_ret (v := .tuple #[.agg #[.int .i64 r0, .int .i64 r1, .int .i64 r2], .int .i64 0]) (by simp [results, Try.results26, go_sem, q0, q1, q2]) rfl ⟨rfl, ?_⟩
      exact setC (setC (setC (HB6.out) (by omega) _) (by omega) _) (by omega) _
  · all_goals
      first
        | (obtain ⟨W5, hW5⟩ : ∃ W5, W5 = wT.alloc (.cells #[.int .i64 e1, .int .i64 e2] 29) := ⟨_, rfl⟩; rw [← hW5])
        | (obtain ⟨W5, hW5⟩ : ∃ W5, W5 = wC.alloc (.cells #[.int .i64 e1, .int .i64 e2] 29) := ⟨_, rfl⟩; rw [← hW5])
      have hb5 : Below W0.heap.size W0 W5 := by rw [hW5]; (repeat (first | with_reducible exact Below.refl _ _ | with_reducible refine andThen ?_ hbC | with_reducible refine andThen ?_ hbT | with_reducible refine alloc1 ?_ _ | with_reducible refine Below.drew ?_ | with_reducible refine drewN1 ?_ _ | with_reducible refine setC ?_ (by omega) _))
      have HB5 := Lib.hid (trans' HB0.out hb5)
      have hQ5 := keepb hb5 HQ0.out
      obtain ⟨q0, q1, q2⟩ := cells3 hQ5
      obtain ⟨f0, f1, f2⟩ := free3 hQ5
      clear hW5 hb5 k0 k1 k2 hbC hbT
      go_wp2_with fail
      refine bodyPost_ret (v := .tuple #[.agg #[.int .i64 0, .int .i64 0, .int .i64 0], .int .i64 E]) (by simp [results, Try.results26, go_sem, q0, q1, q2]) rfl ⟨rfl, ?_⟩
      exact setC (setC (setC (HB5.out) (by omega) _) (by omega) _) (by omega) _

set_option maxRecDepth 100000 in
set_option maxHeartbeats 4000000 in
theorem BoxAt_any (v : Value) (nm : ByteArray) (hs : nm.size ≤ 1000) (bend : Int) (L : List St) (hn : L.length ≤ 1000) (hI : ∀ k, (gt L k).t ≤ 9223372036854775807) (t : Int) (w : World) (hv : OV w v nm bend L) :
    Calls Try.prog 27 #[v, .int .i64 t] w fun e w' => e = .returned (.tuple #[.agg #[.int .i64 (zif (tkE (nameE nm) bend L t) (loC bend L t 0)), .int .i64 (zif (tkE (nameE nm) bend L t) (hiC bend L t 0)), .int .i64 (zif (tkE (nameE nm) bend L t) (loC bend L t 1)), .int .i64 (zif (tkE (nameE nm) bend L t) (hiC bend L t 1)), .int .i64 (zif (tkE (nameE nm) bend L t) (loC bend L t 2)), .int .i64 (zif (tkE (nameE nm) bend L t) (hiC bend L t 2))], .int .i64 (tkE (nameE nm) bend L t)]) ∧ Below w.heap.size w w' := by
  have CC := Lib.hid (fun W (h : Below w.heap.size w W) => check_any v nm hs bend L hI W (hv.next h))
  have CT := Lib.hid (fun W (h : Below w.heap.size w W) => tickError_any v nm bend L hn t W (hv.next h))
  have CF := Lib.hid (fun W => firstError2 (orbE (nameE nm) bend L).2 (tickE L t) W)
  have CN := Lib.hid (fun (h0 : tkE (nameE nm) bend L t = 0) W (h : Below w.heap.size w W) => boxAt_six v nm bend L (tkE_zero h0).2.2.1 t (tkE_zero h0).2.2.2.1 (tkE_zero h0).2.2.2.2 W (hv.next h))
  obtain ⟨sp, cap, rfl, -, -, -⟩ := hv.form
  have hR : firstE [(orbE (nameE nm) bend L).2, tickE L t] = tkE (nameE nm) bend L t := rfl
  rw [hR] at CF
  clear hv hR hs hn hI
  generalize tkE (nameE nm) bend L t = E at *
  generalize (orbE (nameE nm) bend L).2 = e1 at *
  generalize tickE L t = e2 at *
  generalize loC bend L t 0 = r0 at *
  generalize hiC bend L t 0 = r1 at *
  generalize loC bend L t 1 = r2 at *
  generalize hiC bend L t 1 = r3 at *
  generalize loC bend L t 2 = r4 at *
  generalize hiC bend L t 2 = r5 at *
  generalize L.length = n at *
  have hw : (E = 0 ∧ Hid (∀ x, zif E x = x)) ∨ ((E != 0) = true ∧ Hid (∀ x, zif E x = 0)) := by
    by_cases h : E = 0
    · exact .inl ⟨h, fun x => if_pos h⟩
    · exact .inr ⟨by rw [bne_iff_ne]; exact h, fun x => if_neg h⟩
  rcases hw with ⟨rfl, HZ⟩ | ⟨hne, HZ⟩
  all_goals
    simp only [HZ.out]
    go_enter Try.func27, Try.ntmps27
    go_upto_region 2 with fail
    obtain ⟨W0, hW0⟩ : ∃ W0, W0 = ((w.alloc (.cells #[.string nm, .int .i64 bend, .slice sp n cap] 24)).alloc (.cells #[.int .i64 0, .int .i64 0, .int .i64 0, .int .i64 0, .int .i64 0, .int .i64 0] 61)).alloc (.cells #[.string nm, .int .i64 bend, .slice sp n cap] 73) := ⟨_, rfl⟩
    rw [← hW0]
    have HB0 := Lib.hid (show Below w.heap.size w W0 by rw [hW0]; (repeat (first | with_reducible exact Below.refl _ _ | with_reducible refine alloc1 ?_ _ | with_reducible refine Below.drew ?_ | with_reducible refine drewN1 ?_ _ | with_reducible refine setC ?_ (by omega) _)))
    have HP0 := Lib.hid (show W0.heap[w.heap.size + 1 + 1]? = some (.cells #[.string nm, .int .i64 bend, .slice sp n cap] 73 (0, 0)) by rw [hW0]; (repeat (first | ((with_reducible refine hnew ?_); (simp; done)) | with_reducible refine hdrew ?_ | with_reducible refine hold ?_)))
    have HQ0 := Lib.hid (show W0.heap[w.heap.size + 1]? = some (.cells #[.int .i64 0, .int .i64 0, .int .i64 0, .int .i64 0, .int .i64 0, .int .i64 0] 61 (0, 0)) by rw [hW0]; (repeat (first | ((with_reducible refine hnew ?_); (simp; done)) | with_reducible refine hdrew ?_ | with_reducible refine hold ?_)))
    clear hW0
    obtain ⟨k0, k1, k2⟩ := cells3 HP0.out
    go_region_held3 (fun W => W.cell? ⟨w.heap.size + 1 + 1, 0, none⟩ = some (.string nm) ∧ W.cell? ⟨w.heap.size + 1 + 1, 1, none⟩ = some (.int .i64 bend) ∧ W.cell? ⟨w.heap.size + 1 + 1, 2, none⟩ = some (.slice sp n cap)) (with_reducible refine ⟨keepc ?_ k0, keepc ?_ k1, keepc ?_ k2⟩ <;> (repeat (first | with_reducible exact Below.refl _ _ | with_reducible refine andThen ?_ hbC | with_reducible refine andThen ?_ hbT | with_reducible refine alloc1 ?_ _ | with_reducible refine Below.drew ?_ | with_reducible refine drewN1 ?_ _ | with_reducible refine setC ?_ (by omega) _)) <;> done)
      (first
        | (go_at_call 35; (with_reducible refine (CC.out _ (trans' HB0.out (by (repeat (first | with_reducible exact Below.refl _ _ | with_reducible refine andThen ?_ hbT | with_reducible refine alloc1 ?_ _ | with_reducible refine Below.drew ?_ | with_reducible refine drewN1 ?_ _ | with_reducible refine setC ?_ (by omega) _))))).mono ?_); rintro e wC ⟨rfl, hbC⟩)
        | (go_at_call 36; (with_reducible refine (CT.out _ (trans' HB0.out (by (repeat (first | with_reducible exact Below.refl _ _ | with_reducible refine andThen ?_ hbC | with_reducible refine alloc1 ?_ _ | with_reducible refine Below.drew ?_ | with_reducible refine drewN1 ?_ _ | with_reducible refine setC ?_ (by omega) _))))).mono ?_); rintro e wT ⟨rfl, hbT⟩)
        | (go_at_call 34; (with_reducible refine (CF.out _).mono ?_); rintro e w1 ⟨rfl, rfl⟩))
  · all_goals
      first
        | (obtain ⟨W5, hW5⟩ : ∃ W5, W5 = wT.alloc (.cells #[.int .i64 e1, .int .i64 e2] 29) := ⟨_, rfl⟩; rw [← hW5])
        | (obtain ⟨W5, hW5⟩ : ∃ W5, W5 = wC.alloc (.cells #[.int .i64 e1, .int .i64 e2] 29) := ⟨_, rfl⟩; rw [← hW5])
      have hb5 : Below W0.heap.size W0 W5 := by rw [hW5]; (repeat (first | with_reducible exact Below.refl _ _ | with_reducible refine andThen ?_ hbC | with_reducible refine andThen ?_ hbT | with_reducible refine alloc1 ?_ _ | with_reducible refine Below.drew ?_ | with_reducible refine drewN1 ?_ _ | with_reducible refine setC ?_ (by omega) _))
      have HB5 := Lib.hid (trans' HB0.out hb5)
      have HQ5 := Lib.hid (keepb hb5 HQ0.out)
      have hP5 := keepb hb5 HP0.out
      clear hW5 hb5 k0 k1 k2 hbC hbT
      obtain ⟨k0, k1, k2⟩ := cells3 hP5
      go_wp2_with fail
      refine (CN.out trivial _ HB5.out).mono ?_
      rintro e w6 ⟨rfl, hb⟩
      have HB6 := Lib.hid (trans' HB5.out hb)
      have hQ6 := keepb hb HQ5.out
      obtain ⟨q0, q1, q2, q3, q4, q5⟩ := cells6 hQ6
      obtain ⟨f0, f1, f2, f3, f4, f5⟩ := free6 hQ6
      clear hb
      go_wp2_with fail
      refine bodyPost_ret (v := .tuple #[.agg #[.int .i64 r0, .int .i64 r1, .int .i64 r2, .int .i64 r3, .int .i64 r4, .int .i64 r5], .int .i64 0]) (by simp [results, Try.results27, go_sem, q0, q1, q2, q3, q4, q5]) rfl ⟨rfl, ?_⟩
      exact setC (setC (setC (setC (setC (setC (HB6.out) (by omega) _) (by omega) _) (by omega) _) (by omega) _) (by omega) _) (by omega) _
  · all_goals
      first
        | (obtain ⟨W5, hW5⟩ : ∃ W5, W5 = wT.alloc (.cells #[.int .i64 e1, .int .i64 e2] 29) := ⟨_, rfl⟩; rw [← hW5])
        | (obtain ⟨W5, hW5⟩ : ∃ W5, W5 = wC.alloc (.cells #[.int .i64 e1, .int .i64 e2] 29) := ⟨_, rfl⟩; rw [← hW5])
      have hb5 : Below W0.heap.size W0 W5 := by rw [hW5]; (repeat (first | with_reducible exact Below.refl _ _ | with_reducible refine andThen ?_ hbC | with_reducible refine andThen ?_ hbT | with_reducible refine alloc1 ?_ _ | with_reducible refine Below.drew ?_ | with_reducible refine drewN1 ?_ _ | with_reducible refine setC ?_ (by omega) _))
      have HB5 := Lib.hid (trans' HB0.out hb5)
      have hQ5 := keepb hb5 HQ0.out
      obtain ⟨q0, q1, q2, q3, q4, q5⟩ := cells6 hQ5
      obtain ⟨f0, f1, f2, f3, f4, f5⟩ := free6 hQ5
      clear hW5 hb5 k0 k1 k2 hbC hbT
      go_wp2_with fail
      refine bodyPost_ret (v := .tuple #[.agg #[.int .i64 0, .int .i64 0, .int .i64 0, .int .i64 0, .int .i64 0, .int .i64 0], .int .i64 E]) (by simp [results, Try.results27, go_sem, q0, q1, q2, q3, q4, q5]) rfl ⟨rfl, ?_⟩
      exact setC (setC (setC (setC (setC (setC (HB5.out) (by omega) _) (by omega) _) (by omega) _) (by omega) _) (by omega) _) (by omega) _

end Go.Proofs.Ytmbolmmcfnfamaa.Orb
