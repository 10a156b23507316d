import Derived.Test.YtmbolmmcfnfamaaRo
import Derived.Deep.RegionHeld3
namespace Go.Proofs.Ytmbolmmcfnfamaa.Orb
open Go.RowKit Lib

/-- the error of an orbit, a tick, and a place -/
def plE (ne bend : Int) (L : List St) (t x y z : Int) : Int := firstE [(orbE ne bend L).2, tickE L t, placeE x y z]
theorem plE_zero {ne bend : Int} {L : List St} {t x y z : Int} (h : plE ne bend L t x y z = 0) : (orbE ne bend L).2 = 0 ∧ ne = 0 ∧ Rt bend L ∧ fst L ≤ t ∧ t ≤ lst L ∧ placeE x y z = 0 := by
  unfold plE at h
  rw [firstE_zero_iff] at h
  have h1 := h _ (List.mem_cons_self ..)
  have h2 := h (tickE L t) (by simp)
  have h3 := h (placeE x y z) (by simp)
  have h4 : tkE ne bend L t = 0 := by
    unfold tkE
    rw [firstE_zero_iff]
    intro e he
    simp at he
    rcases he with rfl | rfl
    · exact h1
    · exact h2
  obtain ⟨a, b, c, d, e⟩ := tkE_zero h4
  exact ⟨a, b, c, d, e, h3⟩

set_option maxRecDepth 100000 in
set_option maxHeartbeats 4000000 in
theorem SquareAt_any (v : Value) (nm : ByteArray) (hs : nm.size ≤ 1000) (bend : Int) (L : List St) (hn : L.length ≤ 1000) (hI : ∀ k, (gt L k).t ≤ 9223372036854775807) (t x y z : Int) (w : World) (hv : OV w v nm bend L) :
    Calls Try.prog 29 #[v, .int .i64 t, .agg #[.int .i64 x, .int .i64 y, .int .i64 z]] w fun e w' => e = .returned (.tuple #[.agg #[.int .i64 (zif (plE (nameE nm) bend L t x y z) (sqLo (loC bend L t) (hiC bend L t) (cc3 x y z) 3)), .int .i64 (zif (plE (nameE nm) bend L t x y z) (sqHi (loC bend L t) (hiC bend L t) (cc3 x y z) 3))], .int .i64 (plE (nameE nm) bend L t x y z)]) ∧ Below w.heap.size w w' := by
  have CC := Lib.hid (fun W (h : Below w.heap.size w W) => check_any v nm hs bend L hI W (hv.next h))
  have CT := Lib.hid (fun W (h : Below w.heap.size w W) => tickError_any v nm bend L hn t W (hv.next h))
  have CF := Lib.hid (fun W => firstError3 (orbE (nameE nm) bend L).2 (tickE L t) (placeE x y z) W)
  have CQ := Lib.hid (fun W => placeError_any x y z W)
  have CN := Lib.hid (fun (h0 : plE (nameE nm) bend L t x y z = 0) W (h : Below w.heap.size w W) => squareAt_any v nm bend L (plE_zero h0).2.2.1 t (plE_zero h0).2.2.2.1 (plE_zero h0).2.2.2.2.1 x y z (plE_zero h0).2.2.2.2.2 W (hv.next h))
  obtain ⟨sp, cap, rfl, -, -, -⟩ := hv.form
  have hR : firstE [(orbE (nameE nm) bend L).2, tickE L t, placeE x y z] = plE (nameE nm) bend L t x y z := rfl
  rw [hR] at CF
  clear hv hR hs hn hI
  generalize plE (nameE nm) bend L t x y z = E at *
  generalize (orbE (nameE nm) bend L).2 = e1 at *
  generalize tickE L t = e2 at *
  generalize placeE x y z = e3 at *
  generalize sqLo (loC bend L t) (hiC bend L t) (cc3 x y z) 3 = r0 at *
  generalize sqHi (loC bend L t) (hiC bend L t) (cc3 x y z) 3 = r1 at *
  generalize L.length = n at *
  have hw : (E = 0 ∧ Hid (∀ x, zif E x = x)) ∨ ((E != 0) = true ∧ Hid (∀ x, zif E x = 0)) := by
    by_cases h : E = 0
    · exact .inl ⟨h, fun x => if_pos h⟩
    · exact .inr ⟨by rw [bne_iff_ne]; exact h, fun x => if_neg h⟩
  rcases hw with ⟨rfl, HZ⟩ | ⟨hne, HZ⟩
  all_goals
    simp only [HZ.out]
    go_enter Try.func29, Try.ntmps29
    go_upto_region 2 with fail
    obtain ⟨W0, hW0⟩ : ∃ W0, W0 = (((w.alloc (.cells #[.string nm, .int .i64 bend, .slice sp n cap] 24)).alloc (.cells #[.int .i64 x, .int .i64 y, .int .i64 z] 43)).alloc (.cells #[.int .i64 0, .int .i64 0] 54)).alloc (.cells #[.string nm, .int .i64 bend, .slice sp n cap] 73) := ⟨_, rfl⟩
    rw [← hW0]
    have HB0 := Lib.hid (show Below w.heap.size w W0 by rw [hW0]; (repeat (first | with_reducible exact Below.refl _ _ | with_reducible refine alloc1 ?_ _ | with_reducible refine Below.drew ?_ | with_reducible refine drewN1 ?_ _ | with_reducible refine setC ?_ (by omega) _)))
    have HP0 := Lib.hid (show W0.heap[w.heap.size + 1 + 1 + 1]? = some (.cells #[.string nm, .int .i64 bend, .slice sp n cap] 73 (0, 0)) by rw [hW0]; (repeat (first | ((with_reducible refine hnew ?_); (simp; done)) | with_reducible refine hdrew ?_ | with_reducible refine hold ?_)))
    have HQ0 := Lib.hid (show W0.heap[w.heap.size + 1 + 1]? = some (.cells #[.int .i64 0, .int .i64 0] 54 (0, 0)) by rw [hW0]; (repeat (first | ((with_reducible refine hnew ?_); (simp; done)) | with_reducible refine hdrew ?_ | with_reducible refine hold ?_)))
    have HY0 := Lib.hid (show W0.heap[w.heap.size + 1]? = some (.cells #[.int .i64 x, .int .i64 y, .int .i64 z] 43 (0, 0)) by rw [hW0]; (repeat (first | ((with_reducible refine hnew ?_); (simp; done)) | with_reducible refine hdrew ?_ | with_reducible refine hold ?_)))
    clear hW0
    obtain ⟨k0, k1, k2⟩ := cells3 HP0.out
    obtain ⟨y0, y1, y2⟩ := cells3 HY0.out
    go_region_held3 (fun W => W.cell? ⟨w.heap.size + 1 + 1 + 1, 0, none⟩ = some (.string nm) ∧ W.cell? ⟨w.heap.size + 1 + 1 + 1, 1, none⟩ = some (.int .i64 bend) ∧ W.cell? ⟨w.heap.size + 1 + 1 + 1, 2, none⟩ = some (.slice sp n cap) ∧ W.cell? ⟨w.heap.size + 1, 0, none⟩ = some (.int .i64 x) ∧ W.cell? ⟨w.heap.size + 1, 1, none⟩ = some (.int .i64 y) ∧ W.cell? ⟨w.heap.size + 1, 2, none⟩ = some (.int .i64 z)) (with_reducible refine ⟨keepc ?_ k0, keepc ?_ k1, keepc ?_ k2, keepc ?_ y0, keepc ?_ y1, keepc ?_ y2⟩ <;> (repeat (first | with_reducible exact Below.refl _ _ | with_reducible refine andThen ?_ hbC | with_reducible refine andThen ?_ hbT | with_reducible refine andThen ?_ hbP | with_reducible refine alloc1 ?_ _ | with_reducible refine Below.drew ?_ | with_reducible refine drewN1 ?_ _ | with_reducible refine setC ?_ (by omega) _)) <;> done)
      (first
        | (go_at_call 35; (with_reducible refine (CC.out _ (trans' HB0.out (by (repeat (first | with_reducible exact Below.refl _ _ | with_reducible refine andThen ?_ hbC | with_reducible refine andThen ?_ hbT | with_reducible refine andThen ?_ hbP | with_reducible refine alloc1 ?_ _ | with_reducible refine Below.drew ?_ | with_reducible refine drewN1 ?_ _ | with_reducible refine setC ?_ (by omega) _))))).mono ?_); rintro e wC ⟨rfl, hbC⟩)
        | (go_at_call 36; (with_reducible refine (CT.out _ (trans' HB0.out (by (repeat (first | with_reducible exact Below.refl _ _ | with_reducible refine andThen ?_ hbC | with_reducible refine andThen ?_ hbT | with_reducible refine andThen ?_ hbP | with_reducible refine alloc1 ?_ _ | with_reducible refine Below.drew ?_ | with_reducible refine drewN1 ?_ _ | with_reducible refine setC ?_ (by omega) _))))).mono ?_); rintro e wT ⟨rfl, hbT⟩)
        | (go_at_call 53; (with_reducible refine (CQ.out _).mono ?_); rintro e wP ⟨rfl, hbP⟩)
        | (go_at_call 34; (with_reducible refine (CF.out _).mono ?_); rintro e w1 ⟨rfl, rfl⟩))
  · all_goals
      first
        | (obtain ⟨W5, hW5⟩ : ∃ W5, W5 = wP.alloc (.cells #[.int .i64 e1, .int .i64 e2, .int .i64 e3] 29) := ⟨_, rfl⟩; rw [← hW5])
        | (obtain ⟨W5, hW5⟩ : ∃ W5, W5 = wT.alloc (.cells #[.int .i64 e1, .int .i64 e2, .int .i64 e3] 29) := ⟨_, rfl⟩; rw [← hW5])
        | (obtain ⟨W5, hW5⟩ : ∃ W5, W5 = wC.alloc (.cells #[.int .i64 e1, .int .i64 e2, .int .i64 e3] 29) := ⟨_, rfl⟩; rw [← hW5])
      have hb5 : Below W0.heap.size W0 W5 := by rw [hW5]; (repeat (first | with_reducible exact Below.refl _ _ | with_reducible refine andThen ?_ hbC | with_reducible refine andThen ?_ hbT | with_reducible refine andThen ?_ hbP | with_reducible refine alloc1 ?_ _ | with_reducible refine Below.drew ?_ | with_reducible refine drewN1 ?_ _ | with_reducible refine setC ?_ (by omega) _))
      have HB5 := Lib.hid (trans' HB0.out hb5)
      have HQ5 := Lib.hid (keepb hb5 HQ0.out)
      have hP5 := keepb hb5 HP0.out
      have hY5 := keepb hb5 HY0.out
      clear hW5 hb5 k0 k1 k2 y0 y1 y2 hbC hbT
      obtain ⟨k0, k1, k2⟩ := cells3 hP5
      obtain ⟨y0, y1, y2⟩ := cells3 hY5
      go_wp2_with fail
      refine (CN.out trivial _ HB5.out).mono ?_
      rintro e w6 ⟨rfl, hb⟩
      have HB6 := Lib.hid (trans' HB5.out hb)
      have hQ6 := keepb hb HQ5.out
      obtain ⟨q0, q1, f0, f1⟩ := two_cells hQ6
      clear hb
      go_wp2_with fail
      refine bodyPost_ret (v := .tuple #[.agg #[.int .i64 r0, .int .i64 r1], .int .i64 0]) (by simp [results, Try.results29, go_sem, q0, q1]) rfl ⟨rfl, ?_⟩
      exact setC (setC (HB6.out) (by omega) _) (by omega) _
  · all_goals
      first
        | (obtain ⟨W5, hW5⟩ : ∃ W5, W5 = wP.alloc (.cells #[.int .i64 e1, .int .i64 e2, .int .i64 e3] 29) := ⟨_, rfl⟩; rw [← hW5])
        | (obtain ⟨W5, hW5⟩ : ∃ W5, W5 = wT.alloc (.cells #[.int .i64 e1, .int .i64 e2, .int .i64 e3] 29) := ⟨_, rfl⟩; rw [← hW5])
        | (obtain ⟨W5, hW5⟩ : ∃ W5, W5 = wC.alloc (.cells #[.int .i64 e1, .int .i64 e2, .int .i64 e3] 29) := ⟨_, rfl⟩; rw [← hW5])
      have hb5 : Below W0.heap.size W0 W5 := by rw [hW5]; (repeat (first | with_reducible exact Below.refl _ _ | with_reducible refine andThen ?_ hbC | with_reducible refine andThen ?_ hbT | with_reducible refine andThen ?_ hbP | with_reducible refine alloc1 ?_ _ | with_reducible refine Below.drew ?_ | with_reducible refine drewN1 ?_ _ | with_reducible refine setC ?_ (by omega) _))
      have HB5 := Lib.hid (trans' HB0.out hb5)
      have hQ5 := keepb hb5 HQ0.out
      obtain ⟨q0, q1, f0, f1⟩ := two_cells hQ5
      clear hW5 hb5 k0 k1 k2 y0 y1 y2 hbC hbT
      go_wp2_with fail
      refine bodyPost_ret (v := .tuple #[.agg #[.int .i64 0, .int .i64 0], .int .i64 E]) (by simp [results, Try.results29, go_sem, q0, q1]) rfl ⟨rfl, ?_⟩
      exact setC (setC (HB5.out) (by omega) _) (by omega) _

end Go.Proofs.Ytmbolmmcfnfamaa.Orb
