import Derived.Test.YtmbolmmcfnfamaaRw
import Derived.Deep.RegionHeld3
import Derived.Outline
namespace Go.Proofs.Ytmbolmmcfnfamaa.Orb
open Go.RowKit Lib

theorem enters_near : ∀ args w, (callFunc 56 args).run Try.prog w = .ok (.enter 56 args) w := enters_of Try.func56 (by kernel_rfl) rfl

set_option maxRecDepth 100000 in
theorem near1_any (v : Value) (nm : ByteArray) (bend : Int) (L : List St) (hR : Rt bend L) (t : Int) (h0 : fst L ≤ t) (h1 : t ≤ lst L) (x y z : Int) (hp : placeE x y z = 0) (w : World) (hv : OV w v nm bend L) (sp : Option Addr) (cap B7 B3 : Nat) (hvf : v = .agg #[.string nm, .int .i64 bend, .slice sp L.length cap])
    (k7 : w.heap[B7]? = some (.cells #[.string nm, .int .i64 bend, .slice sp L.length cap] 73 (0, 0))) (k3 : w.heap[B3]? = some (.cells #[.int .i64 x, .int .i64 y, .int .i64 z] 43 (0, 0))) :
    Calls Try.prog 56 #[.int .i64 t, .pointer (some ⟨B7, 0, none⟩), .pointer (some ⟨B3, 0, none⟩)] w fun e w' => e = .returned (.int .i64 (nsq L t x y z)) ∧ Below w.heap.size w w' := by
  have CN := Lib.hid (nominalSquareAt_any v nm bend L hR t h0 h1 x y z hp w hv)
  subst hvf
  obtain ⟨c0, c1, c2⟩ := cells3 k7
  obtain ⟨d0, d1, d2⟩ := cells3 k3
  clear hv hR h0 h1 hp k7 k3
  generalize nsq L t x y z = R at *
  generalize L.length = n at *
  go_enter Try.func56, Try.ntmps56
  go_wp2_with fail
  refine CN.out.mono ?_
  rintro e w1 ⟨rfl, hb⟩
  have HB := Lib.hid hb
  clear hb
  go_wp2_with fail
  go_ret
  exact ⟨rfl, HB.out⟩

/-- the error of an orbit and a place -/
def opE (ne bend : Int) (L : List St) (x y z : Int) : Int := firstE [(orbE ne bend L).2, placeE x y z]
theorem opE_zero {ne bend : Int} {L : List St} {x y z : Int} (h : opE ne bend L x y z = 0) : (orbE ne bend L).2 = 0 ∧ ne = 0 ∧ Rt bend L ∧ placeE x y z = 0 := by
  unfold opE at h
  rw [firstE_zero_iff] at h
  have h1 := h _ (List.mem_cons_self ..)
  obtain ⟨h3, h4⟩ := Rt.of h1
  exact ⟨h1, h3, h4, h _ (by simp)⟩
/-- the nearest tick, and the square -/
def nearest (L : List St) (x y z : Int) : Int × Int := leastOf (fun t => nsq L t x y z) (fst L) (ticksOf (fst L) (nTicks L))

set_option maxRecDepth 100000 in
set_option maxHeartbeats 4000000 in
theorem Nearest_any (v : Value) (nm : ByteArray) (hs : nm.size ≤ 1000) (bend : Int) (L : List St) (hI : ∀ k, (gt L k).t ≤ 9223372036854775807) (x y z : Int) (w : World) (hv : OV w v nm bend L) :
    Calls Try.prog 31 #[v, .agg #[.int .i64 x, .int .i64 y, .int .i64 z]] w fun e w' => e = .returned (.tuple #[.int .i64 (zif (opE (nameE nm) bend L x y z) (nearest L x y z).1), .int .i64 (zif (opE (nameE nm) bend L x y z) (nearest L x y z).2), .int .i64 (opE (nameE nm) bend L x y z)]) ∧ Below w.heap.size w w' := by
  have CC := Lib.hid (fun W (h : Below w.heap.size w W) => check_any v nm hs bend L hI W (hv.next h))
  have CQ := Lib.hid (fun W => placeError_any x y z W)
  have CF := Lib.hid (fun W => firstError2 (orbE (nameE nm) bend L).2 (placeE x y z) W)
  obtain ⟨sp, cap, hvf, -, -, -⟩ := hv.form
  have CN := Lib.hid (fun (h0 : opE (nameE nm) bend L x y z = 0) W B7 B3 (h : Below w.heap.size w W) (k7 : W.heap[B7]? = some (.cells #[.string nm, .int .i64 bend, .slice sp L.length cap] 73 (0, 0))) (k3 : W.heap[B3]? = some (.cells #[.int .i64 x, .int .i64 y, .int .i64 z] 43 (0, 0))) =>
    least_any v nm bend L (opE_zero h0).2.2.1 56 enters_near #[.pointer (some ⟨B7, 0, none⟩), .pointer (some ⟨B3, 0, none⟩)] (fun t => nsq L t x y z) W (hv.next h)
      (fun t a1 a2 W' hb => near1_any v nm bend L (opE_zero h0).2.2.1 t a1 a2 x y z (opE_zero h0).2.2.2 W' ((hv.next h).next hb) sp cap B7 B3 hvf (keepb hb k7) (keepb hb k3)))
  have hR : firstE [(orbE (nameE nm) bend L).2, placeE x y z] = opE (nameE nm) bend L x y z := rfl
  have hN : leastOf (fun t => nsq L t x y z) (fst L) (ticksOf (fst L) (nTicks L)) = nearest L x y z := rfl
  rw [hR] at CF
  rw [hN] at CN
  subst hvf
  clear hv hR hs hI hN
  generalize opE (nameE nm) bend L x y z = E at *
  generalize (orbE (nameE nm) bend L).2 = e1 at *
  generalize placeE x y z = e2 at *
  generalize (nearest L x y z).1 = r0 at *
  generalize (nearest L x y z).2 = r1 at *
  generalize L.length = n at *
  have hw : (E = 0 ∧ Hid (∀ x, zif E x = x)) ∨ ((E != 0) = true ∧ Hid (∀ x, zif E x = 0)) := by
    by_cases h : E = 0
    · exact .inl ⟨h, fun x => if_pos h⟩
    · exact .inr ⟨by rw [bne_iff_ne]; exact h, fun x => if_neg h⟩
  rcases hw with ⟨rfl, HZ⟩ | ⟨hne, HZ⟩
  all_goals
    simp only [HZ.out]
    go_enter Try.func31, Try.ntmps31
    go_upto_region 2 with fail
    obtain ⟨W0, hW0⟩ : ∃ W0, W0 = ((w.alloc (.cells #[.string nm, .int .i64 bend, .slice sp n cap] 24)).alloc (.cells #[.int .i64 x, .int .i64 y, .int .i64 z] 43)).alloc (.cells #[.string nm, .int .i64 bend, .slice sp n cap] 73) := ⟨_, rfl⟩
    rw [← hW0]
    have HB0 := Lib.hid (show Below w.heap.size w W0 by rw [hW0]; (repeat (first | with_reducible exact Below.refl _ _ | with_reducible refine alloc1 ?_ _ | with_reducible refine Below.drew ?_ | with_reducible refine drewN1 ?_ _ | with_reducible refine setC ?_ (by omega) _)))
    have HP0 := Lib.hid (show W0.heap[w.heap.size + 1 + 1]? = some (.cells #[.string nm, .int .i64 bend, .slice sp n cap] 73 (0, 0)) by rw [hW0]; (repeat (first | ((with_reducible refine hnew ?_); (simp; done)) | with_reducible refine hdrew ?_ | with_reducible refine hold ?_)))
    have HY0 := Lib.hid (show W0.heap[w.heap.size + 1]? = some (.cells #[.int .i64 x, .int .i64 y, .int .i64 z] 43 (0, 0)) by rw [hW0]; (repeat (first | ((with_reducible refine hnew ?_); (simp; done)) | with_reducible refine hdrew ?_ | with_reducible refine hold ?_)))
    clear hW0
    obtain ⟨k0, k1, k2⟩ := cells3 HP0.out
    obtain ⟨y0, y1, y2⟩ := cells3 HY0.out
    go_region_held3 (fun W => W.cell? ⟨w.heap.size + 1 + 1, 0, none⟩ = some (.string nm) ∧ W.cell? ⟨w.heap.size + 1 + 1, 1, none⟩ = some (.int .i64 bend) ∧ W.cell? ⟨w.heap.size + 1 + 1, 2, none⟩ = some (.slice sp n cap) ∧ W.cell? ⟨w.heap.size + 1, 0, none⟩ = some (.int .i64 x) ∧ W.cell? ⟨w.heap.size + 1, 1, none⟩ = some (.int .i64 y) ∧ W.cell? ⟨w.heap.size + 1, 2, none⟩ = some (.int .i64 z)) (with_reducible refine ⟨keepc ?_ k0, keepc ?_ k1, keepc ?_ k2, keepc ?_ y0, keepc ?_ y1, keepc ?_ y2⟩ <;> (repeat (first | with_reducible exact Below.refl _ _ | with_reducible refine andThen ?_ hbC | with_reducible refine andThen ?_ hbP | with_reducible refine alloc1 ?_ _ | with_reducible refine Below.drew ?_ | with_reducible refine drewN1 ?_ _ | with_reducible refine setC ?_ (by omega) _)) <;> done)
      (first
        | (go_at_call 35; (with_reducible refine (CC.out _ (trans' HB0.out (by (repeat (first | with_reducible exact Below.refl _ _ | with_reducible refine andThen ?_ hbP | with_reducible refine alloc1 ?_ _ | with_reducible refine Below.drew ?_ | with_reducible refine drewN1 ?_ _ | with_reducible refine setC ?_ (by omega) _))))).mono ?_); rintro e wC ⟨rfl, hbC⟩)
        | (go_at_call 53; (with_reducible refine (CQ.out _).mono ?_); rintro e wP ⟨rfl, hbP⟩)
        | (go_at_call 34; (with_reducible refine (CF.out _).mono ?_); rintro e w1 ⟨rfl, rfl⟩))
    all_goals
      first
        | (obtain ⟨W5, hW5⟩ : ∃ W5, W5 = wP.alloc (.cells #[.int .i64 e1, .int .i64 e2] 29) := ⟨_, rfl⟩; rw [← hW5])
        | (obtain ⟨W5, hW5⟩ : ∃ W5, W5 = wC.alloc (.cells #[.int .i64 e1, .int .i64 e2] 29) := ⟨_, rfl⟩; rw [← hW5])
      have hb5 : Below W0.heap.size W0 W5 := by rw [hW5]; (repeat (first | with_reducible exact Below.refl _ _ | with_reducible refine andThen ?_ hbC | with_reducible refine andThen ?_ hbP | with_reducible refine alloc1 ?_ _ | with_reducible refine Below.drew ?_ | with_reducible refine drewN1 ?_ _ | with_reducible refine setC ?_ (by omega) _))
      have HB5 := Lib.hid (trans' HB0.out hb5)
      have HP5 := Lib.hid (keepb hb5 HP0.out)
      have HY5 := Lib.hid (keepb hb5 HY0.out)
      clear hW5 hb5 k0 k1 k2 y0 y1 y2 hbC hbP
  · all_goals
      obtain ⟨k0, k1, k2⟩ := cells3 HP5.out
      go_wp2_with fail
      refine (CN.out trivial W5 _ _ HB5.out HP5.out HY5.out).mono ?_
      rintro e w6 ⟨rfl, hb⟩
      have HB6 := Lib.hid (trans' HB5.out hb)
      clear hb
      go_wp2_with fail
      go_ret3
      exact ⟨rfl, HB6.out⟩
  · all_goals
      go_wp2_with fail
      go_ret3
      exact ⟨rfl, HB5.out⟩
end Go.Proofs.Ytmbolmmcfnfamaa.Orb
