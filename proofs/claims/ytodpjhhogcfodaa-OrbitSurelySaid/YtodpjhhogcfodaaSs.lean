import Derived.Test.YtodpjhhogcfodaaSr
import Derived.Deep.RegionHeld3
import Derived.Deep.CutRange
import Derived.IntWalk
import Derived.Outline
namespace Go.Proofs.Ytodpjhhogcfodaa.Orb
open Go.RowKit Lib

set_option maxRecDepth 100000 in
theorem less_exact (x y z x' y' z' : Int) (h1 : -1000000000 ≤ x ∧ x ≤ 1000000000) (h2 : -1000000000 ≤ y ∧ y ≤ 1000000000) (h3 : -1000000000 ≤ z ∧ z ≤ 1000000000) (h4 : -1000000000 ≤ x' ∧ x' ≤ 1000000000) (h5 : -1000000000 ≤ y' ∧ y' ≤ 1000000000) (h6 : -1000000000 ≤ z' ∧ z' ≤ 1000000000) (w : World) :
    Calls Try.prog 106 #[.agg #[.int .i64 x, .int .i64 y, .int .i64 z], .agg #[.int .i64 x', .int .i64 y', .int .i64 z']] w fun e w' => e = .returned (.agg #[.int .i64 (x - x'), .int .i64 (y - y'), .int .i64 (z - z')]) ∧
      ((w.alloc (.cells #[.int .i64 x, .int .i64 y, .int .i64 z] 26)).alloc (.cells #[.int .i64 x', .int .i64 y', .int .i64 z'] 26)).alloc (.cells #[.int .i64 (x - x'), .int .i64 (y - y'), .int .i64 (z - z')] 26) = w' := by
  go_enter Try.func106, Try.ntmps106
  go_wp2_with fail
  exact bodyPost_ret (v := .agg #[.int .i64 (x - x'), .int .i64 (y - y'), .int .i64 (z - z')]) (by simp [results, Try.results106, go_sem]) rfl ⟨rfl, rfl⟩

/-- the cells of the states k and k + 1 -/
theorem Sts.two {W : World} {b o k : Nat} {L : List St} (h : Sts W b o L) (hk : k + 1 < L.length) :
    (W.cell? ⟨b, o + k * 5 + 1, none⟩ = some (.int .i64 (gt L k).x) ∧ W.cell? ⟨b, o + k * 5 + 2, none⟩ = some (.int .i64 (gt L k).y) ∧ W.cell? ⟨b, o + k * 5 + 3, none⟩ = some (.int .i64 (gt L k).z)) ∧
    (W.cell? ⟨b, o + (k + 1) * 5 + 1, none⟩ = some (.int .i64 (gt L (k + 1)).x) ∧ W.cell? ⟨b, o + (k + 1) * 5 + 2, none⟩ = some (.int .i64 (gt L (k + 1)).y) ∧ W.cell? ⟨b, o + (k + 1) * 5 + 3, none⟩ = some (.int .i64 (gt L (k + 1)).z)) := by
  obtain ⟨-, a, b1, c, -⟩ := h k (by omega)
  obtain ⟨-, d, e, f, -⟩ := h (k + 1) hk
  exact ⟨⟨a, b1, c⟩, ⟨d, e, f⟩⟩

set_option maxRecDepth 100000 in
set_option maxHeartbeats 4000000 in
theorem wayOf_exact (b o : Nat) (nm : ByteArray) (bend : Int) (cap n : Nat) (k : Nat) (hk : k + 1 < n) (hn : n ≤ 1000) (x y z x' y' z' : Int)
    (h1 : -1000000000 ≤ x ∧ x ≤ 1000000000) (h2 : -1000000000 ≤ y ∧ y ≤ 1000000000) (h3 : -1000000000 ≤ z ∧ z ≤ 1000000000) (h4 : -1000000000 ≤ x' ∧ x' ≤ 1000000000) (h5 : -1000000000 ≤ y' ∧ y' ≤ 1000000000) (h6 : -1000000000 ≤ z' ∧ z' ≤ 1000000000) (w : World)
    (a1 : w.cell? ⟨b, o + k * 5 + 1, none⟩ = some (.int .i64 x)) (a2 : w.cell? ⟨b, o + k * 5 + 2, none⟩ = some (.int .i64 y)) (a3 : w.cell? ⟨b, o + k * 5 + 3, none⟩ = some (.int .i64 z))
    (c1 : w.cell? ⟨b, o + (k + 1) * 5 + 1, none⟩ = some (.int .i64 x')) (c2 : w.cell? ⟨b, o + (k + 1) * 5 + 2, none⟩ = some (.int .i64 y')) (c3 : w.cell? ⟨b, o + (k + 1) * 5 + 3, none⟩ = some (.int .i64 z')) :
    Calls Try.prog 95 #[.agg #[.string nm, .int .i64 bend, .slice (some ⟨b, o, none⟩) n cap], .int .i64 k] w fun e w' => e = .returned (.agg #[.int .i64 (x' - x), .int .i64 (y' - y), .int .i64 (z' - z)]) ∧
      (((((w.alloc (.cells #[.string nm, .int .i64 bend, .slice (some ⟨b, o, none⟩) n cap] 115)).alloc (.cells #[.int .i64 (x' - x), .int .i64 (y' - y), .int .i64 (z' - z)] 26)).alloc (.cells #[.int .i64 x', .int .i64 y', .int .i64 z'] 26)).alloc (.cells #[.int .i64 x, .int .i64 y, .int .i64 z] 26)).alloc (.cells #[.int .i64 (x' - x), .int .i64 (y' - y), .int .i64 (z' - z)] 26)).drew = w' := by
  have C := Lib.hid (fun W => less_exact x' y' z' x y z h4 h5 h6 h1 h2 h3 W)
  have i2 : IntKind.i64.wrap ((k : Int) + 1) = (k : Int) + 1 := IntWalk.i64_in _ (by omega)
  have i0 : (0 : Int) ≤ (k : Int) := by omega
  have i1 : (k : Int) < (n : Int) := by omega
  have i3 : ((k : Int) + 1).toNat = k + 1 := by omega
  have i4 : (0 : Int) ≤ (k : Int) + 1 := by omega
  have i5 : (k : Int) + 1 < (n : Int) := by omega
  clear h1 h2 h3 h4 h5 h6
  go_enter Try.func95, Try.ntmps95
  go_upto_region 1 with fail
  obtain ⟨W0, hW0⟩ : ∃ W0, W0 = (w.alloc (.cells #[.string nm, .int .i64 bend, .slice (some ⟨b, o, none⟩) n cap] 115)).alloc (.cells #[.int .i64 0, .int .i64 0, .int .i64 0] 26) := ⟨_, rfl⟩
  rw [← hW0]
  have HW0 := Lib.hid hW0
  obtain ⟨wP, hwP⟩ : ∃ wP, wP = w.alloc (.cells #[.string nm, .int .i64 bend, .slice (some ⟨b, o, none⟩) n cap] 115) := ⟨_, rfl⟩
  have hzP : wP.heap.size = w.heap.size + 1 := by rw [hwP]; simp
  have hbP : Below w.heap.size w wP := by rw [hwP]; exact new_below _ _
  have hP0 : Below wP.heap.size wP W0 := by rw [hW0, ← hwP]; exact new_below _ _
  have HPP : wP.heap[w.heap.size]? = some (.cells #[.string nm, .int .i64 bend, .slice (some ⟨b, o, none⟩) n cap] 115 (0, 0)) := by rw [hwP]; exact heap_alloc_new _ _
  have HZ0 := Lib.hid (show W0.heap[w.heap.size + 1]? = some (.cells #[.int .i64 0, .int .i64 0, .int .i64 0] 26 (0, 0)) by rw [hW0]; (repeat (first | ((with_reducible refine hnew ?_); (simp; done)) | with_reducible refine hdrew ?_ | with_reducible refine hold ?_)))
  obtain ⟨-, -, k2⟩ := cells3 HPP
  have a1 := keepc hbP a1
  have a2 := keepc hbP a2
  have a3 := keepc hbP a3
  have c1 := keepc hbP c1
  have c2 := keepc hbP c2
  have c3 := keepc hbP c3
  have K0 := Lib.hid (keepc hP0 k2)
  have A1 := Lib.hid (keepc hP0 a1)
  have A2 := Lib.hid (keepc hP0 a2)
  have A3 := Lib.hid (keepc hP0 a3)
  have C1 := Lib.hid (keepc hP0 c1)
  have C2 := Lib.hid (keepc hP0 c2)
  have C3 := Lib.hid (keepc hP0 c3)
  clear hW0 hbP HPP hwP
  go_region_held3 (fun W => W.cell? ⟨w.heap.size, 2, none⟩ = some (.slice (some ⟨b, o, none⟩) n cap) ∧ W.cell? ⟨b, o + k * 5 + 1, none⟩ = some (.int .i64 x) ∧ W.cell? ⟨b, o + k * 5 + 2, none⟩ = some (.int .i64 y) ∧ W.cell? ⟨b, o + k * 5 + 3, none⟩ = some (.int .i64 z) ∧ W.cell? ⟨b, o + (k + 1) * 5 + 1, none⟩ = some (.int .i64 x') ∧ W.cell? ⟨b, o + (k + 1) * 5 + 2, none⟩ = some (.int .i64 y') ∧ W.cell? ⟨b, o + (k + 1) * 5 + 3, none⟩ = some (.int .i64 z')) (with_reducible refine ⟨keepc ?_ k2, keepc ?_ a1, keepc ?_ a2, keepc ?_ a3, keepc ?_ c1, keepc ?_ c2, keepc ?_ c3⟩ <;> (repeat (first | with_reducible exact hP0 | with_reducible refine andThen ?_ hb1 | with_reducible refine alloc1 ?_ _ | with_reducible refine Below.drew ?_ | with_reducible refine drewN1 ?_ _ | with_reducible refine setC ?_ (by omega) _)) <;> done)
    (first | (go_at_call 106; (with_reducible refine (C.out _).mono ?_); rintro e w1 ⟨rfl, hw1⟩; have hb1 : Below W0.drew.heap.size W0.drew w1 := (by rw [← hw1]; (repeat (first | with_reducible exact Below.refl _ _ | with_reducible refine alloc1 ?_ _ | with_reducible refine Below.drew ?_ | with_reducible refine drewN1 ?_ _ | with_reducible refine setC ?_ (by omega) _))); have HW1 := Lib.hid hw1; clear hw1; obtain ⟨z0, z1, z2⟩ := cells3 (keepb (show Below W0.heap.size W0 w1 by (repeat (first | with_reducible exact Below.refl _ _ | with_reducible refine andThen ?_ hb1 | with_reducible refine alloc1 ?_ _ | with_reducible refine Below.drew ?_ | with_reducible refine drewN1 ?_ _ | with_reducible refine setC ?_ (by omega) _))) HZ0.out); obtain ⟨f0, f1, f2⟩ := free3 (keepb (show Below W0.heap.size W0 w1 by (repeat (first | with_reducible exact Below.refl _ _ | with_reducible refine andThen ?_ hb1 | with_reducible refine alloc1 ?_ _ | with_reducible refine Below.drew ?_ | with_reducible refine drewN1 ?_ _ | with_reducible refine setC ?_ (by omega) _))) HZ0.out)))
  all_goals
    go_wp2_with fail
    refine bodyPost_ret (v := .agg #[.int .i64 (x' - x), .int .i64 (y' - y), .int .i64 (z' - z)]) (by simp [results, Try.results95, go_sem, z0, z1, z2]) rfl ⟨rfl, ?_⟩
    rw [← HW1.out, HW0.out]
    simp [go_sem]

/-- on which side of an arc -/
def turnI (A B : St) (x y : Int) : Int := (B.x - A.x) * (y - A.y) - (B.y - A.y) * (x - A.x)
def sideI (t : Int) : Int := if 0 < t then 1 else if t < 0 then 2 else 0
/-- the error of an orbit, an arc, and a place -/
def sdE (ne bend : Int) (L : List St) (arc x y z : Int) : Int := firstE [(orbE ne bend L).2, arcE L.length arc, placeE x y z]
theorem sdE_zero {ne bend : Int} {L : List St} {arc x y z : Int} (h : sdE ne bend L arc x y z = 0) : ne = 0 ∧ Rt bend L ∧ 0 ≤ arc ∧ arc < (L.length : Int) - 1 ∧ placeE x y z = 0 := by
  unfold sdE at h
  rw [firstE_zero_iff] at h
  obtain ⟨h3, h4⟩ := Rt.of (h _ (List.mem_cons_self ..))
  have h2 := h (arcE L.length arc) (by simp)
  unfold arcE at h2
  refine ⟨h3, h4, ?_, ?_, h _ (by simp)⟩ <;> by_cases h5 : 0 ≤ arc ∧ arc + 1 < (L.length : Int)
  · exact h5.1
  · rw [if_neg h5] at h2; cases h2
  · have := h5.2; omega
  · rw [if_neg h5] at h2; cases h2

set_option maxRecDepth 100000 in
set_option maxHeartbeats 8000000 in
theorem SideOf_any (v : Value) (nm : ByteArray) (hs : nm.size ≤ 1000) (bend : Int) (L : List St) (hn : L.length ≤ 1000) (hI : ∀ k, (gt L k).t ≤ 9223372036854775807) (arc x y z : Int) (w : World) (hv : OV w v nm bend L) :
    Calls Try.prog 61 #[v, .int .i64 arc, .agg #[.int .i64 x, .int .i64 y, .int .i64 z]] w fun e w' => e = .returned (.tuple #[.int .i64 (zif (sdE (nameE nm) bend L arc x y z) (sideI (turnI (gt L arc.toNat) (gt L (arc.toNat + 1)) x y))), .int .i64 (sdE (nameE nm) bend L arc x y z)]) ∧ Below w.heap.size w w' := by
  have CC := Lib.hid (fun W (h : Below w.heap.size w W) => check_any v nm hs bend L hI W (hv.next h))
  have CT := Lib.hid (fun W (h : Below w.heap.size w W) => arcError_any v nm bend L hn arc W (hv.next h))
  have CF := Lib.hid (fun W => firstError3 (orbE (nameE nm) bend L).2 (arcE L.length arc) (placeE x y z) W)
  have CQ := Lib.hid (fun W => placeError_any x y z W)
  obtain ⟨sp, cap, rfl, -, -, hS⟩ := hv.form
  have HOK := Lib.hid (show sdE (nameE nm) bend L arc x y z = 0 → ∃ (k b o : Nat), arc = k ∧ k + 1 < L.length ∧ sp = some ⟨b, o, none⟩ ∧ Sts w b o L ∧ StOk (gt L k) ∧ StOk (gt L (k + 1)) ∧ placeE x y z = 0 by
    intro h0
    obtain ⟨-, hR, a0, a1, hp⟩ := sdE_zero h0
    obtain ⟨b, o, e, hT⟩ := hS (by have := hR.n0; omega)
    exact ⟨arc.toNat, b, o, by omega, by omega, e, hT, hR.st _ (by omega), hR.st _ (by omega), hp⟩)
  have hR : firstE [(orbE (nameE nm) bend L).2, arcE L.length arc, placeE x y z] = sdE (nameE nm) bend L arc x y z := rfl
  rw [hR] at CF
  have HN := Lib.hid hn
  clear hv hR hs hn hI hS
  generalize sdE (nameE nm) bend L arc x y z = E at *
  generalize hr : sideI (turnI (gt L arc.toNat) (gt L (arc.toNat + 1)) x y) = r at *
  have HRV := Lib.hid hr
  clear hr
  generalize (orbE (nameE nm) bend L).2 = e1 at *
  generalize arcE L.length arc = e2 at *
  generalize hpl : placeE x y z = e3 at *
  have HPL := Lib.hid hpl
  clear hpl
  obtain ⟨n, hnn⟩ : ∃ n, n = L.length := ⟨_, rfl⟩
  rw [← hnn] at CC CT ⊢
  have HNN := Lib.hid hnn
  clear hnn
  have hw : (E = 0 ∧ Hid (∀ x, zif E x = x)) ∨ ((E != 0) = true ∧ Hid (∀ x, zif E x = 0)) := by
    by_cases h : E = 0
    · exact .inl ⟨h, fun x => if_pos h⟩
    · exact .inr ⟨by rw [bne_iff_ne]; exact h, fun x => if_neg h⟩
  rcases hw with ⟨rfl, HZ⟩ | ⟨hne, HZ⟩
  all_goals
    simp only [HZ.out]
    go_enter Try.func61, Try.ntmps61
    go_upto_region 2 with fail
    obtain ⟨W0, hW0⟩ : ∃ W0, W0 = ((w.alloc (.cells #[.string nm, .int .i64 bend, .slice sp n cap] 24)).alloc (.cells #[.int .i64 x, .int .i64 y, .int .i64 z] 26)).alloc (.cells #[.string nm, .int .i64 bend, .slice sp n cap] 115) := ⟨_, rfl⟩
    rw [← hW0]
    have HB0 := Lib.hid (show Below w.heap.size w W0 by rw [hW0]; (repeat (first | with_reducible exact Below.refl _ _ | with_reducible refine alloc1 ?_ _ | with_reducible refine Below.drew ?_ | with_reducible refine drewN1 ?_ _ | with_reducible refine setC ?_ (by omega) _)))
    have HP0 := Lib.hid (show W0.heap[w.heap.size + 1 + 1]? = some (.cells #[.string nm, .int .i64 bend, .slice sp n cap] 115 (0, 0)) by rw [hW0]; (repeat (first | ((with_reducible refine hnew ?_); (simp; done)) | with_reducible refine hdrew ?_ | with_reducible refine hold ?_)))
    have HY0 := Lib.hid (show W0.heap[w.heap.size + 1]? = some (.cells #[.int .i64 x, .int .i64 y, .int .i64 z] 26 (0, 0)) by rw [hW0]; (repeat (first | ((with_reducible refine hnew ?_); (simp; done)) | with_reducible refine hdrew ?_ | with_reducible refine hold ?_)))
    clear hW0
    obtain ⟨k0, k1, k2⟩ := cells3 HP0.out
    obtain ⟨y0, y1, y2⟩ := cells3 HY0.out
    go_region_held3 (fun W => W.cell? ⟨w.heap.size + 1 + 1, 0, none⟩ = some (.string nm) ∧ W.cell? ⟨w.heap.size + 1 + 1, 1, none⟩ = some (.int .i64 bend) ∧ W.cell? ⟨w.heap.size + 1 + 1, 2, none⟩ = some (.slice sp n cap) ∧ W.cell? ⟨w.heap.size + 1, 0, none⟩ = some (.int .i64 x) ∧ W.cell? ⟨w.heap.size + 1, 1, none⟩ = some (.int .i64 y) ∧ W.cell? ⟨w.heap.size + 1, 2, none⟩ = some (.int .i64 z)) (with_reducible refine ⟨keepc ?_ k0, keepc ?_ k1, keepc ?_ k2, keepc ?_ y0, keepc ?_ y1, keepc ?_ y2⟩ <;> (repeat (first | with_reducible exact Below.refl _ _ | with_reducible refine andThen ?_ hbC | with_reducible refine andThen ?_ hbT | with_reducible refine andThen ?_ hbP | with_reducible refine alloc1 ?_ _ | with_reducible refine Below.drew ?_ | with_reducible refine drewN1 ?_ _ | with_reducible refine setC ?_ (by omega) _)) <;> done)
      (first
        | (go_at_call 67; (with_reducible refine (CC.out _ (trans' HB0.out (by (repeat (first | with_reducible exact Below.refl _ _ | with_reducible refine andThen ?_ hbC | with_reducible refine andThen ?_ hbT | with_reducible refine andThen ?_ hbP | with_reducible refine alloc1 ?_ _ | with_reducible refine Below.drew ?_ | with_reducible refine drewN1 ?_ _ | with_reducible refine setC ?_ (by omega) _))))).mono ?_); rintro e wC ⟨rfl, hbC⟩)
        | (go_at_call 93; (with_reducible refine (CT.out _ (trans' HB0.out (by (repeat (first | with_reducible exact Below.refl _ _ | with_reducible refine andThen ?_ hbC | with_reducible refine andThen ?_ hbT | with_reducible refine andThen ?_ hbP | with_reducible refine alloc1 ?_ _ | with_reducible refine Below.drew ?_ | with_reducible refine drewN1 ?_ _ | with_reducible refine setC ?_ (by omega) _))))).mono ?_); rintro e wT ⟨rfl, hbT⟩)
        | (go_at_call 68; (with_reducible refine (CQ.out _).mono ?_); rintro e wP ⟨rfl, hbP⟩)
        | (go_at_call 66; (with_reducible refine (CF.out _).mono ?_); rintro e w1 ⟨rfl, rfl⟩))
  · all_goals
      first
        | (obtain ⟨W5, hW5⟩ : ∃ W5, W5 = wP.alloc (.cells #[.int .i64 e1, .int .i64 e2, .int .i64 e3] 30) := ⟨_, rfl⟩; rw [← hW5])
        | (obtain ⟨W5, hW5⟩ : ∃ W5, W5 = wT.alloc (.cells #[.int .i64 e1, .int .i64 e2, .int .i64 e3] 30) := ⟨_, rfl⟩; rw [← hW5])
        | (obtain ⟨W5, hW5⟩ : ∃ W5, W5 = wC.alloc (.cells #[.int .i64 e1, .int .i64 e2, .int .i64 e3] 30) := ⟨_, rfl⟩; rw [← hW5])
      have hb5 : Below W0.heap.size W0 W5 := by rw [hW5]; (repeat (first | with_reducible exact Below.refl _ _ | with_reducible refine andThen ?_ hbC | with_reducible refine andThen ?_ hbT | with_reducible refine andThen ?_ hbP | with_reducible refine alloc1 ?_ _ | with_reducible refine Below.drew ?_ | with_reducible refine drewN1 ?_ _ | with_reducible refine setC ?_ (by omega) _))
      have HB5 := Lib.hid (trans' HB0.out hb5)
      have hP5 := keepb hb5 HP0.out
      have hY5 := keepb hb5 HY0.out
      clear hW5 hb5 k0 k1 k2 y0 y1 y2 hbC hbT
      obtain ⟨k, b, o, ha, hk, he, hT, hA, hB, hp⟩ := HOK.out (by first | rfl | trivial)
      obtain ⟨⟨p0, p1⟩, ⟨p2, p3⟩, p4, p5⟩ := (placeE_zero x y z).1 (HPL.out.trans hp)
      subst ha
      subst he
      have hn := HN.out
      have hn2 := HNN.out
      have TT := hT.two hk
      have hrv := HRV.out
      simp only [Int.toNat_natCast] at hrv
      unfold turnI at hrv
      rw [← hn2] at hk hn
      clear hT hp HOK HNN HN HPL hn2 HRV
      generalize gt L k = A at *
      generalize gt L (k + 1) = B at *
      obtain ⟨At, Ax, Ay, Az, Ae⟩ := A
      obtain ⟨Bt, Bx, By, Bz, Be⟩ := B
      obtain ⟨-, -, A0, A1, A2, A3, A4, A5, -, -⟩ := hA
      obtain ⟨-, -, B0, B1, B2, B3, B4, B5, -, -⟩ := hB
      dsimp only at *
      have HRV := Lib.hid hrv
      clear hrv
      obtain ⟨⟨a1, a2, a3⟩, c1, c2, c3⟩ := TT
      have CW := Lib.hid (fun W (h : Below w.heap.size w W) => wayOf_exact b o nm bend cap n k hk hn Ax Ay Az Bx By Bz (by omega) (by omega) (by omega) (by omega) (by omega) (by omega) W (keepc h a1) (keepc h a2) (keepc h a3) (keepc h c1) (keepc h c2) (keepc h c3))
      have CL := Lib.hid (fun W => less_exact x y z Ax Ay Az (by omega) (by omega) (by omega) (by omega) (by omega) (by omega) W)
      have BM := Lib.hid (And.intro (mul_bd (Bx - Ax) (y - Ay) 200000000 (by omega) (by omega) (by omega) (by omega)) (mul_bd (By - Ay) (x - Ax) 200000000 (by omega) (by omega) (by omega) (by omega)))
      have hk2 : k < n := by omega
      have i0 : (0 : Int) ≤ (k : Int) := by omega
      have a1 := keepc HB5.out a1
      have a2 := keepc HB5.out a2
      have a3 := keepc HB5.out a3
      have HP5 := Lib.hid hP5
      have HY5 := Lib.hid hY5
      clear A0 A1 A2 A3 A4 A5 B0 B1 B2 B3 B4 B5 p0 p1 p2 p3 p4 p5 c1 c2 c3 hP5 hY5
      obtain ⟨k0, k1, k2⟩ := cells3 HP5.out
      obtain ⟨y0, y1, y2⟩ := cells3 HY5.out
      go_upto_region 5 with fail
      go_cut [10, 11] from 27 to 38 (fun s10 s11 wx => ∃ b10 b11, s10 = .pointer (some ⟨b10, 0, none⟩) ∧ s11 = .pointer (some ⟨b11, 0, none⟩) ∧ Hid (Below W5.heap.size W5 wx) ∧ Hid (wx.heap[b10]? = some (.cells #[.int .i64 (Bx - Ax), .int .i64 (By - Ay), .int .i64 (Bz - Az)] 26 (0, 0))) ∧ Hid (wx.heap[b11]? = some (.cells #[.int .i64 (x - Ax), .int .i64 (y - Ay), .int .i64 (z - Az)] 26 (0, 0))))
      case first =>
        go_region_held3 (fun W => W.cell? ⟨w.heap.size + 1 + 1, 0, none⟩ = some (.string nm) ∧ W.cell? ⟨w.heap.size + 1 + 1, 1, none⟩ = some (.int .i64 bend) ∧ W.cell? ⟨w.heap.size + 1 + 1, 2, none⟩ = some (.slice (some ⟨b, o, none⟩) n cap) ∧ W.cell? ⟨w.heap.size + 1, 0, none⟩ = some (.int .i64 x) ∧ W.cell? ⟨w.heap.size + 1, 1, none⟩ = some (.int .i64 y) ∧ W.cell? ⟨w.heap.size + 1, 2, none⟩ = some (.int .i64 z) ∧ W.cell? ⟨b, o + k * 5 + 1, none⟩ = some (.int .i64 Ax) ∧ W.cell? ⟨b, o + k * 5 + 2, none⟩ = some (.int .i64 Ay) ∧ W.cell? ⟨b, o + k * 5 + 3, none⟩ = some (.int .i64 Az)) (with_reducible refine ⟨keepc ?_ k0, keepc ?_ k1, keepc ?_ k2, keepc ?_ y0, keepc ?_ y1, keepc ?_ y2, keepc ?_ a1, keepc ?_ a2, keepc ?_ a3⟩ <;> (repeat (first | with_reducible exact Below.refl _ _ | with_reducible refine alloc1 ?_ _ | with_reducible refine Below.drew ?_ | with_reducible refine drewN1 ?_ _ | with_reducible refine setC ?_ (by omega) _)) <;> done)
          (first
            | (go_at_call 95; (with_reducible refine (CW.out _ (trans' HB5.out (by (repeat (first | with_reducible exact Below.refl _ _ | with_reducible refine alloc1 ?_ _ | with_reducible refine Below.drew ?_ | with_reducible refine drewN1 ?_ _ | with_reducible refine setC ?_ (by omega) _))))).mono ?_); rintro e wX ⟨rfl, rfl⟩)
            | (go_at_call 106; (with_reducible refine (CL.out _).mono ?_); rintro e wY ⟨rfl, rfl⟩))
        all_goals
          trace "WAY"
          go_wp2_with fail
          go_meet
          case rel => exact ⟨_, _, rfl, rfl, Lib.hid (by (repeat (first | with_reducible exact Below.refl _ _ | with_reducible refine alloc1 ?_ _ | with_reducible refine Below.drew ?_ | with_reducible refine drewN1 ?_ _ | with_reducible refine setC ?_ (by omega) _))), Lib.hid (by (repeat (first | ((with_reducible refine hnew ?_); (simp; done)) | with_reducible refine hdrew ?_ | with_reducible refine hold ?_))), Lib.hid (by (repeat (first | ((with_reducible refine hnew ?_); (simp; done)) | with_reducible refine hdrew ?_ | with_reducible refine hold ?_)))⟩
      obtain ⟨b10, b11, rfl, rfl, HBX, H10, H11⟩ := hcut
      obtain ⟨w6, rfl⟩ : ∃ w6 : World, w6 = wc := ⟨_, rfl⟩
      have HBW := Lib.hid (trans' HB5.out HBX.out)
      obtain ⟨g0, g1, g2⟩ := cells3 H10.out
      obtain ⟨q0, q1, q2⟩ := cells3 H11.out
      clear k0 k1 k2 y0 y1 y2 a1 a2 a3 CW CL HP5 HY5 HB5 HBX H10 H11 CC CT CQ CF HP0 HY0 HB0 HZ hk hk2 i0 hn
      generalize Bx - Ax = dx at *
      generalize By - Ay = dy at *
      generalize Bz - Az = dz at *
      generalize x - Ax = ex at *
      generalize y - Ay = ey at *
      generalize z - Az = ez at *
      obtain ⟨⟨bm1, bm2⟩, bm3, bm4⟩ := BM.out
      have hw1 : IntKind.i64.wrap (dx * ey) = dx * ey := IntWalk.i64_in _ (by omega)
      have hw2 : IntKind.i64.wrap (dy * ex) = dy * ex := IntWalk.i64_in _ (by omega)
      have hw3 : IntKind.i64.wrap (dx * ey - dy * ex) = dx * ey - dy * ex := IntWalk.i64_in _ (by omega)
      clear bm1 bm2 bm3 bm4 BM
      go_upto_region 7 with fail
      clear hw1 hw2 hw3 g0 g1 g2 q0 q1 q2
      generalize dx * ey - dy * ex = tu at *
      by_cases h1 : 0 < tu
      · have HR1 := Lib.hid (show r = 1 by rw [← HRV.out]; exact if_pos h1)
        go_wp2_with fail
        refine bodyPost_ret (v := .tuple #[.int .i64 r, .int .i64 0]) (by rw [HR1.out]; simp [results, Try.results61, go_sem]) rfl ⟨rfl, HBW.out⟩
      · by_cases h2 : tu < 0
        · have HR1 := Lib.hid (show r = 2 by rw [← HRV.out]; exact (if_neg h1).trans (if_pos h2))
          go_wp2_with fail
          refine bodyPost_ret (v := .tuple #[.int .i64 r, .int .i64 0]) (by rw [HR1.out]; simp [results, Try.results61, go_sem]) rfl ⟨rfl, HBW.out⟩
        · have HR1 := Lib.hid (show r = 0 by rw [← HRV.out]; exact (if_neg h1).trans (if_neg h2))
          go_wp2_with fail
          refine bodyPost_ret (v := .tuple #[.int .i64 r, .int .i64 0]) (by rw [HR1.out]; simp [results, Try.results61, go_sem]) rfl ⟨rfl, HBW.out⟩
  · all_goals
      first
        | (obtain ⟨W5, hW5⟩ : ∃ W5, W5 = wP.alloc (.cells #[.int .i64 e1, .int .i64 e2, .int .i64 e3] 30) := ⟨_, rfl⟩; rw [← hW5])
        | (obtain ⟨W5, hW5⟩ : ∃ W5, W5 = wT.alloc (.cells #[.int .i64 e1, .int .i64 e2, .int .i64 e3] 30) := ⟨_, rfl⟩; rw [← hW5])
        | (obtain ⟨W5, hW5⟩ : ∃ W5, W5 = wC.alloc (.cells #[.int .i64 e1, .int .i64 e2, .int .i64 e3] 30) := ⟨_, rfl⟩; rw [← hW5])
      have hb5 : Below W0.heap.size W0 W5 := by rw [hW5]; (repeat (first | with_reducible exact Below.refl _ _ | with_reducible refine andThen ?_ hbC | with_reducible refine andThen ?_ hbT | with_reducible refine andThen ?_ hbP | with_reducible refine alloc1 ?_ _ | with_reducible refine Below.drew ?_ | with_reducible refine drewN1 ?_ _ | with_reducible refine setC ?_ (by omega) _))
      have HB5 := Lib.hid (trans' HB0.out hb5)
      clear hW5 hb5 k0 k1 k2 y0 y1 y2 hbC hbT
      go_wp2_with fail
      exact bodyPost_ret (v := .tuple #[.int .i64 0, .int .i64 E]) (by simp [results, Try.results61, go_sem]) rfl ⟨rfl, HB5.out⟩
end Go.Proofs.Ytodpjhhogcfodaa.Orb
