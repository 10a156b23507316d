import Derived.Test.YtodpjhhogcfodaaYj
import Derived.BigQuiet
import Derived.Deep.Quiet
import Derived.Outline
namespace Go.Proofs.Ytodpjhhogcfodaa.Orb
open Go.RowKit Lib

set_option maxRecDepth 100000 in
set_option maxHeartbeats 16000000 in
theorem distances_any (v : Value) (nm : ByteArray) (bend : Int) (L : List St) (hI : ∀ k, (gt L k).t ≤ 9223372036854775807) (t x y z : Int) (w : World) (hv : OV w v nm bend L) :
    Calls Try.prog 4 #[v, .int .i64 t, .agg #[.int .i64 x, .int .i64 y, .int .i64 z]] w fun e w' => e = .returned (.bool true) ∧ Below w.heap.size w w' := by
  have CA := Lib.hid awake_any
  have CF := Lib.hid (fun W (h : Below w.heap.size w W) => Few_any v nm bend L W (hv.next h))
  obtain ⟨p, cap, hvf, -, -, -⟩ := hv.form
  cases hf : fewB nm.size L.length with
  | false =>
    rw [hf] at CF
    subst hvf
    clear hv hf hI
    generalize L.length = n at *
    go_enter Try.func4, Try.ntmps4
    go_wp2_with fail
    obtain ⟨w0, hW⟩ : ∃ w0, w0 = (w.alloc (.cells #[.string nm, .int .i64 bend, .slice p n cap] 24)).alloc (.cells #[.int .i64 x, .int .i64 y, .int .i64 z] 26) := ⟨_, rfl⟩
    rw [← hW]
    have HB0 := Lib.hid (show Below w.heap.size w w0 by rw [hW]; (repeat (first | with_reducible exact Below.refl _ _ | with_reducible refine alloc1 ?_ _ | with_reducible refine Below.drew ?_ | with_reducible refine drewN1 ?_ _ | with_reducible refine setC ?_ (by omega) _)))
    have HP0 := Lib.hid (show w0.heap[w.heap.size]? = some (.cells #[.string nm, .int .i64 bend, .slice p n cap] 24 (0, 0)) by rw [hW]; (repeat (first | ((with_reducible refine hnew ?_); (simp; done)) | with_reducible refine hdrew ?_ | with_reducible refine hold ?_)))
    clear hW
    refine (CA.out _).mono ?_
    rintro e w1 ⟨rfl, hb⟩
    have HB1 := Lib.hid (trans' HB0.out hb)
    have HP1 := Lib.hid (keepb hb HP0.out)
    clear hb HB0 HP0
    obtain ⟨k0, k1, k2⟩ := cells3 HP1.out
    go_wp2_with fail
    refine (CF.out _ HB1.out).mono ?_
    rintro e w2 ⟨rfl, hb⟩
    have HB2 := Lib.hid (trans' HB1.out hb)
    have HP2 := Lib.hid (keepb hb HP1.out)
    clear hb HB1 HP1
    go_wp2_with fail
    go_ret
    exact ⟨rfl, HB2.out⟩
  | true =>
    rw [hf] at CF
    obtain ⟨hs1, hn1⟩ := fewB_true hf
    have CY := Lib.hid (fun W (h : Below w.heap.size w W) => Copy_any v nm bend L (by omega) W (hv.next h))
    have CS := Lib.hid (fun v2 W (h : OV W v2 nm bend L) => SquareAt_any v2 nm (by omega) bend L (by omega) hI t x y z W h)
    have CD := Lib.hid (fun v2 W (h : OV W v2 nm bend L) => DistanceAt_any v2 nm (by omega) bend L (by omega) hI t x y z W h)
    have CE := Lib.hid (fun W (h : Below w.heap.size w W) => placeErr_any v nm (by omega) bend L t x y z W (hv.next h))
    have HR := Lib.hid (fun (h : plE (nameE nm) bend L t x y z = 0) => (plE_zero h).2.2)
    have CN := Lib.hid (fun (h : plE (nameE nm) bend L t x y z = 0) W (hb : Below w.heap.size w W) => refNominal_any v nm bend L (HR.out h).1 t (HR.out h).2.1 (HR.out h).2.2.1 W (hv.next hb))
    have CX : Hid (plE (nameE nm) bend L t x y z = 0 → ∀ W, Below w.heap.size w W → Calls Try.prog 31 #[v, .int .i64 t] W fun e w' => e = .returned (.agg #[.int .i64 (loC bend L t 0), .int .i64 (hiC bend L t 0), .int .i64 (loC bend L t 1), .int .i64 (hiC bend L t 1), .int .i64 (loC bend L t 2), .int .i64 (hiC bend L t 2)]) ∧ Below W.heap.size W w') := fun h W hb => refBoxAt_any v nm bend L (HR.out h).1 t (HR.out h).2.1 (HR.out h).2.2.1 W (hv.next hb)
    have CQN : Hid (plE (nameE nm) bend L t x y z = 0 → ∀ W, Calls Try.prog 28 #[.agg #[.int .i64 (nomC L t 0), .int .i64 (nomC L t 1), .int .i64 (nomC L t 2)], .agg #[.int .i64 x, .int .i64 y, .int .i64 z]] W fun e w' => e = .returned (.int .i64 (nsq L t x y z)) ∧ Below W.heap.size W w') := fun h W => by
      obtain ⟨hR, a, b, hp⟩ := HR.out h
      obtain ⟨⟨p1, p2⟩, ⟨p3, p4⟩, p5, p6⟩ := (placeE_zero x y z).1 hp
      have hA := (inArc hR t a b).arc hR
      have q0 : -100000000 ≤ nomC L t 0 ∧ nomC L t 0 ≤ 100000000 := hA.nom 0
      have q1 : -100000000 ≤ nomC L t 1 ∧ nomC L t 1 ≤ 100000000 := hA.nom 1
      have q2 : -100000000 ≤ nomC L t 2 ∧ nomC L t 2 ≤ 100000000 := hA.nom 2
      exact refSquare_any (nomC L t 0) (nomC L t 1) (nomC L t 2) x y z (by omega) (by omega) (by omega) (by omega) (by omega) (by omega) W
    have CQ : Hid (plE (nameE nm) bend L t x y z = 0 → ∀ W, Calls Try.prog 30 #[.agg #[.int .i64 (loC bend L t 0), .int .i64 (hiC bend L t 0), .int .i64 (loC bend L t 1), .int .i64 (hiC bend L t 1), .int .i64 (loC bend L t 2), .int .i64 (hiC bend L t 2)], .agg #[.int .i64 x, .int .i64 y, .int .i64 z]] W fun e w' => e = .returned (.agg #[.int .i64 (sqLo (loC bend L t) (hiC bend L t) (cc3 x y z) 3), .int .i64 (sqHi (loC bend L t) (hiC bend L t) (cc3 x y z) 3)]) ∧ Below W.heap.size W w') := fun h W => by
      obtain ⟨hR, a, b, hp⟩ := HR.out h
      obtain ⟨-, -, s3, s4, -⟩ := sq_range hR a b hp
      exact refSquares_any _ _ x y z s3 hp s4 W
    have HSQ := Lib.hid (fun (h : plE (nameE nm) bend L t x y z = 0) => sq_range (HR.out h).1 (HR.out h).2.1 (HR.out h).2.2.1 (HR.out h).2.2.2)
    obtain ⟨c, hc⟩ : ∃ c, c = plE (nameE nm) bend L t x y z := ⟨_, rfl⟩
    rw [← hc] at CS CD CE CN CX CQN CQ HSQ
    have HSQ := Lib.hid (fun h => And.intro (HSQ.out h).1 (And.intro (HSQ.out h).2.1 (HSQ.out h).2.2.2.2))
    clear HR hc
    subst hvf
    clear hv hI hf hs1 hn1
    generalize nomC L t = NC at *
    generalize loC bend L t = LO at *
    generalize hiC bend L t = HI at *
    generalize nsq L t x y z = nq at *
    generalize sqLo LO HI (cc3 x y z) 3 = sl at *
    generalize sqHi LO HI (cc3 x y z) 3 = sh at *
    generalize L.length = n at *
    obtain ⟨slz, hslz⟩ : ∃ slz, slz = zif c sl := ⟨_, rfl⟩
    obtain ⟨shz, hshz⟩ : ∃ shz, shz = zif c sh := ⟨_, rfl⟩
    obtain ⟨rlz, hrlz⟩ : ∃ rlz, rlz = zif c (rootI sl) := ⟨_, rfl⟩
    obtain ⟨rhz, hrhz⟩ : ∃ rhz, rhz = zif c (upOf sh (rootI sh)) := ⟨_, rfl⟩
    rw [← hslz, ← hshz] at CS
    rw [← hrlz, ← hrhz] at CD
    have HZ1 := Lib.hid (And.intro hslz (And.intro hshz (And.intro hrlz hrhz)))
    clear hslz hshz hrlz hrhz
    go_enter Try.func4, Try.ntmps4
    go_wp2_with fail
    obtain ⟨w0, hW⟩ : ∃ w0, w0 = (w.alloc (.cells #[.string nm, .int .i64 bend, .slice p n cap] 24)).alloc (.cells #[.int .i64 x, .int .i64 y, .int .i64 z] 26) := ⟨_, rfl⟩
    rw [← hW]
    have HB0 := Lib.hid (show Below w.heap.size w w0 by rw [hW]; (repeat (first | with_reducible exact Below.refl _ _ | with_reducible refine alloc1 ?_ _ | with_reducible refine Below.drew ?_ | with_reducible refine drewN1 ?_ _ | with_reducible refine setC ?_ (by omega) _)))
    have HP0 := Lib.hid (show w0.heap[w.heap.size]? = some (.cells #[.string nm, .int .i64 bend, .slice p n cap] 24 (0, 0)) by rw [hW]; (repeat (first | ((with_reducible refine hnew ?_); (simp; done)) | with_reducible refine hdrew ?_ | with_reducible refine hold ?_)))
    have HY0 := Lib.hid (show w0.heap[w.heap.size + 1]? = some (.cells #[.int .i64 x, .int .i64 y, .int .i64 z] 26 (0, 0)) by rw [hW]; (repeat (first | ((with_reducible refine hnew ?_); (simp; done)) | with_reducible refine hdrew ?_ | with_reducible refine hold ?_)))
    clear hW
    refine (CA.out _).mono ?_
    rintro e w1 ⟨rfl, hb⟩
    have HB1 := Lib.hid (trans' HB0.out hb)
    have HP1 := Lib.hid (keepb hb HP0.out)
    have HY1 := Lib.hid (keepb hb HY0.out)
    clear hb HB0 HP0 HY0
    obtain ⟨k0, k1, k2⟩ := cells3 HP1.out
    go_wp2_with fail
    refine (CF.out _ HB1.out).mono ?_
    rintro e w2 ⟨rfl, hb⟩
    have HB2 := Lib.hid (trans' HB1.out hb)
    have HP2 := Lib.hid (keepb hb HP1.out)
    have HY2 := Lib.hid (keepb hb HY1.out)
    clear hb HB1 HP1 HY1
    clear k0 k1 k2 CA CF
    go_upto_region 5 with fail
    obtain ⟨k0, k1, k2⟩ := cells3 HP2.out
    obtain ⟨y0, y1, y2⟩ := cells3 HY2.out
    go_cut [7, 8] from 18 to 25 (fun s7 s8 wx => ∃ b7, s7 = .pointer (some ⟨b7, 0, none⟩) ∧ s8 = .int .i64 c ∧ Hid (Below w2.heap.size w2 wx) ∧ Hid (wx.heap[b7]? = some (.cells #[.int .i64 slz, .int .i64 shz] 42 (0, 0))))
    case first =>
      go_region_held3 (fun W => W.cell? ⟨w.heap.size, 0, none⟩ = some (.string nm) ∧ W.cell? ⟨w.heap.size, 1, none⟩ = some (.int .i64 bend) ∧ W.cell? ⟨w.heap.size, 2, none⟩ = some (.slice p n cap) ∧ W.cell? ⟨w.heap.size + 1, 0, none⟩ = some (.int .i64 x) ∧ W.cell? ⟨w.heap.size + 1, 1, none⟩ = some (.int .i64 y) ∧ W.cell? ⟨w.heap.size + 1, 2, none⟩ = some (.int .i64 z))
        (with_reducible refine ⟨keepc ?_ k0, keepc ?_ k1, keepc ?_ k2, keepc ?_ y0, keepc ?_ y1, keepc ?_ y2⟩ <;> (repeat (first | with_reducible exact Below.refl _ _ | with_reducible refine andThen ?_ hbP | with_reducible refine andThen ?_ hbY | with_reducible refine alloc1 ?_ _ | with_reducible refine Below.drew ?_ | with_reducible refine setC ?_ (by first | exact hbP.size | exact hbY.size | exact Nat.le_refl _ | (have := hbY.size; have := hbP.size; simp at *; omega) | (have := hbP.size; simp at *; omega)) _)) <;> done)
        (first
          | (go_at_call 17; (with_reducible refine (CY.out _ (trans' HB2.out (by (repeat (first | with_reducible exact Below.refl _ _ | with_reducible refine andThen ?_ hbP | with_reducible refine andThen ?_ hbY | with_reducible refine alloc1 ?_ _ | with_reducible refine Below.drew ?_ | with_reducible refine setC ?_ (by first | exact hbP.size | exact hbY.size | exact Nat.le_refl _ | (have := hbY.size; have := hbP.size; simp at *; omega) | (have := hbP.size; simp at *; omega)) _))))).mono ?_); rintro e wY ⟨v3, rfl, hbY, hv3⟩; first | (have QB := Lib.hid (keepb hbY QB.out); obtain ⟨q0, q1, f0, f1⟩ := two_cells QB.out) | (have QB := Lib.hid (keepb hbY (heap_alloc_new _ _)); obtain ⟨q0, q1, f0, f1⟩ := two_cells QB.out) | skip)
          | (go_at_call 25; (with_reducible refine (CS.out _ _ hv3).mono ?_); rintro e wP ⟨rfl, hbP⟩; first | (have QB := Lib.hid (keepb hbP QB.out); obtain ⟨q0, q1, f0, f1⟩ := two_cells QB.out) | (have QB := Lib.hid (keepb hbP (heap_alloc_new _ _)); obtain ⟨q0, q1, f0, f1⟩ := two_cells QB.out) | skip)
          | (go_at_call 25; (with_reducible refine (CS.out _ _ (hv3.next (new_below _ _))).mono ?_); rintro e wP ⟨rfl, hbP⟩; first | (have QB := Lib.hid (keepb hbP QB.out); obtain ⟨q0, q1, f0, f1⟩ := two_cells QB.out) | (have QB := Lib.hid (keepb hbP (heap_alloc_new _ _)); obtain ⟨q0, q1, f0, f1⟩ := two_cells QB.out) | skip))
      all_goals
        go_wp2_with fail
        go_meet
        case rel =>
          first
            | exact ⟨_, rfl, rfl, Lib.hid (by (repeat (first | with_reducible exact Below.refl _ _ | with_reducible refine andThen ?_ hbP | with_reducible refine andThen ?_ hbY | with_reducible refine alloc1 ?_ _ | with_reducible refine Below.drew ?_ | with_reducible refine setC ?_ (by first | exact hbP.size | exact hbY.size | exact Nat.le_refl _ | (have := hbY.size; have := hbP.size; simp at *; omega) | (have := hbP.size; simp at *; omega)) _))), Lib.hid (set_block (set_block QB.out))⟩
            | exact ⟨_, rfl, rfl, Lib.hid (by (repeat (first | with_reducible exact Below.refl _ _ | with_reducible refine andThen ?_ hbP | with_reducible refine andThen ?_ hbY | with_reducible refine alloc1 ?_ _ | with_reducible refine Below.drew ?_ | with_reducible refine setC ?_ (by first | exact hbP.size | exact hbY.size | exact Nat.le_refl _ | (have := hbY.size; have := hbP.size; simp at *; omega) | (have := hbP.size; simp at *; omega)) _))), Lib.hid (by (repeat (first | ((with_reducible refine hnew ?_); (simp; done)) | with_reducible refine hdrew ?_ | with_reducible refine hold ?_)))⟩
    obtain ⟨b7, rfl, rfl, HBX, H7⟩ := hcut
    obtain ⟨w3, rfl⟩ : ∃ w3 : World, w3 = wc := ⟨_, rfl⟩
    have HB3 := Lib.hid (trans' HB2.out HBX.out)
    have HP3 := Lib.hid (keepb HBX.out HP2.out)
    have HY3 := Lib.hid (keepb HBX.out HY2.out)
    clear k0 k1 k2 y0 y1 y2 HB2 HP2 HY2 HBX

    have HS3 := Lib.hid H7.out
    clear H7
    go_upto_region 6 with fail
    obtain ⟨k0, k1, k2⟩ := cells3 HP3.out
    obtain ⟨y0, y1, y2⟩ := cells3 HY3.out
    go_cut [9, 10] from 26 to 33 (fun s7 s8 wx => ∃ b7, s7 = .pointer (some ⟨b7, 0, none⟩) ∧ s8 = .int .i64 c ∧ Hid (Below w3.heap.size w3 wx) ∧ Hid (wx.heap[b7]? = some (.cells #[.int .i64 rlz, .int .i64 rhz] 42 (0, 0))))
    case first =>
      go_region_held3 (fun W => W.cell? ⟨w.heap.size, 0, none⟩ = some (.string nm) ∧ W.cell? ⟨w.heap.size, 1, none⟩ = some (.int .i64 bend) ∧ W.cell? ⟨w.heap.size, 2, none⟩ = some (.slice p n cap) ∧ W.cell? ⟨w.heap.size + 1, 0, none⟩ = some (.int .i64 x) ∧ W.cell? ⟨w.heap.size + 1, 1, none⟩ = some (.int .i64 y) ∧ W.cell? ⟨w.heap.size + 1, 2, none⟩ = some (.int .i64 z))
        (with_reducible refine ⟨keepc ?_ k0, keepc ?_ k1, keepc ?_ k2, keepc ?_ y0, keepc ?_ y1, keepc ?_ y2⟩ <;> (repeat (first | with_reducible exact Below.refl _ _ | with_reducible refine andThen ?_ hbP | with_reducible refine andThen ?_ hbY | with_reducible refine alloc1 ?_ _ | with_reducible refine Below.drew ?_ | with_reducible refine setC ?_ (by first | exact hbP.size | exact hbY.size | exact Nat.le_refl _ | (have := hbY.size; have := hbP.size; simp at *; omega) | (have := hbP.size; simp at *; omega)) _)) <;> done)
        (first
          | (go_at_call 17; (with_reducible refine (CY.out _ (trans' HB3.out (by (repeat (first | with_reducible exact Below.refl _ _ | with_reducible refine andThen ?_ hbP | with_reducible refine andThen ?_ hbY | with_reducible refine alloc1 ?_ _ | with_reducible refine Below.drew ?_ | with_reducible refine setC ?_ (by first | exact hbP.size | exact hbY.size | exact Nat.le_refl _ | (have := hbY.size; have := hbP.size; simp at *; omega) | (have := hbP.size; simp at *; omega)) _))))).mono ?_); rintro e wY ⟨v3, rfl, hbY, hv3⟩; first | (have QB := Lib.hid (keepb hbY QB.out); obtain ⟨q0, q1, f0, f1⟩ := two_cells QB.out) | (have QB := Lib.hid (keepb hbY (heap_alloc_new _ _)); obtain ⟨q0, q1, f0, f1⟩ := two_cells QB.out) | skip)
          | (go_at_call 26; (with_reducible refine (CD.out _ _ hv3).mono ?_); rintro e wP ⟨rfl, hbP⟩; first | (have QB := Lib.hid (keepb hbP QB.out); obtain ⟨q0, q1, f0, f1⟩ := two_cells QB.out) | (have QB := Lib.hid (keepb hbP (heap_alloc_new _ _)); obtain ⟨q0, q1, f0, f1⟩ := two_cells QB.out) | skip)
          | (go_at_call 26; (with_reducible refine (CD.out _ _ (hv3.next (new_below _ _))).mono ?_); rintro e wP ⟨rfl, hbP⟩; first | (have QB := Lib.hid (keepb hbP QB.out); obtain ⟨q0, q1, f0, f1⟩ := two_cells QB.out) | (have QB := Lib.hid (keepb hbP (heap_alloc_new _ _)); obtain ⟨q0, q1, f0, f1⟩ := two_cells QB.out) | skip))
      all_goals
        go_wp2_with fail
        go_meet
        case rel =>
          first
            | exact ⟨_, rfl, rfl, Lib.hid (by (repeat (first | with_reducible exact Below.refl _ _ | with_reducible refine andThen ?_ hbP | with_reducible refine andThen ?_ hbY | with_reducible refine alloc1 ?_ _ | with_reducible refine Below.drew ?_ | with_reducible refine setC ?_ (by first | exact hbP.size | exact hbY.size | exact Nat.le_refl _ | (have := hbY.size; have := hbP.size; simp at *; omega) | (have := hbP.size; simp at *; omega)) _))), Lib.hid (set_block (set_block QB.out))⟩
            | exact ⟨_, rfl, rfl, Lib.hid (by (repeat (first | with_reducible exact Below.refl _ _ | with_reducible refine andThen ?_ hbP | with_reducible refine andThen ?_ hbY | with_reducible refine alloc1 ?_ _ | with_reducible refine Below.drew ?_ | with_reducible refine setC ?_ (by first | exact hbP.size | exact hbY.size | exact Nat.le_refl _ | (have := hbY.size; have := hbP.size; simp at *; omega) | (have := hbP.size; simp at *; omega)) _))), Lib.hid (by (repeat (first | ((with_reducible refine hnew ?_); (simp; done)) | with_reducible refine hdrew ?_ | with_reducible refine hold ?_)))⟩
    obtain ⟨b9, rfl, rfl, HBX, H7⟩ := hcut
    obtain ⟨w4, rfl⟩ : ∃ w4 : World, w4 = wc := ⟨_, rfl⟩
    have HB4 := Lib.hid (trans' HB3.out HBX.out)
    have HP4 := Lib.hid (keepb HBX.out HP3.out)
    have HY4 := Lib.hid (keepb HBX.out HY3.out)
    have HS4 := Lib.hid (keepb HBX.out HS3.out)
    clear k0 k1 k2 y0 y1 y2 HB3 HP3 HY3 HS3 HBX

    have HD4 := Lib.hid H7.out
    clear H7 CS CD CY
    obtain ⟨k0, k1, k2⟩ := cells3 HP4.out
    obtain ⟨y0, y1, y2⟩ := cells3 HY4.out
    go_wp2_with fail
    refine (CE.out _ HB4.out).mono ?_
    rintro e w5 ⟨rfl, hb⟩
    have HB5 := Lib.hid (trans' HB4.out hb)
    have HP5 := Lib.hid (keepb hb HP4.out)
    have HY5 := Lib.hid (keepb hb HY4.out)
    have HS5 := Lib.hid (keepb hb HS4.out)
    have HD5 := Lib.hid (keepb hb HD4.out)
    clear hb HB4 HP4 HY4 HS4 HD4
    clear k0 k1 k2 y0 y1 y2 CE
    by_cases h0 : c = 0
    · have CN0 := Lib.hid (CN.out h0)
      have CX1 := Lib.hid (CX.out h0)
      have CQN0 := Lib.hid (CQN.out h0)
      have CQ1 := Lib.hid (CQ.out h0)
      obtain ⟨⟨l0, l1⟩, ⟨u0, u1⟩, m0, m1⟩ := HSQ.out h0
      obtain ⟨d1, d2, d3, d4⟩ := HZ1.out
      have e1 : slz = sl := d1.trans (if_pos h0)
      have e2 : shz = sh := d2.trans (if_pos h0)
      have e3 : rlz = rootI sl := d3.trans (if_pos h0)
      have e4 : rhz = upOf sh (rootI sh) := d4.trans (if_pos h0)
      have r1 := rootI_is sl l0 (by omega)
      have r2 := rootI_is sh u0 (by omega)
      have r3 := upOf_sq r2
      have rb1 := root_bd r1.2.1 (show (0 : Int) ≤ 536870912 by decide) (show sl < 536870912 * 536870912 by omega)
      have rb2 := root_bd r2.2.1 (show (0 : Int) ≤ 536870912 by decide) (show sh < 536870912 * 536870912 by omega)
      have CD := Lib.hid (fun W => refDistances_any sl sh l0 l1 u0 u1 W)
      have ru0 : 0 ≤ upOf sh (rootI sh) ∧ upOf sh (rootI sh) ≤ 536870912 := by have := r2.1; unfold upOf; split <;> omega
      have rl0 : 0 ≤ rootI sl := r1.1
      have rl1 := r1.2.1
      clear d1 d2 d3 d4 HZ1 HSQ CN CQN CX CQ r1 r2
      generalize rootI sl = rl at *
      generalize upOf sh (rootI sh) = rh at *
      subst h0 e1 e2 e3 e4
      have HM1 := Lib.hid (show IntKind.i64.wrap (rlz * rlz) = rlz * rlz from IntWalk.i64_in _ (by have := mul_bd rlz rlz 1000000000 (by omega) (by omega) (by omega) (by omega); omega))
      have HM2 := Lib.hid (show IntKind.i64.wrap (rhz * rhz) = rhz * rhz from IntWalk.i64_in _ (by have := mul_bd rhz rhz 1000000000 (by omega) (by omega) (by omega) (by omega); omega))
      have HL1 := Lib.hid (show rlz * rlz ≤ nq by omega)
      have HL2 := Lib.hid (show nq ≤ rhz * rhz by omega)
      have HE1 := Lib.hid (eq_range slz shz slz shz)
      have HE2 := Lib.hid (eq_range rlz rhz rlz rhz)
      have HG := Lib.hid guard_range
      have CW : Hid (∀ W, Calls Try.prog 20 #[.int .i64 nq, .int .i64 slz, .int .i64 shz] W fun e w' => e = .returned (.bool true) ∧ W = w') := fun W => by
        have h := Within_any nq slz shz W
        rwa [decide_eq_true (show slz ≤ nq ∧ nq ≤ shz from ⟨m0, m1⟩)] at h
      clear l0 l1 u0 u1 m0 m1 r3 rb1 rb2 ru0 rl0 rl1
      obtain ⟨k0, k1, k2⟩ := cells3 HP5.out
      obtain ⟨y0, y1, y2⟩ := cells3 HY5.out
      go_upto_region 10 with fail
      go_region_held3 (fun W => W.cell? ⟨w.heap.size, 0, none⟩ = some (.string nm) ∧ W.cell? ⟨w.heap.size, 1, none⟩ = some (.int .i64 bend) ∧ W.cell? ⟨w.heap.size, 2, none⟩ = some (.slice p n cap) ∧ W.cell? ⟨w.heap.size + 1, 0, none⟩ = some (.int .i64 x) ∧ W.cell? ⟨w.heap.size + 1, 1, none⟩ = some (.int .i64 y) ∧ W.cell? ⟨w.heap.size + 1, 2, none⟩ = some (.int .i64 z))
        (with_reducible refine ⟨keepc ?_ k0, keepc ?_ k1, keepc ?_ k2, keepc ?_ y0, keepc ?_ y1, keepc ?_ y2⟩ <;> (repeat (first | with_reducible exact Below.refl _ _ | with_reducible refine andThen ?_ hbP | with_reducible refine andThen ?_ hbY | with_reducible refine alloc1 ?_ _ | with_reducible refine Below.drew ?_ | with_reducible refine drewN1 ?_ _ | with_reducible refine setC ?_ (by omega) _)) <;> done)
        (first
          | (go_at_call 29; (with_reducible refine (CN0.out _ (trans' HB5.out (by (repeat (first | with_reducible exact Below.refl _ _ | with_reducible refine alloc1 ?_ _ | with_reducible refine Below.drew ?_ | with_reducible refine drewN1 ?_ _ | with_reducible refine setC ?_ (by omega) _))))).mono ?_); rintro e wY ⟨rfl, hbY⟩)
          | (go_at_call 28; (with_reducible refine (CQN0.out _).mono ?_); rintro e wP ⟨rfl, hbP⟩))
      have hb := andThen (andThen ((Below.refl _ w5).drew) hbY) hbP
      have HB9 := Lib.hid (trans' HB5.out hb)
      have HP9 := Lib.hid (keepb hb HP5.out)
      have HY9 := Lib.hid (keepb hb HY5.out)
      have HS9 := Lib.hid (keepb hb HS5.out)
      have HD9 := Lib.hid (keepb hb HD5.out)
      clear hb hbY hbP k0 k1 k2 y0 y1 y2 HB5 HP5 HY5 HS5 HD5 CN0 CQN0
      go_upto_region 11 with fail
      refine wp_region_quiet (C := fun W' => Below wP.heap.size wP W') (by kernel_rfl) (by kernel_rfl) (Below.refl _ wP).drew ?_
      refine Go.BigFrame.wpQuiet_want (by rfl) (fun K hK => ⟨.int .i64 0, fun WQ hWQ => ?_, hK _ ?_⟩)
      · clear hK
        unfold Oper.quietAt
        go_simp
      clear hK K
      simp only [Act.put, List.setIfInBounds_toArray, List.set_cons_succ, List.set_cons_zero]
      refine Go.BigFrame.wpQuiet_want (by rfl) (fun K hK => ⟨.bool true, fun WQ hWQ => ?_, hK _ ?_⟩)
      · clear hK
        unfold Oper.quietAt
        go_simp
      clear hK K
      simp only [Act.put, List.setIfInBounds_toArray, List.set_cons_succ, List.set_cons_zero]
      refine Go.BigFrame.wpQuiet_want (by rfl) (fun K hK => ⟨.bool true, fun WQ hWQ => ?_, hK _ ?_⟩)
      · clear hK
        unfold Oper.quietAt
        go_simp
      clear hK K
      simp only [Act.put, List.setIfInBounds_toArray, List.set_cons_succ, List.set_cons_zero]
      refine Go.BigFrame.wpQuiet_want (by rfl) (fun K hK => ⟨.agg #[.int .i64 slz, .int .i64 shz], fun WQ hWQ => ?_, hK _ ?_⟩)
      · clear hK
        obtain ⟨q0, q1, -, -⟩ := two_cells (keepb hWQ HS9.out)
        unfold Oper.quietAt
        go_simp
      clear hK K
      simp only [Act.put, List.setIfInBounds_toArray, List.set_cons_succ, List.set_cons_zero]
      refine Go.BigFrame.wpQuiet_want (by rfl) (fun K hK => ⟨.agg #[.string nm, .int .i64 bend, .slice p n cap], fun WQ hWQ => ?_, hK _ ?_⟩)
      · clear hK
        obtain ⟨q0, q1, q2⟩ := cells3 (keepb hWQ HP9.out)
        unfold Oper.quietAt
        go_simp
      clear hK K
      simp only [Act.put, List.setIfInBounds_toArray, List.set_cons_succ, List.set_cons_zero]
      refine Go.BigFrame.wpQuiet_want (by rfl) (fun K hK => ⟨.int .i64 t, fun WQ hWQ => ?_, hK _ ?_⟩)
      · clear hK
        unfold Oper.quietAt
        go_simp
      clear hK K
      simp only [Act.put, List.setIfInBounds_toArray, List.set_cons_succ, List.set_cons_zero]
      refine Go.BigFrame.wpQuiet_want (by rfl) (fun K hK => ⟨.agg #[.int .i64 (LO 0), .int .i64 (HI 0), .int .i64 (LO 1), .int .i64 (HI 1), .int .i64 (LO 2), .int .i64 (HI 2)], fun WQ hWQ => ?_, hK _ ?_⟩)
      · clear hK
        unfold Oper.quietAt
        go_simp
        exact (CX1.out WQ (trans' HB9.out hWQ)).mono (fun e w' h => ⟨h.1, andThen hWQ h.2⟩)
      clear hK K
      simp only [Act.put, List.setIfInBounds_toArray, List.set_cons_succ, List.set_cons_zero]
      refine Go.BigFrame.wpQuiet_want (by rfl) (fun K hK => ⟨.agg #[.int .i64 x, .int .i64 y, .int .i64 z], fun WQ hWQ => ?_, hK _ ?_⟩)
      · clear hK
        obtain ⟨q0, q1, q2⟩ := cells3 (keepb hWQ HY9.out)
        unfold Oper.quietAt
        go_simp
      clear hK K
      simp only [Act.put, List.setIfInBounds_toArray, List.set_cons_succ, List.set_cons_zero]
      refine Go.BigFrame.wpQuiet_want (by rfl) (fun K hK => ⟨.agg #[.int .i64 slz, .int .i64 shz], fun WQ hWQ => ?_, hK _ ?_⟩)
      · clear hK
        unfold Oper.quietAt
        go_simp
        exact (CQ1.out WQ).mono (fun e w' h => ⟨h.1, andThen hWQ h.2⟩)
      clear hK K
      simp only [Act.put, List.setIfInBounds_toArray, List.set_cons_succ, List.set_cons_zero]
      refine Go.BigFrame.wpQuiet_want (by rfl) (fun K hK => ⟨.bool true, fun WQ hWQ => ?_, hK _ ?_⟩)
      · clear hK
        have hE := HE1.out
        have hG := HG.out
        unfold Oper.quietAt
        go_simp
      clear hK K
      simp only [Act.put, List.setIfInBounds_toArray, List.set_cons_succ, List.set_cons_zero]
      refine Go.BigFrame.wpQuiet_want (by rfl) (fun K hK => ⟨.bool true, fun WQ hWQ => ?_, hK _ ?_⟩)
      · clear hK
        unfold Oper.quietAt
        go_simp
      clear hK K
      simp only [Act.put, List.setIfInBounds_toArray, List.set_cons_succ, List.set_cons_zero]
      refine Go.BigFrame.wpQuiet_want (by rfl) (fun K hK => ⟨.bool true, fun WQ hWQ => ?_, hK _ ?_⟩)
      · clear hK
        unfold Oper.quietAt
        go_simp
      clear hK K
      simp only [Act.put, List.setIfInBounds_toArray, List.set_cons_succ, List.set_cons_zero]
      refine Go.BigFrame.wpQuiet_want (by rfl) (fun K hK => ⟨.int .i64 0, fun WQ hWQ => ?_, hK _ ?_⟩)
      · clear hK
        unfold Oper.quietAt
        go_simp
      clear hK K
      simp only [Act.put, List.setIfInBounds_toArray, List.set_cons_succ, List.set_cons_zero]
      refine Go.BigFrame.wpQuiet_want (by rfl) (fun K hK => ⟨.bool true, fun WQ hWQ => ?_, hK _ ?_⟩)
      · clear hK
        unfold Oper.quietAt
        go_simp
      clear hK K
      simp only [Act.put, List.setIfInBounds_toArray, List.set_cons_succ, List.set_cons_zero]
      refine Go.BigFrame.wpQuiet_want (by rfl) (fun K hK => ⟨.bool true, fun WQ hWQ => ?_, hK _ ?_⟩)
      · clear hK
        unfold Oper.quietAt
        go_simp
      clear hK K
      simp only [Act.put, List.setIfInBounds_toArray, List.set_cons_succ, List.set_cons_zero]
      refine Go.BigFrame.wpQuiet_want (by rfl) (fun K hK => ⟨.bool true, fun WQ hWQ => ?_, hK _ ?_⟩)
      · clear hK
        unfold Oper.quietAt
        go_simp
      clear hK K
      simp only [Act.put, List.setIfInBounds_toArray, List.set_cons_succ, List.set_cons_zero]
      refine Go.BigFrame.wpQuiet_want (by rfl) (fun K hK => ⟨.agg #[.int .i64 rlz, .int .i64 rhz], fun WQ hWQ => ?_, hK _ ?_⟩)
      · clear hK
        obtain ⟨q0, q1, -, -⟩ := two_cells (keepb hWQ HD9.out)
        unfold Oper.quietAt
        go_simp
      clear hK K
      simp only [Act.put, List.setIfInBounds_toArray, List.set_cons_succ, List.set_cons_zero]
      refine Go.BigFrame.wpQuiet_want (by rfl) (fun K hK => ⟨.agg #[.int .i64 slz, .int .i64 shz], fun WQ hWQ => ?_, hK _ ?_⟩)
      · clear hK
        obtain ⟨q0, q1, -, -⟩ := two_cells (keepb hWQ HS9.out)
        unfold Oper.quietAt
        go_simp
      clear hK K
      simp only [Act.put, List.setIfInBounds_toArray, List.set_cons_succ, List.set_cons_zero]
      refine Go.BigFrame.wpQuiet_want (by rfl) (fun K hK => ⟨.agg #[.int .i64 rlz, .int .i64 rhz], fun WQ hWQ => ?_, hK _ ?_⟩)
      · clear hK
        unfold Oper.quietAt
        go_simp
        exact (CD.out WQ).mono (fun e w' h => ⟨h.1, andThen hWQ h.2⟩)
      clear hK K
      simp only [Act.put, List.setIfInBounds_toArray, List.set_cons_succ, List.set_cons_zero]
      refine Go.BigFrame.wpQuiet_want (by rfl) (fun K hK => ⟨.bool true, fun WQ hWQ => ?_, hK _ ?_⟩)
      · clear hK
        have hE := HE2.out
        have hG := HG.out
        unfold Oper.quietAt
        go_simp
      clear hK K
      simp only [Act.put, List.setIfInBounds_toArray, List.set_cons_succ, List.set_cons_zero]
      refine Go.BigFrame.wpQuiet_want (by rfl) (fun K hK => ⟨.bool true, fun WQ hWQ => ?_, hK _ ?_⟩)
      · clear hK
        unfold Oper.quietAt
        go_simp
      clear hK K
      simp only [Act.put, List.setIfInBounds_toArray, List.set_cons_succ, List.set_cons_zero]
      refine Go.BigFrame.wpQuiet_want (by rfl) (fun K hK => ⟨.bool true, fun WQ hWQ => ?_, hK _ ?_⟩)
      · clear hK
        unfold Oper.quietAt
        go_simp
      clear hK K
      simp only [Act.put, List.setIfInBounds_toArray, List.set_cons_succ, List.set_cons_zero]
      refine Go.BigFrame.wpQuiet_want (by rfl) (fun K hK => ⟨.int .i64 nq, fun WQ hWQ => ?_, hK _ ?_⟩)
      · clear hK
        unfold Oper.quietAt
        go_simp
      clear hK K
      simp only [Act.put, List.setIfInBounds_toArray, List.set_cons_succ, List.set_cons_zero]
      refine Go.BigFrame.wpQuiet_want (by rfl) (fun K hK => ⟨.pointer (some ⟨b7, 0, none⟩), fun WQ hWQ => ?_, hK _ ?_⟩)
      · clear hK
        unfold Oper.quietAt
        go_simp
      clear hK K
      simp only [Act.put, List.setIfInBounds_toArray, List.set_cons_succ, List.set_cons_zero]
      refine Go.BigFrame.wpQuiet_want (by rfl) (fun K hK => ⟨.int .i64 slz, fun WQ hWQ => ?_, hK _ ?_⟩)
      · clear hK
        obtain ⟨q0, q1, -, -⟩ := two_cells (keepb hWQ HS9.out)
        unfold Oper.quietAt
        go_simp
      clear hK K
      simp only [Act.put, List.setIfInBounds_toArray, List.set_cons_succ, List.set_cons_zero]
      refine Go.BigFrame.wpQuiet_want (by rfl) (fun K hK => ⟨.pointer (some ⟨b7, 1, none⟩), fun WQ hWQ => ?_, hK _ ?_⟩)
      · clear hK
        unfold Oper.quietAt
        go_simp
      clear hK K
      simp only [Act.put, List.setIfInBounds_toArray, List.set_cons_succ, List.set_cons_zero]
      refine Go.BigFrame.wpQuiet_want (by rfl) (fun K hK => ⟨.int .i64 shz, fun WQ hWQ => ?_, hK _ ?_⟩)
      · clear hK
        obtain ⟨q0, q1, -, -⟩ := two_cells (keepb hWQ HS9.out)
        unfold Oper.quietAt
        go_simp
      clear hK K
      simp only [Act.put, List.setIfInBounds_toArray, List.set_cons_succ, List.set_cons_zero]
      refine Go.BigFrame.wpQuiet_want (by rfl) (fun K hK => ⟨.bool true, fun WQ hWQ => ?_, hK _ ?_⟩)
      · clear hK
        unfold Oper.quietAt
        go_simp
        exact (CW.out WQ).mono (fun e w' h => ⟨h.1, h.2 ▸ hWQ⟩)
      clear hK K
      simp only [Act.put, List.setIfInBounds_toArray, List.set_cons_succ, List.set_cons_zero]
      refine Go.BigFrame.wpQuiet_want (by rfl) (fun K hK => ⟨.bool true, fun WQ hWQ => ?_, hK _ ?_⟩)
      · clear hK
        unfold Oper.quietAt
        go_simp
      clear hK K
      simp only [Act.put, List.setIfInBounds_toArray, List.set_cons_succ, List.set_cons_zero]
      refine Go.BigFrame.wpQuiet_want (by rfl) (fun K hK => ⟨.bool true, fun WQ hWQ => ?_, hK _ ?_⟩)
      · clear hK
        unfold Oper.quietAt
        go_simp
      clear hK K
      simp only [Act.put, List.setIfInBounds_toArray, List.set_cons_succ, List.set_cons_zero]
      refine Go.BigFrame.wpQuiet_want (by rfl) (fun K hK => ⟨.pointer (some ⟨b9, 0, none⟩), fun WQ hWQ => ?_, hK _ ?_⟩)
      · clear hK
        unfold Oper.quietAt
        go_simp
      clear hK K
      simp only [Act.put, List.setIfInBounds_toArray, List.set_cons_succ, List.set_cons_zero]
      refine Go.BigFrame.wpQuiet_want (by rfl) (fun K hK => ⟨.int .i64 rlz, fun WQ hWQ => ?_, hK _ ?_⟩)
      · clear hK
        obtain ⟨q0, q1, -, -⟩ := two_cells (keepb hWQ HD9.out)
        unfold Oper.quietAt
        go_simp
      clear hK K
      simp only [Act.put, List.setIfInBounds_toArray, List.set_cons_succ, List.set_cons_zero]
      refine Go.BigFrame.wpQuiet_want (by rfl) (fun K hK => ⟨.pointer (some ⟨b9, 0, none⟩), fun WQ hWQ => ?_, hK _ ?_⟩)
      · clear hK
        unfold Oper.quietAt
        go_simp
      clear hK K
      simp only [Act.put, List.setIfInBounds_toArray, List.set_cons_succ, List.set_cons_zero]
      refine Go.BigFrame.wpQuiet_want (by rfl) (fun K hK => ⟨.int .i64 rlz, fun WQ hWQ => ?_, hK _ ?_⟩)
      · clear hK
        obtain ⟨q0, q1, -, -⟩ := two_cells (keepb hWQ HD9.out)
        unfold Oper.quietAt
        go_simp
      clear hK K
      simp only [Act.put, List.setIfInBounds_toArray, List.set_cons_succ, List.set_cons_zero]
      refine Go.BigFrame.wpQuiet_want (by rfl) (fun K hK => ⟨.int .i64 (rlz * rlz), fun WQ hWQ => ?_, hK _ ?_⟩)
      · clear hK
        have hw := HM1.out
        unfold Oper.quietAt
        go_simp
      clear hK K
      simp only [Act.put, List.setIfInBounds_toArray, List.set_cons_succ, List.set_cons_zero]
      refine Go.BigFrame.wpQuiet_want (by rfl) (fun K hK => ⟨.int .i64 nq, fun WQ hWQ => ?_, hK _ ?_⟩)
      · clear hK
        unfold Oper.quietAt
        go_simp
      clear hK K
      simp only [Act.put, List.setIfInBounds_toArray, List.set_cons_succ, List.set_cons_zero]
      refine Go.BigFrame.wpQuiet_want (by rfl) (fun K hK => ⟨.bool true, fun WQ hWQ => ?_, hK _ ?_⟩)
      · clear hK
        have hl := HL1.out
        unfold Oper.quietAt
        go_simp
      clear hK K
      simp only [Act.put, List.setIfInBounds_toArray, List.set_cons_succ, List.set_cons_zero]
      refine Go.BigFrame.wpQuiet_want (by rfl) (fun K hK => ⟨.bool true, fun WQ hWQ => ?_, hK _ ?_⟩)
      · clear hK
        unfold Oper.quietAt
        go_simp
      clear hK K
      simp only [Act.put, List.setIfInBounds_toArray, List.set_cons_succ, List.set_cons_zero]
      refine Go.BigFrame.wpQuiet_want (by rfl) (fun K hK => ⟨.bool true, fun WQ hWQ => ?_, hK _ ?_⟩)
      · clear hK
        unfold Oper.quietAt
        go_simp
      clear hK K
      simp only [Act.put, List.setIfInBounds_toArray, List.set_cons_succ, List.set_cons_zero]
      refine Go.BigFrame.wpQuiet_want (by rfl) (fun K hK => ⟨.int .i64 nq, fun WQ hWQ => ?_, hK _ ?_⟩)
      · clear hK
        unfold Oper.quietAt
        go_simp
      clear hK K
      simp only [Act.put, List.setIfInBounds_toArray, List.set_cons_succ, List.set_cons_zero]
      refine Go.BigFrame.wpQuiet_want (by rfl) (fun K hK => ⟨.pointer (some ⟨b9, 1, none⟩), fun WQ hWQ => ?_, hK _ ?_⟩)
      · clear hK
        unfold Oper.quietAt
        go_simp
      clear hK K
      simp only [Act.put, List.setIfInBounds_toArray, List.set_cons_succ, List.set_cons_zero]
      refine Go.BigFrame.wpQuiet_want (by rfl) (fun K hK => ⟨.int .i64 rhz, fun WQ hWQ => ?_, hK _ ?_⟩)
      · clear hK
        obtain ⟨q0, q1, -, -⟩ := two_cells (keepb hWQ HD9.out)
        unfold Oper.quietAt
        go_simp
      clear hK K
      simp only [Act.put, List.setIfInBounds_toArray, List.set_cons_succ, List.set_cons_zero]
      refine Go.BigFrame.wpQuiet_want (by rfl) (fun K hK => ⟨.pointer (some ⟨b9, 1, none⟩), fun WQ hWQ => ?_, hK _ ?_⟩)
      · clear hK
        unfold Oper.quietAt
        go_simp
      clear hK K
      simp only [Act.put, List.setIfInBounds_toArray, List.set_cons_succ, List.set_cons_zero]
      refine Go.BigFrame.wpQuiet_want (by rfl) (fun K hK => ⟨.int .i64 rhz, fun WQ hWQ => ?_, hK _ ?_⟩)
      · clear hK
        obtain ⟨q0, q1, -, -⟩ := two_cells (keepb hWQ HD9.out)
        unfold Oper.quietAt
        go_simp
      clear hK K
      simp only [Act.put, List.setIfInBounds_toArray, List.set_cons_succ, List.set_cons_zero]
      refine Go.BigFrame.wpQuiet_want (by rfl) (fun K hK => ⟨.int .i64 (rhz * rhz), fun WQ hWQ => ?_, hK _ ?_⟩)
      · clear hK
        have hw := HM2.out
        unfold Oper.quietAt
        go_simp
      clear hK K
      simp only [Act.put, List.setIfInBounds_toArray, List.set_cons_succ, List.set_cons_zero]
      refine Go.BigFrame.wpQuiet_want (by rfl) (fun K hK => ⟨.bool true, fun WQ hWQ => ?_, hK _ ?_⟩)
      · clear hK
        have hl := HL2.out
        unfold Oper.quietAt
        go_simp
      clear hK K
      simp only [Act.put, List.setIfInBounds_toArray, List.set_cons_succ, List.set_cons_zero]
      refine Go.BigFrame.wpQuiet_want (by rfl) (fun K hK => ⟨.bool true, fun WQ hWQ => ?_, hK _ ?_⟩)
      · clear hK
        unfold Oper.quietAt
        go_simp
      clear hK K
      simp only [Act.put, List.setIfInBounds_toArray, List.set_cons_succ, List.set_cons_zero]
      refine Go.BigFrame.wpQuiet_want (by rfl) (fun K hK => ⟨.bool true, fun WQ hWQ => ?_, hK _ ?_⟩)
      · clear hK
        unfold Oper.quietAt
        go_simp
      clear hK K
      simp only [Act.put, List.setIfInBounds_toArray, List.set_cons_succ, List.set_cons_zero]
      refine wpQuiet_nil ?_
      intro W8 hb8
      have HB8 := Lib.hid (trans' HB9.out hb8)
      clear hb8
      go_wp2_with fail
      go_ret
      exact ⟨rfl, HB8.out⟩
    · obtain ⟨d1, d2, d3, d4⟩ := HZ1.out
      have e1 : slz = 0 := d1.trans (if_neg h0)
      have e2 : shz = 0 := d2.trans (if_neg h0)
      have e3 : rlz = 0 := d3.trans (if_neg h0)
      have e4 : rhz = 0 := d4.trans (if_neg h0)
      clear d1 d2 d3 d4 HZ1 HSQ CN CQN CX CQ
      subst e1 e2 e3 e4
      have hne : (c != 0) = true := by rw [bne_iff_ne]; exact h0
      obtain ⟨q0, q1, -, -⟩ := two_cells HS5.out
      obtain ⟨r0, r1, -, -⟩ := two_cells HD5.out
      have hE := eq_range 0 0 0 0
      have hG := guard_range
      go_wp2_with fail
      go_ret
      exact ⟨rfl, HB5.out⟩
end Go.Proofs.Ytodpjhhogcfodaa.Orb
