import Derived.Test.YtodpjhhogcfodaaYs
import Derived.Test.YtodpjhhogcfodaaYo
import Derived.Outline
namespace Go.Proofs.Ytodpjhhogcfodaa.Orb
open Go.RowKit Lib

/-- the nearest tick may be nearest, and all that may be are accepted -/
theorem nearest_in {bend : Int} {L : List St} {x y z : Int} (hR : Rt bend L) (hp : placeE x y z = 0) :
    ((mayBe bend L x y z).1 ≤ (nearest L x y z).1 ∧ (nearest L x y z).1 ≤ (mayBe bend L x y z).2) ∧ chR bend L x y z (mayBe bend L x y z).1 (mayBe bend L x y z).2 (witness bend L x y z).1 = ((mayBe bend L x y z).2 - (mayBe bend L x y z).1 + 1, 0) ∧
    (fst L ≤ (mayBe bend L x y z).1 ∧ (mayBe bend L x y z).1 ≤ lst L ∧ fst L ≤ (mayBe bend L x y z).2 ∧ (mayBe bend L x y z).2 ≤ lst L) := by
  have n0 := hR.n0
  have hle : fst L ≤ lst L := hR.le 0 (L.length - 1) (Nat.zero_le _) (by omega)
  have hnt : (nTicks L : Int) = lst L - fst L + 1 := by unfold nTicks; omega
  have hin : ∀ t, t ∈ ticksOf (fst L) (nTicks L) → fst L ≤ t ∧ t ≤ lst L := by
    intro t ht
    obtain ⟨i, hi, rfl⟩ := List.mem_map.1 ht
    have := List.mem_range.1 hi
    omega
  have hfs : fst L ∈ ticksOf (fst L) (nTicks L) := by
    refine List.mem_map.2 ⟨0, List.mem_range.2 (by omega), by simp⟩
  have W1 : (witness bend L x y z).2 = sHi bend L x y z (witness bend L x y z).1 ∧ ((witness bend L x y z).1 = fst L ∨ (witness bend L x y z).1 ∈ ticksOf (fst L) (nTicks L)) ∧ (witness bend L x y z).2 ≤ sHi bend L x y z (fst L) ∧ ∀ t ∈ ticksOf (fst L) (nTicks L), (witness bend L x y z).2 ≤ sHi bend L x y z t := leastF_is _ _ _
  have N1 : (nearest L x y z).2 = nsq L (nearest L x y z).1 x y z ∧ ((nearest L x y z).1 = fst L ∨ (nearest L x y z).1 ∈ ticksOf (fst L) (nTicks L)) ∧ (nearest L x y z).2 ≤ nsq L (fst L) x y z ∧ ∀ t ∈ ticksOf (fst L) (nTicks L), (nearest L x y z).2 ≤ nsq L t x y z := leastF_is (fun t => nsq L t x y z) _ _
  have M1 : (mayBe bend L x y z).1 ≤ (witness bend L x y z).1 ∧ (witness bend L x y z).1 ≤ (mayBe bend L x y z).2 ∧ ((mayBe bend L x y z).1 = (witness bend L x y z).1 ∨ (mayBe bend L x y z).1 ∈ ticksOf (fst L) (nTicks L)) ∧ ((mayBe bend L x y z).2 = (witness bend L x y z).1 ∨ (mayBe bend L x y z).2 ∈ ticksOf (fst L) (nTicks L)) ∧ ∀ t ∈ ticksOf (fst L) (nTicks L), sLo bend L x y z t ≤ (witness bend L x y z).2 → (mayBe bend L x y z).1 ≤ t ∧ t ≤ (mayBe bend L x y z).2 := mayF_is _ _ _ _
  have O1 : outB (sLo bend L x y z) (witness bend L x y z).2 (mayBe bend L x y z).1 (mayBe bend L x y z).2 (ticksOf (fst L) (nTicks L)) = false := outB_may _ _ _ _
  obtain ⟨w1, w2, -, w4⟩ := W1
  obtain ⟨m1, m2, m3, m4, m5⟩ := M1
  obtain ⟨c1, c2, -, c4⟩ := N1
  have hwm : (witness bend L x y z).1 ∈ ticksOf (fst L) (nTicks L) := w2.elim (fun h => by rw [h]; assumption) id
  have hnm : (nearest L x y z).1 ∈ ticksOf (fst L) (nTicks L) := c2.elim (fun h => by rw [h]; assumption) id
  have hm1 : (mayBe bend L x y z).1 ∈ ticksOf (fst L) (nTicks L) := m3.elim (fun h => by rw [h]; assumption) id
  have hm2 : (mayBe bend L x y z).2 ∈ ticksOf (fst L) (nTicks L) := m4.elim (fun h => by rw [h]; assumption) id
  obtain ⟨a1, a2⟩ := hin _ hwm
  obtain ⟨a3, a4⟩ := hin _ hnm
  obtain ⟨a5, a6⟩ := hin _ hm1
  obtain ⟨a7, a8⟩ := hin _ hm2
  have s1 := (sq_range hR a3 a4 hp).2.2.2.2.1
  have s2 := (sq_range hR a1 a2 hp).2.2.2.2.2
  have s3 := c4 _ hwm
  refine ⟨m5 _ hnm ?_, ?_, ⟨a5, a6, a7, a8⟩⟩
  · show sqLo (loC bend L (nearest L x y z).1) (hiC bend L (nearest L x y z).1) (cc3 x y z) 3 ≤ (witness bend L x y z).2
    have e : sHi bend L x y z (witness bend L x y z).1 = sqHi (loC bend L (witness bend L x y z).1) (hiC bend L (witness bend L x y z).1) (cc3 x y z) 3 := rfl
    omega
  · unfold chR
    rw [if_pos ⟨⟨a5, a6⟩, ⟨a7, a8⟩, a1, a2⟩, if_neg (by omega), ← w1, O1, if_neg (by simp)]

set_option maxRecDepth 100000 in
set_option maxHeartbeats 16000000 in
theorem nearest_law (v : Value) (nm : ByteArray) (bend : Int) (L : List St) (hI : ∀ k, (gt L k).t ≤ 9223372036854775807) (x y z : Int) (w : World) (hv : OV w v nm bend L) :
    Calls Try.prog 6 #[v, .agg #[.int .i64 x, .int .i64 y, .int .i64 z]] w fun e w' => e = .returned (.bool true) ∧ Below w.heap.size w w' := by
  have CA := Lib.hid awake_any
  have CF := Lib.hid (fun W (h : Below w.heap.size w W) => Brief_any v nm bend L W (hv.next h))
  obtain ⟨p, cap, hvf, -, -, -⟩ := hv.form
  cases hf : briefB nm.size (nameE nm) bend L with
  | false =>
    rw [hf] at CF
    subst hvf
    clear hv hf hI
    generalize L.length = n at *
    go_enter Try.func6, Try.ntmps6
    go_wp2_with fail
    obtain ⟨w0, hW⟩ : ∃ w0, w0 = (w.alloc (.cells #[.string nm, .int .i64 bend, .slice p n cap] 24)).alloc (.cells #[.int .i64 x, .int .i64 y, .int .i64 z] 26) := ⟨_, rfl⟩
    rw [← hW]
    have HB0 := Lib.hid (show Below w.heap.size w w0 by rw [hW]; (repeat (first | with_reducible exact Below.refl _ _ | with_reducible refine alloc1 ?_ _ | with_reducible refine Below.drew ?_ | with_reducible refine drewN1 ?_ _ | with_reducible refine setC ?_ (by omega) _)))
    have HP0 := Lib.hid (show w0.heap[w.heap.size]? = some (.cells #[.string nm, .int .i64 bend, .slice p n cap] 24 (0, 0)) by rw [hW]; (repeat (first | ((with_reducible refine hnew ?_); (simp; done)) | with_reducible refine hdrew ?_ | with_reducible refine hold ?_)))
    clear hW
    refine (CA.out _).mono ?_
    rintro e w1 ⟨rfl, hb⟩
    have HB1 := Lib.hid (trans' HB0.out hb)
    have HP1 := Lib.hid (keepb hb HP0.out)
    clear hb HB0 HP0
    obtain ⟨k0, k1, k2⟩ := cells3 HP1.out
    go_wp2_with fail
    refine (CF.out _ HB1.out).mono ?_
    rintro e w2 ⟨rfl, hb⟩
    have HB2 := Lib.hid (trans' HB1.out hb)
    have HP2 := Lib.hid (keepb hb HP1.out)
    clear hb HB1 HP1
    go_wp2_with fail
    go_ret
    exact ⟨rfl, HB2.out⟩
  | true =>
    rw [hf] at CF
    obtain ⟨hfe, -⟩ := briefB_true hf
    obtain ⟨hs1, hn1⟩ := fewB_true hfe
    have CY := Lib.hid (fun W (h : Below w.heap.size w W) => Copy_any v nm bend L (by omega) W (hv.next h))
    have CN := Lib.hid (fun v2 W (h : OV W v2 nm bend L) => Nearest_any v2 nm (by omega) bend L hI x y z W h)
    have CM := Lib.hid (fun v2 W (h : OV W v2 nm bend L) => MayBeNearest_any v2 nm (by omega) bend L hI x y z W h)
    have CE := Lib.hid (fun W (h : Below w.heap.size w W) => refErr_any v nm (by omega) bend L W (hv.next h))
    have CI := Lib.hid (fun W => IsPlace_any x y z W)
    have CRN : Hid ((orbE (nameE nm) bend L).2 = 0 → placeE x y z = 0 → ∀ W, Below w.heap.size w W → Calls Try.prog 39 #[v, .agg #[.int .i64 x, .int .i64 y, .int .i64 z]] W fun e w' => e = .returned (.tuple #[.int .i64 (nearest L x y z).1, .int .i64 (nearest L x y z).2]) ∧ Below W.heap.size W w') := fun h1 h2 W hb => refNearest_any v nm bend L (Rt.of h1).2 x y z h2 W (hv.next hb)
    have CRM : Hid ((orbE (nameE nm) bend L).2 = 0 → placeE x y z = 0 → ∀ W, Below w.heap.size w W → Calls Try.prog 40 #[v, .agg #[.int .i64 x, .int .i64 y, .int .i64 z]] W fun e w' => e = .returned (.tuple #[.agg #[.int .i64 (mayBe bend L x y z).1, .int .i64 (mayBe bend L x y z).2], .int .i64 (witness bend L x y z).1]) ∧ Below W.heap.size W w') := fun h1 h2 W hb => refMayBe_any v nm bend L (Rt.of h1).2 x y z h2 W (hv.next hb)
    have CK : Hid ((orbE (nameE nm) bend L).2 = 0 → placeE x y z = 0 → ∀ v2 W, OV W v2 nm bend L → Calls Try.prog 41 #[v2, .agg #[.int .i64 x, .int .i64 y, .int .i64 z], .agg #[.int .i64 (mayBe bend L x y z).1, .int .i64 (mayBe bend L x y z).2, .int .i64 (witness bend L x y z).1]] W fun e w' => e = .returned (.tuple #[.int .i64 ((mayBe bend L x y z).2 - (mayBe bend L x y z).1 + 1), .int .i64 0]) ∧ Below W.heap.size W w') := fun h1 h2 v2 W h => by
      have hc := CheckNearest_any v2 nm (by omega) bend L (by omega) hI x y z (mayBe bend L x y z).1 (mayBe bend L x y z).2 (witness bend L x y z).1 W h
      rw [chN_right h1 h2, (nearest_in (Rt.of h1).2 h2).2.1] at hc
      exact hc
    have HIN := Lib.hid (fun (h1 : (orbE (nameE nm) bend L).2 = 0) (h2 : placeE x y z = 0) => And.intro (nearest_in (Rt.of h1).2 h2).1 (show 0 ≤ (mayBe bend L x y z).1 ∧ (mayBe bend L x y z).1 ≤ 1000000000 ∧ 0 ≤ (mayBe bend L x y z).2 ∧ (mayBe bend L x y z).2 ≤ 1000000000 by
      have hR := (Rt.of h1).2
      have n0 := hR.n0
      have hlo : 0 ≤ fst L := (hR.st 0 (by omega)).t0
      have hhi : lst L ≤ 1000000000 := (hR.st (L.length - 1) (by omega)).t1
      have := (nearest_in (Rt.of h1).2 h2).2.2
      omega))
    have HCC := Lib.hid (opE_place (nameE nm) bend L x y z)
    subst hvf
    clear hv hI hf hs1 hn1 hfe
    generalize opE (nameE nm) bend L x y z = c at *
    generalize (orbE (nameE nm) bend L).2 = e1 at *
    generalize placeB x y z = pb at *
    generalize placeE x y z = pe at *
    generalize nearest L x y z = NR at *
    generalize mayBe bend L x y z = MB at *
    generalize witness bend L x y z = WN at *
    obtain ⟨nt, nn⟩ := NR
    obtain ⟨ma, mb⟩ := MB
    obtain ⟨wn, wb⟩ := WN
    dsimp only at CN CM CRN CRM CK HIN
    generalize L.length = n at *
    obtain ⟨ntz, hntz⟩ : ∃ ntz, ntz = zif c nt := ⟨_, rfl⟩
    obtain ⟨nnz, hnnz⟩ : ∃ nnz, nnz = zif c nn := ⟨_, rfl⟩
    obtain ⟨maz, hmaz⟩ : ∃ maz, maz = zif c ma := ⟨_, rfl⟩
    obtain ⟨mbz, hmbz⟩ : ∃ mbz, mbz = zif c mb := ⟨_, rfl⟩
    obtain ⟨wnz, hwnz⟩ : ∃ wnz, wnz = zif c wn := ⟨_, rfl⟩
    rw [← hntz, ← hnnz] at CN
    rw [← hmaz, ← hmbz, ← hwnz] at CM
    have HZ1 := Lib.hid (And.intro hntz (And.intro hnnz (And.intro hmaz (And.intro hmbz hwnz))))
    clear hntz hnnz hmaz hmbz hwnz
    go_enter Try.func6, Try.ntmps6
    go_wp2_with fail
    obtain ⟨w0, hW⟩ : ∃ w0, w0 = (w.alloc (.cells #[.string nm, .int .i64 bend, .slice p n cap] 24)).alloc (.cells #[.int .i64 x, .int .i64 y, .int .i64 z] 26) := ⟨_, rfl⟩
    rw [← hW]
    have HB0 := Lib.hid (show Below w.heap.size w w0 by rw [hW]; (repeat (first | with_reducible exact Below.refl _ _ | with_reducible refine alloc1 ?_ _ | with_reducible refine Below.drew ?_ | with_reducible refine drewN1 ?_ _ | with_reducible refine setC ?_ (by omega) _)))
    have HP0 := Lib.hid (show w0.heap[w.heap.size]? = some (.cells #[.string nm, .int .i64 bend, .slice p n cap] 24 (0, 0)) by rw [hW]; (repeat (first | ((with_reducible refine hnew ?_); (simp; done)) | with_reducible refine hdrew ?_ | with_reducible refine hold ?_)))
    have HY0 := Lib.hid (show w0.heap[w.heap.size + 1]? = some (.cells #[.int .i64 x, .int .i64 y, .int .i64 z] 26 (0, 0)) by rw [hW]; (repeat (first | ((with_reducible refine hnew ?_); (simp; done)) | with_reducible refine hdrew ?_ | with_reducible refine hold ?_)))
    clear hW
    refine (CA.out _).mono ?_
    rintro e w1 ⟨rfl, hb⟩
    have HB1 := Lib.hid (trans' HB0.out hb)
    have HP1 := Lib.hid (keepb hb HP0.out)
    have HY1 := Lib.hid (keepb hb HY0.out)
    clear hb HB0 HP0 HY0
    obtain ⟨k0, k1, k2⟩ := cells3 HP1.out
    go_wp2_with fail
    refine (CF.out _ HB1.out).mono ?_
    rintro e w2 ⟨rfl, hb⟩
    have HB2 := Lib.hid (trans' HB1.out hb)
    have HP2 := Lib.hid (keepb hb HP1.out)
    have HY2 := Lib.hid (keepb hb HY1.out)
    clear hb HB1 HP1 HY1
    clear k0 k1 k2 CA CF
    obtain ⟨k0, k1, k2⟩ := cells3 HP2.out
    obtain ⟨y0, y1, y2⟩ := cells3 HY2.out
    go_upto_region 5 with fail
    go_region_held3 (fun W => W.cell? ⟨w.heap.size, 0, none⟩ = some (.string nm) ∧ W.cell? ⟨w.heap.size, 1, none⟩ = some (.int .i64 bend) ∧ W.cell? ⟨w.heap.size, 2, none⟩ = some (.slice p n cap) ∧ W.cell? ⟨w.heap.size + 1, 0, none⟩ = some (.int .i64 x) ∧ W.cell? ⟨w.heap.size + 1, 1, none⟩ = some (.int .i64 y) ∧ W.cell? ⟨w.heap.size + 1, 2, none⟩ = some (.int .i64 z))
      (with_reducible refine ⟨keepc ?_ k0, keepc ?_ k1, keepc ?_ k2, keepc ?_ y0, keepc ?_ y1, keepc ?_ y2⟩ <;> (repeat (first | with_reducible exact Below.refl _ _ | with_reducible refine andThen ?_ hbP | with_reducible refine andThen ?_ hbY | with_reducible refine alloc1 ?_ _ | with_reducible refine Below.drew ?_ | with_reducible refine drewN1 ?_ _ | with_reducible refine setC ?_ (by omega) _)) <;> done)
      (first
        | (go_at_call 17; (with_reducible refine (CY.out _ (trans' HB2.out (by (repeat (first | with_reducible exact Below.refl _ _ | with_reducible refine alloc1 ?_ _ | with_reducible refine Below.drew ?_ | with_reducible refine drewN1 ?_ _ | with_reducible refine setC ?_ (by omega) _))))).mono ?_); rintro e wY ⟨v3, rfl, hbY, hv3⟩)
        | (go_at_call 37; (with_reducible refine (CN.out _ _ hv3).mono ?_); rintro e wP ⟨rfl, hbP⟩))
    have hb3 : Below w2.heap.size w2 wP := andThen (andThen ((Below.refl _ w2).drew) hbY) hbP
    obtain ⟨w3, hw3⟩ : ∃ w3, w3 = wP := ⟨_, rfl⟩
    rw [← hw3] at hb3 ⊢
    have HB3 := Lib.hid (trans' HB2.out hb3)
    have HP3 := Lib.hid (keepb hb3 HP2.out)
    have HY3 := Lib.hid (keepb hb3 HY2.out)
    clear hb3 hbY hbP hv3 hw3 k0 k1 k2 y0 y1 y2 HB2 HP2 HY2 CN
    obtain ⟨k0, k1, k2⟩ := cells3 HP3.out
    obtain ⟨y0, y1, y2⟩ := cells3 HY3.out
    go_upto_region 6 with fail
    go_cut [8, 9, 10] from 31 to 38 (fun s8 s9 s10 wx => ∃ b8, s8 = .pointer (some ⟨b8, 0, none⟩) ∧ s9 = .int .i64 wnz ∧ s10 = .int .i64 c ∧ Hid (Below w3.heap.size w3 wx) ∧ Hid (wx.heap[b8]? = some (.cells #[.int .i64 maz, .int .i64 mbz] 42 (0, 0))))
    case first =>
      go_region_held3 (fun W => W.cell? ⟨w.heap.size, 0, none⟩ = some (.string nm) ∧ W.cell? ⟨w.heap.size, 1, none⟩ = some (.int .i64 bend) ∧ W.cell? ⟨w.heap.size, 2, none⟩ = some (.slice p n cap) ∧ W.cell? ⟨w.heap.size + 1, 0, none⟩ = some (.int .i64 x) ∧ W.cell? ⟨w.heap.size + 1, 1, none⟩ = some (.int .i64 y) ∧ W.cell? ⟨w.heap.size + 1, 2, none⟩ = some (.int .i64 z))
        (with_reducible refine ⟨keepc ?_ k0, keepc ?_ k1, keepc ?_ k2, keepc ?_ y0, keepc ?_ y1, keepc ?_ y2⟩ <;> (repeat (first | with_reducible exact Below.refl _ _ | with_reducible refine andThen ?_ hbP | with_reducible refine andThen ?_ hbY | with_reducible refine alloc1 ?_ _ | with_reducible refine Below.drew ?_ | with_reducible refine setC ?_ (by first | exact hbP.size | exact hbY.size | exact Nat.le_refl _ | (have := hbY.size; have := hbP.size; simp at *; omega) | (have := hbP.size; simp at *; omega)) _)) <;> done)
        (first
          | (go_at_call 17; (with_reducible refine (CY.out _ (trans' HB3.out (by (repeat (first | with_reducible exact Below.refl _ _ | with_reducible refine andThen ?_ hbP | with_reducible refine andThen ?_ hbY | with_reducible refine alloc1 ?_ _ | with_reducible refine Below.drew ?_ | with_reducible refine setC ?_ (by first | exact hbP.size | exact hbY.size | exact Nat.le_refl _ | (have := hbY.size; have := hbP.size; simp at *; omega) | (have := hbP.size; simp at *; omega)) _))))).mono ?_); rintro e wY ⟨v3, rfl, hbY, hv3⟩; first | (have QB := Lib.hid (keepb hbY QB.out); obtain ⟨q0, q1, f0, f1⟩ := two_cells QB.out) | (have QB := Lib.hid (keepb hbY (heap_alloc_new _ _)); obtain ⟨q0, q1, f0, f1⟩ := two_cells QB.out) | skip)
          | (go_at_call 38; (with_reducible refine (CM.out _ _ hv3).mono ?_); rintro e wP ⟨rfl, hbP⟩; first | (have QB := Lib.hid (keepb hbP QB.out); obtain ⟨q0, q1, f0, f1⟩ := two_cells QB.out) | (have QB := Lib.hid (keepb hbP (heap_alloc_new _ _)); obtain ⟨q0, q1, f0, f1⟩ := two_cells QB.out) | skip)
          | (go_at_call 38; (with_reducible refine (CM.out _ _ (hv3.next (new_below _ _))).mono ?_); rintro e wP ⟨rfl, hbP⟩; first | (have QB := Lib.hid (keepb hbP QB.out); obtain ⟨q0, q1, f0, f1⟩ := two_cells QB.out) | (have QB := Lib.hid (keepb hbP (heap_alloc_new _ _)); obtain ⟨q0, q1, f0, f1⟩ := two_cells QB.out) | skip))
      all_goals
        go_wp2_with fail
        go_meet
        case rel =>
          first
            | exact ⟨_, rfl, rfl, rfl, Lib.hid (by (repeat (first | with_reducible exact Below.refl _ _ | with_reducible refine andThen ?_ hbP | with_reducible refine andThen ?_ hbY | with_reducible refine alloc1 ?_ _ | with_reducible refine Below.drew ?_ | with_reducible refine setC ?_ (by first | exact hbP.size | exact hbY.size | exact Nat.le_refl _ | (have := hbY.size; have := hbP.size; simp at *; omega) | (have := hbP.size; simp at *; omega)) _))), Lib.hid (set_block (set_block QB.out))⟩
            | exact ⟨_, rfl, rfl, rfl, Lib.hid (by (repeat (first | with_reducible exact Below.refl _ _ | with_reducible refine andThen ?_ hbP | with_reducible refine andThen ?_ hbY | with_reducible refine alloc1 ?_ _ | with_reducible refine Below.drew ?_ | with_reducible refine setC ?_ (by first | exact hbP.size | exact hbY.size | exact Nat.le_refl _ | (have := hbY.size; have := hbP.size; simp at *; omega) | (have := hbP.size; simp at *; omega)) _))), Lib.hid (by (repeat (first | ((with_reducible refine hnew ?_); (simp; done)) | with_reducible refine hdrew ?_ | with_reducible refine hold ?_)))⟩
    obtain ⟨b8, rfl, rfl, rfl, HBX, H7⟩ := hcut
    obtain ⟨w4, rfl⟩ : ∃ w4 : World, w4 = wc := ⟨_, rfl⟩
    have HB4 := Lib.hid (trans' HB3.out HBX.out)
    have HP4 := Lib.hid (keepb HBX.out HP3.out)
    have HY4 := Lib.hid (keepb HBX.out HY3.out)
    have HV4 := Lib.hid H7.out
    clear k0 k1 k2 y0 y1 y2 HB3 HP3 HY3 HBX H7 CM
    obtain ⟨k0, k1, k2⟩ := cells3 HP4.out
    go_wp2_with fail
    refine (CE.out _ HB4.out).mono ?_
    rintro e w5 ⟨rfl, hb⟩
    have HB5 := Lib.hid (trans' HB4.out hb)
    have HP5 := Lib.hid (keepb hb HP4.out)
    have HY5 := Lib.hid (keepb hb HY4.out)
    have HV5 := Lib.hid (keepb hb HV4.out)
    clear hb HB4 HP4 HY4 HV4
    clear k0 k1 k2 CE
    obtain ⟨d1, d2, d3, d4, d5⟩ := HZ1.out
    rcases HCC.out with ⟨h1, h2⟩ | ⟨h1, h2, h3⟩ | ⟨h1, h2, h3, h4⟩
    · have hne : (e1 == 0) = false := by rw [beq_eq_false_iff_ne]; exact h1
      have hne2 : (e1 != 0) = true := by rw [bne_iff_ne]; exact h1
      have h0 : c ≠ 0 := by rw [h2]; exact h1
      obtain rfl : ntz = 0 := d1.trans (if_neg h0)
      obtain rfl : nnz = 0 := d2.trans (if_neg h0)
      obtain rfl : maz = 0 := d3.trans (if_neg h0)
      obtain rfl : mbz = 0 := d4.trans (if_neg h0)
      obtain rfl : wnz = 0 := d5.trans (if_neg h0)
      clear HCC CRN CRM CK HIN HZ1 d1 d2 d3 d4 d5 h0 h1
      subst h2
      obtain ⟨v0, v1, -, -⟩ := two_cells HV5.out
      have hE := eq_range 0 0 0 0
      have hG := guard_range
      go_wp2_with fail
      go_ret
      exact ⟨rfl, HB5.out⟩
    · have h0 : c ≠ 0 := by rw [h3]; decide
      obtain rfl : ntz = 0 := d1.trans (if_neg h0)
      obtain rfl : nnz = 0 := d2.trans (if_neg h0)
      obtain rfl : maz = 0 := d3.trans (if_neg h0)
      obtain rfl : mbz = 0 := d4.trans (if_neg h0)
      obtain rfl : wnz = 0 := d5.trans (if_neg h0)
      clear HCC CRN CRM CK HIN HZ1 d1 d2 d3 d4 d5 h0
      subst h1 h2 h3
      obtain ⟨y0, y1, y2⟩ := cells3 HY5.out
      go_wp2_with fail
      refine (CI.out _).mono ?_
      rintro e w6 ⟨rfl, hb⟩
      have HB6 := Lib.hid (trans' HB5.out hb)
      have HV6 := Lib.hid (keepb hb HV5.out)
      clear hb HB5 HV5
      obtain ⟨v0, v1, -, -⟩ := two_cells HV6.out
      have hE := eq_range 0 0 0 0
      have hG := guard_range
      go_wp2_with fail
      go_ret
      exact ⟨rfl, HB6.out⟩
    · obtain rfl : ntz = nt := d1.trans (if_pos h4)
      obtain rfl : nnz = nn := d2.trans (if_pos h4)
      obtain rfl : maz = ma := d3.trans (if_pos h4)
      obtain rfl : mbz = mb := d4.trans (if_pos h4)
      obtain rfl : wnz = wn := d5.trans (if_pos h4)
      have CN1 := Lib.hid (CRN.out h1 h3)
      have CM1 := Lib.hid (CRM.out h1 h3)
      have CK1 := Lib.hid (CK.out h1 h3)
      obtain ⟨⟨i0, i1⟩, i2, i3, i4, i5⟩ := HIN.out h1 h3
      have HI1 := Lib.hid (And.intro i0 i1)
      have CW : Hid (∀ W, Calls Try.prog 20 #[.int .i64 ntz, .int .i64 maz, .int .i64 mbz] W fun e w' => e = .returned (.bool true) ∧ W = w') := fun W => by
        have h := Within_any ntz maz mbz W
        rwa [decide_eq_true HI1.out] at h
      clear HCC CRN CRM CK HIN HZ1 d1 d2 d3 d4 d5 h3 i0 i1
      subst h1 h2 h4
      obtain ⟨y0, y1, y2⟩ := cells3 HY5.out
      go_wp2_with fail
      refine (CI.out _).mono ?_
      rintro e w6 ⟨rfl, hb⟩
      have HB6 := Lib.hid (trans' HB5.out hb)
      have HP6 := Lib.hid (keepb hb HP5.out)
      have HY6 := Lib.hid (keepb hb HY5.out)
      have HV6 := Lib.hid (keepb hb HV5.out)
      clear hb HB5 HP5 HY5 HV5
      clear y0 y1 y2
      obtain ⟨k0, k1, k2⟩ := cells3 HP6.out
      obtain ⟨y0, y1, y2⟩ := cells3 HY6.out
      go_wp2_with fail
      refine (CN1.out _ HB6.out).mono ?_
      rintro e w7 ⟨rfl, hb⟩
      have HB7 := Lib.hid (trans' HB6.out hb)
      have HP7 := Lib.hid (keepb hb HP6.out)
      have HY7 := Lib.hid (keepb hb HY6.out)
      have HV7 := Lib.hid (keepb hb HV6.out)
      clear hb HB6 HP6 HY6 HV6
      clear k0 k1 k2 y0 y1 y2
      obtain ⟨k0, k1, k2⟩ := cells3 HP7.out
      obtain ⟨y0, y1, y2⟩ := cells3 HY7.out
      go_wp2_with fail
      refine (CM1.out _ HB7.out).mono ?_
      rintro e w8 ⟨rfl, hb⟩
      have HB8 := Lib.hid (trans' HB7.out hb)
      have HP8 := Lib.hid (keepb hb HP7.out)
      have HY8 := Lib.hid (keepb hb HY7.out)
      have HV8 := Lib.hid (keepb hb HV7.out)
      clear hb HB7 HP7 HY7 HV7
      clear k0 k1 k2 y0 y1 y2
      go_upto_region 14 with fail
      obtain ⟨w9, hW⟩ : ∃ w9, w9 = w8.alloc (.cells #[.int .i64 maz, .int .i64 mbz] 42) := ⟨_, rfl⟩
      rw [← hW]
      have hb := new_below w8 (.cells #[.int .i64 maz, .int .i64 mbz] 42)
      rw [← hW] at hb
      have HU9 := Lib.hid (show w9.heap[w8.heap.size]? = some (.cells #[.int .i64 maz, .int .i64 mbz] 42 (0, 0)) by rw [hW]; exact heap_alloc_new _ _)
      have HB9 := Lib.hid (trans' HB8.out hb)
      have HP9 := Lib.hid (keepb hb HP8.out)
      have HY9 := Lib.hid (keepb hb HY8.out)
      have HV9 := Lib.hid (keepb hb HV8.out)
      clear hW hb HB8 HP8 HY8 HV8
      obtain ⟨k0, k1, k2⟩ := cells3 HP9.out
      obtain ⟨y0, y1, y2⟩ := cells3 HY9.out
      obtain ⟨v0, v1, -, -⟩ := two_cells HV9.out
      go_region_held3 (fun W => W.cell? ⟨w.heap.size, 0, none⟩ = some (.string nm) ∧ W.cell? ⟨w.heap.size, 1, none⟩ = some (.int .i64 bend) ∧ W.cell? ⟨w.heap.size, 2, none⟩ = some (.slice p n cap) ∧ W.cell? ⟨w.heap.size + 1, 0, none⟩ = some (.int .i64 x) ∧ W.cell? ⟨w.heap.size + 1, 1, none⟩ = some (.int .i64 y) ∧ W.cell? ⟨w.heap.size + 1, 2, none⟩ = some (.int .i64 z) ∧ W.cell? ⟨b8, 0, none⟩ = some (.int .i64 maz) ∧ W.cell? ⟨b8, 1, none⟩ = some (.int .i64 mbz))
        (with_reducible refine ⟨keepc ?_ k0, keepc ?_ k1, keepc ?_ k2, keepc ?_ y0, keepc ?_ y1, keepc ?_ y2, keepc ?_ v0, keepc ?_ v1⟩ <;> (repeat (first | with_reducible exact Below.refl _ _ | with_reducible refine andThen ?_ hbP | with_reducible refine andThen ?_ hbY | with_reducible refine alloc1 ?_ _ | with_reducible refine Below.drew ?_ | with_reducible refine drewN1 ?_ _ | with_reducible refine setC ?_ (by omega) _)) <;> done)
        (first
          | (go_at_call 17; (with_reducible refine (CY.out _ (trans' HB9.out (by (repeat (first | with_reducible exact Below.refl _ _ | with_reducible refine alloc1 ?_ _ | with_reducible refine Below.drew ?_ | with_reducible refine drewN1 ?_ _ | with_reducible refine setC ?_ (by omega) _))))).mono ?_); rintro e wY ⟨v3, rfl, hbY, hv3⟩)
          | (go_at_call 41; (with_reducible refine (CK1.out _ _ hv3).mono ?_); rintro e wP ⟨rfl, hbP⟩))
      have hb3 : Below w9.heap.size w9 wP := andThen (andThen ((Below.refl _ w9).drew) hbY) hbP
      obtain ⟨w10, hw10⟩ : ∃ w10, w10 = wP := ⟨_, rfl⟩
      rw [← hw10] at hb3 ⊢
      have HB10 := Lib.hid (trans' HB9.out hb3)
      have HV10 := Lib.hid (keepb hb3 HV9.out)
      have HU10 := Lib.hid (keepb hb3 HU9.out)
      clear hb3 hbY hbP hv3 hw10 k0 k1 k2 y0 y1 y2 v0 v1 HB9 HP9 HY9 HV9 HU9 CK1 CY CN1 CM1
      obtain ⟨v0, v1, -, -⟩ := two_cells HV10.out
      obtain ⟨u0, u1, -, -⟩ := two_cells HU10.out
      have hE := eq_range maz mbz maz mbz
      have hG := guard_range
      have o1 : IntKind.i64.wrap (mbz - maz) = mbz - maz := IntWalk.i64_in _ (by omega)
      have o2 : IntKind.i64.wrap (mbz - maz + 1) = mbz - maz + 1 := IntWalk.i64_in _ (by omega)
      go_wp2_with fail
      refine (CW.out _).mono ?_
      rintro e w11 ⟨rfl, rfl⟩
      go_wp2_with fail
      go_ret
      exact ⟨rfl, HB10.out⟩
end Go.Proofs.Ytodpjhhogcfodaa.Orb
