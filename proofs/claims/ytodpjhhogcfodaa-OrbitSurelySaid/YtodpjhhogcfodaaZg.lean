import Derived.Test.YtodpjhhogcfodaaZc
import Derived.Test.YtodpjhhogcfodaaZf
import Derived.Test.YtodpjhhogcfodaaYo
import Derived.BigQuiet
import Derived.Deep.Quiet
import Derived.Deep.RegionHeld3
import Derived.IntWalk
import Derived.Outline
namespace Go.Proofs.Ytodpjhhogcfodaa.Orb
open Go.RowKit Lib

theorem cells4 {W : World} {b : Nat} {x y z u : Value} {t : TypeId} (h : W.heap[b]? = some (.cells #[x, y, z, u] t (0, 0))) :
    W.cell? ⟨b, 0, none⟩ = some x ∧ W.cell? ⟨b, 1, none⟩ = some y ∧ W.cell? ⟨b, 2, none⟩ = some z ∧ W.cell? ⟨b, 3, none⟩ = some u := by
  refine ⟨?_, ?_, ?_, ?_⟩ <;> (rw [cell_of_row _ _ _ _ _ _ h]; rfl)
theorem sqA_size {lo hi A c : Nat → Int} (h : ∀ k, k < 3 → (-110000000 ≤ lo k ∧ lo k ≤ 110000000) ∧ (-110000000 ≤ hi k ∧ hi k ≤ 110000000) ∧ (-100000000 ≤ c k ∧ c k ≤ 100000000)) (ha : ∀ i, i < 3 → lo i ≤ A i ∧ A i ≤ hi i) : ∀ k, k ≤ 3 → 0 ≤ sqA A c k ∧ sqA A c k ≤ 300000000000000000
  | k, hk => by
    obtain ⟨a1, a2, a3, a4⟩ := sq_size lo hi c h k hk
    obtain ⟨b1, b2⟩ := sqA_in (lo := lo) (hi := hi) (A := A) (c := c) ha k hk
    omega
/-- the square that the law reckons at a tick -/
def sqT (bend : Int) (L : List St) (np : Nat) (part : Nat → Nat → Int) (x y z t : Int) : Int := sqA (atI (loC bend L t) (hiC bend L t) (part (t % (np : Int)).toNat)) (cc3 x y z) 3

set_option maxRecDepth 100000 in
set_option maxHeartbeats 8000000 in
theorem surely_law (nm : ByteArray) (bend : Int) (L : List St) (u pv : Value) (np : Nat) (part : Nat → Nat → Int) (x y z lo hi wt : Int) (w : World) (hv : OV w (.agg #[.string nm, .int .i64 bend, u]) nm bend L) (hI : ∀ k, (gt L k).t ≤ 9223372036854775807) (hP : Parts w pv np part) :
    Calls Try.prog 8 #[.agg #[.string nm, .int .i64 bend, u, pv], .agg #[.int .i64 x, .int .i64 y, .int .i64 z], .agg #[.int .i64 lo, .int .i64 hi, .int .i64 wt]] w fun e w' => e = .returned (.bool true) ∧ Below w.heap.size w w' := by
  have CA := Lib.hid awake_any
  have CF := Lib.hid (fun W (h : Below w.heap.size w W) => Brief_any _ nm bend L W (hv.next h))
  obtain ⟨sp, cap, hvf, -, -, -⟩ := hv.form
  obtain rfl : u = .slice sp L.length cap := by simpa using hvf
  obtain ⟨pa, pcap, rfl, hpc, hnp, hpc2⟩ := hP
  have hnpb : (np : Int) ≤ 9223372036854775807 := by omega
  have CE := Lib.hid (fun (hs : nm.size ≤ 1000) W (h : Below w.heap.size w W) => refErr_any _ nm hs bend L W (hv.next h))
  have CI := Lib.hid (fun W => IsPlace_any x y z W)
  have HBR := Lib.hid (fun (h : briefB nm.size (nameE nm) bend L = true) => show nm.size ≤ 30 ∧ L.length ≤ 42 from fewB_true (briefB_true h).1)
  have CY := Lib.hid (fun (h : L.length ≤ 1000) W (hb : Below w.heap.size w W) => Copy_any _ nm bend L h W (hv.next hb))
  have CK := Lib.hid (fun (hs : nm.size ≤ 1000) (hn : L.length ≤ 1000) v2 W (h : OV W v2 nm bend L) => CheckNearest_any v2 nm hs bend L hn hI x y z lo hi wt W h)
  have HCR := Lib.hid (fun (h1 : (orbE (nameE nm) bend L).2 = 0) (h2 : placeE x y z = 0) => @chN_right (nameE nm) bend L x y z lo hi wt h1 h2)
  have HPB := Lib.hid (fun (h : placeB x y z = true) => (placeB_iff x y z).1 h)
  have CO := Lib.hid (fun (h0 : 0 < L.length) W (h : Below w.heap.size w W) => First_any _ nm bend L h0 W (hv.next h))
  have CL := Lib.hid (fun (h0 : 0 < L.length) (hn : L.length ≤ 1000) W (h : Below w.heap.size w W) => Last_any _ nm bend L h0 hn W (hv.next h))
  have CB : Hid ((orbE (nameE nm) bend L).2 = 0 → nm.size ≤ 1000 → L.length ≤ 1000 → ∀ t, fst L ≤ t → t ≤ lst L → ∀ v2 W, OV W v2 nm bend L → Calls Try.prog 45 #[v2, .int .i64 t] W fun e w' => e = .returned (.tuple #[.agg #[.int .i64 (loC bend L t 0), .int .i64 (hiC bend L t 0), .int .i64 (loC bend L t 1), .int .i64 (hiC bend L t 1), .int .i64 (loC bend L t 2), .int .i64 (hiC bend L t 2)], .int .i64 0]) ∧ Below W.heap.size W w') := fun h1 hs hn t a b v2 W h => by
    have hz : tkE (nameE nm) bend L t = 0 := by
      have n0 := (Rt.of h1).2.n0
      exact tkE_of h1 a b (by omega)
    have hb := BoxAt_any v2 nm hs bend L hn hI t W h
    rw [hz] at hb
    exact hb
  have HSQ := Lib.hid (fun (h1 : (orbE (nameE nm) bend L).2 = 0) (h2 : placeE x y z = 0) t (a : fst L ≤ t) (b : t ≤ lst L) => sq_range (Rt.of h1).2 a b h2)
  have HSU : Hid ((orbE (nameE nm) bend L).2 = 0 → placeE x y z = 0 → (chN (nameE nm) bend L x y z lo hi wt).2 = 0 → (lo ≤ (bestF (sqT bend L np part x y z) (ticksOf (fst L) (nTicks L))).1 ∧ (bestF (sqT bend L np part x y z) (ticksOf (fst L) (nTicks L))).1 ≤ hi) ∧ (chN (nameE nm) bend L x y z lo hi wt).1 = hi - lo + 1 ∧ lo ≤ hi ∧ (0 ≤ lo ∧ hi ≤ 1000000000)) := fun h1 h2 h3 => by
    rw [chN_right h1 h2] at h3 ⊢
    refine surely (Rt.of h1).2 h3 (sqT bend L np part x y z) fun t a b => ?_
    have hr := sq_range (Rt.of h1).2 a b h2
    have ha := sqA_in (lo := loC bend L t) (hi := hiC bend L t) (A := atI (loC bend L t) (hiC bend L t) (part (t % (np : Int)).toNat)) (c := cc3 x y z) (fun i hi => atI_in _ _ _ i (hr.2.2.2.1 i hi)) 3 (Nat.le_refl _)
    exact ⟨ha.1, ha.2, Int.le_trans hr.1.1 ha.1⟩
  have HTT := Lib.hid (fun (h1 : (orbE (nameE nm) bend L).2 = 0) => by
    have hR := (Rt.of h1).2
    have n0 := hR.n0
    have hlo : 0 ≤ fst L := (hR.st 0 (by omega)).t0
    have hhi : lst L ≤ 1000000000 := (hR.st (L.length - 1) (by omega)).t1
    have hle : fst L ≤ lst L := hR.le 0 (L.length - 1) (Nat.zero_le _) (by omega)
    have hnt : (nTicks L : Int) = lst L - fst L + 1 := by unfold nTicks; omega
    exact (⟨hlo, hhi, hnt, by omega⟩ : 0 ≤ fst L ∧ lst L ≤ 1000000000 ∧ (nTicks L : Int) = lst L - fst L + 1 ∧ 0 < L.length))
  have HPC := Lib.hid hpc2
  have HPLZ := Lib.hid (fun (h : placeE x y z = 0) => (placeE_zero x y z).1 h)
  clear hv hI hpc2 hvf
  generalize briefB nm.size (nameE nm) bend L = bb at *
  generalize chN (nameE nm) bend L x y z lo hi wt = R at *
  generalize (orbE (nameE nm) bend L).2 = e1 at *
  generalize placeB x y z = pb at *
  generalize placeE x y z = pe at *
  obtain ⟨r1, r2⟩ := R
  dsimp only at *
  generalize nTicks L = m at *
  generalize fst L = f at *
  generalize lst L = la at *
  generalize L.length = n at *
  generalize nm.size = nms at *
  go_enter Try.func8, Try.ntmps8
  go_wp2_with fail
  obtain ⟨w0, hW⟩ : ∃ w0, w0 = ((w.alloc (.cells #[.string nm, .int .i64 bend, .slice sp n cap, .slice pa np pcap] 79)).alloc (.cells #[.int .i64 x, .int .i64 y, .int .i64 z] 26)).alloc (.cells #[.int .i64 lo, .int .i64 hi, .int .i64 wt] 73) := ⟨_, rfl⟩
  rw [← hW]
  have HB0 := Lib.hid (show Below w.heap.size w w0 by rw [hW]; (repeat (first | with_reducible exact Below.refl _ _ | with_reducible refine alloc1 ?_ _ | with_reducible refine Below.drew ?_ | with_reducible refine drewN1 ?_ _ | with_reducible refine setC ?_ (by omega) _)))
  have HF0 := Lib.hid (show w0.heap[w.heap.size]? = some (.cells #[.string nm, .int .i64 bend, .slice sp n cap, .slice pa np pcap] 79 (0, 0)) by rw [hW]; (repeat (first | ((with_reducible refine hnew ?_); (simp; done)) | with_reducible refine hdrew ?_ | with_reducible refine hold ?_)))
  have HY0 := Lib.hid (show w0.heap[w.heap.size + 1]? = some (.cells #[.int .i64 x, .int .i64 y, .int .i64 z] 26 (0, 0)) by rw [hW]; (repeat (first | ((with_reducible refine hnew ?_); (simp; done)) | with_reducible refine hdrew ?_ | with_reducible refine hold ?_)))
  have HM0 := Lib.hid (show w0.heap[w.heap.size + 1 + 1]? = some (.cells #[.int .i64 lo, .int .i64 hi, .int .i64 wt] 73 (0, 0)) by rw [hW]; (repeat (first | ((with_reducible refine hnew ?_); (simp; done)) | with_reducible refine hdrew ?_ | with_reducible refine hold ?_)))
  clear hW
  refine (CA.out _).mono ?_
  rintro e w1 ⟨rfl, hb⟩
  have HB1 := Lib.hid (trans' HB0.out hb)
  have HF1 := Lib.hid (keepb hb HF0.out)
  have HY1 := Lib.hid (keepb hb HY0.out)
  have HM1 := Lib.hid (keepb hb HM0.out)
  clear hb HB0 HF0 HY0 HM0
  clear CA
  obtain ⟨f0, f1, f2, f3⟩ := cells4 HF1.out
  go_upto_region 4 with fail
  obtain ⟨w2, hW⟩ : ∃ w2, w2 = w1.alloc (.cells #[.string nm, .int .i64 bend, .slice sp n cap] 24) := ⟨_, rfl⟩
  rw [← hW]
  have hb := new_below w1 (.cells #[.string nm, .int .i64 bend, .slice sp n cap] 24)
  rw [← hW] at hb
  have HP2 := Lib.hid (show w2.heap[w1.heap.size]? = some (.cells #[.string nm, .int .i64 bend, .slice sp n cap] 24 (0, 0)) by rw [hW]; exact heap_alloc_new _ _)
  have HB2 := Lib.hid (trans' HB1.out hb)
  have HF2 := Lib.hid (keepb hb HF1.out)
  have HY2 := Lib.hid (keepb hb HY1.out)
  have HM2 := Lib.hid (keepb hb HM1.out)
  clear hW hb HB1 HF1 HY1 HM1
  clear f0 f1 f2 f3
  obtain ⟨k0, k1, k2⟩ := cells3 HP2.out
  cases bb with
  | false =>
    go_wp2_with fail
    refine (CF.out _ HB2.out).mono ?_
    rintro e w3 ⟨rfl, hb⟩
    have HB3 := Lib.hid (trans' HB2.out hb)
    clear hb HB2
    go_wp2_with fail
    go_ret
    exact ⟨rfl, HB3.out⟩
  | true =>
    obtain ⟨hs1, hn1⟩ := HBR.out rfl
    have CE1 := Lib.hid (CE.out (by omega))
    have CY1 := Lib.hid (CY.out (by omega))
    have CK1 := Lib.hid (CK.out (by omega) (by omega))
    have CB1 := Lib.hid (fun h => CB.out h (by omega) (by omega))
    have CL1 := Lib.hid (fun h => CL.out h (by omega))
    clear CE CY CK CB CL HBR hs1
    have hne : e1 = 0 ∨ (e1 != 0) = true := by
      by_cases h : e1 = 0
      · exact .inl h
      · exact .inr (by rw [bne_iff_ne]; exact h)
    rcases hne with h1 | hne
    · have hTT := HTT.out h1
      have HT := Lib.hid hTT
      have HSQ1 := Lib.hid (HSQ.out h1)
      have HSU1 := Lib.hid (HSU.out h1)
      have HCB := Lib.hid (CB1.out h1)
      have CO1 := Lib.hid (CO.out hTT.2.2.2)
      have CL2 := Lib.hid (CL1.out hTT.2.2.2)
      clear HTT hTT HSQ HSU CB1 HCR CO CL1
      subst h1
      go_wp2_with fail
      refine (CF.out _ HB2.out).mono ?_
      rintro e w3 ⟨rfl, hb⟩
      have HB3 := Lib.hid (trans' HB2.out hb)
      have HP3 := Lib.hid (keepb hb HP2.out)
      have HF3 := Lib.hid (keepb hb HF2.out)
      have HY3 := Lib.hid (keepb hb HY2.out)
      have HM3 := Lib.hid (keepb hb HM2.out)
      clear hb HB2 HP2 HF2 HY2 HM2
      clear k0 k1 k2
      obtain ⟨k0, k1, k2⟩ := cells3 HP3.out
      go_wp2_with fail
      refine (CE1.out _ HB3.out).mono ?_
      rintro e w4 ⟨rfl, hb⟩
      have HB4 := Lib.hid (trans' HB3.out hb)
      have HP4 := Lib.hid (keepb hb HP3.out)
      have HF4 := Lib.hid (keepb hb HF3.out)
      have HY4 := Lib.hid (keepb hb HY3.out)
      have HM4 := Lib.hid (keepb hb HM3.out)
      clear hb HB3 HP3 HF3 HY3 HM3
      clear k0 k1 k2 CF CE1
      obtain ⟨y0, y1, y2⟩ := cells3 HY4.out
      cases pb with
      | false =>
        go_wp2_with fail
        refine (CI.out _).mono ?_
        rintro e w5 ⟨rfl, hb⟩
        have HB5 := Lib.hid (trans' HB4.out hb)
        clear hb HB4
        go_wp2_with fail
        go_ret
        exact ⟨rfl, HB5.out⟩
      | true =>
        have hpe := HPB.out rfl
        have HSQ2 := Lib.hid (HSQ1.out hpe)
        have HPL := Lib.hid (HPLZ.out hpe)
        clear HPLZ
        have HSU2 := Lib.hid (HSU1.out hpe)
        clear HPB HSQ1 HSU1 hpe
        go_wp2_with fail
        refine (CI.out _).mono ?_
        rintro e w5 ⟨rfl, hb⟩
        have HB5 := Lib.hid (trans' HB4.out hb)
        have HP5 := Lib.hid (keepb hb HP4.out)
        have HF5 := Lib.hid (keepb hb HF4.out)
        have HY5 := Lib.hid (keepb hb HY4.out)
        have HM5 := Lib.hid (keepb hb HM4.out)
        clear hb y0 y1 y2 HB4 HP4 HF4 HY4 HM4 CI
        obtain ⟨f0, f1, f2, f3⟩ := cells4 HF5.out
        by_cases hz : np = 0
        · have hz1 : ((np : Int) == 0) = true := by rw [hz]; rfl
          subst hz
          go_wp2_with fail
          go_ret
          exact ⟨rfl, HB5.out⟩
        · have hz1 : ((np : Int) == 0) = false := by rw [beq_eq_false_iff_ne]; omega
          by_cases hg : 250 < np
          · have hg1 : (250 : Int) < (np : Int) := by omega
            go_wp2_with fail
            go_ret
            exact ⟨rfl, HB5.out⟩
          · have hg1 : ¬ (250 : Int) < (np : Int) := by omega
            clear f0 f1 f2 f3
            obtain ⟨f0, f1, f2, f3⟩ := cells4 HF5.out
            have hnp0 : 0 < np := by omega
            obtain ⟨pb, po, hpa, hpart⟩ := HPC.out hnp0
            subst hpa
            have HPT := Lib.hid hpart
            clear hpart HPC
            obtain ⟨k0, k1, k2⟩ := cells3 HP5.out
            obtain ⟨y0, y1, y2⟩ := cells3 HY5.out
            obtain ⟨m0, m1, m2⟩ := cells3 HM5.out
            go_upto_region 6 with fail
            go_region_held3 (fun W => W.cell? ⟨w1.heap.size, 0, none⟩ = some (.string nm) ∧ W.cell? ⟨w1.heap.size, 1, none⟩ = some (.int .i64 bend) ∧ W.cell? ⟨w1.heap.size, 2, none⟩ = some (.slice sp n cap) ∧ W.cell? ⟨w.heap.size + 1, 0, none⟩ = some (.int .i64 x) ∧ W.cell? ⟨w.heap.size + 1, 1, none⟩ = some (.int .i64 y) ∧ W.cell? ⟨w.heap.size + 1, 2, none⟩ = some (.int .i64 z) ∧ W.cell? ⟨w.heap.size + 1 + 1, 0, none⟩ = some (.int .i64 lo) ∧ W.cell? ⟨w.heap.size + 1 + 1, 1, none⟩ = some (.int .i64 hi) ∧ W.cell? ⟨w.heap.size + 1 + 1, 2, none⟩ = some (.int .i64 wt))
              (with_reducible refine ⟨keepc ?_ k0, keepc ?_ k1, keepc ?_ k2, keepc ?_ y0, keepc ?_ y1, keepc ?_ y2, keepc ?_ m0, keepc ?_ m1, keepc ?_ m2⟩ <;> (repeat (first | with_reducible exact Below.refl _ _ | with_reducible refine andThen ?_ hbP | with_reducible refine andThen ?_ hbY | with_reducible refine alloc1 ?_ _ | with_reducible refine Below.drew ?_ | with_reducible refine drewN1 ?_ _ | with_reducible refine setC ?_ (by omega) _)) <;> done)
              (first
                | (go_at_call 17; (with_reducible refine (CY1.out _ (trans' HB5.out (by (repeat (first | with_reducible exact Below.refl _ _ | with_reducible refine alloc1 ?_ _ | with_reducible refine Below.drew ?_ | with_reducible refine drewN1 ?_ _ | with_reducible refine setC ?_ (by omega) _))))).mono ?_); rintro e wY ⟨v3, rfl, hbY, hv3⟩)
                | (go_at_call 41; (with_reducible refine (CK1.out _ _ hv3).mono ?_); rintro e wP ⟨rfl, hbP⟩))
            have hb := andThen (andThen ((Below.refl _ w5).drew) hbY) hbP
            obtain ⟨w6, hw6⟩ : ∃ w6, w6 = wP := ⟨_, rfl⟩
            rw [← hw6] at hb ⊢
            have HB6 := Lib.hid (trans' HB5.out hb)
            have HP6 := Lib.hid (keepb hb HP5.out)
            have HF6 := Lib.hid (keepb hb HF5.out)
            have HY6 := Lib.hid (keepb hb HY5.out)
            have HM6 := Lib.hid (keepb hb HM5.out)
            clear hb hbY hbP hv3 hw6 k0 k1 k2 y0 y1 y2 m0 m1 m2 f0 f1 f2 f3 HB5 HP5 HF5 HY5 HM5 CK1
            by_cases hr2 : r2 = 0
            · obtain ⟨hin, hr1, hlh, hl0, hh1⟩ := HSU2.out hr2
              have HIN := Lib.hid hin
              have CWI : Hid (∀ W, Calls Try.prog 20 #[.int .i64 (bestF (sqT bend L np part x y z) (ticksOf f m)).1, .int .i64 lo, .int .i64 hi] W fun e w' => e = .returned (.bool true) ∧ W = w') := fun W => by
                have h := Within_any (bestF (sqT bend L np part x y z) (ticksOf f m)).1 lo hi W
                rwa [decide_eq_true HIN.out] at h
              have hr3 : ¬ r1 ≤ 0 := by omega
              have HBS := Lib.hid (bestF_snoc (sqT bend L np part x y z))
              have HB00 := Lib.hid (show bestF (sqT bend L np part x y z) [] = (0, -1) from rfl)
              have HSD := Lib.hid (fun t => show sqT bend L np part x y z t = sqA (atI (loC bend L t) (hiC bend L t) (part (t % (np : Int)).toNat)) (cc3 x y z) 3 from rfl)
              clear HSU2 hin hr1 hlh hl0 hh1 HIN
              subst hr2
              generalize bestF (sqT bend L np part x y z) = BF at *
              generalize sqT bend L np part x y z = SS at *
              obtain ⟨k0, k1, k2⟩ := cells3 HP6.out
              go_wp2_with fail
              refine (CO1.out _ HB6.out).mono ?_
              rintro e w7 ⟨rfl, hb⟩
              have HB7 := Lib.hid (trans' HB6.out hb)
              have HP7 := Lib.hid (keepb hb HP6.out)
              have HF7 := Lib.hid (keepb hb HF6.out)
              have HY7 := Lib.hid (keepb hb HY6.out)
              have HM7 := Lib.hid (keepb hb HM6.out)
              clear hb HB6 HP6 HF6 HY6 HM6
              clear k0 k1 k2 CO1
              go_wp2_with fail
              go_loopw [10, 11, 12] (fun b l t wr => ∃ k : Nat, k ≤ m ∧ b = .int .i64 (BF (ticksOf f k)).1 ∧ l = .int .i64 (BF (ticksOf f k)).2 ∧ t = .int .i64 (f + k) ∧ Hid (Below w.heap.size w wr) ∧ Hid (wr.heap[w1.heap.size]? = some (.cells #[.string nm, .int .i64 bend, .slice sp n cap] 24 (0, 0))) ∧ Hid (wr.heap[w.heap.size]? = some (.cells #[.string nm, .int .i64 bend, .slice sp n cap, .slice (some ⟨pb, po, none⟩) np pcap] 79 (0, 0))) ∧ Hid (wr.heap[w.heap.size + 1]? = some (.cells #[.int .i64 x, .int .i64 y, .int .i64 z] 26 (0, 0))) ∧ Hid (wr.heap[w.heap.size + 1 + 1]? = some (.cells #[.int .i64 lo, .int .i64 hi, .int .i64 wt] 73 (0, 0)))) (fun _ _ t _ => (la + 1 - intV t).toNat)
              case atStart => exact ⟨0, Nat.zero_le _, by rw [show ticksOf f 0 = [] from rfl, HB00.out], by rw [show ticksOf f 0 = [] from rfl, HB00.out], by simp, HB7, HP7, HF7, HY7, HM7⟩
              case round =>
                obtain ⟨k, hk, rfl, rfl, rfl, HBK, HPK, HFK, HYK, HMK⟩ := hrel
                obtain ⟨wz, rfl⟩ : ∃ wz : World, wz = wr := ⟨_, rfl⟩
                clear HB7 HP7 HF7 HY7 HM7
                obtain ⟨k0, k1, k2⟩ := cells3 HPK.out
                by_cases hkm : k < m
                · have hle2 : f + (k : Int) ≤ la := by have := HT.out.2.2.1; omega
                  have hge2 : f ≤ f + (k : Int) := by omega
                  have htt1 : 0 ≤ f + (k : Int) := by have := HT.out.1; omega
                  have htt2 : f + (k : Int) ≤ 1000000000 := by have := HT.out.2.1; omega
                  have HCB1 := Lib.hid (HCB.out _ hge2 hle2)
                  have HSQ3 := Lib.hid (HSQ2.out _ hge2 hle2)
                  have HSK : Hid (BF (ticksOf f (k + 1)) = if (BF (ticksOf f k)).2 < 0 ∨ SS (f + (k : Int)) < (BF (ticksOf f k)).2 then (f + (k : Int), SS (f + (k : Int))) else BF (ticksOf f k)) := by
                    rw [ticksOf_succ]; exact HBS.out _ _
                  have HSD1 := Lib.hid (HSD.out (f + (k : Int)))
                  obtain ⟨tm, htm⟩ : ∃ tm : Nat, (f + (k : Int)) % (np : Int) = (tm : Int) := ⟨((f + (k : Int)) % (np : Int)).toNat, by have := Int.emod_nonneg (f + (k : Int)) (show (np : Int) ≠ 0 by omega); omega⟩
                  have htl : (tm : Int) < (np : Int) := by rw [← htm]; exact Int.emod_lt_of_pos _ (by omega)
                  have CMD := Lib.hid (fun W => Mod_any (f + (k : Int)) (np : Int) (by omega) (by omega) W)
                  rw [htm] at CMD HSD1
                  have htn : ((tm : Int)).toNat = tm := by omega
                  rw [htn] at HSD1
                  have hpt := HPT.out tm (by omega)
                  obtain ⟨SL, hSL⟩ : ∃ SL : Nat → Int, SL = sqA (atI (loC bend L (f + (k : Int))) (hiC bend L (f + (k : Int))) (part tm)) (cc3 x y z) := ⟨_, rfl⟩
                  rw [← hSL] at HSD1
                  have HSL := Lib.hid hSL
                  have HPP := Lib.hid hpt
                  clear hSL htm hge2 HCB HSQ2 HBS HB00 HSD HPT hpt htn
                  generalize SS (f + (k : Int)) = sv at *
                  generalize loC bend L (f + (k : Int)) = LO at *
                  generalize hiC bend L (f + (k : Int)) = HI at *
                  generalize part tm = pt3 at *
                  generalize BF (ticksOf f k) = bf at *
                  obtain ⟨bf1, bf2⟩ := bf
                  dsimp only at *
                  go_wp2_with fail
                  refine (CL2.out _ HBK.out).mono ?_
                  rintro e w8 ⟨rfl, hb⟩
                  have HB8 := Lib.hid (trans' HBK.out hb)
                  have HP8 := Lib.hid (keepb hb HPK.out)
                  have HF8 := Lib.hid (keepb hb HFK.out)
                  have HY8 := Lib.hid (keepb hb HYK.out)
                  have HM8 := Lib.hid (keepb hb HMK.out)
                  clear hb HBK HPK HFK HYK HMK
                  clear k0 k1 k2 CL2
                  obtain ⟨k0, k1, k2⟩ := cells3 HP8.out
                  go_wp2_with fail
                  refine (CY1.out _ HB8.out).mono ?_
                  rintro e w9 ⟨v4, rfl, hb, hv4⟩
                  have HB9 := Lib.hid (trans' HB8.out hb)
                  have HP9 := Lib.hid (keepb hb HP8.out)
                  have HF9 := Lib.hid (keepb hb HF8.out)
                  have HY9 := Lib.hid (keepb hb HY8.out)
                  have HM9 := Lib.hid (keepb hb HM8.out)
                  clear hb HB8 HP8 HF8 HY8 HM8
                  clear k0 k1 k2 CY1
                  go_wp2_with fail
                  refine (HCB1.out _ _ hv4).mono ?_
                  rintro e w10 ⟨rfl, hb⟩
                  have HB10 := Lib.hid (trans' HB9.out hb)
                  have HP10 := Lib.hid (keepb hb HP9.out)
                  have HF10 := Lib.hid (keepb hb HF9.out)
                  have HY10 := Lib.hid (keepb hb HY9.out)
                  have HM10 := Lib.hid (keepb hb HM9.out)
                  clear hb hv4 HB9 HP9 HF9 HY9 HM9 HCB1
                  go_upto_region 16 with fail
                  obtain ⟨w11, hW⟩ : ∃ w11, w11 = w10.alloc (.cells #[.int .i64 (LO 0), .int .i64 (HI 0), .int .i64 (LO 1), .int .i64 (HI 1), .int .i64 (LO 2), .int .i64 (HI 2)] 49) := ⟨_, rfl⟩
                  rw [← hW]
                  have hb := new_below w10 (.cells #[.int .i64 (LO 0), .int .i64 (HI 0), .int .i64 (LO 1), .int .i64 (HI 1), .int .i64 (LO 2), .int .i64 (HI 2)] 49)
                  rw [← hW] at hb
                  have HX11 := Lib.hid (show w11.heap[w10.heap.size]? = some (.cells #[.int .i64 (LO 0), .int .i64 (HI 0), .int .i64 (LO 1), .int .i64 (HI 1), .int .i64 (LO 2), .int .i64 (HI 2)] 49 (0, 0)) by rw [hW]; exact heap_alloc_new _ _)
                  have HB11 := Lib.hid (trans' HB10.out hb)
                  have HP11 := Lib.hid (keepb hb HP10.out)
                  have HF11 := Lib.hid (keepb hb HF10.out)
                  have HY11 := Lib.hid (keepb hb HY10.out)
                  have HM11 := Lib.hid (keepb hb HM10.out)
                  clear hW hb HB10 HP10 HF10 HY10 HM10
                  obtain ⟨f0, f1, f2, f3⟩ := cells4 HF11.out
                  obtain ⟨p0, p1, p2⟩ := HPP.out
                  have p0 := keepc HB11.out p0
                  have p1 := keepc HB11.out p1
                  have p2 := keepc HB11.out p2
                  have t0 : (0 : Int) ≤ (tm : Int) := by omega
                  go_cut [15] from 82 to 90 (fun s15 wx => ∃ b15, s15 = .pointer (some ⟨b15, 0, none⟩) ∧ Hid (Below w11.heap.size w11 wx) ∧ Hid (wx.heap[b15]? = some (.cells #[.int .i64 (pt3 0), .int .i64 (pt3 1), .int .i64 (pt3 2)] 82 (0, 0))))
                  case first =>
                    go_region_held3 (fun W => W.cell? ⟨w.heap.size, 3, none⟩ = some (.slice (some ⟨pb, po, none⟩) np pcap) ∧ W.cell? ⟨pb, po + tm * 3, none⟩ = some (.int .i64 (pt3 0)) ∧ W.cell? ⟨pb, po + tm * 3 + 1, none⟩ = some (.int .i64 (pt3 1)) ∧ W.cell? ⟨pb, po + tm * 3 + 2, none⟩ = some (.int .i64 (pt3 2)))
                      (with_reducible refine ⟨keepc ?_ f3, keepc ?_ p0, keepc ?_ p1, keepc ?_ p2⟩ <;> (repeat (first | with_reducible exact Below.refl _ _ | with_reducible refine alloc1 ?_ _ | with_reducible refine Below.drew ?_ | with_reducible refine drewN1 ?_ _ | with_reducible refine setC ?_ (by omega) _)) <;> done)
                      (first
                        | (go_at_call 46; (with_reducible refine (CMD.out _).mono ?_); rintro e wM ⟨rfl, rfl⟩))
                    all_goals
                      go_wp2_with fail
                      go_meet
                      case rel => exact ⟨_, rfl, Lib.hid (by (repeat (first | with_reducible exact Below.refl _ _ | with_reducible refine alloc1 ?_ _ | with_reducible refine Below.drew ?_ | with_reducible refine drewN1 ?_ _ | with_reducible refine setC ?_ (by omega) _))), Lib.hid (by (repeat (first | ((with_reducible refine hnew ?_); (simp; done)) | with_reducible refine hdrew ?_ | with_reducible refine hold ?_)))⟩
                  obtain ⟨b15, rfl, HBQ, H15⟩ := hcut
                  obtain ⟨w12, rfl⟩ : ∃ w12 : World, w12 = wc := ⟨_, rfl⟩
                  have HB12 := Lib.hid (trans' HB11.out HBQ.out)
                  have HP12 := Lib.hid (keepb HBQ.out HP11.out)
                  have HF12 := Lib.hid (keepb HBQ.out HF11.out)
                  have HY12 := Lib.hid (keepb HBQ.out HY11.out)
                  have HM12 := Lib.hid (keepb HBQ.out HM11.out)
                  have HX12 := Lib.hid (show w12.heap[w10.heap.size]? = some (.cells (boxCells LO HI 3) 49 (0, 0)) from keepb HBQ.out HX11.out)
                  have HT12 := Lib.hid H15.out
                  clear HBQ H15 f0 f1 f2 f3 p0 p1 p2 t0 HB11 HP11 HF11 HY11 HM11 HX11 CMD HPP
                  go_wp2_with fail
                  go_loopw [16, 17] (fun s i wr => ∃ j : Nat, j ≤ 3 ∧ s = .int .i64 (SL j) ∧ i = .int .i64 j ∧ Hid (Below w.heap.size w wr) ∧ Hid (wr.heap[w1.heap.size]? = some (.cells #[.string nm, .int .i64 bend, .slice sp n cap] 24 (0, 0))) ∧ Hid (wr.heap[w.heap.size]? = some (.cells #[.string nm, .int .i64 bend, .slice sp n cap, .slice (some ⟨pb, po, none⟩) np pcap] 79 (0, 0))) ∧ Hid (wr.heap[w.heap.size + 1]? = some (.cells #[.int .i64 x, .int .i64 y, .int .i64 z] 26 (0, 0))) ∧ Hid (wr.heap[w.heap.size + 1 + 1]? = some (.cells #[.int .i64 lo, .int .i64 hi, .int .i64 wt] 73 (0, 0))) ∧ Hid (wr.heap[w10.heap.size]? = some (.cells (boxCells LO HI 3) 49 (0, 0))) ∧ Hid (wr.heap[b15]? = some (.cells #[.int .i64 (pt3 0), .int .i64 (pt3 1), .int .i64 (pt3 2)] 82 (0, 0)))) (fun _ i _ => 3 - (intV i).toNat)
                  case atStart => exact ⟨0, Nat.zero_le _, by rw [HSL.out]; rfl, rfl, HB12, HP12, HF12, HY12, HM12, HX12, HT12⟩
                  case round =>
                    obtain ⟨j, hj, rfl, rfl, HBJ, HPJ, HFJ, HYJ, HMJ, HXJ, HTJ⟩ := hrel
                    obtain ⟨wj, rfl⟩ : ∃ wj : World, wj = wr := ⟨_, rfl⟩
                    clear HB12 HP12 HF12 HY12 HM12 HX12 HT12
                    by_cases hj3 : j < 3
                    · obtain ⟨-, -, hbd, hlh2, -⟩ := HSQ3.out
                      obtain ⟨⟨g1, g2⟩, g3, g4⟩ := hbd j hj3
                      have g5 := hlh2 j hj3
                      obtain ⟨⟨c1, c2⟩, ⟨c3, c4⟩, c5, c6⟩ := HPL.out
                      have hcj : -100000000 ≤ cc3 x y z j ∧ cc3 x y z j ≤ 100000000 := by
                        unfold cc3
                        split
                        · omega
                        · split <;> omega
                      have HSZ := Lib.hid (sqA_size (lo := LO) (hi := HI) (A := atI LO HI pt3) (c := cc3 x y z) (fun i hi => ⟨(hbd i hi).1, (hbd i hi).2, by
                        unfold cc3
                        split
                        · omega
                        · split <;> omega⟩) (fun i hi => atI_in LO HI pt3 i (hlh2 i hi)) j (by omega))
                      have ha := atI_in LO HI pt3 j g5
                      have s1 : SL (j + 1) = SL j + (atI LO HI pt3 j - cc3 x y z j) * (atI LO HI pt3 j - cc3 x y z j) := by rw [HSL.out]; rfl
                      have hsz := HSZ.out
                      rw [← HSL.out] at hsz
                      have hat : atI LO HI pt3 j = LO j + ((HI j - LO j) * (pt3 j % 1001)) / 1000 := rfl
                      have md0 : 0 ≤ pt3 j % 1001 := Int.emod_nonneg _ (by decide)
                      have md1 : pt3 j % 1001 ≤ 1000 := by have := Int.emod_lt_of_pos (pt3 j) (show (0 : Int) < 1001 by decide); omega
                      have har := arr_read x y z j hj3
                      have CM := Lib.hid (fun W => Mod_any (pt3 j) 1001 (by decide) (by decide) W)
                      have CW : Hid (∀ W, Calls Try.prog 20 #[.int .i64 (LO j), .int .i64 (-200000000), .int .i64 (HI j)] W fun e w' => e = .returned (.bool true) ∧ W = w') := fun W => by
                        have h := Within_any (LO j) (-200000000) (HI j) W
                        rwa [decide_eq_true (show -200000000 ≤ LO j ∧ LO j ≤ HI j from ⟨by omega, g5⟩)] at h
                      generalize hpj : pt3 j = pj at *
                      generalize hmd : pj % 1001 = md at *
                      generalize hlj : LO j = lj at *
                      generalize hhj : HI j = hj' at *
                      generalize hcc : cc3 x y z j = cj at *
                      generalize hSj : SL j = sj at *
                      generalize hSn : SL (j + 1) = sn at *
                      have hm := mul_bd (hj' - lj) md 220000000 (by omega) (by omega) (by omega) (by omega)
                      have E1 := Lib.hid (show IntKind.i64.wrap (hj' - lj) = hj' - lj from IntWalk.i64_in _ (by omega))
                      have E2 := Lib.hid (show IntKind.i64.wrap ((hj' - lj) * md) = (hj' - lj) * md from IntWalk.i64_in _ (by omega))
                      have CFL := Lib.hid (fun W => Floor_any ((hj' - lj) * md) 1000 (by decide) (by decide) (by omega) (by omega) W)
                      generalize hfl : ((hj' - lj) * md) / 1000 = fl at *
                      generalize haj : atI LO HI pt3 j = aj at *
                      have E3 := Lib.hid (show IntKind.i64.wrap (lj + fl) = aj by rw [← hat]; exact IntWalk.i64_in _ (by omega))
                      have e4 : IntKind.i64.wrap (aj - cj) = aj - cj := IntWalk.i64_in _ (by omega)
                      have hq := sq_bd (aj - cj) (by omega) (by omega)
                      have hdd : ∃ qq, qq = (aj - cj) * (aj - cj) := ⟨_, rfl⟩
                      obtain ⟨qq, hqq⟩ := hdd
                      rw [← hqq] at s1 hq
                      have e5 : IntKind.i64.wrap ((aj - cj) * (aj - cj)) = qq := by rw [← hqq]; exact IntWalk.i64_in _ (by omega)
                      have e6 : IntKind.i64.wrap (sj + qq) = sn := by rw [s1]; exact IntWalk.i64_in _ (by omega)
                      have j0 : (0 : Int) ≤ (j : Int) := by omega
                      have j1 : (j : Int) < 3 := by omega
                      have hgt : ¬ 200000000 < hj' := by omega
                      have HLX := Lib.hid (fun (W : World) (h : W.heap[w10.heap.size]? = some (.cells (boxCells LO HI 3) 49 (0, 0))) => (by have := box_read hj3 h; rw [hlj, hhj] at this; exact this : W.cell? ⟨w10.heap.size, j * 2, none⟩ = some (.int .i64 lj) ∧ W.cell? ⟨w10.heap.size, j * 2 + 1, none⟩ = some (.int .i64 hj')))
                      have HLT := Lib.hid (fun (W : World) (h : W.heap[b15]? = some (.cells #[.int .i64 (pt3 0), .int .i64 (pt3 1), .int .i64 (pt3 2)] 82 (0, 0))) => (by have := tri_readC hj3 h; rw [hpj] at this; exact this : W.cell? ⟨b15, j, none⟩ = some (.int .i64 pj)))
                      have HE4 := Lib.hid (And.intro e4 (And.intro e5 e6))
                      have HAR2 := Lib.hid har
                      have HSNX := Lib.hid hSn
                      clear hbd hlh2 g1 g2 g3 g4 g5 c1 c2 c3 c4 c5 c6 hcj HSZ ha s1 hsz hat md0 md1 hpj hmd hlj hhj hcc hSj hm hfl haj hq hqq e4 e5 e6 har hSn
                      go_upto_region 21 with fail
                      refine wp_region_quiet (C := fun W' => Below wj.heap.size wj W') (by kernel_rfl) (by kernel_rfl) (Below.refl _ wj).drew ?_
                      refine Go.BigFrame.wpQuiet_want (by rfl) (fun K hK => ⟨.int .i64 j, fun WQ hWQ => ?_, hK _ ?_⟩)
                      · clear hK
                        unfold Oper.quietAt
                        go_simp
                      clear hK K
                      simp only [Act.put, List.setIfInBounds_toArray, List.set_cons_succ, List.set_cons_zero]
                      refine Go.BigFrame.wpQuiet_want (by rfl) (fun K hK => ⟨.pointer (some ⟨w10.heap.size, j * 2, none⟩), fun WQ hWQ => ?_, hK _ ?_⟩)
                      · clear hK
                        unfold Oper.quietAt
                        go_simp
                      clear hK K
                      simp only [Act.put, List.setIfInBounds_toArray, List.set_cons_succ, List.set_cons_zero]
                      refine Go.BigFrame.wpQuiet_want (by rfl) (fun K hK => ⟨.pointer (some ⟨w10.heap.size, j * 2, none⟩), fun WQ hWQ => ?_, hK _ ?_⟩)
                      · clear hK
                        unfold Oper.quietAt
                        go_simp
                      clear hK K
                      simp only [Act.put, List.setIfInBounds_toArray, List.set_cons_succ, List.set_cons_zero]
                      refine Go.BigFrame.wpQuiet_want (by rfl) (fun K hK => ⟨.int .i64 lj, fun WQ hWQ => ?_, hK _ ?_⟩)
                      · clear hK
                        obtain ⟨q0, q1⟩ := HLX.out WQ (keepb hWQ HXJ.out)
                        unfold Oper.quietAt
                        go_simp
                      clear hK K
                      simp only [Act.put, List.setIfInBounds_toArray, List.set_cons_succ, List.set_cons_zero]
                      refine Go.BigFrame.wpQuiet_want (by rfl) (fun K hK => ⟨.int .i64 j, fun WQ hWQ => ?_, hK _ ?_⟩)
                      · clear hK
                        unfold Oper.quietAt
                        go_simp
                      clear hK K
                      simp only [Act.put, List.setIfInBounds_toArray, List.set_cons_succ, List.set_cons_zero]
                      refine Go.BigFrame.wpQuiet_want (by rfl) (fun K hK => ⟨.pointer (some ⟨w10.heap.size, j * 2, none⟩), fun WQ hWQ => ?_, hK _ ?_⟩)
                      · clear hK
                        unfold Oper.quietAt
                        go_simp
                      clear hK K
                      simp only [Act.put, List.setIfInBounds_toArray, List.set_cons_succ, List.set_cons_zero]
                      refine Go.BigFrame.wpQuiet_want (by rfl) (fun K hK => ⟨.pointer (some ⟨w10.heap.size, j * 2 + 1, none⟩), fun WQ hWQ => ?_, hK _ ?_⟩)
                      · clear hK
                        unfold Oper.quietAt
                        go_simp
                      clear hK K
                      simp only [Act.put, List.setIfInBounds_toArray, List.set_cons_succ, List.set_cons_zero]
                      refine Go.BigFrame.wpQuiet_want (by rfl) (fun K hK => ⟨.int .i64 hj', fun WQ hWQ => ?_, hK _ ?_⟩)
                      · clear hK
                        obtain ⟨q0, q1⟩ := HLX.out WQ (keepb hWQ HXJ.out)
                        unfold Oper.quietAt
                        go_simp
                      clear hK K
                      simp only [Act.put, List.setIfInBounds_toArray, List.set_cons_succ, List.set_cons_zero]
                      refine Go.BigFrame.wpQuiet_want (by rfl) (fun K hK => ⟨.bool true, fun WQ hWQ => ?_, hK _ ?_⟩)
                      · clear hK
                        unfold Oper.quietAt
                        go_simp
                        exact (CW.out WQ).mono (fun e w' h => ⟨h.1, h.2 ▸ hWQ⟩)
                      clear hK K
                      simp only [Act.put, List.setIfInBounds_toArray, List.set_cons_succ, List.set_cons_zero]
                      refine Go.BigFrame.wpQuiet_want (by rfl) (fun K hK => ⟨.bool false, fun WQ hWQ => ?_, hK _ ?_⟩)
                      · clear hK
                        unfold Oper.quietAt
                        go_simp
                      clear hK K
                      simp only [Act.put, List.setIfInBounds_toArray, List.set_cons_succ, List.set_cons_zero]
                      refine Go.BigFrame.wpQuiet_want (by rfl) (fun K hK => ⟨.bool false, fun WQ hWQ => ?_, hK _ ?_⟩)
                      · clear hK
                        unfold Oper.quietAt
                        go_simp
                      clear hK K
                      simp only [Act.put, List.setIfInBounds_toArray, List.set_cons_succ, List.set_cons_zero]
                      refine Go.BigFrame.wpQuiet_want (by rfl) (fun K hK => ⟨.int .i64 j, fun WQ hWQ => ?_, hK _ ?_⟩)
                      · clear hK
                        unfold Oper.quietAt
                        go_simp
                      clear hK K
                      simp only [Act.put, List.setIfInBounds_toArray, List.set_cons_succ, List.set_cons_zero]
                      refine Go.BigFrame.wpQuiet_want (by rfl) (fun K hK => ⟨.pointer (some ⟨w10.heap.size, j * 2, none⟩), fun WQ hWQ => ?_, hK _ ?_⟩)
                      · clear hK
                        unfold Oper.quietAt
                        go_simp
                      clear hK K
                      simp only [Act.put, List.setIfInBounds_toArray, List.set_cons_succ, List.set_cons_zero]
                      refine Go.BigFrame.wpQuiet_want (by rfl) (fun K hK => ⟨.pointer (some ⟨w10.heap.size, j * 2 + 1, none⟩), fun WQ hWQ => ?_, hK _ ?_⟩)
                      · clear hK
                        unfold Oper.quietAt
                        go_simp
                      clear hK K
                      simp only [Act.put, List.setIfInBounds_toArray, List.set_cons_succ, List.set_cons_zero]
                      refine Go.BigFrame.wpQuiet_want (by rfl) (fun K hK => ⟨.int .i64 hj', fun WQ hWQ => ?_, hK _ ?_⟩)
                      · clear hK
                        obtain ⟨q0, q1⟩ := HLX.out WQ (keepb hWQ HXJ.out)
                        unfold Oper.quietAt
                        go_simp
                      clear hK K
                      simp only [Act.put, List.setIfInBounds_toArray, List.set_cons_succ, List.set_cons_zero]
                      refine Go.BigFrame.wpQuiet_want (by rfl) (fun K hK => ⟨.bool false, fun WQ hWQ => ?_, hK _ ?_⟩)
                      · clear hK
                        unfold Oper.quietAt
                        go_simp
                      clear hK K
                      simp only [Act.put, List.setIfInBounds_toArray, List.set_cons_succ, List.set_cons_zero]
                      refine Go.BigFrame.wpQuiet_want (by rfl) (fun K hK => ⟨.bool false, fun WQ hWQ => ?_, hK _ ?_⟩)
                      · clear hK
                        unfold Oper.quietAt
                        go_simp
                      clear hK K
                      simp only [Act.put, List.setIfInBounds_toArray, List.set_cons_succ, List.set_cons_zero]
                      refine wpQuiet_nil ?_
                      intro wA hb
                      have HBA := Lib.hid (trans' HBJ.out hb)
                      have HPA := Lib.hid (keepb hb HPJ.out)
                      have HFA := Lib.hid (keepb hb HFJ.out)
                      have HYA := Lib.hid (keepb hb HYJ.out)
                      have HMA := Lib.hid (keepb hb HMJ.out)
                      have HXA := Lib.hid (keepb hb HXJ.out)
                      have HTA := Lib.hid (keepb hb HTJ.out)
                      clear hb HBJ HPJ HFJ HYJ HMJ HXJ HTJ CW
                      go_upto_region 23 with fail
                      refine wp_region_quiet (C := fun W' => Below wA.heap.size wA W') (by kernel_rfl) (by kernel_rfl) (Below.refl _ wA).drew ?_
                      refine Go.BigFrame.wpQuiet_want (by rfl) (fun K hK => ⟨.int .i64 j, fun WQ hWQ => ?_, hK _ ?_⟩)
                      · clear hK
                        unfold Oper.quietAt
                        go_simp
                      clear hK K
                      simp only [Act.put, List.setIfInBounds_toArray, List.set_cons_succ, List.set_cons_zero]
                      refine Go.BigFrame.wpQuiet_want (by rfl) (fun K hK => ⟨.pointer (some ⟨w10.heap.size, j * 2, none⟩), fun WQ hWQ => ?_, hK _ ?_⟩)
                      · clear hK
                        unfold Oper.quietAt
                        go_simp
                      clear hK K
                      simp only [Act.put, List.setIfInBounds_toArray, List.set_cons_succ, List.set_cons_zero]
                      refine Go.BigFrame.wpQuiet_want (by rfl) (fun K hK => ⟨.pointer (some ⟨w10.heap.size, j * 2, none⟩), fun WQ hWQ => ?_, hK _ ?_⟩)
                      · clear hK
                        unfold Oper.quietAt
                        go_simp
                      clear hK K
                      simp only [Act.put, List.setIfInBounds_toArray, List.set_cons_succ, List.set_cons_zero]
                      refine Go.BigFrame.wpQuiet_want (by rfl) (fun K hK => ⟨.int .i64 lj, fun WQ hWQ => ?_, hK _ ?_⟩)
                      · clear hK
                        obtain ⟨q0, q1⟩ := HLX.out WQ (keepb hWQ HXA.out)
                        unfold Oper.quietAt
                        go_simp
                      clear hK K
                      simp only [Act.put, List.setIfInBounds_toArray, List.set_cons_succ, List.set_cons_zero]
                      refine Go.BigFrame.wpQuiet_want (by rfl) (fun K hK => ⟨.int .i64 j, fun WQ hWQ => ?_, hK _ ?_⟩)
                      · clear hK
                        unfold Oper.quietAt
                        go_simp
                      clear hK K
                      simp only [Act.put, List.setIfInBounds_toArray, List.set_cons_succ, List.set_cons_zero]
                      refine Go.BigFrame.wpQuiet_want (by rfl) (fun K hK => ⟨.pointer (some ⟨w10.heap.size, j * 2, none⟩), fun WQ hWQ => ?_, hK _ ?_⟩)
                      · clear hK
                        unfold Oper.quietAt
                        go_simp
                      clear hK K
                      simp only [Act.put, List.setIfInBounds_toArray, List.set_cons_succ, List.set_cons_zero]
                      refine Go.BigFrame.wpQuiet_want (by rfl) (fun K hK => ⟨.pointer (some ⟨w10.heap.size, j * 2 + 1, none⟩), fun WQ hWQ => ?_, hK _ ?_⟩)
                      · clear hK
                        unfold Oper.quietAt
                        go_simp
                      clear hK K
                      simp only [Act.put, List.setIfInBounds_toArray, List.set_cons_succ, List.set_cons_zero]
                      refine Go.BigFrame.wpQuiet_want (by rfl) (fun K hK => ⟨.int .i64 hj', fun WQ hWQ => ?_, hK _ ?_⟩)
                      · clear hK
                        obtain ⟨q0, q1⟩ := HLX.out WQ (keepb hWQ HXA.out)
                        unfold Oper.quietAt
                        go_simp
                      clear hK K
                      simp only [Act.put, List.setIfInBounds_toArray, List.set_cons_succ, List.set_cons_zero]
                      refine Go.BigFrame.wpQuiet_want (by rfl) (fun K hK => ⟨.int .i64 j, fun WQ hWQ => ?_, hK _ ?_⟩)
                      · clear hK
                        unfold Oper.quietAt
                        go_simp
                      clear hK K
                      simp only [Act.put, List.setIfInBounds_toArray, List.set_cons_succ, List.set_cons_zero]
                      refine Go.BigFrame.wpQuiet_want (by rfl) (fun K hK => ⟨.pointer (some ⟨w10.heap.size, j * 2, none⟩), fun WQ hWQ => ?_, hK _ ?_⟩)
                      · clear hK
                        unfold Oper.quietAt
                        go_simp
                      clear hK K
                      simp only [Act.put, List.setIfInBounds_toArray, List.set_cons_succ, List.set_cons_zero]
                      refine Go.BigFrame.wpQuiet_want (by rfl) (fun K hK => ⟨.pointer (some ⟨w10.heap.size, j * 2, none⟩), fun WQ hWQ => ?_, hK _ ?_⟩)
                      · clear hK
                        unfold Oper.quietAt
                        go_simp
                      clear hK K
                      simp only [Act.put, List.setIfInBounds_toArray, List.set_cons_succ, List.set_cons_zero]
                      refine Go.BigFrame.wpQuiet_want (by rfl) (fun K hK => ⟨.int .i64 lj, fun WQ hWQ => ?_, hK _ ?_⟩)
                      · clear hK
                        obtain ⟨q0, q1⟩ := HLX.out WQ (keepb hWQ HXA.out)
                        unfold Oper.quietAt
                        go_simp
                      clear hK K
                      simp only [Act.put, List.setIfInBounds_toArray, List.set_cons_succ, List.set_cons_zero]
                      refine Go.BigFrame.wpQuiet_want (by rfl) (fun K hK => ⟨.int .i64 (hj' - lj), fun WQ hWQ => ?_, hK _ ?_⟩)
                      · clear hK
                        have hw := E1.out
                        unfold Oper.quietAt
                        go_simp
                      clear hK K
                      simp only [Act.put, List.setIfInBounds_toArray, List.set_cons_succ, List.set_cons_zero]
                      refine Go.BigFrame.wpQuiet_want (by rfl) (fun K hK => ⟨.int .i64 j, fun WQ hWQ => ?_, hK _ ?_⟩)
                      · clear hK
                        unfold Oper.quietAt
                        go_simp
                      clear hK K
                      simp only [Act.put, List.setIfInBounds_toArray, List.set_cons_succ, List.set_cons_zero]
                      refine Go.BigFrame.wpQuiet_want (by rfl) (fun K hK => ⟨.pointer (some ⟨b15, j, none⟩), fun WQ hWQ => ?_, hK _ ?_⟩)
                      · clear hK
                        unfold Oper.quietAt
                        go_simp
                      clear hK K
                      simp only [Act.put, List.setIfInBounds_toArray, List.set_cons_succ, List.set_cons_zero]
                      refine Go.BigFrame.wpQuiet_want (by rfl) (fun K hK => ⟨.int .i64 pj, fun WQ hWQ => ?_, hK _ ?_⟩)
                      · clear hK
                        have q0 := HLT.out WQ (keepb hWQ HTA.out)
                        unfold Oper.quietAt
                        go_simp
                      clear hK K
                      simp only [Act.put, List.setIfInBounds_toArray, List.set_cons_succ, List.set_cons_zero]
                      refine Go.BigFrame.wpQuiet_want (by rfl) (fun K hK => ⟨.int .i64 md, fun WQ hWQ => ?_, hK _ ?_⟩)
                      · clear hK
                        unfold Oper.quietAt
                        go_simp
                        exact (CM.out WQ).mono (fun e w' h => ⟨h.1, h.2 ▸ hWQ⟩)
                      clear hK K
                      simp only [Act.put, List.setIfInBounds_toArray, List.set_cons_succ, List.set_cons_zero]
                      refine Go.BigFrame.wpQuiet_want (by rfl) (fun K hK => ⟨.int .i64 ((hj' - lj) * md), fun WQ hWQ => ?_, hK _ ?_⟩)
                      · clear hK
                        have hw := E2.out
                        unfold Oper.quietAt
                        go_simp
                      clear hK K
                      simp only [Act.put, List.setIfInBounds_toArray, List.set_cons_succ, List.set_cons_zero]
                      refine Go.BigFrame.wpQuiet_want (by rfl) (fun K hK => ⟨.int .i64 fl, fun WQ hWQ => ?_, hK _ ?_⟩)
                      · clear hK
                        unfold Oper.quietAt
                        go_simp
                        exact (CFL.out WQ).mono (fun e w' h => ⟨h.1, h.2 ▸ hWQ⟩)
                      clear hK K
                      simp only [Act.put, List.setIfInBounds_toArray, List.set_cons_succ, List.set_cons_zero]
                      refine Go.BigFrame.wpQuiet_want (by rfl) (fun K hK => ⟨.int .i64 aj, fun WQ hWQ => ?_, hK _ ?_⟩)
                      · clear hK
                        have hw := E3.out
                        unfold Oper.quietAt
                        go_simp
                      clear hK K
                      simp only [Act.put, List.setIfInBounds_toArray, List.set_cons_succ, List.set_cons_zero]
                      refine Go.BigFrame.wpQuiet_want (by rfl) (fun K hK => ⟨.int .i64 aj, fun WQ hWQ => ?_, hK _ ?_⟩)
                      · clear hK
                        unfold Oper.quietAt
                        go_simp
                      clear hK K
                      simp only [Act.put, List.setIfInBounds_toArray, List.set_cons_succ, List.set_cons_zero]
                      refine wpQuiet_nil ?_
                      intro wB hb
                      have HBB := Lib.hid (trans' HBA.out hb)
                      have HPB := Lib.hid (keepb hb HPA.out)
                      have HFB := Lib.hid (keepb hb HFA.out)
                      have HYB := Lib.hid (keepb hb HYA.out)
                      have HMB := Lib.hid (keepb hb HMA.out)
                      have HXB := Lib.hid (keepb hb HXA.out)
                      have HTB := Lib.hid (keepb hb HTA.out)
                      clear hb HBA HPA HFA HYA HMA HXA HTA CM CFL E1 E2 E3
                      obtain ⟨y0, y1, y2⟩ := cells3 HYB.out
                      obtain ⟨e4, e5, e6⟩ := HE4.out
                      have har := HAR2.out
                      go_wp2_with fail
                      go_roundw
                      case rel => exact ⟨j + 1, by omega, by rw [HSNX.out], by go_num, HBB, HPB, HFB, HYB, HMB, HXB, HTB⟩
                      case measure => simp [intV]; omega
                    · have hj3' : j = 3 := by omega
                      have hsv : Hid (SL j = sv) := by rw [hj3']; exact HSD1.out.symm
                      rw [hsv.out]
                      clear hsv hj3' HXJ HTJ
                      by_cases c1 : bf2 < 0
                      · have HSK1 := Lib.hid (HSK.out.trans (if_pos (.inl c1)))
                        go_wp2_with fail
                        go_roundw
                        case rel => exact ⟨k + 1, by omega, by rw [HSK1.out], by rw [HSK1.out], by go_num, HBJ, HPJ, HFJ, HYJ, HMJ⟩
                        case measure => simp [intV]; omega
                      · by_cases c2 : sv < bf2
                        · have HSK1 := Lib.hid (HSK.out.trans (if_pos (.inr c2)))
                          go_wp2_with fail
                          go_roundw
                          case rel => exact ⟨k + 1, by omega, by rw [HSK1.out], by rw [HSK1.out], by go_num, HBJ, HPJ, HFJ, HYJ, HMJ⟩
                          case measure => simp [intV]; omega
                        · have HSK1 := Lib.hid (HSK.out.trans (if_neg (fun h => h.elim c1 c2)))
                          go_wp2_with fail
                          go_roundw
                          case rel => exact ⟨k + 1, by omega, by rw [HSK1.out], by rw [HSK1.out], by go_num, HBJ, HPJ, HFJ, HYJ, HMJ⟩
                          case measure => simp [intV]; omega
                · have hkm2 : k = m := by omega
                  have hgt : ¬ f + (k : Int) ≤ la := by have := HT.out.2.2.1; omega
                  have CWJ : Hid (∀ W, Calls Try.prog 20 #[.int .i64 (BF (ticksOf f k)).1, .int .i64 lo, .int .i64 hi] W fun e w' => e = .returned (.bool true) ∧ W = w') := by rw [hkm2]; exact CWI
                  clear hkm2
                  go_wp2_with fail
                  refine (CL2.out _ HBK.out).mono ?_
                  rintro e w8 ⟨rfl, hb⟩
                  have HB8 := Lib.hid (trans' HBK.out hb)
                  have HM8 := Lib.hid (keepb hb HMK.out)
                  clear hb HBK HMK
                  obtain ⟨m0, m1, m2⟩ := cells3 HM8.out
                  go_wp2_with fail
                  refine (CWJ.out _).mono ?_
                  rintro e w9 ⟨rfl, rfl⟩
                  go_wp2_with fail
                  go_ret
                  exact ⟨rfl, HB8.out⟩
            · have hr : (r2 != 0) = true := by rw [bne_iff_ne]; exact hr2
              go_wp2_with fail
              go_ret
              exact ⟨rfl, HB6.out⟩
    · have h1 : e1 ≠ 0 := by simpa using hne
      go_wp2_with fail
      refine (CF.out _ HB2.out).mono ?_
      rintro e w3 ⟨rfl, hb⟩
      have HB3 := Lib.hid (trans' HB2.out hb)
      have HP3 := Lib.hid (keepb hb HP2.out)
      clear hb HB2 HP2
      clear k0 k1 k2
      obtain ⟨k0, k1, k2⟩ := cells3 HP3.out
      go_wp2_with fail
      refine (CE1.out _ HB3.out).mono ?_
      rintro e w4 ⟨rfl, hb⟩
      have HB4 := Lib.hid (trans' HB3.out hb)
      clear hb HB3
      go_wp2_with fail
      go_ret
      exact ⟨rfl, HB4.out⟩
end Go.Proofs.Ytodpjhhogcfodaa.Orb
