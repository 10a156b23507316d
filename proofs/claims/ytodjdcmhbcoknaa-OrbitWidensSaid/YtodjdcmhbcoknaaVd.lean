import Derived.Test.YtodjdcmhbcoknaaVc
import Derived.BigQuiet
import Derived.IntWalk
import Derived.Outline
namespace Go.Proofs.Ytodjdcmhbcoknaa.Orb
open Go.RowKit Lib

set_option maxRecDepth 100000 in
set_option maxHeartbeats 16000000 in
theorem widens_any (v : Value) (nm : ByteArray) (bend : Int) (L : List St) (hI : ∀ k, (gt L k).t ≤ 9223372036854775807) (d xb t : Int) (w : World) (hv : OV w v nm bend L) :
    Calls Try.prog 5 #[v, .agg #[.int .i64 d, .int .i64 xb], .int .i64 t] w fun e w' => e = .returned (.bool true) ∧ Below w.heap.size w w' := by
  have CA := Lib.hid awake_any
  have CF := Lib.hid (fun W (h : Below w.heap.size w W) => Few_any v nm bend L W (hv.next h))
  have CT := Lib.hid (fun (hs : nm.size ≤ 1000) W (h : Below w.heap.size w W) => tickErr_any v nm hs bend L t W (hv.next h))
  have CW1 := Lib.hid (fun W => Within_any d 0 100000 W)
  have CW2 := Lib.hid (fun W => Within_any xb 0 100000 W)
  have hway : (fewB nm.size L.length = false) ∨ (fewB nm.size L.length = true ∧ (tkR (nameE nm) bend L t != 0) = true) ∨ (fewB nm.size L.length = true ∧ tkR (nameE nm) bend L t = 0 ∧ decide (0 ≤ d ∧ d ≤ 100000) = false) ∨
      (fewB nm.size L.length = true ∧ tkR (nameE nm) bend L t = 0 ∧ decide (0 ≤ d ∧ d ≤ 100000) = true ∧ decide (0 ≤ xb ∧ xb ≤ 100000) = false) ∨
      (fewB nm.size L.length = true ∧ tkR (nameE nm) bend L t = 0 ∧ decide (0 ≤ d ∧ d ≤ 100000) = true ∧ decide (0 ≤ xb ∧ xb ≤ 100000) = true) := by
    cases fewB nm.size L.length with
    | false => exact .inl rfl
    | true =>
      by_cases h1 : tkR (nameE nm) bend L t = 0
      · cases decide (0 ≤ d ∧ d ≤ 100000) with
        | false => exact .inr (.inr (.inl ⟨rfl, h1, rfl⟩))
        | true =>
          cases decide (0 ≤ xb ∧ xb ≤ 100000) with
          | false => exact .inr (.inr (.inr (.inl ⟨rfl, h1, rfl, rfl⟩)))
          | true => exact .inr (.inr (.inr (.inr ⟨rfl, h1, rfl, rfl⟩)))
      · exact .inr (.inl ⟨rfl, by rw [bne_iff_ne]; exact h1⟩)
  obtain ⟨p, cap, hvf, -, -, -⟩ := hv.form
  rcases hway with hf | hway
  · rw [hf] at CF
    clear CT CW1 CW2
    subst hvf
    clear hv hI hf
    generalize L.length = n at *
    go_enter Try.func5, Try.ntmps5
    go_wp2_with fail
    obtain ⟨W0, hW0⟩ : ∃ W0, W0 = (w.alloc (.cells #[.string nm, .int .i64 bend, .slice p n cap] 24)).alloc (.cells #[.int .i64 d, .int .i64 xb] 54) := ⟨_, rfl⟩
    rw [← hW0]
    have HB0 := Lib.hid (show Below w.heap.size w W0 by rw [hW0]; (repeat (first | with_reducible exact Below.refl _ _ | with_reducible refine alloc1 ?_ _ | with_reducible refine Below.drew ?_ | with_reducible refine drewN1 ?_ _ | with_reducible refine setC ?_ (by omega) _)))
    have HP0 := Lib.hid (show W0.heap[w.heap.size]? = some (.cells #[.string nm, .int .i64 bend, .slice p n cap] 24 (0, 0)) by rw [hW0]; (repeat (first | ((with_reducible refine hnew ?_); (simp; done)) | with_reducible refine hdrew ?_ | with_reducible refine hold ?_)))
    clear hW0
    refine (CA.out _).mono ?_
    rintro e w1 ⟨rfl, hb⟩
    have HB1 := Lib.hid (trans' HB0.out hb)
    obtain ⟨k0, k1, k2⟩ := cells3 (keepb hb HP0.out)
    clear hb
    go_wp2_with fail
    refine (CF.out _ HB1.out).mono ?_
    rintro e w2 ⟨rfl, hb⟩
    have HB2 := Lib.hid (trans' HB1.out hb)
    clear hb
    go_wp2_with fail
    go_ret
    exact ⟨rfl, HB2.out⟩
  · obtain ⟨hs1, hn1⟩ := fewB_true (show fewB nm.size L.length = true by rcases hway with h | h | h | h <;> exact h.1)
    have hfew : fewB nm.size L.length = true := by rcases hway with h | h | h | h <;> exact h.1
    rw [hfew] at CF
    have hway2 : ((tkR (nameE nm) bend L t != 0) = true) ∨ (tkR (nameE nm) bend L t = 0 ∧ decide (0 ≤ d ∧ d ≤ 100000) = false) ∨
      (tkR (nameE nm) bend L t = 0 ∧ decide (0 ≤ d ∧ d ≤ 100000) = true ∧ decide (0 ≤ xb ∧ xb ≤ 100000) = false) ∨ (tkR (nameE nm) bend L t = 0 ∧ decide (0 ≤ d ∧ d ≤ 100000) = true ∧ decide (0 ≤ xb ∧ xb ≤ 100000) = true) := by
      rcases hway with h | h | h | h
      · exact .inl h.2
      · exact .inr (.inl h.2)
      · exact .inr (.inr (.inl h.2))
      · exact .inr (.inr (.inr h.2))
    have CTT := Lib.hid (CT.out (by omega))
    -- what the last way needs
    have HOK := Lib.hid (show tkR (nameE nm) bend L t = 0 ∧ decide (0 ≤ d ∧ d ≤ 100000) = true ∧ decide (0 ≤ xb ∧ xb ≤ 100000) = true → Rt bend L ∧ (orbE (nameE nm) bend L).2 = 0 ∧ fst L ≤ t ∧ t ≤ lst L ∧ 0 ≤ d ∧ d ≤ 100000 ∧ 0 ≤ xb ∧ xb ≤ 100000 ∧ nm.size ≤ 1000 by
      rintro ⟨h1, h2, h3⟩
      obtain ⟨a, -, b, c, e⟩ := tkR_zero h1
      have h2 := of_decide_eq_true h2
      have h3 := of_decide_eq_true h3
      exact ⟨b, a, c, e, h2.1, h2.2, h3.1, h3.2, by omega⟩)
    have HV := Lib.hid hv
    have HI := Lib.hid hI
    have HVF := Lib.hid hvf
    subst hvf
    clear hv hI hfew hway CT hs1 hn1 HVF
    generalize tkR (nameE nm) bend L t = c at *
    generalize decide (0 ≤ d ∧ d ≤ 100000) = b1 at *
    generalize decide (0 ≤ xb ∧ xb ≤ 100000) = b2 at *
    obtain ⟨n, hn⟩ : ∃ n, n = L.length := ⟨_, rfl⟩
    rw [← hn] at CF CTT HV ⊢
    have HN := Lib.hid hn
    clear hn
    have HWY := Lib.hid hway2
    clear hway2
    go_enter Try.func5, Try.ntmps5
    go_wp2_with fail
    obtain ⟨W0, hW0⟩ : ∃ W0, W0 = (w.alloc (.cells #[.string nm, .int .i64 bend, .slice p n cap] 24)).alloc (.cells #[.int .i64 d, .int .i64 xb] 54) := ⟨_, rfl⟩
    rw [← hW0]
    have HB0 := Lib.hid (show Below w.heap.size w W0 by rw [hW0]; (repeat (first | with_reducible exact Below.refl _ _ | with_reducible refine alloc1 ?_ _ | with_reducible refine Below.drew ?_ | with_reducible refine drewN1 ?_ _ | with_reducible refine setC ?_ (by omega) _)))
    have HP0 := Lib.hid (show W0.heap[w.heap.size]? = some (.cells #[.string nm, .int .i64 bend, .slice p n cap] 24 (0, 0)) by rw [hW0]; (repeat (first | ((with_reducible refine hnew ?_); (simp; done)) | with_reducible refine hdrew ?_ | with_reducible refine hold ?_)))
    have HX0 := Lib.hid (show W0.heap[w.heap.size + 1]? = some (.cells #[.int .i64 d, .int .i64 xb] 54 (0, 0)) by rw [hW0]; (repeat (first | ((with_reducible refine hnew ?_); (simp; done)) | with_reducible refine hdrew ?_ | with_reducible refine hold ?_)))
    clear hW0
    refine (CA.out _).mono ?_
    rintro e w1 ⟨rfl, hb⟩
    have HB1 := Lib.hid (trans' HB0.out hb)
    have HP1 := Lib.hid (keepb hb HP0.out)
    have HX1 := Lib.hid (keepb hb HX0.out)
    obtain ⟨k0, k1, k2⟩ := cells3 HP1.out
    clear hb HB0 HP0 HX0 CA
    go_wp2_with fail
    refine (CF.out _ HB1.out).mono ?_
    rintro e w2 ⟨rfl, hb⟩
    have HB2 := Lib.hid (trans' HB1.out hb)
    have HP2 := Lib.hid (keepb hb HP1.out)
    have HX2 := Lib.hid (keepb hb HX1.out)
    clear hb k0 k1 k2 HB1 HP1 HX1 CF
    obtain ⟨k0, k1, k2⟩ := cells3 HP2.out
    go_wp2_with fail
    refine (CTT.out _ HB2.out).mono ?_
    rintro e w3 ⟨rfl, hb⟩
    have HB3 := Lib.hid (trans' HB2.out hb)
    have HP3 := Lib.hid (keepb hb HP2.out)
    have HX3 := Lib.hid (keepb hb HX2.out)
    clear hb k0 k1 k2 HB2 HP2 HX2 CTT
    obtain ⟨k0, k1, k2⟩ := cells3 HP3.out
    obtain ⟨x0, x1, -, -⟩ := two_cells HX3.out
    rcases HWY.out with h1 | ⟨h1, h2⟩ | ⟨h1, h2, h3⟩ | ⟨h1, h2, h3⟩
    · clear HWY HOK
      go_wp2_with fail
      go_ret
      exact ⟨rfl, HB3.out⟩
    · subst h1 h2
      clear HWY HOK
      go_wp2_with fail
      refine (CW1.out _).mono ?_
      rintro e w4 ⟨rfl, rfl⟩
      go_wp2_with fail
      go_ret
      exact ⟨rfl, HB3.out⟩
    · subst h1 h2 h3
      clear HWY HOK
      go_wp2_with fail
      refine (CW1.out _).mono ?_
      rintro e w4 ⟨rfl, rfl⟩
      go_wp2_with fail
      refine (CW2.out _).mono ?_
      rintro e w4 ⟨rfl, rfl⟩
      go_wp2_with fail
      go_ret
      exact ⟨rfl, HB3.out⟩
    · subst h1 h2 h3
      clear HWY
      go_wp2_with fail
      refine (CW1.out _).mono ?_
      rintro e w4 ⟨rfl, rfl⟩
      go_wp2_with fail
      refine (CW2.out _).mono ?_
      rintro e w4 ⟨rfl, rfl⟩
      clear CW1 CW2
      obtain ⟨hR, hor, hf, hl, hd0, hd1, hx0, hx1, hs⟩ := HOK.out (by first | exact ⟨rfl, rfl, rfl⟩ | trivial)
      have hn2 : 2 ≤ n ∧ n ≤ 40 := by have := hR.n0; have := hR.n1; have := HN.out; omega
      have hbd0 := hR.b0
      have hbd1 := hR.b1
      have HRR := Lib.hid (And.intro hR (And.intro hor (And.intro hf (And.intro hl hs))))
      have HST := Lib.hid (fun k (h : k < n) => hR.st k (by have := HN.out; omega))
      clear HOK hor hf hl hs hR
      go_wp2_with fail
      refine (Copy_own _ nm bend L (by have := HN.out; omega) w3 (HV.out.next HB3.out)).mono ?_
      rintro e w4 ⟨sl, base, rfl, hb4, hbase, ho4⟩
      rw [← HN.out] at ho4
      obtain ⟨g, cp, rfl, hg1, hg2⟩ : ∃ g cp, sl = .slice (some ⟨g, 0, none⟩) n cp ∧ base ≤ g ∧ g < w4.heap.size := by
        rcases ho4.2 with ⟨-, h0⟩ | ⟨g, cp, cur, h1, h2, h3, -⟩
        · omega
        · exact ⟨g, cp, h1, h2, lt_of_block h3⟩
      have HB4 := Lib.hid (trans' HB3.out hb4)
      have HP4 := Lib.hid (keepb hb4 HP3.out)
      have HX4 := Lib.hid (keepb hb4 HX3.out)
      have HZ := Lib.hid (show w.heap.size + 1 < g ∧ w4.heap.size ≠ g ∧ g < w4.heap.size by have := lt_of_block HX3.out; omega)
      have HO4 := Lib.hid ho4
      clear hb4 hbase ho4 hg1 hg2 k0 k1 k2 x0 x1 HB3 HP3 HX3
      obtain ⟨k0, k1, k2⟩ := cells3 HP4.out
      obtain ⟨x0, x1, -, -⟩ := two_cells HX4.out
      have hxs := lt_of_block HX4.out
      have hwb : IntKind.i64.wrap (bend + xb) = bend + xb := IntWalk.i64_in _ (by omega)
      go_wp2_with fail
      obtain ⟨W5, hW5⟩ : ∃ W5, W5 = w4.alloc (.cells #[.string nm, .int .i64 (bend + xb), .slice (some ⟨g, 0, none⟩) n cp] 24) := ⟨_, rfl⟩
      rw [← hW5]
      have hb5 : Below w4.heap.size w4 W5 := by rw [hW5]; exact new_below _ _
      have I0 := Lib.hid (show WdInv w (.cells #[.string nm, .int .i64 bend, .slice p n cap] 24) (.cells #[.int .i64 d, .int .i64 xb] 54) (.cells #[.string nm, .int .i64 (bend + xb), .slice (some ⟨g, 0, none⟩) n cp] 24) w4.heap.size base g n cp d L 0 W5 from
        ⟨trans' HB4.out hb5, keepb hb5 HP4.out, keepb hb5 HX4.out, by rw [hW5]; exact heap_alloc_new _ _, by rw [stW_zero]; exact owns_below HO4.out hb5⟩)
      clear hW5 hb5 k0 k1 k2 x0 x1 hxs HB4 HP4 HX4 HO4 hwb
      go_loopw [8] (fun i wr => ∃ k : Nat, k ≤ n ∧ i = .int .i64 k ∧ Hid (WdInv w (.cells #[.string nm, .int .i64 bend, .slice p n cap] 24) (.cells #[.int .i64 d, .int .i64 xb] 54) (.cells #[.string nm, .int .i64 (bend + xb), .slice (some ⟨g, 0, none⟩) n cp] 24) w4.heap.size base g n cp d L k wr)) (fun i _ => n - (intV i).toNat)
      case atStart => exact ⟨0, Nat.zero_le _, rfl, I0⟩
      case round =>
        clear I0
        obtain ⟨k, hk, rfl, IK⟩ := hrel
        obtain ⟨wz, rfl⟩ : ∃ wz : World, wz = wr := ⟨_, rfl⟩
        obtain ⟨y0, y1, y2⟩ := cells3 IK.out.hy
        by_cases hlt : k < n
        · obtain ⟨x0, x1, -, -⟩ := two_cells IK.out.hx
          have ek0 := (HST.out k hlt).e0
          have ek1 := (HST.out k hlt).e1
          have c1 := (IK.out.ho.cellAt (k * 5 + 4) (by omega)).trans (stW_e d L k (by have := HN.out; omega))
          have f1 := IK.out.ho.frozenAt (k * 5 + 4)
          have IN := Lib.hid (IK.out.step HZ.out.1 HZ.out.2.1)
          generalize (gt L k).e = ek at *
          have hwk : IntKind.i64.wrap (ek + d) = ek + d := IntWalk.i64_in _ (by omega)
          have i0 : (0 : Int) ≤ (k : Int) := by omega
          have i1 : (k : Int) < (n : Int) := by omega
          go_wp2_with fail
          go_region
          go_wp2_with fail
          go_roundw
          case rel => exact ⟨k + 1, by omega, by go_num, Lib.hid ⟨IN.out.hb.drew, IN.out.hp, IN.out.hx, IN.out.hy, IN.out.ho⟩⟩
          case measure => simp [intV]; omega
        · have e : n = k := by omega
          subst e
          have h2 : wz.ownsRow base 56 5 (.slice (some ⟨g, 0, none⟩) n cp) (wid d L).length (stVals (wid d L)) := by rw [wid_len, ← stW_all, ← HN.out]; exact IK.out.ho
          have HOV := Lib.hid (OV.made (nm := nm) (bend := bend + xb) h2)
          have HBW := Lib.hid IK.out.hb
          have HPz := Lib.hid IK.out.hp
          have HYz := Lib.hid IK.out.hy
          obtain ⟨hR, hor, hf, hl, hs⟩ := HRR.out
          have hln : L.length ≤ 1000 := by have := HN.out; omega
          have hlw : (wid d L).length ≤ 1000 := by rw [wid_len]; exact hln
          have hIw : ∀ k, (gt (wid d L) k).t ≤ 9223372036854775807 := fun k => by rw [gt_wid_t]; exact HI.out k
          have CE := Lib.hid (refErr_any _ nm hs (bend + xb) (wid d L) wz HOV.out)
          have CY := Lib.hid (fun W (h : Below wz.heap.size wz W) => Copy_any _ nm bend L hln W (HV.out.next (trans' HBW.out h)))
          have CYw := Lib.hid (fun W (h : Below wz.heap.size wz W) => Copy_any _ nm (bend + xb) (wid d L) hlw W (HOV.out.next h))
          have CB1 := Lib.hid (fun W v2 (h : OV W v2 nm bend L) => BoxAt_any v2 nm hs bend L hln HI.out t W h)
          have CN1 := Lib.hid (fun W v2 (h : OV W v2 nm bend L) => Nominal_any v2 nm hs bend L hln HI.out t W h)
          have CB2 := Lib.hid (fun W v2 (h : OV W v2 nm (bend + xb) (wid d L)) => BoxAt_any v2 nm hs (bend + xb) (wid d L) hlw hIw t W h)
          have CN2 := Lib.hid (fun W (h : Below wz.heap.size wz W) => Nominal_any _ nm hs (bend + xb) (wid d L) hlw hIw t W (HOV.out.next h))
          have E1 := tkE_of (ne := nameE nm) hor hf hl (by have := hR.n0; omega)
          have HT2 := Lib.hid (fun (hc : (orbE (nameE nm) (bend + xb) (wid d L)).2 = 0) => tkE_of (ne := nameE nm) (bend := bend + xb) (L := wid d L) (t := t) hc (by rw [fst_wid]; exact hf) (by rw [lst_wid]; exact hl) (by rw [wid_len]; have := hR.n0; omega))
          have hN12 : nomC (wid d L) t = nomC L t := funext fun i => (wider hR t d xb hf hl hd0 hx0 i).1
          have HLO := Lib.hid (fun i => (wider hR t d xb hf hl hd0 hx0 i).2.1)
          have HHI := Lib.hid (fun i => (wider hR t d xb hf hl hd0 hx0 i).2.2)
          rw [E1] at CB1 CN1
          rw [hN12] at CN2
          simp only [zif, if_true] at CB1 CN1
          generalize tkE (nameE nm) (bend + xb) (wid d L) t = E2 at *
          generalize (orbE (nameE nm) (bend + xb) (wid d L)).2 = c2 at *
          generalize loC bend L t = LO at *
          generalize hiC bend L t = HI1 at *
          generalize loC (bend + xb) (wid d L) t = LO2 at *
          generalize hiC (bend + xb) (wid d L) t = HI2 at *
          generalize nomC L t = N1 at *
          clear h2 IK HRR hR hor hf hl hs hln hlw hIw E1 hN12 HOV HV HI HN HST hk hd0 hd1 hx0 hx1 hn2 hbd0 hbd1
          go_wp2_with fail
          refine CE.out.mono ?_
          rintro e w6 ⟨rfl, hb6⟩
          have HB6 := Lib.hid hb6
          have hP6 := keepb hb6 HPz.out
          obtain ⟨k0, k1, k2⟩ := cells3 hP6
          clear hb6 hP6 y0 y1 y2
          by_cases hc : c2 = 0
          · subst hc
            obtain rfl : E2 = 0 := HT2.out rfl
            have CB2 := Lib.hid CB2.out
            have CN2 := Lib.hid CN2.out
            simp only [zif, if_true] at CB2 CN2
            go_wp2_with fail
            refine (CY.out _ HB6.out).mono ?_
            rintro e w7 ⟨v7, rfl, hb7, hv7⟩
            have HB7 := Lib.hid (trans' HB6.out hb7)
            clear hb7 k0 k1 k2
            go_wp2_with fail
            refine (CB1.out _ _ hv7).mono ?_
            rintro e w8 ⟨rfl, hb8⟩
            have HB8 := Lib.hid (trans' HB7.out hb8)
            have hY8 := keepb HB8.out HYz.out
            have hly := lt_of_block hY8
            obtain ⟨y0, y1, y2⟩ := cells3 hY8
            clear hb8 hv7 hY8
            go_wp2_with fail
            obtain ⟨W8, hW8⟩ : ∃ W8, W8 = w8.alloc (.cells (boxCells LO HI1 3) 47) := ⟨_, rfl⟩
            have hW8' : w8.alloc (.cells #[.int .i64 (LO 0), .int .i64 (HI1 0), .int .i64 (LO 1), .int .i64 (HI1 1), .int .i64 (LO 2), .int .i64 (HI1 2)] 47) = W8 := hW8.symm
            rw [hW8']
            have hb := new_below w8 (.cells (boxCells LO HI1 3) 47)
            rw [← hW8] at hb
            have HA8 := Lib.hid (show W8.heap[w8.heap.size]? = some (.cells (boxCells LO HI1 3) 47 (0, 0)) by rw [hW8]; exact heap_alloc_new _ _)
            have HBB := Lib.hid (trans' HB8.out hb)
            clear hW8 hW8' hb y0 y1 y2 hly
            refine (CYw.out _ HBB.out).mono ?_
            rintro e w9 ⟨v9, rfl, hb9, hv9⟩
            have HB9 := Lib.hid (trans' HBB.out hb9)
            have HA9 := Lib.hid (keepb hb9 HA8.out)
            clear hb9
            go_wp2_with fail
            refine (CB2.out _ _ hv9).mono ?_
            rintro e w10 ⟨rfl, hb10⟩
            have HB10 := Lib.hid (trans' HB9.out hb10)
            have HA10 := Lib.hid (keepb hb10 HA9.out)
            have hP10 := keepb HB10.out HPz.out
            have hlp := lt_of_block hP10
            obtain ⟨k0, k1, k2⟩ := cells3 hP10
            clear hb10 hv9 hP10
            go_wp2_with fail
            obtain ⟨W10, hW10⟩ : ∃ W10, W10 = w10.alloc (.cells (boxCells LO2 HI2 3) 47) := ⟨_, rfl⟩
            have hW10' : w10.alloc (.cells #[.int .i64 (LO2 0), .int .i64 (HI2 0), .int .i64 (LO2 1), .int .i64 (HI2 1), .int .i64 (LO2 2), .int .i64 (HI2 2)] 47) = W10 := hW10.symm
            rw [hW10']
            have hb := new_below w10 (.cells (boxCells LO2 HI2 3) 47)
            rw [← hW10] at hb
            have HC10 := Lib.hid (show W10.heap[w10.heap.size]? = some (.cells (boxCells LO2 HI2 3) 47 (0, 0)) by rw [hW10]; exact heap_alloc_new _ _)
            have HAA := Lib.hid (keepb hb HA10.out)
            have HBC := Lib.hid (trans' HB10.out hb)
            clear hW10 hW10' hb k0 k1 k2 hlp HA8 HA9 HA10
            refine (CY.out _ HBC.out).mono ?_
            rintro e w11 ⟨v11, rfl, hb11, hv11⟩
            have HB11 := Lib.hid (trans' HBC.out hb11)
            have HA11 := Lib.hid (keepb hb11 HAA.out)
            have HC11 := Lib.hid (keepb hb11 HC10.out)
            clear hb11
            go_wp2_with fail
            refine (CN1.out _ _ hv11).mono ?_
            rintro e w12 ⟨rfl, hb12⟩
            have HB12 := Lib.hid (trans' HB11.out hb12)
            have HA12 := Lib.hid (keepb hb12 HA11.out)
            have HC12 := Lib.hid (keepb hb12 HC11.out)
            have hY12 := keepb HB12.out HYz.out
            have hly := lt_of_block hY12
            obtain ⟨y0, y1, y2⟩ := cells3 hY12
            clear hb12 hv11 hY12 HAA HC10 HA11 HC11
            go_wp2_with fail
            obtain ⟨W12, hW12⟩ : ∃ W12, W12 = w12.alloc (.cells #[.int .i64 (N1 0), .int .i64 (N1 1), .int .i64 (N1 2)] 42) := ⟨_, rfl⟩
            rw [← hW12]
            have hb := new_below w12 (.cells #[.int .i64 (N1 0), .int .i64 (N1 1), .int .i64 (N1 2)] 42)
            rw [← hW12] at hb
            have HD12 := Lib.hid (show W12.heap[w12.heap.size]? = some (.cells #[.int .i64 (N1 0), .int .i64 (N1 1), .int .i64 (N1 2)] 42 (0, 0)) by rw [hW12]; exact heap_alloc_new _ _)
            have HBD := Lib.hid (trans' HB12.out hb)
            have HAB := Lib.hid (keepb hb HA12.out)
            have HCB := Lib.hid (keepb hb HC12.out)
            clear hW12 hb y0 y1 y2 hly HA12 HC12
            refine (CN2.out _ HBD.out).mono ?_
            rintro e w13 ⟨rfl, hb13⟩
            have HB13 := Lib.hid (trans' HBD.out hb13)
            have HA13 := Lib.hid (keepb hb13 HAB.out)
            have HC13 := Lib.hid (keepb hb13 HCB.out)
            have hD13 := keepb hb13 HD12.out
            have hld := lt_of_block hD13
            obtain ⟨q0, q1, q2⟩ := cells3 hD13
            clear hb13 hD13 HD12 HAB HCB
            have hE := eq_place
            have hG : Try.prog.eqGuardType Try.prog.depth 42 = false := by kernel_rfl
            go_wp2_with fail
            obtain ⟨W13, hW13⟩ : ∃ W13, W13 = w13.alloc (.cells #[.int .i64 (N1 0), .int .i64 (N1 1), .int .i64 (N1 2)] 42) := ⟨_, rfl⟩
            rw [← hW13]
            have hb := new_below w13 (.cells #[.int .i64 (N1 0), .int .i64 (N1 1), .int .i64 (N1 2)] 42)
            rw [← hW13] at hb
            have HA := Lib.hid (keepb hb HA13.out)
            have HC := Lib.hid (keepb hb HC13.out)
            have HBE := Lib.hid (trans' HBW.out (trans' HB13.out hb))
            clear hW13 hb q0 q1 q2 hld hE hG HA13 HC13 HB13 HBD HB12 HB11 HBC HB10 HB9 HBB HB8 HB7 HB6 CY CYw CB1 CN1 CB2 CN2 CE HT2 HPz HYz HBW HZ
            go_loopw [17] (fun i wr => ∃ k : Nat, k ≤ 3 ∧ i = .int .i64 k ∧ ∃ q, wr = W13.drewN q) (fun i _ => 3 - (intV i).toNat)
            case atStart => exact ⟨0, Nat.zero_le _, rfl, 0, rfl⟩
            case round =>
              obtain ⟨k, hk, rfl, q, hq⟩ := hrel
              obtain ⟨wq, rfl⟩ : ∃ wq : World, wq = wr := ⟨_, rfl⟩
              by_cases hlt : k < 3
              · obtain ⟨a0, a1⟩ := box_read (w := wq) hlt (by rw [hq]; exact HA.out)
                obtain ⟨b0, b1⟩ := box_read (w := wq) hlt (by rw [hq]; exact HC.out)
                have l1 := HLO.out k
                have l2 := HHI.out k
                generalize LO k = lo1 at *
                generalize HI1 k = hi1 at *
                generalize LO2 k = lo2 at *
                generalize HI2 k = hi2 at *
                have d1 : decide (lo1 < lo2) = false := decide_eq_false (by omega)
                have d2 : decide (hi2 < hi1) = false := decide_eq_false (by omega)
                have d3 : ¬ lo1 < lo2 := by omega
                have d4 : ¬ hi2 < hi1 := by omega
                have i0 : (0 : Int) ≤ (k : Int) := by omega
                have i1 : (k : Int) < 3 := by omega
                have HQ := Lib.hid hq
                clear l1 l2 hq
                go_wp2_with fail
                go_quiet (fail)
                go_wp2_with fail
                go_roundw
                case rel => exact ⟨k + 1, by omega, by go_num, _, by rw [HQ.out]; first | rfl | exact World.drewN_drewN _ _ _⟩
                case measure => simp [intV]; omega
              · go_wp2_with fail
                go_ret
                exact ⟨rfl, drewN1 HBE.out q⟩
          · have hne : (c2 != 0) = true := by rw [bne_iff_ne]; exact hc
            go_wp2_with fail
            go_ret
            exact ⟨rfl, trans' HBW.out HB6.out⟩
end Go.Proofs.Ytodjdcmhbcoknaa.Orb
