import Derived.Test.YtmbolmmcfnfamaaRg
import Derived.Outline
import Derived.RegionTactic
import Derived.IntWalk
import Derived.Shelf.Abstract
import Derived.ChangeAlike
namespace Go.Proofs.Ytmbolmmcfnfamaa.Orb
open Go.RowKit Lib

theorem enters_leg : ∀ args w, (callFunc 85 args).run Try.prog w = .ok (.enter 85 args) w := enters_of Try.func85 (by kernel_rfl) rfl

set_option maxRecDepth 100000 in
/-- SORT.SEARCH finds where a function that ascends becomes true -/
theorem Search_any (g : FuncId) (eg : ∀ args w, (callFunc g args).run Try.prog w = .ok (.enter g args) w) (lb : Array Value) (n : Nat) (hn : n ≤ 1000) (f : Nat → Bool) (r : Nat) (hr : r ≤ n) (h1 : ∀ j, j < r → f j = false) (h2 : ∀ j, r ≤ j → j < n → f j = true) (w : World)
    (hf : ∀ k, k < n → ∀ W, Below w.heap.size w W → Calls Try.prog g (#[.int .i64 k] ++ lb) W fun e w' => e = .returned (.bool (f k)) ∧ Below W.heap.size W w') :
    Calls Try.prog 84 #[.int .i64 n, .func (.func g) #[] lb] w fun e w' => e = .returned (.int .i64 r) ∧ Below w.heap.size w w' := by
  have H1 := Lib.hid h1
  have H2 := Lib.hid h2
  have HF := Lib.hid hf
  clear h1 h2 hf
  go_enter Try.func84, Try.ntmps84
  go_wp2_with fail
  go_loopw [5, 6] (fun x y wr => ∃ i j : Nat, i ≤ r ∧ r ≤ j ∧ j ≤ n ∧ x = .int .i64 i ∧ y = .int .i64 j ∧ Hid (Below w.heap.size w wr)) (fun x y _ => (intV y).toNat - (intV x).toNat)
  case atStart => exact ⟨0, n, Nat.zero_le _, hr, Nat.le_refl _, rfl, rfl, Below.refl _ _⟩
  case round =>
    obtain ⟨i, j, hi, hj, hjn, rfl, rfl, HB⟩ := hrel
    obtain ⟨wz, rfl⟩ : ∃ wz : World, wz = wr := ⟨_, rfl⟩
    by_cases hlt : i < j
    · have hh : (((i + j) / 2 : Nat) : Int) = ((i : Int) + (j : Int)) / 2 := by omega
      have hC := HF.out ((i + j) / 2) (by omega) wz HB.out
      rw [hh] at hC
      have hT : Hid (f ((i + j) / 2) = true → r ≤ (i + j) / 2) := by
        intro h
        rcases Nat.lt_or_ge ((i + j) / 2) r with h3 | h3
        · rw [H1.out _ h3] at h; cases h
        · exact h3
      have hN : Hid (f ((i + j) / 2) = false → (i + j) / 2 < r) := by
        intro h
        rcases Nat.lt_or_ge ((i + j) / 2) r with h3 | h3
        · exact h3
        · rw [H2.out _ h3 (by omega)] at h; cases h
      have HC := Lib.hid hC
      have HH := Lib.hid hh
      clear hh hC
      cases hv : f ((i + j) / 2) with
      | true =>
        rw [hv] at HC
        have hr2 := hT.out hv
        clear hT hN hv
        go_wp2_with fail
        refine (HC.out).mono ?_
        rintro e w1 ⟨rfl, hb⟩
        have HB1 := Lib.hid (trans' HB.out hb)
        clear hb
        go_wp2_with fail
        go_roundw
        case rel => exact ⟨i, (i + j) / 2, hi, hr2, by omega, rfl, by rw [HH.out], HB1⟩
        case measure => simp [intV]; omega
      | false =>
        rw [hv] at HC
        have hr2 := hN.out hv
        clear hT hN hv
        go_wp2_with fail
        refine (HC.out).mono ?_
        rintro e w1 ⟨rfl, hb⟩
        have HB1 := Lib.hid (trans' HB.out hb)
        clear hb
        go_wp2_with fail
        go_roundw
        case rel => exact ⟨(i + j) / 2 + 1, j, by omega, hj, hjn, by rw [← HH.out]; rfl, rfl, HB1⟩
        case measure => simp [intV]; omega
    · have e1 : Hid (i = r) := by unfold Hid; omega
      go_wp2_with fail
      go_ret
      exact ⟨by rw [e1.out]; rfl, HB.out⟩

set_option maxRecDepth 100000 in
/-- the closure that the search asks -/
theorem leg1_any (b o n cap B2 B3 k : Nat) (t x : Int) (w : World) (c0 : w.cell? ⟨B2, 2, none⟩ = some (.slice (some ⟨b, o, none⟩) n cap)) (c1 : w.cell? ⟨B3, 0, none⟩ = some (.int .i64 t))
    (c2 : w.cell? ⟨b, o + (k + 1) * 5, none⟩ = some (.int .i64 x)) (hk : k + 1 < n) (hn : n ≤ 1000) :
    Calls Try.prog 85 #[.int .i64 k, .pointer (some ⟨B2, 0, none⟩), .pointer (some ⟨B3, 0, none⟩)] w fun e w' => e = .returned (.bool (decide (t ≤ x))) ∧ Below w.heap.size w w' := by
  have i0 : (0 : Int) ≤ (k : Int) + 1 := by omega
  have i1 : (k : Int) + 1 < (n : Int) := by omega
  have i2 : IntKind.i64.wrap ((k : Int) + 1) = (k : Int) + 1 := IntWalk.i64_in _ (by omega)
  have i3 : ((k : Int) + 1).toNat = k + 1 := by omega
  go_enter Try.func85, Try.ntmps85
  go_wp2_with fail
  go_quiet (fail)
  go_wp2_with fail
  go_ret
  exact ⟨rfl, by (repeat (first | with_reducible exact Below.refl _ _ | with_reducible refine alloc1 ?_ _ | with_reducible refine Below.drew ?_ | with_reducible refine drewN1 ?_ _ | with_reducible refine setC ?_ (by omega) _))⟩

theorem cells12 {W : World} {b : Nat} {c0 c1 c2 c3 c4 c5 c6 c7 c8 c9 c10 c11 : Value} {t : TypeId} (h : W.heap[b]? = some (.cells #[c0, c1, c2, c3, c4, c5, c6, c7, c8, c9, c10, c11] t (0, 0))) :
    W.cell? ⟨b, 0, none⟩ = some c0 ∧ W.cell? ⟨b, 1, none⟩ = some c1 ∧ W.cell? ⟨b, 2, none⟩ = some c2 ∧ W.cell? ⟨b, 3, none⟩ = some c3 ∧ W.cell? ⟨b, 4, none⟩ = some c4 ∧ W.cell? ⟨b, 5, none⟩ = some c5 ∧ W.cell? ⟨b, 6, none⟩ = some c6 ∧ W.cell? ⟨b, 7, none⟩ = some c7 ∧ W.cell? ⟨b, 8, none⟩ = some c8 ∧ W.cell? ⟨b, 9, none⟩ = some c9 ∧ W.cell? ⟨b, 10, none⟩ = some c10 ∧ W.cell? ⟨b, 11, none⟩ = some c11 :=
  ⟨cell_of_row W b 0 _ t _ h, cell_of_row W b 1 _ t _ h, cell_of_row W b 2 _ t _ h, cell_of_row W b 3 _ t _ h, cell_of_row W b 4 _ t _ h, cell_of_row W b 5 _ t _ h, cell_of_row W b 6 _ t _ h, cell_of_row W b 7 _ t _ h, cell_of_row W b 8 _ t _ h, cell_of_row W b 9 _ t _ h, cell_of_row W b 10 _ t _ h, cell_of_row W b 11 _ t _ h⟩
theorem free12 {W : World} {b : Nat} {cs : Array Value} {t : TypeId} (h : W.heap[b]? = some (.cells cs t (0, 0))) :
    W.frozen? ⟨b, 0, none⟩ = false ∧ W.frozen? ⟨b, 1, none⟩ = false ∧ W.frozen? ⟨b, 2, none⟩ = false ∧ W.frozen? ⟨b, 3, none⟩ = false ∧ W.frozen? ⟨b, 4, none⟩ = false ∧ W.frozen? ⟨b, 5, none⟩ = false ∧ W.frozen? ⟨b, 6, none⟩ = false ∧ W.frozen? ⟨b, 7, none⟩ = false ∧ W.frozen? ⟨b, 8, none⟩ = false ∧ W.frozen? ⟨b, 9, none⟩ = false ∧ W.frozen? ⟨b, 10, none⟩ = false ∧ W.frozen? ⟨b, 11, none⟩ = false :=
  ⟨frozen_of_row W b 0 cs t h, frozen_of_row W b 1 cs t h, frozen_of_row W b 2 cs t h, frozen_of_row W b 3 cs t h, frozen_of_row W b 4 cs t h, frozen_of_row W b 5 cs t h, frozen_of_row W b 6 cs t h, frozen_of_row W b 7 cs t h, frozen_of_row W b 8 cs t h, frozen_of_row W b 9 cs t h, frozen_of_row W b 10 cs t h, frozen_of_row W b 11 cs t h⟩
theorem gt_state (L : List St) (k : Nat) : gt L k = ⟨(gt L k).t, (gt L k).x, (gt L k).y, (gt L k).z, (gt L k).e⟩ := rfl

set_option maxRecDepth 100000 in
set_option maxHeartbeats 4000000 in
/-- THE FIRST ARC THAT HAS A TICK -/
theorem legAt_any (v : Value) (nm : ByteArray) (bend : Int) (L : List St) (hR : Rt bend L) (t : Int) (h0 : fst L ≤ t) (h1 : t ≤ lst L) (w : World) (hv : OV w v nm bend L) :
    Calls Try.prog 60 #[v, .int .i64 t] w fun e w' => e = .returned (legV (gt L (arcP L t)) (gt L (arcP L t + 1)) (t - (gt L (arcP L t)).t) ((gt L (arcP L t + 1)).t - (gt L (arcP L t)).t)) ∧ Below w.heap.size w w' := by
  have hA := inArc hR t h0 h1
  have hArc := hA.arc hR
  obtain ⟨p, cap, rfl, -, -, hS⟩ := hv.form
  obtain ⟨b, o, rfl, hT⟩ := hS (by have := hR.n0; omega)
  obtain ⟨m, hm⟩ : ∃ m, L.length = m + 2 := ⟨L.length - 2, by have := hR.n0; omega⟩
  obtain ⟨n, hn⟩ : ∃ n, n = L.length := ⟨_, rfl⟩
  have hn2 : 2 ≤ n ∧ n ≤ 40 := by have := hR.n1; omega
  have hmn : ((m : Nat) : Int) = (n : Int) - 2 := by omega
  have han : arcP L t + 1 < n := by have := hA.hk; omega
  obtain ⟨a, ha⟩ : ∃ a, a = arcP L t := ⟨_, rfl⟩
  rw [← ha] at hA hArc han ⊢
  have ham : a ≤ m := by have := hA.hk; omega
  -- the search
  have HSearch : Hid (∀ W B2 B3, Below w.heap.size w W → W.cell? ⟨B2, 2, none⟩ = some (.slice (some ⟨b, o, none⟩) L.length cap) → W.cell? ⟨B3, 0, none⟩ = some (.int .i64 t) →
      Calls Try.prog 84 #[.int .i64 m, .func (.func 85) #[] #[.pointer (some ⟨B2, 0, none⟩), .pointer (some ⟨B3, 0, none⟩)]] W fun e w' => e = .returned (.int .i64 a) ∧ Below W.heap.size W w') := by
    intro W B2 B3 hb c2 c3
    refine Search_any 85 enters_leg _ m (by omega) (fun k => decide (t ≤ (gt L (k + 1)).t)) a ham ?_ ?_ W ?_
    · intro j hj
      have := arcF_below L t (L.length - 2) 0 j (Nat.zero_le _) (by have e : arcF L t (L.length - 2) 0 = a := ha.symm; omega)
      simp; omega
    · intro j hj1 hj2
      have := hR.le (a + 1) (j + 1) (by omega) (by omega)
      have := hA.h1
      simp; omega
    · intro k hk W' hb'
      exact leg1_any b o L.length cap B2 B3 k t (gt L (k + 1)).t W' (keepc hb' c2) (keepc hb' c3) (((hT.next hb).next hb') (k + 1) (by omega)).1 (by omega) (by have := hR.n1; omega)
  have HTA : Hid (∀ W, Below w.heap.size w W → _ ∧ _) := fun W hb => ⟨(hT.next hb) a (by have := hA.hk; omega), (hT.next hb) (a + 1) hA.hk⟩
  clear hS hT hv
  obtain ⟨bA, bB, b0, b1, bw, bw2⟩ := hArc
  have t0 := bA.t0; have t1 := bA.t1; have t2 := bB.t0; have t3 := bB.t1
  unfold legV
  rw [hmn, ← hn] at HSearch
  rw [← hn]
  clear hA bA bB ha hR h0 h1 hm hmn ham hn
  generalize gt L a = A at *
  generalize gt L (a + 1) = B at *
  obtain ⟨At, Ax, Ay, Az, Ae⟩ := A
  obtain ⟨Bt, Bx, By, Bz, Be⟩ := B
  dsimp only at *
  obtain ⟨W0, hW0⟩ : ∃ W0, W0 = ((w.alloc (.cells #[.string nm, .int .i64 bend, .slice (some ⟨b, o, none⟩) n cap] 73)).alloc (.cells #[.int .i64 t] 3)).alloc (.cells #[.int .i64 0, .int .i64 0, .int .i64 0, .int .i64 0, .int .i64 0, .int .i64 0, .int .i64 0, .int .i64 0, .int .i64 0, .int .i64 0, .int .i64 0, .int .i64 0] 102) := ⟨_, rfl⟩
  go_enter Try.func60, Try.ntmps60
  go_wp2_with fail
  rw [← hW0]
  have hBel : Below w.heap.size w W0 := by rw [hW0]; (repeat (first | with_reducible exact Below.refl _ _ | with_reducible refine alloc1 ?_ _ | with_reducible refine Below.drew ?_ | with_reducible refine drewN1 ?_ _ | with_reducible refine setC ?_ (by omega) _))
  have hP : W0.heap[w.heap.size]? = some (.cells #[.string nm, .int .i64 bend, .slice (some ⟨b, o, none⟩) n cap] 73 (0, 0)) := by
    rw [hW0, Below.heap_alloc _ _ _ (by simp; omega), Below.heap_alloc _ _ _ (by simp)]; exact heap_alloc_new _ _
  have hT : W0.heap[w.heap.size + 1]? = some (.cells #[.int .i64 t] 3 (0, 0)) := by
    rw [hW0, Below.heap_alloc _ _ _ (by simp)]
    have := heap_alloc_new (w.alloc (.cells #[.string nm, .int .i64 bend, .slice (some ⟨b, o, none⟩) n cap] 73)) (.cells #[.int .i64 t] 3)
    rwa [World.size_alloc] at this
  have hL : W0.heap[w.heap.size + 1 + 1]? = some (.cells #[.int .i64 0, .int .i64 0, .int .i64 0, .int .i64 0, .int .i64 0, .int .i64 0, .int .i64 0, .int .i64 0, .int .i64 0, .int .i64 0, .int .i64 0, .int .i64 0] 102 (0, 0)) := by
    rw [hW0]
    have := heap_alloc_new ((w.alloc (.cells #[.string nm, .int .i64 bend, .slice (some ⟨b, o, none⟩) n cap] 73)).alloc (.cells #[.int .i64 t] 3)) (.cells #[.int .i64 0, .int .i64 0, .int .i64 0, .int .i64 0, .int .i64 0, .int .i64 0, .int .i64 0, .int .i64 0, .int .i64 0, .int .i64 0, .int .i64 0, .int .i64 0] 102)
    rwa [World.size_alloc, World.size_alloc] at this
  clear hW0
  refine (HSearch.out W0 _ _ hBel (cells3 hP).2.2 (cells_one hT)).mono ?_
  rintro e w1 ⟨rfl, hb⟩
  have HB1 := Lib.hid (trans' hBel hb)
  have HP := Lib.hid (keepb hb hP)
  have HT := Lib.hid (keepb hb hT)
  have HL := Lib.hid (keepb hb hL)
  clear hb hP hT hL hBel HSearch
  obtain ⟨k0, k1, k2⟩ := cells3 HP.out
  have k3 := cells_one HT.out
  obtain ⟨⟨a0, a1, a2, a3, a4⟩, d0, d1, d2, d3, d4⟩ := HTA.out w1 HB1.out
  have i0 : (0 : Int) ≤ (a : Int) := by omega
  obtain ⟨hn3, hn4⟩ := hn2
  have hz := lt_of_block HL.out
  have hz1 := lt_of_block HT.out
  have hz0 := lt_of_block HP.out
  obtain ⟨l0, l1, l2, l3, l4, l5, l6, l7, l8, l9, l10, l11⟩ := cells12 HL.out
  obtain ⟨f0, f1, f2, f3, f4, f5, f6, f7, f8, f9, f10, f11⟩ := free12 HL.out
  have i1 : (a : Int) < (n : Int) := by omega
  have i2 : IntKind.i64.wrap ((a : Int) + 1) = (a : Int) + 1 := IntWalk.i64_in _ (by omega)
  have i3 : ((a : Int) + 1).toNat = a + 1 := by omega
  have i4 : (0 : Int) ≤ (a : Int) + 1 := by omega
  have i5 : (a : Int) + 1 < (n : Int) := by omega
  go_wp2_with fail
  go_region_held3 (fun W => W.cell? ⟨w.heap.size, 2, none⟩ = some (.slice (some ⟨b, o, none⟩) n cap) ∧ W.cell? ⟨b, o + a * 5, none⟩ = some (.int .i64 At) ∧ W.cell? ⟨b, o + a * 5 + 1, none⟩ = some (.int .i64 Ax) ∧ W.cell? ⟨b, o + a * 5 + 2, none⟩ = some (.int .i64 Ay) ∧ W.cell? ⟨b, o + a * 5 + 3, none⟩ = some (.int .i64 Az) ∧ W.cell? ⟨b, o + a * 5 + 4, none⟩ = some (.int .i64 Ae)
      ∧ W.cell? ⟨b, o + (a + 1) * 5, none⟩ = some (.int .i64 Bt) ∧ W.cell? ⟨b, o + (a + 1) * 5 + 1, none⟩ = some (.int .i64 Bx) ∧ W.cell? ⟨b, o + (a + 1) * 5 + 2, none⟩ = some (.int .i64 By) ∧ W.cell? ⟨b, o + (a + 1) * 5 + 3, none⟩ = some (.int .i64 Bz) ∧ W.cell? ⟨b, o + (a + 1) * 5 + 4, none⟩ = some (.int .i64 Be))
    (with_reducible refine ⟨keepc ?_ k2, keepc ?_ a0, keepc ?_ a1, keepc ?_ a2, keepc ?_ a3, keepc ?_ a4, keepc ?_ d0, keepc ?_ d1, keepc ?_ d2, keepc ?_ d3, keepc ?_ d4⟩ <;> (repeat (first | with_reducible exact Below.refl _ _ | with_reducible refine alloc1 ?_ _ | with_reducible refine Below.drew ?_ | with_reducible refine drewN1 ?_ _ | with_reducible refine setC ?_ (by omega) _)) <;> done) (fail)
  all_goals
    go_wp2_with fail
    refine bodyPost_ret (v := .agg #[.int .i64 At, .int .i64 Ax, .int .i64 Ay, .int .i64 Az, .int .i64 Ae, .int .i64 Bt, .int .i64 Bx, .int .i64 By, .int .i64 Bz, .int .i64 Be, .int .i64 (t - At), .int .i64 (Bt - At)]) (by simp [results, Try.results60, go_sem, hz, hz1, l0, l1, l2, l3, l4, l5, l6, l7, l8, l9, l10, l11]) rfl ⟨rfl, ?_⟩
    (repeat (first | with_reducible exact HB1.out | with_reducible refine alloc1 ?_ _ | with_reducible refine Below.drew ?_ | with_reducible refine drewN1 ?_ _ | with_reducible refine setC ?_ (by omega) _))
end Go.Proofs.Ytmbolmmcfnfamaa.Orb
