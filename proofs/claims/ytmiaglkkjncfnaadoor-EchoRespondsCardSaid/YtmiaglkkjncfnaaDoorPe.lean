import Derived.Test.YtmiaglkkjncfnaaDoorPd
import Derived.Test.YtmiaglkkjncfnaaDoorGg
namespace Go.Proofs.YtmiaglkkjncfnaaDoor
open Go.RowKit Go.Proofs.YtmiaglkkjncfnaaDoor.Flt

theorem eq_rangeF (n : Nat) (a b c d : Int) (w : World) : (Op.equalIn (n + 2) 29 (.agg #[.int .i64 a, .int .i64 b]) (.agg #[.int .i64 c, .int .i64 d])).run Tryd.prog w = .ok (a == c && b == d) w := by
  have h1 : (Op.equalIn (n + 1) 3 (.int .i64 a) (.int .i64 c)).run Tryd.prog w = .ok (a == c) w := run_equalIn_int (P := Tryd.prog) w n 3 .i64 .i64 a c Tryd.underlying3
  have h2 : (Op.equalIn (n + 1) 3 (.int .i64 b) (.int .i64 d)).run Tryd.prog w = .ok (b == d) w := run_equalIn_int (P := Tryd.prog) w n 3 .i64 .i64 b d Tryd.underlying3
  rw [run_equalIn_agg (P := Tryd.prog) w (n + 1) 29 _ _ (by kernel_rfl) (by kernel_rfl)]
  have hf : (Tryd.prog.fieldsOf 29).toList = [{ name := "Lo", type := 3, offset := 0, embedded := false, tag := "", pkgPath := "", byteOffset := 0 }, { name := "Hi", type := 3, offset := 1, embedded := false, tag := "", pkgPath := "", byteOffset := 8 }] := by
    unfold Program.fieldsOf
    rw [Tryd.underlying29]
  rw [hf]
  cases hx : (a == c) <;> cases hy : (b == d) <;> rw [hx] at h1 <;> rw [hy] at h2 <;>
    simp [Op.eqFields, Sem.run_bind, go_sem, h1, h2, Tryd.isAgg3, Result.andThen]

/-- a point is equal to itself -/
theorem eq_point (a b c d e f g : Int) (w : World) : (Op.equalIn 10000 31 (.agg #[.int .i64 a, .int .i64 b, .int .i64 c, .int .i64 d, .int .i64 e, .int .i64 f, .int .i64 g]) (.agg #[.int .i64 a, .int .i64 b, .int .i64 c, .int .i64 d, .int .i64 e, .int .i64 f, .int .i64 g])).run Tryd.prog w = .ok true w := by
  have h : ∀ x : Int, (Op.equalIn 9999 3 (.int .i64 x) (.int .i64 x)).run Tryd.prog w = .ok true w := fun x => by
    rw [run_equalIn_int (P := Tryd.prog) w 9998 3 .i64 .i64 x x Tryd.underlying3, beq_self_eq_true]
  have hr : ∀ x y : Int, (Op.equalIn 9999 29 (.agg #[.int .i64 x, .int .i64 y]) (.agg #[.int .i64 x, .int .i64 y])).run Tryd.prog w = .ok true w := fun x y => by
    rw [eq_rangeF 9997 x y x y w, beq_self_eq_true, beq_self_eq_true]; rfl
  rw [run_equalIn_agg (P := Tryd.prog) w 9999 31 _ _ (by kernel_rfl) (by kernel_rfl)]
  have hf : (Tryd.prog.fieldsOf 31).toList = [{ name := "Peak", type := 3, offset := 0, embedded := false, tag := "", pkgPath := "", byteOffset := 0 }, { name := "Energy", type := 3, offset := 1, embedded := false, tag := "", pkgPath := "", byteOffset := 8 }, { name := "Half", type := 29, offset := 2, embedded := false, tag := "", pkgPath := "", byteOffset := 16 }, { name := "Lobe", type := 29, offset := 4, embedded := false, tag := "", pkgPath := "", byteOffset := 32 }, { name := "Side", type := 3, offset := 6, embedded := false, tag := "", pkgPath := "", byteOffset := 48 }] := by
    unfold Program.fieldsOf
    rw [Tryd.underlying31]
  rw [hf]
  have ha : (isAgg 29).run Tryd.prog w = .ok true w := by kernel_rfl
  have hz : (sizeOf 29).run Tryd.prog w = .ok 2 w := by kernel_rfl
  simp [Op.eqFields, Sem.run_bind, go_sem, h, hr, ha, hz, Tryd.isAgg3, Result.andThen]
theorem guard_point : Tryd.prog.eqGuardType Tryd.prog.depth 31 = false := by kernel_rfl

set_option maxRecDepth 100000 in
theorem responds_long (l s : Int) (pv cv : Value) (xs cs : List Nat) (line : Int) (w : World) (hp : Fls .f64 xs w pv) (hc : Fls .f32 cs w cv) (hsm : slightB xs.length cs.length = false) (ht : Tab w) :
    Calls Tryd.prog 3 #[.agg #[.int .i64 l, .int .i64 s, pv, cv], .int .i64 line] w fun e w' => e = .returned (.bool true) ∧ Below w.heap.size w w' := by
  have CA := Lib.hid (fun W (h : FldIn l s pv cv xs cs w W) => awake_any W (ht.below h.hb))
  have CS : Hid (∀ W, FldIn l s pv cv xs cs w W → Calls Tryd.prog 7 #[.agg #[.int .i64 l, .int .i64 s, pv, cv]] W fun e w' => e = .returned (.bool false) ∧ Below W.heap.size W w') := fun W h => by
    have := slight_any l s pv cv xs cs W h.p h.c
    rwa [hsm] at this
  have HS0 : Hid (∀ W0, W0 = w.alloc (.cells #[.int .i64 l, .int .i64 s, pv, cv] 25) → FldIn l s pv cv xs cs w W0) := by
    rintro W0 rfl
    exact FldIn.start hp hc
  obtain ⟨pa, pc, rfl, -, -⟩ := hp.sl
  obtain ⟨ca, cc, rfl, -, -⟩ := hc.sl
  generalize (fvals .f64 xs).length = np at *
  generalize (fvals .f32 cs).length = nc at *
  clear hp hc hsm ht
  go_enter Tryd.func3, Tryd.ntmps3
  go_wp2_with fail
  obtain ⟨W0, hW0⟩ : ∃ W0, W0 = w.alloc (.cells #[.int .i64 l, .int .i64 s, .slice pa np pc, .slice ca nc cc] 25) := ⟨_, rfl⟩
  have SC0 := Lib.hid (HS0.out W0 hW0)
  rw [← hW0]
  clear hW0 HS0
  refine (CA.out _ SC0.out).mono ?_
  rintro e w1 ⟨rfl, hb⟩
  have SC1 := Lib.hid (SC0.out.next hb)
  clear hb SC0
  obtain ⟨k0, k1, k2, k3, kl⟩ := four_cells SC1.out.blk
  go_wp2_with fail
  refine (CS.out _ SC1.out).mono ?_
  rintro e w2 ⟨rfl, hb⟩
  have SC2 := Lib.hid (SC1.out.next hb)
  clear hb SC1 k0 k1 k2 k3 kl
  go_wp2_with fail
  go_ret
  exact ⟨rfl, SC2.out.hb⟩

set_option maxRecDepth 100000 in
set_option maxHeartbeats 4000000 in
theorem responds_bad (l s : Int) (pv cv : Value) (xs cs : List Nat) (line : Int) (w : World) (hp : Fls .f64 xs w pv) (hc : Fls .f32 cs w cv) (hl : I64 l) (hs : I64 s) (hz : ∀ z ∈ pairsOf xs, z.1 < 2 ^ 64 ∧ z.2 < 2 ^ 64) (hsm : slightB xs.length cs.length = true) (hE : lineErr l s (pairsOf xs) line ≠ 0) (ht : Tab w) :
    Calls Tryd.prog 3 #[.agg #[.int .i64 l, .int .i64 s, pv, cv], .int .i64 line] w fun e w' => e = .returned (.bool true) ∧ Below w.heap.size w w' := by
  have CA := Lib.hid (fun W (h : FldIn l s pv cv xs cs w W) => awake_any W (ht.below h.hb))
  have CS : Hid (∀ W, FldIn l s pv cv xs cs w W → Calls Tryd.prog 7 #[.agg #[.int .i64 l, .int .i64 s, pv, cv]] W fun e w' => e = .returned (.bool true) ∧ Below W.heap.size W w') := fun W h => by
    have := slight_any l s pv cv xs cs W h.p h.c
    rwa [hsm] at this
  have HS0 : Hid (∀ W0, W0 = w.alloc (.cells #[.int .i64 l, .int .i64 s, pv, cv] 25) → FldIn l s pv cv xs cs w W0) := by
    rintro W0 rfl
    exact FldIn.start hp hc
  have hlen : xs.length ≤ 100000 := by
    unfold slightB at hsm
    simp at hsm
    omega
  have CI := Lib.hid (fun W (h : FldIn l s pv cv xs cs w W) => sumsC_any l s pv cv xs W h.p hlen)
  have CR := Lib.hid (fun W v (hv : Smp .f64 (pairsOf xs) W v) => refCheckField_any l s v (pairsOf xs) W hv.sl)
  have CP := Lib.hid (fun W v (hv : Smp .f64 (pairsOf xs) W v) => Response_bad l s v (pairsOf xs) line W hl hs hv.sl hz hE)
  have hcs : ((dataErr .f64 1000000000 l s (pairsOf xs)).2 ≠ 0 ∧ Hid (lineErr l s (pairsOf xs) line = (dataErr .f64 1000000000 l s (pairsOf xs)).2)) ∨ ((dataErr .f64 1000000000 l s (pairsOf xs)).2 = 0 ∧ ¬ (0 ≤ line ∧ line ≤ l - 1) ∧ (1 ≤ l ∧ l ≤ 64) ∧ Hid (lineErr l s (pairsOf xs) line = 2)) := by
    unfold lineErr at hE
    unfold Hid lineErr
    by_cases h1 : (dataErr .f64 1000000000 l s (pairsOf xs)).2 = 0
    · right
      rw [if_neg (fun c => c h1)] at hE ⊢
      obtain ⟨a1, a2, -⟩ := dataErr_ok h1
      by_cases h2 : line < 0 ∨ l ≤ line
      · exact ⟨h1, by omega, ⟨a1, a2⟩, if_pos h2⟩
      · rw [if_neg h2] at hE; exact absurd rfl hE
    · exact .inl ⟨h1, if_pos h1⟩
  have CW := Lib.hid (fun w => Within_any line 0 (l - 1) w)
  generalize (dataErr .f64 1000000000 l s (pairsOf xs)).1 = D1 at *
  generalize (dataErr .f64 1000000000 l s (pairsOf xs)).2 = D2 at *
  generalize lineErr l s (pairsOf xs) line = E at *
  generalize pairsOf xs = zs at *
  have hEq := eq_point
  have hGd := guard_point
  unfold pointV at CP
  obtain ⟨pa, pc, rfl, -, -⟩ := hp.sl
  obtain ⟨ca, cc, rfl, -, -⟩ := hc.sl
  generalize (fvals .f64 xs).length = np at *
  generalize (fvals .f32 cs).length = nc at *
  clear hp hc hsm ht hl hs hz hlen hE
  go_enter Tryd.func3, Tryd.ntmps3
  go_wp2_with fail
  obtain ⟨W0, hW0⟩ : ∃ W0, W0 = w.alloc (.cells #[.int .i64 l, .int .i64 s, .slice pa np pc, .slice ca nc cc] 25) := ⟨_, rfl⟩
  have SC0 := Lib.hid (HS0.out W0 hW0)
  rw [← hW0]
  clear hW0 HS0
  refine (CA.out _ SC0.out).mono ?_
  rintro e w1 ⟨rfl, hb⟩
  have SC1 := Lib.hid (SC0.out.next hb)
  clear hb SC0
  obtain ⟨k0, k1, k2, k3, kl⟩ := four_cells SC1.out.blk
  go_wp2_with fail
  refine (CS.out _ SC1.out).mono ?_
  rintro e w2 ⟨rfl, hb⟩
  have SC2 := Lib.hid (SC1.out.next hb)
  clear hb SC1 k0 k1 k2 k3 kl
  obtain ⟨k0, k1, k2, k3, kl⟩ := four_cells SC2.out.blk
  go_wp2_with fail
  refine (CI.out _ SC2.out).mono ?_
  rintro e w3 ⟨v3, rfl, hb, hs, hcp⟩
  have SC3 := Lib.hid (SC2.out.next hb)
  have V_3 := Lib.hid hs
  have K_3 := Lib.hid hcp
  clear hb hs hcp SC2 k0 k1 k2 k3 kl
  obtain ⟨va3, vc3, rfl, -, -⟩ := V_3.out.sl
  go_wp2_with fail
  refine (CP.out _ _ V_3.out).mono ?_
  rintro e w4 ⟨rfl, hb⟩
  have SC4 := Lib.hid (SC3.out.next hb)
  clear hb SC3 V_3 K_3
  have SC4a := Lib.hid (SC4.out.next (below_new w4 (.cells #[.int .i64 0, .int .i64 0, .int .i64 0, .int .i64 0, .int .i64 0, .int .i64 0, .int .i64 0] 31)))
  have PB_4a : Hid (BoxIn w4.heap.size #[.int .i64 0, .int .i64 0, .int .i64 0, .int .i64 0, .int .i64 0, .int .i64 0, .int .i64 0] 31 (w4.alloc (.cells #[.int .i64 0, .int .i64 0, .int .i64 0, .int .i64 0, .int .i64 0, .int .i64 0, .int .i64 0] 31))) := ⟨heap_alloc_new _ _⟩
  clear SC4
  obtain ⟨k0, k1, k2, k3, kl⟩ := four_cells SC4a.out.blk
  go_wp2_with fail
  obtain ⟨w5, hw⟩ : ∃ w5, w5 = w4.alloc (.cells #[.int .i64 0, .int .i64 0, .int .i64 0, .int .i64 0, .int .i64 0, .int .i64 0, .int .i64 0] 31) := ⟨_, rfl⟩
  obtain ⟨bPB, hbn⟩ : ∃ b, b = w4.heap.size := ⟨_, rfl⟩
  rw [← hw] at SC4a PB_4a 
  rw [← hbn] at PB_4a
  rw [← hw, ← hbn]
  have SC5 := SC4a
  have PB_5 := PB_4a
  clear SC4a PB_4a hw hbn k0 k1 k2 k3 kl
  obtain ⟨k0, k1, k2, k3, kl⟩ := four_cells SC5.out.blk
  refine (CI.out _ SC5.out).mono ?_
  rintro e w6 ⟨v6, rfl, hb, hs, hcp⟩
  have SC6 := Lib.hid (SC5.out.next hb)
  have PB_6 := Lib.hid (PB_5.out.next hb)
  have V_6 := Lib.hid hs
  have K_6 := Lib.hid hcp
  clear hb hs hcp SC5 k0 k1 k2 k3 kl PB_5
  obtain ⟨va6, vc6, rfl, -, -⟩ := V_6.out.sl
  go_wp2_with fail
  refine (CR.out _ _ V_6.out).mono ?_
  rintro e w7 ⟨rfl, hb⟩
  have SC7 := Lib.hid (SC6.out.next hb)
  have PB_7 := Lib.hid (PB_6.out.next hb)
  clear hb SC6 V_6 K_6 PB_6
  obtain ⟨k0, k1, k2, k3, kl⟩ := four_cells SC7.out.blk
  obtain ⟨p0, p1, p2, p3, p4, p5, p6, pl⟩ := seven_cells PB_7.out.blk
  rcases hcs with ⟨h1, HL⟩ | ⟨h1, h2, h3, HL⟩
  · have hd1 : (D2 == 0) = false := by rw [beq_eq_false_iff_ne]; exact h1
    have hd2 : (D2 != 0) = true := by rw [bne_iff_ne]; exact h1
    have hE : E = D2 := HL.out
    subst hE
    go_wp2_with fail
    go_ret
    exact ⟨by first | rfl | (simp; done), SC7.out.hb⟩
  · subst h1
    rw [decide_eq_false h2] at CW
    have hE : E = 2 := HL.out
    subst hE
    have hl1 : IntKind.i64.wrap (l - 1) = l - 1 := IntWalk.i64_in _ ⟨by omega, by omega⟩
    go_wp2_with fail
    refine (CW.out _).mono ?_
    rintro e w' ⟨rfl, rfl⟩
    go_wp2_with fail
    go_ret
    exact ⟨by first | rfl | (simp; done), SC7.out.hb⟩

set_option maxRecDepth 100000 in
set_option maxHeartbeats 4000000 in
theorem responds_ok (l s : Int) (pv cv : Value) (xs cs : List Nat) (line : Int) (w : World) (hp : Fls .f64 xs w pv) (hc : Fls .f32 cs w cv) (hl : I64 l) (hs : I64 s) (hz : ∀ z ∈ pairsOf xs, z.1 < 2 ^ 64 ∧ z.2 < 2 ^ 64) (hsm : slightB xs.length cs.length = true) (hE : lineErr l s (pairsOf xs) line = 0) (ht : Tab w) :
    Calls Tryd.prog 3 #[.agg #[.int .i64 l, .int .i64 s, pv, cv], .int .i64 line] w fun e w' => e = .returned (.bool true) ∧ Below w.heap.size w w' := by
  have CA := Lib.hid (fun W (h : FldIn l s pv cv xs cs w W) => awake_any W (ht.below h.hb))
  have CS : Hid (∀ W, FldIn l s pv cv xs cs w W → Calls Tryd.prog 7 #[.agg #[.int .i64 l, .int .i64 s, pv, cv]] W fun e w' => e = .returned (.bool true) ∧ Below W.heap.size W w') := fun W h => by
    have := slight_any l s pv cv xs cs W h.p h.c
    rwa [hsm] at this
  have HS0 : Hid (∀ W0, W0 = w.alloc (.cells #[.int .i64 l, .int .i64 s, pv, cv] 25) → FldIn l s pv cv xs cs w W0) := by
    rintro W0 rfl
    exact FldIn.start hp hc
  have hlen : xs.length ≤ 100000 := by
    unfold slightB at hsm
    simp at hsm
    omega
  have CI := Lib.hid (fun W (h : FldIn l s pv cv xs cs w W) => sumsC_any l s pv cv xs W h.p hlen)
  have CR := Lib.hid (fun W v (hv : Smp .f64 (pairsOf xs) W v) => refCheckField_any l s v (pairsOf xs) W hv.sl)
  obtain ⟨L, S, m, rfl, rfl, rfl, hL1, hL, hS1, hS, hm, hlz, RR⟩ := lineErr_ok hE hz
  have hD : (dataErr .f64 1000000000 (L : Int) S (pairsOf xs)).2 = 0 := by
    unfold lineErr at hE
    by_cases h : (dataErr .f64 1000000000 (L : Int) S (pairsOf xs)).2 = 0
    · exact h
    · rw [if_pos h] at hE; exact absurd hE h
  rw [hD] at CR
  have hq : m * S + S ≤ (pairsOf xs).length := by rw [hlz, ← Nat.succ_mul]; exact Nat.mul_le_mul_right _ hm
  have CP := Lib.hid (fun W v (hv : Smp .f64 (pairsOf xs) W v) (hcp : ∀ a m c, v = .slice a m c → m ≤ c ∧ c ≤ 9223372036854775807) => Response_ok L S m v (pairsOf xs) W hv.sl hcp hz hL hS1 hS hm hlz RR hE)
  have CQ := Lib.hid (fun W v (hv : Smp .f64 (pairsOf xs) W v) => refResponse_ok L S m v (pairsOf xs) W hv.sl hz hL hS1 hS hm hlz RR)
  have CW := Lib.hid (fun w => Within_any (m : Int) 0 ((L : Int) - 1) w)
  rw [decide_eq_true (by omega)] at CW
  have hl1 : IntKind.i64.wrap ((L : Int) - 1) = (L : Int) - 1 := IntWalk.i64_in _ ⟨by omega, by omega⟩
  have hbl := bestI_lt (lineE (pairsOf xs) S m) S hS1
  have hEb : ∀ i, i < S → 0 ≤ lineE (pairsOf xs) S m i := fun i hi => (en_b RR (m * S + i) (by omega)).1
  have hge : ∀ i, i < S → lineE (pairsOf xs) S m i ≤ lineE (pairsOf xs) S m (bestI (lineE (pairsOf xs) S m) S) := fun i hi => bestI_ge (lineE (pairsOf xs) S m) S i hi
  have hsd := outMax_le (f := lineE (pairsOf xs) S m) (M := lineE (pairsOf xs) S m (bestI (lineE (pairsOf xs) S m) S)) (downTo (lobeP (lineE (pairsOf xs) S m)) (bestI (lineE (pairsOf xs) S m) S)) (upFrom (lobeP (lineE (pairsOf xs) S m)) S (bestI (lineE (pairsOf xs) S m) S)) (hEb _ hbl) S hge
  have hq1 := downTo_le (halfP (lineE (pairsOf xs) S m) (lineE (pairsOf xs) S m (bestI (lineE (pairsOf xs) S m) S))) (bestI (lineE (pairsOf xs) S m) S)
  have hq2 : bestI (lineE (pairsOf xs) S m) S ≤ upFrom (halfP (lineE (pairsOf xs) S m) (lineE (pairsOf xs) S m (bestI (lineE (pairsOf xs) S m) S))) S (bestI (lineE (pairsOf xs) S m) S) ∧ upFrom (halfP (lineE (pairsOf xs) S m) (lineE (pairsOf xs) S m (bestI (lineE (pairsOf xs) S m) S))) S (bestI (lineE (pairsOf xs) S m) S) < S := upTo_b _ S _ _ hbl
  have hq3 := downTo_le (lobeP (lineE (pairsOf xs) S m)) (bestI (lineE (pairsOf xs) S m) S)
  have hq4 : bestI (lineE (pairsOf xs) S m) S ≤ upFrom (lobeP (lineE (pairsOf xs) S m)) S (bestI (lineE (pairsOf xs) S m) S) ∧ upFrom (lobeP (lineE (pairsOf xs) S m)) S (bestI (lineE (pairsOf xs) S m) S) < S := upTo_b _ S _ _ hbl
  unfold rspV pointV at CP CQ
  clear hEb hge hE
  generalize outMax (lineE (pairsOf xs) S m) (downTo (lobeP (lineE (pairsOf xs) S m)) (bestI (lineE (pairsOf xs) S m) S)) (upFrom (lobeP (lineE (pairsOf xs) S m)) S (bestI (lineE (pairsOf xs) S m) S)) S = sd at *
  generalize downTo (halfP (lineE (pairsOf xs) S m) (lineE (pairsOf xs) S m (bestI (lineE (pairsOf xs) S m) S))) (bestI (lineE (pairsOf xs) S m) S) = a1 at *
  generalize upFrom (halfP (lineE (pairsOf xs) S m) (lineE (pairsOf xs) S m (bestI (lineE (pairsOf xs) S m) S))) S (bestI (lineE (pairsOf xs) S m) S) = b1 at *
  generalize downTo (lobeP (lineE (pairsOf xs) S m)) (bestI (lineE (pairsOf xs) S m) S) = a2 at *
  generalize upFrom (lobeP (lineE (pairsOf xs) S m)) S (bestI (lineE (pairsOf xs) S m) S) = b2 at *
  generalize lineE (pairsOf xs) S m (bestI (lineE (pairsOf xs) S m) S) = gr at *
  generalize bestI (lineE (pairsOf xs) S m) S = p at *
  generalize (dataErr .f64 1000000000 (L : Int) S (pairsOf xs)).1 = D1 at *
  generalize pairsOf xs = zs at *
  have hEq := eq_point
  have hGd := guard_point
  obtain ⟨pa, pc, rfl, -, -⟩ := hp.sl
  obtain ⟨ca, cc, rfl, -, -⟩ := hc.sl
  generalize (fvals .f64 xs).length = np at *
  generalize (fvals .f32 cs).length = nc at *
  clear hp hc hsm ht hl hs hz hlen RR hD hlz hq
  by_cases hg0 : gr = 0
  · simp only [hg0, if_true] at CP CQ
    clear hq1 hq2 hq3 hq4 hsd hg0
    go_enter Tryd.func3, Tryd.ntmps3
    go_wp2_with fail
    obtain ⟨W0, hW0⟩ : ∃ W0, W0 = w.alloc (.cells #[.int .i64 L, .int .i64 S, .slice pa np pc, .slice ca nc cc] 25) := ⟨_, rfl⟩
    have SC0 := Lib.hid (HS0.out W0 hW0)
    rw [← hW0]
    clear hW0 HS0
    refine (CA.out _ SC0.out).mono ?_
    rintro e w1 ⟨rfl, hb⟩
    have SC1 := Lib.hid (SC0.out.next hb)
    clear hb SC0
    obtain ⟨k0, k1, k2, k3, kl⟩ := four_cells SC1.out.blk
    go_wp2_with fail
    refine (CS.out _ SC1.out).mono ?_
    rintro e w2 ⟨rfl, hb⟩
    have SC2 := Lib.hid (SC1.out.next hb)
    clear hb SC1 k0 k1 k2 k3 kl
    obtain ⟨k0, k1, k2, k3, kl⟩ := four_cells SC2.out.blk
    go_wp2_with fail
    refine (CI.out _ SC2.out).mono ?_
    rintro e w3 ⟨v3, rfl, hb, hs, hcp⟩
    have SC3 := Lib.hid (SC2.out.next hb)
    have V_3 := Lib.hid hs
    have K_3 := Lib.hid hcp
    clear hb hs hcp SC2 k0 k1 k2 k3 kl
    obtain ⟨va3, vc3, rfl, -, -⟩ := V_3.out.sl
    go_wp2_with fail
    refine (CP.out _ _ V_3.out K_3.out).mono ?_
    rintro e w4 ⟨rfl, hb⟩
    have SC4 := Lib.hid (SC3.out.next hb)
    clear hb SC3 V_3 K_3
    have SC4a := Lib.hid (SC4.out.next (below_new w4 (.cells #[.int .i64 0, .int .i64 0, .int .i64 0, .int .i64 0, .int .i64 0, .int .i64 0, .int .i64 0] 31)))
    have PB_4a : Hid (BoxIn w4.heap.size #[.int .i64 0, .int .i64 0, .int .i64 0, .int .i64 0, .int .i64 0, .int .i64 0, .int .i64 0] 31 (w4.alloc (.cells #[.int .i64 0, .int .i64 0, .int .i64 0, .int .i64 0, .int .i64 0, .int .i64 0, .int .i64 0] 31))) := ⟨heap_alloc_new _ _⟩
    clear SC4
    obtain ⟨k0, k1, k2, k3, kl⟩ := four_cells SC4a.out.blk
    go_wp2_with fail
    obtain ⟨w5, hw⟩ : ∃ w5, w5 = w4.alloc (.cells #[.int .i64 0, .int .i64 0, .int .i64 0, .int .i64 0, .int .i64 0, .int .i64 0, .int .i64 0] 31) := ⟨_, rfl⟩
    obtain ⟨bPB, hbn⟩ : ∃ b, b = w4.heap.size := ⟨_, rfl⟩
    rw [← hw] at SC4a PB_4a 
    rw [← hbn] at PB_4a
    rw [← hw, ← hbn]
    have SC5 := SC4a
    have PB_5 := PB_4a
    clear SC4a PB_4a hw hbn k0 k1 k2 k3 kl
    obtain ⟨k0, k1, k2, k3, kl⟩ := four_cells SC5.out.blk
    refine (CI.out _ SC5.out).mono ?_
    rintro e w6 ⟨v6, rfl, hb, hs, hcp⟩
    have SC6 := Lib.hid (SC5.out.next hb)
    have PB_6 := Lib.hid (PB_5.out.next hb)
    have V_6 := Lib.hid hs
    have K_6 := Lib.hid hcp
    clear hb hs hcp SC5 k0 k1 k2 k3 kl PB_5
    obtain ⟨va6, vc6, rfl, -, -⟩ := V_6.out.sl
    go_wp2_with fail
    refine (CR.out _ _ V_6.out).mono ?_
    rintro e w7 ⟨rfl, hb⟩
    have SC7 := Lib.hid (SC6.out.next hb)
    have PB_7 := Lib.hid (PB_6.out.next hb)
    clear hb SC6 V_6 K_6 PB_6
    obtain ⟨k0, k1, k2, k3, kl⟩ := four_cells SC7.out.blk
    go_wp2_with fail
    refine (CW.out _).mono ?_
    rintro e w' ⟨rfl, rfl⟩
    go_wp2_with fail
    refine (CI.out _ SC7.out).mono ?_
    rintro e w8 ⟨v8, rfl, hb, hs, hcp⟩
    have SC8 := Lib.hid (SC7.out.next hb)
    have PB_8 := Lib.hid (PB_7.out.next hb)
    have V_8 := Lib.hid hs
    have K_8 := Lib.hid hcp
    clear hb hs hcp SC7 PB_7 k0 k1 k2 k3 kl
    obtain ⟨va8, vc8, rfl, -, -⟩ := V_8.out.sl
    go_wp2_with fail
    refine (CQ.out _ _ V_8.out).mono ?_
    rintro e w9 ⟨rfl, hb⟩
    have SC9 := Lib.hid (SC8.out.next hb)
    have PB_9 := Lib.hid (PB_8.out.next hb)
    clear hb SC8 V_8 K_8 PB_8
    have SC9a := Lib.hid (SC9.out.next (below_new w9 (.cells #[.int .i64 0, .int .i64 0, .int .i64 0, .int .i64 0, .int .i64 0, .int .i64 0, .int .i64 0] 31)))
    have QB_9a : Hid (BoxIn w9.heap.size #[.int .i64 0, .int .i64 0, .int .i64 0, .int .i64 0, .int .i64 0, .int .i64 0, .int .i64 0] 31 (w9.alloc (.cells #[.int .i64 0, .int .i64 0, .int .i64 0, .int .i64 0, .int .i64 0, .int .i64 0, .int .i64 0] 31))) := ⟨heap_alloc_new _ _⟩
    have PB_9a := Lib.hid (PB_9.out.next (below_new w9 (.cells #[.int .i64 0, .int .i64 0, .int .i64 0, .int .i64 0, .int .i64 0, .int .i64 0, .int .i64 0] 31)))
    obtain ⟨p0, p1, p2, p3, p4, p5, p6, pl⟩ := seven_cells PB_9a.out.blk
    obtain ⟨k0, k1, k2, k3, kl⟩ := four_cells SC9a.out.blk
    go_wp2_with fail
    go_ret
    exact ⟨by first | rfl | (simp; done), SC9a.out.hb⟩
  · simp only [hg0, if_false] at CP CQ
    go_enter Tryd.func3, Tryd.ntmps3
    go_wp2_with fail
    obtain ⟨W0, hW0⟩ : ∃ W0, W0 = w.alloc (.cells #[.int .i64 L, .int .i64 S, .slice pa np pc, .slice ca nc cc] 25) := ⟨_, rfl⟩
    have SC0 := Lib.hid (HS0.out W0 hW0)
    rw [← hW0]
    clear hW0 HS0
    refine (CA.out _ SC0.out).mono ?_
    rintro e w1 ⟨rfl, hb⟩
    have SC1 := Lib.hid (SC0.out.next hb)
    clear hb SC0
    obtain ⟨k0, k1, k2, k3, kl⟩ := four_cells SC1.out.blk
    go_wp2_with fail
    refine (CS.out _ SC1.out).mono ?_
    rintro e w2 ⟨rfl, hb⟩
    have SC2 := Lib.hid (SC1.out.next hb)
    clear hb SC1 k0 k1 k2 k3 kl
    obtain ⟨k0, k1, k2, k3, kl⟩ := four_cells SC2.out.blk
    go_wp2_with fail
    refine (CI.out _ SC2.out).mono ?_
    rintro e w3 ⟨v3, rfl, hb, hs, hcp⟩
    have SC3 := Lib.hid (SC2.out.next hb)
    have V_3 := Lib.hid hs
    have K_3 := Lib.hid hcp
    clear hb hs hcp SC2 k0 k1 k2 k3 kl
    obtain ⟨va3, vc3, rfl, -, -⟩ := V_3.out.sl
    go_wp2_with fail
    refine (CP.out _ _ V_3.out K_3.out).mono ?_
    rintro e w4 ⟨rfl, hb⟩
    have SC4 := Lib.hid (SC3.out.next hb)
    clear hb SC3 V_3 K_3
    have SC4a := Lib.hid (SC4.out.next (below_new w4 (.cells #[.int .i64 p, .int .i64 gr, .int .i64 a1, .int .i64 b1, .int .i64 a2, .int .i64 b2, .int .i64 sd] 31)))
    have PB_4a : Hid (BoxIn w4.heap.size #[.int .i64 p, .int .i64 gr, .int .i64 a1, .int .i64 b1, .int .i64 a2, .int .i64 b2, .int .i64 sd] 31 (w4.alloc (.cells #[.int .i64 p, .int .i64 gr, .int .i64 a1, .int .i64 b1, .int .i64 a2, .int .i64 b2, .int .i64 sd] 31))) := ⟨heap_alloc_new _ _⟩
    clear SC4
    obtain ⟨k0, k1, k2, k3, kl⟩ := four_cells SC4a.out.blk
    go_wp2_with fail
    obtain ⟨w5, hw⟩ : ∃ w5, w5 = w4.alloc (.cells #[.int .i64 p, .int .i64 gr, .int .i64 a1, .int .i64 b1, .int .i64 a2, .int .i64 b2, .int .i64 sd] 31) := ⟨_, rfl⟩
    obtain ⟨bPB, hbn⟩ : ∃ b, b = w4.heap.size := ⟨_, rfl⟩
    rw [← hw] at SC4a PB_4a 
    rw [← hbn] at PB_4a
    rw [← hw, ← hbn]
    have SC5 := SC4a
    have PB_5 := PB_4a
    clear SC4a PB_4a hw hbn k0 k1 k2 k3 kl
    obtain ⟨k0, k1, k2, k3, kl⟩ := four_cells SC5.out.blk
    refine (CI.out _ SC5.out).mono ?_
    rintro e w6 ⟨v6, rfl, hb, hs, hcp⟩
    have SC6 := Lib.hid (SC5.out.next hb)
    have PB_6 := Lib.hid (PB_5.out.next hb)
    have V_6 := Lib.hid hs
    have K_6 := Lib.hid hcp
    clear hb hs hcp SC5 k0 k1 k2 k3 kl PB_5
    obtain ⟨va6, vc6, rfl, -, -⟩ := V_6.out.sl
    go_wp2_with fail
    refine (CR.out _ _ V_6.out).mono ?_
    rintro e w7 ⟨rfl, hb⟩
    have SC7 := Lib.hid (SC6.out.next hb)
    have PB_7 := Lib.hid (PB_6.out.next hb)
    clear hb SC6 V_6 K_6 PB_6
    obtain ⟨k0, k1, k2, k3, kl⟩ := four_cells SC7.out.blk
    go_wp2_with fail
    refine (CW.out _).mono ?_
    rintro e w' ⟨rfl, rfl⟩
    go_wp2_with fail
    refine (CI.out _ SC7.out).mono ?_
    rintro e w8 ⟨v8, rfl, hb, hs, hcp⟩
    have SC8 := Lib.hid (SC7.out.next hb)
    have PB_8 := Lib.hid (PB_7.out.next hb)
    have V_8 := Lib.hid hs
    have K_8 := Lib.hid hcp
    clear hb hs hcp SC7 PB_7 k0 k1 k2 k3 kl
    obtain ⟨va8, vc8, rfl, -, -⟩ := V_8.out.sl
    go_wp2_with fail
    refine (CQ.out _ _ V_8.out).mono ?_
    rintro e w9 ⟨rfl, hb⟩
    have SC9 := Lib.hid (SC8.out.next hb)
    have PB_9 := Lib.hid (PB_8.out.next hb)
    clear hb SC8 V_8 K_8 PB_8
    have SC9a := Lib.hid (SC9.out.next (below_new w9 (.cells #[.int .i64 p, .int .i64 gr, .int .i64 a1, .int .i64 b1, .int .i64 a2, .int .i64 b2, .int .i64 sd] 31)))
    have QB_9a : Hid (BoxIn w9.heap.size #[.int .i64 p, .int .i64 gr, .int .i64 a1, .int .i64 b1, .int .i64 a2, .int .i64 b2, .int .i64 sd] 31 (w9.alloc (.cells #[.int .i64 p, .int .i64 gr, .int .i64 a1, .int .i64 b1, .int .i64 a2, .int .i64 b2, .int .i64 sd] 31))) := ⟨heap_alloc_new _ _⟩
    have PB_9a := Lib.hid (PB_9.out.next (below_new w9 (.cells #[.int .i64 p, .int .i64 gr, .int .i64 a1, .int .i64 b1, .int .i64 a2, .int .i64 b2, .int .i64 sd] 31)))
    obtain ⟨p0, p1, p2, p3, p4, p5, p6, pl⟩ := seven_cells PB_9a.out.blk
    obtain ⟨x0, x1, x2, x3, x4, x5, x6, xl⟩ := seven_cells QB_9a.out.blk
    obtain ⟨k0, k1, k2, k3, kl⟩ := four_cells SC9a.out.blk
    obtain ⟨hq5, hq6⟩ := hq2
    obtain ⟨hq7, hq8⟩ := hq4
    have u1 := decide_eq_true hq1
    have u3 := decide_eq_true hq3
    have u5 := decide_eq_true hq5
    have u6 := decide_eq_true hq6
    have u7 := decide_eq_true hq7
    have u8 := decide_eq_true hq8
    have u9 := decide_eq_true hsd
    go_wp2_with fail
    go_ret
    exact ⟨by first | rfl | (simp; done), SC9a.out.hb⟩

/-- THE LAW, FOR ALL FIELDS AND LINES -/
theorem responds_any (l s : Int) (pv cv : Value) (xs cs : List Nat) (line : Int) (w : World) (h : FieldS l s pv cv xs cs w) (ht : Tab w) :
    Calls Tryd.prog 3 #[.agg #[.int .i64 l, .int .i64 s, pv, cv], .int .i64 line] w fun e w' => e = .returned (.bool true) ∧ Below w.heap.size w w' := by
  cases hsm : slightB xs.length cs.length with
  | false => exact responds_long l s pv cv xs cs line w h.p h.c hsm ht
  | true =>
    by_cases hE : lineErr l s (pairsOf xs) line = 0
    · exact responds_ok l s pv cv xs cs line w h.p h.c h.hl h.hs (pairs_b64 h.bp) hsm hE ht
    · exact responds_bad l s pv cv xs cs line w h.p h.c h.hl h.hs (pairs_b64 h.bp) hsm hE ht
end Go.Proofs.YtmiaglkkjncfnaaDoor
