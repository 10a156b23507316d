import Derived.Test.YtcjdbhcpcigmdaaDoorNi
namespace Go.Proofs.YtcjdbhcpcigmdaaDoor
open Go.RowKit Go.Proofs.YtcjdbhcpcigmdaaDoor.Flt

theorem Build.sl {xs : List Int} {w' : World} {B n : Nat} {v : Value} (hb : n ≤ 1000) (ho : w'.ownsRow B 3 1 v n (ivals xs)) : Sl w' v (ivals xs) ∧ NilOk v := ⟨Sl.of_owns ho (by omega), NilOk.of_owns ho⟩

set_option maxRecDepth 100000 in
set_option maxHeartbeats 1000000 in
theorem transforms_long (va : Value) (xs : List Int) (w : World) (ha : Sl w va (ivals xs)) (h : 64 < xs.length ∧ xs.length ≤ 128 ∨ 130 < xs.length) (ht : Tab w) :
    Calls Tryd.prog 7 #[va] w fun e w' => e = .returned (.bool true) ∧ Below w.heap.size w w' := by
  have CA := Lib.hid (awake_any w ht)
  obtain ⟨aa, ac, rfl, hla, -⟩ := ha
  have ex : (ivals xs).length = xs.length := by simp [ivals]
  rw [ex] at hla ⊢
  generalize xs.length = n at *
  clear ex ht
  rcases h with ⟨h1, h2⟩ | h1
  all_goals
    go_enter Tryd.func7, Tryd.ntmps7
    go_wp2_with fail
    refine CA.out.mono ?_
    rintro e w1 ⟨rfl, hb⟩
    have HB1 := Lib.hid hb
    clear hb
    go_wp2_with fail
    go_ret
    exact ⟨rfl, HB1.out⟩

set_option maxRecDepth 100000 in
set_option maxHeartbeats 1000000 in
theorem transforms_bad (va : Value) (xs : List Int) (w : World) (ha : Sl w va (ivals xs)) (hnil : NilOk va) (h : xs.length ≤ 64 ∨ 128 < xs.length ∧ xs.length ≤ 130) (ea : listErr xs ≠ 0) (ht : Tab w) :
    Calls Tryd.prog 7 #[va] w fun e w' => e = .returned (.bool true) ∧ Below w.heap.size w w' := by
  have CA := Lib.hid (awake_any w ht)
  have S := Lib.hid (And.intro ha hnil)
  have C1 : Hid (∀ W, Below w.heap.size w W → Calls Tryd.prog 45 #[va] W (CopyOk xs W)) := fun W hb => CopyInts_any va xs W (S.out.1.below hb (Nat.le_refl _)) S.out.2 (by omega)
  have C2 : Hid (∀ W, Below w.heap.size w W → Calls Tryd.prog 47 #[va] W fun e w' => e = .returned (.int .i64 (listErr xs)) ∧ W = w') := fun W hb => refCheckList_any va xs W (S.out.1.below hb (Nat.le_refl _)) (by omega)
  have C3 : Hid (∀ W v B, W.ownsRow B 3 1 v xs.length (ivals xs) → Calls Tryd.prog 44 #[v] W fun e w' => e = .returned (.tuple #[.slice none 0 0, .int .i64 (listErr xs)]) ∧ W = w') := fun W v B ho => Transform_bad v xs W (Build.sl (by omega) ho).1 ea
  have C4 : Hid (∀ W v B, W.ownsRow B 3 1 v xs.length (ivals xs) → Calls Tryd.prog 46 #[v] W fun e w' => e = .returned (.tuple #[.slice none 0 0, .int .i64 (listErr xs)]) ∧ W = w') := fun W v B ho => Inverse_bad v xs W (Build.sl (by omega) ho).1 ea
  obtain ⟨aa, ac, rfl, hla, -⟩ := ha
  have ex : (ivals xs).length = xs.length := by simp [ivals]
  rw [ex] at hla C1 C2 ⊢
  have hr : (listErr xs != 0) = true := by rw [bne_iff_ne]; exact ea
  generalize listErr xs = r at *
  obtain ⟨n, hn⟩ : ∃ n, n = xs.length := ⟨_, rfl⟩
  rw [← hn] at hla C1 C2 h ⊢
  clear ex ht hn ea hnil S
  rcases h with h1 | ⟨h1, h2⟩
  all_goals
    go_enter Tryd.func7, Tryd.ntmps7
    go_wp2_with fail
    refine CA.out.mono ?_
    rintro e w1 ⟨rfl, hb⟩
    have HB1 := Lib.hid hb
    clear hb
    go_wp2_with fail
    refine (C1.out _ HB1.out).mono ?_
    rintro e w2 ⟨v2, rfl, hb, ho⟩
    have HB2 := Lib.hid (HB1.out.trans (hb.mono HB1.out.size))
    have C3' := Lib.hid (C3.out _ _ _ ho)
    clear hb ho
    go_wp2_with fail
    refine C3'.out.mono ?_
    rintro e w' ⟨rfl, rfl⟩
    clear C3'
    go_wp2_with fail
    refine (C1.out _ HB2.out).mono ?_
    rintro e w3 ⟨v3, rfl, hb, ho⟩
    have HB3 := Lib.hid (HB2.out.trans (hb.mono HB2.out.size))
    have C4' := Lib.hid (C4.out _ _ _ ho)
    clear hb ho
    go_wp2_with fail
    refine C4'.out.mono ?_
    rintro e w' ⟨rfl, rfl⟩
    clear C4'
    go_wp2_with fail
    refine (C2.out _ HB3.out).mono ?_
    rintro e w' ⟨rfl, rfl⟩
    go_wp2_with fail
    go_ret
    exact ⟨by simp, HB3.out⟩


/-- a list of a call, in a world: what it holds -/
structure Got (L : List Int) (W : World) (v : Value) : Prop where
  sl : Sl W v (ivals L)
  nil : NilOk v
theorem Got.of {L : List Int} {W : World} {v : Value} {B n : Nat} (hn : n ≤ 1000) (ho : W.ownsRow B 3 1 v n (ivals L)) : Got L W v := ⟨Sl.of_owns ho (by omega), NilOk.of_owns ho⟩
theorem Got.below {L : List Int} {W W' : World} {v : Value} (h : Got L W v) (hb : Below W.heap.size W W') : Got L W' v := ⟨h.sl.below hb (Nat.le_refl _), h.nil⟩

/-- the contracts of the calls, in one form: from any world -/
theorem copyG {v : Value} {L : List Int} {W : World} (h : Got L W v) (hn : L.length ≤ 1000) : Calls Tryd.prog 45 #[v] W fun e w' => ∃ v', e = .returned v' ∧ Below W.heap.size W w' ∧ Got L w' v' :=
  (CopyInts_any v L W h.sl h.nil hn).mono fun _ _ ⟨v', h1, h2, h3⟩ => ⟨v', h1, h2, Got.of hn h3⟩
theorem transG {v : Value} {L : List Int} {W : World} (h : Got L W v) (e : listErr L = 0) : Calls Tryd.prog 44 #[v] W fun e w' => ∃ v', e = .returned (.tuple #[v', .int .i64 0]) ∧ Below W.heap.size W w' ∧ Got (trList L (rootN L.length) 1) w' v' :=
  (Transform_ok v L W h.sl e).mono fun _ _ ⟨v', h1, h2, h3⟩ => ⟨v', h1, h2, Got.of (by rw [trList_length]; have := (listErr_ok e).1; omega) h3⟩
theorem invG {v : Value} {L : List Int} {W : World} (h : Got L W v) (e : listErr L = 0) : Calls Tryd.prog 46 #[v] W fun e w' => ∃ v', e = .returned (.tuple #[v', .int .i64 0]) ∧ Below W.heap.size W w' ∧ Got (trList L (recN (rootN L.length)) (recN L.length)) w' v' :=
  (Inverse_ok v L W h.sl e).mono fun _ _ ⟨v', h1, h2, h3⟩ => ⟨v', h1, h2, Got.of (by rw [trList_length]; have := (listErr_ok e).1; omega) h3⟩
theorem rtransG {v : Value} {L : List Int} {W : World} (h : Got L W v) (e : listErr L = 0) : Calls Tryd.prog 49 #[v] W fun e w' => ∃ v', e = .returned v' ∧ Below W.heap.size W w' ∧ Got (trList L (rootN L.length) 1) w' v' :=
  (refTransform_any v L W h.sl e).mono fun _ _ ⟨v', h1, h2, h3⟩ => ⟨v', h1, h2, Got.of (by rw [trList_length]; have := (listErr_ok e).1; omega) h3⟩
theorem rinvG {v : Value} {L : List Int} {W : World} (h : Got L W v) (e : listErr L = 0) : Calls Tryd.prog 50 #[v] W fun e w' => ∃ v', e = .returned v' ∧ Below W.heap.size W w' ∧ Got (trList L (recN (rootN L.length)) (recN L.length)) w' v' :=
  (refInverse_any v L W h.sl e).mono fun _ _ ⟨v', h1, h2, h3⟩ => ⟨v', h1, h2, Got.of (by rw [trList_length]; have := (listErr_ok e).1; omega) h3⟩
theorem intsG {v v' : Value} {L : List Int} {W : World} (h : Got L W v) (h' : Got L W v') : Calls Tryd.prog 48 #[v, v'] W fun e w' => e = .returned (.bool true) ∧ Below W.heap.size W w' :=
  (Ints_true v v' L W h.sl h'.sl).mono fun _ _ ⟨h1, q, h2⟩ => ⟨h1, by rw [h2]; exact below_drewN' _ _ _⟩


set_option maxRecDepth 100000 in
set_option maxHeartbeats 2000000 in
theorem transforms_ok (va : Value) (xs : List Int) (w : World) (ha : Got xs w va) (h64 : xs.length ≤ 64) (ea : listErr xs = 0) (ht : Tab w) :
    Calls Tryd.prog 7 #[va] w fun e w' => e = .returned (.bool true) ∧ Below w.heap.size w w' := by
  have CA := Lib.hid (awake_any w ht)
  have G0 := Lib.hid ha
  obtain ⟨bk1, bk2⟩ := tr_back xs ea h64
  have E1 := Lib.hid (tr_err xs (rootN xs.length) 1 ea)
  have E2 := Lib.hid (tr_err xs (recN (rootN xs.length)) (recN xs.length) ea)
  have EA := Lib.hid ea
  obtain ⟨X, hX⟩ : ∃ X, X = trList xs (rootN xs.length) 1 := ⟨_, rfl⟩
  obtain ⟨Y, hY⟩ : ∃ Y, Y = trList xs (recN (rootN xs.length)) (recN xs.length) := ⟨_, rfl⟩
  have lX : X.length = xs.length := by rw [hX, trList_length]
  have lY : Y.length = xs.length := by rw [hY, trList_length]
  have K1 : Hid (trList X (recN (rootN X.length)) (recN X.length) = xs) := by unfold Hid; rw [lX, hX]; exact bk1
  have K2 : Hid (trList Y (rootN Y.length) 1 = xs) := by unfold Hid; rw [lY, hY]; exact bk2
  rw [← hX] at E1
  rw [← hY] at E2
  have T1 : Hid (∀ v W, Got xs W v → Calls Tryd.prog 44 #[v] W fun e w' => ∃ v', e = .returned (.tuple #[v', .int .i64 0]) ∧ Below W.heap.size W w' ∧ Got X w' v') := by rw [hX]; exact fun v W h => transG h EA.out
  have T2 : Hid (∀ v W, Got xs W v → Calls Tryd.prog 46 #[v] W fun e w' => ∃ v', e = .returned (.tuple #[v', .int .i64 0]) ∧ Below W.heap.size W w' ∧ Got Y w' v') := by rw [hY]; exact fun v W h => invG h EA.out
  have T3 : Hid (∀ v W, Got xs W v → Calls Tryd.prog 49 #[v] W fun e w' => ∃ v', e = .returned v' ∧ Below W.heap.size W w' ∧ Got X w' v') := by rw [hX]; exact fun v W h => rtransG h EA.out
  have T4 : Hid (∀ v W, Got xs W v → Calls Tryd.prog 50 #[v] W fun e w' => ∃ v', e = .returned v' ∧ Below W.heap.size W w' ∧ Got Y w' v') := by rw [hY]; exact fun v W h => rinvG h EA.out
  have T5 : Hid (∀ v W, Got X W v → Calls Tryd.prog 46 #[v] W fun e w' => ∃ v', e = .returned (.tuple #[v', .int .i64 0]) ∧ Below W.heap.size W w' ∧ Got xs w' v') := by
    intro v W h
    have := invG h E1.out
    rwa [K1.out] at this
  have T6 : Hid (∀ v W, Got Y W v → Calls Tryd.prog 44 #[v] W fun e w' => ∃ v', e = .returned (.tuple #[v', .int .i64 0]) ∧ Below W.heap.size W w' ∧ Got xs w' v') := by
    intro v W h
    have := transG h E2.out
    rwa [K2.out] at this
  have T0 : Hid (∀ W, Got xs W va → Calls Tryd.prog 47 #[va] W fun e w' => e = .returned (.int .i64 0) ∧ W = w') := fun W h => by
    have := refCheckList_any va xs W h.sl (by omega)
    rwa [EA.out] at this
  have HX : Hid (X.length ≤ 1000 ∧ Y.length ≤ 1000 ∧ xs.length ≤ 1000) := ⟨by omega, by omega, by omega⟩
  obtain ⟨aa, ac, rfl, hla, -⟩ := ha.sl
  obtain ⟨n, hn⟩ : ∃ n, n = (ivals xs).length := ⟨_, rfl⟩
  have h64' : n ≤ 64 := by rw [hn]; simpa [ivals] using h64
  rw [← hn] at hla G0 T0 ⊢
  clear ha ht hn h64 ea bk1 bk2 hX hY lX lY
  go_enter Tryd.func7, Tryd.ntmps7
  go_wp2_with fail
  refine CA.out.mono ?_
  rintro e w1 ⟨rfl, hb⟩
  have HB1 := Lib.hid hb
  have A1 := Lib.hid (G0.out.below hb)
  clear hb
  go_wp2_with fail
  refine (copyG A1.out HX.out.2.2).mono ?_
  rintro e w2 ⟨c1, rfl, hb, hc⟩
  have HB2 := Lib.hid (HB1.out.trans (hb.mono HB1.out.size))
  have A2 := Lib.hid (A1.out.below hb)
  have HC := Lib.hid hc
  clear hb hc HB1 A1
  go_wp2_with fail
  refine (T1.out _ _ HC.out).mono ?_
  rintro e w3 ⟨x, rfl, hb, hx⟩
  have HB3 := Lib.hid (HB2.out.trans (hb.mono HB2.out.size))
  have A3 := Lib.hid (A2.out.below hb)
  have X3 := Lib.hid hx
  clear hb hx HC HB2 A2
  go_wp2_with fail
  refine (copyG A3.out HX.out.2.2).mono ?_
  rintro e w4 ⟨c2, rfl, hb, hc⟩
  have HB4 := Lib.hid (HB3.out.trans (hb.mono HB3.out.size))
  have A4 := Lib.hid (A3.out.below hb)
  have X4 := Lib.hid (X3.out.below hb)
  have HC := Lib.hid hc
  clear hb hc HB3 A3 X3
  go_wp2_with fail
  refine (T2.out _ _ HC.out).mono ?_
  rintro e w5 ⟨y, rfl, hb, hy⟩
  have HB5 := Lib.hid (HB4.out.trans (hb.mono HB4.out.size))
  have A5 := Lib.hid (A4.out.below hb)
  have X5 := Lib.hid (X4.out.below hb)
  have Y5 := Lib.hid hy
  clear hb hy HC HB4 A4 X4
  go_wp2_with fail
  refine (T0.out _ A5.out).mono ?_
  rintro e w' ⟨rfl, rfl⟩
  go_wp2_with fail
  refine (T3.out _ _ A5.out).mono ?_
  rintro e w6 ⟨r1, rfl, hb, hr⟩
  have HB6 := Lib.hid (HB5.out.trans (hb.mono HB5.out.size))
  have A6 := Lib.hid (A5.out.below hb)
  have X6 := Lib.hid (X5.out.below hb)
  have Y6 := Lib.hid (Y5.out.below hb)
  have R6 := Lib.hid hr
  clear hb hr HB5 A5 X5 Y5
  go_wp2_with fail
  refine (intsG X6.out R6.out).mono ?_
  rintro e w7 ⟨rfl, hb⟩
  have HB7 := Lib.hid (HB6.out.trans (hb.mono HB6.out.size))
  have A7 := Lib.hid (A6.out.below hb)
  have X7 := Lib.hid (X6.out.below hb)
  have Y7 := Lib.hid (Y6.out.below hb)
  clear hb HB6 A6 X6 Y6 R6
  go_wp2_with fail
  refine (T4.out _ _ A7.out).mono ?_
  rintro e w8 ⟨r2, rfl, hb, hr⟩
  have HB8 := Lib.hid (HB7.out.trans (hb.mono HB7.out.size))
  have A8 := Lib.hid (A7.out.below hb)
  have X8 := Lib.hid (X7.out.below hb)
  have Y8 := Lib.hid (Y7.out.below hb)
  have R8 := Lib.hid hr
  clear hb hr HB7 A7 X7 Y7
  go_wp2_with fail
  refine (intsG Y8.out R8.out).mono ?_
  rintro e w9 ⟨rfl, hb⟩
  have HB9 := Lib.hid (HB8.out.trans (hb.mono HB8.out.size))
  have A9 := Lib.hid (A8.out.below hb)
  have X9 := Lib.hid (X8.out.below hb)
  have Y9 := Lib.hid (Y8.out.below hb)
  clear hb HB8 A8 X8 Y8 R8
  go_wp2_with fail
  refine (copyG X9.out HX.out.1).mono ?_
  rintro e w10 ⟨c3, rfl, hb, hc⟩
  have HB10 := Lib.hid (HB9.out.trans (hb.mono HB9.out.size))
  have A10 := Lib.hid (A9.out.below hb)
  have Y10 := Lib.hid (Y9.out.below hb)
  have HC := Lib.hid hc
  clear hb hc HB9 A9 X9 Y9
  go_wp2_with fail
  refine (T5.out _ _ HC.out).mono ?_
  rintro e w11 ⟨u, rfl, hb, hu⟩
  have HB11 := Lib.hid (HB10.out.trans (hb.mono HB10.out.size))
  have A11 := Lib.hid (A10.out.below hb)
  have Y11 := Lib.hid (Y10.out.below hb)
  have U11 := Lib.hid hu
  clear hb hu HC HB10 A10 Y10
  go_wp2_with fail
  refine (copyG Y11.out HX.out.2.1).mono ?_
  rintro e w12 ⟨c4, rfl, hb, hc⟩
  have HB12 := Lib.hid (HB11.out.trans (hb.mono HB11.out.size))
  have A12 := Lib.hid (A11.out.below hb)
  have U12 := Lib.hid (U11.out.below hb)
  have HC := Lib.hid hc
  clear hb hc HB11 A11 Y11 U11
  go_wp2_with fail
  refine (T6.out _ _ HC.out).mono ?_
  rintro e w13 ⟨v, rfl, hb, hv⟩
  have HB13 := Lib.hid (HB12.out.trans (hb.mono HB12.out.size))
  have A13 := Lib.hid (A12.out.below hb)
  have U13 := Lib.hid (U12.out.below hb)
  have V13 := Lib.hid hv
  clear hb hv HC HB12 A12 U12
  go_wp2_with fail
  refine (intsG U13.out A13.out).mono ?_
  rintro e w14 ⟨rfl, hb⟩
  have HB14 := Lib.hid (HB13.out.trans (hb.mono HB13.out.size))
  have A14 := Lib.hid (A13.out.below hb)
  have V14 := Lib.hid (V13.out.below hb)
  clear hb HB13 A13 U13 V13
  go_wp2_with fail
  refine (intsG V14.out A14.out).mono ?_
  rintro e w15 ⟨rfl, hb⟩
  have HB15 := Lib.hid (HB14.out.trans (hb.mono HB14.out.size))
  clear hb HB14 A14 V14
  go_wp2_with fail
  go_ret
  exact ⟨rfl, HB15.out⟩

/-- THE LAW, FOR ALL LISTS -/
theorem transforms_any (va : Value) (xs : List Int) (w : World) (ha : Sl w va (ivals xs)) (hnil : NilOk va) (ht : Tab w) :
    Calls Tryd.prog 7 #[va] w fun e w' => e = .returned (.bool true) ∧ Below w.heap.size w w' := by
  by_cases h : 64 < xs.length ∧ xs.length ≤ 128 ∨ 130 < xs.length
  · exact transforms_long va xs w ha h ht
  · by_cases ea : listErr xs = 0
    · have := (listErr_ok ea).1
      exact transforms_ok va xs w ⟨ha, hnil⟩ (by omega) ea ht
    · exact transforms_bad va xs w ha hnil (by omega) ea ht
end Go.Proofs.YtcjdbhcpcigmdaaDoor
