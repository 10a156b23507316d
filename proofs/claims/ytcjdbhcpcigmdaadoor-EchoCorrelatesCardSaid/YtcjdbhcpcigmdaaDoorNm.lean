import Derived.Test.YtcjdbhcpcigmdaaDoorNl
import Derived.Test.YtcjdbhcpcigmdaaDoorNh
namespace Go.Proofs.YtcjdbhcpcigmdaaDoor
open Go.RowKit Go.Proofs.YtcjdbhcpcigmdaaDoor.Flt

theorem corG {v v' : Value} {L M : List Int} {W : World} (h : Got L W v) (h' : Got M W v') (e : listErr L = 0) (e' : listErr M = 0) (hl : L.length = M.length) : Calls Tryd.prog 51 #[v, v'] W fun e w' => ∃ v'', e = .returned (.tuple #[v'', .int .i64 0]) ∧ Below W.heap.size W w' ∧ Got (corList L M) w' v'' :=
  (Correlate_ok v v' L M W h.sl h'.sl e e' hl).mono fun _ _ ⟨v', h1, h2, h3⟩ => ⟨v', h1, h2, Got.of (by rw [corList_length]; have := (listErr_ok e).1; omega) h3⟩
theorem rcorG {v v' : Value} {L M : List Int} {W : World} (h : Got L W v) (h' : Got M W v') (e : listErr L = 0) (e' : listErr M = 0) (hl : L.length = M.length) : Calls Tryd.prog 52 #[v, v'] W fun e w' => ∃ v'', e = .returned v'' ∧ Below W.heap.size W w' ∧ Got (corList L M) w' v'' :=
  (refCorrelate_any v v' L M W h.sl h'.sl e e' hl).mono fun _ _ ⟨v', h1, h2, h3⟩ => ⟨v', h1, h2, Got.of (by rw [corList_length]; have := (listErr_ok e).1; omega) h3⟩

theorem five_ways (n m : Nat) (h : 64 < n ∧ n ≤ 128 ∨ 130 < n ∨ 64 < m ∧ m ≤ 128 ∨ 130 < m) :
    (64 < n ∧ n ≤ 128) ∨ (128 < n ∧ 130 < n) ∨ (n ≤ 64 ∧ 64 < m ∧ m ≤ 128) ∨ (128 < n ∧ n ≤ 130 ∧ 64 < m ∧ m ≤ 128) ∨ (n ≤ 64 ∧ 130 < m) ∨ (128 < n ∧ n ≤ 130 ∧ 130 < m) := by omega

set_option maxRecDepth 100000 in
set_option maxHeartbeats 1000000 in
theorem correlates_long (va vb : Value) (xs ys : List Int) (w : World) (ha : Got xs w va) (hb : Got ys w vb) (h : 64 < xs.length ∧ xs.length ≤ 128 ∨ 130 < xs.length ∨ 64 < ys.length ∧ ys.length ≤ 128 ∨ 130 < ys.length) (ht : Tab w) :
    Calls Tryd.prog 8 #[va, vb] w fun e w' => e = .returned (.bool true) ∧ Below w.heap.size w w' := by
  have CA := Lib.hid (awake_any w ht)
  obtain ⟨aa, ac, rfl, hla, -⟩ := ha.sl
  obtain ⟨ba, bc, rfl, hlb, -⟩ := hb.sl
  have ex : (ivals xs).length = xs.length := by simp [ivals]
  have ey : (ivals ys).length = ys.length := by simp [ivals]
  rw [ex] at hla ⊢
  rw [ey] at hlb ⊢
  have h' := five_ways _ _ h
  clear h ha hb ht ex ey
  generalize xs.length = n at *
  generalize ys.length = m at *
  rcases h' with ⟨h1, h2⟩ | ⟨h1, h2⟩ | ⟨h1, h2, h3⟩ | ⟨h1, h2, h3, h4⟩ | ⟨h1, h2⟩ | ⟨h1, h2, h3⟩
  all_goals
    go_enter Tryd.func8, Tryd.ntmps8
    go_wp2_with fail
    refine CA.out.mono ?_
    rintro e w1 ⟨rfl, hb⟩
    have HB1 := Lib.hid hb
    clear hb
    go_wp2_with fail
    go_ret
    exact ⟨rfl, HB1.out⟩

set_option maxRecDepth 100000 in
set_option maxHeartbeats 1000000 in
theorem correlates_bad (va vb : Value) (xs ys : List Int) (w : World) (ha : Got xs w va) (hb : Got ys w vb) (hx : xs.length ≤ 64 ∨ 128 < xs.length ∧ xs.length ≤ 130) (hy : ys.length ≤ 64 ∨ 128 < ys.length ∧ ys.length ≤ 130) (ea : corErr xs ys ≠ 0) (ht : Tab w) :
    Calls Tryd.prog 8 #[va, vb] w fun e w' => e = .returned (.bool true) ∧ Below w.heap.size w w' := by
  have CA := Lib.hid (awake_any w ht)
  have A0 := Lib.hid ha
  have B0 := Lib.hid hb
  have C1 : Hid (∀ W, Got xs W va → Calls Tryd.prog 47 #[va] W fun e w' => e = .returned (.int .i64 (listErr xs)) ∧ W = w') := fun W h => refCheckList_any va xs W h.sl (by omega)
  have C2 : Hid (∀ W, Got ys W vb → Calls Tryd.prog 47 #[vb] W fun e w' => e = .returned (.int .i64 (listErr ys)) ∧ W = w') := fun W h => refCheckList_any vb ys W h.sl (by omega)
  have C3 : Hid (∀ v v' W, Got xs W v → Got ys W v' → Calls Tryd.prog 51 #[v, v'] W fun e w' => e = .returned (.tuple #[.slice none 0 0, .int .i64 (corErr xs ys)]) ∧ W = w') := fun v v' W h h' => Correlate_bad v v' xs ys W h.sl h'.sl ea
  have HL : Hid (xs.length ≤ 1000 ∧ ys.length ≤ 1000) := ⟨by omega, by omega⟩
  obtain ⟨aa, ac, rfl, hla, -⟩ := ha.sl
  obtain ⟨ba, bc, rfl, hlb, -⟩ := hb.sl
  have ex : (ivals xs).length = xs.length := by simp [ivals]
  have ey : (ivals ys).length = ys.length := by simp [ivals]
  rw [ex] at hla C1 A0 ⊢
  rw [ey] at hlb C2 B0 ⊢
  have HE : Hid (corErr xs ys = if listErr xs ≠ 0 then listErr xs else if listErr ys ≠ 0 then listErr ys else if xs.length ≠ ys.length then 13 else 0) := rfl
  obtain ⟨n, hn⟩ : ∃ n, n = xs.length := ⟨_, rfl⟩
  obtain ⟨m, hm⟩ : ∃ m, m = ys.length := ⟨_, rfl⟩
  rw [← hn] at hla C1 A0 hx HE ⊢
  rw [← hm] at hlb C2 B0 hy HE ⊢
  clear ha hb ht ex ey hn hm
  generalize corErr xs ys = E at *
  generalize listErr xs = r at *
  generalize listErr ys = s at *
  have hw : ((r == 0) = false ∧ (r != 0) = true ∧ Hid (E = r)) ∨ ((r == 0) = true ∧ (s == 0) = false ∧ (s != 0) = true ∧ Hid (E = s)) ∨ ((r == 0) = true ∧ (s == 0) = true ∧ (((n : Int) != m) = true) ∧ Hid (E = 13)) := by
    have := HE.out
    by_cases h1 : r = 0
    · rw [if_neg (fun c => c h1)] at this
      by_cases h2 : s = 0
      · rw [if_neg (fun c => c h2)] at this
        by_cases h3 : n = m
        · rw [if_neg (fun c => c h3)] at this; exact absurd this ea
        · rw [if_pos h3] at this
          exact .inr (.inr ⟨by rw [beq_iff_eq]; exact h1, by rw [beq_iff_eq]; exact h2, by rw [bne_iff_ne]; omega, this⟩)
      · rw [if_pos h2] at this
        exact .inr (.inl ⟨by rw [beq_iff_eq]; exact h1, by rw [beq_eq_false_iff_ne]; exact h2, by rw [bne_iff_ne]; exact h2, this⟩)
    · rw [if_pos h1] at this
      exact .inl ⟨by rw [beq_eq_false_iff_ne]; exact h1, by rw [bne_iff_ne]; exact h1, this⟩
  clear HE ea
  have hd : (n ≤ 64 ∧ m ≤ 64) ∨ (n ≤ 64 ∧ 128 < m ∧ m ≤ 130) ∨ (128 < n ∧ n ≤ 130 ∧ m ≤ 64) ∨ (128 < n ∧ n ≤ 130 ∧ 128 < m ∧ m ≤ 130) := by omega
  clear hx hy
  rcases hd with ⟨l1, l2⟩ | ⟨l1, l2, l3⟩ | ⟨l1, l2, l3⟩ | ⟨l1, l2, l3, l4⟩
  all_goals
    go_enter Tryd.func8, Tryd.ntmps8
    go_wp2_with fail
    refine CA.out.mono ?_
    rintro e w1 ⟨rfl, hb⟩
    have HB1 := Lib.hid hb
    have A1 := Lib.hid (A0.out.below hb)
    have B1 := Lib.hid (B0.out.below hb)
    clear hb
    go_wp2_with fail
    refine (copyG A1.out HL.out.1).mono ?_
    rintro e w2 ⟨c1, rfl, hb, hc⟩
    have HB2 := Lib.hid (HB1.out.trans (hb.mono HB1.out.size))
    have A2 := Lib.hid (A1.out.below hb)
    have B2 := Lib.hid (B1.out.below hb)
    have HC := Lib.hid hc
    clear hb hc HB1 A1 B1
    go_wp2_with fail
    refine (copyG B2.out HL.out.2).mono ?_
    rintro e w3 ⟨c2, rfl, hb, hc⟩
    have HB3 := Lib.hid (HB2.out.trans (hb.mono HB2.out.size))
    have A3 := Lib.hid (A2.out.below hb)
    have B3 := Lib.hid (B2.out.below hb)
    have HC3 := Lib.hid (HC.out.below hb)
    have HD := Lib.hid hc
    clear hb hc HB2 A2 B2 HC
    go_wp2_with fail
    refine (C3.out _ _ _ HC3.out HD.out).mono ?_
    rintro e w' ⟨rfl, rfl⟩
    clear HC3 HD
    go_wp2_with fail
    refine (C1.out _ A3.out).mono ?_
    rintro e w' ⟨rfl, rfl⟩
    rcases hw with ⟨q1, q2, hE⟩ | ⟨q1, q2, q3, hE⟩ | ⟨q1, q2, q3, hE⟩
    · go_wp2_with fail
      go_ret
      exact ⟨by first | rfl | (simp; done) | (rw [hE.out]; simp), HB3.out⟩
    · go_wp2_with fail
      refine (C2.out _ B3.out).mono ?_
      rintro e w' ⟨rfl, rfl⟩
      go_wp2_with fail
      go_ret
      exact ⟨by first | rfl | (simp; done) | (rw [hE.out]; simp), HB3.out⟩
    · go_wp2_with fail
      refine (C2.out _ B3.out).mono ?_
      rintro e w' ⟨rfl, rfl⟩
      go_wp2_with fail
      go_ret
      exact ⟨by first | rfl | (simp; done) | (rw [hE.out]; simp; done) | (rw [hE.out] <;> rfl), HB3.out⟩

/-- the product of two transforms -/
theorem cor_prod (xs ys : List Int) (m : Nat) (hm : m < xs.length) (hl : xs.length = ys.length) (e : listErr xs = 0) (h64 : xs.length ≤ 64) :
    (trList (corList xs ys) (rootN (corList xs ys).length) 1).getD m 0 = (trList xs (rootN xs.length) 1).getD m 0 * (trList ys (rootN ys.length) 1).getD ((xs.length - m) % xs.length) 0 % 998244353 := by
  have R := Root.at (list_size e h64)
  have hlt : (xs.length - m) % xs.length < xs.length := Nat.mod_lt _ (by omega)
  rw [trList_get _ _ _ _ (by rw [corList_length]; exact hm), trList_get _ _ _ _ hm, trList_get _ _ _ _ (by rw [← hl]; exact hlt), corList_length, ← hl]
  exact tr_cor xs ys _ m hm hl R.wn

set_option maxRecDepth 100000 in
set_option maxHeartbeats 2000000 in
theorem correlates_ok (va vb : Value) (xs ys : List Int) (w : World) (ha : Got xs w va) (hb : Got ys w vb) (h64 : xs.length ≤ 64) (ea : listErr xs = 0) (eb : listErr ys = 0) (hl : xs.length = ys.length) (ht : Tab w) :
    Calls Tryd.prog 8 #[va, vb] w fun e w' => e = .returned (.bool true) ∧ Below w.heap.size w w' := by
  have CA := Lib.hid (awake_any w ht)
  have A0 := Lib.hid ha
  have B0 := Lib.hid hb
  have EA := Lib.hid (And.intro ea eb)
  have EC := Lib.hid (cor_err xs ys ea)
  have n1 := (listErr_ok ea).2.1
  have C1 : Hid (∀ W, Got xs W va → Calls Tryd.prog 47 #[va] W fun e w' => e = .returned (.int .i64 0) ∧ W = w') := fun W h => by
    have := refCheckList_any va xs W h.sl (by omega)
    rwa [EA.out.1] at this
  have C2 : Hid (∀ W, Got ys W vb → Calls Tryd.prog 47 #[vb] W fun e w' => e = .returned (.int .i64 0) ∧ W = w') := fun W h => by
    have := refCheckList_any vb ys W h.sl (by omega)
    rwa [EA.out.2] at this
  have PR : Hid (∀ m, m < xs.length → (trList (corList xs ys) (rootN (corList xs ys).length) 1).getD m 0 = (trList xs (rootN xs.length) 1).getD m 0 * (trList ys (rootN ys.length) 1).getD ((xs.length - m) % xs.length) 0 % 998244353) := fun m hm => cor_prod xs ys m hm hl ea h64
  have HLn := Lib.hid hl
  have T0 : Hid (∀ v v' W, Got xs W v → Got ys W v' → Calls Tryd.prog 51 #[v, v'] W fun e w' => ∃ v'', e = .returned (.tuple #[v'', .int .i64 0]) ∧ Below W.heap.size W w' ∧ Got (corList xs ys) w' v'') := fun v v' W h h' => corG h h' EA.out.1 EA.out.2 HLn.out
  have T1 : Hid (∀ v v' W, Got xs W v → Got ys W v' → Calls Tryd.prog 52 #[v, v'] W fun e w' => ∃ v'', e = .returned v'' ∧ Below W.heap.size W w' ∧ Got (corList xs ys) w' v'') := fun v v' W h h' => rcorG h h' EA.out.1 EA.out.2 HLn.out
  have lC : (corList xs ys).length = xs.length := corList_length _ _
  have TX : Hid (∀ v W, Got xs W v → Calls Tryd.prog 44 #[v] W fun e w' => ∃ v', e = .returned (.tuple #[v', .int .i64 0]) ∧ Below W.heap.size W w' ∧ Got (trList xs (rootN xs.length) 1) w' v') := fun v W h => transG h EA.out.1
  have TY : Hid (∀ v W, Got ys W v → Calls Tryd.prog 44 #[v] W fun e w' => ∃ v', e = .returned (.tuple #[v', .int .i64 0]) ∧ Below W.heap.size W w' ∧ Got (trList ys (rootN ys.length) 1) w' v') := fun v W h => transG h EA.out.2
  have TZ : Hid (∀ v W, Got (corList xs ys) W v → Calls Tryd.prog 44 #[v] W fun e w' => ∃ v', e = .returned (.tuple #[v', .int .i64 0]) ∧ Below W.heap.size W w' ∧ Got (trList (corList xs ys) (rootN (corList xs ys).length) 1) w' v') := fun v W h => transG h EC.out
  have bX : Hid (∀ i, 0 ≤ (trList xs (rootN xs.length) 1).getD i 0 ∧ (trList xs (rootN xs.length) 1).getD i 0 < 998244353) := fun i => getD_off (listErr_ok (tr_err xs _ _ EA.out.1)).2.2 i
  have bY : Hid (∀ i, 0 ≤ (trList ys (rootN ys.length) 1).getD i 0 ∧ (trList ys (rootN ys.length) 1).getD i 0 < 998244353) := fun i => getD_off (listErr_ok (tr_err ys _ _ EA.out.2)).2.2 i
  have lX : (trList xs (rootN xs.length) 1).length = xs.length := trList_length _ _ _
  have lY : (trList ys (rootN ys.length) 1).length = xs.length := by rw [trList_length, hl]
  have lZ : (trList (corList xs ys) (rootN (corList xs ys).length) 1).length = xs.length := by rw [trList_length, lC]
  generalize trList (corList xs ys) (rootN (corList xs ys).length) 1 = Z at *
  generalize trList xs (rootN xs.length) 1 = X at *
  generalize trList ys (rootN ys.length) 1 = Y at *
  generalize corList xs ys = C at *
  obtain ⟨aa, ac, rfl, hla, -⟩ := ha.sl
  obtain ⟨ba, bc, rfl, hlb, -⟩ := hb.sl
  have ex : (ivals xs).length = xs.length := by simp [ivals]
  have ey : (ivals ys).length = xs.length := by simp [ivals, hl]
  rw [ex] at hla C1 A0 ⊢
  rw [ey] at hlb C2 B0 ⊢
  obtain ⟨n, hn⟩ : ∃ n, n = xs.length := ⟨_, rfl⟩
  rw [← hn] at hla hlb C1 C2 A0 B0 PR lX lY lZ lC n1 h64 ⊢
  have HL : Hid (xs.length = n ∧ ys.length = n ∧ C.length = n ∧ X.length = n ∧ Y.length = n ∧ Z.length = n) := ⟨hn.symm, by omega, lC, lX, lY, lZ⟩
  clear ha hb ht ex ey hn lC lX lY lZ ea eb hl EA EC HLn
  go_enter Tryd.func8, Tryd.ntmps8
  go_wp2_with fail
  refine CA.out.mono ?_
  rintro e w1 ⟨rfl, hb⟩
  have HB1 := Lib.hid hb
  have A1 := Lib.hid (A0.out.below hb)
  have B1 := Lib.hid (B0.out.below hb)
  clear hb
  go_wp2_with fail
  refine (copyG A1.out (by have := HL.out.1; omega)).mono ?_
  rintro e w2 ⟨c1, rfl, hb, hc⟩
  have HB2 := Lib.hid (HB1.out.trans (hb.mono HB1.out.size))
  have A2 := Lib.hid (A1.out.below hb)
  have B2 := Lib.hid (B1.out.below hb)
  have HC := Lib.hid hc
  clear hb hc HB1 A1 B1
  go_wp2_with fail
  refine (copyG B2.out (by have := HL.out.2.1; omega)).mono ?_
  rintro e w3 ⟨c2, rfl, hb, hc⟩
  have HB3 := Lib.hid (HB2.out.trans (hb.mono HB2.out.size))
  have A3 := Lib.hid (A2.out.below hb)
  have B3 := Lib.hid (B2.out.below hb)
  have HC3 := Lib.hid (HC.out.below hb)
  have HD := Lib.hid hc
  clear hb hc HB2 A2 B2 HC
  go_wp2_with fail
  refine (T0.out _ _ _ HC3.out HD.out).mono ?_
  rintro e w4 ⟨c, rfl, hb, hc⟩
  have HB4 := Lib.hid (HB3.out.trans (hb.mono HB3.out.size))
  have A4 := Lib.hid (A3.out.below hb)
  have B4 := Lib.hid (B3.out.below hb)
  have K4 := Lib.hid hc
  clear hb hc HB3 A3 B3 HC3 HD
  go_wp2_with fail
  refine (C1.out _ A4.out).mono ?_
  rintro e w' ⟨rfl, rfl⟩
  go_wp2_with fail
  refine (C2.out _ B4.out).mono ?_
  rintro e w' ⟨rfl, rfl⟩
  go_wp2_with fail
  refine (T1.out _ _ _ A4.out B4.out).mono ?_
  rintro e w5 ⟨r, rfl, hb, hr⟩
  have HB5 := Lib.hid (HB4.out.trans (hb.mono HB4.out.size))
  have A5 := Lib.hid (A4.out.below hb)
  have B5 := Lib.hid (B4.out.below hb)
  have K5 := Lib.hid (K4.out.below hb)
  have R5 := Lib.hid hr
  clear hb hr HB4 A4 B4 K4
  go_wp2_with fail
  refine (intsG K5.out R5.out).mono ?_
  rintro e w6 ⟨rfl, hb⟩
  have HB6 := Lib.hid (HB5.out.trans (hb.mono HB5.out.size))
  have A6 := Lib.hid (A5.out.below hb)
  have B6 := Lib.hid (B5.out.below hb)
  have K6 := Lib.hid (K5.out.below hb)
  clear hb HB5 A5 B5 K5 R5
  go_wp2_with fail
  refine (copyG A6.out (by have := HL.out.1; omega)).mono ?_
  rintro e w7 ⟨c3, rfl, hb, hc⟩
  have HB7 := Lib.hid (HB6.out.trans (hb.mono HB6.out.size))
  have B7 := Lib.hid (B6.out.below hb)
  have K7 := Lib.hid (K6.out.below hb)
  have HC := Lib.hid hc
  clear hb hc HB6 A6 B6 K6
  go_wp2_with fail
  refine (TX.out _ _ HC.out).mono ?_
  rintro e w8 ⟨x, rfl, hb, hx⟩
  have HB8 := Lib.hid (HB7.out.trans (hb.mono HB7.out.size))
  have B8 := Lib.hid (B7.out.below hb)
  have K8 := Lib.hid (K7.out.below hb)
  have X8 := Lib.hid hx
  clear hb hx HC HB7 B7 K7
  go_wp2_with fail
  refine (copyG B8.out (by have := HL.out.2.1; omega)).mono ?_
  rintro e w9 ⟨c4, rfl, hb, hc⟩
  have HB9 := Lib.hid (HB8.out.trans (hb.mono HB8.out.size))
  have K9 := Lib.hid (K8.out.below hb)
  have X9 := Lib.hid (X8.out.below hb)
  have HC := Lib.hid hc
  clear hb hc HB8 B8 K8 X8
  go_wp2_with fail
  refine (TY.out _ _ HC.out).mono ?_
  rintro e w10 ⟨y, rfl, hb, hy⟩
  have HB10 := Lib.hid (HB9.out.trans (hb.mono HB9.out.size))
  have K10 := Lib.hid (K9.out.below hb)
  have X10 := Lib.hid (X9.out.below hb)
  have Y10 := Lib.hid hy
  clear hb hy HC HB9 K9 X9
  go_wp2_with fail
  refine (copyG K10.out (by have := HL.out.2.2.1; omega)).mono ?_
  rintro e w11 ⟨c5, rfl, hb, hc⟩
  have HB11 := Lib.hid (HB10.out.trans (hb.mono HB10.out.size))
  have K11 := Lib.hid (K10.out.below hb)
  have X11 := Lib.hid (X10.out.below hb)
  have Y11 := Lib.hid (Y10.out.below hb)
  have HC := Lib.hid hc
  clear hb hc HB10 K10 X10 Y10
  obtain ⟨ka, kc, rfl, -, -⟩ := K11.out.sl
  rw [show (ivals C).length = n from by rw [show (ivals C).length = C.length from by simp [ivals]]; exact HL.out.2.2.1]
  clear K11
  go_wp2_with fail
  refine (TZ.out _ _ HC.out).mono ?_
  rintro e w12 ⟨z, rfl, hb, hz⟩
  have HB12 := Lib.hid (HB11.out.trans (hb.mono HB11.out.size))
  have X12 := Lib.hid (X11.out.below hb)
  have Y12 := Lib.hid (Y11.out.below hb)
  have Z12 := Lib.hid hz
  clear hb hz HC HB11 X11 Y11
  obtain ⟨xa, xc, rfl, -, -⟩ := X12.out.sl
  obtain ⟨ya, yc, rfl, -, -⟩ := Y12.out.sl
  obtain ⟨za, zc, rfl, -, -⟩ := Z12.out.sl
  have ex : (ivals X).length = n := by rw [show (ivals X).length = X.length from by simp [ivals]]; exact HL.out.2.2.2.1
  have ey : (ivals Y).length = n := by rw [show (ivals Y).length = Y.length from by simp [ivals]]; exact HL.out.2.2.2.2.1
  have ez : (ivals Z).length = n := by rw [show (ivals Z).length = Z.length from by simp [ivals]]; exact HL.out.2.2.2.2.2
  rw [ex] at X12 ⊢
  rw [ey] at Y12 ⊢
  rw [ez] at Z12 ⊢
  clear ex ey ez TX TY TZ T0 T1 C1 C2 CA A0 B0
  go_wp2_with fail
  go_loopw [14] (fun i wr => ∃ k : Nat, k ≤ n ∧ i = .int .i64 k ∧ ∃ q, wr = w12.drewN q) (fun i _ => n - (intOf i).toNat)
  case atStart => exact ⟨0, Nat.zero_le _, rfl, 0, rfl⟩
  case round =>
    obtain ⟨k, hk, rfl, q, rfl⟩ := hrel
    by_cases hlt : k < n
    · obtain ⟨t, ht⟩ : ∃ t, t = (n - k) % n := ⟨_, rfl⟩
      have ht' : t < n := by rw [ht]; exact Nat.mod_lt _ (by omega)
      obtain ⟨-, b1, o1, rfl, q1, h1⟩ := X12.out.sl.at (by omega)
      obtain ⟨-, b2, o2, rfl, q2, h2⟩ := Y12.out.sl.at (by omega)
      obtain ⟨-, b3, o3, rfl, q3, h3⟩ := Z12.out.sl.at (by omega)
      have d1 : w12.cell? ⟨b1, o1 + k, none⟩ = some (.int .i64 (X.getD k 0)) := h1 k _ (ivals_get (by have := HL.out.2.2.2.1; omega))
      have d2 : w12.cell? ⟨b2, o2 + t, none⟩ = some (.int .i64 (Y.getD t 0)) := h2 t _ (ivals_get (by have := HL.out.2.2.2.2.1; omega))
      have d3 : w12.cell? ⟨b3, o3 + k, none⟩ = some (.int .i64 (Z.getD k 0)) := h3 k _ (ivals_get (by have := HL.out.2.2.2.2.2; omega))
      have HV : Hid (Z.getD k 0 = X.getD k 0 * Y.getD t 0 % 998244353) := by have := PR.out k hlt; rw [← ht] at this; exact this
      obtain ⟨x0, x1⟩ := bX.out k
      obtain ⟨y0, y1⟩ := bY.out t
      generalize X.getD k 0 = p at *
      generalize Y.getD t 0 = r at *
      generalize Z.getD k 0 = s at *
      obtain ⟨m1, m2⟩ := prodI_b x0 x1 y0 y1
      have W1 := Lib.hid (fun w => Within_any p 0 998244352 w)
      rw [decide_eq_true (by omega)] at W1
      have W2 := Lib.hid (fun w => Within_any r 0 998244352 w)
      rw [decide_eq_true (by omega)] at W2
      have hs : (s != p * r % 998244353) = false := by rw [HV.out]; simp
      have e2 : ((n : Int) - k) % n = t := by rw [ht, Int.natCast_emod, Int.natCast_sub hk]
      have e3 : (t : Int) < n := by omega
      clear ht h1 h2 h3 HV
      go_wp2_with fail
      go_quiet (fail)
      go_wp2_with fail
      refine (W1.out _).mono ?_
      rintro e w' ⟨rfl, rfl⟩
      go_wp2_with fail
      refine (W2.out _).mono ?_
      rintro e w' ⟨rfl, rfl⟩
      go_wp2_with fail
      go_roundw
      case rel => exact ⟨k + 1, by omega, by go_num, _, rfl⟩
      case measure => simp [intOf]; omega
    · go_wp2_with fail
      go_ret
      exact ⟨rfl, HB12.out.trans (below_drewN' _ _ _)⟩

/-- THE LAW, FOR ALL PAIRS OF LISTS -/
theorem correlates_any (va vb : Value) (xs ys : List Int) (w : World) (ha : Got xs w va) (hb : Got ys w vb) (ht : Tab w) :
    Calls Tryd.prog 8 #[va, vb] w fun e w' => e = .returned (.bool true) ∧ Below w.heap.size w w' := by
  by_cases h : 64 < xs.length ∧ xs.length ≤ 128 ∨ 130 < xs.length ∨ 64 < ys.length ∧ ys.length ≤ 128 ∨ 130 < ys.length
  · exact correlates_long va vb xs ys w ha hb h ht
  · by_cases e : corErr xs ys = 0
    · have e' := e
      unfold corErr at e'
      by_cases ea : listErr xs = 0
      · rw [if_neg (fun c => c ea)] at e'
        by_cases eb : listErr ys = 0
        · rw [if_neg (fun c => c eb)] at e'
          by_cases hl : xs.length = ys.length
          · have := (listErr_ok ea).1
            exact correlates_ok va vb xs ys w ha hb (by omega) ea eb hl ht
          · rw [if_pos hl] at e'; cases e'
        · rw [if_pos eb] at e'; exact absurd e' eb
      · rw [if_pos ea] at e'; exact absurd e' ea
    · exact correlates_bad va vb xs ys w ha hb (by omega) (by omega) e ht
end Go.Proofs.YtcjdbhcpcigmdaaDoor
