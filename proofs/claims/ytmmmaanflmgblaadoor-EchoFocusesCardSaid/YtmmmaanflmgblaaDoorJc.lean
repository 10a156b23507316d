import Derived.Test.YtmmmaanflmgblaaDoorJb
import Derived.Test.YtmmmaanflmgblaaDoorWc
namespace Go.Proofs.YtmmmaanflmgblaaDoor
open Go.RowKit Go.Proofs.YtmmmaanflmgblaaDoor.Flt

structure RfInv (L S L' : Nat) (iad : Option Addr) (icap n : Nat) (C : List (Nat × Nat)) (w : World) (t : Nat) (v : Value) (wr : World) : Prop where
  h0 : wr.heap[w.heap.size]? = some (.cells #[.int .i64 L, .int .i64 S, .slice iad n icap] 49 (0, 0))
  h1 : wr.heap[w.heap.size + 1]? = some (.cells #[.int .i64 0, .int .i64 0, .slice none 0 0] 49 (0, 0))
  h2 : wr.heap[w.heap.size + 1 + 1]? = some (.cells #[.int .i64 L', .int .i64 S, v] 49 (0, 0))
  hb : Below w.heap.size w wr
  ho : wr.ownsRow (w.heap.size + 3) 94 1 v t (cvals .f64 (C.take t))

theorem RfInv.own_ne {L S L' : Nat} {iad : Option Addr} {icap n : Nat} {C : List (Nat × Nat)} {w wz : World} {t : Nat} {v : Value} (h : RfInv L S L' iad icap n C w t v wz) (i : Nat) (hi : i < w.heap.size + 3) : v.ownBlock ≠ some i := by
  intro e
  have := (h.ho.lt i e).1
  omega

/-- the three boxes behind an append -/
def RfBox (L S L' : Nat) (iad : Option Addr) (icap n : Nat) (w : World) (v : Value) (w' : World) : Prop :=
  w'.heap[w.heap.size]? = some (.cells #[.int .i64 L, .int .i64 S, .slice iad n icap] 49 (0, 0)) ∧
  w'.heap[w.heap.size + 1]? = some (.cells #[.int .i64 0, .int .i64 0, .slice none 0 0] 49 (0, 0)) ∧
  w'.heap[w.heap.size + 1 + 1]? = some (.cells #[.int .i64 L', .int .i64 S, v] 49 (0, 0)) ∧ Below w.heap.size w w'

theorem RfInv.after {L S L' : Nat} {iad : Option Addr} {icap n : Nat} {C : List (Nat × Nat)} {w wz W w' : World} {t : Nat} {v : Value} (h : RfInv L S L' iad icap n C w t v wz) (o : Obj) (hW : W.heap = (wz.alloc o).heap) (e1 : W.os = wz.os) (e2 : W.tape = wz.tape) (e3 : W.output = wz.output) (hg : W.grownBy w' v.ownBlock) :
    RfBox L S L' iad icap n w v w' := by
  have b0 := lt_of_block h.h0
  have b1 := lt_of_block h.h1
  have b2 := lt_of_block h.h2
  have hsz : W.heap.size = wz.heap.size + 1 := by rw [hW]; simp
  have old : ∀ i, i < w.heap.size + 3 → i < wz.heap.size → w'.heap[i]? = wz.heap[i]? := by
    intro i hi hi'
    rw [hg.block i (by omega) (fun e => h.own_ne i hi e.symm), hW]
    exact Below.heap_alloc _ _ _ hi'
  refine ⟨(old _ (by omega) b0).trans h.h0, (old _ (by omega) b1).trans h.h1, (old _ (by omega) b2).trans h.h2, ?_⟩
  have hb : Below w.heap.size w W := ⟨e1.trans h.hb.os, e2.trans h.hb.tape, e3.trans h.hb.output, by have := h.hb.size; omega, fun i hi => by rw [hW]; exact (Below.heap_alloc _ _ _ (Nat.lt_of_lt_of_le hi h.hb.size)).trans (h.hb.block i hi)⟩
  exact hb.grown hg hb.size (fun i e => by have := (h.ho.lt i e).1; omega)

theorem RfInv.next {L S L' : Nat} {iad : Option Addr} {icap n : Nat} {C : List (Nat × Nat)} {w w' : World} {t g cap' X Y : Nat} {v : Value} (h : RfBox L S L' iad icap n w v w')
    (ho : w'.ownsRow (w.heap.size + 3) 94 1 (.slice (some ⟨g, 0, none⟩) (t + 1) cap') (t + 1) (cvals .f64 (C.take t) ++ [.complex .f64 X Y])) (hk : t < C.length) (hXY : C.getD t (0, 0) = (X, Y)) :
    RfInv L S L' iad icap n C w (t + 1) (.slice (some ⟨g, 0, none⟩) (t + 1) cap') (w'.setCell ⟨w.heap.size + 1 + 1, 2, none⟩ (.slice (some ⟨g, 0, none⟩) (t + 1) cap')) := by
  obtain ⟨h0, h1, h2, hb⟩ := h
  refine ⟨(Below.heap_setCell _ _ _ _ (by show w.heap.size ≠ w.heap.size + 1 + 1; omega)).trans h0, (Below.heap_setCell _ _ _ _ (by show w.heap.size + 1 ≠ w.heap.size + 1 + 1; omega)).trans h1, ?_, hb.setCell (p := ⟨w.heap.size + 1 + 1, 2, none⟩) (by show w.heap.size ≤ w.heap.size + 1 + 1; omega) _, ?_⟩
  · rw [heap_setCell_same _ _ _ _ _ _ h2]; rfl
  · have e : cvals .f64 (C.take (t + 1)) = cvals .f64 (C.take t) ++ [.complex .f64 X Y] := by
      rw [List.take_succ_eq_append_getElem hk]
      rw [List.getD_eq_getElem?_getD, List.getElem?_eq_getElem hk, Option.getD_some] at hXY
      rw [hXY]; simp [cvals]
    rw [e]
    have hg := (ho.lt g rfl).1
    exact ownsRow_setCell_other ho (by simp [Value.ownBlock]; omega) _


theorem foc_get (zs us : List (Nat × Nat)) (S n t : Nat) (h : t < n) : (focList zs us S n).getD t (0, 0) = (enc Ieee.double (fRe zs us S t us.length), enc Ieee.double (fIm zs us S t us.length)) := by
  simp only [focList, List.getD_eq_getElem?_getD, List.getElem?_map, List.getElem?_range h, Option.map_some, Option.getD_some]
  rfl

set_option maxRecDepth 100000 in
set_option maxHeartbeats 8000000 in
/-- THE REFERENCE's FOCUSING -/
theorem refFocus_ok (L S m : Nat) (iv cv : Value) (zs us : List (Nat × Nat)) (w : World) (hiv : Sl w iv (cvals .f64 zs)) (hcv : Sl w cv (cvals .f32 us))
    (hL : L ≤ 64) (hS1 : 1 ≤ S) (hS : S ≤ 64) (hm : us.length = m) (hm1 : 1 ≤ m) (hm2 : m ≤ 32) (hmL : m ≤ L) (hlen : zs.length = L * S) (RI : Right .f64 1000000000 zs) (RC : Right .f32 3 us) :
    Calls Tryd.prog 33 #[.agg #[.int .i64 L, .int .i64 S, iv], cv] w (FocR zs us (L - m + 1) S ((L - m + 1) * S) w) := by
  have HIV := Lib.hid hiv
  have HCV := Lib.hid hcv
  obtain ⟨iad, icap, rfl, hil, -⟩ := hiv
  obtain ⟨cad, ccap, rfl, hcl, -⟩ := hcv
  have ex : (cvals .f64 zs).length = zs.length := by simp [cvals]
  have ey : (cvals .f32 us).length = m := by simp [cvals, hm]
  rw [ex] at hil HIV ⊢
  rw [ey] at hcl HCV ⊢
  have hz : zs.length ≤ 4096 := by rw [hlen]; exact Nat.le_trans (Nat.mul_le_mul hL hS) (by decide)
  obtain ⟨L', hL'⟩ : ∃ L', L' = L - m + 1 := ⟨_, rfl⟩
  rw [← hL']
  have hLi : (L : Int) - m + 1 = L' := by omega
  obtain ⟨n', hn'⟩ : ∃ n', n' = L' * S := ⟨_, rfl⟩
  rw [← hn']
  obtain ⟨C, hC⟩ : ∃ C, C = focList zs us S n' := ⟨_, rfl⟩
  have HCl : Hid (C.length = n') := by unfold Hid; rw [hC]; simp [focList]
  have HG : Hid (∀ l s, l < L' → s < S → C.getD (l * S + s) (0, 0) = (enc Ieee.double (fRe zs us S (l * S + s) m), enc Ieee.double (fIm zs us S (l * S + s) m)) ∧ l * S + s < n' ∧ (∀ k, k < m → (l * S + s) + k * S < zs.length ∧ (l + k) * S ≤ 4096)) := by
    intro l s h1 h2
    have h3 : l * S + S ≤ L' * S := by rw [← Nat.succ_mul]; exact Nat.mul_le_mul_right _ h1
    refine ⟨?_, by omega, fun k hk => ?_⟩
    · rw [hC, foc_get zs us S n' (l * S + s) (by omega), hm]
    · have h4 : (l + k) * S + S ≤ L * S := by rw [← Nat.succ_mul]; exact Nat.mul_le_mul_right _ (by omega)
      have h5 : (l + k) * S = l * S + k * S := Nat.add_mul _ _ _
      omega
  have HLS : Hid (n' ≤ 4096) := by unfold Hid; rw [hn']; exact Nat.le_trans (Nat.mul_le_mul (show L' ≤ 64 by omega) hS) (by decide)
  have HNN : Hid (n' = L' * S ∧ C = focList zs us S n') := ⟨hn', hC⟩
  have HSt : Hid (∀ t, focBad zs us S (t + 1) = (focBad zs us S t || focBig zs us S t)) := fun _ => rfl
  have HBg : Hid (∀ t, focBig zs us S t = decide ((1000000000 : Int) < (fRe zs us S t m).natAbs ∨ (1000000000 : Int) < (fIm zs us S t m).natAbs)) := fun t => by unfold focBig; rw [hm]
  obtain ⟨n, hn⟩ : ∃ n, n = zs.length := ⟨_, rfl⟩
  have HN := Lib.hid (And.intro hn hm)
  rw [← hn] at hil HIV hz ⊢
  have HR := Lib.hid (And.intro RI RC)
  obtain ⟨i0, hi, hz0, hz1, hz2⟩ := info_parts Tryd.info88
  have HI := Lib.hid (And.intro hi (And.intro hz0 (And.intro hz1 hz2)))
  clear ex ey hlen hC hn RI RC hi hz0 hz1 hz2 hn'
  have hL'1 : 1 ≤ L' := by omega
  have hL'2 : L' ≤ 64 := by omega
  have hmL' : ¬ L < m := by omega
  have HL' := Lib.hid hL'
  clear hL'
  go_enter Tryd.func33, Tryd.ntmps33
  go_wp2_with fail
  go_loopw [7] (fun i wr => ∃ (l : Nat) (v : Value), l ≤ L' ∧ i = .int .i64 l ∧ Hid (focBad zs us S (l * S) = false) ∧ Hid (RfInv L S L' iad icap n C w (l * S) v wr)) (fun i _ => L' - (intOf i).toNat)
  case atStart =>
    refine ⟨0, .slice none 0 0, Nat.zero_le _, rfl, by rw [Nat.zero_mul]; rfl, ?_, ?_, ?_, ?_, ?_⟩
    · rw [Below.heap_alloc _ _ _ (by simp; omega), Below.heap_alloc _ _ _ (by simp)]; exact heap_alloc_new _ _
    · have := heap_alloc_new (w.alloc (.cells #[.int .i64 L, .int .i64 S, .slice iad n icap] 49)) (.cells #[.int .i64 0, .int .i64 0, .slice none 0 0] 49)
      rw [World.size_alloc] at this
      rw [Below.heap_alloc _ _ _ (by simp)]; exact this
    · have := heap_alloc_new ((w.alloc (.cells #[.int .i64 L, .int .i64 S, .slice iad n icap] 49)).alloc (.cells #[.int .i64 0, .int .i64 0, .slice none 0 0] 49)) (.cells #[.int .i64 L', .int .i64 S, .slice none 0 0] 49)
      rw [World.size_alloc, World.size_alloc] at this
      exact this
    · exact (((Below.refl _ _).alloc (Nat.le_refl _) _).alloc (by simp) _).alloc (by simp; omega) _
    · rw [Nat.zero_mul]; exact World.ownsRow_nil _ _ _ _
  case round =>
    obtain ⟨l, v0, hl, rfl, HBo, IK⟩ := hrel
    obtain ⟨wo, rfl⟩ : ∃ wo : World, wo = wr := ⟨_, rfl⟩
    obtain ⟨c0, c1, c2, -, -, -, l0⟩ := three_cells IK.out.h0
    obtain ⟨x0, x1, x2, -, -, -, l1⟩ := three_cells IK.out.h2
    by_cases hlt : l < L'
    · go_wp2_with fail
      go_loopw [8] (fun i wr => ∃ (s : Nat) (v : Value), s ≤ S ∧ i = .int .i64 s ∧ Hid (focBad zs us S (l * S + s) = false) ∧ Hid (RfInv L S L' iad icap n C w (l * S + s) v wr)) (fun i _ => S - (intOf i).toNat)
      case atStart => exact ⟨0, v0, Nat.zero_le _, rfl, HBo, IK⟩
      case round =>
        clear IK c0 c1 c2 l0 x0 x1 x2 l1 HBo
        obtain ⟨s, v, hs, rfl, HBs, IS⟩ := hrel
        obtain ⟨wz, rfl⟩ : ∃ wz : World, wz = wr := ⟨_, rfl⟩
        obtain ⟨c0, c1, c2, -, -, -, l0⟩ := three_cells IS.out.h0
        obtain ⟨x0, x1, x2, y0, y1, y2, l1⟩ := three_cells IS.out.h2
        by_cases hlt2 : s < S
        · obtain ⟨HG1, HG2, HG3⟩ := HG.out l s hlt hlt2
          have HXY := Lib.hid HG1
          clear HG1
          obtain ⟨t, ht⟩ : ∃ t, t = l * S + s := ⟨_, rfl⟩
          rw [← ht] at HXY HG3 HG2 IS HBs
          have HTE := Lib.hid ht
          have HN3 := Lib.hid HG3
          have HT : Hid (t < C.length ∧ t ≤ 4096) := by have := HCl.out; have := HLS.out; constructor <;> omega
          have hbg := HBg.out t
          have HSt1 : Hid (focBad zs us S (t + 1) = focBig zs us S t) := by unfold Hid; rw [HSt.out, HBs.out]; rfl
          have HNb : Hid (focBig zs us S t = true → focBad zs us S n' = true) := fun h => focBad_of h n' HG2
          have HBG := Lib.hid hbg
          clear ht HG2 HG3 hbg
          go_wp2_with fail
          go_loop [9, 10, 11] (fun rv mv i => ∃ k : Nat, k ≤ m ∧ i = .int .i64 k ∧ rv = .int .i64 (fRe zs us S t k) ∧ mv = .int .i64 (fIm zs us S t k)) (fun _ _ i => m - (intOf i).toNat)
          case atStart => exact ⟨0, Nat.zero_le _, rfl, rfl, rfl⟩
          case round =>
            obtain ⟨k, hk, rfl, rfl, rfl⟩ := hrel
            by_cases hlk : k < m
            · obtain ⟨-, b1, o1, rfl, q1, h1⟩ := HIV.out.at (by have := (HN3.out k hlk).1; have := HN.out.1; omega)
              obtain ⟨-, b2, o2, rfl, q2, h2⟩ := HCV.out.at (by omega)
              obtain ⟨hz1, hlk4⟩ := HN3.out k hlk
              have hz2 : k < us.length := by have := HN.out.2; omega
              have d1 : wz.cell? ⟨b1, o1 + (t + k * S), none⟩ = some (.complex .f64 (zs.getD (t + k * S) (0, 0)).1 (zs.getD (t + k * S) (0, 0)).2) := (IS.out.hb.cell (p := ⟨b1, o1 + (t + k * S), none⟩) q1).trans (h1 _ _ (cvals_get hz1))
              have d2 : wz.cell? ⟨b2, o2 + k, none⟩ = some (.complex .f32 (us.getD k (0, 0)).1 (us.getD k (0, 0)).2) := (IS.out.hb.cell (p := ⟨b2, o2 + k, none⟩) q2).trans (h2 _ _ (cvals_get hz2))
              obtain ⟨a1, a2, a3, a4⟩ := HR.out.1 (t + k * S) hz1
              obtain ⟨e1, e2, e3, e4⟩ := HR.out.2 k hz2
              have CP1 := Lib.hid (fun w => basePart_any _ _ (re .f64 zs (t + k * S)) (im .f64 zs (t + k * S)) (rep_wv good_double a1 (Nat.le_trans a3 (by decide))) (rep_wv good_double a2 (Nat.le_trans a4 (by decide))) (rep_lt a1) (rep_lt a2) (Nat.le_trans a3 (by decide)) (Nat.le_trans a4 (by decide)) w)
              have CP2 := Lib.hid (fun w => refParts_any _ _ _ _ e1 e2 (by omega) (by omega) w)
              have CT := Lib.hid (fun w => Times_any (re .f64 zs (t + k * S)) (im .f64 zs (t + k * S)) (re .f32 us k) (im .f32 us k) (by omega) (by omega) (by omega) (by omega) w)
              have hall : ∀ k, k < us.length → t + k * S < zs.length := fun k hk => (HN3.out k (by have := HN.out.2; omega)).1
              obtain ⟨sb1, sb2⟩ := f_b HR.out.1 HR.out.2 S t k hall (by have := HN.out.2; omega) (by omega)
              obtain ⟨sb3, sb4⟩ := f_b HR.out.1 HR.out.2 S t (k + 1) hall (by have := HN.out.2; omega) (by omega)
              have E1 : Hid (fRe zs us S t (k + 1) = fRe zs us S t k + (re .f64 zs (t + k * S) * re .f32 us k + im .f64 zs (t + k * S) * im .f32 us k)) := rfl
              have E2 : Hid (fIm zs us S t (k + 1) = fIm zs us S t k + (im .f64 zs (t + k * S) * re .f32 us k - re .f64 zs (t + k * S) * im .f32 us k)) := rfl
              rw [E1.out] at sb3
              rw [E2.out] at sb4
              generalize (zs.getD (t + k * S) (0, 0)).1 = z1 at *
              generalize (zs.getD (t + k * S) (0, 0)).2 = z2 at *
              generalize (us.getD k (0, 0)).1 = z3 at *
              generalize (us.getD k (0, 0)).2 = z4 at *
              generalize re .f64 zs (t + k * S) * re .f32 us k + im .f64 zs (t + k * S) * im .f32 us k = T1 at *
              generalize im .f64 zs (t + k * S) * re .f32 us k - re .f64 zs (t + k * S) * im .f32 us k = T2 at *
              generalize re .f64 zs (t + k * S) = r1 at *
              generalize im .f64 zs (t + k * S) = r2 at *
              generalize re .f32 us k = r3 at *
              generalize im .f32 us k = r4 at *
              generalize fRe zs us S t k = Q3 at *
              generalize fIm zs us S t k = Q4 at *
              have g1 : -192000000000 ≤ Q3 := by omega
              have g2 : Q3 ≤ 192000000000 := by omega
              have g3 : -192000000000 ≤ Q4 := by omega
              have g4 : Q4 ≤ 192000000000 := by omega
              have g5 : -192000000000 ≤ Q3 + T1 := by omega
              have g6 : Q3 + T1 ≤ 192000000000 := by omega
              have g7 : -192000000000 ≤ Q4 + T2 := by omega
              have g8 : Q4 + T2 ≤ 192000000000 := by omega
              have e6 : ((t + k * S : Nat) : Int) < n := by have := HN.out.1; omega
              have e8 : 0 ≤ ((l : Int) + k) * S := by rw [← Int.natCast_add, ← Int.natCast_mul]; omega
              have e9 : ((l : Int) + k) * S ≤ 4096 := by rw [← Int.natCast_add, ← Int.natCast_mul]; omega
              have e5 : ((l : Int) + k) * S + s = ((t + k * S : Nat) : Int) := by rw [HTE.out, Int.add_mul]; simp only [Int.natCast_add, Int.natCast_mul]; omega
              have e7 : (k : Int) < m := by omega
              generalize t + k * S = fk at *
              clear h1 h2 q1 q2 hz1 hz2 a1 a2 a3 a4 e1 e2 e3 e4 sb1 sb2 sb3 sb4 IS hall hlk4
              go_wp2_with fail
              refine (CP1.out _).mono ?_
              rintro e w' ⟨rfl, rfl⟩
              go_wp2_with fail
              refine (CP2.out _).mono ?_
              rintro e w' ⟨rfl, rfl⟩
              go_wp2_with fail
              refine (CT.out _).mono ?_
              rintro e w' ⟨rfl, rfl⟩
              go_wp2_with fail
              go_round
              case rel => exact ⟨k + 1, by omega, by go_num, by rw [E1.out], by rw [E2.out]⟩
              case measure => simp [intOf]; omega
            · obtain rfl : k = m := by omega
              have CSm := Lib.hid (fun w => Sum_any (fRe zs us S t k) (fIm zs us S t k) w)
              have CW1 := Lib.hid (fun w => Within_any (fRe zs us S t k) (-1000000000) 1000000000 w)
              have CW2 := Lib.hid (fun w => Within_any (fIm zs us S t k) (-1000000000) 1000000000 w)
              have hcase : (¬ (-1000000000 ≤ fRe zs us S t k ∧ fRe zs us S t k ≤ 1000000000) ∧ Hid (focBig zs us S t = true)) ∨ ((-1000000000 ≤ fRe zs us S t k ∧ fRe zs us S t k ≤ 1000000000) ∧ ¬ (-1000000000 ≤ fIm zs us S t k ∧ fIm zs us S t k ≤ 1000000000) ∧ Hid (focBig zs us S t = true)) ∨ ((-1000000000 ≤ fRe zs us S t k ∧ fRe zs us S t k ≤ 1000000000) ∧ (-1000000000 ≤ fIm zs us S t k ∧ fIm zs us S t k ≤ 1000000000) ∧ Hid (focBig zs us S t = false)) := by
                unfold Hid
                rw [HBG.out]
                by_cases h1 : -1000000000 ≤ fRe zs us S t k ∧ fRe zs us S t k ≤ 1000000000
                · by_cases h2 : -1000000000 ≤ fIm zs us S t k ∧ fIm zs us S t k ≤ 1000000000
                  · exact .inr (.inr ⟨h1, h2, decide_eq_false (by omega)⟩)
                  · exact .inr (.inl ⟨h1, h2, decide_eq_true (by omega)⟩)
                · exact .inl ⟨h1, decide_eq_true (by omega)⟩
              generalize enc Ieee.double (fRe zs us S t k) = X at *
              generalize enc Ieee.double (fIm zs us S t k) = Y at *
              generalize fRe zs us S t k = Q1 at *
              generalize fIm zs us S t k = Q2 at *
              generalize focBig zs us S t = BB at *
              rcases hcase with ⟨w1, hF⟩ | ⟨w1, w2, hF⟩ | ⟨w1, w2, hF⟩
              · rw [decide_eq_false w1] at CW1
                have HBn : Hid (focBad zs us S n' = true) := HNb.out hF.out
                obtain ⟨f0, f1, f2, u0, u1, u2, l3⟩ := three_cells IS.out.h1
                have HB := Lib.hid IS.out.hb
                clear w1 hF HNb HBG HSt1
                go_wp2_with fail
                refine (CW1.out _).mono ?_
                rintro e w' ⟨rfl, rfl⟩
                go_wp2_with fail
                exact bodyPost_ret (v := .tuple #[.agg #[.int .i64 0, .int .i64 0, .slice none 0 0], .int .i64 8]) (by simp [results, Tryd.results33, go_sem, f0, f1, f2]) rfl (FocR.bad HBn.out (((HB.out.setCell (p := ⟨w.heap.size + 1, 0, none⟩) (by show w.heap.size ≤ w.heap.size + 1; omega) _).setCell (p := ⟨w.heap.size + 1, 1, none⟩) (by show w.heap.size ≤ w.heap.size + 1; omega) _).setCell (p := ⟨w.heap.size + 1, 2, none⟩) (by show w.heap.size ≤ w.heap.size + 1; omega) _))
              · rw [decide_eq_true w1] at CW1
                rw [decide_eq_false w2] at CW2
                have HBn : Hid (focBad zs us S n' = true) := HNb.out hF.out
                obtain ⟨f0, f1, f2, u0, u1, u2, l3⟩ := three_cells IS.out.h1
                have HB := Lib.hid IS.out.hb
                clear w1 w2 hF HNb HBG HSt1
                go_wp2_with fail
                refine (CW1.out _).mono ?_
                rintro e w' ⟨rfl, rfl⟩
                go_wp2_with fail
                refine (CW2.out _).mono ?_
                rintro e w' ⟨rfl, rfl⟩
                go_wp2_with fail
                exact bodyPost_ret (v := .tuple #[.agg #[.int .i64 0, .int .i64 0, .slice none 0 0], .int .i64 8]) (by simp [results, Tryd.results33, go_sem, f0, f1, f2]) rfl (FocR.bad HBn.out (((HB.out.setCell (p := ⟨w.heap.size + 1, 0, none⟩) (by show w.heap.size ≤ w.heap.size + 1; omega) _).setCell (p := ⟨w.heap.size + 1, 1, none⟩) (by show w.heap.size ≤ w.heap.size + 1; omega) _).setCell (p := ⟨w.heap.size + 1, 2, none⟩) (by show w.heap.size ≤ w.heap.size + 1; omega) _))
              rw [decide_eq_true w1] at CW1
              rw [decide_eq_true w2] at CW2
              have HBn : Hid (focBad zs us S (t + 1) = false) := HSt1.out.trans hF.out
              clear w1 w2 hF HNb HBG HSt1
              have A1 : Hid (((wz.alloc (.cells #[.complex .f64 X Y] 94)).drew).ownsRow (w.heap.size + 3) 94 1 v t (cvals .f64 (C.take t))) := IS.out.ho.alloc _
              have A2 : Hid (∀ (j : Nat) (u : Value), [Value.complex .f64 X Y][j]? = some u → ((wz.alloc (.cells #[.complex .f64 X Y] 94)).drew).cell? ((⟨wz.heap.size, 0, none⟩ : Addr).add j) = some u) := cell1_new _ _ _
              have A3 : Hid (∀ u ∈ [Value.complex .f64 X Y], u.oneCell' = true) := by intro u hu; simp at hu; rw [hu]; rfl
              have A4 : Hid (t + 1 ≤ maxLen) := by have := HT.out.2; unfold Hid maxLen; omega
              have A5 : Hid ((t + 1) * 16 ≤ 140737488355328) := by have := HT.out.2; unfold Hid; omega
              have A6 : Hid (w.heap.size + 3 ≤ ((wz.alloc (.cells #[.complex .f64 X Y] 94)).drew).heap.size) := by have := lt_of_block IS.out.h2; unfold Hid; simp [World.drew]; omega
              have A7 : Hid (((wz.alloc (.cells #[.complex .f64 X Y] 94)).drew).heap.size = wz.heap.size + 1) := by unfold Hid; simp [World.drew]
              go_wp2_with fail
              refine (CW1.out _).mono ?_
              rintro e w' ⟨rfl, rfl⟩
              go_wp2_with fail
              refine (CW2.out _).mono ?_
              rintro e w' ⟨rfl, rfl⟩
              go_wp2_with fail
              go_region_law ((first | (refine step_append_lies _ rfl (.tmp 99) (.tmp 103) 47 rfl (w.heap.size + 3) 94 i0 (.complex .f64 0 0) 1 16 Tryd.underlying47 HI.out.1 HI.out.2.1 HI.out.2.2.1 HI.out.2.2.2 rfl Nat.zero_lt_one v t (cvals .f64 (C.take t)) rfl A1.out ⟨wz.heap.size, 0, none⟩ 1 1 [.complex .f64 X Y] rfl rfl A2.out A3.out Nat.zero_lt_one A4.out A5.out A6.out (wz.heap.size + 1) A7.out ?_; intro g cap' w' hown' hgrow hor hlt'; have HA := Lib.hid (IS.out.after (W := (wz.alloc (.cells #[.complex .f64 X Y] 94)).drew) (.cells #[.complex .f64 X Y] 94) rfl rfl rfl rfl hgrow); have HO := Lib.hid hown'; obtain ⟨b0, b1, b2, b3, b4, b5, b6⟩ := three_cells HA.out.2.2.1; clear hown' hgrow hor) | (go_simp; go_at_call 54; refine (CSm.out _).mono ?_; rintro e w' ⟨rfl, rfl⟩)))
              all_goals
                go_wp2_with fail
                go_roundw
                case rel =>
                  refine ⟨s + 1, .slice (some ⟨g, 0, none⟩) (t + 1) cap', by omega, by go_num, ?_, ?_⟩
                  · rw [show l * S + (s + 1) = t + 1 from by have := HTE.out; omega]
                    exact HBn
                  · have := RfInv.next HA.out HO.out HT.out.1 HXY.out
                    rw [show l * S + (s + 1) = t + 1 from by have := HTE.out; omega]
                    exact this
                case measure => simp [intOf]; omega
        · obtain rfl : s = S := by omega
          go_wp2_with fail
          go_roundw
          case rel => exact ⟨l + 1, v, by omega, by go_num, by rw [Nat.succ_mul]; exact HBs, by rw [Nat.succ_mul]; exact IS⟩
          case measure => simp [intOf]; omega
    · obtain rfl : l = L' := by omega
      obtain ⟨z0, z1, z2, y0, y1, y2, l3⟩ := three_cells IK.out.h1
      obtain ⟨va, vn, vc, rfl⟩ : ∃ va vn vc, v0 = .slice va vn vc := by
        rcases IK.out.ho.2 with ⟨h, -⟩ | ⟨g, cp, -, h, -⟩
        · exact ⟨_, _, _, h⟩
        · exact ⟨_, _, _, h⟩
      have HB := Lib.hid IK.out.hb
      have HO : Hid (wo.ownsRow (w.heap.size + 3) 94 1 (.slice va vn vc) n' (cvals .f64 C)) := by
        have := IK.out.ho
        rw [← HNN.out.1, List.take_of_length_le (by have := HCl.out; omega)] at this
        exact this
      have HBf : Hid (focBad zs us S n' = false) := by have := HBo.out; rw [← HNN.out.1] at this; exact this
      clear IK HBo
      go_wp2_with fail
      refine bodyPost_ret (v := .tuple #[.agg #[.int .i64 l, .int .i64 S, .slice va vn vc], .int .i64 0]) (by simp [results, Tryd.results33, go_sem, z0, z1, z2]) rfl (FocR.good HBf.out ?_ ⟨?_⟩)
      · exact ((HB.out.setCell (p := ⟨w.heap.size + 1, 0, none⟩) (by show w.heap.size ≤ w.heap.size + 1; omega) _).setCell (p := ⟨w.heap.size + 1, 1, none⟩) (by show w.heap.size ≤ w.heap.size + 1; omega) _).setCell (p := ⟨w.heap.size + 1, 2, none⟩) (by show w.heap.size ≤ w.heap.size + 1; omega) _
      · rw [← HNN.out.2]
        exact Sl.of_owns (sl_setCell (sl_setCell (sl_setCell HO.out ⟨w.heap.size + 1, 0, none⟩ _ (by show w.heap.size + 1 < _; omega)) ⟨w.heap.size + 1, 1, none⟩ _ (by show w.heap.size + 1 < _; omega)) ⟨w.heap.size + 1, 2, none⟩ _ (by show w.heap.size + 1 < _; omega)) (by have := HLS.out; omega)
end Go.Proofs.YtmmmaanflmgblaaDoor
