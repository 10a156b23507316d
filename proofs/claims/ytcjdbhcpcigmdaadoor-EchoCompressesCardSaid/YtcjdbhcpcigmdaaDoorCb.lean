import Derived.Test.YtcjdbhcpcigmdaaDoorDc
namespace Go.Proofs.YtcjdbhcpcigmdaaDoor
open Go.RowKit Go.Proofs.YtcjdbhcpcigmdaaDoor.Flt

structure RcInv (L S S' : Nat) (iad : Option Addr) (icap n : Nat) (C : List (Nat × Nat)) (w : World) (t : Nat) (v : Value) (wr : World) : Prop where
  h0 : wr.heap[w.heap.size]? = some (.cells #[.int .i64 L, .int .i64 S, .slice iad n icap] 32 (0, 0))
  h1 : wr.heap[w.heap.size + 1]? = some (.cells #[.int .i64 0, .int .i64 0, .slice none 0 0] 49 (0, 0))
  h2 : wr.heap[w.heap.size + 1 + 1]? = some (.cells #[.int .i64 L, .int .i64 S', v] 49 (0, 0))
  hb : Below w.heap.size w wr
  ho : wr.ownsRow (w.heap.size + 3) 88 1 v t (cvals .f64 (C.take t))

theorem RcInv.own_ne {L S S' : Nat} {iad : Option Addr} {icap n : Nat} {C : List (Nat × Nat)} {w wz : World} {t : Nat} {v : Value} (h : RcInv L S S' iad icap n C w t v wz) (i : Nat) (hi : i < w.heap.size + 3) : v.ownBlock ≠ some i := by
  intro e
  have := (h.ho.lt i e).1
  omega

/-- the three boxes behind an append -/
def RcBox (L S S' : Nat) (iad : Option Addr) (icap n : Nat) (w : World) (v : Value) (w' : World) : Prop :=
  w'.heap[w.heap.size]? = some (.cells #[.int .i64 L, .int .i64 S, .slice iad n icap] 32 (0, 0)) ∧
  w'.heap[w.heap.size + 1]? = some (.cells #[.int .i64 0, .int .i64 0, .slice none 0 0] 49 (0, 0)) ∧
  w'.heap[w.heap.size + 1 + 1]? = some (.cells #[.int .i64 L, .int .i64 S', v] 49 (0, 0)) ∧ Below w.heap.size w w'

theorem RcInv.after {L S S' : Nat} {iad : Option Addr} {icap n : Nat} {C : List (Nat × Nat)} {w wz W w' : World} {t : Nat} {v : Value} (h : RcInv L S S' iad icap n C w t v wz) (o : Obj) (hW : W.heap = (wz.alloc o).heap) (e1 : W.os = wz.os) (e2 : W.tape = wz.tape) (e3 : W.output = wz.output) (hg : W.grownBy w' v.ownBlock) :
    RcBox L S S' iad icap n w v w' := by
  have b0 := lt_of_block h.h0
  have b1 := lt_of_block h.h1
  have b2 := lt_of_block h.h2
  have hsz : W.heap.size = wz.heap.size + 1 := by rw [hW]; simp
  have old : ∀ i, i < w.heap.size + 3 → i < wz.heap.size → w'.heap[i]? = wz.heap[i]? := by
    intro i hi hi'
    rw [hg.block i (by omega) (fun e => h.own_ne i hi e.symm), hW]
    exact Below.heap_alloc _ _ _ hi'
  refine ⟨(old _ (by omega) b0).trans h.h0, (old _ (by omega) b1).trans h.h1, (old _ (by omega) b2).trans h.h2, ?_⟩
  have hb : Below w.heap.size w W := ⟨e1.trans h.hb.os, e2.trans h.hb.tape, e3.trans h.hb.output, by have := h.hb.size; omega, fun i hi => by rw [hW]; exact (Below.heap_alloc _ _ _ (Nat.lt_of_lt_of_le hi h.hb.size)).trans (h.hb.block i hi)⟩
  exact hb.grown hg hb.size (fun i e => by have := (h.ho.lt i e).1; omega)

theorem RcInv.next {L S S' : Nat} {iad : Option Addr} {icap n : Nat} {C : List (Nat × Nat)} {w w' : World} {t g cap' X Y : Nat} {v : Value} (h : RcBox L S S' iad icap n w v w')
    (ho : w'.ownsRow (w.heap.size + 3) 88 1 (.slice (some ⟨g, 0, none⟩) (t + 1) cap') (t + 1) (cvals .f64 (C.take t) ++ [.complex .f64 X Y])) (hk : t < C.length) (hXY : C.getD t (0, 0) = (X, Y)) :
    RcInv L S S' iad icap n C w (t + 1) (.slice (some ⟨g, 0, none⟩) (t + 1) cap') (w'.setCell ⟨w.heap.size + 1 + 1, 2, none⟩ (.slice (some ⟨g, 0, none⟩) (t + 1) cap')) := by
  obtain ⟨h0, h1, h2, hb⟩ := h
  refine ⟨(Below.heap_setCell _ _ _ _ (by show w.heap.size ≠ w.heap.size + 1 + 1; omega)).trans h0, (Below.heap_setCell _ _ _ _ (by show w.heap.size + 1 ≠ w.heap.size + 1 + 1; omega)).trans h1, ?_, hb.setCell (p := ⟨w.heap.size + 1 + 1, 2, none⟩) (by show w.heap.size ≤ w.heap.size + 1 + 1; omega) _, ?_⟩
  · rw [heap_setCell_same _ _ _ _ _ _ h2]; rfl
  · have e : cvals .f64 (C.take (t + 1)) = cvals .f64 (C.take t) ++ [.complex .f64 X Y] := by
      rw [List.take_succ_eq_append_getElem hk]
      rw [List.getD_eq_getElem?_getD, List.getElem?_eq_getElem hk, Option.getD_some] at hXY
      rw [hXY]; simp [cvals]
    rw [e]
    have hg := (ho.lt g rfl).1
    exact ownsRow_setCell_other ho (by simp [Value.ownBlock]; omega) _

/-- the sums of the first k products -/
def cRe (zs us : List (Nat × Nat)) (f k : Nat) : Int := sumTo (fun k => re .f32 zs (f + k) * re .f32 us k + im .f32 zs (f + k) * im .f32 us k) k
def cIm (zs us : List (Nat × Nat)) (f k : Nat) : Int := sumTo (fun k => im .f32 zs (f + k) * re .f32 us k - re .f32 zs (f + k) * im .f32 us k) k

theorem c_b {zs us : List (Nat × Nat)} (RI : Right .f32 2047 zs) (RC : Right .f32 3 us) (f k : Nat) (h : f + us.length ≤ zs.length) (hm : us.length ≤ 32) (hk : k ≤ us.length) : (cRe zs us f k).natAbs ≤ 393024 ∧ (cIm zs us f k).natAbs ≤ 393024 := by
  have hb : ∀ k, k < us.length → (re .f32 zs (f + k) * re .f32 us k + im .f32 zs (f + k) * im .f32 us k).natAbs ≤ 12282 ∧ (im .f32 zs (f + k) * re .f32 us k - re .f32 zs (f + k) * im .f32 us k).natAbs ≤ 12282 := by
    intro k hk
    obtain ⟨-, -, a3, a4⟩ := RI (f + k) (by omega)
    obtain ⟨-, -, b3, b4⟩ := RC k hk
    have hm : ∀ a c : Int, a.natAbs ≤ 2047 → c.natAbs ≤ 3 → (a * c).natAbs ≤ 6141 := by
      intro a c h1 h2
      rw [Int.natAbs_mul]
      exact Nat.le_trans (Nat.mul_le_mul h1 h2) (by decide)
    have t1 := hm _ _ a3 b3
    have t2 := hm _ _ a4 b4
    have t3 := hm _ _ a4 b3
    have t4 := hm _ _ a3 b4
    constructor <;> omega
  have hs1 := sumTo_bound (fun k => re .f32 zs (f + k) * re .f32 us k + im .f32 zs (f + k) * im .f32 us k) 12282 us.length (fun k hk => (hb k hk).1) k hk
  have hs2 := sumTo_bound (fun k => im .f32 zs (f + k) * re .f32 us k - re .f32 zs (f + k) * im .f32 us k) 12282 us.length (fun k hk => (hb k hk).2) k hk
  have hm := Nat.mul_le_mul_right 12282 (show k ≤ 32 by omega)
  exact ⟨Nat.le_trans hs1 hm, Nat.le_trans hs2 hm⟩

theorem comp_get (zs us : List (Nat × Nat)) (S S' N l s : Nat) (hs : s < S') (h : l * S' + s < N) : (compList zs us S S' N).getD (l * S' + s) (0, 0) = (enc Ieee.double (cRe zs us (l * S + s) us.length), enc Ieee.double (cIm zs us (l * S + s) us.length)) := by
  have e1 : (l * S' + s) / S' = l := by rw [Nat.mul_comm, Nat.mul_add_div (by omega), Nat.div_eq_of_lt hs, Nat.add_zero]
  have e2 : (l * S' + s) % S' = s := by rw [Nat.mul_comm, Nat.mul_add_mod, Nat.mod_eq_of_lt hs]
  simp only [compList, List.getD_eq_getElem?_getD, List.getElem?_map, List.getElem?_range h, Option.map_some, Option.getD_some]
  unfold compAt
  rw [e1, e2]
  rfl

/-- what the reference's field is -/
def FieldR (l s : Int) (C : List (Nat × Nat)) (w : World) (e : Ending) (w' : World) : Prop :=
  ∃ v, e = .returned (.tuple #[.agg #[.int .i64 l, .int .i64 s, v], .int .i64 0]) ∧ Below w.heap.size w w' ∧ Smp .f64 C w' v

set_option maxRecDepth 100000 in
set_option maxHeartbeats 4000000 in
/-- THE REFERENCE's COMPRESSION -/
theorem refCompress_ok (L S m : Nat) (iv cv : Value) (zs us : List (Nat × Nat)) (w : World) (hiv : Sl w iv (cvals .f32 zs)) (hcv : Sl w cv (cvals .f32 us))
    (hL : L ≤ 64) (hS1 : 1 ≤ S) (hS : S ≤ 64) (hm : us.length = m) (hm1 : 1 ≤ m) (hm2 : m ≤ 32) (hmS : m ≤ S) (hlen : zs.length = L * S) (RI : Right .f32 2047 zs) (RC : Right .f32 3 us) :
    Calls Tryd.prog 39 #[.agg #[.int .i64 L, .int .i64 S, iv], cv] w (FieldR L (S - m + 1 : Nat) (compList zs us S (S - m + 1) (L * (S - m + 1))) w) := by
  have HIV := Lib.hid hiv
  have HCV := Lib.hid hcv
  obtain ⟨iad, icap, rfl, hil, -⟩ := hiv
  obtain ⟨cad, ccap, rfl, hcl, -⟩ := hcv
  have ex : (cvals .f32 zs).length = zs.length := by simp [cvals]
  have ey : (cvals .f32 us).length = m := by simp [cvals, hm]
  rw [ex] at hil HIV ⊢
  rw [ey] at hcl HCV ⊢
  have hz : zs.length ≤ 4096 := by rw [hlen]; exact Nat.le_trans (Nat.mul_le_mul hL hS) (by decide)
  obtain ⟨S', hS'⟩ : ∃ S', S' = S - m + 1 := ⟨_, rfl⟩
  rw [← hS']
  have hSi : (S : Int) - m + 1 = S' := by omega
  obtain ⟨C, hC⟩ : ∃ C, C = compList zs us S S' (L * S') := ⟨_, rfl⟩
  rw [← hC]
  have HCl : Hid (C.length = L * S') := by unfold Hid; rw [hC]; simp [compList]
  have HG : Hid (∀ l s, l < L → s < S' → C.getD (l * S' + s) (0, 0) = (enc Ieee.double (cRe zs us (l * S + s) m), enc Ieee.double (cIm zs us (l * S + s) m)) ∧ l * S' + s < L * S' ∧ l * S + s + m ≤ zs.length ∧ l * S + S ≤ zs.length) := by
    intro l s h1 h2
    have h3 : l * S' + S' ≤ L * S' := by rw [← Nat.succ_mul]; exact Nat.mul_le_mul_right _ h1
    have h4 : l * S + S ≤ L * S := by rw [← Nat.succ_mul]; exact Nat.mul_le_mul_right _ h1
    refine ⟨?_, by omega, by omega, by omega⟩
    rw [hC, comp_get zs us S S' (L * S') l s h2 (by omega), hm]
  have HLS : Hid (L * S' ≤ 4096) := Nat.le_trans (Nat.mul_le_mul hL (show S' ≤ 64 by omega)) (by decide)
  obtain ⟨n, hn⟩ : ∃ n, n = zs.length := ⟨_, rfl⟩
  have HN := Lib.hid (And.intro hn hm)
  rw [← hn] at hil HIV hz ⊢
  have HR := Lib.hid (And.intro RI RC)
  obtain ⟨i0, hi, hz0, hz1, hz2⟩ := info_parts Tryd.info88
  have HI := Lib.hid (And.intro hi (And.intro hz0 (And.intro hz1 hz2)))
  clear ex ey hlen hC hn RI RC hi hz0 hz1 hz2
  have hS'1 : 1 ≤ S' := by omega
  have hS'2 : S' ≤ 64 := by omega
  have hmS' : ¬ S < m := by omega
  have HS' := Lib.hid hS'
  clear hS'
  go_enter Tryd.func39, Tryd.ntmps39
  go_wp2_with fail
  go_loopw [7] (fun i wr => ∃ (l : Nat) (v : Value), l ≤ L ∧ i = .int .i64 l ∧ Hid (RcInv L S S' iad icap n C w (l * S') v wr)) (fun i _ => L - (intOf i).toNat)
  case atStart =>
    refine ⟨0, .slice none 0 0, Nat.zero_le _, rfl, ?_, ?_, ?_, ?_, ?_⟩
    · rw [Below.heap_alloc _ _ _ (by simp; omega), Below.heap_alloc _ _ _ (by simp)]; exact heap_alloc_new _ _
    · have := heap_alloc_new (w.alloc (.cells #[.int .i64 L, .int .i64 S, .slice iad n icap] 32)) (.cells #[.int .i64 0, .int .i64 0, .slice none 0 0] 49)
      rw [World.size_alloc] at this
      rw [Below.heap_alloc _ _ _ (by simp)]; exact this
    · have := heap_alloc_new ((w.alloc (.cells #[.int .i64 L, .int .i64 S, .slice iad n icap] 32)).alloc (.cells #[.int .i64 0, .int .i64 0, .slice none 0 0] 49)) (.cells #[.int .i64 L, .int .i64 S', .slice none 0 0] 49)
      rw [World.size_alloc, World.size_alloc] at this
      exact this
    · exact (((Below.refl _ _).alloc (Nat.le_refl _) _).alloc (by simp) _).alloc (by simp; omega) _
    · rw [Nat.zero_mul]; exact World.ownsRow_nil _ _ _ _
  case round =>
    obtain ⟨l, v0, hl, rfl, IK⟩ := hrel
    obtain ⟨wo, rfl⟩ : ∃ wo : World, wo = wr := ⟨_, rfl⟩
    obtain ⟨c0, c1, c2, -, -, -, l0⟩ := three_cells IK.out.h0
    obtain ⟨x0, x1, x2, -, -, -, l1⟩ := three_cells IK.out.h2
    by_cases hlt : l < L
    · go_wp2_with fail
      go_loopw [8] (fun i wr => ∃ (s : Nat) (v : Value), s ≤ S' ∧ i = .int .i64 s ∧ Hid (RcInv L S S' iad icap n C w (l * S' + s) v wr)) (fun i _ => S' - (intOf i).toNat)
      case atStart => exact ⟨0, v0, Nat.zero_le _, rfl, IK⟩
      case round =>
        clear IK c0 c1 c2 l0 x0 x1 x2 l1
        obtain ⟨s, v, hs, rfl, IS⟩ := hrel
        obtain ⟨wz, rfl⟩ : ∃ wz : World, wz = wr := ⟨_, rfl⟩
        obtain ⟨c0, c1, c2, -, -, -, l0⟩ := three_cells IS.out.h0
        obtain ⟨x0, x1, x2, y0, y1, y2, l1⟩ := three_cells IS.out.h2
        by_cases hlt2 : s < S'
        · obtain ⟨HG1, HG2, HG3, HG4⟩ := HG.out l s hlt hlt2
          have HXY := Lib.hid HG1
          clear HG1
          obtain ⟨f, hf⟩ : ∃ f, f = l * S + s := ⟨_, rfl⟩
          rw [← hf] at HXY HG3
          have HF := Lib.hid hf
          have hfi : (l : Int) * S + s = f := by rw [hf, Int.natCast_add, Int.natCast_mul]
          have hlS1 : 0 ≤ (l : Int) * S := by rw [← Int.natCast_mul]; omega
          have hlS2 : (l : Int) * S ≤ 4096 := by rw [← Int.natCast_mul]; have := HN.out.1; omega
          have HN3 : Hid (f + m ≤ zs.length) := HG3
          have hfn : f + m ≤ n := by have := HN.out.1; omega
          have hf4 : f ≤ 4096 := by omega
          clear hf HG3 HG4
          go_wp2_with fail
          go_loop [9, 10, 11] (fun rv mv i => ∃ k : Nat, k ≤ m ∧ i = .int .i64 k ∧ rv = .int .i64 (cRe zs us f k) ∧ mv = .int .i64 (cIm zs us f k)) (fun _ _ i => m - (intOf i).toNat)
          case atStart => exact ⟨0, Nat.zero_le _, rfl, rfl, rfl⟩
          case round =>
            obtain ⟨k, hk, rfl, rfl, rfl⟩ := hrel
            by_cases hlk : k < m
            · obtain ⟨-, b1, o1, rfl, q1, h1⟩ := HIV.out.at (by omega)
              obtain ⟨-, b2, o2, rfl, q2, h2⟩ := HCV.out.at (by omega)
              have hz1 : f + k < zs.length := by have := HN3.out; omega
              have hz2 : k < us.length := by have := HN.out.2; omega
              have d1 : wz.cell? ⟨b1, o1 + (f + k), none⟩ = some (.complex .f32 (zs.getD (f + k) (0, 0)).1 (zs.getD (f + k) (0, 0)).2) := (IS.out.hb.cell (p := ⟨b1, o1 + (f + k), none⟩) q1).trans (h1 _ _ (cvals_get hz1))
              have d2 : wz.cell? ⟨b2, o2 + k, none⟩ = some (.complex .f32 (us.getD k (0, 0)).1 (us.getD k (0, 0)).2) := (IS.out.hb.cell (p := ⟨b2, o2 + k, none⟩) q2).trans (h2 _ _ (cvals_get hz2))
              obtain ⟨a1, a2, a3, a4⟩ := HR.out.1 (f + k) hz1
              obtain ⟨e1, e2, e3, e4⟩ := HR.out.2 k hz2
              have CP1 := Lib.hid (fun w => refParts_any _ _ _ _ a1 a2 (by omega) (by omega) w)
              have CP2 := Lib.hid (fun w => refParts_any _ _ _ _ e1 e2 (by omega) (by omega) w)
              have CT := Lib.hid (fun w => Times_any (re .f32 zs (f + k)) (im .f32 zs (f + k)) (re .f32 us k) (im .f32 us k) (by omega) (by omega) (by omega) (by omega) w)
              obtain ⟨sb1, sb2⟩ := c_b HR.out.1 HR.out.2 f k (by have := HN3.out; have := HN.out.2; omega) (by have := HN.out.2; omega) (by omega)
              obtain ⟨sb3, sb4⟩ := c_b HR.out.1 HR.out.2 f (k + 1) (by have := HN3.out; have := HN.out.2; omega) (by have := HN.out.2; omega) (by omega)
              have E1 : Hid (cRe zs us f (k + 1) = cRe zs us f k + (re .f32 zs (f + k) * re .f32 us k + im .f32 zs (f + k) * im .f32 us k)) := rfl
              have E2 : Hid (cIm zs us f (k + 1) = cIm zs us f k + (im .f32 zs (f + k) * re .f32 us k - re .f32 zs (f + k) * im .f32 us k)) := rfl
              rw [E1.out] at sb3
              rw [E2.out] at sb4
              generalize (zs.getD (f + k) (0, 0)).1 = z1 at *
              generalize (zs.getD (f + k) (0, 0)).2 = z2 at *
              generalize (us.getD k (0, 0)).1 = z3 at *
              generalize (us.getD k (0, 0)).2 = z4 at *
              generalize re .f32 zs (f + k) * re .f32 us k + im .f32 zs (f + k) * im .f32 us k = T1 at *
              generalize im .f32 zs (f + k) * re .f32 us k - re .f32 zs (f + k) * im .f32 us k = T2 at *
              generalize re .f32 zs (f + k) = r1 at *
              generalize im .f32 zs (f + k) = r2 at *
              generalize re .f32 us k = r3 at *
              generalize im .f32 us k = r4 at *
              generalize cRe zs us f k = Q3 at *
              generalize cIm zs us f k = Q4 at *
              have g1 : -393024 ≤ Q3 := by omega
              have g2 : Q3 ≤ 393024 := by omega
              have g3 : -393024 ≤ Q4 := by omega
              have g4 : Q4 ≤ 393024 := by omega
              have g5 : -393024 ≤ Q3 + T1 := by omega
              have g6 : Q3 + T1 ≤ 393024 := by omega
              have g7 : -393024 ≤ Q4 + T2 := by omega
              have g8 : Q4 + T2 ≤ 393024 := by omega
              have e5 : ((f : Int) + k) = ((f + k : Nat) : Int) := by rw [Int.natCast_add]
              have e6 : ((f + k : Nat) : Int) < n := by omega
              have e7 : (k : Int) < m := by omega
              generalize f + k = fk at *
              clear h1 h2 q1 q2 hz1 hz2 a1 a2 a3 a4 e1 e2 e3 e4 sb1 sb2 sb3 sb4 IS
              go_wp2_with fail
              refine (CP1.out _).mono ?_
              rintro e w' ⟨rfl, rfl⟩
              go_wp2_with fail
              refine (CP2.out _).mono ?_
              rintro e w' ⟨rfl, rfl⟩
              go_wp2_with fail
              refine (CT.out _).mono ?_
              rintro e w' ⟨rfl, rfl⟩
              go_wp2_with fail
              go_round
              case rel => exact ⟨k + 1, by omega, by go_num, by rw [E1.out], by rw [E2.out]⟩
              case measure => simp [intOf]; omega
            · obtain rfl : k = m := by omega
              have HT : Hid (l * S' + s < C.length ∧ l * S' + s ≤ 4096) := by have := HCl.out; have := HLS.out; constructor <;> omega
              obtain ⟨t, ht⟩ : ∃ t, t = l * S' + s := ⟨_, rfl⟩
              rw [← ht] at HXY HT IS
              have HTE := Lib.hid ht
              have CSm := Lib.hid (fun w => Sum_any (cRe zs us f k) (cIm zs us f k) w)
              generalize enc Ieee.double (cRe zs us f k) = X at *
              generalize enc Ieee.double (cIm zs us f k) = Y at *
              generalize cRe zs us f k = Q1 at *
              generalize cIm zs us f k = Q2 at *
              have A1 : Hid (((wz.alloc (.cells #[.complex .f64 X Y] 88)).drew).ownsRow (w.heap.size + 3) 88 1 v t (cvals .f64 (C.take t))) := IS.out.ho.alloc _
              have A2 : Hid (∀ (j : Nat) (u : Value), [Value.complex .f64 X Y][j]? = some u → ((wz.alloc (.cells #[.complex .f64 X Y] 88)).drew).cell? ((⟨wz.heap.size, 0, none⟩ : Addr).add j) = some u) := cell1_new _ _ _
              have A3 : Hid (∀ u ∈ [Value.complex .f64 X Y], u.oneCell' = true) := by intro u hu; simp at hu; rw [hu]; rfl
              have A4 : Hid (t + 1 ≤ maxLen) := by have := HT.out.2; unfold Hid maxLen; omega
              have A5 : Hid ((t + 1) * 16 ≤ 140737488355328) := by have := HT.out.2; unfold Hid; omega
              have A6 : Hid (w.heap.size + 3 ≤ ((wz.alloc (.cells #[.complex .f64 X Y] 88)).drew).heap.size) := by have := lt_of_block IS.out.h2; unfold Hid; simp [World.drew]; omega
              have A7 : Hid (((wz.alloc (.cells #[.complex .f64 X Y] 88)).drew).heap.size = wz.heap.size + 1) := by unfold Hid; simp [World.drew]
              clear ht hlS1 hlS2 hfi
              go_wp2_with fail
              go_region_law ((first | (refine step_append_lies _ rfl (.tmp 90) (.tmp 94) 47 rfl (w.heap.size + 3) 88 i0 (.complex .f64 0 0) 1 16 Tryd.underlying47 HI.out.1 HI.out.2.1 HI.out.2.2.1 HI.out.2.2.2 rfl Nat.zero_lt_one v t (cvals .f64 (C.take t)) rfl A1.out ⟨wz.heap.size, 0, none⟩ 1 1 [.complex .f64 X Y] rfl rfl A2.out A3.out Nat.zero_lt_one A4.out A5.out A6.out (wz.heap.size + 1) A7.out ?_; intro g cap' w' hown' hgrow hor hlt'; have HA := Lib.hid (IS.out.after (W := (wz.alloc (.cells #[.complex .f64 X Y] 88)).drew) (.cells #[.complex .f64 X Y] 88) rfl rfl rfl rfl hgrow); have HO := Lib.hid hown'; obtain ⟨b0, b1, b2, b3, b4, b5, b6⟩ := three_cells HA.out.2.2.1; clear hown' hgrow hor) | (go_simp; go_at_call 57; refine (CSm.out _).mono ?_; rintro e w' ⟨rfl, rfl⟩)))
              all_goals
                go_wp2_with fail
                go_roundw
                case rel =>
                  refine ⟨s + 1, .slice (some ⟨g, 0, none⟩) (t + 1) cap', by omega, by go_num, ?_⟩
                  have := RcInv.next HA.out HO.out HT.out.1 HXY.out
                  rw [show l * S' + (s + 1) = t + 1 from by have := HTE.out; omega]
                  exact this
                case measure => simp [intOf]; omega
        · obtain rfl : s = S' := by omega
          go_wp2_with fail
          go_roundw
          case rel => exact ⟨l + 1, v, by omega, by go_num, by rw [Nat.succ_mul]; exact IS⟩
          case measure => simp [intOf]; omega
    · obtain rfl : l = L := by omega
      obtain ⟨z0, z1, z2, y0, y1, y2, l3⟩ := three_cells IK.out.h1
      obtain ⟨va, vn, vc, rfl⟩ : ∃ va vn vc, v0 = .slice va vn vc := by
        rcases IK.out.ho.2 with ⟨h, -⟩ | ⟨g, cp, -, h, -⟩
        · exact ⟨_, _, _, h⟩
        · exact ⟨_, _, _, h⟩
      have HB := Lib.hid IK.out.hb
      have HO : Hid (wo.ownsRow (w.heap.size + 3) 88 1 (.slice va vn vc) (l * S') (cvals .f64 C)) := by
        have := IK.out.ho
        rw [List.take_of_length_le (by have := HCl.out; omega)] at this
        exact this
      clear IK
      go_wp2_with fail
      refine bodyPost_ret (v := .tuple #[.agg #[.int .i64 l, .int .i64 S', .slice va vn vc], .int .i64 0]) (by simp [results, Tryd.results39, go_sem, z0, z1, z2]) rfl ⟨.slice va vn vc, rfl, ?_, ⟨?_⟩⟩
      · exact ((HB.out.setCell (p := ⟨w.heap.size + 1, 0, none⟩) (by show w.heap.size ≤ w.heap.size + 1; omega) _).setCell (p := ⟨w.heap.size + 1, 1, none⟩) (by show w.heap.size ≤ w.heap.size + 1; omega) _).setCell (p := ⟨w.heap.size + 1, 2, none⟩) (by show w.heap.size ≤ w.heap.size + 1; omega) _
      · exact Sl.of_owns (sl_setCell (sl_setCell (sl_setCell HO.out ⟨w.heap.size + 1, 0, none⟩ _ (by show w.heap.size + 1 < _; omega)) ⟨w.heap.size + 1, 1, none⟩ _ (by show w.heap.size + 1 < _; omega)) ⟨w.heap.size + 1, 2, none⟩ _ (by show w.heap.size + 1 < _; omega)) (by have := HLS.out; omega)
end Go.Proofs.YtcjdbhcpcigmdaaDoor
