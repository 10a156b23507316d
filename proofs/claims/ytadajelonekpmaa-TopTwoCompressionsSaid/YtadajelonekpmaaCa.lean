import Derived.Test.YtadajelonekpmaaSa
import Derived.Test.YtadajelonekpmaaDa
import Derived.Test.YtadajelonekpmaaDd
namespace Go.Proofs.Ytadajelonekpmaa
open Go.RowKit Go.Proofs.Ytadajelonekpmaa.Flt

theorem isZ_tests {z : Nat × Nat} : (FloatKind.f32.format.order z.1 0 == some .eq && FloatKind.f32.format.order z.2 0 == some .eq) = isZ .f32 z := by
  unfold isZ; exact congr (congrArg and (zero_test Ieee.single good_single z.1)) (zero_test Ieee.single good_single z.2)

/-- what the code's check comes to, from the sample k on, if some one of those ahead of it is not 0 (sm) -/
def codeFrom (zs : List (Nat × Nat)) (k : Nat) (sm : Bool) : Int × Int :=
  if (firstErr k ((smpErrs .f32 3 zs).drop k)).2 ≠ 0 then firstErr k ((smpErrs .f32 3 zs).drop k) else if !sm && (zs.drop k).all (isZ .f32) then (0, 11) else (0, 0)
theorem codeFrom_zero (zs : List (Nat × Nat)) (h1 : ¬ zs.length = 0) (h2 : ¬ 32 < zs.length) : codeErr zs = codeFrom zs 0 false := by
  unfold codeErr codeFrom
  rw [if_neg h1, if_neg h2]
  rfl
theorem codeFrom_hit (zs : List (Nat × Nat)) (k : Nat) (sm : Bool) (e : Int) (h : (smpErrs .f32 3 zs)[k]? = some e) (he : e ≠ 0) : codeFrom zs k sm = ((k : Int), e) := by
  have := firstErr_hit 0 _ k e h he
  simp only [Nat.zero_add] at this
  unfold codeFrom
  rw [this, if_pos he]
theorem codeFrom_next (zs : List (Nat × Nat)) (k : Nat) (sm : Bool) (hk : k < zs.length) (h : (smpErrs .f32 3 zs)[k]? = some 0) : codeFrom zs k sm = codeFrom zs (k + 1) (sm || !(isZ .f32 (zs.getD k (0, 0)))) := by
  have h1 := firstErr_zero 0 _ k h
  simp only [Nat.zero_add] at h1
  have e : (!sm && (zs.drop k).all (isZ .f32)) = (!(sm || !(isZ .f32 (zs.getD k (0, 0)))) && (zs.drop (k + 1)).all (isZ .f32)) := by
    rw [List.drop_eq_getElem_cons hk, List.all_cons]
    have : zs.getD k (0, 0) = zs[k] := by rw [List.getD_eq_getElem?_getD, List.getElem?_eq_getElem hk, Option.getD_some]
    rw [this]
    cases sm <;> cases isZ .f32 zs[k] <;> rfl
  unfold codeFrom
  rw [h1, e]
theorem codeFrom_end (zs : List (Nat × Nat)) (k : Nat) (sm : Bool) (h : zs.length ≤ k) : codeFrom zs k sm = if sm then (0, 0) else (0, 11) := by
  unfold codeFrom
  rw [firstErr_end k _ k (by simp [smpErrs]; omega), List.drop_of_length_le h]
  cases sm <;> rfl

/-- the error of a compression -/
def compErr (l s : Int) (zs us : List (Nat × Nat)) : Int :=
  if (dataErr .f32 2047 l s zs).2 ≠ 0 then (dataErr .f32 2047 l s zs).2 else if (codeErr us).2 ≠ 0 then (codeErr us).2 else if s < us.length then 10 else 0

set_option maxRecDepth 100000 in
set_option maxHeartbeats 1000000 in
theorem Compress_bad (l s : Int) (iv cv : Value) (zs us : List (Nat × Nat)) (w : World) (hl : I64 l) (hs : I64 s) (hiv : Sl w iv (cvals .f32 zs)) (hcv : Sl w cv (cvals .f32 us)) (h : compErr l s zs us ≠ 0) :
    Calls Try.prog 9 #[.agg #[.int .i64 l, .int .i64 s, iv], cv] w fun e w' => e = .returned (.tuple #[.agg #[.int .i64 0, .int .i64 0, .slice none 0 0], .int .i64 (compErr l s zs us)]) ∧ Below w.heap.size w w' := by
  have C1 := Lib.hid (fun w' (hb : Below w.heap.size w w') => CheckImage_any l s iv zs w' hl hs (hiv.below hb (Nat.le_refl _)))
  have C2 := Lib.hid (fun w' (hb : Below w.heap.size w w') => CheckCode_any cv us w' (hcv.below hb (Nat.le_refl _)))
  obtain ⟨iad, icap, rfl, hil, -⟩ := hiv
  obtain ⟨cad, ccap, rfl, hcl, -⟩ := hcv
  have ey : (cvals .f32 us).length = us.length := by simp [cvals]
  rw [ey] at C2 hcl ⊢
  generalize (cvals .f32 zs).length = n at *
  have HE : Hid (compErr l s zs us = if (dataErr .f32 2047 l s zs).2 ≠ 0 then (dataErr .f32 2047 l s zs).2 else if (codeErr us).2 ≠ 0 then (codeErr us).2 else if s < us.length then 10 else 0) := rfl
  generalize compErr l s zs us = E at *
  generalize (dataErr .f32 2047 l s zs).1 = D1 at *
  generalize (dataErr .f32 2047 l s zs).2 = D2 at *
  generalize (codeErr us).1 = K1 at *
  generalize (codeErr us).2 = K2 at *
  generalize us.length = m at *
  have hw : ((D2 != 0) = true ∧ Hid (E = D2)) ∨ ((D2 != 0) = false ∧ (K2 != 0) = true ∧ Hid (E = K2)) ∨ ((D2 != 0) = false ∧ (K2 != 0) = false ∧ s < m ∧ Hid (E = 10)) := by
    have := HE.out
    by_cases h1 : D2 = 0
    · rw [if_neg (fun c => c h1)] at this
      by_cases h2 : K2 = 0
      · rw [if_neg (fun c => c h2)] at this
        by_cases h3 : s < m
        · rw [if_pos h3] at this
          exact .inr (.inr ⟨by rw [h1]; rfl, by rw [h2]; rfl, h3, this⟩)
        · rw [if_neg h3] at this; exact absurd this h
      · rw [if_pos h2] at this
        exact .inr (.inl ⟨by rw [h1]; rfl, by rw [bne_iff_ne]; exact h2, this⟩)
    · rw [if_pos h1] at this
      exact .inl ⟨by rw [bne_iff_ne]; exact h1, this⟩
  clear HE h hl hs ey
  obtain ⟨W0, hW0⟩ : ∃ W0, W0 = ((w.alloc (.cells #[.int .i64 l, .int .i64 s, .slice iad n icap] 29)).alloc (.cells #[.slice cad m ccap] 27)).alloc (.cells #[.int .i64 0, .int .i64 0, .slice none 0 0] 34) := ⟨_, rfl⟩
  have hB0 : Below w.heap.size w W0 := by rw [hW0]; exact (((Below.refl _ _).alloc (Nat.le_refl _) _).alloc (by simp) _).alloc (by simp; omega) _
  obtain ⟨a0, a1, a2⟩ := alloc3_blocks w (.cells #[.int .i64 l, .int .i64 s, .slice iad n icap] 29) (.cells #[.slice cad m ccap] 27) (.cells #[.int .i64 0, .int .i64 0, .slice none 0 0] 34)
  rw [← hW0] at a0 a1 a2
  have HB0 := Lib.hid (And.intro hB0 (And.intro a0 (And.intro a1 a2)))
  have HW0 := Lib.hid hW0
  clear hB0 a0 a1 a2 hW0
  rcases hw with ⟨h1, hF⟩ | ⟨h1, h2, hF⟩ | ⟨h1, h2, h3, hF⟩
  all_goals
    rw [hF.out]
    go_enter Try.func9, Try.ntmps9
    go_wp2_with fail
    rw [← HW0.out]
    refine (C1.out _ HB0.out.1).mono ?_
    rintro e w1 ⟨rfl, hb⟩
    have HB1 := Lib.hid (HB0.out.1.trans (hb.mono HB0.out.1.size))
    have HN1 : Hid (w1.heap[w.heap.size]? = some (.cells #[.int .i64 l, .int .i64 s, .slice iad n icap] 29 (0, 0)) ∧ w1.heap[w.heap.size + 1]? = some (.cells #[.slice cad m ccap] 27 (0, 0)) ∧ w1.heap[w.heap.size + 1 + 1]? = some (.cells #[.int .i64 0, .int .i64 0, .slice none 0 0] 34 (0, 0))) :=
      ⟨(hb.block _ (lt_of_block HB0.out.2.1)).trans HB0.out.2.1, (hb.block _ (lt_of_block HB0.out.2.2.1)).trans HB0.out.2.2.1, (hb.block _ (lt_of_block HB0.out.2.2.2)).trans HB0.out.2.2.2⟩
    clear hb HB0
    obtain ⟨c0, c1, c2, -, -, -, l0⟩ := three_cells HN1.out.1
    obtain ⟨z0, z1, z2, y0, y1, y2, l2⟩ := three_cells HN1.out.2.2
    have k0 := cell_of_one HN1.out.2.1
  · go_wp2_with fail
    exact bodyPost_ret (v := .tuple #[.agg #[.int .i64 0, .int .i64 0, .slice none 0 0], .int .i64 D2]) (by simp [results, Try.results9, go_sem, z0, z1, z2]) rfl ⟨rfl, ((HB1.out.setCell (p := ⟨w.heap.size + 1 + 1, 0, none⟩) (by show w.heap.size ≤ w.heap.size + 1 + 1; omega) _).setCell (p := ⟨w.heap.size + 1 + 1, 1, none⟩) (by show w.heap.size ≤ w.heap.size + 1 + 1; omega) _).setCell (p := ⟨w.heap.size + 1 + 1, 2, none⟩) (by show w.heap.size ≤ w.heap.size + 1 + 1; omega) _⟩
  all_goals
    go_wp2_with fail
    refine (C2.out _ HB1.out).mono ?_
    rintro e w2 ⟨rfl, q, rfl⟩
    go_wp2_with fail
    exact bodyPost_ret (v := .tuple #[.agg #[.int .i64 0, .int .i64 0, .slice none 0 0], .int .i64 _]) (by simp [results, Try.results9, go_sem, z0, z1, z2]) rfl ⟨rfl, (((HB1.out.trans (below_drewN' _ _ _)).setCell (p := ⟨w.heap.size + 1 + 1, 0, none⟩) (by show w.heap.size ≤ w.heap.size + 1 + 1; omega) _).setCell (p := ⟨w.heap.size + 1 + 1, 1, none⟩) (by show w.heap.size ≤ w.heap.size + 1 + 1; omega) _).setCell (p := ⟨w.heap.size + 1 + 1, 2, none⟩) (by show w.heap.size ≤ w.heap.size + 1 + 1; omega) _⟩
end Go.Proofs.Ytadajelonekpmaa

namespace Go.Proofs.Ytadajelonekpmaa
open Go.RowKit Go.Proofs.Ytadajelonekpmaa.Flt

structure RcInv (L S S' : Nat) (iad : Option Addr) (icap n : Nat) (C : List (Nat × Nat)) (w : World) (t : Nat) (v : Value) (wr : World) : Prop where
  h0 : wr.heap[w.heap.size]? = some (.cells #[.int .i64 L, .int .i64 S, .slice iad n icap] 29 (0, 0))
  h1 : wr.heap[w.heap.size + 1]? = some (.cells #[.int .i64 0, .int .i64 0, .slice none 0 0] 34 (0, 0))
  h2 : wr.heap[w.heap.size + 1 + 1]? = some (.cells #[.int .i64 L, .int .i64 S', v] 34 (0, 0))
  hb : Below w.heap.size w wr
  ho : wr.ownsRow (w.heap.size + 3) 43 1 v t (cvals .f64 (C.take t))

theorem RcInv.own_ne {L S S' : Nat} {iad : Option Addr} {icap n : Nat} {C : List (Nat × Nat)} {w wz : World} {t : Nat} {v : Value} (h : RcInv L S S' iad icap n C w t v wz) (i : Nat) (hi : i < w.heap.size + 3) : v.ownBlock ≠ some i := by
  intro e
  have := (h.ho.lt i e).1
  omega

/-- the three boxes behind an append -/
def RcBox (L S S' : Nat) (iad : Option Addr) (icap n : Nat) (w : World) (v : Value) (w' : World) : Prop :=
  w'.heap[w.heap.size]? = some (.cells #[.int .i64 L, .int .i64 S, .slice iad n icap] 29 (0, 0)) ∧
  w'.heap[w.heap.size + 1]? = some (.cells #[.int .i64 0, .int .i64 0, .slice none 0 0] 34 (0, 0)) ∧
  w'.heap[w.heap.size + 1 + 1]? = some (.cells #[.int .i64 L, .int .i64 S', v] 34 (0, 0)) ∧ Below w.heap.size w w'

theorem RcInv.after {L S S' : Nat} {iad : Option Addr} {icap n : Nat} {C : List (Nat × Nat)} {w wz W w' : World} {t : Nat} {v : Value} (h : RcInv L S S' iad icap n C w t v wz) (o : Obj) (hW : W.heap = (wz.alloc o).heap) (e1 : W.os = wz.os) (e2 : W.tape = wz.tape) (e3 : W.output = wz.output) (hg : W.grownBy w' v.ownBlock) :
    RcBox L S S' iad icap n w v w' := by
  have b0 := lt_of_block h.h0
  have b1 := lt_of_block h.h1
  have b2 := lt_of_block h.h2
  have hsz : W.heap.size = wz.heap.size + 1 := by rw [hW]; simp
  have old : ∀ i, i < w.heap.size + 3 → i < wz.heap.size → w'.heap[i]? = wz.heap[i]? := by
    intro i hi hi'
    rw [hg.block i (by omega) (fun e => h.own_ne i hi e.symm), hW]
    exact Below.heap_alloc _ _ _ hi'
  refine ⟨(old _ (by omega) b0).trans h.h0, (old _ (by omega) b1).trans h.h1, (old _ (by omega) b2).trans h.h2, ?_⟩
  have hb : Below w.heap.size w W := ⟨e1.trans h.hb.os, e2.trans h.hb.tape, e3.trans h.hb.output, by have := h.hb.size; omega, fun i hi => by rw [hW]; exact (Below.heap_alloc _ _ _ (Nat.lt_of_lt_of_le hi h.hb.size)).trans (h.hb.block i hi)⟩
  exact hb.grown hg hb.size (fun i e => by have := (h.ho.lt i e).1; omega)

theorem RcInv.next {L S S' : Nat} {iad : Option Addr} {icap n : Nat} {C : List (Nat × Nat)} {w w' : World} {t g cap' X Y : Nat} {v : Value} (h : RcBox L S S' iad icap n w v w')
    (ho : w'.ownsRow (w.heap.size + 3) 43 1 (.slice (some ⟨g, 0, none⟩) (t + 1) cap') (t + 1) (cvals .f64 (C.take t) ++ [.complex .f64 X Y])) (hk : t < C.length) (hXY : C.getD t (0, 0) = (X, Y)) :
    RcInv L S S' iad icap n C w (t + 1) (.slice (some ⟨g, 0, none⟩) (t + 1) cap') (w'.setCell ⟨w.heap.size + 1 + 1, 2, none⟩ (.slice (some ⟨g, 0, none⟩) (t + 1) cap')) := by
  obtain ⟨h0, h1, h2, hb⟩ := h
  refine ⟨(Below.heap_setCell _ _ _ _ (by show w.heap.size ≠ w.heap.size + 1 + 1; omega)).trans h0, (Below.heap_setCell _ _ _ _ (by show w.heap.size + 1 ≠ w.heap.size + 1 + 1; omega)).trans h1, ?_, hb.setCell (p := ⟨w.heap.size + 1 + 1, 2, none⟩) (by show w.heap.size ≤ w.heap.size + 1 + 1; omega) _, ?_⟩
  · rw [heap_setCell_same _ _ _ _ _ _ h2]; rfl
  · have e : cvals .f64 (C.take (t + 1)) = cvals .f64 (C.take t) ++ [.complex .f64 X Y] := by
      rw [List.take_succ_eq_append_getElem hk]
      rw [List.getD_eq_getElem?_getD, List.getElem?_eq_getElem hk, Option.getD_some] at hXY
      rw [hXY]; simp [cvals]
    rw [e]
    have hg := (ho.lt g rfl).1
    exact ownsRow_setCell_other ho (by simp [Value.ownBlock]; omega) _

/-- the sums of the first k products -/
def cRe (zs us : List (Nat × Nat)) (f k : Nat) : Int := sumTo (fun k => re .f32 zs (f + k) * re .f32 us k + im .f32 zs (f + k) * im .f32 us k) k
def cIm (zs us : List (Nat × Nat)) (f k : Nat) : Int := sumTo (fun k => im .f32 zs (f + k) * re .f32 us k - re .f32 zs (f + k) * im .f32 us k) k

theorem c_b {zs us : List (Nat × Nat)} (RI : Right .f32 2047 zs) (RC : Right .f32 3 us) (f k : Nat) (h : f + us.length ≤ zs.length) (hm : us.length ≤ 32) (hk : k ≤ us.length) : (cRe zs us f k).natAbs ≤ 393024 ∧ (cIm zs us f k).natAbs ≤ 393024 := by
  have hb : ∀ k, k < us.length → (re .f32 zs (f + k) * re .f32 us k + im .f32 zs (f + k) * im .f32 us k).natAbs ≤ 12282 ∧ (im .f32 zs (f + k) * re .f32 us k - re .f32 zs (f + k) * im .f32 us k).natAbs ≤ 12282 := by
    intro k hk
    obtain ⟨-, -, a3, a4⟩ := RI (f + k) (by omega)
    obtain ⟨-, -, b3, b4⟩ := RC k hk
    have hm : ∀ a c : Int, a.natAbs ≤ 2047 → c.natAbs ≤ 3 → (a * c).natAbs ≤ 6141 := by
      intro a c h1 h2
      rw [Int.natAbs_mul]
      exact Nat.le_trans (Nat.mul_le_mul h1 h2) (by decide)
    have t1 := hm _ _ a3 b3
    have t2 := hm _ _ a4 b4
    have t3 := hm _ _ a4 b3
    have t4 := hm _ _ a3 b4
    constructor <;> omega
  have hs1 := sumTo_bound (fun k => re .f32 zs (f + k) * re .f32 us k + im .f32 zs (f + k) * im .f32 us k) 12282 us.length (fun k hk => (hb k hk).1) k hk
  have hs2 := sumTo_bound (fun k => im .f32 zs (f + k) * re .f32 us k - re .f32 zs (f + k) * im .f32 us k) 12282 us.length (fun k hk => (hb k hk).2) k hk
  have hm := Nat.mul_le_mul_right 12282 (show k ≤ 32 by omega)
  exact ⟨Nat.le_trans hs1 hm, Nat.le_trans hs2 hm⟩

theorem comp_get (zs us : List (Nat × Nat)) (S S' N l s : Nat) (hs : s < S') (h : l * S' + s < N) : (compList zs us S S' N).getD (l * S' + s) (0, 0) = (enc Ieee.double (cRe zs us (l * S + s) us.length), enc Ieee.double (cIm zs us (l * S + s) us.length)) := by
  have e1 : (l * S' + s) / S' = l := by rw [Nat.mul_comm, Nat.mul_add_div (by omega), Nat.div_eq_of_lt hs, Nat.add_zero]
  have e2 : (l * S' + s) % S' = s := by rw [Nat.mul_comm, Nat.mul_add_mod, Nat.mod_eq_of_lt hs]
  simp only [compList, List.getD_eq_getElem?_getD, List.getElem?_map, List.getElem?_range h, Option.map_some, Option.getD_some]
  unfold compAt
  rw [e1, e2]
  rfl

/-- what the reference's field is -/
def FieldR (l s : Int) (C : List (Nat × Nat)) (w : World) (e : Ending) (w' : World) : Prop :=
  ∃ v, e = .returned (.tuple #[.agg #[.int .i64 l, .int .i64 s, v], .int .i64 0]) ∧ Below w.heap.size w w' ∧ Smp .f64 C w' v

end Go.Proofs.Ytadajelonekpmaa

namespace Go.Proofs.Ytadajelonekpmaa
open Go.RowKit Go.Proofs.Ytadajelonekpmaa.Flt

theorem ScIn.drew {l s : Int} {pv cv : Value} {xs cs : List Nat} {w W : World} (h : ScIn l s pv cv xs cs w W) : ScIn l s pv cv xs cs w W.drew :=
  ⟨h.blk, h.hb.drew, ⟨⟨h.p.sl.form⟩⟩, ⟨⟨h.c.sl.form⟩⟩⟩

theorem smp_nil (W : World) : Smp .f64 [] W (.slice none 0 0) := ⟨none, 0, rfl, Nat.zero_le _, .inl rfl⟩

/-- what a field is that Compress, or the reference, hands back -/
def FieldE (l s : Int) (C : List (Nat × Nat)) (E : Int) (w : World) (e : Ending) (w' : World) : Prop :=
  ∃ v, e = .returned (.tuple #[.agg #[.int .i64 l, .int .i64 s, v], .int .i64 E]) ∧ Below w.heap.size w w' ∧ Smp .f64 C w' v

end Go.Proofs.Ytadajelonekpmaa

namespace Go.Proofs.Ytadajelonekpmaa
open Go.RowKit Go.Proofs.Ytadajelonekpmaa.Flt

theorem Smp.drew {k : FloatKind} {zs : List (Nat × Nat)} {W : World} {v : Value} (h : Smp k zs W v) : Smp k zs W.drew v := ⟨⟨h.sl.form⟩⟩
theorem ScIn.alloc {l s : Int} {pv cv : Value} {xs cs : List Nat} {w W : World} (h : ScIn l s pv cv xs cs w W) (o : Obj) : ScIn l s pv cv xs cs w (W.alloc o) := h.next ((Below.refl _ _).alloc (Nat.le_refl _) _)
theorem Smp.alloc {k : FloatKind} {zs : List (Nat × Nat)} {W : World} {v : Value} (h : Smp k zs W v) (o : Obj) : Smp k zs (W.alloc o) v := h.below ((Below.refl _ _).alloc (Nat.le_refl _) _)
theorem box_after {W W' : World} {a b c : Value} {t : TypeId} (hb : Below (W.alloc (.cells #[a, b, c] t)).heap.size (W.alloc (.cells #[a, b, c] t)) W') : W'.heap[W.heap.size]? = some (.cells #[a, b, c] t (0, 0)) :=
  (hb.block _ (lt_of_block (heap_alloc_new _ _))).trans (heap_alloc_new _ _)
theorem box_after_drew {W W' : World} {a b c : Value} {t : TypeId} (hb : Below (W.alloc (.cells #[a, b, c] t)).drew.heap.size (W.alloc (.cells #[a, b, c] t)).drew W') : W'.heap[W.heap.size]? = some (.cells #[a, b, c] t (0, 0)) :=
  (hb.block _ (lt_of_block (heap_alloc_new _ _))).trans (heap_alloc_new _ _)
theorem set3 {W : World} {b : Nat} {p : Addr} {u0 u1 u2 : Value} {v : Option Value} (h : W.cell? p = v) (hb : p.block ≠ b) : (((W.setCell ⟨b, 0, none⟩ u0).setCell ⟨b, 1, none⟩ u1).setCell ⟨b, 2, none⟩ u2).cell? p = v := by
  rw [← h]
  exact World.cell?_of_block ((Below.heap_setCell _ _ _ _ hb).trans ((Below.heap_setCell _ _ _ _ hb).trans (Below.heap_setCell _ _ _ _ hb)))

theorem blk_setCell (W : World) (b i : Nat) (u : Value) (cs : Array Value) (t : TypeId) (h : W.heap[b]? = some (.cells cs t (0, 0))) : (W.setCell ⟨b, i, none⟩ u).heap[b]? = some (.cells (cs.setIfInBounds i u) t (0, 0)) := by
  simp [World.setCell, Array.getElem?_modify, h]
theorem blk_set3 {W : World} {b : Nat} {x0 x1 x2 : Value} {t : TypeId} (u0 u1 u2 : Value) (h : W.heap[b]? = some (.cells #[x0, x1, x2] t (0, 0))) :
    (((W.setCell ⟨b, 0, none⟩ u0).setCell ⟨b, 1, none⟩ u1).setCell ⟨b, 2, none⟩ u2).heap[b]? = some (.cells #[u0, u1, u2] t (0, 0)) :=
  blk_setCell _ _ _ _ _ _ (blk_setCell _ _ _ _ _ _ (blk_setCell _ _ _ _ _ _ h))

/-- a field in its box -/
structure FBox (l s : Int) (v : Value) (C : List (Nat × Nat)) (b : Nat) (W : World) : Prop where
  blk : W.heap[b]? = some (.cells #[.int .i64 l, .int .i64 s, v] 34 (0, 0))
  smp : Smp .f64 C W v
theorem FBox.next {l s : Int} {v : Value} {C : List (Nat × Nat)} {b : Nat} {W W' : World} (h : FBox l s v C b W) (hb : Below W.heap.size W W') : FBox l s v C b W' :=
  ⟨(hb.block _ (lt_of_block h.blk)).trans h.blk, h.smp.below hb⟩
theorem FBox.born {l s : Int} {v : Value} {C : List (Nat × Nat)} {W : World} (h : Smp .f64 C W v) : FBox l s v C W.heap.size (W.alloc (.cells #[.int .i64 l, .int .i64 s, v] 34)) :=
  ⟨heap_alloc_new _ _, h.alloc _⟩

theorem Smp.set3 {C : List (Nat × Nat)} {W : World} {v : Value} {b : Nat} {a c : Int} {t : TypeId} (h : Smp .f64 C W v) (q : W.heap[b]? = some (.cells #[.int .i64 a, .int .i64 c, .slice none 0 0] t (0, 0))) (u0 u1 u2 : Value) :
    Smp .f64 C (((W.setCell ⟨b, 0, none⟩ u0).setCell ⟨b, 1, none⟩ u1).setCell ⟨b, 2, none⟩ u2) v := by
  obtain ⟨ad, cap, hv, hl, hx⟩ := h.sl.form
  refine ⟨ad, cap, hv, hl, ?_⟩
  rcases hx with hx | ⟨b', off, h1, h2, h3⟩
  · exact .inl hx
  · by_cases hb : b' = b
    · refine .inl ?_
      cases C with
      | nil => rfl
      | cons z C =>
        exfalso
        have h4 := h3 0 (.complex .f64 z.1 z.2) rfl
        rw [hb, cell_of_row W b _ _ t _ q, Nat.add_zero] at h4
        match off, h4 with
        | 0, h4 => cases h4
        | 1, h4 => cases h4
        | 2, h4 => cases h4
        | _ + 3, h4 => simp at h4
    · exact .inr ⟨b', off, h1, by simp only [World.setCell, Array.size_modify]; exact h2, fun j x hx => Go.Proofs.Ytadajelonekpmaa.set3 (h3 j x hx) hb⟩

theorem ScIn.set3 {l s : Int} {pv cv : Value} {xs cs : List Nat} {w W : World} {b : Nat} (h : ScIn l s pv cv xs cs w W) (hp : Fls .f32 xs w pv) (hc : Fls .f32 cs w cv) (hb : w.heap.size < b) (u0 u1 u2 : Value) :
    ScIn l s pv cv xs cs w (((W.setCell ⟨b, 0, none⟩ u0).setCell ⟨b, 1, none⟩ u1).setCell ⟨b, 2, none⟩ u2) := by
  have hB : Below w.heap.size w (((W.setCell ⟨b, 0, none⟩ u0).setCell ⟨b, 1, none⟩ u1).setCell ⟨b, 2, none⟩ u2) := ((h.hb.setCell (p := ⟨b, 0, none⟩) (Nat.le_of_lt hb) _).setCell (p := ⟨b, 1, none⟩) (Nat.le_of_lt hb) _).setCell (p := ⟨b, 2, none⟩) (Nat.le_of_lt hb) _
  have hn : w.heap.size ≠ b := by omega
  exact ⟨(Below.heap_setCell _ _ _ _ hn).trans ((Below.heap_setCell _ _ _ _ hn).trans ((Below.heap_setCell _ _ _ _ hn).trans h.blk)), hB, hp.below hB, hc.below hB⟩
theorem FBox.alloc {l s : Int} {v : Value} {C : List (Nat × Nat)} {b : Nat} {W : World} (h : FBox l s v C b W) (o : Obj) : FBox l s v C b (W.alloc o) := h.next ((Below.refl _ _).alloc (Nat.le_refl _) _)
theorem FBox.drew {l s : Int} {v : Value} {C : List (Nat × Nat)} {b : Nat} {W : World} (h : FBox l s v C b W) : FBox l s v C b W.drew := h.next (Below.refl _ _).drew
theorem FBox.set3 {l s : Int} {v : Value} {C : List (Nat × Nat)} {b b2 : Nat} {W : World} {a c : Int} {t : TypeId} (h : FBox l s v C b W) (hn : b < b2) (q : W.heap[b2]? = some (.cells #[.int .i64 a, .int .i64 c, .slice none 0 0] t (0, 0))) (u0 u1 u2 : Value) :
    FBox l s v C b (((W.setCell ⟨b2, 0, none⟩ u0).setCell ⟨b2, 1, none⟩ u1).setCell ⟨b2, 2, none⟩ u2) := by
  have hne : b ≠ b2 := by omega
  exact ⟨(Below.heap_setCell _ _ _ _ hne).trans ((Below.heap_setCell _ _ _ _ hne).trans ((Below.heap_setCell _ _ _ _ hne).trans h.blk)), h.smp.set3 q _ _ _⟩
theorem FBox.made {l s : Int} {v : Value} {C : List (Nat × Nat)} {b : Nat} {W : World} {x0 x1 : Int} (q : W.heap[b]? = some (.cells #[.int .i64 x0, .int .i64 x1, .slice none 0 0] 34 (0, 0))) (h : Smp .f64 C W v) :
    FBox l s v C b (((W.setCell ⟨b, 0, none⟩ (.int .i64 l)).setCell ⟨b, 1, none⟩ (.int .i64 s)).setCell ⟨b, 2, none⟩ v) := ⟨blk_set3 _ _ _ q, h.set3 q _ _ _⟩
end Go.Proofs.Ytadajelonekpmaa
