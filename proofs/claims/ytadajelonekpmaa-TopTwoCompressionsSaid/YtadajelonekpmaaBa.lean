import Derived.Test.YtadajelonekpmaaNm
import Derived.Test.YtadajelonekpmaaCa
import Derived.Test.YtadajelonekpmaaTa
namespace Go.Proofs.Ytadajelonekpmaa
open Go.RowKit Go.Proofs.Ytadajelonekpmaa.Flt

/-- numbers modulo the prime, and zeros up to n of them -/
def padL (xs : List Int) (n : Nat) : List Int := (List.range n).map fun i => xs.getD i 0 % 998244353
theorem padL_length (xs : List Int) (n : Nat) : (padL xs n).length = n := by simp [padL]
theorem padL_get (xs : List Int) (n i : Nat) (h : i < n) : (padL xs n).getD i 0 = xs.getD i 0 % 998244353 := by
  simp [padL, List.getD_eq_getElem?_getD, List.getElem?_range h]
theorem getD_past (xs : List Int) (i : Nat) (h : xs.length ≤ i) : xs.getD i 0 = 0 := by
  rw [List.getD_eq_getElem?_getD, List.getElem?_eq_none h]; rfl

theorem padL_err (xs : List Int) (n : Nat) (h : n ≤ 128) (h1 : ones 8 n = 1) : listErr (padL xs n) = 0 := by
  unfold listErr
  rw [padL_length, if_neg (by omega), if_neg]
  rw [Bool.not_eq_true, List.any_eq_false]
  intro x hx
  obtain ⟨k, -, rfl⟩ := List.mem_map.1 hx
  have b1 := Int.emod_nonneg (xs.getD k 0) (show (998244353 : Int) ≠ 0 by decide)
  have b2 := Int.emod_lt_of_pos (xs.getD k 0) (show (0 : Int) < 998244353 by decide)
  unfold offP
  simp
  omega

theorem sum_tail (f : Nat → Int) (m : Nat) : ∀ d, (∀ k, m ≤ k → f k = 0) → sumTo f (m + d) = sumTo f m
  | 0, _ => rfl
  | d + 1, h => by rw [Nat.add_succ, sumTo, sum_tail f m d h, h (m + d) (Nat.le_add_right _ _), Int.add_zero]

/-- the correlation of two lists with zeros behind them is, modulo the prime, the sum of products -/
theorem cor_pad (xs ys : List Int) (n s : Nat) (hs : s < n) (hx : s + ys.length ≤ n) (hy : ys.length ≤ n) :
    Mo ((corList (padL xs n) (padL ys n)).getD s 0) (sumTo (fun k => xs.getD (s + k) 0 * ys.getD k 0) ys.length) := by
  rw [corList_get _ _ _ (by rw [padL_length]; exact hs), padL_length]
  refine (corTo_mo _ _ _ _).trans ?_
  rw [padL_length]
  obtain ⟨d, rfl⟩ : ∃ d, n = ys.length + d := ⟨n - ys.length, by omega⟩
  refine Mo.trans (b := sumTo (fun k => (if k < ys.length then xs.getD (s + k) 0 * ys.getD k 0 else 0)) (ys.length + d)) (Mo.sum _ fun k hk => ?_) (Mo.of_eq ?_)
  · have hm := Nat.mod_lt (s + k) (show ys.length + d > 0 by omega)
    rw [padL_get _ _ _ hm, padL_get _ _ _ hk]
    by_cases hk2 : k < ys.length
    · rw [if_pos hk2, Nat.mod_eq_of_lt (by omega)]
      exact (Mo.mod _).mul (Mo.mod _)
    · rw [if_neg hk2, getD_past ys k (by omega)]
      exact Mo.of_eq (by simp)
  · rw [sum_tail _ _ _ (fun k hk => if_neg (by omega))]
    exact sum_eq _ fun k hk => if_pos hk

/-- the number of at most half the prime in size that is a number modulo the prime -/
def sgnP (n : Int) : Int := if 499122176 < n then n - 998244353 else n
theorem sgn_mo {n c : Int} (h : Mo n c) (h0 : 0 ≤ n) (h1 : n < 998244353) (hc : c.natAbs ≤ 499122176) : sgnP n = c := by
  unfold Mo at h
  unfold sgnP
  split <;> omega

theorem sum_bd (f : Nat → Int) (B : Nat) (n : Nat) (h : ∀ k, k < n → (f k).natAbs ≤ B) : (sumTo f n).natAbs ≤ n * B := sumTo_bound f B n h n (Nat.le_refl _)

theorem cor_sgn (xs ys : List Int) (n s : Nat) (hs : s < n) (hx : s + ys.length ≤ n) (hy : ys.length ≤ 32) (hn : n ≤ 128) (h1 : ones 8 n = 1) (bx : ∀ i, (xs.getD i 0).natAbs ≤ 2047) (by' : ∀ i, (ys.getD i 0).natAbs ≤ 3) :
    sgnP ((corList (padL xs n) (padL ys n)).getD s 0) = sumTo (fun k => xs.getD (s + k) 0 * ys.getD k 0) ys.length := by
  obtain ⟨b0, b1⟩ := getD_off (listErr_ok (cor_err _ (padL ys n) (padL_err xs n hn h1))).2.2 s
  refine sgn_mo (cor_pad xs ys n s hs hx (by omega)) b0 b1 ?_
  have := sum_bd (fun k => xs.getD (s + k) 0 * ys.getD k 0) 6141 ys.length (fun k _ => by
    rw [Int.natAbs_mul]
    exact Nat.le_trans (Nat.mul_le_mul (bx _) (by' _)) (by decide))
  have h2 := Nat.mul_le_mul_right 6141 hy
  omega

/-- real numbers as samples -/
def realS (xs : List Int) : List (Nat × Nat) := xs.map fun x => (enc Ieee.single x, enc Ieee.single 0)
theorem realS_length (xs : List Int) : (realS xs).length = xs.length := by simp [realS]
theorem wv_enc24 {n : Int} (h : n.natAbs ≤ 2 ^ 24) : wv Ieee.single (enc Ieee.single n) = some n := rep_wv good_single (.inl rfl) h
theorem re_realS (xs : List Int) (h : ∀ x ∈ xs, x.natAbs ≤ 2047) (i : Nat) : re .f32 (realS xs) i = xs.getD i 0 ∧ im .f32 (realS xs) i = 0 := by
  have w0 : wv Ieee.single (enc Ieee.single 0) = some 0 := wv_enc24 (by decide)
  have e0 : enc Ieee.single 0 = 0 := by decide +kernel
  unfold re im ival
  by_cases hi : i < xs.length
  · have hg : (realS xs).getD i (0, 0) = (enc Ieee.single (xs.getD i 0), enc Ieee.single 0) := by
      simp [realS, List.getD_eq_getElem?_getD, List.getElem?_eq_getElem hi]
    have hx : (xs.getD i 0).natAbs ≤ 2047 := by
      rw [List.getD_eq_getElem?_getD, List.getElem?_eq_getElem hi]; exact h _ (List.getElem_mem hi)
    rw [hg]
    have hw : wv FloatKind.f32.format (enc Ieee.single (xs.getD i 0)) = some (xs.getD i 0) := wv_enc24 (by omega)
    have hw0 : wv FloatKind.f32.format (enc Ieee.single 0) = some 0 := w0
    dsimp only
    rw [hw, hw0]
    exact ⟨rfl, rfl⟩
  · have hg : (realS xs).getD i (0, 0) = (0, 0) := by
      rw [List.getD_eq_getElem?_getD, List.getElem?_eq_none (by rw [realS_length]; omega)]; rfl
    have hw0 : wv FloatKind.f32.format 0 = some 0 := by rw [e0] at w0; exact w0
    rw [hg, getD_past xs i (by omega)]
    dsimp only
    rw [hw0]
    exact ⟨rfl, rfl⟩

theorem getD_bd {xs : List Int} {B : Nat} (h : ∀ x ∈ xs, x.natAbs ≤ B) (i : Nat) : (xs.getD i 0).natAbs ≤ B := by
  by_cases hi : i < xs.length
  · rw [List.getD_eq_getElem?_getD, List.getElem?_eq_getElem hi]; exact h _ (List.getElem_mem hi)
  · rw [getD_past xs i (by omega)]; exact Nat.zero_le _

/-- a real line compressed by a real code -/
theorem comp_real (xs ys : List Int) (hx : ∀ x ∈ xs, x.natAbs ≤ 2047) (hy : ∀ x ∈ ys, x.natAbs ≤ 3) (s : Nat) :
    cRe (realS xs) (realS ys) s ys.length = sumTo (fun k => xs.getD (s + k) 0 * ys.getD k 0) ys.length ∧ cIm (realS xs) (realS ys) s ys.length = 0 := by
  have hy' : ∀ x ∈ ys, x.natAbs ≤ 2047 := fun x h => Nat.le_trans (hy x h) (by decide)
  refine ⟨sum_eq _ fun k hk => ?_, ?_⟩
  · rw [(re_realS xs hx _).1, (re_realS xs hx _).2, (re_realS ys hy' _).1, (re_realS ys hy' _).2]; omega
  · unfold cIm
    rw [sum_eq (g := fun _ => 0) _ fun k hk => by
      rw [(re_realS xs hx _).1, (re_realS xs hx _).2, (re_realS ys hy' _).1, (re_realS ys hy' _).2]; omega]
    exact sum_zero _

/-- real samples are right -/
theorem realS_errs (xs : List Int) (M : Int) (hM : M ≤ 2047) (h : ∀ x ∈ xs, x.natAbs ≤ M) : ∀ i, firstErr i (smpErrs .f32 M (realS xs)) = (0, 0) := by
  induction xs with
  | nil => intro i; rfl
  | cons x r ih =>
    intro i
    have hx := h x (List.mem_cons_self ..)
    have h1 : wv FloatKind.f32.format (enc Ieee.single x) = some x := wv_enc24 (by omega)
    have h0 : wv FloatKind.f32.format (enc Ieee.single 0) = some 0 := wv_enc24 (by decide)
    have he : smpErr (wv FloatKind.f32.format (enc Ieee.single x)) (wv FloatKind.f32.format (enc Ieee.single 0)) M = 0 := by
      rw [h1, h0]; unfold smpErr; dsimp only; rw [if_neg (by omega)]
    show firstErr i (smpErr (wv FloatKind.f32.format (enc Ieee.single x)) (wv FloatKind.f32.format (enc Ieee.single 0)) M :: smpErrs .f32 M (realS r)) = (0, 0)
    rw [he]
    exact ih (fun y hy => h y (List.mem_cons_of_mem _ hy)) _

theorem realS_zero (xs : List Int) (h : ∀ x ∈ xs, x.natAbs ≤ 2047) (hs : ∃ x ∈ xs, x ≠ 0) : (realS xs).all (isZ .f32) = false := by
  obtain ⟨x, hx, h0⟩ := hs
  rw [List.all_eq_false]
  refine ⟨_, List.mem_map.2 ⟨x, hx, rfl⟩, ?_⟩
  have h1 : wv FloatKind.f32.format (enc Ieee.single x) = some x := wv_enc24 (by have := h x hx; omega)
  unfold isZ
  dsimp only
  rw [h1]
  simp [h0]

/-- a real line is a right image, a real code that is not zero a right code -/
theorem real_image (xs : List Int) (h1 : 1 ≤ xs.length) (h2 : xs.length ≤ 64) (h : ∀ x ∈ xs, x.natAbs ≤ 2047) : (dataErr .f32 2047 1 xs.length (realS xs)).2 = 0 := by
  unfold dataErr
  have : sizeErr 1 xs.length (realS xs).length = 0 := by unfold sizeErr; rw [realS_length, if_neg (by omega), if_pos (by omega)]
  rw [this, if_neg (by simp), realS_errs xs 2047 (by decide) (fun x hx => by have := h x hx; omega)]
theorem real_code (xs : List Int) (h1 : 1 ≤ xs.length) (h2 : xs.length ≤ 32) (h : ∀ x ∈ xs, x.natAbs ≤ 3) (hs : ∃ x ∈ xs, x ≠ 0) : (codeErr (realS xs)).2 = 0 := by
  unfold codeErr
  rw [realS_length, if_neg (by omega), if_neg (by omega), realS_errs xs 3 (by decide) (fun x hx => by have := h x hx; omega), if_neg (by simp), realS_zero xs (fun x hx => by have := h x hx; omega) hs]
  simp
theorem real_right (xs : List Int) (M : Nat) (hM : M ≤ 2047) (h : ∀ x ∈ xs, x.natAbs ≤ M) : Right .f32 M (realS xs) := by
  intro i hi
  rw [realS_length] at hi
  obtain ⟨e1, e2⟩ := re_realS xs (fun x hx => Nat.le_trans (h x hx) hM) i
  have hg : (realS xs).getD i (0, 0) = (enc Ieee.single (xs.getD i 0), enc Ieee.single 0) := by
    simp [realS, List.getD_eq_getElem?_getD, List.getElem?_eq_getElem hi]
  rw [e1, e2, hg]
  exact ⟨.inl rfl, .inl rfl, getD_bd h i, Nat.zero_le _⟩
end Go.Proofs.Ytadajelonekpmaa

namespace Go.Proofs.Ytadajelonekpmaa
open Go.RowKit Go.Proofs.Ytadajelonekpmaa.Flt

/-- two sums of whole parts are the same -/
theorem order_same {n : Int} (h : n.natAbs ≤ 2 ^ 53) : FloatKind.f64.format.order (enc Ieee.double n) (enc Ieee.double n) = some .eq := by
  have := order_rep good_double (.enc Ieee.double n) (.enc Ieee.double n) h h
  have e : compare n n = Ordering.eq := by simp [compare, compareOfLessAndEq]
  rw [e] at this
  exact this

/-- the first k numbers modulo the prime, zeros behind them: 64 cells -/
def padTo (xs : List Int) (k : Nat) : Array Value := ((List.range 64).map fun i => Value.int .i64 (if i < k then xs.getD i 0 % 998244353 else 0)).toArray
theorem padTo_get (xs : List Int) (k i : Nat) (h : i < 64) : (padTo xs k)[i]? = some (.int .i64 (if i < k then xs.getD i 0 % 998244353 else 0)) := by
  simp [padTo, List.getElem?_range h]
theorem padTo_size (xs : List Int) (k : Nat) : (padTo xs k).size = 64 := by simp [padTo]
theorem padTo_step (xs : List Int) (k : Nat) : (padTo xs k).setIfInBounds k (.int .i64 (xs.getD k 0 % 998244353)) = padTo xs (k + 1) := by
  apply Array.ext_getElem?
  intro i
  rw [Array.getElem?_setIfInBounds]
  by_cases hi : i < 64
  · rw [padTo_get xs k i hi, padTo_get xs (k + 1) i hi, padTo_size]
    by_cases h : k = i
    · subst h; rw [if_pos rfl, if_pos hi, if_pos (by omega)]
    · rw [if_neg h]
      by_cases h2 : i < k
      · rw [if_pos h2, if_pos (by omega)]
      · rw [if_neg h2, if_neg (by omega)]
  · rw [Array.getElem?_eq_none (by rw [padTo_size]; omega), Array.getElem?_eq_none (by rw [padTo_size]; omega), padTo_size]
    by_cases h : k = i
    · rw [if_pos h, if_neg (by omega)]
    · rw [if_neg h]
theorem padTo_end (xs : List Int) (k : Nat) (h : xs.length ≤ k) : (padTo xs k).toList = ivals (padL xs 64) := by
  unfold padTo padL ivals
  rw [List.map_map]
  apply List.map_congr_left
  intro i hi
  by_cases h1 : i < k
  · rw [if_pos h1]; rfl
  · rw [if_neg h1]
    show Value.int .i64 0 = Value.int .i64 (xs.getD i 0 % 998244353)
    rw [getD_past xs i (by omega)]; rfl
theorem padTo_none : padTo [] 0 = padTo [] 0 := rfl
theorem padTo_zero (xs : List Int) : padTo xs 0 = padTo [] 0 := by
  unfold padTo
  congr 1

/-- a list read off its block -/
theorem got_pad {xs : List Int} {k b : Nat} {w : World} (h : w.heap[b]? = some (.cells (padTo xs k) 3 (0, 0))) (hk : xs.length ≤ k) : Got (padL xs 64) w (.slice (some ⟨b, 0, none⟩) 64 64) := by
  have hl : (ivals (padL xs 64)).length = 64 := by simp [ivals, padL]
  refine ⟨⟨some ⟨b, 0, none⟩, 64, by rw [hl], by rw [hl]; decide, .inr ⟨b, 0, rfl, lt_of_block h, fun j x hx => ?_⟩⟩, ?_⟩
  · rw [cell_of_row w b (0 + j) _ _ _ h, Nat.zero_add, ← hx, ← padTo_end xs k hk, Array.getElem?_toList]
  · intro n c e; cases e

/-- an own row where its block, if it has one, is as it was -/
theorem own_keep {w w' : World} {B e size n : Nat} {v : Value} {xs : List Value} (h : w.ownsRow B e size v n xs) (hb : ∀ i, v.ownBlock = some i → w'.heap[i]? = w.heap[i]?) : w'.ownsRow B e size v n xs := by
  obtain ⟨h1, h2⟩ := h
  refine ⟨h1, ?_⟩
  rcases h2 with h2 | ⟨g, cap, cur, hv, hg, hh, h3⟩
  · exact .inl h2
  · exact .inr ⟨g, cap, cur, hv, hg, by rw [hb g (by rw [hv]; rfl)]; exact hh, h3⟩

theorem realS_take (xs : List Int) (k : Nat) (h : k < xs.length) : cvals .f32 (realS (xs.take (k + 1))) = cvals .f32 (realS (xs.take k)) ++ [.complex .f32 (enc Ieee.single (xs.getD k 0)) (enc Ieee.single 0)] := by
  rw [List.take_succ_eq_append_getElem h]
  unfold realS cvals
  rw [List.map_append, List.map_append]
  congr 1
  simp [List.getD_eq_getElem?_getD, List.getElem?_eq_getElem h]

/-- what holds while the line is laid: ka numbers lie in the list, k in the image -/
structure BtA (xs : List Int) (n ba bb bi : Nat) (w : World) (ka k : Nat) (v : Value) (wr : World) : Prop where
  hb : Below w.heap.size w wr
  ha : wr.heap[ba]? = some (.cells (padTo xs ka) 3 (0, 0))
  hc : wr.heap[bb]? = some (.cells (padTo [] 0) 3 (0, 0))
  hi : wr.heap[bi]? = some (.cells #[.int .i64 1, .int .i64 n, v] 29 (0, 0))
  ho : wr.ownsRow (bi + 1) 54 1 v k (cvals .f32 (realS (xs.take k)))

theorem BtA.store {xs : List Int} {n ba bb bi : Nat} {w wr : World} {k : Nat} {v : Value} (h : BtA xs n ba bb bi w k k v wr) (h1 : w.heap.size ≤ ba) (h2 : ba < bi) (h3 : ba ≠ bb) :
    BtA xs n ba bb bi w (k + 1) k v (wr.setCell ⟨ba, k, none⟩ (.int .i64 (xs.getD k 0 % 998244353))) := by
  refine ⟨h.hb.setCell (p := ⟨ba, k, none⟩) h1 _, ?_, (Below.heap_setCell _ _ _ _ (fun e => h3 e.symm)).trans h.hc, (Below.heap_setCell _ _ _ _ (by show bi ≠ ba; omega)).trans h.hi, ?_⟩
  · rw [← padTo_step]
    exact blk_setCell _ _ _ _ _ _ h.ha
  · exact ownsRow_setCell_other h.ho (by intro e; have := (h.ho.lt ba e).1; omega) _

theorem BtA.own_ne {xs : List Int} {n ba bb bi : Nat} {w wr : World} {ka k : Nat} {v : Value} (h : BtA xs n ba bb bi w ka k v wr) (i : Nat) (hi : i < bi + 1) : v.ownBlock ≠ some i := by
  intro e
  have := (h.ho.lt i e).1
  omega

/-- behind an append to the image's samples -/
def BtBox (xs : List Int) (n ba bb bi : Nat) (w : World) (ka : Nat) (v : Value) (w' : World) : Prop :=
  Below w.heap.size w w' ∧ w'.heap[ba]? = some (.cells (padTo xs ka) 3 (0, 0)) ∧ w'.heap[bb]? = some (.cells (padTo [] 0) 3 (0, 0)) ∧ w'.heap[bi]? = some (.cells #[.int .i64 1, .int .i64 n, v] 29 (0, 0))

theorem BtA.after {xs : List Int} {n ba bb bi : Nat} {w wr W w' : World} {ka k : Nat} {v : Value} (h : BtA xs n ba bb bi w ka k v wr) (o : Obj) (hW : W.heap = (wr.alloc o).heap) (e1 : W.os = wr.os) (e2 : W.tape = wr.tape) (e3 : W.output = wr.output) (hg : W.grownBy w' v.ownBlock)
    (h1 : ba < bi) (h2 : bb < bi) (h0 : w.heap.size ≤ bi) : BtBox xs n ba bb bi w ka v w' := by
  have hs : W.heap.size = wr.heap.size + 1 := by rw [hW]; simp
  have old : ∀ i, i < bi + 1 → i < wr.heap.size → w'.heap[i]? = wr.heap[i]? := by
    intro i hi hi'
    rw [hg.block i (by omega) (fun e => h.own_ne i hi e.symm), hW]
    exact Below.heap_alloc _ _ _ hi'
  have hb : Below w.heap.size w W := ⟨e1.trans h.hb.os, e2.trans h.hb.tape, e3.trans h.hb.output, by have := h.hb.size; omega, fun i hi => by rw [hW]; exact (Below.heap_alloc _ _ _ (Nat.lt_of_lt_of_le hi h.hb.size)).trans (h.hb.block i hi)⟩
  exact ⟨hb.grown hg hb.size (fun i e => by have := (h.ho.lt i e).1; omega), (old _ (by omega) (lt_of_block h.ha)).trans h.ha, (old _ (by omega) (lt_of_block h.hc)).trans h.hc, (old _ (by omega) (lt_of_block h.hi)).trans h.hi⟩

theorem BtA.next {xs : List Int} {n ba bb bi : Nat} {w w' : World} {ka k g cap' : Nat} {v : Value} (h : BtBox xs n ba bb bi w ka v w') (h1 : ba < bi) (h2 : bb < bi) (h0 : w.heap.size ≤ bi)
    (ho : w'.ownsRow (bi + 1) 54 1 (.slice (some ⟨g, 0, none⟩) (k + 1) cap') (k + 1) (cvals .f32 (realS (xs.take k)) ++ [.complex .f32 (enc Ieee.single (xs.getD k 0)) (enc Ieee.single 0)])) (hk : k < xs.length) :
    BtA xs n ba bb bi w ka (k + 1) (.slice (some ⟨g, 0, none⟩) (k + 1) cap') (w'.setCell ⟨bi, 2, none⟩ (.slice (some ⟨g, 0, none⟩) (k + 1) cap')) := by
  obtain ⟨hb, ha, hc, hi⟩ := h
  refine ⟨hb.setCell (p := ⟨bi, 2, none⟩) h0 _, (Below.heap_setCell _ _ _ _ (by show ba ≠ bi; omega)).trans ha, (Below.heap_setCell _ _ _ _ (by show bb ≠ bi; omega)).trans hc, ?_, ?_⟩
  · rw [heap_setCell_same _ _ _ _ _ _ hi]; rfl
  · rw [realS_take xs k hk]
    have hg := (ho.lt g rfl).1
    exact ownsRow_setCell_other ho (by simp [Value.ownBlock]; omega) _

/-- what holds while the code is laid: the line is laid, kb numbers of the code lie in their list, k in the code -/
structure BtB (xs ys : List Int) (n ba bb bi K : Nat) (iv : Value) (w : World) (kb k : Nat) (v : Value) (wr : World) : Prop where
  hb : Below w.heap.size w wr
  ha : wr.heap[ba]? = some (.cells (padTo xs n) 3 (0, 0))
  hc : wr.heap[bb]? = some (.cells (padTo ys kb) 3 (0, 0))
  hi : wr.heap[bi]? = some (.cells #[.int .i64 1, .int .i64 n, iv] 29 (0, 0))
  hr : wr.ownsRow (bi + 1) 54 1 iv n (cvals .f32 (realS xs))
  hK : bi + 1 ≤ K ∧ (∀ i, iv.ownBlock = some i → i < K) ∧ K ≤ wr.heap.size
  ho : wr.ownsRow K 54 1 v k (cvals .f32 (realS (ys.take k)))

theorem BtB.store {xs ys : List Int} {n ba bb bi K : Nat} {iv : Value} {w wr : World} {k : Nat} {v : Value} (h : BtB xs ys n ba bb bi K iv w k k v wr) (h1 : w.heap.size ≤ bb) (h2 : bb < bi) (h3 : ba ≠ bb) :
    BtB xs ys n ba bb bi K iv w (k + 1) k v (wr.setCell ⟨bb, k, none⟩ (.int .i64 (ys.getD k 0 % 998244353))) := by
  refine ⟨h.hb.setCell (p := ⟨bb, k, none⟩) h1 _, (Below.heap_setCell _ _ _ _ h3).trans h.ha, ?_, (Below.heap_setCell _ _ _ _ (by show bi ≠ bb; omega)).trans h.hi, ?_, ⟨h.hK.1, h.hK.2.1, by have := h.hK.2.2; simp [World.setCell]; omega⟩, ?_⟩
  · rw [← padTo_step]
    exact blk_setCell _ _ _ _ _ _ h.hc
  · exact ownsRow_setCell_other h.hr (by intro e; have := (h.hr.lt bb e).1; omega) _
  · exact ownsRow_setCell_other h.ho (by intro e; have := (h.ho.lt bb e).1; have := h.hK.1; omega) _

theorem BtB.next {xs ys : List Int} {n ba bb bi K : Nat} {iv : Value} {w wr W w' : World} {kb k : Nat} {v v' : Value} (h : BtB xs ys n ba bb bi K iv w kb k v wr) (o : Obj) (hW : W.heap = (wr.alloc o).heap) (e1 : W.os = wr.os) (e2 : W.tape = wr.tape) (e3 : W.output = wr.output) (hg : W.grownBy w' v.ownBlock)
    (h1 : ba < bi) (h2 : bb < bi) (h0 : w.heap.size ≤ bi)
    (ho : w'.ownsRow K 54 1 v' (k + 1) (cvals .f32 (realS (ys.take k)) ++ [.complex .f32 (enc Ieee.single (ys.getD k 0)) (enc Ieee.single 0)])) (hk : k < ys.length) :
    BtB xs ys n ba bb bi K iv w kb (k + 1) v' w' := by
  have hs : W.heap.size = wr.heap.size + 1 := by rw [hW]; simp
  obtain ⟨k1, k2, k3⟩ := h.hK
  have vne : ∀ i, i < K → v.ownBlock ≠ some i := fun i hi e => by have := (h.ho.lt i e).1; omega
  have old : ∀ i, i < K → w'.heap[i]? = wr.heap[i]? := by
    intro i hi
    rw [hg.block i (by omega) (fun e => vne i hi e.symm), hW]
    exact Below.heap_alloc _ _ _ (by omega)
  have hb : Below w.heap.size w W := ⟨e1.trans h.hb.os, e2.trans h.hb.tape, e3.trans h.hb.output, by have := h.hb.size; omega, fun i hi => by rw [hW]; exact (Below.heap_alloc _ _ _ (Nat.lt_of_lt_of_le hi h.hb.size)).trans (h.hb.block i hi)⟩
  refine ⟨hb.grown hg hb.size (fun i e => by have := (h.ho.lt i e).1; omega), (old _ (by omega)).trans h.ha, (old _ (by omega)).trans h.hc, (old _ (by omega)).trans h.hi, own_keep h.hr (fun i e => old i (k2 i e)), ⟨k1, k2, ?_⟩, by rw [realS_take ys k hk]; exact ho⟩
  have := hg.size
  omega
end Go.Proofs.Ytadajelonekpmaa
