import Derived.Test.YtmiaglkkjncfnaaDoorMa
import Derived.Deep.RegionHeld3
namespace Go.Proofs.YtmiaglkkjncfnaaDoor
open Go.RowKit Go.Proofs.YtmiaglkkjncfnaaDoor.Flt

set_option maxRecDepth 100000 in
theorem beyond64_any (n : Int) (w : World) : Calls Tryd.prog 49 #[.int .i64 n, .int .i64 64] w fun e w' => e = .returned (.bool (decide (n < -64 ∨ 64 < n))) ∧ w = w' := by
  by_cases h1 : n < -64
  · rw [decide_eq_true (.inl h1)]
    go_enter Tryd.func49, Tryd.ntmps49
    go_wp2_with fail
    go_ret
    exact ⟨rfl, rfl⟩
  · by_cases h2 : 64 < n
    · rw [decide_eq_true (.inr h2)]
      go_enter Tryd.func49, Tryd.ntmps49
      go_wp2_with fail
      go_ret
      exact ⟨rfl, rfl⟩
    · rw [decide_eq_false (by omega)]
      go_enter Tryd.func49, Tryd.ntmps49
      go_wp2_with fail
      go_ret
      exact ⟨rfl, rfl⟩

def shList (zs : List (Nat × Nat)) (L S : Nat) (a b : Int) (k : Nat) : List (Nat × Nat) := (List.range (L * S)).map (shAt zs L S a b k)
theorem shList_length (zs : List (Nat × Nat)) (L S : Nat) (a b : Int) (k : Nat) : (shList zs L S a b k).length = L * S := by simp [shList]
theorem shList_get (zs : List (Nat × Nat)) (L S : Nat) (a b : Int) (k t : Nat) (h : t < L * S) : (shList zs L S a b k).getD t (0, 0) = shAt zs L S a b k t := by
  simp [shList, List.getD_eq_getElem?_getD, List.getElem?_range h]
theorem shList_zero (zs : List (Nat × Nat)) (L S : Nat) (a b : Int) : cvals .f32 (shList zs L S a b 0) = List.replicate (L * S) (.complex .f32 0 0) := by
  refine List.eq_replicate_iff.2 ⟨by simp [cvals, shList], fun x hx => ?_⟩
  unfold cvals shList at hx
  rw [List.map_map] at hx
  obtain ⟨t, -, rfl⟩ := List.mem_map.1 hx
  show Value.complex .f32 (shAt zs L S a b 0 t).1 (shAt zs L S a b 0 t).2 = _
  rw [shAt_zero]
theorem shList_none {zs : List (Nat × Nat)} {L S : Nat} {a b : Int} {k : Nat} (hS : 0 < S) (hk : k < L * S) (h : shDst L S a b k = none) : shList zs L S a b (k + 1) = shList zs L S a b k := by
  unfold shList
  apply List.map_congr_left
  intro t ht
  rw [shAt_step zs hS hk (List.mem_range.1 ht), h, if_neg (by simp)]
theorem shList_some {zs : List (Nat × Nat)} {L S : Nat} {a b : Int} {k d : Nat} (hS : 0 < S) (hk : k < L * S) (h : shDst L S a b k = some d) :
    cvals .f32 (shList zs L S a b (k + 1)) = (cvals .f32 (shList zs L S a b k)).set d (.complex .f32 (enc Ieee.single (re .f32 zs k)) (enc Ieee.single (im .f32 zs k))) := by
  apply List.ext_getElem
  · simp [cvals, shList]
  · intro t h1 h2
    have ht : t < L * S := by simpa [cvals, shList] using h1
    rw [List.getElem_set]
    simp only [cvals, shList, List.getElem_map, List.getElem_range]
    rw [shAt_step zs hS hk ht, h]
    by_cases hd : d = t
    · subst hd; rw [if_pos rfl, if_pos rfl]
    · rw [if_neg (by simpa using hd), if_neg hd]

/-- what holds at the head of the loop that moves samples -/
structure ShInv (zs : List (Nat × Nat)) (L S n : Nat) (a b : Int) (iad : Option Addr) (icap G g : Nat) (w : World) (k : Nat) (wr : World) : Prop where
  h0 : wr.heap[w.heap.size]? = some (.cells #[.int .i64 L, .int .i64 S, .slice iad n icap] 50 (0, 0))
  h1 : wr.heap[w.heap.size + 1]? = some (.cells #[.int .i64 a, .int .i64 b] 59 (0, 0))
  h2 : wr.heap[w.heap.size + 1 + 1]? = some (.cells #[.int .i64 0, .int .i64 0, .slice none 0 0] 50 (0, 0))
  h3 : wr.heap[G]? = some (.cells #[.int .i64 L, .int .i64 S, .slice (some ⟨g, 0, none⟩) n n] 50 (0, 0))
  hb : Below w.heap.size w wr
  ho : wr.ownsRow w.heap.size 70 1 (.slice (some ⟨g, 0, none⟩) n n) n (cvals .f32 (shList zs L S a b k))
theorem ShInv.ne {zs : List (Nat × Nat)} {L S n : Nat} {a b : Int} {iad : Option Addr} {icap G g : Nat} {w wr : World} {k : Nat} (h : ShInv zs L S n a b iad icap G g w k wr) : G ≠ g := by
  intro e
  have h1 := h.h3
  rcases h.ho.2 with ⟨h2, -⟩ | ⟨g', cap, cur, h2, -, h3, -⟩
  · cases h2
  · cases h2
    rw [e, h3] at h1
    injection h1 with h1
    injection h1 with _ h1 _
    exact absurd h1 (by decide)
theorem ShInv.next {zs : List (Nat × Nat)} {L S n : Nat} {a b : Int} {iad : Option Addr} {icap G g : Nat} {w wr : World} {k q d : Nat} {X Y : Nat} (h : ShInv zs L S n a b iad icap G g w k wr) (hG : G ≠ g) (hg : w.heap.size + 1 + 1 < g)
    (e : cvals .f32 (shList zs L S a b (k + 1)) = (cvals .f32 (shList zs L S a b k)).set d (.complex .f32 X Y)) :
    ShInv zs L S n a b iad icap G g w (k + 1) ((wr.drewN q).setCell ⟨g, d, none⟩ (.complex .f32 X Y)) := by
  have old : ∀ i, i ≠ g → ((wr.drewN q).setCell ⟨g, d, none⟩ (.complex .f32 X Y)).heap[i]? = wr.heap[i]? := fun i hne => Below.heap_setCell _ _ _ _ hne
  refine ⟨(old _ (by omega)).trans h.h0, (old _ (by omega)).trans h.h1, (old _ (by omega)).trans h.h2, (old _ hG).trans h.h3, ?_, ?_⟩
  · exact ((h.hb.trans (below_drewN' _ _ q)).setCell (p := ⟨g, d, none⟩) (by show w.heap.size ≤ g; omega) _)
  · have h2 : (wr.drewN q).ownsRow w.heap.size 70 1 (.slice (some ⟨g, 0, none⟩) n n) n (cvals .f32 (shList zs L S a b k)) := h.ho
    rw [e]
    exact (h2.stored d _).1
theorem ShInv.drewN {zs : List (Nat × Nat)} {L S n : Nat} {a b : Int} {iad : Option Addr} {icap G g : Nat} {w wr : World} {k : Nat} (h : ShInv zs L S n a b iad icap G g w k wr) (q : Nat) : ShInv zs L S n a b iad icap G g w k (wr.drewN q) :=
  ⟨h.h0, h.h1, h.h2, h.h3, h.hb.trans (below_drewN' _ _ q), h.ho⟩

/-- the error of a shift -/
def shErr (l s : Int) (zs : List (Nat × Nat)) (a b : Int) : Int := if (dataErr .f32 2047 l s zs).2 ≠ 0 then (dataErr .f32 2047 l s zs).2 else if (a < -64 ∨ 64 < a) ∨ (b < -64 ∨ 64 < b) then 2 else 0

set_option maxRecDepth 100000 in
set_option maxHeartbeats 1000000 in
theorem Shifted_bad (l s : Int) (iv : Value) (zs : List (Nat × Nat)) (a b : Int) (w : World) (hl : I64 l) (hs : I64 s) (hiv : Sl w iv (cvals .f32 zs)) (h : shErr l s zs a b ≠ 0) :
    Calls Tryd.prog 18 #[.agg #[.int .i64 l, .int .i64 s, iv], .agg #[.int .i64 a, .int .i64 b]] w fun e w' => e = .returned (.tuple #[.agg #[.int .i64 0, .int .i64 0, .slice none 0 0], .int .i64 (shErr l s zs a b)]) ∧ Below w.heap.size w w' := by
  obtain ⟨W0, hW0⟩ : ∃ W0, W0 = ((w.alloc (.cells #[.int .i64 l, .int .i64 s, iv] 50)).alloc (.cells #[.int .i64 a, .int .i64 b] 59)).alloc (.cells #[.int .i64 0, .int .i64 0, .slice none 0 0] 50) := ⟨_, rfl⟩
  have hB0 : Below w.heap.size w W0 := by rw [hW0]; exact (((Below.refl _ _).alloc (Nat.le_refl _) _).alloc (by simp) _).alloc (by simp; omega) _
  have C1 := Lib.hid (CheckImage_any l s iv zs W0 hl hs (hiv.below hB0 (Nat.le_refl _)))
  obtain ⟨iad, icap, rfl, hil, -⟩ := hiv
  generalize (cvals .f32 zs).length = n at *
  obtain ⟨a0, a1, a2⟩ := alloc3_blocks w (.cells #[.int .i64 l, .int .i64 s, .slice iad n icap] 50) (.cells #[.int .i64 a, .int .i64 b] 59) (.cells #[.int .i64 0, .int .i64 0, .slice none 0 0] 50)
  rw [← hW0] at a0 a1 a2
  have HB0 := Lib.hid (And.intro hB0 (And.intro a0 (And.intro a1 a2)))
  have HW0 := Lib.hid hW0
  have B1 := Lib.hid (fun w => beyond64_any a w)
  have B2 := Lib.hid (fun w => beyond64_any b w)
  have HE : Hid (shErr l s zs a b = if (dataErr .f32 2047 l s zs).2 ≠ 0 then (dataErr .f32 2047 l s zs).2 else if (a < -64 ∨ 64 < a) ∨ (b < -64 ∨ 64 < b) then 2 else 0) := rfl
  generalize shErr l s zs a b = E at *
  generalize (dataErr .f32 2047 l s zs).1 = D1 at *
  generalize (dataErr .f32 2047 l s zs).2 = D2 at *
  have hw : ((D2 != 0) = true ∧ Hid (E = D2)) ∨ ((D2 != 0) = false ∧ (a < -64 ∨ 64 < a) ∧ Hid (E = 2)) ∨ ((D2 != 0) = false ∧ ¬ (a < -64 ∨ 64 < a) ∧ (b < -64 ∨ 64 < b) ∧ Hid (E = 2)) := by
    have := HE.out
    by_cases h1 : D2 = 0
    · rw [if_neg (fun c => c h1)] at this
      have hd : (D2 != 0) = false := by rw [h1]; rfl
      by_cases h2 : a < -64 ∨ 64 < a
      · rw [if_pos (.inl h2)] at this; exact .inr (.inl ⟨hd, h2, this⟩)
      · by_cases h3 : b < -64 ∨ 64 < b
        · rw [if_pos (.inr h3)] at this; exact .inr (.inr ⟨hd, h2, h3, this⟩)
        · rw [if_neg (by omega)] at this; exact absurd this h
    · rw [if_pos h1] at this
      exact .inl ⟨by rw [bne_iff_ne]; exact h1, this⟩
  clear hB0 a0 a1 a2 hW0 HE h hl hs
  rcases hw with ⟨h1, HF⟩ | ⟨h1, h2, HF⟩ | ⟨h1, h2, h3, HF⟩
  all_goals
    rw [HF.out]
    first
      | rw [decide_eq_true h2] at B1
      | (rw [decide_eq_false h2] at B1; rw [decide_eq_true h3] at B2)
      | skip
    go_enter Tryd.func18, Tryd.ntmps18
    go_wp2_with fail
    rw [← HW0.out]
    refine C1.out.mono ?_
    rintro e w1 ⟨rfl, hb⟩
    have HB1 := Lib.hid (HB0.out.1.trans (hb.mono HB0.out.1.size))
    have HN1 : Hid (w1.heap[w.heap.size + 1]? = some (.cells #[.int .i64 a, .int .i64 b] 59 (0, 0)) ∧ w1.heap[w.heap.size + 1 + 1]? = some (.cells #[.int .i64 0, .int .i64 0, .slice none 0 0] 50 (0, 0))) :=
      ⟨(hb.block _ (lt_of_block HB0.out.2.2.1)).trans HB0.out.2.2.1, (hb.block _ (lt_of_block HB0.out.2.2.2)).trans HB0.out.2.2.2⟩
    clear hb HB0
    obtain ⟨k0, k1, -, -, l1⟩ := two_cells HN1.out.1
    obtain ⟨z0, z1, z2, y0, y1, y2, l2⟩ := three_cells HN1.out.2
    go_wp2_with fail
  · exact bodyPost_ret (v := .tuple #[.agg #[.int .i64 0, .int .i64 0, .slice none 0 0], .int .i64 D2]) (by simp [results, Tryd.results18, go_sem, z0, z1, z2]) rfl ⟨rfl, Below.set3 HB1.out (by omega) _ _ _⟩
  · refine (B1.out _).mono ?_
    rintro e w' ⟨rfl, rfl⟩
    go_wp2_with fail
    exact bodyPost_ret (v := .tuple #[.agg #[.int .i64 0, .int .i64 0, .slice none 0 0], .int .i64 2]) (by simp [results, Tryd.results18, go_sem, z0, z1, z2]) rfl ⟨rfl, Below.set3 HB1.out (by omega) _ _ _⟩
  · refine (B1.out _).mono ?_
    rintro e w' ⟨rfl, rfl⟩
    go_wp2_with fail
    refine (B2.out _).mono ?_
    rintro e w' ⟨rfl, rfl⟩
    go_wp2_with fail
    exact bodyPost_ret (v := .tuple #[.agg #[.int .i64 0, .int .i64 0, .slice none 0 0], .int .i64 2]) (by simp [results, Tryd.results18, go_sem, z0, z1, z2]) rfl ⟨rfl, Below.set3 HB1.out (by omega) _ _ _⟩
end Go.Proofs.YtmiaglkkjncfnaaDoor
