import Derived.Test.YtadajelonekpmaaWg
namespace Go.Proofs.Ytadajelonekpmaa
open Go.RowKit Go.Proofs.Ytadajelonekpmaa.Flt

def NilOkS (v : Value) : Prop := ∃ a n c, v = .slice a n c

/-- a slice of a call: what it holds -/
structure Smp (k : FloatKind) (zs : List (Nat × Nat)) (W : World) (v : Value) : Prop where
  sl : Sl W v (cvals k zs)
theorem Smp.below {k : FloatKind} {zs : List (Nat × Nat)} {W W' : World} {v : Value} (h : Smp k zs W v) (hb : Below W.heap.size W W') : Smp k zs W' v := ⟨h.sl.below hb (Nat.le_refl _)⟩
structure Fls (k : FloatKind) (xs : List Nat) (W : World) (v : Value) : Prop where
  sl : Sl W v (fvals k xs)
theorem Fls.below {k : FloatKind} {xs : List Nat} {W W' : World} {v : Value} (h : Fls k xs W v) (hb : Below W.heap.size W W') : Fls k xs W' v := ⟨h.sl.below hb (Nat.le_refl _)⟩

/-- what a law's own image, or code, is -/
def ImgR (l s : Int) (zs : List (Nat × Nat)) (w : World) (e : Ending) (w' : World) : Prop :=
  ∃ v, e = .returned (.agg #[.int .i64 l, .int .i64 s, v]) ∧ Below w.heap.size w w' ∧ Smp .f32 zs w' v
def CodeR (zs : List (Nat × Nat)) (w : World) (e : Ending) (w' : World) : Prop :=
  ∃ v, e = .returned v ∧ Below w.heap.size w w' ∧ Smp .f32 zs w' v

theorem sl_setCell {W : World} {v : Value} {B n : Nat} {e : TypeId} {xs : List Value} (ho : W.ownsRow B e 1 v n xs) (a : Addr) (u : Value) (ha : a.block < B) : (W.setCell a u).ownsRow B e 1 v n xs :=
  ownsRow_setCell_other ho (by
    intro h
    rcases ho.2 with ⟨h1, -⟩ | ⟨g, cap, cur, h1, hg, -⟩
    · rw [h1] at h; cases h
    · rw [h1] at h
      have : g = a.block := by simpa [Value.ownBlock] using h
      omega) u

set_option maxRecDepth 100000 in
theorem lawImage_any (l s : Int) (pv cv : Value) (xs : List Nat) (w : World) (hp : Fls .f32 xs w pv) (hlen : xs.length ≤ 100000) :
    Calls Try.prog 7 #[.agg #[.int .i64 l, .int .i64 s, pv, cv]] w (ImgR l s (pairsOf xs) w) := by
  obtain ⟨W1, hW1⟩ : ∃ W1, W1 = (w.alloc (.cells #[.int .i64 l, .int .i64 s, pv, cv] 24)).alloc (.cells #[.int .i64 0, .int .i64 0, .slice none 0 0] 29) := ⟨_, rfl⟩
  have hb : Below w.heap.size w W1 := by rw [hW1]; exact ((Below.refl _ _).alloc (Nat.le_refl _) _).alloc (by simp) _
  have hs : W1.heap.size = w.heap.size + 2 := by rw [hW1]; simp
  have h3 : W1.heap[w.heap.size + 1]? = some (.cells #[.int .i64 0, .int .i64 0, .slice none 0 0] 29 (0, 0)) := by
    rw [hW1]
    have := heap_alloc_new (w.alloc (.cells #[.int .i64 l, .int .i64 s, pv, cv] 24)) (.cells #[.int .i64 0, .int .i64 0, .slice none 0 0] 29)
    rwa [World.size_alloc] at this
  have C := Lib.hid (Image_any l s pv xs W1 (hp.below hb).sl (by omega))
  have HB := Lib.hid (And.intro hb (And.intro hs h3))
  have HL : Hid ((pairsOf xs).length ≤ 1000000) := by unfold Hid; rw [pairsOf_length]; omega
  generalize pairsOf xs = zs at *
  obtain ⟨pa, pc, rfl, -, -⟩ := hp.sl
  generalize (fvals .f32 xs).length = np at *
  have HW1 := Lib.hid hW1
  clear hp hlen hb hs h3 hW1
  go_enter Try.func7, Try.ntmps7
  go_wp2_with fail
  rw [← HW1.out]
  refine C.out.mono ?_
  rintro e w2 ⟨v, rfl, hb2, ho⟩
  have hN : w2.heap[w.heap.size + 1]? = some (.cells #[.int .i64 0, .int .i64 0, .slice none 0 0] 29 (0, 0)) := (hb2.block _ (by rw [HB.out.2.1]; omega)).trans HB.out.2.2
  have HB2 := Lib.hid (HB.out.1.trans (hb2.mono (by rw [HB.out.2.1]; omega)))
  have HO := Lib.hid ho
  obtain ⟨va, vn, vc, rfl⟩ : ∃ va vn vc, v = .slice va vn vc := by
    rcases ho.2 with ⟨h, -⟩ | ⟨g, cp, -, h, -⟩
    · exact ⟨_, _, _, h⟩
    · exact ⟨_, _, _, h⟩
  clear hb2 ho
  obtain ⟨z0, z1, z2, y0, y1, y2, l3⟩ := three_cells hN
  clear hN
  go_wp2_with fail
  refine bodyPost_ret (v := .agg #[.int .i64 l, .int .i64 s, .slice va vn vc]) (by simp [results, Try.results7, go_sem, z0, z1, z2]) rfl ⟨.slice va vn vc, rfl, ?_, ⟨?_⟩⟩
  · exact ((HB2.out.setCell (p := ⟨w.heap.size + 1, 0, none⟩) (by show w.heap.size ≤ w.heap.size + 1; omega) _).setCell (p := ⟨w.heap.size + 1, 1, none⟩) (by show w.heap.size ≤ w.heap.size + 1; omega) _).setCell (p := ⟨w.heap.size + 1, 2, none⟩) (by show w.heap.size ≤ w.heap.size + 1; omega) _
  · have hs := HB.out.2.1
    exact Sl.of_owns (sl_setCell (sl_setCell (sl_setCell HO.out ⟨w.heap.size + 1, 0, none⟩ _ (by show w.heap.size + 1 < _; omega)) ⟨w.heap.size + 1, 1, none⟩ _ (by show w.heap.size + 1 < _; omega)) ⟨w.heap.size + 1, 2, none⟩ _ (by show w.heap.size + 1 < _; omega)) (by have := HL.out; omega)

set_option maxRecDepth 100000 in
theorem lawCode_any (l s : Int) (pv cv : Value) (cs : List Nat) (w : World) (hc : Fls .f32 cs w cv) (hlen : cs.length ≤ 100000) :
    Calls Try.prog 8 #[.agg #[.int .i64 l, .int .i64 s, pv, cv]] w (CodeR (pairsOf cs) w) := by
  obtain ⟨W1, hW1⟩ : ∃ W1, W1 = w.alloc (.cells #[.int .i64 l, .int .i64 s, pv, cv] 24) := ⟨_, rfl⟩
  have hb : Below w.heap.size w W1 := by rw [hW1]; exact (Below.refl _ _).alloc (Nat.le_refl _) _
  have C := Lib.hid (Image_any 0 0 cv cs W1 (hc.below hb).sl (by omega))
  have HB := Lib.hid hb
  have HL : Hid ((pairsOf cs).length ≤ 1000000) := by unfold Hid; rw [pairsOf_length]; omega
  generalize pairsOf cs = zs at *
  obtain ⟨pa, pc, rfl, -, -⟩ := hc.sl
  generalize (fvals .f32 cs).length = np at *
  have HW1 := Lib.hid hW1
  clear hc hlen hb hW1
  go_enter Try.func8, Try.ntmps8
  go_wp2_with fail
  rw [← HW1.out]
  refine C.out.mono ?_
  rintro e w2 ⟨v, rfl, hb2, ho⟩
  have HB2 := Lib.hid (HB.out.trans (hb2.mono HB.out.size))
  have HO := Lib.hid ho
  obtain ⟨va, vn, vc, rfl⟩ : ∃ va vn vc, v = .slice va vn vc := by
    rcases ho.2 with ⟨h, -⟩ | ⟨g, cp, -, h, -⟩
    · exact ⟨_, _, _, h⟩
    · exact ⟨_, _, _, h⟩
  clear hb2 ho
  have hfd : ∀ w : World, (Instr.field 29 (.agg #[.int .i64 0, .int .i64 0, .slice va vn vc]) 2).run Try.prog w = .ok (.slice va vn vc) w := fun _ => by kernel_rfl
  go_wp2_with fail
  go_ret
  exact ⟨_, rfl, HB2.out, ⟨Sl.of_owns HO.out (by have := HL.out; omega)⟩⟩

def SmallB (np nc : Nat) : Bool := (decide (np ≤ 500) || decide (8192 < np) && decide (np ≤ 8196)) && decide (nc ≤ 70)

set_option maxRecDepth 100000 in
theorem Small_any (l s : Int) (pv cv : Value) (xs cs : List Nat) (w : World) (hp : Fls .f32 xs w pv) (hc : Fls .f32 cs w cv) :
    Calls Try.prog 6 #[.agg #[.int .i64 l, .int .i64 s, pv, cv]] w fun e w' => e = .returned (.bool (SmallB xs.length cs.length)) ∧ Below w.heap.size w w' := by
  obtain ⟨pa, pc, rfl, lp, -⟩ := hp.sl
  obtain ⟨ca, cc, rfl, lc, -⟩ := hc.sl
  have ex : (fvals .f32 xs).length = xs.length := by simp [fvals]
  have ey : (fvals .f32 cs).length = cs.length := by simp [fvals]
  rw [ex] at lp ⊢
  rw [ey] at lc ⊢
  clear hp hc ex ey
  generalize xs.length = np at *
  generalize cs.length = nc at *
  obtain ⟨R, hR⟩ : ∃ R, R = SmallB np nc := ⟨_, rfl⟩
  rw [← hR]
  unfold SmallB at hR
  have hw : (np ≤ 500 ∧ nc ≤ 70 ∧ Hid (R = true)) ∨ (np ≤ 500 ∧ ¬ nc ≤ 70 ∧ Hid (R = false)) ∨ (¬ np ≤ 500 ∧ 8192 < np ∧ np ≤ 8196 ∧ nc ≤ 70 ∧ Hid (R = true)) ∨ (¬ np ≤ 500 ∧ 8192 < np ∧ np ≤ 8196 ∧ ¬ nc ≤ 70 ∧ Hid (R = false)) ∨ (¬ np ≤ 500 ∧ 8192 < np ∧ ¬ np ≤ 8196 ∧ Hid (R = false)) ∨ (¬ np ≤ 500 ∧ ¬ 8192 < np ∧ Hid (R = false)) := by
    unfold Hid
    by_cases h1 : np ≤ 500
    · by_cases h2 : nc ≤ 70
      · left; exact ⟨h1, h2, by rw [hR]; simp [h1, h2]⟩
      · right; left; exact ⟨h1, h2, by rw [hR]; simp [h2]⟩
    · right; right
      by_cases h2 : 8192 < np
      · by_cases h3 : np ≤ 8196
        · by_cases h4 : nc ≤ 70
          · left; exact ⟨h1, h2, h3, h4, by rw [hR]; simp [h2, h3, h4]⟩
          · right; left; exact ⟨h1, h2, h3, h4, by rw [hR]; simp [h4]⟩
        · right; right; left; exact ⟨h1, h2, h3, by rw [hR]; simp [h1, h3]⟩
      · right; right; right; exact ⟨h1, h2, by rw [hR]; simp [h1, h2]⟩
  clear hR
  rcases hw with ⟨h1, h2, HR⟩ | ⟨h1, h2, HR⟩ | ⟨h1, h2, h3, h4, HR⟩ | ⟨h1, h2, h3, h4, HR⟩ | ⟨h1, h2, h3, HR⟩ | ⟨h1, h2, HR⟩
  all_goals
    go_enter Try.func6, Try.ntmps6
    go_wp2_with fail
    go_ret
    exact ⟨by first | (rw [HR.out]; simp; omega) | (rw [HR.out]; simp; done) | (rw [HR.out] <;> rfl), (Below.refl _ _).alloc (Nat.le_refl _) _⟩
end Go.Proofs.Ytadajelonekpmaa
