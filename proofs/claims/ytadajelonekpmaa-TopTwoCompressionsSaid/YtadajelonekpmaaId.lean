import Derived.Test.YtadajelonekpmaaIc
namespace Go.Proofs.Ytadajelonekpmaa
open Go.RowKit Go.Proofs.Ytadajelonekpmaa.Flt

/-- a slice of samples whose cap is right -/
structure SmpC (zs : List (Nat × Nat)) (W : World) (v : Value) : Prop where
  sl : Sl W v (cvals .f32 zs)
  cap : ∀ a m c, v = .slice a m c → m ≤ c ∧ c ≤ 9223372036854775807
theorem SmpC.below {zs : List (Nat × Nat)} {W W' : World} {v : Value} (h : SmpC zs W v) (hb : Below W.heap.size W W') : SmpC zs W' v := ⟨h.sl.below hb (Nat.le_refl _), h.cap⟩
theorem cap_of_owns {W : World} {v : Value} {B n k : Nat} {e : TypeId} {xs : List Value} (ho : W.ownsRow B e k v n xs) : ∀ a m c, v = .slice a m c → m ≤ c ∧ c ≤ 9223372036854775807 := by
  intro a m c hv
  rcases ho.2 with ⟨h, -⟩ | ⟨g, cap, cur, h, -, -, h1, h2, -⟩
  · rw [h] at hv; cases hv; exact ⟨Nat.le_refl _, by decide⟩
  · rw [h] at hv; cases hv; exact ⟨h1, by unfold maxLen at h2; omega⟩

set_option maxRecDepth 100000 in
/-- the law's image, with its cap -/
theorem lawImageC_any (l s : Int) (pv cv : Value) (xs : List Nat) (w : World) (hp : Fls .f32 xs w pv) (hlen : xs.length ≤ 100000) :
    Calls Try.prog 7 #[.agg #[.int .i64 l, .int .i64 s, pv, cv]] w fun e w' => ∃ v, e = .returned (.agg #[.int .i64 l, .int .i64 s, v]) ∧ Below w.heap.size w w' ∧ SmpC (pairsOf xs) w' v := by
  obtain ⟨W1, hW1⟩ : ∃ W1, W1 = (w.alloc (.cells #[.int .i64 l, .int .i64 s, pv, cv] 24)).alloc (.cells #[.int .i64 0, .int .i64 0, .slice none 0 0] 29) := ⟨_, rfl⟩
  have hb : Below w.heap.size w W1 := by rw [hW1]; exact ((Below.refl _ _).alloc (Nat.le_refl _) _).alloc (by simp) _
  have hs : W1.heap.size = w.heap.size + 2 := by rw [hW1]; simp
  have h3 : W1.heap[w.heap.size + 1]? = some (.cells #[.int .i64 0, .int .i64 0, .slice none 0 0] 29 (0, 0)) := by
    rw [hW1]
    have := heap_alloc_new (w.alloc (.cells #[.int .i64 l, .int .i64 s, pv, cv] 24)) (.cells #[.int .i64 0, .int .i64 0, .slice none 0 0] 29)
    rwa [World.size_alloc] at this
  have C := Lib.hid (Image_any l s pv xs W1 (hp.below hb).sl (by omega))
  have HB := Lib.hid (And.intro hb (And.intro hs h3))
  have HL : Hid ((pairsOf xs).length ≤ 1000000) := by unfold Hid; rw [pairsOf_length]; omega
  generalize pairsOf xs = zs at *
  obtain ⟨pa, pc, rfl, -, -⟩ := hp.sl
  generalize (fvals .f32 xs).length = np at *
  have HW1 := Lib.hid hW1
  clear hp hlen hb hs h3 hW1
  go_enter Try.func7, Try.ntmps7
  go_wp2_with fail
  rw [← HW1.out]
  refine C.out.mono ?_
  rintro e w2 ⟨v, rfl, hb2, ho⟩
  have hN : w2.heap[w.heap.size + 1]? = some (.cells #[.int .i64 0, .int .i64 0, .slice none 0 0] 29 (0, 0)) := (hb2.block _ (by rw [HB.out.2.1]; omega)).trans HB.out.2.2
  have HB2 := Lib.hid (HB.out.1.trans (hb2.mono (by rw [HB.out.2.1]; omega)))
  have HO := Lib.hid ho
  obtain ⟨va, vn, vc, rfl⟩ : ∃ va vn vc, v = .slice va vn vc := by
    rcases ho.2 with ⟨h, -⟩ | ⟨g, cp, -, h, -⟩
    · exact ⟨_, _, _, h⟩
    · exact ⟨_, _, _, h⟩
  clear hb2 ho
  obtain ⟨z0, z1, z2, y0, y1, y2, l3⟩ := three_cells hN
  clear hN
  go_wp2_with fail
  refine bodyPost_ret (v := .agg #[.int .i64 l, .int .i64 s, .slice va vn vc]) (by simp [results, Try.results7, go_sem, z0, z1, z2]) rfl ⟨.slice va vn vc, rfl, ?_, ⟨?_, cap_of_owns HO.out⟩⟩
  · exact ((HB2.out.setCell (p := ⟨w.heap.size + 1, 0, none⟩) (by show w.heap.size ≤ w.heap.size + 1; omega) _).setCell (p := ⟨w.heap.size + 1, 1, none⟩) (by show w.heap.size ≤ w.heap.size + 1; omega) _).setCell (p := ⟨w.heap.size + 1, 2, none⟩) (by show w.heap.size ≤ w.heap.size + 1; omega) _
  · have hs := HB.out.2.1
    exact Sl.of_owns (sl_setCell (sl_setCell (sl_setCell HO.out ⟨w.heap.size + 1, 0, none⟩ _ (by show w.heap.size + 1 < _; omega)) ⟨w.heap.size + 1, 1, none⟩ _ (by show w.heap.size + 1 < _; omega)) ⟨w.heap.size + 1, 2, none⟩ _ (by show w.heap.size + 1 < _; omega)) (by have := HL.out; omega)


end Go.Proofs.Ytadajelonekpmaa
