import Derived.Test.YtadajelonekpmaaLa
import Derived.Test.YtadajelonekpmaaCa
namespace Go.Proofs.Ytadajelonekpmaa
open Go.RowKit Go.Proofs.Ytadajelonekpmaa.Flt

/-- a sum of two samples of whole parts -/
theorem run_add32 {P : Program} (t : TypeId) {x y u v : Nat} {a b c d : Int} (hx : Rep Ieee.single x a) (hy : Rep Ieee.single y b) (hu : Rep Ieee.single u c) (hv : Rep Ieee.single v d) (ha : a.natAbs ≤ 2047) (hb : b.natAbs ≤ 2047) (hc : c.natAbs ≤ 2047) (hd : d.natAbs ≤ 2047) :
    ∃ p q, (∀ w, (binOp .add t (.complex .f32 x y) (.complex .f32 u v)).run P w = .ok (.complex .f32 p q) w) ∧ Rep Ieee.single p (a + c) ∧ Rep Ieee.single q (b + d) := by
  obtain ⟨p, e1, r1, -⟩ := add_rep good_single hx hu (Nat.le_trans ha (by decide)) (Nat.le_trans hc (by decide)) (by show (a + c).natAbs ≤ 2 ^ 24; omega)
  obtain ⟨q, e2, r2, -⟩ := add_rep good_single hy hv (Nat.le_trans hb (by decide)) (Nat.le_trans hd (by decide)) (by show (b + d).natAbs ≤ 2 ^ 24; omega)
  refine ⟨p, q, fun w => ?_, r1, r2⟩
  refine run_complex_sum w .add (.inl rfl) t .f32 _ _ _ _ _ _ ?_
  unfold cSumBits
  have h1 : floatBits .add .f32 x u = some p := e1
  have h2 : floatBits .add .f32 y v = some q := e2
  rw [h1, h2]
  rfl

set_option maxRecDepth 100000 in
theorem plainPart_any (x : Nat) (a : Int) (hx : Rep Ieee.single x a) (ha : a.natAbs ≤ 2 ^ 24) (w : World) :
    Calls Try.prog 42 #[.float .f32 x] w fun e w' => e = .returned (.float .f32 (enc Ieee.single a)) ∧ w = w' := by
  have ho : (FloatKind.f32.format.order x 0 == some .eq) = decide (a = 0) := by
    have h0 : Rep Ieee.single 0 0 := .inl (enc_zero _).symm
    have := order_rep good_single hx h0 ha (by decide)
    have h2 : FloatKind.f32.format.order x 0 = some (compare a 0) := this
    rw [h2]
    simp only [compare, compareOfLessAndEq]
    by_cases h1 : a < 0
    · rw [if_pos h1, decide_eq_false (by omega)]; rfl
    · by_cases h3 : a = 0
      · rw [if_neg h1, if_pos h3, decide_eq_true h3]; rfl
      · rw [if_neg h1, if_neg h3, decide_eq_false h3]; rfl
  by_cases h : a = 0
  · subst h
    rw [decide_eq_true rfl] at ho
    have HE : Hid (enc Ieee.single 0 = 0) := enc_zero _
    generalize enc Ieee.single 0 = y at *
    clear hx ha
    go_enter Try.func42, Try.ntmps42
    go_wp2_with fail
    go_ret
    exact ⟨by rw [HE.out] <;> rfl, rfl⟩
  · rw [decide_eq_false h] at ho
    have hx2 : x = enc Ieee.single a := by
      rcases hx with hx | ⟨h0, -⟩
      · exact hx
      · exact absurd h0 h
    rw [← hx2]
    clear hx2 hx ha h
    go_enter Try.func42, Try.ntmps42
    go_wp2_with fail
    go_ret
    exact ⟨rfl, rfl⟩

set_option maxRecDepth 100000 in
theorem plain_any (x y : Nat) (a b : Int) (hx : Rep Ieee.single x a) (hy : Rep Ieee.single y b) (ha : a.natAbs ≤ 2 ^ 24) (hb : b.natAbs ≤ 2 ^ 24) (w : World) :
    Calls Try.prog 31 #[.complex .f32 x y] w fun e w' => e = .returned (.complex .f32 (enc Ieee.single a) (enc Ieee.single b)) ∧ w = w' := by
  have C1 := Lib.hid (fun w => plainPart_any x a hx ha w)
  have C2 := Lib.hid (fun w => plainPart_any y b hy hb w)
  generalize enc Ieee.single a = p at *
  generalize enc Ieee.single b = q at *
  clear hx hy ha hb
  go_enter Try.func31, Try.ntmps31
  go_wp2_with fail
  refine (C1.out _).mono ?_
  rintro e w' ⟨rfl, rfl⟩
  go_wp2_with fail
  refine (C2.out _).mono ?_
  rintro e w' ⟨rfl, rfl⟩
  go_wp2_with fail
  go_ret
  exact ⟨rfl, rfl⟩

theorem info79k : (Try.prog.info? 54).map (fun i => (i.zero, i.size, i.bytes)) = some (some (.complex .f32 0 0), 1, 8) := by kernel_rfl

/-- an image of n zeros, new -/
def NewZeros32 (N : Nat) (l s n : Nat) (w : World) (e : Ending) (w' : World) : Prop :=
  ∃ g, e = .returned (.agg #[.int .i64 l, .int .i64 s, .slice (some ⟨g, 0, none⟩) n n]) ∧ N ≤ g ∧ Below N w w' ∧ w'.ownsRow N 54 1 (.slice (some ⟨g, 0, none⟩) n n) n (List.replicate n (.complex .f32 0 0))

set_option maxRecDepth 100000 in
theorem newImage_any (l s : Nat) (hl : l ≤ 64) (hs : s ≤ 64) (w : World) :
    Calls Try.prog 30 #[.int .i64 l, .int .i64 s] w (NewZeros32 w.heap.size l s (l * s) w) := by
  obtain ⟨i0, hi, hz0, hz1, hz2⟩ := info_parts info79k
  have hp : l * s ≤ 4096 := Nat.le_trans (Nat.mul_le_mul hl hs) (by decide)
  have hm : wrap64 ((l : Int) * s) = ((l * s : Nat) : Int) := by
    rw [IntWalk.wrap64_in]
    · exact (Int.natCast_mul l s).symm
    · rw [← Int.natCast_mul]; omega
  generalize l * s = n at *
  clear hl hs
  go_enter Try.func30, Try.ntmps30
  go_wp2_with (at_make; refine wpList_make_full _ rfl _ _ 27 rfl w.heap.size 54 i0 (.complex .f32 0 0) 1 Try.underlying27 hi hz0 hz1 .i64 .i64 _ _ n rfl rfl ?c1 ?c2 ?c3 ?c4 ?c5 ?_)
  case c1 => first | rfl | exact hm
  case c2 => first | rfl | exact hm
  case c3 => rw [hz2]; omega
  case c4 => unfold maxLen; omega
  case c5 => simp
  intro w1 hown hgrow
  have hN : w1.heap[w.heap.size]? = some (.cells #[.int .i64 0, .int .i64 0, .slice none 0 0] 29 (0, 0)) := by
    rw [hgrow.block _ (by simp) (by simp)]
    exact heap_alloc_new _ _
  obtain ⟨c0, c1, c2, f0, f1, f2, hlt⟩ := three_cells hN
  have hlist : (madeCells #[Value.complex .f32 0 0] n).toList = List.replicate n (.complex .f32 0 0) := toList_madeCells_one _ _
  rw [hlist] at hown
  have HO := Lib.hid hown
  have HB : Below w.heap.size w w1 := ((Below.refl _ _).alloc (Nat.le_refl _) _).grown hgrow (by simp) (by intro k h; cases h)
  have hsz : Hid (w.heap.size < w1.heap.size) := hlt
  clear hown hgrow hlist hN hm hi hz0 hz1 hz2 hlt
  go_wp2_with fail
  refine bodyPost_ret (v := .agg #[.int .i64 l, .int .i64 s, .slice (some ⟨w.heap.size + 1, 0, none⟩) n n]) (by simp [results, Try.results30, go_sem, c0, c1, c2]) rfl ⟨w.heap.size + 1, rfl, by omega, ?_, ?_⟩
  · exact ((HB.setCell (Nat.le_refl _) _).setCell (Nat.le_refl _) _).setCell (Nat.le_refl _) _
  · exact ownsRow_setCell_other (ownsRow_setCell_other (ownsRow_setCell_other HO.out (by simp [Value.ownBlock]) _) (by simp [Value.ownBlock]) _) (by simp [Value.ownBlock]) _
end Go.Proofs.Ytadajelonekpmaa
