import Derived.Test.YtmiaglkkjncfnaaDoorSb
import Derived.Test.YtmiaglkkjncfnaaDoorDd
namespace Go.Proofs.YtmiaglkkjncfnaaDoor
open Go.RowKit Go.Proofs.YtmiaglkkjncfnaaDoor.Flt

/-- what a law's own field is -/
def FldR (l s : Int) (zs : List (Nat × Nat)) (w : World) (e : Ending) (w' : World) : Prop :=
  ∃ v, e = .returned (.agg #[.int .i64 l, .int .i64 s, v]) ∧ Below w.heap.size w w' ∧ Smp .f64 zs w' v

/-- what holds at the head of the loop of sums -/
structure SumsInv (l s : Int) (pv cv : Value) (xs : List Nat) (w : World) (k : Nat) (v : Value) (wr : World) : Prop where
  hx : wr.heap[w.heap.size]? = some (.cells #[.int .i64 l, .int .i64 s, pv, cv] 25 (0, 0))
  h0 : wr.heap[w.heap.size + 1]? = some (.cells #[.int .i64 0, .int .i64 0, .slice none 0 0] 37 (0, 0))
  h1 : wr.heap[w.heap.size + 2]? = some (.cells #[.int .i64 l, .int .i64 s, v] 37 (0, 0))
  hb : Below w.heap.size w wr
  ho : wr.ownsRow (w.heap.size + 3) 57 1 v k (cvals .f64 ((pairsOf xs).take k))

theorem SumsInv.own_ne {l s : Int} {pv cv : Value} {xs : List Nat} {w wz : World} {k : Nat} {v : Value} (h : SumsInv l s pv cv xs w k v wz) (i : Nat) (hi : i < w.heap.size + 3) : v.ownBlock ≠ some i := by
  intro e
  have := (h.ho.lt i e).1
  omega

def SumsBox (l s : Int) (pv cv : Value) (w : World) (v : Value) (w' : World) : Prop :=
  w'.heap[w.heap.size]? = some (.cells #[.int .i64 l, .int .i64 s, pv, cv] 25 (0, 0)) ∧ w'.heap[w.heap.size + 1]? = some (.cells #[.int .i64 0, .int .i64 0, .slice none 0 0] 37 (0, 0)) ∧ w'.heap[w.heap.size + 2]? = some (.cells #[.int .i64 l, .int .i64 s, v] 37 (0, 0)) ∧ Below w.heap.size w w'

theorem SumsInv.after {l s : Int} {pv cv : Value} {xs : List Nat} {w wz W w' : World} {k : Nat} {v : Value} (h : SumsInv l s pv cv xs w k v wz) (o : Obj) (hW : W.heap = (wz.alloc o).heap) (e1 : W.os = wz.os) (e2 : W.tape = wz.tape) (e3 : W.output = wz.output) (hg : W.grownBy w' v.ownBlock) :
    SumsBox l s pv cv w v w' := by
  have hs : W.heap.size = wz.heap.size + 1 := by rw [hW]; simp
  have old : ∀ i, i < w.heap.size + 3 → i < wz.heap.size → w'.heap[i]? = wz.heap[i]? := by
    intro i hi hi'
    rw [hg.block i (by omega) (fun e => h.own_ne i hi e.symm), hW]
    exact Below.heap_alloc _ _ _ hi'
  have hb : Below w.heap.size w W := ⟨e1.trans h.hb.os, e2.trans h.hb.tape, e3.trans h.hb.output, by have := h.hb.size; omega, fun i hi => by rw [hW]; exact (Below.heap_alloc _ _ _ (Nat.lt_of_lt_of_le hi h.hb.size)).trans (h.hb.block i hi)⟩
  exact ⟨(old _ (by omega) (lt_of_block h.hx)).trans h.hx, (old _ (by omega) (lt_of_block h.h0)).trans h.h0, (old _ (by omega) (lt_of_block h.h1)).trans h.h1, hb.grown hg hb.size (fun i e => by have := (h.ho.lt i e).1; omega)⟩

theorem SumsInv.next {l s : Int} {pv cv : Value} {xs : List Nat} {w w' : World} {k g cap' X Y : Nat} {v : Value} (h : SumsBox l s pv cv w v w')
    (ho : w'.ownsRow (w.heap.size + 3) 57 1 (.slice (some ⟨g, 0, none⟩) (k + 1) cap') (k + 1) (cvals .f64 ((pairsOf xs).take k) ++ [.complex .f64 X Y])) (hX : X = xs.getD (2 * k) 0) (hY : Y = xs.getD (2 * k + 1) 0) (hk : k < xs.length / 2) :
    SumsInv l s pv cv xs w (k + 1) (.slice (some ⟨g, 0, none⟩) (k + 1) cap') (w'.setCell ⟨w.heap.size + 2, 2, none⟩ (.slice (some ⟨g, 0, none⟩) (k + 1) cap')) := by
  obtain ⟨hx, h0, h1, hb⟩ := h
  refine ⟨(Below.heap_setCell _ _ _ _ (by show w.heap.size ≠ w.heap.size + 2; omega)).trans hx, (Below.heap_setCell _ _ _ _ (by show w.heap.size + 1 ≠ w.heap.size + 2; omega)).trans h0, ?_, hb.setCell (p := ⟨w.heap.size + 2, 2, none⟩) (by show w.heap.size ≤ w.heap.size + 2; omega) _, ?_⟩
  · rw [heap_setCell_same _ _ _ _ _ _ h1]; rfl
  · have e : cvals .f64 ((pairsOf xs).take (k + 1)) = cvals .f64 ((pairsOf xs).take k) ++ [.complex .f64 X Y] := by
      rw [pairsOf_take xs k hk, ← hX, ← hY]; simp [cvals]
    rw [e]
    have hg := (ho.lt g rfl).1
    exact ownsRow_setCell_other ho (by simp [Value.ownBlock]; omega) _

theorem cap_owns {W : World} {v : Value} {B n k : Nat} {e : TypeId} {xs : List Value} (ho : W.ownsRow B e k v n xs) : ∀ a m c, v = .slice a m c → m ≤ c ∧ c ≤ 9223372036854775807 := by
  intro a m c hv
  rcases ho.2 with ⟨h, -⟩ | ⟨g, cap, cur, h, -, -, h1, h2, -⟩
  · rw [h] at hv; cases hv; exact ⟨Nat.le_refl _, by decide⟩
  · rw [h] at hv; cases hv; exact ⟨h1, by unfold maxLen at h2; omega⟩
/-- the same, with the cap of its slice -/
def FldRC (l s : Int) (zs : List (Nat × Nat)) (w : World) (e : Ending) (w' : World) : Prop :=
  ∃ v, e = .returned (.agg #[.int .i64 l, .int .i64 s, v]) ∧ Below w.heap.size w w' ∧ Smp .f64 zs w' v ∧ ∀ a m c, v = .slice a m c → m ≤ c ∧ c ≤ 9223372036854775807

set_option maxRecDepth 100000 in
set_option maxHeartbeats 4000000 in
theorem sumsC_any (l s : Int) (pv cv : Value) (xs : List Nat) (w : World) (hp : Fls .f64 xs w pv) (hlen : xs.length ≤ 100000) :
    Calls Tryd.prog 9 #[.agg #[.int .i64 l, .int .i64 s, pv, cv]] w (FldRC l s (pairsOf xs) w) := by
  obtain ⟨i0, hi, hz0, hz1, hz2⟩ := info_parts Tryd.info88
  have HC := Lib.hid hp.sl
  obtain ⟨ad, cap, rfl, hl, -⟩ := hp.sl
  obtain ⟨n, hn⟩ : ∃ n, n = (fvals .f64 xs).length := ⟨_, rfl⟩
  rw [← hn] at hl HC ⊢
  have hn' : n = xs.length := by rw [hn]; simp [fvals]
  have HL3 : Hid (n ≤ 100000) := by rw [Hid, hn']; exact hlen
  have HN := Lib.hid hn'
  clear hn hn' hlen hp
  go_enter Tryd.func9, Tryd.ntmps9
  go_wp2_with fail
  go_loopw [4] (fun i wr => ∃ k : Nat, 2 * k ≤ n ∧ i = .int .i64 ((2 * k : Nat) : Int) ∧ ∃ v, Hid (SumsInv l s (.slice ad n cap) cv xs w k v wr)) (fun i _ => n - (intOf i).toNat)
  case atStart =>
    obtain ⟨a1, a2, a3⟩ := alloc3_blocks w (.cells #[.int .i64 l, .int .i64 s, .slice ad n cap, cv] 25) (.cells #[.int .i64 0, .int .i64 0, .slice none 0 0] 37) (.cells #[.int .i64 l, .int .i64 s, .slice none 0 0] 37)
    exact ⟨0, Nat.zero_le _, rfl, .slice none 0 0, a1, a2, a3, (((Below.refl _ _).alloc (Nat.le_refl _) _).alloc (by simp) _).alloc (by simp; omega) _, World.ownsRow_nil _ _ _ _⟩
  case round =>
    obtain ⟨k, hk, rfl, v, IK⟩ := hrel
    obtain ⟨wz, rfl⟩ : ∃ wz : World, wz = wr := ⟨_, rfl⟩
    obtain ⟨t0, t1, t2, t3, tl⟩ := four_cells IK.out.hx
    obtain ⟨c0, c1, c2, f0, f1, f2, l1⟩ := three_cells IK.out.h1
    by_cases hlt : 2 * k + 1 < n
    · obtain ⟨-, b, off, rfl, hb, hcell⟩ := HC.out.at (by omega)
      have hx1 : 2 * k < xs.length := by have := HN.out; omega
      have hx2 : 2 * k + 1 < xs.length := by have := HN.out; omega
      have hbz : b < wz.heap.size := Nat.lt_of_lt_of_le hb IK.out.hb.size
      have d1 : wz.cell? ⟨b, off + 2 * k, none⟩ = some (.float .f64 (xs.getD (2 * k) 0)) := (IK.out.hb.cell (p := ⟨b, off + 2 * k, none⟩) hb).trans (hcell _ _ (fvals_get hx1))
      have d2 : wz.cell? ⟨b, off + (2 * k + 1), none⟩ = some (.float .f64 (xs.getD (2 * k + 1) 0)) := (IK.out.hb.cell (p := ⟨b, off + (2 * k + 1), none⟩) hb).trans (hcell _ _ (fvals_get hx2))
      obtain ⟨X, hX⟩ : ∃ X, X = xs.getD (2 * k) 0 := ⟨_, rfl⟩
      obtain ⟨Y, hY⟩ : ∃ Y, Y = xs.getD (2 * k + 1) 0 := ⟨_, rfl⟩
      rw [← hX] at d1
      rw [← hY] at d2
      have HXY := Lib.hid (And.intro hX hY)
      clear hX hY hx1 hx2 hcell hb
      obtain ⟨j, hj⟩ : ∃ j, j = 2 * k := ⟨_, rfl⟩
      rw [← hj] at d1 d2 hlt ⊢
      have e1 : IntKind.i64.wrap ((j : Int) + 1) = (j : Int) + 1 := IntWalk.i64_in _ ⟨by omega, by omega⟩
      have e2 : ((j : Int) + 1).toNat = j + 1 := by omega
      have e3 : (0 : Int) ≤ (j : Int) + 1 := by omega
      have e4 : (j : Int) + 1 < (n : Int) := by omega
      have e5 : j < n := by omega
      have e7 : j ≤ 17592186044416 := by have := HL3.out; omega
      have HJ := Lib.hid hj
      have HK2 : Hid (k ≤ n) := by show k ≤ n; omega
      have A1 : Hid (((wz.alloc (.cells #[.complex .f64 X Y] 57)).drew).ownsRow (w.heap.size + 3) 57 1 v k (cvals .f64 ((pairsOf xs).take k))) := IK.out.ho.alloc _
      have A2 : Hid (∀ (j : Nat) (u : Value), [Value.complex .f64 X Y][j]? = some u → ((wz.alloc (.cells #[.complex .f64 X Y] 57)).drew).cell? ((⟨wz.heap.size, 0, none⟩ : Addr).add j) = some u) := cell1_new _ _ _
      have A3 : Hid (∀ u ∈ [Value.complex .f64 X Y], u.oneCell' = true) := by intro u hu; simp at hu; rw [hu]; rfl
      have A4 : Hid (k + 1 ≤ maxLen) := by have := HK2.out; unfold Hid maxLen; omega
      have A5 : Hid ((k + 1) * 16 ≤ 140737488355328) := by have := HL3.out; unfold Hid; omega
      have A6 : Hid (w.heap.size + 3 ≤ ((wz.alloc (.cells #[.complex .f64 X Y] 57)).drew).heap.size) := by unfold Hid; simp [World.drew]; omega
      have A7 : Hid (((wz.alloc (.cells #[.complex .f64 X Y] 57)).drew).heap.size = wz.heap.size + 1) := by unfold Hid; simp [World.drew]
      have HI := Lib.hid (And.intro hi (And.intro hz0 (And.intro hz1 hz2)))
      clear hj hk hl hi hz0 hz1 hz2
      go_wp2_with fail
      go_region_law ((refine step_append_lies _ rfl (.tmp 19) (.tmp 32) 35 rfl (w.heap.size + 3) 57 i0 (.complex .f64 0 0) 1 16 Tryd.underlying35 HI.out.1 HI.out.2.1 HI.out.2.2.1 HI.out.2.2.2 rfl Nat.zero_lt_one v k (cvals .f64 ((pairsOf xs).take k)) rfl A1.out ⟨wz.heap.size, 0, none⟩ 1 1 [.complex .f64 X Y] rfl rfl A2.out A3.out Nat.zero_lt_one A4.out A5.out A6.out (wz.heap.size + 1) A7.out ?_; intro g cap' w' hown' hgrow hor hlt'; have HA := Lib.hid (IK.out.after (W := (wz.alloc (.cells #[.complex .f64 X Y] 57)).drew) (.cells #[.complex .f64 X Y] 57) rfl rfl rfl rfl hgrow); have HO := Lib.hid hown'; obtain ⟨x0, x1, x2, y0, y1, y2, l9⟩ := three_cells HA.out.2.2.1; clear hown' hgrow hor))
      all_goals
        go_wp2_with fail
        go_roundw
        case rel =>
          refine ⟨k + 1, ?_, ?_, .slice (some ⟨g, 0, none⟩) (k + 1) cap', ?_⟩
          · have := HJ.out; omega
          · have := HJ.out; go_num
          · exact SumsInv.next HA.out HO.out HXY.out.1 HXY.out.2 (by have := HJ.out; have := HN.out; omega)
        case measure => simp [intOf]; omega
    · have hk2 : k = xs.length / 2 := by have := HN.out; omega
      have I0 := lt_of_block IK.out.h0
      obtain ⟨z0, z1, z2, y0, y1, y2, l2⟩ := three_cells IK.out.h0
      have ho := IK.out.ho
      have HB := Lib.hid IK.out.hb
      rw [hk2, List.take_of_length_le (by rw [pairsOf_length]; exact Nat.le_refl _)] at ho
      have HO := Lib.hid ho
      have HNE := Lib.hid (IK.out.own_ne (w.heap.size + 1) (by omega))
      obtain ⟨sa, sn, sc, rfl⟩ : ∃ sa sn sc, v = .slice sa sn sc := by
        rcases ho.2 with ⟨h, -⟩ | ⟨g, cp, -, h, -⟩
        · exact ⟨_, _, _, h⟩
        · exact ⟨_, _, _, h⟩
      clear ho IK
      go_wp2_with fail
      refine bodyPost_ret (v := .agg #[.int .i64 l, .int .i64 s, .slice sa sn sc]) (by simp [results, Tryd.results9, go_sem, z0, z1, z2]) rfl ⟨.slice sa sn sc, rfl, ?_, ⟨?_⟩, cap_owns HO.out⟩
      · exact ((HB.out.setCell (p := ⟨w.heap.size + 1, 0, none⟩) (by show w.heap.size ≤ w.heap.size + 1; omega) _).setCell (p := ⟨w.heap.size + 1, 1, none⟩) (by show w.heap.size ≤ w.heap.size + 1; omega) _).setCell (p := ⟨w.heap.size + 1, 2, none⟩) (by show w.heap.size ≤ w.heap.size + 1; omega) _
      · exact Sl.of_owns (ownsRow_setCell_other (ownsRow_setCell_other (ownsRow_setCell_other (a := ⟨w.heap.size + 1, 0, none⟩) HO.out HNE.out (.int .i64 l)) (a := ⟨w.heap.size + 1, 1, none⟩) HNE.out (.int .i64 s)) (a := ⟨w.heap.size + 1, 2, none⟩) HNE.out (.slice sa sn sc)) (by have := HN.out; have := HL3.out; omega)

theorem sums_any (l s : Int) (pv cv : Value) (xs : List Nat) (w : World) (hp : Fls .f64 xs w pv) (hlen : xs.length ≤ 100000) :
    Calls Tryd.prog 9 #[.agg #[.int .i64 l, .int .i64 s, pv, cv]] w (FldR l s (pairsOf xs) w) :=
  (sumsC_any l s pv cv xs w hp hlen).mono fun _ _ ⟨v, h1, h2, h3, _⟩ => ⟨v, h1, h2, h3⟩

def slightB (np nc : Nat) : Bool := decide (np ≤ 400) && decide (nc ≤ 70)

set_option maxRecDepth 100000 in
theorem slight_any (l s : Int) (pv cv : Value) (xs cs : List Nat) (w : World) (hp : Fls .f64 xs w pv) (hc : Fls .f32 cs w cv) :
    Calls Tryd.prog 7 #[.agg #[.int .i64 l, .int .i64 s, pv, cv]] w fun e w' => e = .returned (.bool (slightB xs.length cs.length)) ∧ Below w.heap.size w w' := by
  obtain ⟨pa, pc, rfl, lp, -⟩ := hp.sl
  obtain ⟨ca, cc, rfl, lc, -⟩ := hc.sl
  have ex : (fvals .f64 xs).length = xs.length := by simp [fvals]
  have ey : (fvals .f32 cs).length = cs.length := by simp [fvals]
  rw [ex] at lp ⊢
  rw [ey] at lc ⊢
  clear hp hc ex ey
  generalize xs.length = np at *
  generalize cs.length = nc at *
  obtain ⟨R, hR⟩ : ∃ R, R = slightB np nc := ⟨_, rfl⟩
  rw [← hR]
  unfold slightB at hR
  have hw : (np ≤ 400 ∧ nc ≤ 70 ∧ Hid (R = true)) ∨ (np ≤ 400 ∧ ¬ nc ≤ 70 ∧ Hid (R = false)) ∨ (¬ np ≤ 400 ∧ Hid (R = false)) := by
    unfold Hid
    by_cases h1 : np ≤ 400
    · by_cases h2 : nc ≤ 70
      · left; exact ⟨h1, h2, by rw [hR]; simp [h1, h2]⟩
      · right; left; exact ⟨h1, h2, by rw [hR]; simp [h2]⟩
    · right; right; exact ⟨h1, by rw [hR]; simp [h1]⟩
  clear hR
  rcases hw with ⟨h1, h2, HR⟩ | ⟨h1, h2, HR⟩ | ⟨h1, HR⟩
  all_goals
    go_enter Tryd.func7, Tryd.ntmps7
    go_wp2_with fail
    go_ret
    exact ⟨by first | (rw [HR.out]; simp; omega) | (rw [HR.out]; simp; done) | (rw [HR.out] <;> rfl), (Below.refl _ _).alloc (Nat.le_refl _) _⟩

end Go.Proofs.YtmiaglkkjncfnaaDoor
