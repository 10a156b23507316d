import Derived.Test.YtadajelonekpmaaEf
import Derived.Deep.AppendLies
import Derived.Deep.RegionLaw
namespace Go.Proofs.Ytadajelonekpmaa
open Go.RowKit Go.Proofs.Ytadajelonekpmaa.Flt

theorem Try.info109 : (Try.prog.info? 54).map (fun i => (i.zero, i.size, i.bytes)) = some (some (.complex .f32 0 0), 1, 8) := by kernel_rfl

def fvals (k : FloatKind) (xs : List Nat) : List Value := xs.map (Value.float k)

/-- numbers by twos -/
def pairsOf (xs : List Nat) : List (Nat × Nat) := (List.range (xs.length / 2)).map fun i => (xs.getD (2 * i) 0, xs.getD (2 * i + 1) 0)

theorem pairsOf_length (xs : List Nat) : (pairsOf xs).length = xs.length / 2 := by simp [pairsOf]

theorem pairsOf_take (xs : List Nat) (k : Nat) (h : k < xs.length / 2) : (pairsOf xs).take (k + 1) = (pairsOf xs).take k ++ [(xs.getD (2 * k) 0, xs.getD (2 * k + 1) 0)] := by
  have h' : k < (pairsOf xs).length := by rw [pairsOf_length]; exact h
  rw [List.take_succ_eq_append_getElem h']
  congr 1
  simp [pairsOf]

theorem fvals_get {k : FloatKind} {xs : List Nat} {i : Nat} (h : i < xs.length) : (fvals k xs)[i]? = some (.float k (xs.getD i 0)) := by
  simp [fvals, List.getElem?_eq_getElem h, List.getD_eq_getElem?_getD]

/-- what base.Image answers -/
def ImageOk (l s : Int) (zs : List (Nat × Nat)) (w : World) (e : Ending) (w' : World) : Prop :=
  ∃ v, e = .returned (.agg #[.int .i64 l, .int .i64 s, v]) ∧ Below w.heap.size w w' ∧ w'.ownsRow w.heap.size 54 1 v zs.length (cvals .f32 zs)

/-- what holds at the head of its loop -/
structure ImageInv (l s : Int) (xs : List Nat) (w : World) (k : Nat) (v : Value) (wr : World) : Prop where
  h0 : wr.heap[w.heap.size]? = some (.cells #[.int .i64 0, .int .i64 0, .slice none 0 0] 29 (0, 0))
  h1 : wr.heap[w.heap.size + 1]? = some (.cells #[.int .i64 l, .int .i64 s, v] 29 (0, 0))
  hb : Below w.heap.size w wr
  ho : wr.ownsRow (w.heap.size + 2) 54 1 v k (cvals .f32 ((pairsOf xs).take k))

theorem cell1_new (w : World) (x : Value) (t : TypeId) : ∀ (j : Nat) (u : Value), [x][j]? = some u → (w.alloc (.cells #[x] t)).cell? ((⟨w.heap.size, 0, none⟩ : Addr).add j) = some u := by
  intro j u h
  cases j with
  | zero =>
    have : (w.alloc (.cells #[x] t)).heap[w.heap.size]? = some (.cells #[x] t (0, 0)) := heap_alloc_new _ _
    have h2 := cell_of_one this
    simp at h
    rw [← h]
    exact h2
  | succ j => simp at h

theorem ImageInv.own_ne {l s : Int} {xs : List Nat} {w wz : World} {k : Nat} {v : Value} (h : ImageInv l s xs w k v wz) (i : Nat) (hi : i < w.heap.size + 2) : v.ownBlock ≠ some i := by
  intro e
  have := (h.ho.lt i e).1
  omega

theorem ImageInv.after {l s : Int} {xs : List Nat} {w wz W w' : World} {k : Nat} {v : Value} (h : ImageInv l s xs w k v wz) (o : Obj) (hW : W.heap = (wz.alloc o).heap) (h1 : W.os = wz.os) (h2 : W.tape = wz.tape) (h3 : W.output = wz.output) (hg : W.grownBy w' v.ownBlock) :
    w'.heap[w.heap.size]? = some (.cells #[.int .i64 0, .int .i64 0, .slice none 0 0] 29 (0, 0)) ∧ w'.heap[w.heap.size + 1]? = some (.cells #[.int .i64 l, .int .i64 s, v] 29 (0, 0)) ∧ Below w.heap.size w w' := by
  have hs : W.heap.size = wz.heap.size + 1 := by rw [hW]; simp
  have b0 := lt_of_block h.h0
  have b1 := lt_of_block h.h1
  have old : ∀ i, i < w.heap.size + 2 → i < wz.heap.size → w'.heap[i]? = wz.heap[i]? := by
    intro i hi hi'
    rw [hg.block i (by omega) (fun e => h.own_ne i hi e.symm), hW]
    exact Below.heap_alloc _ _ _ hi'
  refine ⟨(old _ (by omega) b0).trans h.h0, (old _ (by omega) b1).trans h.h1, ?_⟩
  have hb : Below w.heap.size w W := ⟨h1.trans h.hb.os, h2.trans h.hb.tape, h3.trans h.hb.output, by have := h.hb.size; omega, fun i hi => by rw [hW]; exact (Below.heap_alloc _ _ _ (Nat.lt_of_lt_of_le hi h.hb.size)).trans (h.hb.block i hi)⟩
  exact hb.grown hg hb.size (fun i e => by have := (h.ho.lt i e).1; omega)

theorem ImageInv.next {l s : Int} {xs : List Nat} {w w' : World} {k g cap' X Y : Nat} {v : Value} (h : w'.heap[w.heap.size]? = some (.cells #[.int .i64 0, .int .i64 0, .slice none 0 0] 29 (0, 0)) ∧ w'.heap[w.heap.size + 1]? = some (.cells #[.int .i64 l, .int .i64 s, v] 29 (0, 0)) ∧ Below w.heap.size w w')
    (ho : w'.ownsRow (w.heap.size + 2) 54 1 (.slice (some ⟨g, 0, none⟩) (k + 1) cap') (k + 1) (cvals .f32 ((pairsOf xs).take k) ++ [.complex .f32 X Y])) (hX : X = xs.getD (2 * k) 0) (hY : Y = xs.getD (2 * k + 1) 0) (hk : k < xs.length / 2) :
    ImageInv l s xs w (k + 1) (.slice (some ⟨g, 0, none⟩) (k + 1) cap') (w'.setCell ⟨w.heap.size + 1, 2, none⟩ (.slice (some ⟨g, 0, none⟩) (k + 1) cap')) := by
  obtain ⟨h0, h1, hb⟩ := h
  refine ⟨(Below.heap_setCell _ _ _ _ (by show w.heap.size ≠ w.heap.size + 1; omega)).trans h0, ?_, hb.setCell (p := ⟨w.heap.size + 1, 2, none⟩) (by show w.heap.size ≤ w.heap.size + 1; omega) _, ?_⟩
  · rw [heap_setCell_same _ _ _ _ _ _ h1]; rfl
  · have e : cvals .f32 ((pairsOf xs).take (k + 1)) = cvals .f32 ((pairsOf xs).take k) ++ [.complex .f32 X Y] := by
      rw [pairsOf_take xs k hk, ← hX, ← hY]; simp [cvals]
    rw [e]
    have hg := (ho.lt g rfl).1
    exact ownsRow_setCell_other ho (by simp [Value.ownBlock]; omega) _

set_option maxRecDepth 100000 in
set_option maxHeartbeats 4000000 in
theorem Image_any (l s : Int) (pv : Value) (xs : List Nat) (w : World) (hv : Sl w pv (fvals .f32 xs)) (hlen : xs.length ≤ 17592186044416) :
    Calls Try.prog 15 #[.int .i64 l, .int .i64 s, pv] w (ImageOk l s (pairsOf xs) w) := by
  obtain ⟨i0, hi, hz0, hz1, hz2⟩ := info_parts Try.info109
  obtain ⟨ad, cap, rfl, hl, hc⟩ := hv
  obtain ⟨n, hn⟩ : ∃ n, n = (fvals .f32 xs).length := ⟨_, rfl⟩
  rw [← hn] at hl ⊢
  have hn' : n = xs.length := by rw [hn]; simp [fvals]
  have HL3 : Hid (n ≤ 17592186044416) := by rw [Hid, hn']; exact hlen
  have HN := Lib.hid hn'
  have HC := Lib.hid hc
  clear hn hn' hc hlen
  go_enter Try.func15, Try.ntmps15
  go_wp2_with fail
  go_loopw [8] (fun i wr => ∃ k : Nat, 2 * k ≤ n ∧ i = .int .i64 ((2 * k : Nat) : Int) ∧ ∃ v, Hid (ImageInv l s xs w k v wr)) (fun i _ => n - (intOf i).toNat)
  case atStart =>
    refine ⟨0, Nat.zero_le _, rfl, .slice none 0 0, ?_, ?_, ?_, ?_⟩
    · rw [Below.heap_alloc _ _ _ (by simp)]; exact heap_alloc_new _ _
    · have := heap_alloc_new (w.alloc (.cells #[.int .i64 0, .int .i64 0, .slice none 0 0] 29)) (.cells #[.int .i64 l, .int .i64 s, .slice none 0 0] 29)
      rwa [World.size_alloc] at this
    · exact ((Below.refl _ _).alloc (Nat.le_refl _) _).alloc (by simp) _
    · exact World.ownsRow_nil _ _ _ _
  case round =>
    obtain ⟨k, hk, rfl, v, IK⟩ := hrel
    obtain ⟨wz, rfl⟩ : ∃ wz : World, wz = wr := ⟨_, rfl⟩
    obtain ⟨c0, c1, c2, f0, f1, f2, l1⟩ := three_cells IK.out.h1
    by_cases hlt : 2 * k + 1 < n
    · rcases HC.out with h | ⟨b, off, rfl, hb, hcell⟩
      · have := HN.out; rw [show xs = [] from by simpa [fvals] using h] at this; simp at this; omega
      have hx1 : 2 * k < xs.length := by have := HN.out; omega
      have hx2 : 2 * k + 1 < xs.length := by have := HN.out; omega
      have hbz : b < wz.heap.size := Nat.lt_of_lt_of_le hb IK.out.hb.size
      have d1 : wz.cell? ⟨b, off + 2 * k, none⟩ = some (.float .f32 (xs.getD (2 * k) 0)) := (IK.out.hb.cell (p := ⟨b, off + 2 * k, none⟩) hb).trans (hcell _ _ (fvals_get hx1))
      have d2 : wz.cell? ⟨b, off + (2 * k + 1), none⟩ = some (.float .f32 (xs.getD (2 * k + 1) 0)) := (IK.out.hb.cell (p := ⟨b, off + (2 * k + 1), none⟩) hb).trans (hcell _ _ (fvals_get hx2))
      obtain ⟨X, hX⟩ : ∃ X, X = xs.getD (2 * k) 0 := ⟨_, rfl⟩
      obtain ⟨Y, hY⟩ : ∃ Y, Y = xs.getD (2 * k + 1) 0 := ⟨_, rfl⟩
      rw [← hX] at d1
      rw [← hY] at d2
      have HXY := Lib.hid (And.intro hX hY)
      clear hX hY hx1 hx2 hcell hb
      obtain ⟨j, hj⟩ : ∃ j, j = 2 * k := ⟨_, rfl⟩
      rw [← hj] at d1 d2 hlt ⊢
      have e1 : IntKind.i64.wrap ((j : Int) + 1) = (j : Int) + 1 := IntWalk.i64_in _ ⟨by omega, by omega⟩
      have e2 : ((j : Int) + 1).toNat = j + 1 := by omega
      have e3 : (0 : Int) ≤ (j : Int) + 1 := by omega
      have e4 : (j : Int) + 1 < (n : Int) := by omega
      have e5 : j < n := by omega
      have e7 : j ≤ 17592186044416 := by have := HL3.out; omega
      have HJ := Lib.hid hj
      have HK2 : Hid (k ≤ n) := by show k ≤ n; omega
      have HL2 := Lib.hid hl
      have A1 : Hid (((wz.alloc (.cells #[.complex .f32 X Y] 54)).drew).ownsRow (w.heap.size + 2) 54 1 v k (cvals .f32 ((pairsOf xs).take k))) := IK.out.ho.alloc _
      have A2 : Hid (∀ (j : Nat) (u : Value), [Value.complex .f32 X Y][j]? = some u → ((wz.alloc (.cells #[.complex .f32 X Y] 54)).drew).cell? ((⟨wz.heap.size, 0, none⟩ : Addr).add j) = some u) := cell1_new _ _ _
      have A3 : Hid (∀ u ∈ [Value.complex .f32 X Y], u.oneCell' = true) := by intro u hu; simp at hu; rw [hu]; rfl
      have A4 : Hid (k + 1 ≤ maxLen) := by have := HK2.out; unfold Hid maxLen; omega
      have A5 : Hid ((k + 1) * 8 ≤ 140737488355328) := by have := HL3.out; unfold Hid; omega
      have A6 : Hid (w.heap.size + 2 ≤ ((wz.alloc (.cells #[.complex .f32 X Y] 54)).drew).heap.size) := by unfold Hid; simp [World.drew]; omega
      have A7 : Hid (((wz.alloc (.cells #[.complex .f32 X Y] 54)).drew).heap.size = wz.heap.size + 1) := by unfold Hid; simp [World.drew]
      have HI := Lib.hid (And.intro hi (And.intro hz0 (And.intro hz1 hz2)))
      clear hj hk hl hi hz0 hz1 hz2
      go_wp2_with fail
      go_region_law ((refine step_append_lies _ rfl (.tmp 20) (.tmp 31) 27 rfl (w.heap.size + 2) 54 i0 (.complex .f32 0 0) 1 8 Try.underlying27 HI.out.1 HI.out.2.1 HI.out.2.2.1 HI.out.2.2.2 rfl Nat.zero_lt_one v k (cvals .f32 ((pairsOf xs).take k)) rfl A1.out ⟨wz.heap.size, 0, none⟩ 1 1 [.complex .f32 X Y] rfl rfl A2.out A3.out Nat.zero_lt_one A4.out A5.out A6.out (wz.heap.size + 1) A7.out ?_; intro g cap' w' hown' hgrow hor hlt'; have HA := Lib.hid (IK.out.after (W := (wz.alloc (.cells #[.complex .f32 X Y] 54)).drew) (.cells #[.complex .f32 X Y] 54) rfl rfl rfl rfl hgrow); have HO := Lib.hid hown'; obtain ⟨x0, x1, x2, y0, y1, y2, l9⟩ := three_cells HA.out.2.1; clear hown' hgrow hor))
      all_goals
        go_wp2_with fail
        go_roundw
        case rel =>
          refine ⟨k + 1, ?_, ?_, .slice (some ⟨g, 0, none⟩) (k + 1) cap', ?_⟩
          · have := HJ.out; omega
          · have := HJ.out; go_num
          · exact ImageInv.next HA.out HO.out HXY.out.1 HXY.out.2 (by have := HJ.out; have := HN.out; omega)
        case measure => simp [intOf]; omega
    · have hk2 : k = xs.length / 2 := by have := HN.out; omega
      have I0 := lt_of_block IK.out.h0
      obtain ⟨z0, z1, z2, y0, y1, y2, l2⟩ := three_cells IK.out.h0
      have ho := IK.out.ho
      have HB := Lib.hid IK.out.hb
      rw [hk2, List.take_of_length_le (by rw [pairsOf_length]; exact Nat.le_refl _)] at ho
      have HO := Lib.hid ho
      have HNE := Lib.hid (IK.out.own_ne w.heap.size (by omega))
      obtain ⟨sa, sn, sc, rfl⟩ : ∃ sa sn sc, v = .slice sa sn sc := by
        rcases ho.2 with ⟨h, -⟩ | ⟨g, cp, -, h, -⟩
        · exact ⟨_, _, _, h⟩
        · exact ⟨_, _, _, h⟩
      clear ho IK
      go_wp2_with fail
      refine bodyPost_ret (v := .agg #[.int .i64 l, .int .i64 s, .slice sa sn sc]) (by simp [results, Try.results15, go_sem, z0, z1, z2]) rfl ⟨.slice sa sn sc, rfl, ?_, ?_⟩
      · exact ((HB.out.setCell (p := ⟨w.heap.size, 0, none⟩) (Nat.le_refl _) _).setCell (p := ⟨w.heap.size, 1, none⟩) (Nat.le_refl _) _).setCell (p := ⟨w.heap.size, 2, none⟩) (Nat.le_refl _) _
      · have h1 := ownsRow_setCell_other (ownsRow_setCell_other (ownsRow_setCell_other (a := ⟨w.heap.size, 0, none⟩) HO.out HNE.out (.int .i64 l)) (a := ⟨w.heap.size, 1, none⟩) HNE.out (.int .i64 s)) (a := ⟨w.heap.size, 2, none⟩) HNE.out (.slice sa sn sc)
        rw [pairsOf_length]
        obtain ⟨p1, p2⟩ := h1
        refine ⟨p1, ?_⟩
        rcases p2 with p2 | ⟨g', cp, cur, p3, p4, p5⟩
        · exact .inl p2
        · exact .inr ⟨g', cp, cur, p3, by omega, p5⟩
end Go.Proofs.Ytadajelonekpmaa
