import Derived.Test.YtmiaglkkjncfnaaDoorPc
import Derived.Test.YtmiaglkkjncfnaaDoorGe
import Derived.Deep.CutRange
namespace Go.Proofs.YtmiaglkkjncfnaaDoor
open Go.RowKit Go.Proofs.YtmiaglkkjncfnaaDoor.Flt

/-- the greatest so far, 0 ahead of all -/
def topE (f : Nat → Int) (k : Nat) : Int := if k = 0 then 0 else f (bestI f k)
theorem top_hit {f : Nat → Int} {k : Nat} (h : topE f k < f k) : bestI f (k + 1) = k ∧ topE f (k + 1) = f k := by
  unfold topE at *
  rw [if_neg (by omega)]
  by_cases h0 : k = 0
  · subst h0
    have : bestI f (0 + 1) = 0 := by rw [bestI]; split <;> rfl
    rw [this]
    exact ⟨rfl, rfl⟩
  · rw [if_neg h0] at h
    have : bestI f (k + 1) = k := by rw [bestI, if_pos h]
    rw [this]
    exact ⟨rfl, rfl⟩
theorem top_miss {f : Nat → Int} {k : Nat} (h0 : 0 ≤ f k) (h : ¬ topE f k < f k) : bestI f (k + 1) = bestI f k ∧ topE f (k + 1) = topE f k := by
  unfold topE at *
  rw [if_neg (by omega)]
  by_cases h1 : k = 0
  · subst h1
    rw [if_pos rfl] at h ⊢
    have : bestI f (0 + 1) = 0 := by rw [bestI]; split <;> rfl
    rw [this]
    exact ⟨rfl, by omega⟩
  · rw [if_neg h1] at h ⊢
    have : bestI f (k + 1) = bestI f k := by rw [bestI, if_neg h]
    rw [this]
    exact ⟨rfl, rfl⟩

theorem downTo_stop {P : Nat → Nat → Bool} {x : Nat} (h : (decide (0 < x) && P x (x - 1)) = false) : downTo P x = x := by
  cases x with
  | zero => rfl
  | succ y =>
    have : P (y + 1) y = false := by simpa using h
    rw [downTo, this]; rfl
theorem downTo_go {P : Nat → Nat → Bool} {x : Nat} (h : (decide (0 < x) && P x (x - 1)) = true) : 0 < x ∧ downTo P x = downTo P (x - 1) := by
  cases x with
  | zero => simp at h
  | succ y =>
    have : P (y + 1) y = true := by simpa using h
    exact ⟨by omega, by rw [downTo, this]; rfl⟩
theorem upFrom_stop {P : Nat → Nat → Bool} {S x : Nat} (h : (decide (x + 1 < S) && P x (x + 1)) = false) : upFrom P S x = x :=
  upFrom_end P S x (fun ⟨h1, h2⟩ => by rw [decide_eq_true h1, h2] at h; cases h)
theorem upFrom_go {P : Nat → Nat → Bool} {S x : Nat} (h : (decide (x + 1 < S) && P x (x + 1)) = true) : x + 1 < S ∧ upFrom P S x = upFrom P S (x + 1) := by
  rw [Bool.and_eq_true] at h
  exact ⟨of_decide_eq_true h.1, upFrom_step P S x (of_decide_eq_true h.1) h.2⟩

/-- the reference's field, result and point, each in its box -/
structure RfP (L S : Nat) (v : Value) (pk en a b c d sd : Int) (w W : World) : Prop where
  hb : Below w.heap.size w W
  h0 : W.heap[w.heap.size]? = some (.cells #[.int .i64 L, .int .i64 S, v] 37 (0, 0))
  h1 : W.heap[w.heap.size + 1]? = some (.cells #[.int .i64 0, .int .i64 0, .int .i64 0, .int .i64 0, .int .i64 0, .int .i64 0, .int .i64 0] 31 (0, 0))
  h2 : W.heap[w.heap.size + 2]? = some (.cells #[.int .i64 pk, .int .i64 en, .int .i64 a, .int .i64 b, .int .i64 c, .int .i64 d, .int .i64 sd] 31 (0, 0))
theorem RfP.next {L S : Nat} {v : Value} {pk en a b c d sd : Int} {w W W' : World} (h : RfP L S v pk en a b c d sd w W) (hb : Below W.heap.size W W') : RfP L S v pk en a b c d sd w W' :=
  ⟨h.hb.trans (hb.mono h.hb.size), (hb.block _ (lt_of_block h.h0)).trans h.h0, (hb.block _ (lt_of_block h.h1)).trans h.h1, (hb.block _ (lt_of_block h.h2)).trans h.h2⟩
theorem RfP.put {L S : Nat} {v : Value} {pk en a b c d sd pk' en' a' b' c' d' sd' : Int} {w W : World} (h : RfP L S v pk en a b c d sd w W) (j : Nat) (u : Value)
    (e : (#[.int .i64 pk, .int .i64 en, .int .i64 a, .int .i64 b, .int .i64 c, .int .i64 d, .int .i64 sd] : Array Value).setIfInBounds j u = #[.int .i64 pk', .int .i64 en', .int .i64 a', .int .i64 b', .int .i64 c', .int .i64 d', .int .i64 sd']) :
    RfP L S v pk' en' a' b' c' d' sd' w (W.setCell ⟨w.heap.size + 2, j, none⟩ u) := by
  refine ⟨h.hb.setCell (p := ⟨w.heap.size + 2, j, none⟩) (by show w.heap.size ≤ w.heap.size + 2; omega) _, (Below.heap_setCell _ _ _ _ (by show w.heap.size ≠ w.heap.size + 2; omega)).trans h.h0, (Below.heap_setCell _ _ _ _ (by show w.heap.size + 1 ≠ w.heap.size + 2; omega)).trans h.h1, ?_⟩
  rw [← e]
  exact blk_setCell _ _ _ _ _ _ h.h2

set_option maxRecDepth 100000 in
set_option maxHeartbeats 20000000 in
theorem refResponse_ok (L S m : Nat) (v : Value) (zs : List (Nat × Nat)) (w : World) (hv : Sl w v (cvals .f64 zs)) (hz : ∀ z ∈ zs, z.1 < 2 ^ 64 ∧ z.2 < 2 ^ 64) (hL : L ≤ 64) (hS1 : 1 ≤ S) (hS : S ≤ 64) (hm : m < L) (hlen : zs.length = L * S) (RR : Right .f64 1000000000 zs) :
    Calls Tryd.prog 12 #[.agg #[.int .i64 L, .int .i64 S, v], .int .i64 m] w fun e w' => (e = if lineE zs S m (bestI (lineE zs S m) S) = 0 then .returned (.tuple #[pointV 0 0 0 0 0 0 0, .bool false]) else .returned (.tuple #[rspV (lineE zs S m) S, .bool true])) ∧ Below w.heap.size w w' := by
  have hn4 : zs.length ≤ 4096 := by rw [hlen]; exact Nat.le_trans (Nat.mul_le_mul hL hS) (by decide)
  have hq : m * S + S ≤ zs.length := by rw [hlen, ← Nat.succ_mul]; exact Nat.mul_le_mul_right _ hm
  have HEb : Hid (∀ i, i < S → 0 ≤ lineE zs S m i ∧ lineE zs S m i ≤ 2000000000000000000) := fun i hi => en_b RR (m * S + i) (by omega)
  have CE : Hid (∀ W, Below w.heap.size w W → ∀ i : Nat, i < S → Calls Tryd.prog 39 #[.agg #[.int .i64 L, .int .i64 S, v], .int .i64 m, .int .i64 i] W fun e w' => e = .returned (.int .i64 (lineE zs S m i)) ∧ Below W.heap.size W w') := fun W hb i hi =>
    refEnergy_any L S v zs m i W (hv.below hb (Nat.le_refl _)) hz RR hS hn4 (by omega)
  have hbl := bestI_lt (lineE zs S m) S hS1
  have HRS : Hid (rspV (lineE zs S m) S = pointV (bestI (lineE zs S m) S : Nat) (lineE zs S m (bestI (lineE zs S m) S)) (downTo (halfP (lineE zs S m) (lineE zs S m (bestI (lineE zs S m) S))) (bestI (lineE zs S m) S) : Nat) (upFrom (halfP (lineE zs S m) (lineE zs S m (bestI (lineE zs S m) S))) S (bestI (lineE zs S m) S) : Nat) (downTo (lobeP (lineE zs S m)) (bestI (lineE zs S m) S) : Nat) (upFrom (lobeP (lineE zs S m)) S (bestI (lineE zs S m) S) : Nat) (outMax (lineE zs S m) (downTo (lobeP (lineE zs S m)) (bestI (lineE zs S m) S)) (upFrom (lobeP (lineE zs S m)) S (bestI (lineE zs S m) S)) S)) := rfl
  obtain ⟨Rv, hRv⟩ : ∃ Rv, Rv = rspV (lineE zs S m) S := ⟨_, rfl⟩
  rw [← hRv] at HRS ⊢
  obtain ⟨Ex, hEx⟩ : ∃ Ex : Ending, Ex = if lineE zs S m (bestI (lineE zs S m) S) = 0 then .returned (.tuple #[pointV 0 0 0 0 0 0 0, .bool false]) else .returned (.tuple #[Rv, .bool true]) := ⟨_, rfl⟩
  rw [← hEx]
  have HEx := Lib.hid hEx
  obtain ⟨va, vc, rfl, -, -⟩ := hv
  generalize (cvals .f64 zs).length = n at *
  generalize lineE zs S m = E at *
  obtain ⟨W0, hW0⟩ : ∃ W0, W0 = (w.alloc (.cells #[.int .i64 L, .int .i64 S, .slice va n vc] 37)).alloc (.cells #[.int .i64 0, .int .i64 0, .int .i64 0, .int .i64 0, .int .i64 0, .int .i64 0, .int .i64 0] 31) := ⟨_, rfl⟩
  have I0 : Hid (RfP L S (.slice va n vc) 0 0 0 0 0 0 0 w (W0.alloc (.cells #[.int .i64 0, .int .i64 0, .int .i64 0, .int .i64 0, .int .i64 0, .int .i64 0, .int .i64 0] 31))) := by
    obtain ⟨a1, a2, a3⟩ := alloc3_blocks w (.cells #[.int .i64 L, .int .i64 S, .slice va n vc] 37) (.cells #[.int .i64 0, .int .i64 0, .int .i64 0, .int .i64 0, .int .i64 0, .int .i64 0, .int .i64 0] 31) (.cells #[.int .i64 0, .int .i64 0, .int .i64 0, .int .i64 0, .int .i64 0, .int .i64 0, .int .i64 0] 31)
    rw [hW0]
    exact ⟨(below_new2 _ _ _).alloc (by simp; omega) _, a1, a2, a3⟩
  rw [hW0] at I0
  clear hz RR hq hn4 hRv hEx hW0
  have hTE : topE E S = E (bestI E S) := by unfold topE; rw [if_neg (by omega)]
  have HTE := Lib.hid hTE
  clear hTE
  go_enter Tryd.func12, Tryd.ntmps12
  go_wp2_with fail
  go_loopw [7] (fun i wr => ∃ k : Nat, k ≤ S ∧ i = .int .i64 k ∧ Hid (RfP L S (.slice va n vc) (bestI E k : Nat) (topE E k) 0 0 0 0 0 w wr)) (fun i _ => S - (intOf i).toNat)
  case atStart => exact ⟨0, Nat.zero_le _, rfl, I0⟩
  case round =>
    clear I0
    obtain ⟨k, hk, rfl, IK⟩ := hrel
    obtain ⟨wz, rfl⟩ : ∃ wz : World, wz = wr := ⟨_, rfl⟩
    obtain ⟨c0, c1, c2, -, -, -, lc⟩ := three_cells IK.out.h0
    obtain ⟨p0, p1, p2, p3, p4, p5, p6, pl⟩ := seven_cells IK.out.h2
    obtain ⟨f0, f1, f2, f3, f4, f5, f6⟩ := seven_frozen IK.out.h2
    by_cases hlt : k < S
    · have CK := Lib.hid (CE.out wz IK.out.hb k hlt)
      have hE0 := HEb.out k hlt
      by_cases hh : topE E k < E k
      · have HT := Lib.hid (top_hit hh)
        obtain ⟨bk, hbk⟩ : ∃ x : Nat, x = bestI E k := ⟨_, rfl⟩
        obtain ⟨te, hte⟩ : ∃ x, x = topE E k := ⟨_, rfl⟩
        rw [← hbk, ← hte] at IK
        rw [← hbk] at p0
        rw [← hte] at p1 hh
        obtain ⟨x, hx⟩ : ∃ x, x = E k := ⟨_, rfl⟩
        rw [← hx] at HT CK hh hE0
        clear hx hbk hte
        go_wp2_with fail
        refine CK.out.mono ?_
        rintro e w2 ⟨rfl, hb2⟩
        have I2 := Lib.hid (IK.out.next hb2)
        clear hb2 IK CK c0 c1 c2 lc p0 p1 p2 p3 p4 p5 p6 pl f0 f1 f2 f3 f4 f5 f6
        obtain ⟨p0, p1, p2, p3, p4, p5, p6, pl⟩ := seven_cells I2.out.h2
        obtain ⟨f0, f1, f2, f3, f4, f5, f6⟩ := seven_frozen I2.out.h2
        have I3 : Hid (RfP L S (.slice va n vc) (bestI E (k + 1) : Nat) (topE E (k + 1)) 0 0 0 0 0 w ((w2.setCell ⟨w.heap.size + 2, 0, none⟩ (.int .i64 k)).setCell ⟨w.heap.size + 2, 1, none⟩ (.int .i64 x))) := by
          unfold Hid
          rw [HT.out.1, HT.out.2]
          exact (I2.out.put (pk' := k) (en' := te) 0 (.int .i64 k) rfl).put 1 (.int .i64 x) rfl
        go_wp2_with fail
        go_roundw
        case rel => exact ⟨k + 1, by omega, by go_num, I3⟩
        case measure => simp [intOf]; omega
      · have HT := Lib.hid (top_miss hE0.1 hh)
        obtain ⟨bk, hbk⟩ : ∃ x : Nat, x = bestI E k := ⟨_, rfl⟩
        obtain ⟨te, hte⟩ : ∃ x, x = topE E k := ⟨_, rfl⟩
        rw [← hbk, ← hte] at IK HT
        rw [← hbk] at p0
        rw [← hte] at p1 hh
        obtain ⟨x, hx⟩ : ∃ x, x = E k := ⟨_, rfl⟩
        rw [← hx] at CK hh hE0
        clear hx hbk hte
        go_wp2_with fail
        refine CK.out.mono ?_
        rintro e w2 ⟨rfl, hb2⟩
        have I2 := Lib.hid (IK.out.next hb2)
        clear hb2 IK CK c0 c1 c2 lc p0 p1 p2 p3 p4 p5 p6 pl f0 f1 f2 f3 f4 f5 f6
        obtain ⟨p0, p1, p2, p3, p4, p5, p6, pl⟩ := seven_cells I2.out.h2
        have I3 : Hid (RfP L S (.slice va n vc) (bestI E (k + 1) : Nat) (topE E (k + 1)) 0 0 0 0 0 w w2) := by
          unfold Hid
          rw [HT.out.1, HT.out.2]
          exact I2.out
        go_wp2_with fail
        go_roundw
        case rel => exact ⟨k + 1, by omega, by go_num, I3⟩
        case measure => simp [intOf]; omega
    · have e : S = k := by omega
      subst e
      rw [HTE.out] at IK p1
      generalize bestI E S = p at *
      obtain ⟨gr, hgr⟩ : ∃ gr, gr = E p := ⟨_, rfl⟩
      rw [← hgr] at IK p1 HEx HRS
      have hEb := HEb.out p hbl
      rw [← hgr] at hEb
      clear hgr HTE
      by_cases h0 : gr = 0
      · have hb0 : (gr == 0) = true := by rw [beq_iff_eq]; exact h0
        have HX : Hid (Ex = .returned (.tuple #[pointV 0 0 0 0 0 0 0, .bool false])) := HEx.out.trans (if_pos h0)
        obtain ⟨z0, z1, z2, z3, z4, z5, z6, zl⟩ := seven_cells IK.out.h1
        obtain ⟨y0, y1, y2, y3, y4, y5, y6⟩ := seven_frozen IK.out.h1
        have HB := Lib.hid IK.out.hb
        clear HEx HRS h0 CE HEb IK
        go_wp2_with fail
        refine bodyPost_ret (v := .tuple #[pointV 0 0 0 0 0 0 0, .bool false]) (by simp [results, Tryd.results12, go_sem, pointV, z0, z1, z2, z3, z4, z5, z6]) rfl ⟨HX.out.symm, ?_⟩
        exact Below.set7 HB.out (by omega) _ _ _ _ _ _ _
      have hb0 : (gr == 0) = false := by rw [beq_eq_false_iff_ne]; exact h0
      have HX : Hid (Ex = .returned (.tuple #[Rv, .bool true])) := HEx.out.trans (if_neg h0)
      have I1 : Hid (RfP L S (.slice va n vc) p gr p p p p 0 w ((((wz.setCell ⟨w.heap.size + 2, 2, none⟩ (.int .i64 p)).setCell ⟨w.heap.size + 2, 3, none⟩ (.int .i64 p)).setCell ⟨w.heap.size + 2, 4, none⟩ (.int .i64 p)).setCell ⟨w.heap.size + 2, 5, none⟩ (.int .i64 p))) :=
        (((IK.out.put (pk' := p) (en' := gr) (a' := p) (b' := 0) (c' := 0) (d' := 0) (sd' := 0) 2 (.int .i64 p) rfl).put (pk' := p) (en' := gr) (a' := p) (b' := p) (c' := 0) (d' := 0) (sd' := 0) 3 (.int .i64 p) rfl).put (pk' := p) (en' := gr) (a' := p) (b' := p) (c' := p) (d' := 0) (sd' := 0) 4 (.int .i64 p) rfl).put 5 (.int .i64 p) rfl
      obtain ⟨lo1, hlo1⟩ : ∃ x, x = downTo (halfP E gr) p := ⟨_, rfl⟩
      obtain ⟨hi1, hhi1⟩ : ∃ x, x = upFrom (halfP E gr) S p := ⟨_, rfl⟩
      obtain ⟨lo2, hlo2⟩ : ∃ x, x = downTo (lobeP E) p := ⟨_, rfl⟩
      obtain ⟨hi2, hhi2⟩ : ∃ x, x = upFrom (lobeP E) S p := ⟨_, rfl⟩
      obtain ⟨sd, hsd⟩ : ∃ x, x = outMax E lo2 hi2 S := ⟨_, rfl⟩
      rw [← hlo1, ← hhi1, ← hlo2, ← hhi2, ← hsd] at HRS
      have hp1 : lo1 ≤ p := by rw [hlo1]; exact downTo_le _ _
      have hp2 : hi1 < S := by rw [hhi1]; exact (upTo_b (halfP E gr) S (S - 1 - p) p hbl).2
      have hp3 : lo2 ≤ p := by rw [hlo2]; exact downTo_le _ _
      have hp4 : hi2 < S := by rw [hhi2]; exact (upTo_b (lobeP E) S (S - 1 - p) p hbl).2
      have HD1 := Lib.hid hlo1
      have HU1 := Lib.hid hhi1
      have HD2 := Lib.hid hlo2
      have HU2 := Lib.hid hhi2
      have HSD := Lib.hid hsd
      clear h0 HEx IK hlo1 hhi1 hlo2 hhi2 hsd
      go_wp2_with fail
      clear c0 c1 c2 lc
      go_loopw [] (fun wr => ∃ x : Nat, x ≤ p ∧ Hid (lo1 = downTo (halfP E gr) x) ∧ Hid (RfP L S (.slice va n vc) p gr x p p p 0 w wr)) (fun wr => cellInt wr ⟨w.heap.size + 2, 2, none⟩)
      case atStart => exact ⟨p, Nat.le_refl _, HD1, I1⟩
      case round =>
        clear I1 HD1
        obtain ⟨x, hxp, HD1, IK⟩ := hrel
        obtain ⟨wz, rfl⟩ : ∃ wz : World, wz = wr := ⟨_, rfl⟩
        obtain ⟨c0, c1, c2, -, -, -, lc⟩ := three_cells IK.out.h0
        obtain ⟨p0, p1, p2, p3, p4, p5, p6, pl⟩ := seven_cells IK.out.h2
        have hcl : cellInt wz ⟨w.heap.size + 2, 2, none⟩ = x := by unfold cellInt; rw [p2]; simp
        have hxb : x < S := by omega
        obtain ⟨g, hg⟩ : ∃ g : Bool, g = (decide (0 < x) && (halfP E gr) x (x - 1)) := ⟨_, rfl⟩
        have HG := Lib.hid hg
        clear hg
        go_upto_region 11 with fail
        go_cut [60] from 44 to 66 (fun c wx => c = .bool g ∧ Hid (RfP L S (.slice va n vc) p gr x p p p 0 w wx))
        case first =>
          by_cases hx0 : x = 0
          · have hgf : g = false := by rw [HG.out, hx0]; rfl
            subst hgf
            subst hx0
            go_quiet (fail)
            go_wp2_with fail
            go_meet
            case rel => exact ⟨rfl, IK.out.next ((below_drewN' _ _ _))⟩
          obtain ⟨y, hy⟩ : ∃ y : Nat, y = x - 1 := ⟨_, rfl⟩
          have hyx : IntKind.i64.wrap ((x : Int) - 1) = (y : Int) := by rw [IntWalk.i64_in _ ⟨by omega, by omega⟩]; omega
          have hyx2 : (x : Int) - 1 = (y : Int) := by omega
          have hyw : IntKind.i64.wrap (y : Int) = (y : Int) := IntWalk.i64_in _ ⟨by omega, by omega⟩
          have hx1 : (0 : Int) < (x : Int) := by omega
          have hd1 : decide ((0 : Int) < (x : Int)) = true := decide_eq_true hx1
          have hd2 : decide (0 < x) = true := decide_eq_true (by omega)
          have hyS : y < S := by omega
          have HG2 : Hid (g = (halfP E gr) x y) := by rw [hy]; exact HG.out.trans (by rw [decide_eq_true (by omega : 0 < x), Bool.true_and])
          have CKy := Lib.hid (fun W (h : Below wz.heap.size wz W) => CE.out W (IK.out.hb.trans (h.mono IK.out.hb.size)) y hyS)
          have hEy := HEb.out y hyS
          unfold halfP at HG2
          generalize E y = ey at *
          have hm2 : IntKind.i64.wrap (2 * ey) = 2 * ey := IntWalk.i64_in _ ⟨by omega, by omega⟩
          clear hy HG HEb CE HRS HX
          by_cases hc : gr ≤ 2 * ey
          all_goals
            first
              | (have hgt : g = true := HG2.out.trans (decide_eq_true hc); subst hgt; have hcd := decide_eq_true hc)
              | (have hgt : g = false := HG2.out.trans (decide_eq_false hc); subst hgt; have hcd := decide_eq_false hc)
            clear HG2
            go_region_held3 (fun W => W.cell? ⟨w.heap.size, 0, none⟩ = some (.int .i64 L) ∧ W.cell? ⟨w.heap.size, 1, none⟩ = some (.int .i64 S) ∧ W.cell? ⟨w.heap.size, 2, none⟩ = some (.slice va n vc) ∧ W.cell? ⟨w.heap.size + 1 + 1, 2, none⟩ = some (.int .i64 x) ∧ W.cell? ⟨w.heap.size + 1 + 1, 1, none⟩ = some (.int .i64 gr)) (exact ⟨c0, c1, c2, p2, p1⟩)
              (first | (go_at_call 39; with_reducible refine (CKy.out _ (by repeat (first | with_reducible exact Below.refl _ _ | with_reducible refine Below.andThen ?_ hbI rfl | with_reducible refine Below.andThen ?_ hbJ rfl | with_reducible refine Below.drew ?_))).mono ?_; rintro e wI ⟨rfl, hbI⟩; have hBI : Below wz.heap.size wz wI := (by repeat (first | with_reducible exact Below.refl _ _ | with_reducible refine Below.andThen ?_ hbI rfl | with_reducible refine Below.andThen ?_ hbJ rfl | with_reducible refine Below.drew ?_)); have IE := Lib.hid (IK.out.next hBI); obtain ⟨c0, c1, c2, -, -, -, lc⟩ := three_cells IE.out.h0; obtain ⟨p0, p1, p2, p3, p4, p5, p6, pl⟩ := seven_cells IE.out.h2))
            all_goals
              go_wp2_with fail
              go_meet
              case rel => exact ⟨by first | rfl | rw [hcd], IE⟩
        case rest =>
          clear c0 c1 c2 lc p0 p1 p2 p3 p4 p5 p6 pl
          obtain ⟨rfl, IC⟩ := hcut
          obtain ⟨c0, c1, c2, -, -, -, lc⟩ := three_cells IC.out.h0
          obtain ⟨p0, p1, p2, p3, p4, p5, p6, pl⟩ := seven_cells IC.out.h2
          obtain ⟨f0, f1, f2, f3, f4, f5, f6⟩ := seven_frozen IC.out.h2
          cases g with
          | true =>
            obtain ⟨hx1, hst⟩ := downTo_go HG.out.symm
            have HD2 := Lib.hid (HD1.out.trans hst)
            have hyx : (x : Int) - 1 = ((x - 1 : Nat) : Int) := by omega
            have IN := Lib.hid (IC.out.put (pk' := p) (en' := gr) (a' := (x - 1 : Nat)) (b' := p) (c' := p) (d' := p) (sd' := 0) 2 (.int .i64 ((x - 1 : Nat) : Int)) rfl)
            clear hst HG IK IC
            go_wp2_with fail
            go_roundw
            case rel => exact ⟨x - 1, by omega, HD2, IN.out⟩
            case measure =>
              have := (seven_cells IN.out.h2).2.2.1
              rw [hcl]
              unfold cellInt
              rw [this]
              simp
              omega
          | false =>
            have hD : lo1 = x := HD1.out.trans (downTo_stop HG.out.symm)
            subst hD
            have I1 := IC
            clear HG IK IC hcl
            go_wp2_with fail
            clear c0 c1 c2 lc p0 p1 p2 p3 p4 p5 p6 pl f0 f1 f2 f3 f4 f5 f6
            go_loopw [] (fun wr => ∃ x : Nat, p ≤ x ∧ x < S ∧ Hid (hi1 = upFrom (halfP E gr) S x) ∧ Hid (RfP L S (.slice va n vc) p gr lo1 x p p 0 w wr)) (fun wr => S - cellInt wr ⟨w.heap.size + 2, 3, none⟩)
            case atStart => exact ⟨p, Nat.le_refl _, hbl, HU1, I1⟩
            case round =>
              clear I1 HU1
              obtain ⟨x, hxp, hxS, HU1, IK⟩ := hrel
              obtain ⟨wz, rfl⟩ : ∃ wz : World, wz = wr := ⟨_, rfl⟩
              obtain ⟨c0, c1, c2, -, -, -, lc⟩ := three_cells IK.out.h0
              obtain ⟨p0, p1, p2, p3, p4, p5, p6, pl⟩ := seven_cells IK.out.h2
              have hcl : cellInt wz ⟨w.heap.size + 2, 3, none⟩ = x := by unfold cellInt; rw [p3]; simp
              have hxb : x < S := by omega
              obtain ⟨g, hg⟩ : ∃ g : Bool, g = (decide (x + 1 < S) && (halfP E gr) x (x + 1)) := ⟨_, rfl⟩
              have HG := Lib.hid hg
              clear hg
              go_upto_region 13 with fail
              go_cut [86] from 67 to 92 (fun c wx => c = .bool g ∧ Hid (RfP L S (.slice va n vc) p gr lo1 x p p 0 w wx))
              case first =>
                by_cases hx0 : ¬ x + 1 < S
                · have hgf : g = false := by rw [HG.out, decide_eq_false hx0]; rfl
                  subst hgf
                  have hx1 : ¬ (x : Int) < (S : Int) - 1 := by omega
                  have hs1 : IntKind.i64.wrap ((S : Int) - 1) = (S : Int) - 1 := IntWalk.i64_in _ ⟨by omega, by omega⟩
                  go_quiet (fail)
                  go_wp2_with fail
                  go_meet
                  case rel => exact ⟨rfl, IK.out.next ((below_drewN' _ _ _))⟩
                obtain ⟨y, hy⟩ : ∃ y : Nat, y = x + 1 := ⟨_, rfl⟩
                have hyx : IntKind.i64.wrap ((x : Int) + 1) = (y : Int) := by rw [IntWalk.i64_in _ ⟨by omega, by omega⟩]; omega
                have hyx2 : (x : Int) + 1 = (y : Int) := by omega
                have hyw : IntKind.i64.wrap (y : Int) = (y : Int) := IntWalk.i64_in _ ⟨by omega, by omega⟩
                have hx1 : (x : Int) < (S : Int) - 1 := by omega
                have hd1 : decide ((x : Int) < (S : Int) - 1) = true := decide_eq_true hx1
                have hs1 : IntKind.i64.wrap ((S : Int) - 1) = (S : Int) - 1 := IntWalk.i64_in _ ⟨by omega, by omega⟩
                have hyS : y < S := by omega
                have HG2 : Hid (g = (halfP E gr) x y) := by rw [hy]; exact HG.out.trans (by rw [decide_eq_true (by omega : x + 1 < S), Bool.true_and])
                have CKy := Lib.hid (fun W (h : Below wz.heap.size wz W) => CE.out W (IK.out.hb.trans (h.mono IK.out.hb.size)) y hyS)
                have hEy := HEb.out y hyS
                unfold halfP at HG2
                generalize E y = ey at *
                have hm2 : IntKind.i64.wrap (2 * ey) = 2 * ey := IntWalk.i64_in _ ⟨by omega, by omega⟩
                clear hy HG HEb CE HRS HX
                by_cases hc : gr ≤ 2 * ey
                all_goals
                  first
                    | (have hgt : g = true := HG2.out.trans (decide_eq_true hc); subst hgt; have hcd := decide_eq_true hc)
                    | (have hgt : g = false := HG2.out.trans (decide_eq_false hc); subst hgt; have hcd := decide_eq_false hc)
                  clear HG2
                  go_region_held3 (fun W => W.cell? ⟨w.heap.size, 0, none⟩ = some (.int .i64 L) ∧ W.cell? ⟨w.heap.size, 1, none⟩ = some (.int .i64 S) ∧ W.cell? ⟨w.heap.size, 2, none⟩ = some (.slice va n vc) ∧ W.cell? ⟨w.heap.size + 1 + 1, 3, none⟩ = some (.int .i64 x) ∧ W.cell? ⟨w.heap.size + 1 + 1, 1, none⟩ = some (.int .i64 gr)) (exact ⟨c0, c1, c2, p3, p1⟩)
                    (first | (go_at_call 39; with_reducible refine (CKy.out _ (by repeat (first | with_reducible exact Below.refl _ _ | with_reducible refine Below.andThen ?_ hbI rfl | with_reducible refine Below.andThen ?_ hbJ rfl | with_reducible refine Below.drew ?_))).mono ?_; rintro e wI ⟨rfl, hbI⟩; have hBI : Below wz.heap.size wz wI := (by repeat (first | with_reducible exact Below.refl _ _ | with_reducible refine Below.andThen ?_ hbI rfl | with_reducible refine Below.andThen ?_ hbJ rfl | with_reducible refine Below.drew ?_)); have IE := Lib.hid (IK.out.next hBI); obtain ⟨c0, c1, c2, -, -, -, lc⟩ := three_cells IE.out.h0; obtain ⟨p0, p1, p2, p3, p4, p5, p6, pl⟩ := seven_cells IE.out.h2))
                  all_goals
                    go_wp2_with fail
                    go_meet
                    case rel => exact ⟨by first | rfl | rw [hcd], IE⟩
              case rest =>
                clear c0 c1 c2 lc p0 p1 p2 p3 p4 p5 p6 pl
                obtain ⟨rfl, IC⟩ := hcut
                obtain ⟨c0, c1, c2, -, -, -, lc⟩ := three_cells IC.out.h0
                obtain ⟨p0, p1, p2, p3, p4, p5, p6, pl⟩ := seven_cells IC.out.h2
                obtain ⟨f0, f1, f2, f3, f4, f5, f6⟩ := seven_frozen IC.out.h2
                cases g with
                | true =>
                  obtain ⟨hx1, hst⟩ := upFrom_go HG.out.symm
                  have HD2 := Lib.hid (HU1.out.trans hst)
                  have IN := Lib.hid (IC.out.put (pk' := p) (en' := gr) (a' := lo1) (b' := (x + 1 : Nat)) (c' := p) (d' := p) (sd' := 0) 3 (.int .i64 ((x + 1 : Nat) : Int)) rfl)
                  clear hst HG IK IC
                  go_wp2_with fail
                  go_roundw
                  case rel => exact ⟨x + 1, by omega, hx1, HD2, IN.out⟩
                  case measure =>
                    have := (seven_cells IN.out.h2).2.2.2.1
                    rw [show ((x + 1 : Nat) : Int) = (x : Int) + 1 from by omega] at this
                    rw [hcl]
                    unfold cellInt
                    rw [this]
                    simp
                    omega
                | false =>
                  have hD : hi1 = x := HU1.out.trans (upFrom_stop HG.out.symm)
                  subst hD
                  have I1 := IC
                  clear HG IK IC hcl
                  go_wp2_with fail
                  clear c0 c1 c2 lc p0 p1 p2 p3 p4 p5 p6 pl f0 f1 f2 f3 f4 f5 f6
                  go_loopw [] (fun wr => ∃ x : Nat, x ≤ p ∧ Hid (lo2 = downTo (lobeP E) x) ∧ Hid (RfP L S (.slice va n vc) p gr lo1 hi1 x p 0 w wr)) (fun wr => cellInt wr ⟨w.heap.size + 2, 4, none⟩)
                  case atStart => exact ⟨p, Nat.le_refl _, HD2, I1⟩
                  case round =>
                    clear I1 HD2
                    obtain ⟨x, hxp, HD2, IK⟩ := hrel
                    obtain ⟨wz, rfl⟩ : ∃ wz : World, wz = wr := ⟨_, rfl⟩
                    obtain ⟨c0, c1, c2, -, -, -, lc⟩ := three_cells IK.out.h0
                    obtain ⟨p0, p1, p2, p3, p4, p5, p6, pl⟩ := seven_cells IK.out.h2
                    have hcl : cellInt wz ⟨w.heap.size + 2, 4, none⟩ = x := by unfold cellInt; rw [p4]; simp
                    have hxb : x < S := by omega
                    obtain ⟨g, hg⟩ : ∃ g : Bool, g = (decide (0 < x) && (lobeP E) x (x - 1)) := ⟨_, rfl⟩
                    have HG := Lib.hid hg
                    clear hg
                    go_upto_region 15 with fail
                    go_cut [112] from 93 to 118 (fun c wx => c = .bool g ∧ Hid (RfP L S (.slice va n vc) p gr lo1 hi1 x p 0 w wx))
                    case first =>
                      by_cases hx0 : x = 0
                      · have hgf : g = false := by rw [HG.out, hx0]; rfl
                        subst hgf
                        subst hx0
                        go_quiet (fail)
                        go_wp2_with fail
                        go_meet
                        case rel => exact ⟨rfl, IK.out.next ((below_drewN' _ _ _))⟩
                      obtain ⟨y, hy⟩ : ∃ y : Nat, y = x - 1 := ⟨_, rfl⟩
                      have hyx : IntKind.i64.wrap ((x : Int) - 1) = (y : Int) := by rw [IntWalk.i64_in _ ⟨by omega, by omega⟩]; omega
                      have hyx2 : (x : Int) - 1 = (y : Int) := by omega
                      have hyw : IntKind.i64.wrap (y : Int) = (y : Int) := IntWalk.i64_in _ ⟨by omega, by omega⟩
                      have hx1 : (0 : Int) < (x : Int) := by omega
                      have hd1 : decide ((0 : Int) < (x : Int)) = true := decide_eq_true hx1
                      have hd2 : decide (0 < x) = true := decide_eq_true (by omega)
                      have hyS : y < S := by omega
                      have HG2 : Hid (g = (lobeP E) x y) := by rw [hy]; exact HG.out.trans (by rw [decide_eq_true (by omega : 0 < x), Bool.true_and])
                      have CKy := Lib.hid (fun W (h : Below wz.heap.size wz W) => CE.out W (IK.out.hb.trans (h.mono IK.out.hb.size)) y hyS)
                      have hEy := HEb.out y hyS
                      have CKx := Lib.hid (fun W (h : Below wz.heap.size wz W) => CE.out W (IK.out.hb.trans (h.mono IK.out.hb.size)) x hxb)
                      unfold lobeP at HG2
                      generalize E x = ex at *
                      generalize E y = ey at *
                      clear hy HG HEb CE HRS HX
                      by_cases hc : ey < ex
                      all_goals
                        first
                          | (have hgt : g = true := HG2.out.trans (decide_eq_true hc); subst hgt; have hcd := decide_eq_true hc)
                          | (have hgt : g = false := HG2.out.trans (decide_eq_false hc); subst hgt; have hcd := decide_eq_false hc)
                        clear HG2
                        go_region_held3 (fun W => W.cell? ⟨w.heap.size, 0, none⟩ = some (.int .i64 L) ∧ W.cell? ⟨w.heap.size, 1, none⟩ = some (.int .i64 S) ∧ W.cell? ⟨w.heap.size, 2, none⟩ = some (.slice va n vc) ∧ W.cell? ⟨w.heap.size + 1 + 1, 4, none⟩ = some (.int .i64 x)) (exact ⟨c0, c1, c2, p4⟩)
                          (first | (go_at_call 39; with_reducible refine (CKy.out _ (by repeat (first | with_reducible exact Below.refl _ _ | with_reducible refine Below.andThen ?_ hbI rfl | with_reducible refine Below.andThen ?_ hbJ rfl | with_reducible refine Below.drew ?_))).mono ?_; rintro e wI ⟨rfl, hbI⟩; have hBI : Below wz.heap.size wz wI := (by repeat (first | with_reducible exact Below.refl _ _ | with_reducible refine Below.andThen ?_ hbI rfl | with_reducible refine Below.andThen ?_ hbJ rfl | with_reducible refine Below.drew ?_)); have IE := Lib.hid (IK.out.next hBI); obtain ⟨c0, c1, c2, -, -, -, lc⟩ := three_cells IE.out.h0; obtain ⟨p0, p1, p2, p3, p4, p5, p6, pl⟩ := seven_cells IE.out.h2) | (go_at_call 39; with_reducible refine (CKx.out _ (by repeat (first | with_reducible exact Below.refl _ _ | with_reducible refine Below.andThen ?_ hbI rfl | with_reducible refine Below.andThen ?_ hbJ rfl | with_reducible refine Below.drew ?_))).mono ?_; rintro e wJ ⟨rfl, hbJ⟩; have hBJ : Below wz.heap.size wz wJ := (by repeat (first | with_reducible exact Below.refl _ _ | with_reducible refine Below.andThen ?_ hbI rfl | with_reducible refine Below.andThen ?_ hbJ rfl | with_reducible refine Below.drew ?_)); have IE := Lib.hid (IK.out.next hBJ); obtain ⟨c0, c1, c2, -, -, -, lc⟩ := three_cells IE.out.h0; obtain ⟨p0, p1, p2, p3, p4, p5, p6, pl⟩ := seven_cells IE.out.h2))
                        all_goals
                          go_wp2_with fail
                          go_meet
                          case rel => exact ⟨by first | rfl | rw [hcd], IE⟩
                    case rest =>
                      clear c0 c1 c2 lc p0 p1 p2 p3 p4 p5 p6 pl
                      obtain ⟨rfl, IC⟩ := hcut
                      obtain ⟨c0, c1, c2, -, -, -, lc⟩ := three_cells IC.out.h0
                      obtain ⟨p0, p1, p2, p3, p4, p5, p6, pl⟩ := seven_cells IC.out.h2
                      obtain ⟨f0, f1, f2, f3, f4, f5, f6⟩ := seven_frozen IC.out.h2
                      cases g with
                      | true =>
                        obtain ⟨hx1, hst⟩ := downTo_go HG.out.symm
                        have HD2 := Lib.hid (HD2.out.trans hst)
                        have hyx : (x : Int) - 1 = ((x - 1 : Nat) : Int) := by omega
                        have IN := Lib.hid (IC.out.put (pk' := p) (en' := gr) (a' := lo1) (b' := hi1) (c' := (x - 1 : Nat)) (d' := p) (sd' := 0) 4 (.int .i64 ((x - 1 : Nat) : Int)) rfl)
                        clear hst HG IK IC
                        go_wp2_with fail
                        go_roundw
                        case rel => exact ⟨x - 1, by omega, HD2, IN.out⟩
                        case measure =>
                          have := (seven_cells IN.out.h2).2.2.2.2.1
                          rw [hcl]
                          unfold cellInt
                          rw [this]
                          simp
                          omega
                      | false =>
                        have hD : lo2 = x := HD2.out.trans (downTo_stop HG.out.symm)
                        subst hD
                        have I1 := IC
                        clear HG IK IC hcl
                        go_wp2_with fail
                        clear c0 c1 c2 lc p0 p1 p2 p3 p4 p5 p6 pl f0 f1 f2 f3 f4 f5 f6
                        go_loopw [] (fun wr => ∃ x : Nat, p ≤ x ∧ x < S ∧ Hid (hi2 = upFrom (lobeP E) S x) ∧ Hid (RfP L S (.slice va n vc) p gr lo1 hi1 lo2 x 0 w wr)) (fun wr => S - cellInt wr ⟨w.heap.size + 2, 5, none⟩)
                        case atStart => exact ⟨p, Nat.le_refl _, hbl, HU2, I1⟩
                        case round =>
                          clear I1 HU2
                          obtain ⟨x, hxp, hxS, HU2, IK⟩ := hrel
                          obtain ⟨wz, rfl⟩ : ∃ wz : World, wz = wr := ⟨_, rfl⟩
                          obtain ⟨c0, c1, c2, -, -, -, lc⟩ := three_cells IK.out.h0
                          obtain ⟨p0, p1, p2, p3, p4, p5, p6, pl⟩ := seven_cells IK.out.h2
                          have hcl : cellInt wz ⟨w.heap.size + 2, 5, none⟩ = x := by unfold cellInt; rw [p5]; simp
                          have hxb : x < S := by omega
                          obtain ⟨g, hg⟩ : ∃ g : Bool, g = (decide (x + 1 < S) && (lobeP E) x (x + 1)) := ⟨_, rfl⟩
                          have HG := Lib.hid hg
                          clear hg
                          go_upto_region 17 with fail
                          go_cut [141] from 119 to 147 (fun c wx => c = .bool g ∧ Hid (RfP L S (.slice va n vc) p gr lo1 hi1 lo2 x 0 w wx))
                          case first =>
                            by_cases hx0 : ¬ x + 1 < S
                            · have hgf : g = false := by rw [HG.out, decide_eq_false hx0]; rfl
                              subst hgf
                              have hx1 : ¬ (x : Int) < (S : Int) - 1 := by omega
                              have hs1 : IntKind.i64.wrap ((S : Int) - 1) = (S : Int) - 1 := IntWalk.i64_in _ ⟨by omega, by omega⟩
                              go_quiet (fail)
                              go_wp2_with fail
                              go_meet
                              case rel => exact ⟨rfl, IK.out.next ((below_drewN' _ _ _))⟩
                            obtain ⟨y, hy⟩ : ∃ y : Nat, y = x + 1 := ⟨_, rfl⟩
                            have hyx : IntKind.i64.wrap ((x : Int) + 1) = (y : Int) := by rw [IntWalk.i64_in _ ⟨by omega, by omega⟩]; omega
                            have hyx2 : (x : Int) + 1 = (y : Int) := by omega
                            have hyw : IntKind.i64.wrap (y : Int) = (y : Int) := IntWalk.i64_in _ ⟨by omega, by omega⟩
                            have hx1 : (x : Int) < (S : Int) - 1 := by omega
                            have hd1 : decide ((x : Int) < (S : Int) - 1) = true := decide_eq_true hx1
                            have hs1 : IntKind.i64.wrap ((S : Int) - 1) = (S : Int) - 1 := IntWalk.i64_in _ ⟨by omega, by omega⟩
                            have hyS : y < S := by omega
                            have HG2 : Hid (g = (lobeP E) x y) := by rw [hy]; exact HG.out.trans (by rw [decide_eq_true (by omega : x + 1 < S), Bool.true_and])
                            have CKy := Lib.hid (fun W (h : Below wz.heap.size wz W) => CE.out W (IK.out.hb.trans (h.mono IK.out.hb.size)) y hyS)
                            have hEy := HEb.out y hyS
                            have CKx := Lib.hid (fun W (h : Below wz.heap.size wz W) => CE.out W (IK.out.hb.trans (h.mono IK.out.hb.size)) x hxb)
                            unfold lobeP at HG2
                            generalize E x = ex at *
                            generalize E y = ey at *
                            clear hy HG HEb CE HRS HX
                            by_cases hc : ey < ex
                            all_goals
                              first
                                | (have hgt : g = true := HG2.out.trans (decide_eq_true hc); subst hgt; have hcd := decide_eq_true hc)
                                | (have hgt : g = false := HG2.out.trans (decide_eq_false hc); subst hgt; have hcd := decide_eq_false hc)
                              clear HG2
                              go_region_held3 (fun W => W.cell? ⟨w.heap.size, 0, none⟩ = some (.int .i64 L) ∧ W.cell? ⟨w.heap.size, 1, none⟩ = some (.int .i64 S) ∧ W.cell? ⟨w.heap.size, 2, none⟩ = some (.slice va n vc) ∧ W.cell? ⟨w.heap.size + 1 + 1, 5, none⟩ = some (.int .i64 x)) (exact ⟨c0, c1, c2, p5⟩)
                                (first | (go_at_call 39; with_reducible refine (CKy.out _ (by repeat (first | with_reducible exact Below.refl _ _ | with_reducible refine Below.andThen ?_ hbI rfl | with_reducible refine Below.andThen ?_ hbJ rfl | with_reducible refine Below.drew ?_))).mono ?_; rintro e wI ⟨rfl, hbI⟩; have hBI : Below wz.heap.size wz wI := (by repeat (first | with_reducible exact Below.refl _ _ | with_reducible refine Below.andThen ?_ hbI rfl | with_reducible refine Below.andThen ?_ hbJ rfl | with_reducible refine Below.drew ?_)); have IE := Lib.hid (IK.out.next hBI); obtain ⟨c0, c1, c2, -, -, -, lc⟩ := three_cells IE.out.h0; obtain ⟨p0, p1, p2, p3, p4, p5, p6, pl⟩ := seven_cells IE.out.h2) | (go_at_call 39; with_reducible refine (CKx.out _ (by repeat (first | with_reducible exact Below.refl _ _ | with_reducible refine Below.andThen ?_ hbI rfl | with_reducible refine Below.andThen ?_ hbJ rfl | with_reducible refine Below.drew ?_))).mono ?_; rintro e wJ ⟨rfl, hbJ⟩; have hBJ : Below wz.heap.size wz wJ := (by repeat (first | with_reducible exact Below.refl _ _ | with_reducible refine Below.andThen ?_ hbI rfl | with_reducible refine Below.andThen ?_ hbJ rfl | with_reducible refine Below.drew ?_)); have IE := Lib.hid (IK.out.next hBJ); obtain ⟨c0, c1, c2, -, -, -, lc⟩ := three_cells IE.out.h0; obtain ⟨p0, p1, p2, p3, p4, p5, p6, pl⟩ := seven_cells IE.out.h2))
                              all_goals
                                go_wp2_with fail
                                go_meet
                                case rel => exact ⟨by first | rfl | rw [hcd], IE⟩
                          case rest =>
                            clear c0 c1 c2 lc p0 p1 p2 p3 p4 p5 p6 pl
                            obtain ⟨rfl, IC⟩ := hcut
                            obtain ⟨c0, c1, c2, -, -, -, lc⟩ := three_cells IC.out.h0
                            obtain ⟨p0, p1, p2, p3, p4, p5, p6, pl⟩ := seven_cells IC.out.h2
                            obtain ⟨f0, f1, f2, f3, f4, f5, f6⟩ := seven_frozen IC.out.h2
                            cases g with
                            | true =>
                              obtain ⟨hx1, hst⟩ := upFrom_go HG.out.symm
                              have HD2 := Lib.hid (HU2.out.trans hst)
                              have IN := Lib.hid (IC.out.put (pk' := p) (en' := gr) (a' := lo1) (b' := hi1) (c' := lo2) (d' := (x + 1 : Nat)) (sd' := 0) 5 (.int .i64 ((x + 1 : Nat) : Int)) rfl)
                              clear hst HG IK IC
                              go_wp2_with fail
                              go_roundw
                              case rel => exact ⟨x + 1, by omega, hx1, HD2, IN.out⟩
                              case measure =>
                                have := (seven_cells IN.out.h2).2.2.2.2.2.1
                                rw [show ((x + 1 : Nat) : Int) = (x : Int) + 1 from by omega] at this
                                rw [hcl]
                                unfold cellInt
                                rw [this]
                                simp
                                omega
                            | false =>
                              have hD : hi2 = x := HU2.out.trans (upFrom_stop HG.out.symm)
                              subst hD
                              have I1 := IC
                              clear HG IK IC hcl
                              go_wp2_with fail
                              clear c0 c1 c2 lc p0 p1 p2 p3 p4 p5 p6 pl f0 f1 f2 f3 f4 f5 f6
                              go_loopw [9] (fun i wr => ∃ k : Nat, k ≤ S ∧ i = .int .i64 k ∧ Hid (RfP L S (.slice va n vc) p gr lo1 hi1 lo2 hi2 (outMax E lo2 hi2 k) w wr)) (fun i _ => S - (intOf i).toNat)
                              case atStart => exact ⟨0, Nat.zero_le _, rfl, I1⟩
                              case round =>
                                clear I1
                                obtain ⟨k, hk, rfl, IK⟩ := hrel
                                obtain ⟨wz, rfl⟩ : ∃ wz : World, wz = wr := ⟨_, rfl⟩
                                obtain ⟨c0, c1, c2, -, -, -, lc⟩ := three_cells IK.out.h0
                                obtain ⟨p0, p1, p2, p3, p4, p5, p6, pl⟩ := seven_cells IK.out.h2
                                by_cases hlt : k < S
                                · have CW := Lib.hid (fun w => Within_any k lo2 hi2 w)
                                  have HS : Hid (outMax E lo2 hi2 (k + 1) = if k < lo2 ∨ hi2 < k then max (outMax E lo2 hi2 k) (E k) else outMax E lo2 hi2 k) := rfl
                                  obtain ⟨mx, hmx⟩ : ∃ x, x = outMax E lo2 hi2 k := ⟨_, rfl⟩
                                  rw [← hmx] at HS IK p6
                                  clear hmx
                                  by_cases hin : k < lo2 ∨ hi2 < k
                                  · rw [decide_eq_false (by omega)] at CW
                                    have HS2 : Hid (outMax E lo2 hi2 (k + 1) = max mx (E k)) := HS.out.trans (if_pos hin)
                                    have CKy := Lib.hid (fun W (h : Below wz.heap.size wz W) => CE.out W (IK.out.hb.trans (h.mono IK.out.hb.size)) k hlt)
                                    generalize E k = ey at *
                                    clear HS hin HRS HX
                                    go_wp2_with fail
                                    refine (CW.out _).mono ?_
                                    rintro e w' ⟨rfl, rfl⟩
                                    go_wp2_with fail
                                    go_region_with ((go_at_call 39; refine (CKy.out _ (Below.refl _ _).drew).mono ?_; rintro e wI ⟨rfl, hbI⟩; have hBI : Below wz.heap.size wz wI := ((Below.refl _ _).drew).trans hbI; have IE := Lib.hid (IK.out.next hBI); obtain ⟨c0, c1, c2, -, -, -, lc⟩ := three_cells IE.out.h0; obtain ⟨p0, p1, p2, p3, p4, p5, p6, pl⟩ := seven_cells IE.out.h2; obtain ⟨f0, f1, f2, f3, f4, f5, f6⟩ := seven_frozen IE.out.h2))
                                    all_goals
                                      go_wp2_with fail
                                      go_roundw
                                      case rel => exact ⟨k + 1, by omega, by go_num, by rw [HS2.out]; exact IE.out.put (pk' := p) (en' := gr) (a' := lo1) (b' := hi1) (c' := lo2) (d' := hi2) (sd' := max mx ey) 6 (.int .i64 (max mx ey)) rfl⟩
                                      case measure => simp [intOf]; omega
                                  · rw [decide_eq_true (by omega)] at CW
                                    have HS2 : Hid (outMax E lo2 hi2 (k + 1) = mx) := HS.out.trans (if_neg hin)
                                    clear HS hin HRS HX
                                    go_wp2_with fail
                                    refine (CW.out _).mono ?_
                                    rintro e w' ⟨rfl, rfl⟩
                                    go_wp2_with fail
                                    go_roundw
                                    case rel => exact ⟨k + 1, by omega, by go_num, by rw [HS2.out]; exact IK⟩
                                    case measure => simp [intOf]; omega
                                · have e : S = k := by omega
                                  subst e
                                  rw [← HSD.out] at IK p6
                                  obtain ⟨z0, z1, z2, z3, z4, z5, z6, zl⟩ := seven_cells IK.out.h1
                                  obtain ⟨y0, y1, y2, y3, y4, y5, y6⟩ := seven_frozen IK.out.h1
                                  have HB := Lib.hid IK.out.hb
                                  clear IK CE HEb
                                  go_wp2_with fail
                                  refine bodyPost_ret (v := .tuple #[pointV p gr lo1 hi1 lo2 hi2 sd, .bool true]) (by simp [results, Tryd.results12, go_sem, pointV, z0, z1, z2, z3, z4, z5, z6]) rfl ⟨?_, Below.set7 HB.out (by omega) _ _ _ _ _ _ _⟩
                                  rw [HX.out, HRS.out]
end Go.Proofs.YtmiaglkkjncfnaaDoor
