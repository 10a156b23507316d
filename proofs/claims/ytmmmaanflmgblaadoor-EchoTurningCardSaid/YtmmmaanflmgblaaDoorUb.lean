import Derived.Test.YtmmmaanflmgblaaDoorUa
import Derived.Test.YtmmmaanflmgblaaDoorBa
namespace Go.Proofs.YtmmmaanflmgblaaDoor
open Go.RowKit Go.Proofs.YtmmmaanflmgblaaDoor.Flt

theorem turnS_step (xs : List Int) (S q t : Nat) : cvals .f32 (turnS xs S q (t + 1)) = cvals .f32 (turnS xs S q t) ++ [.complex .f32 (enc Ieee.single (turnAt xs S q t).1) (enc Ieee.single (turnAt xs S q t).2)] := by
  unfold turnS cvals
  rw [List.range_succ, List.map_append, List.map_append]
  rfl

/-- an image under way whose lines turn -/
structure TuA (xs : List Int) (L S q bi : Nat) (w : World) (t : Nat) (v : Value) (wr : World) : Prop where
  hb : Below w.heap.size w wr
  hi : wr.heap[bi]? = some (.cells #[.int .i64 L, .int .i64 S, v] 32 (0, 0))
  ho : wr.ownsRow (bi + 1) 79 1 v t (cvals .f32 (turnS xs S q t))

theorem TuA.own_ne {xs : List Int} {L S q bi : Nat} {w wr : World} {t : Nat} {v : Value} (h : TuA xs L S q bi w t v wr) (i : Nat) (hi : i < bi + 1) : v.ownBlock ≠ some i := by
  intro e
  have := (h.ho.lt i e).1
  omega

def TuBox (L S bi : Nat) (w : World) (v : Value) (w' : World) : Prop :=
  Below w.heap.size w w' ∧ w'.heap[bi]? = some (.cells #[.int .i64 L, .int .i64 S, v] 32 (0, 0))

theorem TuA.after {xs : List Int} {L S q bi : Nat} {w wr W w' : World} {t : Nat} {v : Value} (h : TuA xs L S q bi w t v wr) (o : Obj) (hW : W.heap = (wr.alloc o).heap) (e1 : W.os = wr.os) (e2 : W.tape = wr.tape) (e3 : W.output = wr.output) (hg : W.grownBy w' v.ownBlock) (h0 : w.heap.size ≤ bi) :
    TuBox L S bi w v w' := by
  have hs : W.heap.size = wr.heap.size + 1 := by rw [hW]; simp
  have old : ∀ i, i < bi + 1 → i < wr.heap.size → w'.heap[i]? = wr.heap[i]? := by
    intro i hi hi'
    rw [hg.block i (by omega) (fun e => h.own_ne i hi e.symm), hW]
    exact Below.heap_alloc _ _ _ hi'
  have hb : Below w.heap.size w W := ⟨e1.trans h.hb.os, e2.trans h.hb.tape, e3.trans h.hb.output, by have := h.hb.size; omega, fun i hi => by rw [hW]; exact (Below.heap_alloc _ _ _ (Nat.lt_of_lt_of_le hi h.hb.size)).trans (h.hb.block i hi)⟩
  exact ⟨hb.grown hg hb.size (fun i e => by have := (h.ho.lt i e).1; omega), (old _ (by omega) (lt_of_block h.hi)).trans h.hi⟩

theorem TuA.next {xs : List Int} {L S q bi : Nat} {w w' : World} {t g cap' : Nat} {v : Value} (h : TuBox L S bi w v w') (h0 : w.heap.size ≤ bi)
    (ho : w'.ownsRow (bi + 1) 79 1 (.slice (some ⟨g, 0, none⟩) (t + 1) cap') (t + 1) (cvals .f32 (turnS xs S q t) ++ [.complex .f32 (enc Ieee.single (turnAt xs S q t).1) (enc Ieee.single (turnAt xs S q t).2)])) :
    TuA xs L S q bi w (t + 1) (.slice (some ⟨g, 0, none⟩) (t + 1) cap') (w'.setCell ⟨bi, 2, none⟩ (.slice (some ⟨g, 0, none⟩) (t + 1) cap')) := by
  obtain ⟨hb, hi⟩ := h
  refine ⟨hb.setCell (p := ⟨bi, 2, none⟩) h0 _, ?_, ?_⟩
  · rw [heap_setCell_same _ _ _ _ _ _ hi]; rfl
  · rw [turnS_step]
    have hg := (ho.lt g rfl).1
    exact ownsRow_setCell_other ho (by simp [Value.ownBlock]; omega) _

theorem TuA.drew {xs : List Int} {L S q bi : Nat} {w wr : World} {t : Nat} {v : Value} (h : TuA xs L S q bi w t v wr) : TuA xs L S q bi w t v wr.drew := ⟨h.hb.drew, h.hi, h.ho⟩

/-- some number among the first 2 S is not 0 -/
def someTo (xs : List Int) (S2 k : Nat) : Bool := (List.range k).any fun i => decide (i < S2) && (xs.getD i 0 != 0)
theorem someTo_step (xs : List Int) (S2 k : Nat) : someTo xs S2 (k + 1) = (someTo xs S2 k || (decide (k < S2) && (xs.getD k 0 != 0))) := by
  unfold someTo
  rw [List.range_succ, List.any_append]
  simp
theorem someTo_true {xs : List Int} {S2 k : Nat} (h : someTo xs S2 k = true) : ∃ j, j < S2 ∧ xs.getD j 0 ≠ 0 := by
  obtain ⟨j, -, h2⟩ := List.any_eq_true.1 h
  simp at h2
  exact ⟨j, h2.1, h2.2⟩

set_option maxRecDepth 100000 in
set_option maxHeartbeats 8000000 in
theorem turning_ok (va : Value) (xs : List Int) (L : Nat) (qq : Int) (w : World) (ha : Got xs w va) (h1 : 2 ≤ xs.length) (h2 : xs.length ≤ 120) (h3 : 2 ≤ L) (h4 : L ≤ 6) (ht : Tab w) :
    Calls Tryd.prog 7 #[va, .int .i64 L, .int .i64 qq] w fun e w' => e = .returned (.bool true) ∧ Below w.heap.size w w' := by
  have CA := Lib.hid (awake_any w ht)
  have A0 := Lib.hid ha
  obtain ⟨aa, ac, rfl, hla, -⟩ := ha.sl
  obtain ⟨n, hn⟩ : ∃ n, n = xs.length := ⟨_, rfl⟩
  have ex : (ivals xs).length = n := by simp [ivals, hn]
  rw [ex] at A0 ⊢
  rw [← hn] at h1 h2
  have HN := Lib.hid hn
  obtain ⟨S, hS⟩ : ∃ S, S = n / 2 := ⟨_, rfl⟩
  have hSi : IntKind.i64.wrap ((n : Int).tdiv 2) = S := by
    rw [Int.tdiv_eq_ediv_of_nonneg (by omega), IntWalk.i64_in _ ⟨by omega, by omega⟩]
    omega
  obtain ⟨S2, hS2⟩ : ∃ S2, S2 = S * 2 := ⟨_, rfl⟩
  have hS2i : (S : Int) * 2 = S2 := by omega
  have hS2w : IntKind.i64.wrap ((S : Int) * 2) = S2 := by rw [hS2i]; exact IntWalk.i64_in _ ⟨by omega, by omega⟩
  have hSd : (n : Int) / 2 = S := by omega
  have hSn : 2 * S ≤ n := by omega
  have hS1 : 1 ≤ S := by omega
  have hS3 : S ≤ 60 := by omega
  have hS2n : S2 ≤ 2 * S := by omega
  clear hS hS2
  have CSm := Lib.hid (fun a b w => Sample_any a b w)
  have CW := Lib.hid (fun w => Within_any (L : Int) 2 6 w)
  rw [decide_eq_true (by omega)] at CW
  obtain ⟨i0, hi, hz0, hz1, hz2⟩ := info_parts Tryd.info109
  have HI := Lib.hid (And.intro hi (And.intro hz0 (And.intro hz1 hz2)))
  have hd1 : decide (n < 2) = false := by rw [decide_eq_false_iff_not]; omega
  have hd2 : decide (120 < n) = false := by rw [decide_eq_false_iff_not]; omega
  clear ha ht hla hn ex hi hz0 hz1 hz2
  go_enter Tryd.func7, Tryd.ntmps7
  go_wp2_with fail
  refine CA.out.mono ?_
  rintro e w1 ⟨rfl, hb1⟩
  have HB1 := Lib.hid hb1
  have A1 := Lib.hid (A0.out.below hb1)
  clear hb1 A0 CA
  go_wp2_with fail
  refine (CW.out _).mono ?_
  rintro e w' ⟨rfl, rfl⟩
  go_wp2_with fail
  go_loop [7, 8] (fun sv i => ∃ k : Nat, k ≤ n ∧ i = .int .i64 k ∧ sv = .bool (someTo xs S2 k) ∧ Hid (∀ i, i < k → (xs.getD i 0).natAbs ≤ 2047)) (fun _ i => n - (intOf i).toNat)
  case atStart => exact ⟨0, Nat.zero_le _, rfl, rfl, fun i h => absurd h (Nat.not_lt_zero _)⟩
  case round =>
    obtain ⟨k, hk, rfl, rfl, HK⟩ := hrel
    by_cases hlt : k < n
    · obtain ⟨-, b1, o1, rfl, q1, g1⟩ := A1.out.sl.at (by omega)
      have hkx : k < xs.length := by have := HN.out; omega
      have d1 : w1.cell? ⟨b1, o1 + k, none⟩ = some (.int .i64 (xs.getD k 0)) := g1 k _ (ivals_get hkx)
      have CV := Lib.hid (fun w => Within_any (xs.getD k 0) (-2047) 2047 w)
      have HF := Lib.hid (someTo_step xs S2 k)
      by_cases hx : (xs.getD k 0).natAbs ≤ 2047
      · rw [decide_eq_true (by omega)] at CV
        have HX : Hid (∀ i, i < k + 1 → (xs.getD i 0).natAbs ≤ 2047) := fun i hi => by
          rcases Nat.lt_or_ge i k with h | h
          · exact HK.out i h
          · rw [show i = k from by omega]; exact hx
        generalize xs.getD k 0 = x at *
        generalize someTo xs S2 k = fl at *
        clear g1 hx HK
        cases fl
        · by_cases hks : k < S2
          · rw [decide_eq_true hks] at HF
            go_wp2_with fail
            refine (CV.out _).mono ?_
            rintro e w' ⟨rfl, rfl⟩
            go_wp2_with fail
            go_round
            case rel => exact ⟨k + 1, by omega, by go_num, by rw [HF.out]; first | rfl | simp, HX⟩
            case measure => simp [intOf]; omega
          · rw [decide_eq_false hks] at HF
            go_wp2_with fail
            refine (CV.out _).mono ?_
            rintro e w' ⟨rfl, rfl⟩
            go_wp2_with fail
            go_round
            case rel => exact ⟨k + 1, by omega, by go_num, by rw [HF.out]; first | rfl | simp, HX⟩
            case measure => simp [intOf]; omega
        · go_wp2_with fail
          refine (CV.out _).mono ?_
          rintro e w' ⟨rfl, rfl⟩
          go_wp2_with fail
          go_round
          case rel => exact ⟨k + 1, by omega, by go_num, by rw [HF.out]; first | rfl | simp, HX⟩
          case measure => simp [intOf]; omega
      · rw [decide_eq_false (by omega)] at CV
        generalize xs.getD k 0 = x at *
        go_wp2_with fail
        refine (CV.out _).mono ?_
        rintro e w' ⟨rfl, rfl⟩
        go_wp2_with fail
        go_ret
        exact ⟨rfl, HB1.out⟩
    · have e : n = k := by omega
      subst e
      have hxs : ∀ x ∈ xs, x.natAbs ≤ 2047 := by
        intro x hx
        obtain ⟨i, hi, rfl⟩ := List.getElem_of_mem hx
        have := HK.out i (by have := HN.out; omega)
        rwa [List.getD_eq_getElem?_getD, List.getElem?_eq_getElem hi] at this
      cases hs : someTo xs S2 n with
      | false =>
        clear hxs HK
        go_wp2_with fail
        go_ret
        exact ⟨rfl, HB1.out⟩
      | true =>
        obtain ⟨jj, hj1, hj2⟩ := someTo_true hs
        clear hs
        obtain ⟨q, hq⟩ : ∃ q : Nat, qq % 4 = q := ⟨(qq % 4).toNat, by omega⟩
        have hq4 : q < 4 := by omega
        have CM := Lib.hid (fun w => Mod_any qq 4 (by decide) (by decide) w)
        rw [hq] at CM
        have HT := Lib.hid (tot_pos xs L S jj h3 (by omega) hj2)
        have HXs := Lib.hid hxs
        have HLS : Hid ((L - 1) * S ≤ 1000 ∧ L * S ≤ 1000) := ⟨Nat.le_trans (Nat.mul_le_mul (show L - 1 ≤ 6 by omega) hS3) (by decide), Nat.le_trans (Nat.mul_le_mul h4 hS3) (by decide)⟩
        clear hxs HK hj1 hj2 hq hk hlt
        obtain ⟨bi, hbi⟩ : ∃ bi, bi = w1.heap.size := ⟨_, rfl⟩
        have I0 : Hid (TuA xs L S q bi w1 (0 * S) (.slice none 0 0) (w1.alloc (.cells #[.int .i64 L, .int .i64 S, .slice none 0 0] 32))) := by
          refine ⟨(Below.refl _ _).alloc (Nat.le_refl _) _, ?_, ?_⟩
          · rw [hbi]; exact heap_alloc_new _ _
          · rw [Nat.zero_mul]; exact World.ownsRow_nil _ _ _ _
        have hbi0 : w1.heap.size ≤ bi := by omega
        go_wp2_with fail
        refine (CM.out _).mono ?_
        rintro e w' ⟨rfl, rfl⟩
        go_wp2_with fail
        rw [← hbi]
        clear hbi CM
        go_loopw [11, 12, 13, 14, 15] (fun li _ _ _ _ wr => ∃ (l : Nat) (v : Value), l ≤ L ∧ li = .int .i64 l ∧ Hid (TuA xs L S q bi w1 (l * S) v wr)) (fun li _ _ _ _ _ => L - (intOf li).toNat)
        case atStart => exact ⟨0, _, Nat.zero_le _, rfl, I0⟩
        case round =>
          clear I0
          obtain ⟨l, v0, hl, rfl, IK⟩ := hrel
          obtain ⟨wo, rfl⟩ : ∃ wo : World, wo = wr := ⟨_, rfl⟩
          obtain ⟨x0, x1, x2, -, -, -, lx⟩ := three_cells IK.out.hi
          by_cases hll : l < L
          · clear x0 x1 x2 lx
            go_wp2_with fail
            go_loopw [12, 13, 14, 15] (fun si _ _ _ wr => ∃ (s : Nat) (v : Value), s ≤ S ∧ si = .int .i64 s ∧ Hid (TuA xs L S q bi w1 (l * S + s) v wr)) (fun si _ _ _ _ => S - (intOf si).toNat)
            case atStart => exact ⟨0, v0, Nat.zero_le _, rfl, IK⟩
            case round =>
              clear IK
              obtain ⟨s, v, hs, rfl, IS⟩ := hrel
              obtain ⟨wz, rfl⟩ : ∃ wz : World, wz = wr := ⟨_, rfl⟩
              obtain ⟨x0, x1, x2, y0, y1, y2, lx⟩ := three_cells IS.out.hi
              by_cases hls : s < S
              · obtain ⟨-, b1, o1, rfl, q1, g1⟩ := A1.out.sl.at (by omega)
                have hk1 : 2 * s < xs.length := by have := HN.out; omega
                have hk2 : 2 * s + 1 < xs.length := by have := HN.out; omega
                have d1 : wz.cell? ⟨b1, o1 + 2 * s, none⟩ = some (.int .i64 (xs.getD (2 * s) 0)) := (IS.out.hb.cell (p := ⟨b1, o1 + 2 * s, none⟩) q1).trans (g1 _ _ (ivals_get hk1))
                have d2 : wz.cell? ⟨b1, o1 + (2 * s + 1), none⟩ = some (.int .i64 (xs.getD (2 * s + 1) 0)) := (IS.out.hb.cell (p := ⟨b1, o1 + (2 * s + 1), none⟩) q1).trans (g1 _ _ (ivals_get hk2))
                obtain ⟨P, hP⟩ : ∃ P, P = partAt xs s := ⟨_, rfl⟩
                have hP1 : xs.getD (2 * s) 0 = P.1 := by rw [hP]; rfl
                have hP2 : xs.getD (2 * s + 1) 0 = P.2 := by rw [hP]; rfl
                have hB1 : P.1.natAbs ≤ 2047 := by rw [← hP1]; exact getD_bd HXs.out _
                have hB2 : P.2.natAbs ≤ 2047 := by rw [← hP2]; exact getD_bd HXs.out _
                rw [hP1] at d1
                rw [hP2] at d2
                obtain ⟨j, hj⟩ : ∃ j, j = 2 * s := ⟨_, rfl⟩
                rw [← hj] at d1 d2
                have r1 : IntKind.i64.wrap (2 * (s : Int)) = (j : Int) := by rw [IntWalk.i64_in _ ⟨by omega, by omega⟩]; omega
                have e1 : IntKind.i64.wrap ((j : Int) + 1) = (j : Int) + 1 := IntWalk.i64_in _ ⟨by omega, by omega⟩
                have e2 : ((j : Int) + 1).toNat = j + 1 := by omega
                have e3 : (0 : Int) ≤ (j : Int) + 1 := by omega
                have e4 : (j : Int) + 1 < (n : Int) := by omega
                have e5 : (j : Int) < n := by omega
                obtain ⟨ql, hql⟩ : ∃ ql, ql = q * l := ⟨_, rfl⟩
                have hqli0 : (q : Int) * l = ql := by rw [hql, Int.natCast_mul]
                have hql2 : ql ≤ 24 := by rw [hql]; exact Nat.le_trans (Nat.mul_le_mul (show q ≤ 4 by omega) (show l ≤ 6 by omega)) (by decide)
                have hqli : IntKind.i64.wrap ((q : Int) * l) = ql := by rw [hqli0]; exact IntWalk.i64_in _ ⟨by omega, by omega⟩
                clear hqli0
                obtain ⟨r, hr⟩ : ∃ r, r = ql % 4 := ⟨_, rfl⟩
                have hri : (ql : Int) % 4 = r := by omega
                have hri2 : (ql : Int).tmod 4 = r := by rw [Int.tmod_eq_emod_of_nonneg (by omega)]; exact hri
                have hr4 : r < 4 := by omega
                have HA : Hid (turnAt xs S q (l * S + s) = trn r P) := by
                  unfold Hid turnAt
                  rw [show (l * S + s) / S = l from by rw [Nat.mul_comm, Nat.mul_add_div (by omega), Nat.div_eq_of_lt hls, Nat.add_zero], show (l * S + s) % S = s from by rw [Nat.mul_comm, Nat.mul_add_mod, Nat.mod_eq_of_lt hls], ← hql, ← hr, ← hP]
                have HJ := Lib.hid hj
                clear hP hP1 hP2 hk1 hk2 g1 hj hr hql
                have ISd := Lib.hid IS.out.drew
                go_wp2_with fail
                go_region
                obtain ⟨wd, hwd⟩ : ∃ wd, wd = wz.drew := ⟨_, rfl⟩
                rw [← hwd] at ISd ⊢
                clear IS x0 x1 x2 y0 y1 y2 lx d1 d2 hwd
                go_wp2_with fail
                go_loop [13, 14, 15] (fun xv yv kv => ∃ k : Nat, k ≤ r ∧ kv = .int .i64 k ∧ xv = .int .i64 (trn k P).1 ∧ yv = .int .i64 (trn k P).2) (fun _ _ kv => r - (intOf kv).toNat)
                case atStart => exact ⟨0, Nat.zero_le _, rfl, rfl, rfl⟩
                case round =>
                  obtain ⟨k, hk, rfl, rfl, rfl⟩ := hrel
                  obtain ⟨t1, t2⟩ := trn_b k P 2047 hB1 hB2
                  by_cases hlk : k < r
                  · have HS1 : Hid ((trn (k + 1) P).1 = -(trn k P).2 ∧ (trn (k + 1) P).2 = (trn k P).1) := ⟨rfl, rfl⟩
                    generalize (trn k P).1 = a at *
                    generalize (trn k P).2 = b at *
                    go_wp2_with fail
                    go_round
                    case rel => exact ⟨k + 1, by omega, by go_num, by rw [HS1.out.1], by rw [HS1.out.2]⟩
                    case measure => simp [intOf]; omega
                  · have e : r = k := by omega
                    subst e
                    have HTA : Hid (turnAt xs S q (l * S + s) = ((trn r P).1, (trn r P).2)) := HA.out
                    have CS := Lib.hid (fun w => CSm.out (trn r P).1 (trn r P).2 (by omega) (by omega) w)
                    obtain ⟨X, hX⟩ : ∃ X, X = enc Ieee.single (trn r P).1 := ⟨_, rfl⟩
                    obtain ⟨Y, hY⟩ : ∃ Y, Y = enc Ieee.single (trn r P).2 := ⟨_, rfl⟩
                    rw [← hX, ← hY] at CS
                    have HXY := Lib.hid (And.intro hX hY)
                    generalize (trn r P).1 = a at *
                    generalize (trn r P).2 = b at *
                    obtain ⟨t, ht⟩ : ∃ t, t = l * S + s := ⟨_, rfl⟩
                    have htb : t ≤ 1000 := by
                      have h5 : l * S + S ≤ L * S := by rw [← Nat.succ_mul]; exact Nat.mul_le_mul_right _ hll
                      have := HLS.out.2
                      omega
                    have HTE := Lib.hid ht
                    rw [← ht] at ISd HTA
                    obtain ⟨x0, x1, x2, y0, y1, y2, lx⟩ := three_cells ISd.out.hi
                    have P1 : Hid (((wd.alloc (.cells #[.complex .f32 X Y] 79)).drew).ownsRow (bi + 1) 79 1 v t (cvals .f32 (turnS xs S q t))) := ISd.out.ho.alloc _
                    have P2 : Hid (∀ (j : Nat) (u : Value), [Value.complex .f32 X Y][j]? = some u → ((wd.alloc (.cells #[.complex .f32 X Y] 79)).drew).cell? ((⟨wd.heap.size, 0, none⟩ : Addr).add j) = some u) := cell1_new _ _ _
                    have P3 : Hid (∀ u ∈ [Value.complex .f32 X Y], u.oneCell' = true) := by intro u hu; simp at hu; rw [hu]; rfl
                    have P4 : Hid (t + 1 ≤ maxLen) := by unfold Hid maxLen; omega
                    have P5 : Hid ((t + 1) * 8 ≤ 140737488355328) := by unfold Hid; omega
                    have P6 : Hid (bi + 1 ≤ ((wd.alloc (.cells #[.complex .f32 X Y] 79)).drew).heap.size) := by unfold Hid; simp [World.drew]; omega
                    have P7 : Hid (((wd.alloc (.cells #[.complex .f32 X Y] 79)).drew).heap.size = wd.heap.size + 1) := by unfold Hid; simp [World.drew]
                    clear hX hY ht HA
                    go_wp2_with fail
                    go_region_law ((first | (refine step_append_lies _ rfl (.tmp 104) (.tmp 108) 30 rfl (bi + 1) 79 i0 (.complex .f32 0 0) 1 8 Tryd.underlying30 HI.out.1 HI.out.2.1 HI.out.2.2.1 HI.out.2.2.2 rfl Nat.zero_lt_one v t (cvals .f32 (turnS xs S q t)) rfl P1.out ⟨wd.heap.size, 0, none⟩ 1 1 [.complex .f32 X Y] rfl rfl P2.out P3.out Nat.zero_lt_one P4.out P5.out P6.out (wd.heap.size + 1) P7.out ?_; intro g cap' w' hown' hgrow hor hlt'; have HB := Lib.hid (ISd.out.after (W := (wd.alloc (.cells #[.complex .f32 X Y] 79)).drew) (.cells #[.complex .f32 X Y] 79) rfl rfl rfl rfl hgrow hbi0); have HO := Lib.hid hown'; obtain ⟨b0, b1, b2, b3, b4, b5, b6⟩ := three_cells HB.out.2; clear hown' hgrow hor) | (go_simp; go_at_call 38; refine (CS.out _).mono ?_; rintro e w' ⟨rfl, rfl⟩)))
                    all_goals
                      go_wp2_with fail
                      go_roundw
                      case rel =>
                        refine ⟨s + 1, .slice (some ⟨g, 0, none⟩) (t + 1) cap', by omega, by go_num, ?_⟩
                        have HO' := HO.out
                        rw [HXY.out.1, HXY.out.2] at HO'
                        have := TuA.next (xs := xs) (q := q) HB.out hbi0 (by rw [HTA.out]; exact HO')
                        rw [show l * S + (s + 1) = t + 1 from by have := HTE.out; omega]
                        exact this
                      case measure => simp [intOf]; omega
              · have e : S = s := by omega
                subst e
                have IN : Hid (TuA xs L S q bi w1 ((l + 1) * S) v wz) := by
                  unfold Hid
                  rw [Nat.succ_mul]; exact IS.out
                clear IS
                go_wp2_with fail
                go_roundw
                case rel => exact ⟨l + 1, v, by omega, by go_num, IN.out⟩
                case measure => simp [intOf]; omega
          · have e : L = l := by omega
            subst e
            have hv : Hid (Smp .f32 (turnS xs S q (L * S)) wo v0) := ⟨Sl.of_owns IK.out.ho (by have := HLS.out.2; omega)⟩
            have HBo := Lib.hid (HB1.out.trans (IK.out.hb.mono HB1.out.size))
            obtain ⟨t1, t2⟩ := turn_sums xs L S q HXs.out hS1 hq4
            have tl := tot_le xs S ((L - 1) * S) HXs.out HLS.out.1
            have hc : (cosq q).natAbs ≤ 1 ∧ (sinq q).natAbs ≤ 1 := by unfold cosq sinq; constructor <;> (repeat' split) <;> decide
            have hp1 : (cosq q * totSq xs S ((L - 1) * S)).natAbs ≤ 100000000000 := by rw [Int.natAbs_mul]; exact Nat.le_trans (Nat.mul_le_mul hc.1 tl) (by decide)
            have hp2 : (sinq q * totSq xs S ((L - 1) * S)).natAbs ≤ 100000000000 := by rw [Int.natAbs_mul]; exact Nat.le_trans (Nat.mul_le_mul hc.2 tl) (by decide)
            have CD := Doppler_ok L S v0 (turnS xs S q (L * S)) wo hv.out.sl h3 (by omega) hS1 (by omega) (turnS_length _ _ _ _) (turn_right xs S q _ HXs.out) (turn_image xs L S q HXs.out (by omega) (by omega) hS1 (by omega)) (by rw [t1]; exact hp1) (by rw [t2]; exact hp2)
            rw [t1, t2, phS_turn q hq4 _ HT.out] at CD
            have HCD := Lib.hid CD
            have CWr := Lib.hid (fun w => Wrap_any (1024 * (q : Int)) w)
            obtain ⟨va, vn, vc, rfl⟩ : ∃ va vn vc, v0 = .slice va vn vc := by
              rcases IK.out.ho.2 with ⟨h, -⟩ | ⟨g, cp, -, h, -⟩
              · exact ⟨_, _, _, h⟩
              · exact ⟨_, _, _, h⟩
            generalize wrapI (1024 * (q : Int)) = R at *
            clear CD t1 t2 tl hc hp1 hp2 IK hv HXs HT HLS A1 CSm HI
            go_wp2_with fail
            refine HCD.out.mono ?_
            rintro e w3 ⟨rfl, hb⟩
            have HB3 := Lib.hid (HBo.out.trans (hb.mono HBo.out.size))
            clear hb
            go_wp2_with fail
            refine (CWr.out _).mono ?_
            rintro e w' ⟨rfl, rfl⟩
            go_wp2_with fail
            go_ret
            exact ⟨by first | rfl | (simp; done), HB3.out⟩

set_option maxRecDepth 100000 in
set_option maxHeartbeats 1000000 in
theorem turning_long (va : Value) (xs : List Int) (L qq : Int) (w : World) (ha : Got xs w va) (h : xs.length < 2 ∨ 120 < xs.length ∨ ¬ (2 ≤ L ∧ L ≤ 6)) (ht : Tab w) :
    Calls Tryd.prog 7 #[va, .int .i64 L, .int .i64 qq] w fun e w' => e = .returned (.bool true) ∧ Below w.heap.size w w' := by
  have CA := Lib.hid (awake_any w ht)
  obtain ⟨aa, ac, rfl, hla, -⟩ := ha.sl
  have ex : (ivals xs).length = xs.length := by simp [ivals]
  rw [ex] at hla ⊢
  have CW := Lib.hid (fun w => Within_any L 2 6 w)
  have h' : xs.length < 2 ∨ (¬ xs.length < 2 ∧ 120 < xs.length) ∨ (¬ xs.length < 2 ∧ ¬ 120 < xs.length ∧ ¬ (2 ≤ L ∧ L ≤ 6)) := by omega
  clear h ha ht ex
  generalize xs.length = n at *
  rcases h' with h1 | ⟨h1, h2⟩ | ⟨h1, h2, h3⟩
  · go_enter Tryd.func7, Tryd.ntmps7
    go_wp2_with fail
    refine CA.out.mono ?_
    rintro e w1 ⟨rfl, hb⟩
    have HB1 := Lib.hid hb
    clear hb
    go_wp2_with fail
    go_ret
    exact ⟨rfl, HB1.out⟩
  · go_enter Tryd.func7, Tryd.ntmps7
    go_wp2_with fail
    refine CA.out.mono ?_
    rintro e w1 ⟨rfl, hb⟩
    have HB1 := Lib.hid hb
    clear hb
    go_wp2_with fail
    go_ret
    exact ⟨rfl, HB1.out⟩
  · rw [decide_eq_false h3] at CW
    clear h3
    go_enter Tryd.func7, Tryd.ntmps7
    go_wp2_with fail
    refine CA.out.mono ?_
    rintro e w1 ⟨rfl, hb⟩
    have HB1 := Lib.hid hb
    clear hb
    go_wp2_with fail
    refine (CW.out _).mono ?_
    rintro e w' ⟨rfl, rfl⟩
    go_wp2_with fail
    go_ret
    exact ⟨rfl, HB1.out⟩

theorem turning_any (va : Value) (xs : List Int) (L qq : Int) (w : World) (ha : Got xs w va) (ht : Tab w) :
    Calls Tryd.prog 7 #[va, .int .i64 L, .int .i64 qq] w fun e w' => e = .returned (.bool true) ∧ Below w.heap.size w w' := by
  by_cases h : xs.length < 2 ∨ 120 < xs.length ∨ ¬ (2 ≤ L ∧ L ≤ 6)
  · exact turning_long va xs L qq w ha h ht
  · obtain ⟨l, rfl⟩ : ∃ l : Nat, L = l := ⟨L.toNat, by omega⟩
    exact turning_ok va xs l qq w ha (by omega) (by omega) (by omega) (by omega) ht
end Go.Proofs.YtmmmaanflmgblaaDoor
