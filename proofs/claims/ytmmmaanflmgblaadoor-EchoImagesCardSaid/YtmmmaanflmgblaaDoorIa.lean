import Derived.Test.YtmmmaanflmgblaaDoorSb
import Derived.Test.YtmmmaanflmgblaaDoorDd
namespace Go.Proofs.YtmmmaanflmgblaaDoor
open Go.RowKit Go.Proofs.YtmmmaanflmgblaaDoor.Flt

/-- ranges as cells, two for each -/
def rvals (L : List (Nat × Nat)) : List Value := (List.range (2 * L.length)).map fun j => .int .i64 ((if j % 2 = 0 then (L.getD (j / 2) (0, 0)).1 else (L.getD (j / 2) (0, 0)).2 : Nat) : Int)
theorem rvals_length (L : List (Nat × Nat)) : (rvals L).length = 2 * L.length := by simp [rvals]
theorem rvals_get (L : List (Nat × Nat)) (j : Nat) (h : j < 2 * L.length) : (rvals L)[j]? = some (.int .i64 ((if j % 2 = 0 then (L.getD (j / 2) (0, 0)).1 else (L.getD (j / 2) (0, 0)).2 : Nat) : Int)) := by
  simp [rvals, List.getElem?_range h]
theorem rvals_none (L : List (Nat × Nat)) (j : Nat) (h : 2 * L.length ≤ j) : (rvals L)[j]? = none := List.getElem?_eq_none (by rw [rvals_length]; exact h)
theorem rvals_lo (L : List (Nat × Nat)) (i : Nat) (h : i < L.length) : (rvals L)[2 * i]? = some (.int .i64 ((L.getD i (0, 0)).1 : Nat)) := by
  rw [rvals_get L _ (by omega), if_pos (by omega), show 2 * i / 2 = i from by omega]
theorem rvals_hi (L : List (Nat × Nat)) (i : Nat) (h : i < L.length) : (rvals L)[2 * i + 1]? = some (.int .i64 ((L.getD i (0, 0)).2 : Nat)) := by
  rw [rvals_get L _ (by omega), if_neg (by omega), show (2 * i + 1) / 2 = i from by omega]

theorem getD_append (L : List (Nat × Nat)) (p : Nat × Nat) (i : Nat) : (L ++ [p]).getD i (0, 0) = if i = L.length then p else L.getD i (0, 0) := by
  simp only [List.getD_eq_getElem?_getD]
  by_cases h : i < L.length
  · rw [List.getElem?_append_left h, if_neg (by omega)]
  · by_cases h2 : i = L.length
    · subst h2; simp
    · rw [if_neg h2, List.getElem?_eq_none (by simp; omega), List.getElem?_eq_none (by omega)]

theorem rvals_append (L : List (Nat × Nat)) (p : Nat × Nat) : rvals (L ++ [p]) = rvals L ++ [.int .i64 (p.1 : Nat), .int .i64 (p.2 : Nat)] := by
  apply List.ext_getElem?
  intro j
  by_cases h : j < 2 * L.length
  · rw [List.getElem?_append_left (by rw [rvals_length]; exact h), rvals_get L j h, rvals_get _ j (by simp; omega), getD_append, if_neg (show ¬ j / 2 = L.length by omega)]
  · by_cases h2 : j = 2 * L.length
    · subst h2
      rw [List.getElem?_append_right (by rw [rvals_length]; exact Nat.le_refl _), rvals_length, Nat.sub_self, rvals_get _ _ (by simp), getD_append, if_pos (by omega), if_pos (by omega)]
      rfl
    · by_cases h3 : j = 2 * L.length + 1
      · subst h3
        rw [List.getElem?_append_right (by rw [rvals_length]; omega), rvals_length, show 2 * L.length + 1 - 2 * L.length = 1 from by omega, rvals_get _ _ (by simp; omega), getD_append, if_neg (by omega), if_pos (by omega)]
        rfl
      · rw [rvals_none _ _ (by simp; omega), List.getElem?_eq_none (by simp [rvals_length]; omega)]

/-- ranges with one more number behind them -/
def growR (L : List (Nat × Nat)) (l : Nat) : List (Nat × Nat) :=
  if 0 < L.length ∧ (L.getD (L.length - 1) (0, 0)).2 + 1 = l then L.set (L.length - 1) ((L.getD (L.length - 1) (0, 0)).1, l) else L ++ [(l, l)]
theorem growR_length (L : List (Nat × Nat)) (l : Nat) : (growR L l).length ≤ L.length + 1 := by
  unfold growR
  split <;> simp
theorem rvals_set (L : List (Nat × Nat)) (i l : Nat) (h : i < L.length) : rvals (L.set i ((L.getD i (0, 0)).1, l)) = (rvals L).set (2 * i + 1) (.int .i64 (l : Nat)) := by
  have hg : ∀ k, (L.set i ((L.getD i (0, 0)).1, l)).getD k (0, 0) = if k = i then ((L.getD i (0, 0)).1, l) else L.getD k (0, 0) := by
    intro k
    simp only [List.getD_eq_getElem?_getD, List.getElem?_set]
    by_cases hk : i = k
    · subst hk; rw [if_pos rfl, if_pos h, if_pos rfl]; rfl
    · rw [if_neg hk, if_neg (fun e => hk e.symm)]
  apply List.ext_getElem?
  intro j
  rw [List.getElem?_set]
  by_cases hj : j < 2 * L.length
  · rw [rvals_get _ j (by simpa using hj), hg, rvals_length]
    by_cases e : 2 * i + 1 = j
    · subst e
      rw [if_pos rfl, if_pos hj, if_neg (by omega), if_pos (by omega)]
    · rw [if_neg e, rvals_get L j hj]
      by_cases e2 : j / 2 = i
      · rw [if_pos e2, if_pos (by omega), if_pos (by omega), e2]
      · rw [if_neg e2]
  · rw [rvals_none _ j (by simp; omega), rvals_length]
    by_cases e : 2 * i + 1 = j
    · omega
    · rw [if_neg e, rvals_none L j (by omega)]

/-- the ranges of those of the first k numbers that are chosen -/
def rangesTo (p : Nat → Bool) : Nat → List (Nat × Nat)
  | 0 => []
  | k + 1 => if p k then growR (rangesTo p k) k else rangesTo p k
theorem rangesTo_length (p : Nat → Bool) : ∀ k, (rangesTo p k).length ≤ k
  | 0 => Nat.le_refl _
  | k + 1 => by
    have h1 := rangesTo_length p k
    have h2 := growR_length (rangesTo p k) k
    rw [rangesTo]
    split <;> omega
theorem growR_bound {L : List (Nat × Nat)} {l : Nat} (h : ∀ i, (L.getD i (0, 0)).2 ≤ l) : ∀ i, ((growR L l).getD i (0, 0)).2 ≤ l + 1 := by
  intro i
  unfold growR
  split
  · simp only [List.getD_eq_getElem?_getD, List.getElem?_set]
    split
    · split
      · simp
      · simp
    · have := h i
      rw [List.getD_eq_getElem?_getD] at this
      omega
  · rw [getD_append]
    split
    · simp
    · have := h i; omega
theorem rangesTo_bound (p : Nat → Bool) : ∀ k i, ((rangesTo p k).getD i (0, 0)).2 ≤ k
  | 0, i => by simp [rangesTo]
  | k + 1, i => by
    have h1 := rangesTo_bound p k
    rw [rangesTo]
    split
    · exact growR_bound h1 i
    · have := h1 i; omega

/-- the line l of an image is empty -/
def emptyL (zs : List (Nat × Nat)) (S l : Nat) : Bool := ((zs.drop (l * S)).take S).all (isZ .f32)

theorem info69 : (Tryd.prog.info? 69).map (fun i => (i.zero, i.size, i.bytes)) = some (some (.agg #[.int .i64 0, .int .i64 0]), 2, 16) := by kernel_rfl

/-- ranges under way, beside an image in its box -/
structure GpInv (lv sv : Int) (iv : Value) (L : List (Nat × Nat)) (w : World) (v : Value) (wr : World) : Prop where
  hb : Below w.heap.size w wr
  hx : wr.heap[w.heap.size]? = some (.cells #[.int .i64 lv, .int .i64 sv, iv] 32 (0, 0))
  ho : wr.ownsRow (w.heap.size + 1) 69 2 v L.length (rvals L)

theorem GpInv.put {lv sv : Int} {iv : Value} {L : List (Nat × Nat)} {w wr : World} {g n cap l : Nat} (h : GpInv lv sv iv L w (.slice (some ⟨g, 0, none⟩) n cap) wr) (hn : n = L.length) (h0 : 0 < n) (hl : (L.getD (n - 1) (0, 0)).2 + 1 = l) :
    GpInv lv sv iv (growR L l) w (.slice (some ⟨g, 0, none⟩) n cap) (wr.setCell ⟨g, (n - 1) * 2 + 1, none⟩ (.int .i64 (l : Nat))) := by
  subst hn
  rw [show (L.length - 1) * 2 + 1 = 2 * (L.length - 1) + 1 from by omega]
  have e : growR L l = L.set (L.length - 1) ((L.getD (L.length - 1) (0, 0)).1, l) := by unfold growR; rw [if_pos ⟨h0, hl⟩]
  have hg := (h.ho.lt g rfl).1
  refine ⟨h.hb.setCell (p := ⟨g, 2 * (L.length - 1) + 1, none⟩) (by show w.heap.size ≤ g; omega) _, (Below.heap_setCell _ _ _ _ (by show w.heap.size ≠ g; omega)).trans h.hx, ?_⟩
  rw [e, rvals_set L _ l (by omega), List.length_set]
  exact (h.ho.stored (2 * (L.length - 1) + 1) (.int .i64 (l : Nat))).1

theorem GpInv.add {lv sv : Int} {iv : Value} {L : List (Nat × Nat)} {w wr w' : World} {v v' : Value} {l : Nat} {o : Obj} (h : GpInv lv sv iv L w v wr) (hl : ¬ (0 < L.length ∧ (L.getD (L.length - 1) (0, 0)).2 + 1 = l))
    (hown : w'.ownsRow (w.heap.size + 1) 69 2 v' (L.length + 1) (rvals L ++ [.int .i64 (l : Nat), .int .i64 (l : Nat)])) (hgrow : (wr.alloc o).grownBy w' v.ownBlock) :
    GpInv lv sv iv (growR L l) w v' w' := by
  have e : growR L l = L ++ [(l, l)] := by unfold growR; rw [if_neg hl]
  have hs : (wr.alloc o).heap.size = wr.heap.size + 1 := by simp
  have hlt := lt_of_block h.hx
  refine ⟨(h.hb.alloc h.hb.size _).grown hgrow (by have := h.hb.size; simp; omega) (fun i e => by have := (h.ho.lt i e).1; omega), ?_, ?_⟩
  · rw [hgrow.block _ (by omega) (fun e => by have := (h.ho.lt _ e.symm).1; omega)]
    exact (Below.heap_alloc _ _ _ hlt).trans h.hx
  · rw [e, rvals_append, List.length_append]
    exact hown

set_option maxRecDepth 100000 in
set_option maxHeartbeats 4000000 in
theorem Gaps_ok (L S : Nat) (v : Value) (zs : List (Nat × Nat)) (w : World) (hv : Sl w v (cvals .f32 zs)) (hcap : ∀ a m c, v = .slice a m c → m ≤ c ∧ c ≤ 9223372036854775807) (hL1 : 1 ≤ L) (hL : L ≤ 64) (hS1 : 1 ≤ S) (hS : S ≤ 64) (hlen : zs.length = L * S) (hE : (dataErr .f32 2047 L S zs).2 = 0) :
    Calls Tryd.prog 15 #[.agg #[.int .i64 L, .int .i64 S, v]] w fun e w' => ∃ v', e = .returned (.tuple #[v', .int .i64 0]) ∧ Below w.heap.size w w' ∧ w'.ownsRow (w.heap.size + 1) 69 2 v' (rangesTo (emptyL zs S) L).length (rvals (rangesTo (emptyL zs S) L)) := by
  obtain ⟨W0, hW0⟩ : ∃ W0, W0 = w.alloc (.cells #[.int .i64 L, .int .i64 S, v] 32) := ⟨_, rfl⟩
  have hb : Below w.heap.size w W0 := by rw [hW0]; exact (Below.refl _ _).alloc (Nat.le_refl _) _
  have C := Lib.hid (CheckImage_any L S v zs W0 ⟨by omega, by omega⟩ ⟨by omega, by omega⟩ (hv.below hb (Nat.le_refl _)))
  rw [hE] at C
  have H0 : Hid (W0.heap[w.heap.size]? = some (.cells #[.int .i64 L, .int .i64 S, v] 32 (0, 0))) := by rw [hW0]; exact heap_alloc_new _ _
  have HB := Lib.hid hb
  have HW0 := Lib.hid hW0
  have HV := Lib.hid hv
  obtain ⟨ad, cap, rfl, hvl, -⟩ := hv
  obtain ⟨hc1, hc2⟩ := hcap _ _ _ rfl
  have hnc : (cvals .f32 zs).length = zs.length := by simp [cvals]
  rw [hnc] at hvl HV C H0 HW0 hc1 ⊢
  obtain ⟨n, hn⟩ : ∃ n, n = zs.length := ⟨_, rfl⟩
  rw [← hn] at hvl HV C H0 HW0 hlen hc1 ⊢
  have HN := Lib.hid (And.intro hn hlen)
  have hn4 : n ≤ 4096 := by rw [hlen]; exact Nat.le_trans (Nat.mul_le_mul hL hS) (by decide)
  have CZ : Hid (∀ W v zs, Sl W v (cvals .f32 zs) → Calls Tryd.prog 60 #[v] W fun e w' => e = .returned (.bool (zs.all (isZ .f32))) ∧ W = w') := fun W v zs h => allZero_any v zs W h
  obtain ⟨i0, hi, hz0, hz1, hz2⟩ := info_parts info69
  have HI := Lib.hid (And.intro hi (And.intro hz0 (And.intro hz1 hz2)))
  generalize (dataErr .f32 2047 (L : Int) S zs).1 = D1 at *
  clear hcap hb hW0 hnc hn hlen hi hz0 hz1 hz2 hE
  go_enter Tryd.func15, Tryd.ntmps15
  go_wp2_with fail
  rw [← HW0.out]
  refine C.out.mono ?_
  rintro e w2 ⟨rfl, hb2⟩
  have I0 : Hid (GpInv L S (.slice ad n cap) [] w (.slice none 0 0) w2) := ⟨HB.out.trans (hb2.mono HB.out.size), (hb2.block _ (lt_of_block H0.out)).trans H0.out, World.ownsRow_nil _ _ _ _⟩
  clear hb2 HB H0 HW0 C
  obtain ⟨c0, c1, c2, -, -, -, lc⟩ := three_cells I0.out.hx
  go_wp2_with fail
  go_loopw [6, 19] (fun gv i wr => ∃ (l : Nat) (v' : Value), l ≤ L ∧ i = .int .i64 l ∧ v' = gv ∧ Hid (GpInv L S (.slice ad n cap) (rangesTo (emptyL zs S) l) w v' wr)) (fun _ i _ => L - (intOf i).toNat)
  case atStart => exact ⟨0, _, Nat.zero_le _, rfl, rfl, I0⟩
  case round =>
    clear I0 c0 c1 c2 lc
    obtain ⟨l, v', hl, rfl, rfl, IK⟩ := hrel
    obtain ⟨wz, rfl⟩ : ∃ wz : World, wz = wr := ⟨_, rfl⟩
    obtain ⟨c0, c1, c2, -, -, -, lc⟩ := three_cells IK.out.hx
    by_cases hlt : l < L
    · have hq : l * S + S ≤ n := by rw [HN.out.2, ← Nat.succ_mul]; exact Nat.mul_le_mul_right _ hlt
      have M1 : Hid (wrap64 ((l : Int) * S) = ((l * S : Nat) : Int)) := by unfold Hid; rw [IntWalk.wrap64_in]; exact (Int.natCast_mul l S).symm; rw [← Int.natCast_mul]; omega
      have M2 : Hid (wrap64 (((l : Int) + 1) * S) = ((l * S + S : Nat) : Int)) := by
        have e : ((l : Int) + 1) * S = ((l * S + S : Nat) : Int) := by rw [Int.add_mul, Int.natCast_add, Int.natCast_mul]; simp
        unfold Hid
        rw [e, IntWalk.wrap64_in]; omega
      have HRT : Hid (rangesTo (emptyL zs S) (l + 1) = if emptyL zs S l then growR (rangesTo (emptyL zs S) l) l else rangesTo (emptyL zs S) l) := rfl
      have hbd := rangesTo_length (emptyL zs S) l
      have hhi := rangesTo_bound (emptyL zs S) l ((rangesTo (emptyL zs S) l).length - 1)
      have HEm : Hid (emptyL zs S l = ((zs.drop (l * S)).take S).all (isZ .f32)) := rfl
      generalize l * S = q at *
      obtain ⟨r, hr⟩ : ∃ r, r = q + S := ⟨_, rfl⟩
      rw [← hr] at M2 hq
      have s1 : q ≤ r := by omega
      have s2 : r ≤ cap := by omega
      have s4 : ¬ cap = q := by omega
      have s5 : q < cap := by omega
      have esz : r - q = S := by omega
      have HRQ := Lib.hid hr
      obtain ⟨-, b1, o1, rfl, q1, g1⟩ := HV.out.at (by omega)
      have hsub : Sl wz (.slice (some ⟨b1, o1 + q, none⟩) S (cap - q)) (cvals .f32 ((zs.drop q).take S)) := by
        have hln : ((zs.drop q).take S).length = S := by have := HN.out.1; simp; omega
        have hcl : (cvals .f32 ((zs.drop q).take S)).length = S := by unfold cvals; rw [List.length_map]; exact hln
        refine ⟨some ⟨b1, o1 + q, none⟩, cap - q, by rw [hcl], by rw [hcl]; omega, .inr ⟨b1, o1 + q, rfl, Nat.lt_of_lt_of_le q1 IK.out.hb.size, fun j x hx => ?_⟩⟩
        have hj : j < S := by
          rcases Nat.lt_or_ge j S with h | h
          · exact h
          · rw [List.getElem?_eq_none (by rw [hcl]; exact h)] at hx; cases hx
        rw [Nat.add_assoc]
        refine (IK.out.hb.cell (p := ⟨b1, o1 + (q + j), none⟩) q1).trans (g1 (q + j) x ?_)
        rw [← hx]
        unfold cvals
        rw [List.getElem?_map, List.getElem?_map, List.getElem?_take, if_pos hj, List.getElem?_drop]
      have CZ1 := Lib.hid (CZ.out wz _ _ hsub)
      rw [← HEm.out] at CZ1
      obtain ⟨RL, hRL⟩ : ∃ RL, RL = rangesTo (emptyL zs S) l := ⟨_, rfl⟩
      rw [← hRL] at hbd hhi IK HRT
      have HRL := Lib.hid hRL
      generalize emptyL zs S l = em at *
      clear hr g1 hsub HEm hRL
      cases em
      · have HN1 : Hid (rangesTo (emptyL zs S) (l + 1) = RL) := HRT.out
        have m1 := M1.out
        have m2 := M2.out
        go_wp2_with fail
        clear m1 m2
        try simp only [esz]
        refine CZ1.out.mono ?_
        rintro e w' ⟨rfl, rfl⟩
        go_wp2_with fail
        go_roundw
        case rel => exact ⟨l + 1, _, by omega, by go_num, rfl, by rw [HN1.out]; exact IK⟩
        case measure => simp [intOf]; omega
      · have HN1 : Hid (rangesTo (emptyL zs S) (l + 1) = growR RL l) := HRT.out
        by_cases h0 : 0 < RL.length
        · obtain ⟨g, cp, rfl, hg1, hg2⟩ := IK.out.ho.form h0
          have d1 : wz.cell? ⟨g, (RL.length - 1) * 2 + 1, none⟩ = some (.int .i64 ((RL.getD (RL.length - 1) (0, 0)).2 : Nat)) := (IK.out.ho.cellAt ((RL.length - 1) * 2 + 1) (by omega)).trans (by rw [show (RL.length - 1) * 2 + 1 = 2 * (RL.length - 1) + 1 from by omega]; exact rvals_hi RL (RL.length - 1) (by omega))
          have d2 : wz.frozen? ⟨g, (RL.length - 1) * 2 + 1, none⟩ = false := IK.out.ho.frozenAt _
          obtain ⟨k, hk⟩ : ∃ k, k = RL.length := ⟨_, rfl⟩
          rw [← hk] at d1 d2 h0 hbd hhi ⊢
          obtain ⟨hi2, hhi2⟩ : ∃ hi2, hi2 = (RL.getD (k - 1) (0, 0)).2 := ⟨_, rfl⟩
          rw [← hhi2] at d1 hhi
          have HK := Lib.hid (And.intro hk hhi2)
          by_cases hh : hi2 + 1 = l
          · have IN := Lib.hid (IK.out.put (l := l) rfl (by omega) (by rw [← hk, ← hhi2]; exact hh))
            rw [← hk] at IN
            have hbq : ((hi2 : Int) == (l : Int) - 1) = true := by rw [beq_iff_eq]; omega
            clear hk hhi2 hh
            have m1 := M1.out
            have m2 := M2.out
            go_wp2_with fail
            clear m1 m2
            try simp only [esz]
            refine CZ1.out.mono ?_
            rintro e w' ⟨rfl, rfl⟩
            go_wp2_with fail
            go_roundw
            case rel => exact ⟨l + 1, _, by omega, by go_num, rfl, by rw [HN1.out]; exact IN⟩
            case measure => simp [intOf]; omega
          · have hbq : ((hi2 : Int) == (l : Int) - 1) = false := by rw [beq_eq_false_iff_ne]; omega
            have HAdd : Hid (∀ v' w', w'.ownsRow (w.heap.size + 1) 69 2 v' (k + 1) (rvals RL ++ [.int .i64 (l : Nat), .int .i64 (l : Nat)]) → (wz.alloc (.cells #[.int .i64 l, .int .i64 l] 69)).grownBy w' (Value.slice (some ⟨g, 0, none⟩) k cp).ownBlock → GpInv L S (.slice (some ⟨b1, o1, none⟩) n cap) (growR RL l) w v' w') := fun v' w' h1 h2 => by
              rw [hk] at h1
              exact IK.out.add (by rw [← hk, ← hhi2]; omega) h1 h2
            have HO := Lib.hid IK.out.ho
            rw [← hk] at HO
            clear hk hhi2 hh IK
            have m1 := M1.out
            have m2 := M2.out
            go_wp2_with fail
            clear m1 m2
            try simp only [esz]
            refine CZ1.out.mono ?_
            rintro e w' ⟨rfl, rfl⟩
            go_wp2_with (at_builtin; refine wpList_append_own _ (by rfl) (.tmp 57) (.tmp 61) 34 (by rfl) (w.heap.size + 1) 69 i0 (.agg #[.int .i64 0, .int .i64 0]) 2 16 Tryd.underlying34 HI.out.1 HI.out.2.1 HI.out.2.2.1 HI.out.2.2.2 rfl (by decide) (.slice (some ⟨g, 0, none⟩) k cp) k (rvals RL) (by rfl) (HO.out.alloc _) ⟨wz.heap.size, 0, none⟩ 1 1 [.int .i64 l, .int .i64 l] (by rfl) rfl (two_new _ _ _ _) (by intro u hu; simp at hu; rw [hu]; rfl) (by unfold maxLen; omega) (by omega) (by simp; omega) ?_)
            intro v2 w4 hown hgrow _
            have HN := Lib.hid (HAdd.out v2 w4 hown hgrow)
            clear hown hgrow HAdd HO
            go_wp2_with fail
            go_roundw
            case rel => exact ⟨l + 1, _, by omega, by go_num, rfl, by rw [HN1.out]; exact HN⟩
            case measure => simp [intOf]; omega
        · obtain ⟨va, vc, rfl⟩ : ∃ va vc, v' = .slice va 0 vc := by
            have hk0 : RL.length = 0 := by omega
            rcases IK.out.ho.2 with ⟨h, -⟩ | ⟨g, cp, -, h, -⟩
            · exact ⟨_, _, h⟩
            · rw [hk0] at h; exact ⟨_, _, h⟩
          have hk0 : RL.length = 0 := by omega
          have HAdd : Hid (∀ v' w', w'.ownsRow (w.heap.size + 1) 69 2 v' (0 + 1) (rvals RL ++ [.int .i64 (l : Nat), .int .i64 (l : Nat)]) → (wz.alloc (.cells #[.int .i64 l, .int .i64 l] 69)).grownBy w' (Value.slice va 0 vc).ownBlock → GpInv L S (.slice (some ⟨b1, o1, none⟩) n cap) (growR RL l) w v' w') := fun v' w' h1 h2 => by
            rw [← hk0] at h1
            exact IK.out.add (by omega) h1 h2
          have HO := Lib.hid IK.out.ho
          rw [hk0] at HO
          clear hk0 h0 hbd hhi IK
          have m1 := M1.out
          have m2 := M2.out
          go_wp2_with fail
          clear m1 m2
          try simp only [esz]
          refine CZ1.out.mono ?_
          rintro e w' ⟨rfl, rfl⟩
          go_wp2_with (at_builtin; refine wpList_append_own _ (by rfl) (.tmp 57) (.tmp 61) 34 (by rfl) (w.heap.size + 1) 69 i0 (.agg #[.int .i64 0, .int .i64 0]) 2 16 Tryd.underlying34 HI.out.1 HI.out.2.1 HI.out.2.2.1 HI.out.2.2.2 rfl (by decide) (.slice va 0 vc) 0 (rvals RL) (by rfl) (HO.out.alloc _) ⟨wz.heap.size, 0, none⟩ 1 1 [.int .i64 l, .int .i64 l] (by rfl) rfl (two_new _ _ _ _) (by intro u hu; simp at hu; rw [hu]; rfl) (by unfold maxLen; omega) (by omega) (by simp; omega) ?_)
          intro v2 w4 hown hgrow _
          have HN := Lib.hid (HAdd.out v2 w4 hown hgrow)
          clear hown hgrow HAdd HO
          go_wp2_with fail
          go_roundw
          case rel => exact ⟨l + 1, _, by omega, by go_num, rfl, by rw [HN1.out]; exact HN⟩
          case measure => simp [intOf]; omega
    · have e : L = l := by omega
      subst e
      have HF := Lib.hid IK.out
      clear IK
      go_wp2_with fail
      go_ret2
      exact ⟨_, rfl, HF.out.hb, HF.out.ho⟩
end Go.Proofs.YtmmmaanflmgblaaDoor
