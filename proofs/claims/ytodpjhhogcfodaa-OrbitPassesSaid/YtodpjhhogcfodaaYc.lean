import Derived.Test.YtodpjhhogcfodaaSr
import Derived.Test.YtodpjhhogcfodaaSx
import Derived.Deep.RegionHeld3
import Derived.Laws.OwnMore
import Derived.Outline
namespace Go.Proofs.Ytodpjhhogcfodaa.Orb
open Go.RowKit Lib

/-- at a step of a region that draws its order: an append to a row of its own -/
theorem step_append_own {P : Program} {w : World} {ops : Array Oper} {o : Oper} {a : Act} {K : Act → World → Prop} {Q : Exit → Act → World → Prop} {E : Prop} (hgd : o.guard = none) (s x : Operand) (t : TypeId)
    (ho : o.op = .call { callee := .builtin .append, args := #[s, x], argTypes := #[t, t] })
    (base : Nat) (e : TypeId) (i : TypeInfo) (z : Value) (size bytes : Nat) (ht : P.underlying t = some (.slice e)) (hi : P.info? e = some i) (hz : i.zero = some z)
    (hsize : i.size = size) (hby : i.bytes = bytes) (hzs : z.cells.size = size) (hsz : 0 < size)
    (v : Value) (n : Nat) (xs : List Value) (hs : a.eval s = v) (hown : w.ownsRow base e size v n xs)
    (ad : Addr) (m c : Nat) (news : List Value) (hx : a.eval x = .slice (some ad) m c) (hl : news.length = m * size) (hnews : ∀ j u, news[j]? = some u → w.cell? (ad.add j) = some u) (h1 : ∀ u ∈ news, u.oneCell' = true)
    (h63 : n + m ≤ maxLen) (hbytes : (n + m) * bytes ≤ 140737488355328) (hbase : base ≤ w.heap.size)
    (h : ∀ v' w', w'.ownsRow base e size v' (n + m) (xs ++ news) → w.grownBy w' v.ownBlock → (v' = .slice none 0 0 ↔ v = .slice none 0 0 ∧ m = 0) → K (a.put o.dst v') w') :
    if Region.wanted o (yielded ops a.tmps) = true then Oper.wp P o a w K Q else E := by
  have hw : Region.wanted o (yielded ops a.tmps) = true := by simp [Region.wanted, hgd]
  rw [if_pos hw]
  exact wp_append_own w s x t ho base e i z size bytes ht hi hz hsize hby hzs hsz v n xs hs hown ad m c news hx hl hnews h1 h63 hbytes hbase h

theorem rvI_one (R : List (Int × Int)) : ∀ u ∈ rvI R, u.oneCell' = true := by
  intro u hu
  obtain ⟨p, -, hp⟩ := List.mem_flatMap.1 hu
  simp at hp
  rcases hp with rfl | rfl <;> rfl

/-- ranges in a row that begins a block; or none, and nil -/
def RgsN (R : List (Int × Int)) (W : World) (v : Value) : Prop :=
  (R = [] ∧ v = .slice none 0 0) ∨ ∃ g cap, 0 < R.length ∧ v = .slice (some ⟨g, 0, none⟩) R.length cap ∧ R.length ≤ cap ∧ cap ≤ maxLen ∧ g < W.heap.size ∧ ∀ j x, (rvI R)[j]? = some x → W.cell? ⟨g, j, none⟩ = some x
theorem RgsN.below {L : List (Int × Int)} {W W' : World} {v : Value} (h : RgsN L W v) (hb : Below W.heap.size W W') : RgsN L W' v := by
  rcases h with h | ⟨g, cap, h0, h1, h2, h3, h4, h5⟩
  · exact .inl h
  · exact .inr ⟨g, cap, h0, h1, h2, h3, Nat.lt_of_lt_of_le h4 hb.size, fun j x hx => (hb.cell (p := ⟨g, j, none⟩) h4).trans (h5 j x hx)⟩
theorem RgsN.of_owns {L : List (Int × Int)} {W : World} {v : Value} {B : Nat} (h : W.ownsRow B 42 2 v L.length (rvI L)) (h0 : 0 < L.length) : RgsN L W v := by
  rcases h.2 with ⟨h1, h2⟩ | ⟨g, cap, cur, h1, h2, h3, h4, h5, h6, h7⟩
  · exact .inl ⟨List.length_eq_zero_iff.1 h2, h1⟩
  · refine .inr ⟨g, cap, h0, h1, h4, h5, lt_of_block h3, fun j x hx => ?_⟩
    have hj : j < L.length * 2 := by
      rcases Nat.lt_or_ge j (L.length * 2) with h | h
      · exact h
      · rw [rvI_none L j (by omega)] at hx; cases hx
    subst h1
    exact (h.cellAt j hj).trans hx
theorem RgsN.rgs {L : List (Int × Int)} {W : World} {v : Value} (h : RgsN L W v) : Rgs L W v := by
  rcases h with ⟨rfl, rfl⟩ | ⟨g, cap, -, rfl, h2, h3, h4, h5⟩
  · exact ⟨⟨none, 0, rfl, .inl rfl⟩⟩
  · exact ⟨⟨_, cap, rfl, .inr ⟨g, 0, rfl, h4, fun j x hx => by rw [Nat.zero_add]; exact h5 j x hx⟩⟩⟩

/-- what grown hands back -/
def GrownR (R : List (Int × Int)) (w : World) (e : Ending) (w' : World) : Prop := ∃ v', e = .returned v' ∧ Below w.heap.size w w' ∧ RgsN R w' v'

set_option maxRecDepth 100000 in
set_option maxHeartbeats 4000000 in
/-- RANGES WITH ONE MORE TICK BEHIND THEM, anew -/
theorem grown_any (v : Value) (R : List (Int × Int)) (t : Int) (ht0 : 0 ≤ t) (ht1 : t ≤ 1000000000) (hR : R.length ≤ 100000) (w : World) (hv : RgsN R w v) :
    Calls Try.prog 74 #[v, .int .i64 t] w (GrownR (growI R t) w) := by
  obtain ⟨i0, hi, hz0, hz1, hz2⟩ := info_parts infoRg
  have HI := Lib.hid (And.intro hi (And.intro hz0 (And.intro hz1 hz2)))
  have HO : Hid (∀ a b, ∀ u ∈ ([Value.int .i64 a, .int .i64 b] : List Value), u.oneCell' = true) := by
    intro a b u hu
    simp at hu
    rcases hu with rfl | rfl <;> rfl
  have HN : Hid (∀ (W : World) (a b : Int) j u, ([Value.int .i64 a, .int .i64 b] : List Value)[j]? = some u → (W.alloc (.cells #[.int .i64 a, .int .i64 b] 42)).cell? ((⟨W.heap.size, 0, none⟩ : Addr).add j) = some u) := by
    intro W a b j u hu
    rw [add_none, Nat.zero_add, cell_of_row _ _ _ _ _ _ (heap_alloc_new W (.cells #[.int .i64 a, .int .i64 b] 42)), ← hu]
    simp
  have HM : Hid (∀ W : World, (W.alloc (.cells #[] 42)).ownsRow W.heap.size 42 2 (.slice (some ⟨W.heap.size, 0, none⟩) 0 0) 0 []) := fun W =>
    World.ownsRow_made W #[] 0 (Nat.le_refl _) (by unfold maxLen; omega) rfl
  clear hi hz0 hz1 hz2
  rcases hv with ⟨rfl, rfl⟩ | ⟨g, cap, hpos, rfl, hc1, hc2, hg, hcell⟩
  · rw [growI_nil]
    clear hR
    have H1 := Lib.hid (HM.out w)
    go_enter Try.func74, Try.ntmps74
    go_wp2_with (at_builtin; refine wpList_append_own _ (by rfl) (.tmp 39) (.tmp 43) 29 (by rfl) w.heap.size 42 i0 (.agg #[.int .i64 0, .int .i64 0]) 2 16 Try.underlying29 HI.out.1 HI.out.2.1 HI.out.2.2.1 HI.out.2.2.2 rfl (by decide) (.slice (some ⟨w.heap.size, 0, none⟩) 0 0) 0 [] (by rfl) (H1.out.alloc _) ⟨w.heap.size + 1, 0, none⟩ 1 1 [.int .i64 t, .int .i64 t] (by rfl) (by rfl) (by have := HN.out (w.alloc (.cells #[] 42)) t t; simpa using this) (HO.out t t) (by unfold maxLen; omega) (by omega) (by simp; omega) ?_)
    intro v2 w2 hown2 hgrow2 hiff
    have HOW := Lib.hid hown2
    have HB2 := Lib.hid (show Below w.heap.size w w2 from ((new_below w (.cells #[] 42)).alloc (by simp) _).grown hgrow2 (by simp; omega) (fun k e => by simp [Value.ownBlock] at e; omega))
    clear hown2 hgrow2 hiff
    go_wp2_with fail
    go_ret
    exact ⟨_, rfl, HB2.out, RgsN.of_owns HOW.out (by simp)⟩
  · rcases List.eq_nil_or_concat R with hnil | ⟨S, ⟨lo, hi'⟩, rfl⟩
    · subst hnil; cases hpos
    clear hpos
    rw [List.concat_eq_append] at *
    obtain ⟨n, hn⟩ : ∃ n, n = S.length := ⟨_, rfl⟩
    have hl : (S ++ [(lo, hi')]).length = n + 1 := by simp [hn]
    rw [hl] at hR hc1
    have hlo : w.cell? ⟨g, n * 2, none⟩ = some (.int .i64 lo) := hcell _ _ (by rw [rvI_append, List.getElem?_append_right (by rw [rvI_len]; omega), rvI_len, show n * 2 - 2 * S.length = 0 from by omega]; rfl)
    have hhi : w.cell? ⟨g, n * 2 + 1, none⟩ = some (.int .i64 hi') := hcell _ _ (by rw [rvI_append, List.getElem?_append_right (by rw [rvI_len]; omega), rvI_len, show n * 2 + 1 - 2 * S.length = 1 from by omega]; rfl)
    have HC := Lib.hid (show ∀ W, Below w.heap.size w W → ∀ j u, (rvI (S ++ [(lo, hi')]))[j]? = some u → W.cell? ((⟨g, 0, none⟩ : Addr).add j) = some u by
      intro W hW j u hu
      rw [add_none, Nat.zero_add]
      exact keepc hW (hcell j u hu))
    have HCS := Lib.hid (show ∀ W, Below w.heap.size w W → ∀ j u, (rvI S)[j]? = some u → W.cell? ((⟨g, 0, none⟩ : Addr).add j) = some u by
      intro W hW j u hu
      rw [add_none, Nat.zero_add]
      refine keepc hW (hcell j u ?_)
      rw [rvI_append, List.getElem?_append_left]
      · exact hu
      · rcases Nat.lt_or_ge j (rvI S).length with h | h
        · exact h
        · rw [List.getElem?_eq_none h] at hu; cases hu)
    have HLR := Lib.hid (show (rvI (S ++ [(lo, hi')])).length = (n + 1) * 2 by rw [rvI_len, hl]; omega)
    have HLS := Lib.hid (show (rvI S).length = n * 2 by rw [rvI_len, hn]; omega)
    have HL := Lib.hid hl
    have HSN := Lib.hid hn
    have hmx : maxLen ≤ 9223372036854775807 := by unfold maxLen; omega
    have hmx2 : 100002 ≤ maxLen := by unfold maxLen; omega
    rw [hl]
    by_cases hc : hi' = t - 1
    · have hg' := growI_in S lo hi' t hc
      have HG := Lib.hid hg'
      have hb1 : (hi' == t - 1) = true := by rw [hc]; exact beq_self_eq_true _
      have hKS := Lib.hid hlo
      have hsz : g < w.heap.size := hg
      clear hg' hc hcell hn hl
      have hi1 : IntKind.i64.wrap (((n + 1 : Nat) : Int) - 1) = (n : Int) := by rw [show ((n + 1 : Nat) : Int) - 1 = (n : Int) from by omega]; exact IntWalk.i64_in _ (by omega)
      have hi1b : IntKind.i64.wrap (n : Int) = (n : Int) := IntWalk.i64_in _ (by omega)
      have hi1c : IntKind.i64.wrap ((n : Int) + 1 - 1) = (n : Int) := by rw [show (n : Int) + 1 - 1 = (n : Int) from by omega]; exact hi1b
      have hi2 : (0 : Int) ≤ (n : Int) := by omega
      have hi3b : (n : Int) < (n : Int) + 1 := by omega
      have hi3c : ((n : Int)).toNat = n := by omega
      have hi3 : (n : Int) < ((n + 1 : Nat) : Int) := by omega
      have hi4 : (n : Int) ≤ (cap : Int) := by omega
      have hi5 : n ≤ cap := by omega
      have F1 := Lib.hid (show (w.drew.alloc (.cells #[] 42)).ownsRow w.heap.size 42 2 (.slice (some ⟨w.heap.size, 0, none⟩) 0 0) 0 [] from HM.out w.drew)
      have F2 := Lib.hid (show ((w.drew.alloc (.cells #[] 42)).alloc (.cells #[.int .i64 lo, .int .i64 t] 42)).ownsRow w.heap.size 42 2 (.slice (some ⟨w.heap.size, 0, none⟩) 0 0) 0 [] from (HM.out w.drew).alloc _)
      have F3 := Lib.hid (show ((w.drew.alloc (.cells #[.int .i64 lo, .int .i64 t] 42)).alloc (.cells #[] 42)).ownsRow w.heap.size 42 2 (.slice (some ⟨w.heap.size + 1, 0, none⟩) 0 0) 0 [] by
        have e : (w.drew.alloc (.cells #[.int .i64 lo, .int .i64 t] 42)).heap.size = w.heap.size + 1 := by simp
        have h := owns_base (B' := w.heap.size) (HM.out (w.drew.alloc (.cells #[.int .i64 lo, .int .i64 t] 42))) (by rw [e]; omega)
        rw [e] at h
        exact h)
      have L1 := Lib.hid (show Below w.heap.size w (w.drew.alloc (.cells #[] 42)) by (repeat (first | with_reducible exact Below.refl _ _ | with_reducible exact HB2.out | with_reducible exact HB1.out | with_reducible refine alloc1 ?_ _ | with_reducible refine Below.drew ?_)))
      have G1 := Lib.hid (HCS.out (w.drew.alloc (.cells #[] 42)) L1.out)
      have Z1 := Lib.hid L1.out.size
      have L2 := Lib.hid (show Below w.heap.size w ((w.drew.alloc (.cells #[] 42)).alloc (.cells #[.int .i64 lo, .int .i64 t] 42)) by (repeat (first | with_reducible exact Below.refl _ _ | with_reducible exact HB2.out | with_reducible exact HB1.out | with_reducible refine alloc1 ?_ _ | with_reducible refine Below.drew ?_)))
      have G2 := Lib.hid (HCS.out ((w.drew.alloc (.cells #[] 42)).alloc (.cells #[.int .i64 lo, .int .i64 t] 42)) L2.out)
      have Z2 := Lib.hid L2.out.size
      have L3 := Lib.hid (show Below w.heap.size w ((w.drew.alloc (.cells #[.int .i64 lo, .int .i64 t] 42)).alloc (.cells #[] 42)) by (repeat (first | with_reducible exact Below.refl _ _ | with_reducible exact HB2.out | with_reducible exact HB1.out | with_reducible refine alloc1 ?_ _ | with_reducible refine Below.drew ?_)))
      have G3 := Lib.hid (HCS.out ((w.drew.alloc (.cells #[.int .i64 lo, .int .i64 t] 42)).alloc (.cells #[] 42)) L3.out)
      have Z3 := Lib.hid L3.out.size
      have NN2 : Hid (∀ w1 : World, ((w.drew.alloc (.cells #[] 42)).alloc (.cells #[.int .i64 lo, .int .i64 t] 42)).grownBy w1 (some w.heap.size) → ∀ j u, ([Value.int .i64 lo, .int .i64 t] : List Value)[j]? = some u → w1.cell? ((⟨w.heap.size + 1, 0, none⟩ : Addr).add j) = some u) := by
        intro w1 hg j u hu
        have hb := hg.block (w.heap.size + 1) (by simp) (by simp)
        have := HN.out (w.drew.alloc (.cells #[] 42)) lo t j u hu
        rw [add_none] at this ⊢
        exact (World.cell?_of_block hb).trans (by simpa using this)
      have NN3 : Hid (∀ w1 : World, ((w.drew.alloc (.cells #[.int .i64 lo, .int .i64 t] 42)).alloc (.cells #[] 42)).grownBy w1 (some (w.heap.size + 1)) → ∀ j u, ([Value.int .i64 lo, .int .i64 t] : List Value)[j]? = some u → w1.cell? ((⟨w.heap.size, 0, none⟩ : Addr).add j) = some u) := by
        intro w1 hg j u hu
        have hb := hg.block w.heap.size (by simp; omega) (by simp)
        have h1 := HN.out w.drew lo t j u hu
        have h2 := (new_below (w.drew.alloc (.cells #[.int .i64 lo, .int .i64 t] 42)) (.cells #[] 42)).cell (p := ⟨w.heap.size, 0 + j, none⟩) (by simp)
        rw [add_none] at h1 ⊢
        exact (World.cell?_of_block hb).trans (h2.trans h1)
      go_enter Try.func74, Try.ntmps74
      go_upto_region 3 with fail
      go_region_held3 (fun W => W.cell? ⟨g, n * 2, none⟩ = some (.int .i64 lo)) (first | (exact keepc (by (repeat (first | with_reducible exact Below.refl _ _ | with_reducible exact HB2.out | with_reducible exact HB1.out | with_reducible refine alloc1 ?_ _ | with_reducible refine Below.drew ?_))) hKS.out))
        (first
          | (refine step_append_own (by rfl) (.tmp 26) (.tmp 35) 29 (by rfl) w.heap.size 42 i0 (.agg #[.int .i64 0, .int .i64 0]) 2 16 Try.underlying29 HI.out.1 HI.out.2.1 HI.out.2.2.1 HI.out.2.2.2 rfl (by decide) v1 n (rvI S) (by rfl) OWA.out ⟨w1.heap.size, 0, none⟩ 1 1 [.int .i64 lo, .int .i64 t] (by rfl) (by rfl) NWA.out (HO.out lo t) (by omega) (by omega) LBA.out.size ?_; intro v2 w2 hown2 hgrow2 hiff2; have HB2 := Lib.hid (Below.grown LBA.out hgrow2 LBA.out.size (fun k e => (OWA.out.lt k e).1)); have HO2 := Lib.hid (show w2.ownsRow w.heap.size 42 2 v2 (S ++ [(lo, t)]).length (rvI (S ++ [(lo, t)])) by rw [List.length_append, rvI_append, ← HSN.out]; exact hown2); clear hown2 hgrow2 hiff2)
          | (refine step_append_own (by rfl) (.tmp 26) (.tmp 35) 29 (by rfl) w.heap.size 42 i0 (.agg #[.int .i64 0, .int .i64 0]) 2 16 Try.underlying29 HI.out.1 HI.out.2.1 HI.out.2.2.1 HI.out.2.2.2 rfl (by decide) v1 n (rvI S) (by rfl) OWB.out ⟨w.heap.size + 1, 0, none⟩ 1 1 [.int .i64 lo, .int .i64 t] (by rfl) (by rfl) NWB.out (HO.out lo t) (by omega) (by omega) HB1.out.size ?_; intro v2 w2 hown2 hgrow2 hiff2; have HB2 := Lib.hid (Below.grown HB1.out hgrow2 HB1.out.size (fun k e => (OWB.out.lt k e).1)); have HO2 := Lib.hid (show w2.ownsRow w.heap.size 42 2 v2 (S ++ [(lo, t)]).length (rvI (S ++ [(lo, t)])) by rw [List.length_append, rvI_append, ← HSN.out]; exact hown2); clear hown2 hgrow2 hiff2)
          | (refine step_append_own (by rfl) (.tmp 26) (.tmp 35) 29 (by rfl) w.heap.size 42 i0 (.agg #[.int .i64 0, .int .i64 0]) 2 16 Try.underlying29 HI.out.1 HI.out.2.1 HI.out.2.2.1 HI.out.2.2.2 rfl (by decide) v1 n (rvI S) (by rfl) OWC.out ⟨w.heap.size, 0, none⟩ 1 1 [.int .i64 lo, .int .i64 t] (by rfl) (by rfl) NWC.out (HO.out lo t) (by omega) (by omega) HB1.out.size ?_; intro v2 w2 hown2 hgrow2 hiff2; have HB2 := Lib.hid (Below.grown HB1.out hgrow2 HB1.out.size (fun k e => (OWC.out.lt k e).1)); have HO2 := Lib.hid (show w2.ownsRow w.heap.size 42 2 v2 (S ++ [(lo, t)]).length (rvI (S ++ [(lo, t)])) by rw [List.length_append, rvI_append, ← HSN.out]; exact hown2); clear hown2 hgrow2 hiff2)
          | (refine step_append_own (by rfl) (.tmp 21) (.tmp 25) 29 (by rfl) w.heap.size 42 i0 (.agg #[.int .i64 0, .int .i64 0]) 2 16 Try.underlying29 HI.out.1 HI.out.2.1 HI.out.2.2.1 HI.out.2.2.2 rfl (by decide) (.slice (some ⟨w.heap.size, 0, none⟩) 0 0) 0 [] (by rfl) F1.out ⟨g, 0, none⟩ n cap (rvI S) (by rfl) HLS.out G1.out (rvI_one S) (by omega) (by omega) Z1.out ?_; intro v1 w1 hown1 hgrow1 hiff1; have HB1 := Lib.hid (Below.grown L1.out hgrow1 Z1.out (fun k e => by simp [Value.ownBlock] at e; omega)); have OP := Lib.hid (show w1.ownsRow w.heap.size 42 2 v1 n (rvI S) by simpa using hown1); have OWA := Lib.hid (OP.out.alloc (.cells #[.int .i64 lo, .int .i64 t] 42)); have NWA := Lib.hid (HN.out w1 lo t); have LBA := Lib.hid (alloc1 HB1.out (.cells #[.int .i64 lo, .int .i64 t] 42)); clear hown1 hgrow1 hiff1)
          | (refine step_append_own (by rfl) (.tmp 21) (.tmp 25) 29 (by rfl) w.heap.size 42 i0 (.agg #[.int .i64 0, .int .i64 0]) 2 16 Try.underlying29 HI.out.1 HI.out.2.1 HI.out.2.2.1 HI.out.2.2.2 rfl (by decide) (.slice (some ⟨w.heap.size, 0, none⟩) 0 0) 0 [] (by rfl) F2.out ⟨g, 0, none⟩ n cap (rvI S) (by rfl) HLS.out G2.out (rvI_one S) (by omega) (by omega) Z2.out ?_; intro v1 w1 hown1 hgrow1 hiff1; have HB1 := Lib.hid (Below.grown L2.out hgrow1 Z2.out (fun k e => by simp [Value.ownBlock] at e; omega)); have OWB := Lib.hid (show w1.ownsRow w.heap.size 42 2 v1 n (rvI S) by simpa using hown1); have NWB := Lib.hid (NN2.out w1 hgrow1); clear hown1 hgrow1 hiff1)
          | (refine step_append_own (by rfl) (.tmp 21) (.tmp 25) 29 (by rfl) w.heap.size 42 i0 (.agg #[.int .i64 0, .int .i64 0]) 2 16 Try.underlying29 HI.out.1 HI.out.2.1 HI.out.2.2.1 HI.out.2.2.2 rfl (by decide) (.slice (some ⟨w.heap.size + 1, 0, none⟩) 0 0) 0 [] (by rfl) F3.out ⟨g, 0, none⟩ n cap (rvI S) (by rfl) HLS.out G3.out (rvI_one S) (by omega) (by omega) Z3.out ?_; intro v1 w1 hown1 hgrow1 hiff1; have HB1 := Lib.hid (Below.grown L3.out hgrow1 Z3.out (fun k e => by simp [Value.ownBlock] at e; omega)); have OWC := Lib.hid (show w1.ownsRow w.heap.size 42 2 v1 n (rvI S) by simpa using hown1); have NWC := Lib.hid (NN3.out w1 hgrow1); clear hown1 hgrow1 hiff1))
      all_goals
        go_wp2_with fail
        go_ret
        exact ⟨_, rfl, HB2.out, by rw [HG.out]; exact RgsN.of_owns HO2.out (by simp)⟩
    · have hg' := growI_out S lo hi' t hc
      have HG := Lib.hid hg'
      have hb1 : (hi' == t - 1) = false := by rw [beq_eq_false_iff_ne]; exact hc
      have H1 := Lib.hid (HM.out w)
      clear hg' hc hcell hn hl
      go_enter Try.func74, Try.ntmps74
      go_wp2_with (at_builtin; refine wpList_append_own _ (by rfl) (.tmp 37) (.tmp 38) 29 (by rfl) w.heap.size 42 i0 (.agg #[.int .i64 0, .int .i64 0]) 2 16 Try.underlying29 HI.out.1 HI.out.2.1 HI.out.2.2.1 HI.out.2.2.2 rfl (by decide) (.slice (some ⟨w.heap.size, 0, none⟩) 0 0) 0 [] (by rfl) H1.out ⟨g, 0, none⟩ (n + 1) cap (rvI (S ++ [(lo, hi')])) (by rfl) HLR.out (HC.out _ (new_below _ _)) (rvI_one _) (by omega) (by omega) (by simp) ?_)
      intro v1 w1 hown1 hgrow1 hiff1
      have HB1 := Lib.hid (show Below w.heap.size w w1 from (new_below w (.cells #[] 42)).grown hgrow1 (by simp) (fun k e => by simp [Value.ownBlock] at e; omega))
      have HO1 := Lib.hid (show w1.ownsRow w.heap.size 42 2 v1 (n + 1) (rvI (S ++ [(lo, hi')])) by simpa using hown1)
      clear hown1 hgrow1 hiff1 H1
      go_wp2_with (at_builtin; refine wpList_append_own _ (by rfl) (.tmp 39) (.tmp 43) 29 (by rfl) w.heap.size 42 i0 (.agg #[.int .i64 0, .int .i64 0]) 2 16 Try.underlying29 HI.out.1 HI.out.2.1 HI.out.2.2.1 HI.out.2.2.2 rfl (by decide) v1 (n + 1) (rvI (S ++ [(lo, hi')])) (by rfl) (HO1.out.alloc _) ⟨w1.heap.size, 0, none⟩ 1 1 [.int .i64 t, .int .i64 t] (by rfl) (by rfl) (HN.out w1 t t) (HO.out t t) (by omega) (by omega) (by simp; have := HB1.out.size; omega) ?_)
      intro v2 w2 hown2 hgrow2 hiff2
      have HB2 := Lib.hid (show Below w.heap.size w w2 from (alloc1 HB1.out (.cells #[.int .i64 t, .int .i64 t] 42)).grown hgrow2 (by simp; have := HB1.out.size; omega) (fun k e => (HO1.out.lt k e).1))
      have HO2 := Lib.hid (show w2.ownsRow w.heap.size 42 2 v2 (S ++ [(lo, hi')] ++ [(t, t)]).length (rvI (S ++ [(lo, hi')] ++ [(t, t)])) by rw [List.length_append, rvI_append, HL.out]; exact hown2)
      clear hown2 hgrow2 hiff2
      go_wp2_with fail
      go_ret
      exact ⟨_, rfl, HB2.out, by rw [HG.out]; exact RgsN.of_owns HO2.out (by simp)⟩
end Go.Proofs.Ytodpjhhogcfodaa.Orb
