import Derived.Test.YtmbolmmcfnfamaaZw
import Derived.Test.YtmbolmmcfnfamaaVc
import Derived.Test.YtmbolmmcfnfamaaZf
namespace Go.Proofs.Ytmbolmmcfnfamaa.Orb
open Go.RowKit Lib

/-! The states as they really were: TopBetweenVectors' first loop. -/
def dvI (part : Nat → Nat → Int) (nw : Nat) (L : List St) (k i : Nat) : Int := part (k % nw) i % (2 * (gt L k).e + 1) - (gt L k).e
def truS (part : Nat → Nat → Int) (nw : Nat) (L : List St) (k : Nat) : St := ⟨(gt L k).t, (gt L k).x + dvI part nw L k 0, (gt L k).y + dvI part nw L k 1, (gt L k).z + dvI part nw L k 2, 0⟩
def truL (part : Nat → Nat → Int) (nw : Nat) (L : List St) : List St := (List.range L.length).map (truS part nw L)
theorem truL_len (part : Nat → Nat → Int) (nw : Nat) (L : List St) : (truL part nw L).length = L.length := by simp [truL]
theorem gt_tru (part : Nat → Nat → Int) (nw : Nat) (L : List St) (k : Nat) (h : k < L.length) : gt (truL part nw L) k = truS part nw L k := by
  unfold gt truL
  rw [List.getD_eq_getElem?_getD, List.getElem?_map, List.getElem?_range h]
  rfl
theorem dvI_b (part : Nat → Nat → Int) (nw : Nat) (L : List St) (k i : Nat) (h : 0 ≤ (gt L k).e) : -(gt L k).e ≤ dvI part nw L k i ∧ dvI part nw L k i ≤ (gt L k).e := by
  unfold dvI
  have b1 := Int.emod_nonneg (part (k % nw) i) (show (2 * (gt L k).e + 1) ≠ 0 by omega)
  have b2 := Int.emod_lt_of_pos (part (k % nw) i) (show 0 < 2 * (gt L k).e + 1 by omega)
  omega
theorem tru_truth {part : Nat → Nat → Int} {nw : Nat} {L : List St} (h : ∀ k, k < L.length → 0 ≤ (gt L k).e) : Truth L (truL part nw L) := by
  refine ⟨truL_len part nw L, fun k hk => by rw [gt_tru _ _ _ _ hk]; rfl, fun k hk i => ?_⟩
  rw [gt_tru _ _ _ _ hk]
  have b0 := dvI_b part nw L k 0 (h k hk)
  have b1 := dvI_b part nw L k 1 (h k hk)
  have b2 := dvI_b part nw L k 2 (h k hk)
  unfold cOf truS
  dsimp only
  split
  · omega
  · split <;> omega

/-- the cells of states whose first k are as they really were -/
def stT (part : Nat → Nat → Int) (nw : Nat) (L : List St) (k : Nat) : List Value := (List.range (L.length * 5)).map fun j => .int .i64 (fld (if j / 5 < k then truS part nw L (j / 5) else gt L (j / 5)) (j % 5))
theorem stT_len (part : Nat → Nat → Int) (nw : Nat) (L : List St) (k : Nat) : (stT part nw L k).length = L.length * 5 := by simp [stT]
theorem stT_get (part : Nat → Nat → Int) (nw : Nat) (L : List St) (k j : Nat) (h : j < L.length * 5) : (stT part nw L k)[j]? = some (.int .i64 (fld (if j / 5 < k then truS part nw L (j / 5) else gt L (j / 5)) (j % 5))) := by simp [stT, List.getElem?_range h]
theorem stT_zero (part : Nat → Nat → Int) (nw : Nat) (L : List St) : stT part nw L 0 = stVals L := by
  unfold stT stVals
  refine List.map_congr_left fun j _ => ?_
  rw [if_neg (by omega)]
theorem stT_all (part : Nat → Nat → Int) (nw : Nat) (L : List St) : stT part nw L L.length = stVals (truL part nw L) := by
  apply List.ext_getElem?
  intro j
  rcases Nat.lt_or_ge j (L.length * 5) with hj | hj
  · have hj5 : j / 5 < L.length := by omega
    rw [stT_get part nw L _ j hj, stVals_get _ j (by rw [truL_len]; exact hj), gt_tru _ _ _ _ hj5, if_pos hj5]
  · rw [List.getElem?_eq_none (by rw [stT_len]; exact hj), List.getElem?_eq_none (by rw [stVals_len, truL_len]; exact hj)]
/-- the cells of the state that comes next -/
theorem stT_at (part : Nat → Nat → Int) (nw : Nat) (L : List St) (k i : Nat) (h : k < L.length) (hi : i < 5) : (stT part nw L k)[k * 5 + i]? = some (.int .i64 (fld (gt L k) i)) := by
  rw [stT_get part nw L k _ (by omega), show (k * 5 + i) / 5 = k from by omega, show (k * 5 + i) % 5 = i from by omega, if_neg (by omega)]
theorem stT_set (part : Nat → Nat → Int) (nw : Nat) (L : List St) (k : Nat) :
    (((((stT part nw L k).set (k * 5) (.int .i64 (fld (truS part nw L k) 0))).set (k * 5 + 1) (.int .i64 (fld (truS part nw L k) 1))).set (k * 5 + 2) (.int .i64 (fld (truS part nw L k) 2))).set (k * 5 + 3) (.int .i64 (fld (truS part nw L k) 3))).set (k * 5 + 4) (.int .i64 (fld (truS part nw L k) 4)) = stT part nw L (k + 1) := by
  apply List.ext_getElem?
  intro j
  rcases Nat.lt_or_ge j (L.length * 5) with hj | hj
  · rw [stT_get part nw L (k + 1) j hj]
    simp only [List.getElem?_set, List.length_set, stT_len]
    by_cases h4 : k * 5 + 4 = j
    · subst h4; rw [if_pos rfl, if_pos hj, show (k * 5 + 4) / 5 = k from by omega, show (k * 5 + 4) % 5 = 4 from by omega, if_pos (by omega)]
    rw [if_neg h4]
    by_cases h3 : k * 5 + 3 = j
    · subst h3; rw [if_pos rfl, if_pos hj, show (k * 5 + 3) / 5 = k from by omega, show (k * 5 + 3) % 5 = 3 from by omega, if_pos (by omega)]
    rw [if_neg h3]
    by_cases h2 : k * 5 + 2 = j
    · subst h2; rw [if_pos rfl, if_pos hj, show (k * 5 + 2) / 5 = k from by omega, show (k * 5 + 2) % 5 = 2 from by omega, if_pos (by omega)]
    rw [if_neg h2]
    by_cases h1 : k * 5 + 1 = j
    · subst h1; rw [if_pos rfl, if_pos hj, show (k * 5 + 1) / 5 = k from by omega, show (k * 5 + 1) % 5 = 1 from by omega, if_pos (by omega)]
    rw [if_neg h1]
    by_cases h0 : k * 5 = j
    · subst h0; rw [if_pos rfl, if_pos hj, show k * 5 / 5 = k from by omega, show k * 5 % 5 = 0 from by omega, if_pos (by omega)]
    rw [if_neg h0, stT_get part nw L k j hj]
    have : (j / 5 < k) ↔ (j / 5 < k + 1) := by omega
    simp only [this]
  · rw [List.getElem?_eq_none (by simp only [List.length_set, stT_len]; exact hj), List.getElem?_eq_none (by rw [stT_len]; exact hj)]

/-- the loop that makes the true states: its k-th round -/
structure TvInv (w : World) (P X Y : Obj) (b7 base g n cp : Nat) (part : Nat → Nat → Int) (nw : Nat) (L : List St) (k : Nat) (W : World) : Prop where
  hb : Below w.heap.size w W
  hp : W.heap[w.heap.size]? = some P
  hx : W.heap[w.heap.size + 1]? = some X
  hy : W.heap[b7]? = some Y
  ho : W.ownsRow base 45 5 (.slice (some ⟨g, 0, none⟩) n cp) n (stT part nw L k)
theorem TvInv.next {w W W' : World} {P X Y : Obj} {b7 base g n cp nw k : Nat} {part : Nat → Nat → Int} {L : List St} (h : TvInv w P X Y b7 base g n cp part nw L k W) (hb : Below W.heap.size W W') : TvInv w P X Y b7 base g n cp part nw L k W' :=
  ⟨andThen h.hb hb, keepb hb h.hp, keepb hb h.hx, keepb hb h.hy, owns_below h.ho hb⟩
theorem TvInv.step {w W : World} {P X Y : Obj} {b7 base g n cp nw k : Nat} {part : Nat → Nat → Int} {L : List St} (h : TvInv w P X Y b7 base g n cp part nw L k W) (h1 : w.heap.size + 1 < g) (h2 : b7 ≠ g) :
    TvInv w P X Y b7 base g n cp part nw L (k + 1) (((((W.setCell ⟨g, k * 5, none⟩ (.int .i64 (fld (truS part nw L k) 0))).setCell ⟨g, k * 5 + 1, none⟩ (.int .i64 (fld (truS part nw L k) 1))).setCell ⟨g, k * 5 + 2, none⟩ (.int .i64 (fld (truS part nw L k) 2))).setCell ⟨g, k * 5 + 3, none⟩ (.int .i64 (fld (truS part nw L k) 3))).setCell ⟨g, k * 5 + 4, none⟩ (.int .i64 (fld (truS part nw L k) 4))) := by
  have e1 : w.heap.size + 1 ≠ g := by omega
  have e0 : w.heap.size ≠ g := by omega
  have hle : w.heap.size ≤ g := by omega
  refine ⟨setC (setC (setC (setC (setC h.hb hle _) hle _) hle _) hle _) hle _, heap_ne e0 (heap_ne e0 (heap_ne e0 (heap_ne e0 (heap_ne e0 h.hp)))), heap_ne e1 (heap_ne e1 (heap_ne e1 (heap_ne e1 (heap_ne e1 h.hx)))), heap_ne h2 (heap_ne h2 (heap_ne h2 (heap_ne h2 (heap_ne h2 h.hy)))), ?_⟩
  rw [← stT_set]
  exact ((((((h.ho.stored (k * 5) _).1.stored (k * 5 + 1) _).1.stored (k * 5 + 2) _).1.stored (k * 5 + 3) _).1.stored (k * 5 + 4) _).1)
end Go.Proofs.Ytmbolmmcfnfamaa.Orb
