import Derived.Test.YtmbolmmcfnfamaaVb
import Derived.Laws.OwnMore
import Derived.Outline
namespace Go.Proofs.Ytmbolmmcfnfamaa.Orb
open Go.RowKit Lib

theorem tkE_of {ne bend : Int} {L : List St} {t : Int} (h1 : (orbE ne bend L).2 = 0) (h2 : fst L ≤ t) (h3 : t ≤ lst L) (h4 : 0 < L.length) : tkE ne bend L t = 0 := by
  unfold tkE tickE hasB
  rw [h1]
  simp [firstE, h2, h3, h4]

theorem eq_place (a b c a' b' c' : Int) (w : World) : (Op.equalIn 10000 43 (.agg #[.int .i64 a, .int .i64 b, .int .i64 c]) (.agg #[.int .i64 a', .int .i64 b', .int .i64 c'])).run Try.prog w = .ok (a == a' && (b == b' && c == c')) w := by
  have h1 : (Op.equalIn 9999 3 (.int .i64 a) (.int .i64 a')).run Try.prog w = .ok (a == a') w := run_equalIn_int (P := Try.prog) w 9998 3 .i64 .i64 a a' Try.underlying3
  have h2 : (Op.equalIn 9999 3 (.int .i64 b) (.int .i64 b')).run Try.prog w = .ok (b == b') w := run_equalIn_int (P := Try.prog) w 9998 3 .i64 .i64 b b' Try.underlying3
  have h3 : (Op.equalIn 9999 3 (.int .i64 c) (.int .i64 c')).run Try.prog w = .ok (c == c') w := run_equalIn_int (P := Try.prog) w 9998 3 .i64 .i64 c c' Try.underlying3
  rw [run_equalIn_agg (P := Try.prog) w 9999 43 _ _ (by kernel_rfl) (by kernel_rfl)]
  have hf : (Try.prog.fieldsOf 43).toList = [{ name := "X", type := 3, offset := 0, embedded := false, tag := "", pkgPath := "", byteOffset := 0 }, { name := "Y", type := 3, offset := 1, embedded := false, tag := "", pkgPath := "", byteOffset := 8 }, { name := "Z", type := 3, offset := 2, embedded := false, tag := "", pkgPath := "", byteOffset := 16 }] := by
    unfold Program.fieldsOf
    rw [Try.underlying43]
  rw [hf]
  cases hx : (a == a') <;> cases hy : (b == b') <;> cases hz : (c == c') <;> rw [hx] at h1 <;> rw [hy] at h2 <;> rw [hz] at h3 <;>
    simp [Op.eqFields, Sem.run_bind, go_sem, h1, h2, h3, Try.isAgg3, Result.andThen]

/-- the cells of states whose first k have d more error -/
def stW (d : Int) (L : List St) (k : Nat) : List Value := (List.range (L.length * 5)).map fun j => .int .i64 (fld (gt L (j / 5)) (j % 5) + if j / 5 < k ∧ j % 5 = 4 then d else 0)
theorem stW_len (d : Int) (L : List St) (k : Nat) : (stW d L k).length = L.length * 5 := by simp [stW]
theorem stW_get (d : Int) (L : List St) (k j : Nat) (h : j < L.length * 5) : (stW d L k)[j]? = some (.int .i64 (fld (gt L (j / 5)) (j % 5) + if j / 5 < k ∧ j % 5 = 4 then d else 0)) := by simp [stW, List.getElem?_range h]
theorem stW_zero (d : Int) (L : List St) : stW d L 0 = stVals L := by
  unfold stW stVals
  refine List.map_congr_left fun j _ => ?_
  rw [if_neg (by omega), Int.add_zero]
theorem stW_e (d : Int) (L : List St) (k : Nat) (h : k < L.length) : (stW d L k)[k * 5 + 4]? = some (.int .i64 (gt L k).e) := by
  rw [stW_get d L k _ (by omega), show (k * 5 + 4) / 5 = k from by omega, show (k * 5 + 4) % 5 = 4 from by omega, if_neg (by omega), Int.add_zero]; rfl
theorem stW_set (d : Int) (L : List St) (k : Nat) : (stW d L k).set (k * 5 + 4) (.int .i64 ((gt L k).e + d)) = stW d L (k + 1) := by
  apply List.ext_getElem?
  intro j
  rcases Nat.lt_or_ge j (L.length * 5) with hj | hj
  · rw [List.getElem?_set, stW_get d L (k + 1) j hj]
    by_cases he : k * 5 + 4 = j
    · subst he
      rw [if_pos rfl, if_pos (by rw [stW_len]; exact hj), show (k * 5 + 4) / 5 = k from by omega, show (k * 5 + 4) % 5 = 4 from by omega, if_pos (by omega)]; rfl
    · rw [if_neg he, stW_get d L k j hj]
      have : (j / 5 < k ∧ j % 5 = 4) ↔ (j / 5 < k + 1 ∧ j % 5 = 4) := by omega
      simp only [this]
  · rw [List.getElem?_eq_none (by rw [List.length_set, stW_len]; exact hj), List.getElem?_eq_none (by rw [stW_len]; exact hj)]
theorem stW_all (d : Int) (L : List St) : stW d L L.length = stVals (wid d L) := by
  apply List.ext_getElem?
  intro j
  rcases Nat.lt_or_ge j (L.length * 5) with hj | hj
  · have hj5 : j / 5 < L.length := by omega
    rw [stW_get d L _ j hj, stVals_get _ j (by rw [wid_len]; exact hj), gt_wid d L _ hj5]
    have hm : j % 5 = 0 ∨ j % 5 = 1 ∨ j % 5 = 2 ∨ j % 5 = 3 ∨ j % 5 = 4 := by omega
    generalize gt L (j / 5) = s
    rcases hm with h | h | h | h | h <;> rw [h] <;> simp [fld, hj5]
  · rw [List.getElem?_eq_none (by rw [stW_len]; exact hj), List.getElem?_eq_none (by rw [stVals_len, wid_len]; exact hj)]
theorem owns_ne {W : World} {base e s n b o g cap : Nat} {u : Value} {xs : List Value} (h : W.ownsRow base e s (.slice (some ⟨g, 0, none⟩) n cap) n xs) (hb : b ≠ g) : (W.setCell ⟨b, o, none⟩ u).ownsRow base e s (.slice (some ⟨g, 0, none⟩) n cap) n xs := by
  refine ⟨h.1, ?_⟩
  rcases h.2 with h1 | ⟨g', cap', cur, h1, h2, h3, h4⟩
  · exact .inl h1
  · have : g = g' := by simp at h1; exact h1.1
    subst this
    exact .inr ⟨g, cap', cur, h1, h2, heap_ne (fun e => hb e.symm) h3, h4⟩
theorem box6 (b c d e f g : Int) : boxCells (fun i => if i = 0 then b else if i = 1 then d else f) (fun i => if i = 0 then c else if i = 1 then e else g) 3 = #[.int .i64 b, .int .i64 c, .int .i64 d, .int .i64 e, .int .i64 f, .int .i64 g] := rfl
/-- the loop that widens a copy: its k-th round -/
structure WdInv (w : World) (P X Y : Obj) (b7 base g n cp : Nat) (d : Int) (L : List St) (k : Nat) (W : World) : Prop where
  hb : Below w.heap.size w W
  hp : W.heap[w.heap.size]? = some P
  hx : W.heap[w.heap.size + 1]? = some X
  hy : W.heap[b7]? = some Y
  ho : W.ownsRow base 45 5 (.slice (some ⟨g, 0, none⟩) n cp) n (stW d L k)
theorem WdInv.step {w W : World} {P X Y : Obj} {b7 base g n cp k : Nat} {d : Int} {L : List St} (h : WdInv w P X Y b7 base g n cp d L k W) (h1 : w.heap.size + 1 < g) (h2 : b7 ≠ g) :
    WdInv w P X Y b7 base g n cp d L (k + 1) (W.setCell ⟨g, k * 5 + 4, none⟩ (.int .i64 ((gt L k).e + d))) := by
  refine ⟨setC h.hb (by omega) _, heap_ne (by omega) h.hp, heap_ne (by omega) h.hx, heap_ne h2 h.hy, ?_⟩
  rw [← stW_set]
  exact (h.ho.stored (k * 5 + 4) _).1
end Go.Proofs.Ytmbolmmcfnfamaa.Orb
