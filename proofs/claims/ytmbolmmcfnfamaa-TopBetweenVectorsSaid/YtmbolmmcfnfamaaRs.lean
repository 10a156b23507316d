import Derived.Test.YtmbolmmcfnfamaaRr
import Derived.Test.YtmbolmmcfnfamaaRo
import Derived.Laws.AppendOwn
import Derived.Outline
namespace Go.Proofs.Ytmbolmmcfnfamaa.Orb
open Go.RowKit Lib

/-- the numbers of a state -/
def fld (s : St) (i : Nat) : Int := if i = 0 then s.t else if i = 1 then s.x else if i = 2 then s.y else if i = 3 then s.z else s.e
/-- states as cells -/
def stVals (L : List St) : List Value := (List.range (L.length * 5)).map fun j => .int .i64 (fld (gt L (j / 5)) (j % 5))
theorem stVals_len (L : List St) : (stVals L).length = L.length * 5 := by simp [stVals]
theorem stVals_get (L : List St) (j : Nat) (h : j < L.length * 5) : (stVals L)[j]? = some (.int .i64 (fld (gt L (j / 5)) (j % 5))) := by simp [stVals, List.getElem?_range h]
theorem stVals_one (L : List St) : ∀ u ∈ stVals L, u.oneCell' = true := by
  intro u hu
  obtain ⟨x, -, rfl⟩ := List.mem_map.1 hu
  rfl
theorem Sts.cells {W : World} {b o : Nat} {L : List St} (h : Sts W b o L) : ∀ j u, (stVals L)[j]? = some u → W.cell? ⟨b, o + j, none⟩ = some u := by
  intro j u hu
  have hj : j < L.length * 5 := by
    rcases Nat.lt_or_ge j (L.length * 5) with h1 | h1
    · exact h1
    · rw [List.getElem?_eq_none (by rw [stVals_len]; exact h1)] at hu; cases hu
  rw [stVals_get L j hj] at hu
  obtain ⟨a0, a1, a2, a3, a4⟩ := h (j / 5) (by omega)
  obtain rfl := Option.some.inj hu
  have hm : j % 5 < 5 := Nat.mod_lt _ (by decide)
  have hd : j = j / 5 * 5 + j % 5 := by omega
  generalize j / 5 = k at *
  generalize j % 5 = i at *
  subst hd
  match i, hm with
  | 0, _ => exact a0
  | 1, _ => rw [← Nat.add_assoc]; exact a1
  | 2, _ => rw [← Nat.add_assoc]; exact a2
  | 3, _ => rw [← Nat.add_assoc]; exact a3
  | 4, _ => rw [← Nat.add_assoc]; exact a4
theorem Sts.of {W : World} {b o : Nat} {L : List St} (h : ∀ j u, (stVals L)[j]? = some u → W.cell? ⟨b, o + j, none⟩ = some u) : Sts W b o L := by
  intro k hk
  have g : ∀ i, i < 5 → W.cell? ⟨b, o + (k * 5 + i), none⟩ = some (.int .i64 (fld (gt L k) i)) := by
    intro i hi
    refine h _ _ ?_
    rw [stVals_get L _ (by omega), show (k * 5 + i) / 5 = k from by omega, show (k * 5 + i) % 5 = i from by omega]
  exact ⟨g 0 (by decide), by rw [Nat.add_assoc]; exact g 1 (by decide), by rw [Nat.add_assoc]; exact g 2 (by decide), by rw [Nat.add_assoc]; exact g 3 (by decide), by rw [Nat.add_assoc]; exact g 4 (by decide)⟩
theorem Sts.owned {W : World} {base : Nat} {v : Value} {L : List St} {g cap : Nat} (h : W.ownsRow base 45 5 v L.length (stVals L)) (hv : v = .slice (some ⟨g, 0, none⟩) L.length cap) : Sts W g 0 L := by
  refine Sts.of fun j u hu => ?_
  rcases h.2 with ⟨h1, -⟩ | ⟨g', cap', cur, h1, -, h3, -, -, h6, h7⟩
  · rw [hv] at h1; injection h1 with h1; cases h1
  · rw [hv] at h1
    injection h1 with h1
    injection h1 with h1
    injection h1 with h1
    subst h1
    rw [Nat.zero_add, cell_of_row W g j cur _ _ h3, ← Array.getElem?_toList]
    rw [← h7, List.getElem?_take] at hu
    split at hu
    · exact hu
    · cases hu

/-- a store into an older block leaves what is owned -/
theorem owns_set {W : World} {base e s n b o : Nat} {v u : Value} {xs : List Value} (h : W.ownsRow base e s v n xs) (hb : b < base) : (W.setCell ⟨b, o, none⟩ u).ownsRow base e s v n xs := by
  refine ⟨h.1, ?_⟩
  rcases h.2 with h1 | ⟨g, cap, cur, h1, h2, h3, h4⟩
  · exact .inl h1
  · exact .inr ⟨g, cap, cur, h1, h2, heap_ne (by omega) h3, h4⟩
theorem add_none (b off j : Nat) : (⟨b, off, none⟩ : Addr).add j = ⟨b, off + j, none⟩ := by
  unfold Addr.add
  split
  · rename_i h; subst h; rfl
  · rfl
theorem infoSt : (Try.prog.info? 45).map (fun i => (i.zero, i.size, i.bytes)) = some (some (.agg #[.int .i64 0, .int .i64 0, .int .i64 0, .int .i64 0, .int .i64 0]), 5, 40) := by kernel_rfl

/-- what a copy of an orbit is -/
def CopyR (nm : ByteArray) (bend : Int) (L : List St) (w : World) (e : Ending) (w' : World) : Prop := ∃ v, e = .returned v ∧ Below w.heap.size w w' ∧ OV w' v nm bend L
theorem OV.made {W : World} {base : Nat} {v : Value} {nm : ByteArray} {bend : Int} {L : List St} (h : W.ownsRow base 45 5 v L.length (stVals L)) : OV W (.agg #[.string nm, .int .i64 bend, v]) nm bend L := by
  rcases h.2 with ⟨h1, h2⟩ | ⟨g, cap, cur, h1, -, -, h4, h5, -, -⟩
  · refine ⟨⟨none, 0, by rw [h1, h2], by omega, by decide, fun h0 => by omega⟩, ?_⟩
    intro a c n cap e
    rw [h1] at e
    injection e with e
    simp at e
    omega
  · refine ⟨⟨_, cap, by rw [h1], h4, by unfold maxLen at h5; omega, fun h0 => ⟨g, 0, rfl, Sts.owned h h1⟩⟩, ?_⟩
    intro a c n cap e
    rw [h1] at e
    injection e with e
    simp at e

set_option maxRecDepth 100000 in
set_option maxHeartbeats 1000000 in
/-- AN ORBIT IN MEMORY OF ITS OWN -/
theorem Copy_any (v : Value) (nm : ByteArray) (bend : Int) (L : List St) (hn : L.length ≤ 1000) (w : World) (hv : OV w v nm bend L) :
    Calls Try.prog 9 #[v] w (CopyR nm bend L w) := by
  obtain ⟨i0, hi, hz0, hz1, hz2⟩ := info_parts infoSt
  obtain ⟨p, cap, rfl, hcap, hcap2, hS⟩ := hv.form
  have hnil : p = none → cap = 0 := fun e => hv.nil (.string nm) (.int .i64 bend) L.length cap (by rw [e])
  obtain ⟨W0, hW0⟩ : ∃ W0, W0 = (w.alloc (.cells #[.string nm, .int .i64 bend, .slice p L.length cap] 24)).alloc (.cells #[.string ⟨#[]⟩, .int .i64 0, .slice none 0 0] 24) := ⟨_, rfl⟩
  have HW0 := Lib.hid hW0
  have HB0 := Lib.hid (show Below w.heap.size w W0 by rw [hW0]; (repeat (first | with_reducible exact Below.refl _ _ | with_reducible refine alloc1 ?_ _ | with_reducible refine Below.drew ?_ | with_reducible refine drewN1 ?_ _ | with_reducible refine setC ?_ (by omega) _)))
  have HK0 := Lib.hid (show W0.heap[w.heap.size]? = some (.cells #[.string nm, .int .i64 bend, .slice p L.length cap] 24 (0, 0)) by rw [hW0]; (repeat (first | ((with_reducible refine hnew ?_); (simp; done)) | with_reducible refine hdrew ?_ | with_reducible refine hold ?_)))
  have HQ0 := Lib.hid (show W0.heap[w.heap.size + 1]? = some (.cells #[.string ⟨#[]⟩, .int .i64 0, .slice none 0 0] 24 (0, 0)) by rw [hW0]; (repeat (first | ((with_reducible refine hnew ?_); (simp; done)) | with_reducible refine hdrew ?_ | with_reducible refine hold ?_)))
  have hown : ((W0.alloc (.cells #[] 45))).ownsRow W0.heap.size 45 5 (.slice (some ⟨W0.heap.size, 0, none⟩) 0 0) 0 [] :=
    World.ownsRow_made W0 #[] 0 (Nat.le_refl _) (by unfold maxLen; omega) rfl
  have hsz : W0.heap.size = w.heap.size + 1 + 1 := by rw [hW0]; simp
  have HSZ := Lib.hid hsz
  have H1 := Lib.hid hown
  clear hown hW0 hsz
  obtain ⟨k0, k1, k2⟩ := cells3 (keepb (new_below W0 (.cells #[] 45)) HK0.out)
  cases p with
  | none =>
    have hx0 : L.length = 0 := by
      rcases Nat.eq_zero_or_pos L.length with h | h
      · exact h
      · obtain ⟨b, o, h, -⟩ := hS h; cases h
    have hcap0 : cap = 0 := hnil rfl
    have HE := Lib.hid (show stVals L = [] by unfold stVals; rw [hx0]; rfl)
    rw [hx0, hcap0] at HK0 k2 HW0
    rw [hx0, hcap0]
    have HX := Lib.hid hx0
    clear hnil hS hx0 hcap0 hcap hcap2 hv hn
    obtain ⟨f0, f1, f2⟩ := free3 (keepb (new_below W0 (.cells #[] 45)) HK0.out)
    obtain ⟨q0, q1, q2⟩ := cells3 (keepb (new_below W0 (.cells #[] 45)) HQ0.out)
    obtain ⟨g0, g1, g2⟩ := free3 (keepb (new_below W0 (.cells #[] 45)) HQ0.out)
    go_enter Try.func9, Try.ntmps9
    go_upto_region 1 with fail
    rw [← HW0.out]
    go_wp2_with fail
    refine bodyPost_ret (v := .agg #[.string nm, .int .i64 bend, .slice (some ⟨W0.heap.size, 0, none⟩) 0 0]) (by simp [results, Try.results9, go_sem, q0, q1, q2]) rfl ⟨_, rfl, ?_, ?_⟩
    · have h3 := HSZ.out
      exact setC (setC (setC (setC (alloc1 HB0.out _) (by omega) _) (by omega) _) (by omega) _) (by omega) _
    · refine OV.made (base := W0.heap.size) ?_
      rw [HX.out, HE.out]
      exact owns_set (owns_set (owns_set (owns_set H1.out (by have := HSZ.out; omega)) (by have := HSZ.out; omega)) (by have := HSZ.out; omega)) (by have := HSZ.out; omega)
  | some a =>
    obtain ⟨m, hm⟩ : ∃ m, m = L.length := ⟨_, rfl⟩
    have hcells : ∀ (j : Nat) (u : Value), (stVals L)[j]? = some u → (W0.alloc (.cells #[] 45)).cell? (a.add j) = some u := by
      intro j u hu
      have hj : 0 < L.length := by
        rcases Nat.eq_zero_or_pos L.length with h | h
        · have : stVals L = [] := by unfold stVals; rw [h]; rfl
          rw [this] at hu; cases hu
        · exact h
      obtain ⟨b, o, h, hT⟩ := hS hj
      obtain rfl := Option.some.inj h
      rw [add_none]
      exact (hT.next (trans' HB0.out (new_below _ _))).cells j u hu
    have HC := Lib.hid hcells
    have HM := Lib.hid hm
    have hn' : m ≤ 1000 := by omega
    rw [← hm] at HK0 k2 HW0 ⊢
    clear hnil hS hcells hm hcap hcap2 hv hn
    go_enter Try.func9, Try.ntmps9
    go_upto_region 1 with fail
    rw [← HW0.out]
    go_wp2_with (at_builtin; refine wpList_append_own _ (by rfl) (.tmp 3) (.tmp 5) 22 (by rfl) W0.heap.size 45 i0 (.agg #[.int .i64 0, .int .i64 0, .int .i64 0, .int .i64 0, .int .i64 0]) 5 40 Try.underlying22 hi hz0 hz1 hz2 rfl (by decide) (.slice (some ⟨W0.heap.size, 0, none⟩) 0 0) 0 [] (by rfl) H1.out a m cap (stVals L) (by rfl) (by rw [stVals_len, HM.out]) HC.out (stVals_one L) (by unfold maxLen; omega) (by omega) (by simp) ?_)
    intro v' w' hown' hgrow hiff
    have hb' : Below W0.heap.size W0 w' := (new_below W0 _).grown hgrow (by simp) (fun k hk => by (have hk2 : k = W0.heap.size := (by simpa [Value.ownBlock] using hk.symm)); omega)
    have hown2 : w'.ownsRow W0.heap.size 45 5 v' m (stVals L) := by simpa using hown'
    obtain ⟨g', cap', rfl⟩ : ∃ g' cap', v' = .slice (some ⟨g', 0, none⟩) m cap' := by
      rcases hown2.2 with ⟨h1, -⟩ | ⟨g', cap', cur, h1, -⟩
      · exact (hiff h1).elim
      · exact ⟨g', cap', h1⟩
    have HO := Lib.hid hown2
    have HB2 := Lib.hid hb'
    have hlt : W0.heap.size ≤ g' := by
      rcases hown2.2 with ⟨h1, -⟩ | ⟨g2, cap2, cur, h1, h2, -⟩
      · cases h1
      · injection h1 with h1; injection h1 with h1; injection h1 with h1; subst h1; exact h2
    have HLT := Lib.hid hlt
    obtain ⟨k0, k1, k2⟩ := cells3 (keepb hb' HK0.out)
    obtain ⟨f0, f1, f2⟩ := free3 (keepb hb' HK0.out)
    obtain ⟨q0, q1, q2⟩ := cells3 (keepb hb' HQ0.out)
    obtain ⟨r0, r1, r2⟩ := free3 (keepb hb' HQ0.out)
    clear hown' hgrow hiff hb' hown2 hlt
    go_wp2_with fail
    refine bodyPost_ret (v := .agg #[.string nm, .int .i64 bend, .slice (some ⟨g', 0, none⟩) m cap']) (by simp [results, Try.results9, go_sem, q0, q1, q2]) rfl ⟨_, rfl, ?_, ?_⟩
    · have h3 := HSZ.out
      exact setC (setC (setC (setC (trans' HB0.out HB2.out) (by omega) _) (by omega) _) (by omega) _) (by omega) _
    · refine OV.made (base := W0.heap.size) ?_
      rw [← HM.out]
      have h3 := HSZ.out
      exact owns_set (owns_set (owns_set (owns_set HO.out (by omega)) (by omega)) (by omega)) (by omega)
end Go.Proofs.Ytmbolmmcfnfamaa.Orb
