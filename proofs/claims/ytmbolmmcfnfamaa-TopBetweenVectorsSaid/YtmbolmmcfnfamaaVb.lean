import Derived.Test.YtmbolmmcfnfamaaSx
import Derived.Test.YtmbolmmcfnfamaaVa
import Derived.Laws.OwnMore
import Derived.Outline
namespace Go.Proofs.Ytmbolmmcfnfamaa.Orb
open Go.RowKit Lib

/-- what Copy hands back: an orbit of its own -/
def CopyO (nm : ByteArray) (bend : Int) (L : List St) (w : World) (e : Ending) (w' : World) : Prop :=
  ∃ v base, e = .returned (.agg #[.string nm, .int .i64 bend, v]) ∧ Below w.heap.size w w' ∧ w.heap.size ≤ base ∧ w'.ownsRow base 45 5 v L.length (stVals L)

set_option maxRecDepth 100000 in
set_option maxHeartbeats 4000000 in
theorem Copy_own (v : Value) (nm : ByteArray) (bend : Int) (L : List St) (hn : L.length ≤ 1000) (w : World) (hv : OV w v nm bend L) :
    Calls Try.prog 9 #[v] w (CopyO nm bend L w) := by
  obtain ⟨i0, hi, hz0, hz1, hz2⟩ := info_parts infoSt
  obtain ⟨p, cap, rfl, hcap, hcap2, hS⟩ := hv.form
  have hnil : p = none → cap = 0 := fun e => hv.nil (.string nm) (.int .i64 bend) L.length cap (by rw [e])
  obtain ⟨W0, hW0⟩ : ∃ W0, W0 = (w.alloc (.cells #[.string nm, .int .i64 bend, .slice p L.length cap] 24)).alloc (.cells #[.string ⟨#[]⟩, .int .i64 0, .slice none 0 0] 24) := ⟨_, rfl⟩
  have HW0 := Lib.hid hW0
  have HB0 := Lib.hid (show Below w.heap.size w W0 by rw [hW0]; (repeat (first | with_reducible exact Below.refl _ _ | with_reducible refine alloc1 ?_ _ | with_reducible refine Below.drew ?_ | with_reducible refine drewN1 ?_ _ | with_reducible refine setC ?_ (by omega) _)))
  have HK0 := Lib.hid (show W0.heap[w.heap.size]? = some (.cells #[.string nm, .int .i64 bend, .slice p L.length cap] 24 (0, 0)) by rw [hW0]; (repeat (first | ((with_reducible refine hnew ?_); (simp; done)) | with_reducible refine hdrew ?_ | with_reducible refine hold ?_)))
  have HQ0 := Lib.hid (show W0.heap[w.heap.size + 1]? = some (.cells #[.string ⟨#[]⟩, .int .i64 0, .slice none 0 0] 24 (0, 0)) by rw [hW0]; (repeat (first | ((with_reducible refine hnew ?_); (simp; done)) | with_reducible refine hdrew ?_ | with_reducible refine hold ?_)))
  have hown : ((W0.alloc (.cells #[] 45))).ownsRow W0.heap.size 45 5 (.slice (some ⟨W0.heap.size, 0, none⟩) 0 0) 0 [] :=
    World.ownsRow_made W0 #[] 0 (Nat.le_refl _) (by unfold maxLen; omega) rfl
  have hsz : W0.heap.size = w.heap.size + 1 + 1 := by rw [hW0]; simp
  have HSZ := Lib.hid hsz
  have H1 := Lib.hid hown
  clear hown hW0 hsz
  obtain ⟨k0, k1, k2⟩ := cells3 (keepb (new_below W0 (.cells #[] 45)) HK0.out)
  cases p with
  | none =>
    have hx0 : L.length = 0 := by
      rcases Nat.eq_zero_or_pos L.length with h | h
      · exact h
      · obtain ⟨b, o, h, -⟩ := hS h; cases h
    have hcap0 : cap = 0 := hnil rfl
    have HE := Lib.hid (show stVals L = [] by unfold stVals; rw [hx0]; rfl)
    rw [hx0, hcap0] at HK0 k2 HW0
    rw [hx0, hcap0]
    have HX := Lib.hid hx0
    clear hnil hS hx0 hcap0 hcap hcap2 hv hn
    obtain ⟨f0, f1, f2⟩ := free3 (keepb (new_below W0 (.cells #[] 45)) HK0.out)
    obtain ⟨q0, q1, q2⟩ := cells3 (keepb (new_below W0 (.cells #[] 45)) HQ0.out)
    obtain ⟨g0, g1, g2⟩ := free3 (keepb (new_below W0 (.cells #[] 45)) HQ0.out)
    go_enter Try.func9, Try.ntmps9
    go_upto_region 1 with fail
    rw [← HW0.out]
    go_wp2_with fail
    refine bodyPost_ret (v := .agg #[.string nm, .int .i64 bend, .slice (some ⟨W0.heap.size, 0, none⟩) 0 0]) (by simp [results, Try.results9, go_sem, q0, q1, q2]) rfl ⟨_, W0.heap.size, rfl, ?_, HB0.out.size, ?_⟩
    · have h3 := HSZ.out
      exact setC (setC (setC (setC (alloc1 HB0.out _) (by omega) _) (by omega) _) (by omega) _) (by omega) _
    · rw [HX.out, HE.out]
      exact owns_set (owns_set (owns_set (owns_set H1.out (by have := HSZ.out; omega)) (by have := HSZ.out; omega)) (by have := HSZ.out; omega)) (by have := HSZ.out; omega)
  | some a =>
    obtain ⟨m, hm⟩ : ∃ m, m = L.length := ⟨_, rfl⟩
    have hcells : ∀ (j : Nat) (u : Value), (stVals L)[j]? = some u → (W0.alloc (.cells #[] 45)).cell? (a.add j) = some u := by
      intro j u hu
      have hj : 0 < L.length := by
        rcases Nat.eq_zero_or_pos L.length with h | h
        · have : stVals L = [] := by unfold stVals; rw [h]; rfl
          rw [this] at hu; cases hu
        · exact h
      obtain ⟨b, o, h, hT⟩ := hS hj
      obtain rfl := Option.some.inj h
      rw [add_none]
      exact (hT.next (trans' HB0.out (new_below _ _))).cells j u hu
    have HC := Lib.hid hcells
    have HM := Lib.hid hm
    have hn' : m ≤ 1000 := by omega
    rw [← hm] at HK0 k2 HW0 ⊢
    clear hnil hS hcells hm hcap hcap2 hv hn
    go_enter Try.func9, Try.ntmps9
    go_upto_region 1 with fail
    rw [← HW0.out]
    go_wp2_with (at_builtin; refine wpList_append_own _ (by rfl) (.tmp 3) (.tmp 5) 22 (by rfl) W0.heap.size 45 i0 (.agg #[.int .i64 0, .int .i64 0, .int .i64 0, .int .i64 0, .int .i64 0]) 5 40 Try.underlying22 hi hz0 hz1 hz2 rfl (by decide) (.slice (some ⟨W0.heap.size, 0, none⟩) 0 0) 0 [] (by rfl) H1.out a m cap (stVals L) (by rfl) (by rw [stVals_len, HM.out]) HC.out (stVals_one L) (by unfold maxLen; omega) (by omega) (by simp) ?_)
    intro v' w' hown' hgrow hiff
    have hb' : Below W0.heap.size W0 w' := (new_below W0 _).grown hgrow (by simp) (fun k hk => by (have hk2 : k = W0.heap.size := (by simpa [Value.ownBlock] using hk.symm)); omega)
    have hown2 : w'.ownsRow W0.heap.size 45 5 v' m (stVals L) := by simpa using hown'
    obtain ⟨g', cap', rfl⟩ : ∃ g' cap', v' = .slice (some ⟨g', 0, none⟩) m cap' := by
      rcases hown2.2 with ⟨h1, -⟩ | ⟨g', cap', cur, h1, -⟩
      · exact (hiff h1).elim
      · exact ⟨g', cap', h1⟩
    have HO := Lib.hid hown2
    have HB2 := Lib.hid hb'
    have hlt : W0.heap.size ≤ g' := by
      rcases hown2.2 with ⟨h1, -⟩ | ⟨g2, cap2, cur, h1, h2, -⟩
      · cases h1
      · injection h1 with h1; injection h1 with h1; injection h1 with h1; subst h1; exact h2
    have HLT := Lib.hid hlt
    obtain ⟨k0, k1, k2⟩ := cells3 (keepb hb' HK0.out)
    obtain ⟨f0, f1, f2⟩ := free3 (keepb hb' HK0.out)
    obtain ⟨q0, q1, q2⟩ := cells3 (keepb hb' HQ0.out)
    obtain ⟨r0, r1, r2⟩ := free3 (keepb hb' HQ0.out)
    clear hown' hgrow hiff hb' hown2 hlt
    go_wp2_with fail
    refine bodyPost_ret (v := .agg #[.string nm, .int .i64 bend, .slice (some ⟨g', 0, none⟩) m cap']) (by simp [results, Try.results9, go_sem, q0, q1, q2]) rfl ⟨_, W0.heap.size, rfl, ?_, HB0.out.size, ?_⟩
    · have h3 := HSZ.out
      exact setC (setC (setC (setC (trans' HB0.out HB2.out) (by omega) _) (by omega) _) (by omega) _) (by omega) _
    · rw [← HM.out]
      have h3 := HSZ.out
      exact owns_set (owns_set (owns_set (owns_set HO.out (by omega)) (by omega)) (by omega)) (by omega)

set_option maxRecDepth 100000 in
theorem Has_any (v : Value) (nm : ByteArray) (bend : Int) (L : List St) (h0 : 0 < L.length) (hn : L.length ≤ 1000) (t : Int) (w : World) (hv : OV w v nm bend L) :
    Calls Try.prog 14 #[v, .int .i64 t] w fun e w' => e = .returned (.bool (decide (fst L ≤ t ∧ t ≤ lst L))) ∧ Below w.heap.size w w' := by
  have CA := Lib.hid (fun W (h : Below w.heap.size w W) => First_any v nm bend L h0 W (hv.next h))
  have CB := Lib.hid (fun W (h : Below w.heap.size w W) => Last_any v nm bend L h0 hn W (hv.next h))
  have CW := Lib.hid (fun W => Within_any t (fst L) (lst L) W)
  obtain ⟨sp, cap, rfl, -, -, -⟩ := hv.form
  clear hv h0 hn
  generalize decide (fst L ≤ t ∧ t ≤ lst L) = R at *
  generalize fst L = f at *
  generalize lst L = la at *
  generalize L.length = n at *
  go_enter Try.func14, Try.ntmps14
  go_upto_region 1 with fail
  obtain ⟨W0, hW0⟩ : ∃ W0, W0 = w.alloc (.cells #[.string nm, .int .i64 bend, .slice sp n cap] 24) := ⟨_, rfl⟩
  rw [← hW0]
  have HB0 := Lib.hid (show Below w.heap.size w W0 by rw [hW0]; (repeat (first | with_reducible exact Below.refl _ _ | with_reducible refine alloc1 ?_ _ | with_reducible refine Below.drew ?_ | with_reducible refine drewN1 ?_ _ | with_reducible refine setC ?_ (by omega) _)))
  have HP0 := Lib.hid (show W0.heap[w.heap.size]? = some (.cells #[.string nm, .int .i64 bend, .slice sp n cap] 24 (0, 0)) by rw [hW0]; (repeat (first | ((with_reducible refine hnew ?_); (simp; done)) | with_reducible refine hdrew ?_ | with_reducible refine hold ?_)))
  clear hW0
  obtain ⟨k0, k1, k2⟩ := cells3 HP0.out
  go_region_held3 (fun W => W.cell? ⟨w.heap.size, 0, none⟩ = some (.string nm) ∧ W.cell? ⟨w.heap.size, 1, none⟩ = some (.int .i64 bend) ∧ W.cell? ⟨w.heap.size, 2, none⟩ = some (.slice sp n cap)) (with_reducible refine ⟨keepc ?_ k0, keepc ?_ k1, keepc ?_ k2⟩ <;> (repeat (first | with_reducible exact Below.refl _ _ | with_reducible refine andThen ?_ hbA | with_reducible refine andThen ?_ hbB | with_reducible refine alloc1 ?_ _ | with_reducible refine Below.drew ?_ | with_reducible refine drewN1 ?_ _ | with_reducible refine setC ?_ (by omega) _)) <;> done)
    (first
      | (go_at_call 24; (with_reducible refine (CA.out _ (trans' HB0.out (by (repeat (first | with_reducible exact Below.refl _ _ | with_reducible refine andThen ?_ hbA | with_reducible refine andThen ?_ hbB | with_reducible refine alloc1 ?_ _ | with_reducible refine Below.drew ?_ | with_reducible refine drewN1 ?_ _ | with_reducible refine setC ?_ (by omega) _))))).mono ?_); rintro e wA ⟨rfl, hbA⟩)
      | (go_at_call 25; (with_reducible refine (CB.out _ (trans' HB0.out (by (repeat (first | with_reducible exact Below.refl _ _ | with_reducible refine andThen ?_ hbA | with_reducible refine andThen ?_ hbB | with_reducible refine alloc1 ?_ _ | with_reducible refine Below.drew ?_ | with_reducible refine drewN1 ?_ _ | with_reducible refine setC ?_ (by omega) _))))).mono ?_); rintro e wB ⟨rfl, hbB⟩)
      | (go_at_call 18; (with_reducible refine (CW.out _).mono ?_); rintro e w1 ⟨rfl, rfl⟩))
  all_goals
    go_wp2_with fail
    go_ret
    exact ⟨rfl, trans' HB0.out (by (repeat (first | with_reducible exact Below.refl _ _ | with_reducible refine andThen ?_ hbA | with_reducible refine andThen ?_ hbB | with_reducible refine alloc1 ?_ _ | with_reducible refine Below.drew ?_ | with_reducible refine drewN1 ?_ _ | with_reducible refine setC ?_ (by omega) _)))⟩

/-- the error of an orbit, and of a tick, in the order of the laws -/
def tkR (ne bend : Int) (L : List St) (t : Int) : Int := if (orbE ne bend L).2 = 0 then (if fst L ≤ t ∧ t ≤ lst L then 0 else 2) else (orbE ne bend L).2
theorem tkR_zero {ne bend : Int} {L : List St} {t : Int} (h : tkR ne bend L t = 0) : (orbE ne bend L).2 = 0 ∧ ne = 0 ∧ Rt bend L ∧ fst L ≤ t ∧ t ≤ lst L := by
  unfold tkR at h
  split at h
  · rename_i h1
    split at h
    · rename_i h2; obtain ⟨h3, h4⟩ := Rt.of h1; exact ⟨h1, h3, h4, h2.1, h2.2⟩
    · cases h
  · rename_i h1; exact absurd h h1

end Go.Proofs.Ytmbolmmcfnfamaa.Orb
