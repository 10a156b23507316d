import Derived.Test.YtmmmaanflmgblaaDoorBc
namespace Go.Proofs.YtmmmaanflmgblaaDoor
open Go.RowKit Go.Proofs.YtmmmaanflmgblaaDoor.Flt

set_option maxRecDepth 100000 in
set_option maxHeartbeats 1000000 in
theorem byTr_long (va vb : Value) (xs ys : List Int) (w : World) (ha : Got xs w va) (hb : Got ys w vb) (h : xs.length < 1 ∨ 40 < xs.length ∨ ys.length < 1 ∨ 20 < ys.length ∨ xs.length < ys.length) (ht : Tab w) :
    Calls Tryd.prog 10 #[va, vb] w fun e w' => e = .returned (.bool true) ∧ Below w.heap.size w w' := by
  have CA := Lib.hid (awake_any w ht)
  obtain ⟨aa, ac, rfl, hla, -⟩ := ha.sl
  obtain ⟨ba, bc, rfl, hlb, -⟩ := hb.sl
  have ex : (ivals xs).length = xs.length := by simp [ivals]
  have ey : (ivals ys).length = ys.length := by simp [ivals]
  rw [ex] at hla ⊢
  rw [ey] at hlb ⊢
  have h' : xs.length < 1 ∨ (¬ xs.length < 1 ∧ 40 < xs.length) ∨ (¬ xs.length < 1 ∧ ¬ 40 < xs.length ∧ ys.length < 1) ∨ (¬ xs.length < 1 ∧ ¬ 40 < xs.length ∧ ¬ ys.length < 1 ∧ 20 < ys.length) ∨ (¬ xs.length < 1 ∧ ¬ 40 < xs.length ∧ ¬ ys.length < 1 ∧ ¬ 20 < ys.length ∧ xs.length < ys.length) := by omega
  clear h ha hb ht ex ey
  generalize xs.length = n at *
  generalize ys.length = m at *
  rcases h' with h1 | ⟨h1, h2⟩ | ⟨h1, h2, h3⟩ | ⟨h1, h2, h3, h4⟩ | ⟨h1, h2, h3, h4, h5⟩
  all_goals
    go_enter Tryd.func10, Tryd.ntmps10
    go_wp2_with fail
    refine CA.out.mono ?_
    rintro e w1 ⟨rfl, hb⟩
    have HB1 := Lib.hid hb
    clear hb
    go_wp2_with fail
    go_ret
    exact ⟨rfl, HB1.out⟩

/-- THE LAW, FOR ALL PAIRS OF LISTS -/
theorem byTr_any (va vb : Value) (xs ys : List Int) (w : World) (ha : Got xs w va) (hb : Got ys w vb) (ht : Tab w) :
    Calls Tryd.prog 10 #[va, vb] w fun e w' => e = .returned (.bool true) ∧ Below w.heap.size w w' := by
  by_cases h : xs.length < 1 ∨ 40 < xs.length ∨ ys.length < 1 ∨ 20 < ys.length ∨ xs.length < ys.length
  · exact byTr_long va vb xs ys w ha hb h ht
  · exact byTr_ok va vb xs ys w ha hb (by omega) (by omega) (by omega) (by omega) (by omega) ht
end Go.Proofs.YtmmmaanflmgblaaDoor
