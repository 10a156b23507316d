import Derived.Test.YtmbolmmcfnfamaaSs
import Derived.Outline
namespace Go.Proofs.Ytmbolmmcfnfamaa.Orb
open Go.RowKit Lib

set_option maxRecDepth 100000 in
theorem refErr_any (v : Value) (nm : ByteArray) (hs : nm.size ≤ 1000) (bend : Int) (L : List St) (w : World) (hv : OV w v nm bend L) :
    Calls Try.prog 11 #[v] w fun e w' => e = .returned (.int .i64 (orbE (nameE nm) bend L).2) ∧ Below w.heap.size w w' := by
  have CC := Lib.hid (fun W (h : Below w.heap.size w W) => refCheckOrbit_any v nm hs bend L W (hv.next h))
  obtain ⟨p, cap, rfl, -, -, -⟩ := hv.form
  clear hv
  generalize orbE (nameE nm) bend L = R at *
  obtain ⟨R1, R2⟩ := R
  generalize L.length = n at *
  go_enter Try.func11, Try.ntmps11
  go_wp2_with fail
  refine (CC.out _ (new_below _ _)).mono ?_
  rintro e w1 ⟨rfl, hb⟩
  have HB := Lib.hid (trans' (new_below _ _) hb)
  clear hb
  go_wp2_with fail
  go_ret
  exact ⟨rfl, HB.out⟩

/-- few states, or too many -/
def fewB (s n : Nat) : Bool := decide (s ≤ 30) && (decide (n ≤ 6) || (decide (40 < n) && decide (n ≤ 42)))
theorem fewB_true {s n : Nat} (h : fewB s n = true) : s ≤ 30 ∧ n ≤ 42 := by
  unfold fewB at h
  simp at h
  omega

set_option maxRecDepth 100000 in
set_option maxHeartbeats 2000000 in
theorem Few_any (v : Value) (nm : ByteArray) (bend : Int) (L : List St) (w : World) (hv : OV w v nm bend L) :
    Calls Try.prog 33 #[v] w fun e w' => e = .returned (.bool (fewB nm.size L.length)) ∧ Below w.heap.size w w' := by
  obtain ⟨p, cap, rfl, -, -, -⟩ := hv.form
  clear hv
  generalize L.length = n at *
  have hw : (nm.size ≤ 30 ∧ n ≤ 6 ∧ Hid (fewB nm.size n = true)) ∨ (nm.size ≤ 30 ∧ ¬ n ≤ 6 ∧ 40 < n ∧ n ≤ 42 ∧ Hid (fewB nm.size n = true)) ∨ (nm.size ≤ 30 ∧ ¬ n ≤ 6 ∧ 40 < n ∧ ¬ n ≤ 42 ∧ Hid (fewB nm.size n = false)) ∨ (nm.size ≤ 30 ∧ ¬ n ≤ 6 ∧ ¬ 40 < n ∧ Hid (fewB nm.size n = false)) ∨ (¬ nm.size ≤ 30 ∧ Hid (fewB nm.size n = false)) := by
    unfold Hid fewB
    by_cases h1 : nm.size ≤ 30 <;> by_cases h2 : n ≤ 6 <;> by_cases h3 : 40 < n <;> by_cases h4 : n ≤ 42 <;> simp [h1, h2, h3, h4] <;> omega
  rcases hw with ⟨h1, h2, HR⟩ | ⟨h1, h2, h3, h4, HR⟩ | ⟨h1, h2, h3, h4, HR⟩ | ⟨h1, h2, h3, HR⟩ | ⟨h1, HR⟩
  all_goals
    rw [HR.out]
    clear HR
    try (have e1 : (nm.size : Int) ≤ 30 := by omega)
    try (have e1 : ¬ (nm.size : Int) ≤ 30 := by omega)
    try (have e2 : (n : Int) ≤ 6 := by omega)
    try (have e2 : ¬ (n : Int) ≤ 6 := by omega)
    try (have e3 : (40 : Int) < n := by omega)
    try (have e3 : ¬ (40 : Int) < n := by omega)
    try (have e4 : (n : Int) ≤ 42 := by omega)
    try (have e4 : ¬ (n : Int) ≤ 42 := by omega)
    go_enter Try.func33, Try.ntmps33
    go_wp2_with fail
    try (go_region; go_wp2_with fail)
    go_ret
    exact ⟨rfl, by (repeat (first | with_reducible exact Below.refl _ _ | with_reducible refine alloc1 ?_ _ | with_reducible refine Below.drew ?_ | with_reducible refine drewN1 ?_ _ | with_reducible refine setC ?_ (by omega) _))⟩
end Go.Proofs.Ytmbolmmcfnfamaa.Orb
