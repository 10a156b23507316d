import Derived.Test.YtmbolmmcfnfamaaRe
import Derived.Outline
namespace Go.Proofs.Ytmbolmmcfnfamaa.Orb
open Go.RowKit Lib

set_option maxRecDepth 100000 in
theorem check_any (v : Value) (nm : ByteArray) (hs : nm.size ≤ 1000) (bend : Int) (L : List St) (hI : ∀ k, (gt L k).t ≤ 9223372036854775807) (w : World) (hv : OV w v nm bend L) :
    Calls Try.prog 35 #[v] w fun e w' => e = .returned (.int .i64 (orbE (nameE nm) bend L).2) ∧ Below w.heap.size w w' := by
  have CC := Lib.hid (fun W (h : Below w.heap.size w W) => CheckOrbit_any v nm hs bend L hI W (hv.next h))
  obtain ⟨p, cap, rfl, -, -, -⟩ := hv.form
  clear hv hI
  generalize orbE (nameE nm) bend L = R at *
  obtain ⟨R1, R2⟩ := R
  generalize L.length = n at *
  go_enter Try.func35, Try.ntmps35
  go_wp2_with fail
  refine (CC.out _ (new_below _ _)).mono ?_
  rintro e w1 ⟨rfl, hb⟩
  have HB := Lib.hid (trans' (new_below _ _) hb)
  clear hb
  go_wp2_with fail
  go_ret
  exact ⟨rfl, HB.out⟩

set_option maxRecDepth 100000 in
theorem lastTick_any (v : Value) (nm : ByteArray) (bend : Int) (L : List St) (h0 : 0 < L.length) (hn : L.length ≤ 1000) (w : World) (hv : OV w v nm bend L) :
    Calls Try.prog 66 #[v] w fun e w' => e = .returned (.int .i64 (lst L)) ∧ Below w.heap.size w w' := by
  obtain ⟨p, cap, rfl, -, -, hS⟩ := hv.form
  obtain ⟨b, o, rfl, hT⟩ := hS h0
  obtain ⟨m, hm⟩ : ∃ m, L.length = m + 1 := ⟨L.length - 1, by omega⟩
  have c0 := (hT.next (new_below w (.cells #[.string nm, .int .i64 bend, .slice (some ⟨b, o, none⟩) L.length cap] 73)) m (by omega)).1
  have HR : Hid (lst L = (gt L m).t) := by unfold Hid lst; rw [hm]; rfl
  generalize lst L = R at *
  generalize (gt L m).t = x at *
  rw [hm] at c0 hn ⊢
  clear hS hT hv h0 hm
  go_enter Try.func66, Try.ntmps66
  go_wp2_with fail
  go_ret
  exact ⟨by rw [HR.out]; rfl, new_below _ _⟩

def hasB (L : List St) (t : Int) : Bool := decide (0 < L.length) && (decide (fst L ≤ t) && decide (t ≤ lst L))
set_option maxRecDepth 100000 in
theorem has_any (v : Value) (nm : ByteArray) (bend : Int) (L : List St) (hn : L.length ≤ 1000) (t : Int) (w : World) (hv : OV w v nm bend L) :
    Calls Try.prog 41 #[v, .int .i64 t] w fun e w' => e = .returned (.bool (hasB L t)) ∧ Below w.heap.size w w' := by
  have CL := Lib.hid (fun (h0 : 0 < L.length) W (h : Below w.heap.size w W) => lastTick_any v nm bend L h0 hn W (hv.next h))
  obtain ⟨p, cap, rfl, -, -, hS⟩ := hv.form
  by_cases h0 : 0 < L.length
  · obtain ⟨b, o, rfl, hT⟩ := hS h0
    have CL2 := Lib.hid (CL.out h0)
    have c0 := (hT.next (new_below w (.cells #[.string nm, .int .i64 bend, .slice (some ⟨b, o, none⟩) L.length cap] 73)) 0 h0).1
    rw [Nat.zero_mul, Nat.add_zero] at c0
    have HR : Hid (hasB L t = (decide (fst L ≤ t) && decide (t ≤ lst L))) := by unfold Hid hasB; rw [decide_eq_true h0]; rfl
    have hf : (gt L 0).t = fst L := rfl
    rw [hf] at c0
    clear hS hT hv CL hf
    generalize hasB L t = R at *
    generalize lst L = l at *
    generalize fst L = f at *
    generalize L.length = n at *
    by_cases h1 : f ≤ t
    · have HR2 : Hid (R = decide (t ≤ l)) := HR.out.trans (by rw [decide_eq_true h1]; rfl)
      clear HR
      go_enter Try.func41, Try.ntmps41
      go_wp2_with fail
      refine (CL2.out _ (new_below _ _)).mono ?_
      rintro e w1 ⟨rfl, hb⟩
      have HB := Lib.hid (trans' (new_below _ _) hb)
      clear hb
      go_wp2_with fail
      go_ret
      exact ⟨by rw [HR2.out]; rfl, HB.out⟩
    · have HR2 : Hid (R = false) := HR.out.trans (by rw [decide_eq_false h1]; rfl)
      clear HR
      go_enter Try.func41, Try.ntmps41
      go_wp2_with fail
      go_ret
      exact ⟨by rw [HR2.out]; rfl, new_below _ _⟩
  · have HR2 : Hid (hasB L t = false) := by unfold Hid hasB; rw [decide_eq_false h0]; rfl
    have hz : L.length = 0 := by omega
    rw [hz]
    clear hS hv CL hz
    go_enter Try.func41, Try.ntmps41
    go_wp2_with fail
    go_ret
    exact ⟨by rw [HR2.out]; rfl, new_below _ _⟩

def tickE (L : List St) (t : Int) : Int := if hasB L t = true then 0 else 2
set_option maxRecDepth 100000 in
theorem tickError_any (v : Value) (nm : ByteArray) (bend : Int) (L : List St) (hn : L.length ≤ 1000) (t : Int) (w : World) (hv : OV w v nm bend L) :
    Calls Try.prog 36 #[v, .int .i64 t] w fun e w' => e = .returned (.int .i64 (tickE L t)) ∧ Below w.heap.size w w' := by
  have CH := Lib.hid (fun W (h : Below w.heap.size w W) => has_any v nm bend L hn t W (hv.next h))
  obtain ⟨p, cap, rfl, -, -, hS⟩ := hv.form
  unfold tickE
  clear hS hv
  generalize hasB L t = R at *
  generalize L.length = n at *
  cases R
  all_goals
    go_enter Try.func36, Try.ntmps36
    go_wp2_with fail
    refine (CH.out _ (new_below _ _)).mono ?_
    rintro e w1 ⟨rfl, hb⟩
    have HB := Lib.hid (trans' (new_below _ _) hb)
    clear hb
    go_wp2_with fail
    go_ret
    exact ⟨rfl, HB.out⟩

def arcE (n : Nat) (arc : Int) : Int := if 0 ≤ arc ∧ arc + 1 < n then 0 else 6
/-! places -/
set_option maxRecDepth 100000 in
theorem less_any (x y z x' y' z' : Int) (h1 : -1000000000 ≤ x ∧ x ≤ 1000000000) (h2 : -1000000000 ≤ y ∧ y ≤ 1000000000) (h3 : -1000000000 ≤ z ∧ z ≤ 1000000000) (h4 : -1000000000 ≤ x' ∧ x' ≤ 1000000000) (h5 : -1000000000 ≤ y' ∧ y' ≤ 1000000000) (h6 : -1000000000 ≤ z' ∧ z' ≤ 1000000000) (w : World) :
    Calls Try.prog 77 #[.agg #[.int .i64 x, .int .i64 y, .int .i64 z], .agg #[.int .i64 x', .int .i64 y', .int .i64 z']] w fun e w' => e = .returned (.agg #[.int .i64 (x - x'), .int .i64 (y - y'), .int .i64 (z - z')]) ∧ Below w.heap.size w w' := by
  go_enter Try.func77, Try.ntmps77
  go_wp2_with fail
  refine bodyPost_ret (v := .agg #[.int .i64 (x - x'), .int .i64 (y - y'), .int .i64 (z - z')]) (by simp [results, Try.results77, go_sem]) rfl ⟨rfl, ?_⟩
  (repeat (first | with_reducible exact Below.refl _ _ | with_reducible refine alloc1 ?_ _ | with_reducible refine Below.drew ?_ | with_reducible refine drewN1 ?_ _ | with_reducible refine setC ?_ (by omega) _))

/-- a bound for a sum of three squares -/
theorem mul_bd (a b M : Int) (h1 : -M ≤ a) (h2 : a ≤ M) (h3 : -M ≤ b) (h4 : b ≤ M) : -(M * M) ≤ a * b ∧ a * b ≤ M * M := by
  have hM : 0 ≤ M := by omega
  have h : (a * b).natAbs = a.natAbs * b.natAbs := Int.natAbs_mul a b
  have h5 : a.natAbs * b.natAbs ≤ M.natAbs * M.natAbs := Nat.mul_le_mul (by omega) (by omega)
  have h6 : ((M.natAbs * M.natAbs : Nat) : Int) = M * M := by rw [Int.natCast_mul]; congr 1 <;> omega
  omega
theorem mul_bd9 (a b : Int) (h1 : -1000000000 ≤ a ∧ a ≤ 1000000000) (h3 : -1000000000 ≤ b ∧ b ≤ 1000000000) : -1000000000000000000 ≤ a * b ∧ a * b ≤ 1000000000000000000 :=
  mul_bd a b 1000000000 h1.1 h1.2 h3.1 h3.2
set_option maxRecDepth 100000 in
theorem product_any (x y z x' y' z' : Int) (h1 : -1000000000 ≤ x ∧ x ≤ 1000000000) (h2 : -1000000000 ≤ y ∧ y ≤ 1000000000) (h3 : -1000000000 ≤ z ∧ z ≤ 1000000000) (h4 : -1000000000 ≤ x' ∧ x' ≤ 1000000000) (h5 : -1000000000 ≤ y' ∧ y' ≤ 1000000000) (h6 : -1000000000 ≤ z' ∧ z' ≤ 1000000000) (w : World) :
    Calls Try.prog 78 #[.agg #[.int .i64 x, .int .i64 y, .int .i64 z], .agg #[.int .i64 x', .int .i64 y', .int .i64 z']] w fun e w' => e = .returned (.int .i64 (x * x' + y * y' + z * z')) ∧ Below w.heap.size w w' := by
  have b1 := mul_bd9 x x' h1 h4
  have b2 := mul_bd9 y y' h2 h5
  have b3 := mul_bd9 z z' h3 h6
  go_enter Try.func78, Try.ntmps78
  go_wp2_with fail
  go_ret
  exact ⟨rfl, by (repeat (first | with_reducible exact Below.refl _ _ | with_reducible refine alloc1 ?_ _ | with_reducible refine Below.drew ?_ | with_reducible refine drewN1 ?_ _ | with_reducible refine setC ?_ (by omega) _))⟩

set_option maxRecDepth 100000 in
theorem coordinates_exact (x y z : Int) (w : World) :
    Calls Try.prog 62 #[.agg #[.int .i64 x, .int .i64 y, .int .i64 z]] w fun e w' => e = .returned (.agg #[.int .i64 x, .int .i64 y, .int .i64 z]) ∧ (w.alloc (.cells #[.int .i64 x, .int .i64 y, .int .i64 z] 43)).alloc (.cells #[.int .i64 x, .int .i64 y, .int .i64 z] 57) = w' := by
  go_enter Try.func62, Try.ntmps62
  go_wp2_with fail
  exact bodyPost_ret (v := .agg #[.int .i64 x, .int .i64 y, .int .i64 z]) (by simp [results, Try.results62, go_sem]) rfl ⟨rfl, rfl⟩
set_option maxRecDepth 100000 in
theorem coordinates_any (x y z : Int) (w : World) :
    Calls Try.prog 62 #[.agg #[.int .i64 x, .int .i64 y, .int .i64 z]] w fun e w' => e = .returned (.agg #[.int .i64 x, .int .i64 y, .int .i64 z]) ∧ Below w.heap.size w w' := by
  go_enter Try.func62, Try.ntmps62
  go_wp2_with fail
  refine bodyPost_ret (v := .agg #[.int .i64 x, .int .i64 y, .int .i64 z]) (by simp [results, Try.results62, go_sem]) rfl ⟨rfl, ?_⟩
  (repeat (first | with_reducible exact Below.refl _ _ | with_reducible refine alloc1 ?_ _ | with_reducible refine Below.drew ?_ | with_reducible refine drewN1 ?_ _ | with_reducible refine setC ?_ (by omega) _))

/-- a leg as a value -/
def legV (A B : St) (p w : Int) : Value := .agg #[.int .i64 A.t, .int .i64 A.x, .int .i64 A.y, .int .i64 A.z, .int .i64 A.e, .int .i64 B.t, .int .i64 B.x, .int .i64 B.y, .int .i64 B.z, .int .i64 B.e, .int .i64 p, .int .i64 w]
set_option maxRecDepth 100000 in
theorem between_any (A B : St) (p q a b : Int) (ha : -200000000 ≤ a ∧ a ≤ 200000000) (hb : -200000000 ≤ b ∧ b ≤ 200000000) (hp : 0 ≤ p) (hq : p ≤ q) (hq2 : q ≤ 20000) (w : World) :
    Calls Try.prog 63 #[legV A B p q, .int .i64 a, .int .i64 b] w fun e w' => e = .returned (.int .i64 (pt a b p q)) ∧ Below w.heap.size w w' := by
  have m1 := mul_bd a (q - p) 200000000 ha.1 ha.2 (by omega) (by omega)
  have m2 := mul_bd b p 200000000 hb.1 hb.2 (by omega) (by omega)
  unfold pt legV
  go_enter Try.func63, Try.ntmps63
  go_wp2_with fail
  go_ret
  exact ⟨rfl, by (repeat (first | with_reducible exact Below.refl _ _ | with_reducible refine alloc1 ?_ _ | with_reducible refine Below.drew ?_ | with_reducible refine drewN1 ?_ _ | with_reducible refine setC ?_ (by omega) _))⟩

set_option maxRecDepth 100000 in
theorem isAtState_any (A B : St) (p q : Int) (w : World) :
    Calls Try.prog 61 #[legV A B p q] w fun e w' => e = .returned (.bool (decide (p = 0 ∨ p = q))) ∧ Below w.heap.size w w' := by
  unfold legV
  have hw : (p = 0 ∧ Hid (decide (p = 0 ∨ p = q) = true)) ∨ ((p == 0) = false ∧ (p == q) = true ∧ Hid (decide (p = 0 ∨ p = q) = true)) ∨ ((p == 0) = false ∧ (p == q) = false ∧ Hid (decide (p = 0 ∨ p = q) = false)) := by
    unfold Hid
    by_cases h1 : p = 0
    · left; exact ⟨h1, by simp [h1]⟩
    · right
      by_cases h2 : p = q
      · left; exact ⟨by simpa using h1, by simpa using h2, by simp [h2]⟩
      · right; exact ⟨by simpa using h1, by simpa using h2, by simp [h1, h2]⟩
  generalize decide (p = 0 ∨ p = q) = R at *
  rcases hw with ⟨rfl, HR⟩ | ⟨h1, h2, HR⟩ | ⟨h1, h2, HR⟩
  all_goals
    go_enter Try.func61, Try.ntmps61
    go_wp2_with fail
    go_ret
    exact ⟨by rw [HR.out]; rfl, by (repeat (first | with_reducible exact Below.refl _ _ | with_reducible refine alloc1 ?_ _ | with_reducible refine Below.drew ?_ | with_reducible refine drewN1 ?_ _ | with_reducible refine setC ?_ (by omega) _))⟩
end Go.Proofs.Ytmbolmmcfnfamaa.Orb
