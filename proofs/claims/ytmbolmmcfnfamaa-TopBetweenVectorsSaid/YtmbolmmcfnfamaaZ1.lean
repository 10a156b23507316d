import Derived.Test.YtmbolmmcfnfamaaZy
namespace Go.Proofs.Ytmbolmmcfnfamaa.Orb
open Go.RowKit Lib

set_option maxRecDepth 100000 in
set_option maxHeartbeats 8000000 in
/-- TopBetweenVectors, for all its arguments -/
theorem between_full (nm : ByteArray) (bend : Int) (L : List St) (v pv : Value) (nw : Nat) (part : Nat → Nat → Int) (f0 f1 f2 : Int) (w : World) (hv : OV w v nm bend L) (hI : ∀ k, (gt L k).t ≤ 9223372036854775807) (hP : Parts w pv nw part) :
    Calls Try.prog 5 #[v, pv, .agg #[.int .i64 f0, .int .i64 f1, .int .i64 f2]] w fun e w' => e = .returned (.bool true) ∧ Below w.heap.size w w' := by
  by_cases hmain : briefB nm.size (nameE nm) bend L = true ∧ (orbE (nameE nm) bend L).2 = 0 ∧ 1 ≤ nw ∧ nw ≤ 50
  · exact between_law nm bend L v pv nw part f0 f1 f2 w hv hI hP (Rt.of hmain.2.1).2 hmain.2.1 hmain.1 hmain.2.2.1 hmain.2.2.2
  have CA := Lib.hid flown_any
  have CB := Lib.hid (fun W (h : Below w.heap.size w W) => Brief_any v nm bend L W (hv.next h))
  have CE := Lib.hid (fun (hs : nm.size ≤ 1000) W (h : Below w.heap.size w W) => refErr_any v nm hs bend L W (hv.next h))
  have hway : briefB nm.size (nameE nm) bend L = false ∨ (briefB nm.size (nameE nm) bend L = true ∧ nm.size ≤ 1000 ∧ ((orbE (nameE nm) bend L).2 != 0) = true) ∨ (briefB nm.size (nameE nm) bend L = true ∧ nm.size ≤ 1000 ∧ (orbE (nameE nm) bend L).2 = 0 ∧ nw = 0) ∨ (briefB nm.size (nameE nm) bend L = true ∧ nm.size ≤ 1000 ∧ (orbE (nameE nm) bend L).2 = 0 ∧ 1 ≤ nw ∧ 50 < nw) := by
    cases hb : briefB nm.size (nameE nm) bend L with
    | false => exact .inl rfl
    | true =>
      have hs : nm.size ≤ 1000 := by have := (fewB_true (briefB_true hb).1).1; omega
      by_cases h1 : (orbE (nameE nm) bend L).2 = 0
      · by_cases h2 : nw = 0
        · exact .inr (.inr (.inl ⟨rfl, hs, h1, h2⟩))
        · exact .inr (.inr (.inr ⟨rfl, hs, h1, by omega, by
            rcases Nat.lt_or_ge 50 nw with h | h
            · exact h
            · exact absurd ⟨hb, h1, by omega, h⟩ hmain⟩))
      · exact .inr (.inl ⟨rfl, hs, by rw [bne_iff_ne]; exact h1⟩)
  obtain ⟨p, cap, hvf, -, -, -⟩ := hv.form
  subst hvf
  obtain ⟨pa, pc, hpv, -, -, -⟩ := hP
  subst hpv
  clear hv hI hmain
  generalize (orbE (nameE nm) bend L).2 = E at *
  generalize briefB nm.size (nameE nm) bend L = B at *
  generalize L.length = n at *
  have start : Hid (∀ W0, W0 = (w.alloc (.cells #[.string nm, .int .i64 bend, .slice p n cap] 24)).alloc (.cells #[.int .i64 f0, .int .i64 f1, .int .i64 f2] 57) → Below w.heap.size w W0 ∧ W0.heap[w.heap.size]? = some (.cells #[.string nm, .int .i64 bend, .slice p n cap] 24 (0, 0))) := by
    intro W0 hW0
    exact ⟨by rw [hW0]; (repeat (first | with_reducible exact Below.refl _ _ | with_reducible refine alloc1 ?_ _ | with_reducible refine Below.drew ?_ | with_reducible refine drewN1 ?_ _ | with_reducible refine setC ?_ (by omega) _)), by rw [hW0]; (repeat (first | ((with_reducible refine hnew ?_); (simp; done)) | with_reducible refine hdrew ?_ | with_reducible refine hold ?_))⟩
  rcases hway with rfl | ⟨rfl, hs, hE⟩ | ⟨rfl, hs, rfl, rfl⟩ | ⟨rfl, hs, rfl, hw1, hw2⟩
  · go_enter Try.func5, Try.ntmps5
    go_wp2_with fail
    obtain ⟨W0, hW0⟩ : ∃ W0, W0 = (w.alloc (.cells #[.string nm, .int .i64 bend, .slice p n cap] 24)).alloc (.cells #[.int .i64 f0, .int .i64 f1, .int .i64 f2] 57) := ⟨_, rfl⟩
    rw [← hW0]
    obtain ⟨hb0, hp0⟩ := start.out W0 hW0
    clear hW0 start CE
    refine (CA.out _).mono ?_
    rintro e w1 ⟨rfl, hb⟩
    have HB1 := Lib.hid (trans' hb0 hb)
    obtain ⟨k0, k1, k2⟩ := cells3 (keepb hb hp0)
    clear hb hb0 hp0 CA
    go_wp2_with fail
    refine (CB.out _ HB1.out).mono ?_
    rintro e w2 ⟨rfl, hb⟩
    have HB2 := Lib.hid (trans' HB1.out hb)
    clear hb
    go_wp2_with fail
    go_ret
    exact ⟨rfl, HB2.out⟩
  all_goals
    have CE2 := Lib.hid (CE.out hs)
    have hz0 : (((0 : Nat) : Int) == 0) = true := rfl
    have hn50 : ∀ k : Nat, 50 < k → (50 : Int) < (k : Int) := fun k h => by omega
    have hn0 : ∀ k : Nat, 1 ≤ k → ¬ (k : Int) = 0 := fun k h => by omega
    clear CE
    go_enter Try.func5, Try.ntmps5
    go_wp2_with fail
    obtain ⟨W0, hW0⟩ : ∃ W0, W0 = (w.alloc (.cells #[.string nm, .int .i64 bend, .slice p n cap] 24)).alloc (.cells #[.int .i64 f0, .int .i64 f1, .int .i64 f2] 57) := ⟨_, rfl⟩
    rw [← hW0]
    obtain ⟨hb0, hp0⟩ := start.out W0 hW0
    clear hW0 start
    refine (CA.out _).mono ?_
    rintro e w1 ⟨rfl, hb⟩
    have HB1 := Lib.hid (trans' hb0 hb)
    have HP1 := Lib.hid (keepb hb hp0)
    obtain ⟨k0, k1, k2⟩ := cells3 HP1.out
    clear hb hb0 hp0 CA
    go_wp2_with fail
    refine (CB.out _ HB1.out).mono ?_
    rintro e w2 ⟨rfl, hb⟩
    have HB2 := Lib.hid (trans' HB1.out hb)
    have HP2 := Lib.hid (keepb hb HP1.out)
    clear hb k0 k1 k2 HB1 HP1 CB
    obtain ⟨k0, k1, k2⟩ := cells3 HP2.out
    go_wp2_with fail
    refine (CE2.out _ HB2.out).mono ?_
    rintro e w3 ⟨rfl, hb⟩
    have HB3 := Lib.hid (trans' HB2.out hb)
    clear hb
    try have hw3 := hn50 _ hw2
    try have hw4 := hn0 _ hw1
    go_wp2_with fail
    go_ret
    exact ⟨rfl, HB3.out⟩
end Go.Proofs.Ytmbolmmcfnfamaa.Orb
