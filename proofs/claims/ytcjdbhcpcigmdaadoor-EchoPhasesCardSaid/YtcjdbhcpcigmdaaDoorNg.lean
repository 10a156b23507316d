import Derived.Test.YtcjdbhcpcigmdaaDoorNf
namespace Go.Proofs.YtcjdbhcpcigmdaaDoor
open Go.RowKit Go.Proofs.YtcjdbhcpcigmdaaDoor.Flt

theorem refTransform_any (va : Value) (xs : List Int) (w : World) (ha : Sl w va (ivals xs)) (ea : listErr xs = 0) :
    Calls Tryd.prog 49 #[va] w (CopyOk (trList xs (rootN xs.length) 1) w) := by
  obtain ⟨n1, n2, n3⟩ := listErr_ok ea
  have hq : 998244352 / xs.length ≤ 998244352 := Nat.div_le_self _ _
  have C1 := Lib.hid (Power_any 3 (998244352 / xs.length) (by decide) (by omega))
  have hr : pmF 31 (998244352 / xs.length) 3 1 = rootN xs.length := rfl
  rw [hr] at C1
  have HE : Hid ((998244352 : Int) / (xs.length : Int) = ((998244352 / xs.length : Nat) : Int)) := by unfold Hid; rw [Int.natCast_ediv]; rfl
  have C2 := Lib.hid (Sums_any va xs (rootN xs.length) w ha n1 n3 (rootN_lt _))
  obtain ⟨aa, ac, rfl, hla, -⟩ := ha
  have ex : (ivals xs).length = xs.length := by simp [ivals]
  rw [ex] at C2 hla ⊢
  generalize trList xs (rootN xs.length : Nat) 1 = L at *
  generalize rootN xs.length = R at *
  generalize 998244352 / xs.length = q at *
  generalize xs.length = n at *
  have h0 : ¬ (n : Int) = 0 := by omega
  clear ea n3 ex hr
  go_enter Tryd.func49, Tryd.ntmps49
  go_wp2_with fail
  rw [HE.out]
  refine (C1.out _).mono ?_
  rintro e w' ⟨rfl, rfl⟩
  go_wp2_with fail
  refine C2.out.mono ?_
  rintro e w' ⟨v, rfl, hb, ho⟩
  have HO := Lib.hid (And.intro hb ho)
  clear hb ho
  go_wp2_with fail
  go_ret
  exact ⟨v, rfl, HO.out⟩

/-- behind k rounds of the last loop -/
def invPart (xs : List Int) (u c : Int) (n k : Nat) : List Value :=
  (List.range n).map fun i => .int .i64 (if i < k then trAt xs u c i else trAt xs u 1 i)
theorem invPart_zero (xs : List Int) (u c : Int) (n : Nat) (h : xs.length = n) : invPart xs u c n 0 = ivals (trList xs u 1) := by
  unfold invPart trList ivals
  rw [h, List.map_map]
  apply List.map_congr_left
  intro i hi
  simp
theorem invPart_end (xs : List Int) (u c : Int) (n : Nat) (h : xs.length = n) : invPart xs u c n n = ivals (trList xs u c) := by
  unfold invPart trList ivals
  rw [h, List.map_map]
  apply List.map_congr_left
  intro i hi
  have := List.mem_range.1 hi
  simp [this]
theorem invPart_step (xs : List Int) (u c : Int) (n k : Nat) : (invPart xs u c n k).set k (.int .i64 (trAt xs u c k)) = invPart xs u c n (k + 1) := by
  apply List.ext_getElem
  · simp [invPart]
  · intro i h1 h2
    rw [List.getElem_set]
    simp only [invPart, List.getElem_map, List.getElem_range]
    by_cases h : k = i
    · subst h; rw [if_pos rfl, if_pos (by omega)]
    · rw [if_neg h]
      by_cases h3 : i < k
      · rw [if_pos h3, if_pos (by omega)]
      · rw [if_neg h3, if_neg (by omega)]
theorem invPart_at (xs : List Int) (u c : Int) (n k : Nat) (h : k < n) : (invPart xs u c n k)[k]? = some (.int .i64 (trAt xs u 1 k)) := by
  simp [invPart, List.getElem?_range h]

structure InvInv (xs : List Int) (u c : Int) (n g cap : Nat) (w : World) (k : Nat) (wr : World) : Prop where
  hg : w.heap.size ≤ g
  hb : Below w.heap.size w wr
  ho : wr.ownsRow w.heap.size 3 1 (.slice (some ⟨g, 0, none⟩) n cap) n (invPart xs u c n k)
theorem InvInv.next {xs : List Int} {u c : Int} {n g cap k : Nat} {w wr : World} (h : InvInv xs u c n g cap w k wr) :
    InvInv xs u c n g cap w (k + 1) (wr.setCell ⟨g, k, none⟩ (.int .i64 (trAt xs u c k))) := by
  refine ⟨h.hg, h.hb.setCell (p := ⟨g, k, none⟩) h.hg _, ?_⟩
  have := (h.ho.stored k (.int .i64 (trAt xs u c k))).1
  rw [invPart_step] at this
  exact this

set_option maxRecDepth 100000 in
set_option maxHeartbeats 1000000 in
theorem refInverse_any (va : Value) (xs : List Int) (w : World) (ha : Sl w va (ivals xs)) (ea : listErr xs = 0) :
    Calls Tryd.prog 50 #[va] w (CopyOk (trList xs (recN (rootN xs.length)) (recN xs.length)) w) := by
  obtain ⟨n1, n2, n3⟩ := listErr_ok ea
  have hq : 998244352 / xs.length ≤ 998244352 := Nat.div_le_self _ _
  have C1 := Lib.hid (Power_any 3 (998244352 / xs.length) (by decide) (by omega))
  have hr : pmF 31 (998244352 / xs.length) 3 1 = rootN xs.length := rfl
  rw [hr] at C1
  have HE : Hid ((998244352 : Int) / (xs.length : Int) = ((998244352 / xs.length : Nat) : Int)) := by unfold Hid; rw [Int.natCast_ediv]; rfl
  have C3 : Hid (∀ w, Calls Tryd.prog 99 #[.int .i64 (rootN xs.length : Nat), .int .i64 998244351] w fun en w' => en = .returned (.int .i64 (recN (rootN xs.length) : Nat)) ∧ w = w') :=
    Power_any (rootN xs.length) 998244351 (rootN_lt _) (by decide)
  have C4 : Hid (∀ w, Calls Tryd.prog 99 #[.int .i64 (xs.length : Nat), .int .i64 998244351] w fun en w' => en = .returned (.int .i64 (recN xs.length : Nat)) ∧ w = w') :=
    Power_any xs.length 998244351 (by omega) (by decide)
  have C2 := Lib.hid (Sums_any va xs (recN (rootN xs.length)) w ha n1 n3 (recN_lt _))
  have hc := recN_lt xs.length
  have HL : Hid ((trList xs (recN (rootN xs.length) : Nat) 1).length = xs.length) := trList_length _ _ _
  obtain ⟨aa, ac, rfl, hla, -⟩ := ha
  obtain ⟨n, hn⟩ : ∃ n, n = xs.length := ⟨_, rfl⟩
  have ex : (ivals xs).length = n := by simp [ivals, hn]
  rw [ex] at C2 hla ⊢
  rw [← hn] at C1 HE C3 C4 C2 hc HL n1 n2 hq ⊢
  have HN := Lib.hid hn
  have h0 : ¬ (n : Int) = 0 := by omega
  clear ea n3 ex hr hn
  generalize recN (rootN n) = V at *
  generalize rootN n = R at *
  generalize recN n = U at *
  generalize 998244352 / n = q at *
  go_enter Tryd.func50, Tryd.ntmps50
  go_wp2_with fail
  rw [HE.out]
  refine (C1.out _).mono ?_
  rintro e w' ⟨rfl, rfl⟩
  go_wp2_with fail
  refine (C3.out _).mono ?_
  rintro e w' ⟨rfl, rfl⟩
  go_wp2_with fail
  refine C2.out.mono ?_
  rintro e w1 ⟨v, rfl, hb, ho⟩
  rw [HL.out, ← invPart_zero xs V U n HN.out.symm] at ho
  obtain ⟨g, cap, rfl, hg⟩ : ∃ g cap, v = .slice (some ⟨g, 0, none⟩) n cap ∧ w.heap.size ≤ g := by
    rcases ho.2 with ⟨-, h⟩ | ⟨g, cap, cur, h, hg, -⟩
    · omega
    · exact ⟨g, cap, h, hg⟩
  have I0 : Hid (InvInv xs V U n g cap w 0 w1) := ⟨hg, hb, ho⟩
  clear hb ho hg
  go_wp2_with fail
  refine (C4.out _).mono ?_
  rintro e w' ⟨rfl, rfl⟩
  go_wp2_with fail
  go_loopw [6] (fun i wr => ∃ k : Nat, k ≤ n ∧ i = .int .i64 k ∧ Hid (InvInv xs V U n g cap w k wr)) (fun i _ => n - (intOf i).toNat)
  case atStart => exact ⟨0, Nat.zero_le _, rfl, I0⟩
  case round =>
    obtain ⟨k, hk, rfl, IK⟩ := hrel
    obtain ⟨wz, rfl⟩ : ∃ wz : World, wz = wr := ⟨_, rfl⟩
    clear I0
    by_cases hlt : k < n
    · have d3 : wz.cell? ⟨g, k, none⟩ = some (.int .i64 (trAt xs V 1 k)) := (IK.out.ho.cellAt k (by omega)).trans (invPart_at _ _ _ _ _ hlt)
      have d4 : wz.frozen? ⟨g, k, none⟩ = false := IK.out.ho.frozenAt k
      obtain ⟨b1, b2⟩ := trAt_b xs V 1 k
      obtain ⟨p1, p2⟩ := prodI_b b1 b2 (show (0 : Int) ≤ U by omega) (show (U : Int) < 998244353 by omega)
      have HV : Hid (trAt xs V U k = trAt xs V 1 k * U % 998244353) := by unfold Hid; rw [trAt_one]; rfl
      have HNX := Lib.hid IK.out.next
      generalize trAt xs V 1 k = S at *
      clear IK
      go_wp2_with fail
      rw [← HV.out]
      go_roundw
      case rel => exact ⟨k + 1, by omega, by go_num, HNX.out⟩
      case measure => simp [intOf]; omega
    · obtain rfl : k = n := by omega
      have HF := Lib.hid IK.out.ho
      have HG := Lib.hid IK.out.hb
      clear IK
      go_wp2_with fail
      go_ret
      refine ⟨_, rfl, HG.out, ?_⟩
      have := HF.out
      rw [invPart_end _ _ _ _ HN.out.symm] at this
      rw [trList_length, ← HN.out]
      exact this
end Go.Proofs.YtcjdbhcpcigmdaaDoor
