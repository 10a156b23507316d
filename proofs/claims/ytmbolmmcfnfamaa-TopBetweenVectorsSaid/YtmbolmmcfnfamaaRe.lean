import Derived.Test.YtmbolmmcfnfamaaRd
import Derived.Deep.CutRange
import Derived.Outline
namespace Go.Proofs.Ytmbolmmcfnfamaa.Orb
open Go.RowKit Lib

/-- a slice's cells read as states -/
def Sts (W : World) (b o : Nat) (L : List St) : Prop := ∀ k, k < L.length →
  W.cell? ⟨b, o + k * 5, none⟩ = some (.int .i64 (gt L k).t) ∧ W.cell? ⟨b, o + k * 5 + 1, none⟩ = some (.int .i64 (gt L k).x) ∧ W.cell? ⟨b, o + k * 5 + 2, none⟩ = some (.int .i64 (gt L k).y) ∧
  W.cell? ⟨b, o + k * 5 + 3, none⟩ = some (.int .i64 (gt L k).z) ∧ W.cell? ⟨b, o + k * 5 + 4, none⟩ = some (.int .i64 (gt L k).e)
theorem Sts.next {w W : World} {b o : Nat} {L : List St} (h : Sts w b o L) (hb : Below w.heap.size w W) : Sts W b o L := by
  intro k hk
  obtain ⟨a, c, d, e, f⟩ := h k hk
  exact ⟨keepc hb a, keepc hb c, keepc hb d, keepc hb e, keepc hb f⟩
/-- an orbit as a value -/
structure OV (W : World) (v : Value) (nm : ByteArray) (bend : Int) (L : List St) : Prop where
  form : ∃ p cap, v = .agg #[.string nm, .int .i64 bend, .slice p L.length cap] ∧ L.length ≤ cap ∧ cap ≤ 9223372036854775807 ∧ (0 < L.length → ∃ b o, p = some ⟨b, o, none⟩ ∧ Sts W b o L)
  nil : ∀ a c n cap, v = .agg #[a, c, .slice none n cap] → cap = 0
theorem OV.next {w W : World} {v : Value} {nm : ByteArray} {bend : Int} {L : List St} (h : OV w v nm bend L) (hb : Below w.heap.size w W) : OV W v nm bend L := by
  obtain ⟨p, cap, h1, h2, h3, h4⟩ := h.form
  exact ⟨⟨p, cap, h1, h2, h3, fun h0 => by obtain ⟨b, o, e, hS⟩ := h4 h0; exact ⟨b, o, e, hS.next hb⟩⟩, h.nil⟩

set_option maxRecDepth 100000 in
theorem orderError_any (b o cap k : Nat) (t : Int) (L : List St) (w : World) (hS : Sts w b o L) (hk : k < L.length) (hn : L.length ≤ 1000) (ht : t ≤ 9223372036854775807) (h0 : 0 < k → 0 ≤ (gt L 0).t ∧ (gt L 0).t ≤ 1000000000 ∧ 0 ≤ (gt L (k - 1)).t) :
    Calls Try.prog 83 #[.slice (some ⟨b, o, none⟩) k cap, .int .i64 t] w fun e w' => e = .returned (.int .i64 (orderE L k t)) ∧ w = w' := by
  cases k with
  | zero =>
    go_enter Try.func83, Try.ntmps83
    go_wp2_with fail
    go_ret
    exact ⟨rfl, rfl⟩
  | succ m =>
    obtain ⟨g0, g1, g2⟩ := h0 (by omega)
    rw [Nat.add_sub_cancel] at g2
    have c0 := (hS m (by omega)).1
    have c1 := (hS 0 (by omega)).1
    rw [Nat.zero_mul, Nat.add_zero] at c1
    have hm : m ≤ 1000 := by omega
    have hw : (t ≤ (gt L m).t ∧ Hid (orderE L (m + 1) t = 9)) ∨ (¬ t ≤ (gt L m).t ∧ 20000 < t - (gt L 0).t ∧ Hid (orderE L (m + 1) t = 8)) ∨ (¬ t ≤ (gt L m).t ∧ ¬ 20000 < t - (gt L 0).t ∧ Hid (orderE L (m + 1) t = 0)) := by
      unfold Hid orderE
      rw [if_neg (by omega), Nat.add_sub_cancel]
      by_cases a1 : t ≤ (gt L m).t
      · left; exact ⟨a1, if_pos a1⟩
      · right
        by_cases a2 : 20000 < t - (gt L 0).t
        · left; exact ⟨a1, a2, by rw [if_neg a1, if_pos a2]⟩
        · right; exact ⟨a1, a2, by rw [if_neg a1, if_neg a2]⟩
    generalize orderE L (m + 1) t = R at *
    generalize (gt L 0).t = f at *
    generalize (gt L m).t = l at *
    clear hS hn hk h0
    rcases hw with ⟨a1, HR⟩ | ⟨a1, a2, HR⟩ | ⟨a1, a2, HR⟩
    all_goals
      go_enter Try.func83, Try.ntmps83
      go_wp2_with fail
      go_ret
      exact ⟨by rw [HR.out]; rfl, rfl⟩

theorem cells_one {W : World} {b : Nat} {x : Value} {t : TypeId} (h : W.heap[b]? = some (.cells #[x] t (0, 0))) : W.cell? ⟨b, 0, none⟩ = some x := by
  rw [cell_of_row _ _ _ _ _ _ h]; rfl

set_option maxRecDepth 100000 in
set_option maxHeartbeats 4000000 in
/-- WHICH ORBITS ARE RIGHT -/
theorem CheckOrbit_any (v : Value) (nm : ByteArray) (hs : nm.size ≤ 1000) (bend : Int) (L : List St) (hI : ∀ k, (gt L k).t ≤ 9223372036854775807) (w : World) (hv : OV w v nm bend L) :
    Calls Try.prog 59 #[v] w fun e w' => e = .returned (.tuple #[.int .i64 (orbE (nameE nm) bend L).1, .int .i64 (orbE (nameE nm) bend L).2]) ∧ Below w.heap.size w w' := by
  obtain ⟨p, cap, rfl, hcap, hcap2, hS⟩ := hv.form
  obtain ⟨n, hn⟩ : ∃ n, n = L.length := ⟨_, rfl⟩
  rw [← hn] at hcap hS ⊢
  have C1 := Lib.hid (fun W => same (nameError_any nm hs W))
  have C2 := Lib.hid (fun W => same (bendError_any bend W))
  have C3 := Lib.hid (fun W => same (countError_any n W))
  have CF := Lib.hid (fun W => firstError3 (nameE nm) (rangeE bend 0 100000) (countE n) W)
  obtain ⟨R1, R2, hR⟩ : ∃ R1 R2, (R1, R2) = orbE (nameE nm) bend L := ⟨_, _, rfl⟩
  rw [← hR]
  have HR : Hid ((R1, R2) = if firstE [nameE nm, rangeE bend 0 100000, countE n] = 0 then chkFrom L 0 else (0, firstE [nameE nm, rangeE bend 0 100000, countE n])) := by
    rw [hn]; exact hR
  have HN : Hid (countE n = 0 → 2 ≤ n ∧ n ≤ 40) := by
    intro h
    unfold countE at h
    split at h
    · simp at h
    · split at h
      · simp at h
      · omega
  have HC : Hid (firstE [nameE nm, rangeE bend 0 100000, countE n] = 0 → countE n = 0) := by
    intro h
    rw [firstE_zero_iff] at h
    exact h _ (by simp)
  clear hR
  generalize countE (n : Int) = e3 at *
  generalize rangeE bend 0 100000 = e2 at *
  generalize nameE nm = e1 at *
  have HL := Lib.hid hn
  have HS := Lib.hid hS
  have HI := Lib.hid hI
  clear hn hS hv hI
  have hw : (firstE [e1, e2, e3] = 0 ∨ (firstE [e1, e2, e3] != 0) = true) := by
    by_cases h : firstE [e1, e2, e3] = 0
    · exact .inl h
    · exact .inr (by rw [bne_iff_ne]; exact h)
  generalize firstE [e1, e2, e3] = f at *
  rcases hw with rfl | hf
  all_goals
    go_enter Try.func59, Try.ntmps59
    go_wp2_with fail
    refine region_tail 10 (by kernel_rfl) (by kernel_rfl) (fun W hW => ?_)
    simp only [List.take_succ_cons, List.take_zero, List.drop_succ_cons, List.drop_zero]
    obtain ⟨hblk, hbel⟩ := made_cells hW
    have HB := Lib.hid hbel
    have HK := Lib.hid hblk
    obtain ⟨k0, k1, k2⟩ := cells3 hblk
    clear hW hbel hblk
    still_step
    still_step
    still_call (C1.out _)
    still_step
    still_step
    still_call (C2.out _)
    still_step
    still_step
    still_step
    still_call (C3.out _)
    refine wpStill_nil ?_
    go_wp2_with fail
    refine (CF.out _).mono ?_
    rintro e w1 ⟨rfl, rfl⟩
    obtain ⟨W2, hW2⟩ : ∃ W2, W2 = W.alloc (.cells #[.int .i64 e1, .int .i64 e2, .int .i64 e3] 29) := ⟨_, rfl⟩
    have HB2 : Hid (Below w.heap.size w W2) := by rw [hW2]; exact alloc1 HB.out _
    have HK2 : Hid (W2.heap[w.heap.size]? = some (.cells #[.string nm, .int .i64 bend, .slice p n cap] 24 (0, 0))) := by rw [hW2]; exact keepb (new_below _ _) HK.out
    rw [← hW2]
    clear hW2 k0 k1 k2 HK HB
    obtain ⟨k0, k1, k2⟩ := cells3 HK2.out
    go_wp2_with fail
  · have HN2 := HN.out (HC.out trivial)
    obtain ⟨b, o, rfl, hSt⟩ := HS.out (by omega)
    have HST := Lib.hid hSt
    have HX0 : Hid ((R1, R2) = chkFrom L 0) := HR.out.trans (if_pos trivial)
    clear hSt HS HR HC HN CF C1 C2 C3 k0 k1 k2
    go_loopw [26] (fun i wr => ∃ k : Nat, k ≤ n ∧ i = .int .i64 k ∧ Hid (Below w.heap.size w wr ∧ wr.heap[w.heap.size]? = some (.cells #[.string nm, .int .i64 bend, .slice (some ⟨b, o, none⟩) n cap] 24 (0, 0))) ∧ Hid ((R1, R2) = chkFrom L k) ∧ Hid (∀ j, j < k → stepE L j = 0)) (fun i _ => n - (intV i).toNat)
    case atStart => exact ⟨0, Nat.zero_le _, rfl, ⟨HB2.out, HK2.out⟩, HX0, fun j h => absurd h (Nat.not_lt_zero j)⟩
    case round =>
      obtain ⟨k, hk, rfl, HW, HX, HP⟩ := hrel
      obtain ⟨wz, rfl⟩ : ∃ wz : World, wz = wr := ⟨_, rfl⟩
      obtain ⟨k0, k1, k2⟩ := cells3 HW.out.2
      have hsz : w.heap.size < wz.heap.size := lt_of_block HW.out.2
      by_cases hlt : k < n
      · obtain ⟨c0, c1, c2, c3, c4⟩ := (HST.out.next HW.out.1) k (by have := HL.out; omega)
        have HP2 : Hid (stepE L k = 0 → ∀ j, j < k + 1 → stepE L j = 0) := by
          intro h j hj
          by_cases e : j = k
          · rw [e]; exact h
          · exact HP.out j (by omega)
        have HG : Hid (0 < k → 0 ≤ (gt L 0).t ∧ (gt L 0).t ≤ 1000000000 ∧ 0 ≤ (gt L (k - 1)).t) := by
          intro h
          have key : ∀ j, j < k → StOk (gt L j) := by
            intro j hj
            have := HP.out j hj
            unfold stepE at this
            rw [firstE_zero_iff] at this
            exact (stE_zero _).1 (this _ (by simp))
          exact ⟨(key 0 h).t0, (key 0 h).t1, (key (k - 1) (by omega)).t0⟩
        have CSt := Lib.hid (fun W => stateError_any (gt L k).t (gt L k).x (gt L k).y (gt L k).z (gt L k).e W)
        have COr := Lib.hid (fun W (h : Below w.heap.size w W) => orderError_any b o cap k (gt L k).t L W (HST.out.next h) (by have := HL.out; omega) (by have := HL.out; omega) (HI.out k) HG.out)
        have CF2 := Lib.hid (fun W => firstError2 (stE (gt L k)) (orderE L k (gt L k).t) W)
        have HX1 : Hid (stepE L k = 0 → (R1, R2) = chkFrom L (k + 1)) := fun h => HX.out.trans (chkFrom_step L k (by have := HL.out; omega) h)
        have HX2 : Hid (stepE L k ≠ 0 → (R1, R2) = ((k : Int), stepE L k)) := fun h => HX.out.trans (chkFrom_bad L k (by have := HL.out; omega) h)
        have hR : firstE [stE (gt L k), orderE L k (gt L k).t] = stepE L k := rfl
        rw [hR] at CF2
        have eta : stE ⟨(gt L k).t, (gt L k).x, (gt L k).y, (gt L k).z, (gt L k).e⟩ = stE (gt L k) := rfl
        rw [eta] at CSt
        have hw : (stepE L k = 0 ∨ (stepE L k != 0) = true) := by
          by_cases h : stepE L k = 0
          · exact .inl h
          · exact .inr (by rw [bne_iff_ne]; exact h)
        clear HX hR eta HG
        generalize stepE L k = ek at *
        generalize stE (gt L k) = e4 at *
        generalize orderE L k (gt L k).t = e5 at *
        generalize (gt L k).t = xt at *
        generalize (gt L k).x = xx at *
        generalize (gt L k).y = xy at *
        generalize (gt L k).z = xz at *
        generalize (gt L k).e = xe at *
        have hkc : (k : Int) ≤ (cap : Int) := by omega
        have hk0 : (0 : Int) ≤ (k : Int) := by omega
        rcases hw with rfl | hne
        all_goals
          go_wp2_with fail
          obtain ⟨W0, hW0⟩ : ∃ W0, W0 = wz.alloc (.cells #[.int .i64 xt, .int .i64 xx, .int .i64 xy, .int .i64 xz, .int .i64 xe] 45) := ⟨_, rfl⟩
          have hbz : Below wz.heap.size wz W0 := by rw [hW0]; exact new_below _ _
          have HB0 : Hid (Below w.heap.size w W0) := trans' HW.out.1 hbz
          have HK0 := Lib.hid (keepb hbz HW.out.2)
          obtain ⟨q0, q1, q2, q3, q4⟩ := cells5 (W := W0) (b := wz.heap.size) (x := .int .i64 xt) (y := .int .i64 xx) (z := .int .i64 xy) (u := .int .i64 xz) (v := .int .i64 xe) (t := 45) (by rw [hW0]; exact heap_alloc_new _ _)
          rw [← hW0]
          clear hW0 hbz c0 c1 c2 c3 c4 k0 k1 k2 HW
          obtain ⟨k0, k1, k2⟩ := cells3 HK0.out
          go_region_held3 (fun W => W.cell? ⟨w.heap.size, 2, none⟩ = some (.slice (some ⟨b, o, none⟩) n cap) ∧ W.cell? ⟨wz.heap.size, 0, none⟩ = some (.int .i64 xt) ∧ W.cell? ⟨wz.heap.size, 1, none⟩ = some (.int .i64 xx) ∧ W.cell? ⟨wz.heap.size, 2, none⟩ = some (.int .i64 xy) ∧ W.cell? ⟨wz.heap.size, 3, none⟩ = some (.int .i64 xz) ∧ W.cell? ⟨wz.heap.size, 4, none⟩ = some (.int .i64 xe)) (with_reducible refine ⟨keepc ?_ k2, keepc ?_ q0, keepc ?_ q1, keepc ?_ q2, keepc ?_ q3, keepc ?_ q4⟩ <;> (repeat (first | with_reducible exact Below.refl _ _ | with_reducible refine andThen ?_ hbP | with_reducible refine alloc1 ?_ _ | with_reducible refine Below.drew ?_ | with_reducible refine drewN1 ?_ _ | with_reducible refine setC ?_ (by omega) _)) <;> done)
            (first
              | (go_at_call 82; (with_reducible refine (CSt.out _).mono ?_); rintro e wP ⟨rfl, hbP⟩)
              | (go_at_call 83; (with_reducible refine (COr.out _ (trans' HB0.out (by (repeat (first | with_reducible exact Below.refl _ _ | with_reducible refine andThen ?_ hbP | with_reducible refine alloc1 ?_ _ | with_reducible refine Below.drew ?_ | with_reducible refine drewN1 ?_ _ | with_reducible refine setC ?_ (by omega) _))))).mono ?_); rintro e w1 ⟨rfl, rfl⟩)
              | (go_at_call 34; (with_reducible refine (CF2.out _).mono ?_); rintro e w1 ⟨rfl, rfl⟩))
        · all_goals
            go_wp2_with fail
            go_roundw
            case rel => exact ⟨k + 1, by omega, by go_num, ⟨trans' HB0.out (by (repeat (first | with_reducible exact Below.refl _ _ | with_reducible refine andThen ?_ hbP | with_reducible refine alloc1 ?_ _ | with_reducible refine Below.drew ?_ | with_reducible refine drewN1 ?_ _ | with_reducible refine setC ?_ (by omega) _))), keepb (by (repeat (first | with_reducible exact Below.refl _ _ | with_reducible refine andThen ?_ hbP | with_reducible refine alloc1 ?_ _ | with_reducible refine Below.drew ?_ | with_reducible refine drewN1 ?_ _ | with_reducible refine setC ?_ (by omega) _))) HK0.out⟩, HX1.out trivial, HP2.out trivial⟩
            case measure => simp [intV]; omega
        · all_goals
            have HF : Hid ((R1, R2) = ((k : Int), ek)) := HX2.out (by rw [bne_iff_ne] at hne; exact hne)
            go_wp2_with fail
            go_ret2
            exact ⟨by cases HF.out; rfl, trans' HB0.out (by (repeat (first | with_reducible exact Below.refl _ _ | with_reducible refine andThen ?_ hbP | with_reducible refine alloc1 ?_ _ | with_reducible refine Below.drew ?_ | with_reducible refine drewN1 ?_ _ | with_reducible refine setC ?_ (by omega) _)))⟩
      · have HF : Hid ((R1, R2) = ((0 : Int), (0 : Int))) := HX.out.trans (chkFrom_end L k (by have := HL.out; omega))
        go_wp2_with fail
        go_ret2
        exact ⟨by cases HF.out; rfl, HW.out.1⟩
  · have HF : Hid ((R1, R2) = ((0 : Int), _)) := HR.out.trans (if_neg (by rw [bne_iff_ne] at hf; exact hf))
    go_ret2
    exact ⟨by cases HF.out; rfl, HB2.out⟩
end Go.Proofs.Ytmbolmmcfnfamaa.Orb
