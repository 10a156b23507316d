import Derived.Test.YtmiaglkkjncfnaaDoorGa
namespace Go.Proofs.YtmiaglkkjncfnaaDoor
open Go.RowKit Go.Proofs.YtmiaglkkjncfnaaDoor.Flt

/-- the energy of the sample i -/
def enAt (zs : List (Nat × Nat)) (i : Nat) : Int := re .f64 zs i * re .f64 zs i + im .f64 zs i * im .f64 zs i
def enList (zs : List (Nat × Nat)) : List Int := (List.range zs.length).map (enAt zs)
theorem enList_length (zs : List (Nat × Nat)) : (enList zs).length = zs.length := by simp [enList]
theorem enList_get (zs : List (Nat × Nat)) (i : Nat) (h : i < zs.length) : (enList zs).getD i 0 = enAt zs i := by
  simp [enList, List.getD_eq_getElem?_getD, List.getElem?_range h]

theorem sq_b {a : Int} {B : Nat} (h : a.natAbs ≤ B) : 0 ≤ a * a ∧ a * a ≤ ((B * B : Nat) : Int) := by
  rw [← Int.natAbs_mul_self]
  have := Nat.mul_le_mul h h
  omega

set_option maxRecDepth 100000 in
theorem energy_any (x y : Nat) (a b : Int) (ra : Rep Ieee.double x a) (rb : Rep Ieee.double y b) (la : a.natAbs ≤ 1000000000) (lb : b.natAbs ≤ 1000000000) (w : World) :
    Calls Tryd.prog 62 #[.complex .f64 x y] w fun e w' => e = .returned (.int .i64 (a * a + b * b)) ∧ w = w' := by
  have c1 := fun w => run_convert_float_int (P := Tryd.prog) w 86 3 .f64 .i64 x a (by kernel_rfl) (by kernel_rfl) (floatToInt_of (toInt_rep good_double ra (by show a.natAbs ≤ 2 ^ 53; omega) .zero) (by omega) (by omega))
  have c2 := fun w => run_convert_float_int (P := Tryd.prog) w 86 3 .f64 .i64 y b (by kernel_rfl) (by kernel_rfl) (floatToInt_of (toInt_rep good_double rb (by show b.natAbs ≤ 2 ^ 53; omega) .zero) (by omega) (by omega))
  obtain ⟨m1, m2⟩ := sq_b la
  obtain ⟨m3, m4⟩ := sq_b lb
  clear ra rb
  go_enter Tryd.func62, Tryd.ntmps62
  go_wp2_with fail
  go_ret
  exact ⟨rfl, rfl⟩

theorem en_b {zs : List (Nat × Nat)} (R : Right .f64 1000000000 zs) (i : Nat) (h : i < zs.length) : 0 ≤ enAt zs i ∧ enAt zs i ≤ 2000000000000000000 := by
  obtain ⟨-, -, a3, a4⟩ := R i h
  obtain ⟨m1, m2⟩ := sq_b a3
  obtain ⟨m3, m4⟩ := sq_b a4
  unfold enAt
  omega

/-- the first k values of f, and zeros, n in all -/
def fPart (f : Nat → Int) (n k : Nat) : List Value := (List.range n).map fun i => .int .i64 (if i < k then f i else 0)
theorem fPart_zero (f : Nat → Int) (n : Nat) : fPart f n 0 = List.replicate n (.int .i64 0) := by
  unfold fPart
  exact List.eq_replicate_iff.2 ⟨by simp, by simp⟩
theorem fPart_step (f : Nat → Int) (n k : Nat) : (fPart f n k).set k (.int .i64 (f k)) = fPart f n (k + 1) := by
  apply List.ext_getElem
  · simp [fPart]
  · intro i h1 h2
    rw [List.getElem_set]
    simp only [fPart, List.getElem_map, List.getElem_range]
    by_cases h : k = i
    · subst h; rw [if_pos rfl, if_pos (by omega)]
    · rw [if_neg h]
      by_cases h3 : i < k
      · rw [if_pos h3, if_pos (by omega)]
      · rw [if_neg h3, if_neg (by omega)]
theorem fPart_end (zs : List (Nat × Nat)) (n : Nat) (h : zs.length = n) : fPart (enAt zs) n n = ivals (enList zs) := by
  unfold fPart enList ivals
  rw [h, List.map_map]
  apply List.map_congr_left
  intro i hi
  have := List.mem_range.1 hi
  simp [this]
structure FInv (f : Nat → Int) (n : Nat) (w : World) (k : Nat) (wr : World) : Prop where
  hb : Below w.heap.size w wr
  ho : wr.ownsRow w.heap.size 3 1 (.slice (some ⟨w.heap.size, 0, none⟩) n n) n (fPart f n k)
theorem FInv.next {f : Nat → Int} {n k : Nat} {w wr : World} (h : FInv f n w k wr) :
    FInv f n w (k + 1) (wr.setCell ⟨w.heap.size, k, none⟩ (.int .i64 (f k))) := by
  refine ⟨h.hb.setCell (p := ⟨w.heap.size, k, none⟩) (Nat.le_refl _) _, ?_⟩
  have := (h.ho.stored k (.int .i64 (f k))).1
  rw [fPart_step] at this
  exact this

set_option maxRecDepth 100000 in
set_option maxHeartbeats 1000000 in
theorem energiesOf_any (v : Value) (zs : List (Nat × Nat)) (w : World) (hv : Sl w v (cvals .f64 zs)) (R : Right .f64 1000000000 zs) (hn4 : zs.length ≤ 4096) :
    Calls Tryd.prog 31 #[v] w fun e w' => ∃ g c, e = .returned (.slice (some ⟨g, 0, none⟩) zs.length c) ∧ w.heap.size ≤ g ∧ Below w.heap.size w w' ∧ Sl w' (.slice (some ⟨g, 0, none⟩) zs.length c) (ivals (enList zs)) := by
  have HA := Lib.hid hv
  obtain ⟨aa, ac, rfl, hla, -⟩ := hv
  obtain ⟨n, hn⟩ : ∃ n, n = zs.length := ⟨_, rfl⟩
  have ex : (cvals .f64 zs).length = n := by simp [cvals, hn]
  rw [ex] at hla HA ⊢
  rw [← hn] at hn4 ⊢
  have HN := Lib.hid hn
  have HR := Lib.hid R
  obtain ⟨i0, hi, hz0, hz1, hz2⟩ := info_parts Tryd.infoInt
  clear ex hn R
  go_enter Tryd.func31, Tryd.ntmps31
  go_wp2_with (at_make; refine wpList_make_full _ rfl _ _ 73 rfl w.heap.size 3 i0 (.int .i64 0) 1 Tryd.underlying73 hi hz0 hz1 .i64 .i64 _ _ n rfl rfl ?c1 ?c2 ?c3 ?c4 ?c5 ?_)
  case c1 => rfl
  case c2 => rfl
  case c3 => rw [hz2]; omega
  case c4 => unfold maxLen; omega
  case c5 => simp
  intro w1 hown hgrow
  have hlist : (madeCells #[Value.int .i64 0] n).toList = List.replicate n (.int .i64 0) := toList_madeCells_one _ _
  rw [hlist, ← fPart_zero (enAt zs) n] at hown
  have I0 : Hid (FInv (enAt zs) n w 0 w1) := ⟨(Below.refl _ _).grown hgrow (Nat.le_refl _) (by intro k h; cases h), hown⟩
  clear hown hgrow hlist hi hz0 hz1 hz2
  go_wp2_with fail
  go_loopw [11] (fun i wr => ∃ k : Nat, k ≤ n ∧ i = .int .i64 k ∧ Hid (FInv (enAt zs) n w k wr)) (fun i _ => n - (intOf i).toNat)
  case atStart => exact ⟨0, Nat.zero_le _, rfl, I0⟩
  case round =>
    obtain ⟨k, hk, rfl, IK⟩ := hrel
    obtain ⟨wz, rfl⟩ : ∃ wz : World, wz = wr := ⟨_, rfl⟩
    clear I0
    by_cases hlt : k < n
    · obtain ⟨-, bb, o1, rfl, q1, hcl⟩ := HA.out.at (by omega)
      have hkz : k < zs.length := by have := HN.out; omega
      have d1 : wz.cell? ⟨bb, o1 + k, none⟩ = some (.complex .f64 (zs.getD k (0, 0)).1 (zs.getD k (0, 0)).2) := (IK.out.hb.cell (p := ⟨bb, o1 + k, none⟩) q1).trans (hcl k _ (cvals_get hkz))
      obtain ⟨a1, a2, a3, a4⟩ := HR.out k hkz
      have CE := Lib.hid (fun w => energy_any _ _ _ _ a1 a2 a3 a4 w)
      have d3 : wz.cell? ⟨w.heap.size, k, none⟩ = some (.int .i64 0) := (IK.out.ho.cellAt k (by omega)).trans (by simp [fPart, List.getElem?_range hlt])
      have d4 : wz.frozen? ⟨w.heap.size, k, none⟩ = false := IK.out.ho.frozenAt k
      have HX := Lib.hid IK.out.next
      have HE : Hid (enAt zs k = re .f64 zs k * re .f64 zs k + im .f64 zs k * im .f64 zs k) := rfl
      rw [← HE.out] at CE
      generalize enAt zs k = E at *
      generalize (zs.getD k (0, 0)).1 = z1 at *
      generalize (zs.getD k (0, 0)).2 = z2 at *
      clear hcl q1 a1 a2 a3 a4 IK HE
      go_wp2_with fail
      refine (CE.out _).mono ?_
      rintro e w' ⟨rfl, rfl⟩
      go_wp2_with fail
      go_roundw
      case rel => exact ⟨k + 1, by omega, by go_num, HX.out⟩
      case measure => simp [intOf]; omega
    · have e : n = k := by omega
      subst e
      have HF := Lib.hid IK.out
      clear IK
      go_wp2_with fail
      go_ret
      refine ⟨_, _, rfl, Nat.le_refl _, HF.out.hb, ?_⟩
      have := HF.out.ho
      rw [fPart_end zs n HN.out.symm] at this
      exact Sl.of_owns this (by omega)

/-- the first place with the greatest value, of the first n -/
def bestI (f : Nat → Int) : Nat → Nat
  | 0 => 0
  | n + 1 => if f (bestI f n) < f n then n else bestI f n
theorem bestI_le (f : Nat → Int) : ∀ n, bestI f n ≤ n
  | 0 => Nat.le_refl _
  | n + 1 => by
    have := bestI_le f n
    rw [bestI]; split <;> omega
theorem bestI_lt (f : Nat → Int) : ∀ n, 1 ≤ n → bestI f n < n
  | 0, h => by omega
  | n + 1, _ => by
    have := bestI_le f n
    rw [bestI]; split <;> omega
theorem bestI_ge (f : Nat → Int) : ∀ n i, i < n → f i ≤ f (bestI f n)
  | 0, i, h => by omega
  | n + 1, i, h => by
    rw [bestI]
    by_cases hi : i = n
    · subst hi; split <;> omega
    · have := bestI_ge f n i (by omega)
      split <;> omega
theorem bestI_congr {f g : Nat → Int} : ∀ n, (∀ i, i < n → f i = g i) → bestI f n = bestI g n
  | 0, _ => rfl
  | n + 1, h => by
    have := bestI_congr n (fun i hi => h i (by omega))
    have hb := bestI_le g n
    rw [bestI, bestI, this, h _ (show bestI g n < n + 1 by omega), h n (by omega)]

set_option maxRecDepth 100000 in
set_option maxHeartbeats 1000000 in
theorem firstGreatest_any (v : Value) (xs : List Int) (w : World) (hv : Sl w v (ivals xs)) :
    Calls Tryd.prog 32 #[v] w fun e w' => e = .returned (.int .i64 (bestI (fun i => xs.getD i 0) xs.length : Nat)) ∧ w = w' := by
  have HA := Lib.hid hv
  obtain ⟨aa, ac, rfl, hla, -⟩ := hv
  obtain ⟨n, hn⟩ : ∃ n, n = xs.length := ⟨_, rfl⟩
  have ex : (ivals xs).length = n := by simp [ivals, hn]
  rw [ex] at hla HA ⊢
  rw [← hn]
  have HN := Lib.hid hn
  clear ex hn
  go_enter Tryd.func32, Tryd.ntmps32
  go_wp2_with fail
  go_loop [3, 8] (fun bv i => ∃ k : Nat, k ≤ n ∧ i = .int .i64 k ∧ bv = .int .i64 (bestI (fun i => xs.getD i 0) k : Nat)) (fun _ i => n - (intOf i).toNat)
  case atStart => exact ⟨0, Nat.zero_le _, rfl, rfl⟩
  case round =>
    obtain ⟨k, hk, rfl, rfl⟩ := hrel
    by_cases hlt : k < n
    · obtain ⟨-, bb, o1, rfl, q1, hcl⟩ := HA.out.at (by omega)
      have hb1 := bestI_le (fun i => xs.getD i 0) k
      have HS : Hid (bestI (fun i => xs.getD i 0) (k + 1) = if xs.getD (bestI (fun i => xs.getD i 0) k) 0 < xs.getD k 0 then k else bestI (fun i => xs.getD i 0) k) := rfl
      obtain ⟨m, hm⟩ : ∃ m, m = bestI (fun i => xs.getD i 0) k := ⟨_, rfl⟩
      rw [← hm] at hb1 HS ⊢
      have d1 : w.cell? ⟨bb, o1 + k, none⟩ = some (.int .i64 (xs.getD k 0)) := hcl k _ (ivals_get (by have := HN.out; omega))
      have d2 : w.cell? ⟨bb, o1 + m, none⟩ = some (.int .i64 (xs.getD m 0)) := hcl m _ (ivals_get (by have := HN.out; omega))
      generalize xs.getD k 0 = x at *
      generalize xs.getD m 0 = y at *
      clear hcl q1 hm
      by_cases hxy : y < x
      · have HS2 : Hid (bestI (fun i => xs.getD i 0) (k + 1) = k) := HS.out.trans (if_pos hxy)
        clear HS
        go_wp2_with fail
        go_round
        case rel => exact ⟨k + 1, by omega, by go_num, by rw [HS2.out]⟩
        case measure => simp [intOf]; omega
      · have HS2 : Hid (bestI (fun i => xs.getD i 0) (k + 1) = m) := HS.out.trans (if_neg hxy)
        clear HS
        go_wp2_with fail
        go_round
        case rel => exact ⟨k + 1, by omega, by go_num, by rw [HS2.out]⟩
        case measure => simp [intOf]; omega
    · have e : n = k := by omega
      subst e
      go_wp2_with fail
      go_ret
      exact ⟨rfl, rfl⟩
end Go.Proofs.YtmiaglkkjncfnaaDoor
