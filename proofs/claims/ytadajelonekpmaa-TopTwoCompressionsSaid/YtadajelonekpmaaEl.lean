import Derived.Test.YtadajelonekpmaaEk
import Derived.StillTailTactics
namespace Go.Proofs.Ytadajelonekpmaa
open Go.RowKit Go.Proofs.Ytadajelonekpmaa.Flt

theorem Try.infoInt : (Try.prog.info? 3).map (fun i => (i.zero, i.size, i.bytes)) = some (some (.int .i64 0), 1, 8) := by kernel_rfl

/-- the number at the place s of the correlation, of the first k products -/
def corTo (xs ys : List Int) (s : Nat) : Nat → Int
  | 0 => 0
  | k + 1 => (corTo xs ys s k + xs.getD ((s + k) % xs.length) 0 * ys.getD k 0) % 998244353

/-- the correlation -/
def corList (xs ys : List Int) : List Int := (List.range xs.length).map fun s => corTo xs ys s xs.length

theorem corTo_b (xs ys : List Int) (s : Nat) : ∀ k, 0 ≤ corTo xs ys s k ∧ corTo xs ys s k < 998244353
  | 0 => by unfold corTo; decide
  | k + 1 => ⟨Int.emod_nonneg _ (by decide), Int.emod_lt_of_pos _ (by decide)⟩

/-- what lies in the list that is made, in the round k of the place s -/
def corPart (xs ys : List Int) (n s k : Nat) : List Value :=
  (List.range n).map fun i => .int .i64 (if i < s then corTo xs ys i n else if i = s then corTo xs ys i k else 0)

theorem corPart_len (xs ys : List Int) (n s k : Nat) : (corPart xs ys n s k).length = n := by simp [corPart]
theorem corPart_at (xs ys : List Int) (n s k : Nat) (h : s < n) : (corPart xs ys n s k)[s]? = some (.int .i64 (corTo xs ys s k)) := by
  simp [corPart, List.getElem?_range h]
theorem corPart_zero (xs ys : List Int) (n : Nat) : corPart xs ys n 0 0 = List.replicate n (.int .i64 0) := by
  apply List.ext_getElem?
  intro i
  by_cases h : i < n
  · rw [List.getElem?_replicate_of_lt h]
    by_cases h0 : i = 0
    · subst h0; simp [corPart, List.getElem?_range h, corTo]
    · simp [corPart, List.getElem?_range h, h0]
  · rw [List.getElem?_eq_none (by rw [corPart_len]; omega), List.getElem?_eq_none (by simp; omega)]
theorem corPart_step (xs ys : List Int) (n s k : Nat) (h : s < n) : (corPart xs ys n s k).set s (.int .i64 (corTo xs ys s (k + 1))) = corPart xs ys n s (k + 1) := by
  apply List.ext_getElem?
  intro i
  rw [List.getElem?_set]
  by_cases hi : i < n
  · by_cases hs : s = i
    · subst hs; rw [if_pos rfl, if_pos (by rw [corPart_len]; exact hi), corPart_at _ _ _ _ _ hi]
    · have hs' : i ≠ s := fun e => hs e.symm
      rw [if_neg hs]
      simp [corPart, List.getElem?_range hi, hs']
  · by_cases hs : s = i
    · omega
    · rw [if_neg hs, List.getElem?_eq_none (by rw [corPart_len]; omega), List.getElem?_eq_none (by rw [corPart_len]; omega)]
theorem corPart_next (xs ys : List Int) (n s : Nat) : corPart xs ys n s n = corPart xs ys n (s + 1) 0 := by
  unfold corPart
  apply List.map_congr_left
  intro i hi
  congr 1
  by_cases h1 : i < s
  · rw [if_pos h1, if_pos (by omega)]
  · by_cases h2 : i = s
    · subst h2; rw [if_neg h1, if_pos rfl, if_pos (by omega)]
    · rw [if_neg h1, if_neg h2, if_neg (by omega)]
      by_cases h3 : i = s + 1
      · subst h3; rw [if_pos rfl]; rfl
      · rw [if_neg h3]
theorem corPart_end (xs ys : List Int) (n k : Nat) (h : xs.length = n) : corPart xs ys n n k = ivals (corList xs ys) := by
  unfold corPart corList ivals
  rw [h, List.map_map]
  apply List.map_congr_left
  intro i hi
  have := List.mem_range.1 hi
  simp [this]

structure CorInv (xs ys : List Int) (n : Nat) (w : World) (s k : Nat) (wr : World) : Prop where
  hb : Below w.heap.size w wr
  ho : wr.ownsRow w.heap.size 3 1 (.slice (some ⟨w.heap.size, 0, none⟩) n n) n (corPart xs ys n s k)

theorem CorInv.next {xs ys : List Int} {n s k : Nat} {w wr : World} (h : CorInv xs ys n w s k wr) (hs : s < n) :
    CorInv xs ys n w s (k + 1) ((wr.setCell ⟨w.heap.size, s, none⟩ (.int .i64 (corTo xs ys s (k + 1)))).drew) := by
  refine ⟨(h.hb.setCell (p := ⟨w.heap.size, s, none⟩) (Nat.le_refl _) _).drew, ?_⟩
  have := (h.ho.stored s (.int .i64 (corTo xs ys s (k + 1)))).1
  rw [corPart_step xs ys n s k hs] at this
  exact this

theorem listErr_ok {xs : List Int} (h : listErr xs = 0) : xs.length ≤ 128 ∧ 1 ≤ xs.length ∧ xs.any offP = false := by
  unfold listErr at h
  split at h
  · cases h
  · rename_i h1
    rw [not_or] at h1
    refine ⟨by omega, ?_, ?_⟩
    · rcases Nat.eq_zero_or_pos xs.length with h0 | h0
      · rw [h0] at h1; exact absurd (by decide) h1.2
      · exact h0
    · split at h
      · cases h
      · rename_i h2; simpa using h2

theorem getD_off {xs : List Int} (h : xs.any offP = false) (i : Nat) : 0 ≤ xs.getD i 0 ∧ xs.getD i 0 < 998244353 := by
  rcases Nat.lt_or_ge i xs.length with hi | hi
  · rw [List.getD_eq_getElem?_getD, List.getElem?_eq_getElem hi, Option.getD_some]
    have := List.any_eq_false.1 h xs[i] (List.getElem_mem hi)
    simp [offP] at this
    omega
  · rw [List.getD_eq_getElem?_getD, List.getElem?_eq_none hi]; decide

/-- what Correlate answers where all is right -/
def ListOk (xs : List Int) (w : World) (e : Ending) (w' : World) : Prop :=
  ∃ v, e = .returned (.tuple #[v, .int .i64 0]) ∧ Below w.heap.size w w' ∧ w'.ownsRow w.heap.size 3 1 v xs.length (ivals xs)

set_option maxRecDepth 100000 in
set_option maxHeartbeats 1000000 in
theorem Correlate_ok (va vb : Value) (xs ys : List Int) (w : World) (ha : Sl w va (ivals xs)) (hb : Sl w vb (ivals ys)) (ea : listErr xs = 0) (eb : listErr ys = 0) (hl : xs.length = ys.length) :
    Calls Try.prog 11 #[va, vb] w (ListOk (corList xs ys) w) := by
  have C1 := checkList_any va xs w ha
  have C2 := checkList_any vb ys w hb
  rw [ea] at C1
  rw [eb] at C2
  obtain ⟨n1, n2, n3⟩ := listErr_ok ea
  obtain ⟨-, -, m3⟩ := listErr_ok eb
  have HA := Lib.hid ha
  have HB := Lib.hid hb
  obtain ⟨aa, ac, rfl, hla, -⟩ := ha
  obtain ⟨ba, bc, rfl, hlb, -⟩ := hb
  obtain ⟨n, hn⟩ : ∃ n, n = xs.length := ⟨_, rfl⟩
  have ex : (ivals xs).length = n := by simp [ivals, hn]
  have ey : (ivals ys).length = n := by simp [ivals, hn, hl]
  rw [ex] at hla HA C1 ⊢
  rw [ey] at hlb HB C2 ⊢
  rw [← hn] at n1 n2
  have HN := Lib.hid (And.intro hn (hn.trans hl))
  have HO := Lib.hid (And.intro n3 m3)
  have HC1 := Lib.hid C1
  have HC2 := Lib.hid C2
  obtain ⟨i0, hi, hz0, hz1, hz2⟩ := info_parts Try.infoInt
  have hrl : Hid ((corList xs ys).length = n) := by unfold Hid corList; simp [hn]
  clear C1 C2 ea eb hl ex ey n3 m3 hn
  go_enter Try.func11, Try.ntmps11
  go_wp2_with fail
  refine HC1.out.mono ?_
  rintro e w' ⟨rfl, rfl⟩
  go_wp2_with fail
  refine HC2.out.mono ?_
  rintro e w' ⟨rfl, rfl⟩
  go_wp2_with (at_make; refine wpList_make_full _ rfl _ _ 38 rfl w.heap.size 3 i0 (.int .i64 0) 1 Try.underlying38 hi hz0 hz1 .i64 .i64 _ _ n rfl rfl ?c1 ?c2 ?c3 ?c4 ?c5 ?_)
  case c1 => rfl
  case c2 => rfl
  case c3 => rw [hz2]; omega
  case c4 => unfold maxLen; omega
  case c5 => simp
  intro w1 hown hgrow
  have hlist : (madeCells #[Value.int .i64 0] n).toList = List.replicate n (.int .i64 0) := toList_madeCells_one _ _
  rw [hlist, ← corPart_zero xs ys n] at hown
  have I0 : Hid (CorInv xs ys n w 0 0 w1) := ⟨(Below.refl _ _).grown hgrow (Nat.le_refl _) (by intro k h; cases h), hown⟩
  clear hown hgrow hlist hi hz0 hz1 hz2
  go_wp2_with fail
  go_loopw [32] (fun i wr => ∃ s : Nat, s ≤ n ∧ i = .int .i64 s ∧ Hid (CorInv xs ys n w s 0 wr)) (fun i _ => n - (intOf i).toNat)
  case atStart => exact ⟨0, Nat.zero_le _, rfl, I0⟩
  case round =>
    obtain ⟨s, hs, rfl, IS⟩ := hrel
    obtain ⟨wo, rfl⟩ : ∃ wo : World, wo = wr := ⟨_, rfl⟩
    clear I0
    by_cases hlt : s < n
    · go_wp2_with fail
      go_loopw [37] (fun i wr => ∃ k : Nat, k ≤ n ∧ i = .int .i64 k ∧ Hid (CorInv xs ys n w s k wr)) (fun i _ => n - (intOf i).toNat)
      case atStart => exact ⟨0, Nat.zero_le _, rfl, IS⟩
      case round =>
        obtain ⟨k, hk, rfl, IK⟩ := hrel
        obtain ⟨wz, rfl⟩ : ∃ wz : World, wz = wr := ⟨_, rfl⟩
        clear IS
        by_cases hlk : k < n
        · obtain ⟨t, ht⟩ : ∃ t, t = (s + k) % n := ⟨_, rfl⟩
          have ht' : t < n := by rw [ht]; exact Nat.mod_lt _ (by omega)
          obtain ⟨-, b1, o1, rfl, q1, h1⟩ := HA.out.at (by omega)
          obtain ⟨-, b2, o2, rfl, q2, h2⟩ := HB.out.at (by omega)
          have d1 : wz.cell? ⟨b1, o1 + t, none⟩ = some (.int .i64 (xs.getD t 0)) := (IK.out.hb.cell (p := ⟨b1, o1 + t, none⟩) q1).trans (h1 t _ (ivals_get (by have := HN.out.1; omega)))
          have d2 : wz.cell? ⟨b2, o2 + k, none⟩ = some (.int .i64 (ys.getD k 0)) := (IK.out.hb.cell (p := ⟨b2, o2 + k, none⟩) q2).trans (h2 k _ (ivals_get (by have := HN.out.2; omega)))
          have d3 : wz.cell? ⟨w.heap.size, s, none⟩ = some (.int .i64 (corTo xs ys s k)) := (IK.out.ho.cellAt s (by omega)).trans (corPart_at xs ys n s k hlt)
          have d4 : wz.frozen? ⟨w.heap.size, s, none⟩ = false := IK.out.ho.frozenAt s
          obtain ⟨x0, x1⟩ := getD_off HO.out.1 t
          obtain ⟨y0, y1⟩ := getD_off HO.out.2 k
          obtain ⟨z0, z1⟩ := corTo_b xs ys s k
          have HV : Hid (corTo xs ys s (k + 1) = (corTo xs ys s k + xs.getD t 0 * ys.getD k 0) % 998244353) := by
            unfold Hid; rw [corTo, ← HN.out.1, ← ht]
          have m1 : 0 ≤ xs.getD t 0 * ys.getD k 0 := Int.mul_nonneg x0 y0
          have m2 : xs.getD t 0 * ys.getD k 0 ≤ 998244353 * 998244353 := Int.mul_le_mul (by omega) (by omega) y0 (by decide)
          generalize xs.getD t 0 = X at *
          generalize ys.getD k 0 = Y at *
          generalize corTo xs ys s k = Z at *
          have e1 : IntKind.i64.wrap (X * Y) = X * Y := IntWalk.i64_in _ ⟨by omega, by omega⟩
          have e2 : ((s : Int) + k) % n = t := by rw [ht, Int.natCast_emod, Int.natCast_add]
          have e3 : (t : Int) < n := by omega
          have HV2 : Hid ((wrap64 (Z + wrap64 (X * Y))).tmod 998244353 = corTo xs ys s (k + 1)) := by
            unfold Hid
            rw [IntWalk.wrap64_in (X * Y) ⟨by omega, by omega⟩, IntWalk.wrap64_in _ ⟨by omega, by omega⟩, Int.tmod_eq_emod_of_nonneg (by omega)]
            exact HV.out.symm
          have q3 : b1 < wz.heap.size := Nat.lt_of_lt_of_le q1 IK.out.hb.size
          clear ht h1 h2 x0 x1 y0 y1 q1 q2 m1 m2 e1 HV
          go_wp2_with fail
          go_region
          go_wp2_with fail
          rw [HV2.out]
          go_roundw
          case rel => exact ⟨k + 1, by omega, by go_num, IK.out.next hlt⟩
          case measure => simp [intOf]; omega
        · obtain rfl : k = n := by omega
          go_wp2_with fail
          go_roundw
          case rel => exact ⟨s + 1, by omega, by go_num, IK.out.hb, by have := IK.out.ho; rw [corPart_next] at this; exact this⟩
          case measure => simp [intOf]; omega
    · obtain rfl : s = n := by omega
      have HF := Lib.hid IS.out.ho
      have HG := Lib.hid IS.out.hb
      clear IS
      go_wp2_with fail
      go_ret2
      refine ⟨_, rfl, HG.out, ?_⟩
      have := HF.out
      rw [corPart_end _ _ _ _ HN.out.1.symm] at this
      rw [hrl.out]
      exact this

/-- the error of a correlation -/
def corErr (xs ys : List Int) : Int := if listErr xs ≠ 0 then listErr xs else if listErr ys ≠ 0 then listErr ys else if xs.length ≠ ys.length then 13 else 0

set_option maxRecDepth 100000 in
theorem Correlate_bad (va vb : Value) (xs ys : List Int) (w : World) (ha : Sl w va (ivals xs)) (hb : Sl w vb (ivals ys)) (h : corErr xs ys ≠ 0) :
    Calls Try.prog 11 #[va, vb] w fun e w' => e = .returned (.tuple #[.slice none 0 0, .int .i64 (corErr xs ys)]) ∧ w = w' := by
  have C1 := Lib.hid (checkList_any va xs w ha)
  have C2 := Lib.hid (checkList_any vb ys w hb)
  obtain ⟨aa, ac, rfl, hla, -⟩ := ha
  obtain ⟨ba, bc, rfl, hlb, -⟩ := hb
  rw [show (ivals xs).length = xs.length from by simp [ivals]] at C1 hla ⊢
  rw [show (ivals ys).length = ys.length from by simp [ivals]] at C2 hlb ⊢
  unfold corErr at h ⊢
  by_cases h1 : listErr xs = 0
  · rw [h1] at C1
    rw [if_neg (fun c => c h1)] at h ⊢
    by_cases h2 : listErr ys = 0
    · rw [h2] at C2
      rw [if_neg (fun c => c h2)] at h ⊢
      by_cases h3 : xs.length = ys.length
      · rw [if_neg (fun c => c h3)] at h; exact absurd rfl h
      · rw [if_pos h3]
        have h4 : ((xs.length : Int) != ys.length) = true := by rw [bne_iff_ne]; omega
        generalize xs.length = m at *
        generalize ys.length = n at *
        clear h h1 h2 h3
        go_enter Try.func11, Try.ntmps11
        go_wp2_with fail
        refine C1.out.mono ?_
        rintro e w' ⟨rfl, rfl⟩
        go_wp2_with fail
        refine C2.out.mono ?_
        rintro e w' ⟨rfl, rfl⟩
        go_wp2_with fail
        go_ret2
        exact ⟨rfl, rfl⟩
    · rw [if_pos h2]
      have h4 : (listErr ys != 0) = true := by rw [bne_iff_ne]; exact h2
      generalize listErr ys = r at *
      clear h h1 h2
      generalize xs.length = m at *
      generalize ys.length = n at *
      go_enter Try.func11, Try.ntmps11
      go_wp2_with fail
      refine C1.out.mono ?_
      rintro e w' ⟨rfl, rfl⟩
      go_wp2_with fail
      refine C2.out.mono ?_
      rintro e w' ⟨rfl, rfl⟩
      go_wp2_with fail
      go_ret2
      exact ⟨rfl, rfl⟩
  · rw [if_pos h1]
    have h4 : (listErr xs != 0) = true := by rw [bne_iff_ne]; exact h1
    generalize listErr xs = r at *
    clear h h1
    generalize xs.length = m at *
    generalize ys.length = n at *
    go_enter Try.func11, Try.ntmps11
    go_wp2_with fail
    refine C1.out.mono ?_
    rintro e w' ⟨rfl, rfl⟩
    go_wp2_with fail
    go_ret2
    exact ⟨rfl, rfl⟩
end Go.Proofs.Ytadajelonekpmaa
