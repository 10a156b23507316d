import Derived.Test.YtadajelonekpmaaNb
import Derived.Laws.AppendOwnNone
import Derived.Test.YtadajelonekpmaaEq
namespace Go.Proofs.Ytadajelonekpmaa
open Go.RowKit Go.Proofs.Ytadajelonekpmaa.Flt

/-- what lies in the list that is made, behind k rounds -/
def trPart (xs : List Int) (u c : Int) (n k : Nat) : List Value :=
  (List.range n).map fun i => .int .i64 (if i < k then trAt xs u c i else 0)
theorem trPart_len (xs : List Int) (u c : Int) (n k : Nat) : (trPart xs u c n k).length = n := by simp [trPart]
theorem trPart_zero (xs : List Int) (u c : Int) (n : Nat) : trPart xs u c n 0 = List.replicate n (.int .i64 0) := by
  unfold trPart
  exact List.eq_replicate_iff.2 ⟨by simp, by simp⟩
theorem trPart_step (xs : List Int) (u c : Int) (n k : Nat) : (trPart xs u c n k).set k (.int .i64 (trAt xs u c k)) = trPart xs u c n (k + 1) := by
  apply List.ext_getElem
  · simp [trPart]
  · intro i h1 h2
    rw [List.getElem_set]
    simp only [trPart, List.getElem_map, List.getElem_range]
    by_cases h : k = i
    · subst h; rw [if_pos rfl, if_pos (by omega)]
    · rw [if_neg h]
      by_cases h3 : i < k
      · rw [if_pos h3, if_pos (by omega)]
      · rw [if_neg h3, if_neg (by omega)]
theorem trPart_end (xs : List Int) (u c : Int) (n : Nat) (h : xs.length = n) : trPart xs u c n n = ivals (trList xs u c) := by
  unfold trPart trList ivals
  rw [h, List.map_map]
  apply List.map_congr_left
  intro i hi
  have := List.mem_range.1 hi
  simp [this]

theorem prodI_b {a b : Int} (h1 : 0 ≤ a) (h2 : a < 998244353) (h3 : 0 ≤ b) (h4 : b < 998244353) : 0 ≤ a * b ∧ a * b ≤ 996491788296388609 :=
  ⟨Int.mul_nonneg h1 h3, Int.le_trans (Int.mul_le_mul (Int.le_of_lt h2) (Int.le_of_lt h4) h3 (by decide)) (by decide)⟩

structure TrInv (xs : List Int) (u c : Int) (n : Nat) (w : World) (k : Nat) (wr : World) : Prop where
  hb : Below w.heap.size w wr
  ho : wr.ownsRow w.heap.size 3 1 (.slice (some ⟨w.heap.size, 0, none⟩) n n) n (trPart xs u c n k)

theorem TrInv.next {xs : List Int} {u c : Int} {n k : Nat} {w wr : World} (h : TrInv xs u c n w k wr) :
    TrInv xs u c n w (k + 1) (wr.setCell ⟨w.heap.size, k, none⟩ (.int .i64 (trAt xs u c k))) := by
  refine ⟨h.hb.setCell (p := ⟨w.heap.size, k, none⟩) (Nat.le_refl _) _, ?_⟩
  have := (h.ho.stored k (.int .i64 (trAt xs u c k))).1
  rw [trPart_step] at this
  exact this
theorem TrInv.drew {xs : List Int} {u c : Int} {n k : Nat} {w wr : World} (h : TrInv xs u c n w k wr) : TrInv xs u c n w k wr.drew := ⟨h.hb.drew, h.ho⟩

set_option maxRecDepth 100000 in
set_option maxHeartbeats 1000000 in
/-- THE SUMS WITH THE POWERS OF A ROOT -/
theorem transformBy_any (va : Value) (xs : List Int) (u c : Nat) (w : World) (ha : Sl w va (ivals xs)) (h1 : 1 ≤ xs.length) (h2 : xs.length ≤ 128) (hx : xs.any offP = false) (hu : u < 998244353) (hc : c < 998244353) :
    Calls Try.prog 35 #[va, .int .i64 u, .int .i64 c] w fun e w' => ∃ v, e = .returned v ∧ Below w.heap.size w w' ∧ w'.ownsRow w.heap.size 3 1 v xs.length (ivals (trList xs u c)) := by
  have HA := Lib.hid ha
  obtain ⟨aa, ac, rfl, hla, -⟩ := ha
  obtain ⟨n, hn⟩ : ∃ n, n = xs.length := ⟨_, rfl⟩
  have ex : (ivals xs).length = n := by simp [ivals, hn]
  rw [ex] at hla HA ⊢
  rw [← hn] at h1 h2 ⊢
  have HN := Lib.hid hn
  have HO := Lib.hid hx
  obtain ⟨i0, hi, hz0, hz1, hz2⟩ := info_parts Try.infoInt
  clear ex hx hn
  go_enter Try.func35, Try.ntmps35
  go_wp2_with (at_make; refine wpList_make_full _ rfl _ _ 38 rfl w.heap.size 3 i0 (.int .i64 0) 1 Try.underlying38 hi hz0 hz1 .i64 .i64 _ _ n rfl rfl ?c1 ?c2 ?c3 ?c4 ?c5 ?_)
  case c1 => rfl
  case c2 => rfl
  case c3 => rw [hz2]; omega
  case c4 => unfold maxLen; omega
  case c5 => simp
  intro w1 hown hgrow
  have hlist : (madeCells #[Value.int .i64 0] n).toList = List.replicate n (.int .i64 0) := toList_madeCells_one _ _
  rw [hlist, ← trPart_zero xs u c n] at hown
  have I0 : Hid (TrInv xs u c n w 0 w1) := ⟨(Below.refl _ _).grown hgrow (Nat.le_refl _) (by intro k h; cases h), hown⟩
  clear hown hgrow hlist hi hz0 hz1 hz2
  go_wp2_with fail
  go_loopw [8, 19] (fun sv i wr => ∃ k : Nat, k ≤ n ∧ i = .int .i64 k ∧ sv = .int .i64 (stepOf u k) ∧ Hid (TrInv xs u c n w k wr)) (fun _ i _ => n - (intOf i).toNat)
  case atStart => exact ⟨0, Nat.zero_le _, rfl, by rw [stepOf_zero], I0⟩
  case round =>
    obtain ⟨k, hk, rfl, rfl, IK⟩ := hrel
    obtain ⟨wz, rfl⟩ : ∃ wz : World, wz = wr := ⟨_, rfl⟩
    clear I0
    obtain ⟨b1, b2⟩ := stepOf_b u k
    by_cases hlt : k < n
    · have HS := Lib.hid (stepOf_succ u k)
      obtain ⟨st, hst⟩ : ∃ st, st = stepOf u k := ⟨_, rfl⟩
      rw [← hst] at b1 b2 HS ⊢
      have HT := Lib.hid hst
      clear hst
      go_wp2_with fail
      go_loop [10, 11, 24] (fun sv tv i => ∃ j : Nat, j ≤ n ∧ i = .int .i64 j ∧ sv = .int .i64 (trS xs st j).1 ∧ tv = .int .i64 (trS xs st j).2) (fun _ _ i => n - (intOf i).toNat)
      case atStart => exact ⟨0, Nat.zero_le _, rfl, rfl, rfl⟩
      case round =>
        obtain ⟨j, hj, rfl, rfl, rfl⟩ := hrel
        obtain ⟨s0, s1, t0, t1⟩ := trS_b xs st j
        by_cases hlj : j < n
        · obtain ⟨-, bb, o1, rfl, q1, hcl⟩ := HA.out.at (by omega)
          have d1 : wz.cell? ⟨bb, o1 + j, none⟩ = some (.int .i64 (xs.getD j 0)) := (IK.out.hb.cell (p := ⟨bb, o1 + j, none⟩) q1).trans (hcl j _ (ivals_get (by have := HN.out; omega)))
          obtain ⟨x0, x1⟩ := getD_off HO.out j
          obtain ⟨p1, p2⟩ := prodI_b x0 x1 t0 t1
          obtain ⟨p3, p4⟩ := prodI_b t0 t1 b1 b2
          have HV : Hid ((trS xs st (j + 1)).1 = ((trS xs st j).1 + xs.getD j 0 * (trS xs st j).2) % 998244353 ∧ (trS xs st (j + 1)).2 = (trS xs st j).2 * st % 998244353) := ⟨rfl, rfl⟩
          generalize (trS xs st j).1 = S at *
          generalize (trS xs st j).2 = T at *
          generalize xs.getD j 0 = X at *
          clear hcl q1 HA
          go_wp2_with fail
          go_round
          case rel => exact ⟨j + 1, by omega, by go_num, by rw [HV.out.1], by rw [HV.out.2]⟩
          case measure => simp [intOf]; omega
        · obtain rfl : j = n := by omega
          have d3 : wz.cell? ⟨w.heap.size, k, none⟩ = some (.int .i64 0) := (IK.out.ho.cellAt k (by omega)).trans (by simp [trPart, List.getElem?_range hlt])
          have d4 : wz.frozen? ⟨w.heap.size, k, none⟩ = false := IK.out.ho.frozenAt k
          have HV : Hid (trAt xs u c k = (trS xs st j).1 * c % 998244353) := by unfold Hid trAt; rw [← HT.out, ← HN.out]
          obtain ⟨p1, p2⟩ := prodI_b s0 s1 (show (0 : Int) ≤ c by omega) (show (c : Int) < 998244353 by omega)
          obtain ⟨p3, p4⟩ := prodI_b b1 b2 (show (0 : Int) ≤ u by omega) (show (u : Int) < 998244353 by omega)
          have HNX := Lib.hid IK.out.next
          generalize (trS xs st j).1 = S at *
          generalize (trS xs st j).2 = T at *
          clear IK
          go_wp2_with fail
          rw [← HV.out]
          go_roundw
          case rel => exact ⟨k + 1, by omega, by go_num, by rw [HS.out], HNX.out⟩
          case measure => simp [intOf]; omega
    · obtain rfl : k = n := by omega
      have HF := Lib.hid IK.out.ho
      have HG := Lib.hid IK.out.hb
      clear IK
      go_wp2_with fail
      go_ret
      refine ⟨_, rfl, HG.out, ?_⟩
      have := HF.out
      rw [trPart_end _ _ _ _ HN.out.symm] at this
      exact this
end Go.Proofs.Ytadajelonekpmaa

namespace Go.Proofs.Ytadajelonekpmaa
open Go.RowKit Go.Proofs.Ytadajelonekpmaa.Flt

theorem add_none (b off j : Nat) : (⟨b, off, none⟩ : Addr).add j = ⟨b, off + j, none⟩ := by
  unfold Addr.add
  split
  · rename_i h; subst h; rfl
  · rfl

/-- a nil slice has no room -/
def NilOk (v : Value) : Prop := ∀ n c, v = .slice none n c → c = 0
theorem NilOk.of_owns {w : World} {base : Nat} {e : TypeId} {s : Nat} {v : Value} {n : Nat} {xs : List Value} (h : w.ownsRow base e s v n xs) : NilOk v := by
  intro m c hv
  rcases h.2 with ⟨h1, -⟩ | ⟨g, cap, cur, h1, -⟩
  · rw [hv] at h1; injection h1
  · rw [hv] at h1; injection h1 with h2; cases h2

/-- what a copy of a list is -/
def CopyOk (xs : List Int) (w : World) (e : Ending) (w' : World) : Prop :=
  ∃ v, e = .returned v ∧ Below w.heap.size w w' ∧ w'.ownsRow w.heap.size 3 1 v xs.length (ivals xs)

set_option maxRecDepth 100000 in
theorem CopyInts_any (va : Value) (xs : List Int) (w : World) (ha : Sl w va (ivals xs)) (hnil : NilOk va) (hn : xs.length ≤ 1000) :
    Calls Try.prog 12 #[va] w (CopyOk xs w) := by
  obtain ⟨i0, hi, hz0, hz1, hz2⟩ := info_parts Try.infoInt
  have ex : (ivals xs).length = xs.length := by simp [ivals]
  obtain ⟨ad, cap, rfl, hl, hc⟩ := ha
  have hown : ((w.alloc (.cells #[] 3))).ownsRow w.heap.size 3 1 (.slice (some ⟨w.heap.size, 0, none⟩) 0 0) 0 [] :=
    World.ownsRow_made w #[] 0 (Nat.le_refl _) (by unfold maxLen; omega) rfl
  have hone : ∀ u ∈ ivals xs, u.oneCell' = true := by
    intro u hu
    obtain ⟨x, -, rfl⟩ := List.mem_map.1 hu
    rfl
  have hb0 : Below w.heap.size w (w.alloc (.cells #[] 3)) := (Below.refl _ _).alloc (Nat.le_refl _) _
  have H1 := Lib.hid (And.intro hown (And.intro hone hb0))
  clear hown hone hb0
  cases ad with
  | none =>
    have hcap : cap = 0 := hnil _ _ rfl
    have hx : ivals xs = [] := by
      rcases hc with h | ⟨b, off, h, -⟩
      · exact h
      · cases h
    have hx0 : xs.length = 0 := by rw [← ex, hx]; rfl
    rw [ex, hx0, hcap]
    have HX := Lib.hid (And.intro hx hx0)
    clear hnil hc hx hx0 hl hn ex hcap
    go_enter Try.func12, Try.ntmps12
    go_wp2_with (at_builtin; refine wpList_append_own_none (by rfl) (.tmp 3) (.tmp 4) 38 (by rfl) w.heap.size 3 i0 1 Try.underlying38 hi (.slice (some ⟨w.heap.size, 0, none⟩) 0 0) 0 [] (by rfl) H1.out.1 (by rfl) ?_)
    go_wp2_with fail
    go_ret
    exact ⟨_, rfl, H1.out.2.2, by rw [HX.out.1, HX.out.2]; exact H1.out.1⟩
  | some a =>
    have hcells : ∀ (j : Nat) (u : Value), (ivals xs)[j]? = some u → (w.alloc (.cells #[] 3)).cell? (a.add j) = some u := by
      intro j u hu
      rcases hc with h | ⟨b, off, h, hb, hcell⟩
      · rw [h] at hu; simp at hu
      · injection h with h
        subst h
        rw [add_none]
        exact (H1.out.2.2.cell (p := ⟨b, off + j, none⟩) hb).trans (hcell j u hu)
    have HC := Lib.hid hcells
    have HX := Lib.hid ex
    obtain ⟨m, hm⟩ : ∃ m, m = xs.length := ⟨_, rfl⟩
    have HM := Lib.hid hm
    have hn' : m ≤ 1000 := by omega
    rw [ex, ← hm]
    clear hnil hc hl hn ex hcells hm
    go_enter Try.func12, Try.ntmps12
    go_wp2_with (at_builtin; refine wpList_append_own _ (by rfl) (.tmp 3) (.tmp 4) 38 (by rfl) w.heap.size 3 i0 (.int .i64 0) 1 8 Try.underlying38 hi hz0 hz1 hz2 rfl (by decide) (.slice (some ⟨w.heap.size, 0, none⟩) 0 0) 0 [] (by rfl) H1.out.1 a m cap (ivals xs) (by rfl) (by rw [HX.out, HM.out, Nat.mul_one]) HC.out H1.out.2.1 (by unfold maxLen; omega) (by omega) (by simp) ?_)
    intro v' w' hown' hgrow hiff
    have HO : Hid (w'.ownsRow w.heap.size 3 1 v' m (ivals xs) ∧ Below w.heap.size w w') := by
      refine ⟨by simpa using hown', H1.out.2.2.grown hgrow (by simp) ?_⟩
      intro k hk
      have : k = w.heap.size := by simpa [Value.ownBlock] using hk.symm
      omega
    clear hown' hgrow hiff
    go_wp2_with fail
    go_ret
    exact ⟨_, rfl, HO.out.2, by rw [← HM.out]; exact HO.out.1⟩

set_option maxRecDepth 100000 in
theorem Transform_ok (va : Value) (xs : List Int) (w : World) (ha : Sl w va (ivals xs)) (ea : listErr xs = 0) :
    Calls Try.prog 18 #[va] w (ListOk (trList xs (rootN xs.length) 1) w) := by
  have C1 := Lib.hid (checkList_any va xs w ha)
  rw [ea] at C1
  obtain ⟨n1, n2, n3⟩ := listErr_ok ea
  have C2 := Lib.hid (fun w => rootOf_any xs.length n2 w)
  have C3 : Hid (Calls Try.prog 35 #[va, .int .i64 (rootN xs.length : Nat), .int .i64 1] w fun e w' => ∃ v, e = .returned v ∧ Below w.heap.size w w' ∧ w'.ownsRow w.heap.size 3 1 v xs.length (ivals (trList xs (rootN xs.length : Nat) 1))) :=
    transformBy_any va xs (rootN xs.length) 1 w ha n2 n1 n3 (rootN_lt _) (by decide)
  have HL : Hid ((trList xs (rootN xs.length : Nat) 1).length = xs.length) := trList_length _ _ _
  obtain ⟨aa, ac, rfl, hla, -⟩ := ha
  have ex : (ivals xs).length = xs.length := by simp [ivals]
  rw [ex] at C1 C3 hla ⊢
  generalize trList xs (rootN xs.length : Nat) 1 = L at *
  generalize rootN xs.length = R at *
  generalize xs.length = n at *
  clear ea n3 ex
  go_enter Try.func18, Try.ntmps18
  go_wp2_with fail
  refine C1.out.mono ?_
  rintro e w' ⟨rfl, rfl⟩
  go_wp2_with fail
  refine (C2.out _).mono ?_
  rintro e w' ⟨rfl, rfl⟩
  go_wp2_with fail
  refine C3.out.mono ?_
  rintro e w' ⟨v, rfl, hb, ho⟩
  have HO := Lib.hid (And.intro hb ho)
  clear hb ho
  go_wp2_with fail
  go_ret2
  exact ⟨v, rfl, HO.out.1, by rw [HL.out]; exact HO.out.2⟩

theorem Transform_bad (va : Value) (xs : List Int) (w : World) (ha : Sl w va (ivals xs)) (ea : listErr xs ≠ 0) :
    Calls Try.prog 18 #[va] w fun e w' => e = .returned (.tuple #[.slice none 0 0, .int .i64 (listErr xs)]) ∧ w = w' := by
  have C1 := Lib.hid (checkList_any va xs w ha)
  have h4 : (listErr xs != 0) = true := by rw [bne_iff_ne]; exact ea
  generalize listErr xs = r at *
  obtain ⟨aa, ac, rfl, hla, -⟩ := ha
  generalize (ivals xs).length = n at *
  clear ea
  go_enter Try.func18, Try.ntmps18
  go_wp2_with fail
  refine C1.out.mono ?_
  rintro e w' ⟨rfl, rfl⟩
  go_wp2_with fail
  go_ret2
  exact ⟨rfl, rfl⟩
end Go.Proofs.Ytadajelonekpmaa

namespace Go.Proofs.Ytadajelonekpmaa
open Go.RowKit Go.Proofs.Ytadajelonekpmaa.Flt

/-- the least power of two that the reference comes to -/
def upF (L : Nat) : Nat → Nat → Nat
  | 0, n => n
  | t + 1, n => if n < L ∧ n < 128 then upF L t (2 * n) else n
theorem up_all : ∀ L : Nat, L < 131 → (upF L 7 1 ≠ L ↔ (128 < L ∨ ones 8 L ≠ 1)) := by decide +kernel

end Go.Proofs.Ytadajelonekpmaa
