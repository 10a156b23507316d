import Derived.Test.YtcjdbhcpcigmdaaDoorNc
import Derived.Laws.AppendOwnNone
namespace Go.Proofs.YtcjdbhcpcigmdaaDoor
open Go.RowKit Go.Proofs.YtcjdbhcpcigmdaaDoor.Flt

theorem add_none (b off j : Nat) : (⟨b, off, none⟩ : Addr).add j = ⟨b, off + j, none⟩ := by
  unfold Addr.add
  split
  · rename_i h; subst h; rfl
  · rfl

/-- a nil slice has no room -/
def NilOk (v : Value) : Prop := ∀ n c, v = .slice none n c → c = 0
theorem NilOk.of_owns {w : World} {base : Nat} {e : TypeId} {s : Nat} {v : Value} {n : Nat} {xs : List Value} (h : w.ownsRow base e s v n xs) : NilOk v := by
  intro m c hv
  rcases h.2 with ⟨h1, -⟩ | ⟨g, cap, cur, h1, -⟩
  · rw [hv] at h1; injection h1
  · rw [hv] at h1; injection h1 with h2; cases h2

/-- what a copy of a list is -/
def CopyOk (xs : List Int) (w : World) (e : Ending) (w' : World) : Prop :=
  ∃ v, e = .returned v ∧ Below w.heap.size w w' ∧ w'.ownsRow w.heap.size 3 1 v xs.length (ivals xs)

set_option maxRecDepth 100000 in
theorem CopyInts_any (va : Value) (xs : List Int) (w : World) (ha : Sl w va (ivals xs)) (hnil : NilOk va) (hn : xs.length ≤ 1000) :
    Calls Tryd.prog 45 #[va] w (CopyOk xs w) := by
  obtain ⟨i0, hi, hz0, hz1, hz2⟩ := info_parts Tryd.infoInt
  have ex : (ivals xs).length = xs.length := by simp [ivals]
  obtain ⟨ad, cap, rfl, hl, hc⟩ := ha
  have hown : ((w.alloc (.cells #[] 3))).ownsRow w.heap.size 3 1 (.slice (some ⟨w.heap.size, 0, none⟩) 0 0) 0 [] :=
    World.ownsRow_made w #[] 0 (Nat.le_refl _) (by unfold maxLen; omega) rfl
  have hone : ∀ u ∈ ivals xs, u.oneCell' = true := by
    intro u hu
    obtain ⟨x, -, rfl⟩ := List.mem_map.1 hu
    rfl
  have hb0 : Below w.heap.size w (w.alloc (.cells #[] 3)) := (Below.refl _ _).alloc (Nat.le_refl _) _
  have H1 := Lib.hid (And.intro hown (And.intro hone hb0))
  clear hown hone hb0
  cases ad with
  | none =>
    have hcap : cap = 0 := hnil _ _ rfl
    have hx : ivals xs = [] := by
      rcases hc with h | ⟨b, off, h, -⟩
      · exact h
      · cases h
    have hx0 : xs.length = 0 := by rw [← ex, hx]; rfl
    rw [ex, hx0, hcap]
    have HX := Lib.hid (And.intro hx hx0)
    clear hnil hc hx hx0 hl hn ex hcap
    go_enter Tryd.func45, Tryd.ntmps45
    go_wp2_with (at_builtin; refine wpList_append_own_none (by rfl) (.tmp 3) (.tmp 4) 73 (by rfl) w.heap.size 3 i0 1 Tryd.underlying73 hi (.slice (some ⟨w.heap.size, 0, none⟩) 0 0) 0 [] (by rfl) H1.out.1 (by rfl) ?_)
    go_wp2_with fail
    go_ret
    exact ⟨_, rfl, H1.out.2.2, by rw [HX.out.1, HX.out.2]; exact H1.out.1⟩
  | some a =>
    have hcells : ∀ (j : Nat) (u : Value), (ivals xs)[j]? = some u → (w.alloc (.cells #[] 3)).cell? (a.add j) = some u := by
      intro j u hu
      rcases hc with h | ⟨b, off, h, hb, hcell⟩
      · rw [h] at hu; simp at hu
      · injection h with h
        subst h
        rw [add_none]
        exact (H1.out.2.2.cell (p := ⟨b, off + j, none⟩) hb).trans (hcell j u hu)
    have HC := Lib.hid hcells
    have HX := Lib.hid ex
    obtain ⟨m, hm⟩ : ∃ m, m = xs.length := ⟨_, rfl⟩
    have HM := Lib.hid hm
    have hn' : m ≤ 1000 := by omega
    rw [ex, ← hm]
    clear hnil hc hl hn ex hcells hm
    go_enter Tryd.func45, Tryd.ntmps45
    go_wp2_with (at_builtin; refine wpList_append_own _ (by rfl) (.tmp 3) (.tmp 4) 73 (by rfl) w.heap.size 3 i0 (.int .i64 0) 1 8 Tryd.underlying73 hi hz0 hz1 hz2 rfl (by decide) (.slice (some ⟨w.heap.size, 0, none⟩) 0 0) 0 [] (by rfl) H1.out.1 a m cap (ivals xs) (by rfl) (by rw [HX.out, HM.out, Nat.mul_one]) HC.out H1.out.2.1 (by unfold maxLen; omega) (by omega) (by simp) ?_)
    intro v' w' hown' hgrow hiff
    have HO : Hid (w'.ownsRow w.heap.size 3 1 v' m (ivals xs) ∧ Below w.heap.size w w') := by
      refine ⟨by simpa using hown', H1.out.2.2.grown hgrow (by simp) ?_⟩
      intro k hk
      have : k = w.heap.size := by simpa [Value.ownBlock] using hk.symm
      omega
    clear hown' hgrow hiff
    go_wp2_with fail
    go_ret
    exact ⟨_, rfl, HO.out.2, by rw [← HM.out]; exact HO.out.1⟩

set_option maxRecDepth 100000 in
theorem Transform_ok (va : Value) (xs : List Int) (w : World) (ha : Sl w va (ivals xs)) (ea : listErr xs = 0) :
    Calls Tryd.prog 44 #[va] w (ListOk (trList xs (rootN xs.length) 1) w) := by
  have C1 := Lib.hid (checkList_any va xs w ha)
  rw [ea] at C1
  obtain ⟨n1, n2, n3⟩ := listErr_ok ea
  have C2 := Lib.hid (fun w => rootOf_any xs.length n2 w)
  have C3 : Hid (Calls Tryd.prog 95 #[va, .int .i64 (rootN xs.length : Nat), .int .i64 1] w fun e w' => ∃ v, e = .returned v ∧ Below w.heap.size w w' ∧ w'.ownsRow w.heap.size 3 1 v xs.length (ivals (trList xs (rootN xs.length : Nat) 1))) :=
    transformBy_any va xs (rootN xs.length) 1 w ha n2 n1 n3 (rootN_lt _) (by decide)
  have HL : Hid ((trList xs (rootN xs.length : Nat) 1).length = xs.length) := trList_length _ _ _
  obtain ⟨aa, ac, rfl, hla, -⟩ := ha
  have ex : (ivals xs).length = xs.length := by simp [ivals]
  rw [ex] at C1 C3 hla ⊢
  generalize trList xs (rootN xs.length : Nat) 1 = L at *
  generalize rootN xs.length = R at *
  generalize xs.length = n at *
  clear ea n3 ex
  go_enter Tryd.func44, Tryd.ntmps44
  go_wp2_with fail
  refine C1.out.mono ?_
  rintro e w' ⟨rfl, rfl⟩
  go_wp2_with fail
  refine (C2.out _).mono ?_
  rintro e w' ⟨rfl, rfl⟩
  go_wp2_with fail
  refine C3.out.mono ?_
  rintro e w' ⟨v, rfl, hb, ho⟩
  have HO := Lib.hid (And.intro hb ho)
  clear hb ho
  go_wp2_with fail
  go_ret2
  exact ⟨v, rfl, HO.out.1, by rw [HL.out]; exact HO.out.2⟩

set_option maxRecDepth 100000 in
theorem Inverse_ok (va : Value) (xs : List Int) (w : World) (ha : Sl w va (ivals xs)) (ea : listErr xs = 0) :
    Calls Tryd.prog 46 #[va] w (ListOk (trList xs (recN (rootN xs.length)) (recN xs.length)) w) := by
  have C1 := Lib.hid (checkList_any va xs w ha)
  rw [ea] at C1
  obtain ⟨n1, n2, n3⟩ := listErr_ok ea
  have C2 := Lib.hid (fun w => rootOf_any xs.length n2 w)
  have C4 := Lib.hid (fun w => reciprocal_any (rootN xs.length) (rootN_lt _) w)
  have C5 := Lib.hid (fun w => reciprocal_any xs.length (by omega) w)
  have C3 := Lib.hid (transformBy_any va xs (recN (rootN xs.length)) (recN xs.length) w ha n2 n1 n3 (recN_lt _) (recN_lt _))
  have HL : Hid ((trList xs (recN (rootN xs.length) : Nat) (recN xs.length : Nat)).length = xs.length) := trList_length _ _ _
  obtain ⟨aa, ac, rfl, hla, -⟩ := ha
  have ex : (ivals xs).length = xs.length := by simp [ivals]
  rw [ex] at C1 C3 hla ⊢
  generalize trList xs (recN (rootN xs.length) : Nat) (recN xs.length : Nat) = L at *
  generalize recN (rootN xs.length) = V at *
  generalize rootN xs.length = R at *
  generalize recN xs.length = U at *
  generalize xs.length = n at *
  clear ea n3 ex
  go_enter Tryd.func46, Tryd.ntmps46
  go_wp2_with fail
  refine C1.out.mono ?_
  rintro e w' ⟨rfl, rfl⟩
  go_wp2_with fail
  refine (C2.out _).mono ?_
  rintro e w' ⟨rfl, rfl⟩
  go_wp2_with fail
  refine (C4.out _).mono ?_
  rintro e w' ⟨rfl, rfl⟩
  go_wp2_with fail
  refine (C5.out _).mono ?_
  rintro e w' ⟨rfl, rfl⟩
  go_wp2_with fail
  refine C3.out.mono ?_
  rintro e w' ⟨v, rfl, hb, ho⟩
  have HO := Lib.hid (And.intro hb ho)
  clear hb ho
  go_wp2_with fail
  go_ret2
  exact ⟨v, rfl, HO.out.1, by rw [HL.out]; exact HO.out.2⟩

theorem Transform_bad (va : Value) (xs : List Int) (w : World) (ha : Sl w va (ivals xs)) (ea : listErr xs ≠ 0) :
    Calls Tryd.prog 44 #[va] w fun e w' => e = .returned (.tuple #[.slice none 0 0, .int .i64 (listErr xs)]) ∧ w = w' := by
  have C1 := Lib.hid (checkList_any va xs w ha)
  have h4 : (listErr xs != 0) = true := by rw [bne_iff_ne]; exact ea
  generalize listErr xs = r at *
  obtain ⟨aa, ac, rfl, hla, -⟩ := ha
  generalize (ivals xs).length = n at *
  clear ea
  go_enter Tryd.func44, Tryd.ntmps44
  go_wp2_with fail
  refine C1.out.mono ?_
  rintro e w' ⟨rfl, rfl⟩
  go_wp2_with fail
  go_ret2
  exact ⟨rfl, rfl⟩
theorem Inverse_bad (va : Value) (xs : List Int) (w : World) (ha : Sl w va (ivals xs)) (ea : listErr xs ≠ 0) :
    Calls Tryd.prog 46 #[va] w fun e w' => e = .returned (.tuple #[.slice none 0 0, .int .i64 (listErr xs)]) ∧ w = w' := by
  have C1 := Lib.hid (checkList_any va xs w ha)
  have h4 : (listErr xs != 0) = true := by rw [bne_iff_ne]; exact ea
  generalize listErr xs = r at *
  obtain ⟨aa, ac, rfl, hla, -⟩ := ha
  generalize (ivals xs).length = n at *
  clear ea
  go_enter Tryd.func46, Tryd.ntmps46
  go_wp2_with fail
  refine C1.out.mono ?_
  rintro e w' ⟨rfl, rfl⟩
  go_wp2_with fail
  go_ret2
  exact ⟨rfl, rfl⟩
end Go.Proofs.YtcjdbhcpcigmdaaDoor
