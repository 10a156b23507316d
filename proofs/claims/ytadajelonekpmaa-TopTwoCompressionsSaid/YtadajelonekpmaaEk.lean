import Derived.Test.YtadajelonekpmaaEj
namespace Go.Proofs.Ytadajelonekpmaa
open Go.RowKit Go.Proofs.Ytadajelonekpmaa.Flt

theorem bool_eqq (a b : Bool) : (a && b) = true ↔ a = true ∧ b = true := by simp

def maxW : Nat := 4771362005757984768
theorem max_rep : Rep Ieee.double maxW 100000000000 := .inl (by decide +kernel)

/-- the phase and the error of a number of these parts -/
def phaPart (a b : Option Int) : Int × Int :=
  if smpErr a b 100000000000 = 0 then
    match a, b with
    | some x, some y => if x = 0 ∧ y = 0 then (0, 31) else (wrapI (phC x y), 0)
    | _, _ => (0, 29)
  else (0, smpErr a b 100000000000)

theorem smpErr_some {a b : Option Int} {M : Int} (h : smpErr a b M = 0) : ∃ x y, a = some x ∧ b = some y ∧ ¬ M < x.natAbs ∧ ¬ M < y.natAbs := by
  unfold smpErr at h
  split at h
  · rename_i x y
    refine ⟨x, y, rfl, rfl, ?_⟩
    split at h
    · cases h
    · rename_i h'
      rw [not_or] at h'
      exact h'
  · cases h

def oc1 (x : Int) : Int := IntKind.u64.wrap (bits .and .u64 (x / 2) 6148914691236517205 + bits .and .u64 x 6148914691236517205)
def oc2 (y : Int) : Int := IntKind.u64.wrap (bits .and .u64 (y / 4) 3689348814741910323 + bits .and .u64 y 3689348814741910323)
def oc3 (z : Int) : Int := bits .and .u64 (IntKind.u64.wrap (z / 16 + z)) 1085102592571150095
def oc4 (k : Int) (z : Int) : Int := IntKind.u64.wrap (z + z / k)
/-- what math/bits reckons -/
def popW (x : Int) : Int := bits .and .i64 (wrap64 (oc4 4294967296 (oc4 65536 (oc4 256 (oc3 (oc2 (oc1 x))))))) 127
/-- how many of the lowest n digits are 1 -/
def ones : Nat → Nat → Nat
  | 0, _ => 0
  | n + 1, x => x % 2 + ones n (x / 2)
theorem popW_all : ∀ x : Nat, x < 129 → popW x = ones 8 x := by decide +kernel
theorem OnesCount64_any (x : Nat) (w : World) : Calls Try.prog 48 #[.int .u64 x] w fun e w' => e = .returned (.int .i64 (popW x)) ∧ w = w' := by
  go_enter Try.func48, Try.ntmps48
  go_wp2_with fail
  go_ret
  exact ⟨rfl, rfl⟩
theorem OnesCount_any (x : Nat) (hx : x < 129) (w : World) : Calls Try.prog 41 #[.int .u64 x] w fun e w' => e = .returned (.int .i64 (ones 8 x)) ∧ w = w' := by
  have C := Lib.hid (fun w => OnesCount64_any x w)
  rw [popW_all x hx] at C
  generalize ones 8 x = r at *
  go_enter Try.func41, Try.ntmps41
  go_wp2_with fail
  refine (C.out _).mono ?_
  rintro e w1 ⟨rfl, rfl⟩
  go_wp2_with fail
  go_ret
  exact ⟨rfl, rfl⟩

/-- is a number none modulo the prime? -/
def offP (x : Int) : Bool := decide (x < 0) || decide (998244353 ≤ x)
/-- the error of a list that is to be transformed -/
def listErr (xs : List Int) : Int := if 128 < xs.length ∨ ones 8 xs.length ≠ 1 then 10 else if xs.any offP then 2 else 0

theorem any_drop_false (xs : List Int) (j : Nat) (hj : j < xs.length) (h : offP (xs.getD j 0) = false) : (xs.drop j).any offP = (xs.drop (j + 1)).any offP := by
  rw [List.drop_eq_getElem_cons hj, List.any_cons]
  rw [List.getD_eq_getElem?_getD, List.getElem?_eq_getElem hj] at h
  simp only [Option.getD_some] at h
  rw [h]; rfl
theorem any_drop_true (xs : List Int) (j : Nat) (hj : j < xs.length) (h : offP (xs.getD j 0) = true) : (xs.drop j).any offP = true := by
  rw [List.drop_eq_getElem_cons hj, List.any_cons]
  rw [List.getD_eq_getElem?_getD, List.getElem?_eq_getElem hj] at h
  simp only [Option.getD_some] at h
  rw [h]; rfl

set_option maxRecDepth 100000 in
/-- THE ERROR OF A LIST -/
theorem checkList_any (v : Value) (xs : List Int) (w : World) (hv : Sl w v (ivals xs)) :
    Calls Try.prog 29 #[v] w fun e w' => e = .returned (.int .i64 (listErr xs)) ∧ w = w' := by
  have hha := hv
  obtain ⟨aa, ac, rfl, hla, -⟩ := hv
  obtain ⟨n, hn⟩ : ∃ n, n = (ivals xs).length := ⟨_, rfl⟩
  rw [← hn] at hla hha ⊢
  have hn' : n = xs.length := by rw [hn]; simp [ivals]
  have HR : Hid (listErr xs = if 128 < n ∨ ones 8 n ≠ 1 then 10 else if xs.any offP then 2 else 0) := by unfold Hid listErr; rw [hn']
  generalize listErr xs = R at *
  have HA := Lib.hid hha
  have HN := Lib.hid hn'
  clear hha hn hn'
  by_cases h1 : 128 < n
  · have HF : Hid (R = 10) := HR.out.trans (if_pos (.inl h1))
    clear HR
    go_enter Try.func29, Try.ntmps29
    go_wp2_with fail
    go_ret
    exact ⟨by rw [HF.out]; rfl, rfl⟩
  have C := Lib.hid (fun w => OnesCount_any n (by omega) w)
  by_cases h2 : ones 8 n = 1
  · have HK : Hid (R = if xs.any offP then 2 else 0) := HR.out.trans (if_neg (by rw [not_or]; exact ⟨h1, fun h => h h2⟩))
    rw [h2] at C
    clear HR h2
    have h3 : ¬ (128 : Int) < n := by omega
    clear h1
    go_enter Try.func29, Try.ntmps29
    go_wp2_with fail
    refine (C.out _).mono ?_
    rintro e w1 ⟨rfl, rfl⟩
    go_wp2_with fail
    go_loop [17] (fun i => ∃ k : Nat, k ≤ n ∧ i = .int .i64 k ∧ Hid (xs.any offP = (xs.drop k).any offP)) (fun i => n - (intOf i).toNat)
    case atStart => exact ⟨0, Nat.zero_le _, rfl, by rfl⟩
    case round =>
      obtain ⟨k, hk, rfl, HX⟩ := hrel
      by_cases hlt : k < n
      · have hkx : k < xs.length := by have := HN.out; omega
        obtain ⟨-, b1, o1, rfl, -, h1⟩ := HA.out.at (by omega)
        have c1 := h1 k _ (ivals_get hkx)
        have y1 := any_drop_false xs k hkx
        have y2 := any_drop_true xs k hkx
        generalize xs.getD k 0 = x at *
        have Y1 := Lib.hid y1
        have Y2 := Lib.hid y2
        clear h1 HA y1 y2
        by_cases x1 : x < 0
        · have HF : Hid (R = 2) := by
            have : xs.any offP = true := HX.out.trans (Y2.out (by simp [offP, x1]))
            exact HK.out.trans (if_pos this)
          clear HX HK Y1 Y2
          go_wp2_with fail
          go_ret
          exact ⟨by rw [HF.out]; rfl, rfl⟩
        · by_cases x2 : 998244353 ≤ x
          · have HF : Hid (R = 2) := by
              have : xs.any offP = true := HX.out.trans (Y2.out (by simp [offP, x2]))
              exact HK.out.trans (if_pos this)
            clear HX HK Y1 Y2
            go_wp2_with fail
            go_ret
            exact ⟨by rw [HF.out]; rfl, rfl⟩
          · have HX' : Hid (xs.any offP = (xs.drop (k + 1)).any offP) := HX.out.trans (Y1.out (by simp [offP, x1, x2]))
            clear HX HK Y1 Y2
            go_wp2_with fail
            go_round
            case rel => exact ⟨k + 1, by omega, by go_num, HX'⟩
            case measure => simp [intOf]; omega
      · have HF : Hid (R = 0) := by
          have e1 : xs.length ≤ k := by have := HN.out; omega
          have : xs.any offP = false := HX.out.trans (by rw [List.drop_of_length_le e1]; rfl)
          exact HK.out.trans (if_neg (by rw [this]; simp))
        clear HX HK
        go_wp2_with fail
        go_ret
        exact ⟨by rw [HF.out]; rfl, rfl⟩
  · have HF : Hid (R = 10) := HR.out.trans (if_pos (.inr h2))
    have h4 : (((ones 8 n : Nat) : Int) != 1) = true := by rw [bne_iff_ne]; omega
    generalize ones 8 n = r at *
    clear HR h2
    have h3 : ¬ (128 : Int) < n := by omega
    clear h1
    go_enter Try.func29, Try.ntmps29
    go_wp2_with fail
    refine (C.out _).mono ?_
    rintro e w1 ⟨rfl, rfl⟩
    go_wp2_with fail
    go_ret
    exact ⟨by rw [HF.out]; rfl, rfl⟩
end Go.Proofs.Ytadajelonekpmaa
