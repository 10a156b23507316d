import Derived.Test.YtmbolmmcfnfamaaRa
namespace Go.Proofs.Ytmbolmmcfnfamaa.Orb
open Go.RowKit Lib

theorem firstE_zero (es : List Int) (k : Nat) (h : es[k]? = some 0) : firstE (es.drop k) = firstE (es.drop (k + 1)) := by
  obtain ⟨hk, h1⟩ := List.getElem?_eq_some_iff.1 h
  rw [List.drop_eq_getElem_cons hk, h1]
  rfl
theorem firstE_hit (es : List Int) (k : Nat) (e : Int) (h : es[k]? = some e) (he : e ≠ 0) : firstE (es.drop k) = e := by
  obtain ⟨hk, h1⟩ := List.getElem?_eq_some_iff.1 h
  rw [List.drop_eq_getElem_cons hk, h1]
  exact if_neg he

/-- the number in a value -/
def intV : Value → Int
  | .int _ n => n
  | _ => 0

set_option maxRecDepth 100000 in
/-- THE FIRST OF SOME ERRORS -/
theorem firstError_any (b n : Nat) (es : List Int) (hl : es.length = n) (hn : n ≤ 100) (w : World) (hc : ∀ k e, es[k]? = some e → w.cell? ⟨b, k, none⟩ = some (.int .i64 e)) :
    Calls Try.prog 34 #[.slice (some ⟨b, 0, none⟩) n n] w fun e w' => e = .returned (.int .i64 (firstE es)) ∧ w = w' := by
  have HR : Hid (firstE es = firstE (es.drop 0)) := rfl
  generalize firstE es = R at *
  have HL := Lib.hid hl
  have HC := Lib.hid hc
  clear hl hc
  go_enter Try.func34, Try.ntmps34
  go_wp2_with fail
  go_loop [7] (fun i => ∃ k : Nat, k ≤ n ∧ i = .int .i64 k ∧ Hid (R = firstE (es.drop k))) (fun i => n - (intV i).toNat)
  case atStart => exact ⟨0, Nat.zero_le _, rfl, HR⟩
  case round =>
    obtain ⟨k, hk, rfl, HX⟩ := hrel
    by_cases hlt : k < n
    · have hkx : k < es.length := by have := HL.out; omega
      have g1 : es[k]? = some es[k] := List.getElem?_eq_getElem hkx
      have c1 := HC.out k _ g1
      generalize es[k] = x at *
      by_cases hx : x = 0
      · subst hx
        have HX' : Hid (R = firstE (es.drop (k + 1))) := HX.out.trans (firstE_zero es k g1)
        clear HX HC g1
        go_wp2_with fail
        go_round
        case rel => exact ⟨k + 1, by omega, by go_num, HX'⟩
        case measure => simp [intV]; omega
      · have HF : Hid (R = x) := HX.out.trans (firstE_hit es k x g1 hx)
        have hb : (x != 0) = true := by rw [bne_iff_ne]; exact hx
        clear HX HC g1
        go_wp2_with fail
        go_ret
        exact ⟨by rw [HF.out]; rfl, rfl⟩
    · have HF : Hid (R = 0) := by
        have e1 : es.length ≤ k := by have := HL.out; omega
        exact HX.out.trans (by rw [List.drop_of_length_le e1]; rfl)
      clear HX HC
      go_wp2_with fail
      go_ret
      exact ⟨by rw [HF.out]; rfl, rfl⟩

theorem countError_any (n : Int) (w : World) :
    Calls Try.prog 81 #[.int .i64 n] w fun e w' => e = .returned (.int .i64 (countE n)) ∧ w = w' := by
  have hw : (n < 2 ∧ Hid (countE n = 10)) ∨ (¬ n < 2 ∧ 40 < n ∧ Hid (countE n = 8)) ∨ (¬ n < 2 ∧ ¬ 40 < n ∧ Hid (countE n = 0)) := by
    unfold Hid countE
    by_cases h1 : n < 2
    · left; exact ⟨h1, if_pos h1⟩
    · right
      by_cases h2 : 40 < n
      · left; exact ⟨h1, h2, by rw [if_neg h1, if_pos h2]⟩
      · right; exact ⟨h1, h2, by rw [if_neg h1, if_neg h2]⟩
  generalize countE n = R at *
  rcases hw with ⟨h1, HR⟩ | ⟨h1, h2, HR⟩ | ⟨h1, h2, HR⟩
  all_goals
    go_enter Try.func81, Try.ntmps81
    go_wp2_with fail
    go_ret
    exact ⟨by rw [HR.out]; rfl, rfl⟩

set_option maxRecDepth 100000 in
theorem bendError_any (n : Int) (w : World) :
    Calls Try.prog 80 #[.int .i64 n] w fun e w' => e = .returned (.int .i64 (rangeE n 0 100000)) ∧ w = w' := by
  have C := Lib.hid (fun W => rangeError_any n 0 100000 W)
  generalize rangeE n 0 100000 = R at *
  go_enter Try.func80, Try.ntmps80
  go_wp2_with fail
  refine (C.out _).mono ?_
  rintro e w1 ⟨rfl, rfl⟩
  go_wp2_with fail
  go_ret
  exact ⟨rfl, rfl⟩

set_option maxRecDepth 100000 in
theorem coordinateError_any (n : Int) (w : World) :
    Calls Try.prog 76 #[.int .i64 n] w fun e w' => e = .returned (.int .i64 (rangeE n (-100000000) 100000000)) ∧ w = w' := by
  have C := Lib.hid (fun W => rangeError_any n (-100000000) 100000000 W)
  generalize rangeE n (-100000000) 100000000 = R at *
  go_enter Try.func76, Try.ntmps76
  go_wp2_with fail
  refine (C.out _).mono ?_
  rintro e w1 ⟨rfl, rfl⟩
  go_wp2_with fail
  go_ret
  exact ⟨rfl, rfl⟩

/-- letters, and what else a name may have -/
def letterB (c : Int) : Bool := decide (97 ≤ c ∧ c ≤ 122) || decide (65 ≤ c ∧ c ≤ 90)
def digitB (c : Int) : Bool := decide (48 ≤ c ∧ c ≤ 57)

theorem isLetter_any (c : Int) (w : World) :
    Calls Try.prog 108 #[.int .u8 c] w fun e w' => e = .returned (.bool (letterB c)) ∧ w = w' := by
  have hw : (97 ≤ c ∧ c ≤ 122 ∧ Hid (letterB c = true)) ∨ (97 ≤ c ∧ ¬ c ≤ 122 ∧ 65 ≤ c ∧ ¬ c ≤ 90 ∧ Hid (letterB c = false)) ∨ (¬ 97 ≤ c ∧ 65 ≤ c ∧ c ≤ 90 ∧ Hid (letterB c = true)) ∨ (¬ 97 ≤ c ∧ 65 ≤ c ∧ ¬ c ≤ 90 ∧ Hid (letterB c = false)) ∨ (¬ 97 ≤ c ∧ ¬ 65 ≤ c ∧ Hid (letterB c = false)) := by
    unfold Hid letterB
    by_cases h1 : 97 ≤ c
    · by_cases h2 : c ≤ 122
      · left; exact ⟨h1, h2, by simp [h1, h2]⟩
      · right; left; exact ⟨h1, h2, by omega, by omega, by simp; omega⟩
    · by_cases h3 : 65 ≤ c
      · by_cases h4 : c ≤ 90
        · right; right; left; exact ⟨h1, h3, h4, by simp; omega⟩
        · right; right; right; left; exact ⟨h1, h3, h4, by simp; omega⟩
      · right; right; right; right; exact ⟨h1, h3, by simp; omega⟩
  generalize letterB c = R at *
  rcases hw with ⟨h1, h2, HR⟩ | ⟨h1, h2, h3, h4, HR⟩ | ⟨h1, h3, h4, HR⟩ | ⟨h1, h3, h4, HR⟩ | ⟨h1, h3, HR⟩
  all_goals
    go_enter Try.func108, Try.ntmps108
    go_wp2_with fail
    go_ret
    exact ⟨by rw [HR.out]; rfl, rfl⟩

theorem isDigit_any (c : Int) (w : World) :
    Calls Try.prog 109 #[.int .u8 c] w fun e w' => e = .returned (.bool (digitB c)) ∧ w = w' := by
  have hw : (48 ≤ c ∧ c ≤ 57 ∧ Hid (digitB c = true)) ∨ (48 ≤ c ∧ ¬ c ≤ 57 ∧ Hid (digitB c = false)) ∨ (¬ 48 ≤ c ∧ Hid (digitB c = false)) := by
    unfold Hid digitB
    by_cases h1 : 48 ≤ c
    · by_cases h2 : c ≤ 57
      · left; exact ⟨h1, h2, by simp [h1, h2]⟩
      · right; left; exact ⟨h1, h2, by simp; omega⟩
    · right; right; exact ⟨h1, by simp; omega⟩
  generalize digitB c = R at *
  rcases hw with ⟨h1, h2, HR⟩ | ⟨h1, h2, HR⟩ | ⟨h1, HR⟩
  all_goals
    go_enter Try.func109, Try.ntmps109
    go_wp2_with fail
    go_ret
    exact ⟨by rw [HR.out]; rfl, rfl⟩

end Go.Proofs.Ytmbolmmcfnfamaa.Orb
