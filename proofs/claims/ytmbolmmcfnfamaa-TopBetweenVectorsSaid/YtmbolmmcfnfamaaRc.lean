import Derived.Test.YtmbolmmcfnfamaaRb
namespace Go.Proofs.Ytmbolmmcfnfamaa.Orb
open Go.RowKit Lib

/-- a byte of a text -/
def byt (s : ByteArray) (i : Nat) : Int := if h : i < s.size then ((s[i]'h).toNat : Int) else 0
theorem run_byt (s : ByteArray) (i : Nat) (h : i < s.size) (w : World) : (Instr.index 9 (.string s) (.int .i64 i)).run Try.prog w = .ok (.int .u8 (byt s i)) w := by
  rw [run_index_string w 9 s .i64 i Try.underlying9, dif_pos ⟨by omega, by omega⟩]
  unfold byt
  rw [dif_pos h]
  rfl

attribute [-go_sem] run_index_string

/-- all from k on -/
def okFrom (f : Nat → Bool) (n k : Nat) : Bool := decide (∀ i, i < n → k ≤ i → f i = true)
theorem okFrom_step (f : Nat → Bool) (n k : Nat) (h : f k = true) : okFrom f n k = okFrom f n (k + 1) := by
  unfold okFrom
  rw [decide_eq_decide]
  constructor
  · intro H i h1 h2; exact H i h1 (by omega)
  · intro H i h1 h2
    by_cases e : i = k
    · rw [e]; exact h
    · exact H i h1 (by omega)
theorem okFrom_bad (f : Nat → Bool) (n k : Nat) (hk : k < n) (h : f k = false) : okFrom f n k = false := by
  unfold okFrom
  rw [decide_eq_false_iff_not]
  intro H
  rw [H k hk (Nat.le_refl _)] at h
  cases h
theorem okFrom_end (f : Nat → Bool) (n k : Nat) (h : n ≤ k) : okFrom f n k = true := by
  unfold okFrom
  rw [decide_eq_true_eq]
  intro i h1 h2; omega

/-- may a byte stand at a place of a name? -/
def nameC (s : ByteArray) (i : Nat) : Bool := letterB (byt s i) || (decide (i ≠ 0) && (decide (byt s i = 45) || digitB (byt s i)))
/-- is a text a name? -/
def nameB (s : ByteArray) : Bool := decide (1 ≤ s.size ∧ s.size ≤ 12) && okFrom (nameC s) s.size 0

set_option maxRecDepth 100000 in
/-- THE PROGRAM's NAMES -/
theorem isName_any (s : ByteArray) (hs : s.size ≤ 1000) (w : World) :
    Calls Try.prog 100 #[.string s] w fun e w' => e = .returned (.bool (nameB s)) ∧ w = w' := by
  obtain ⟨n, hn⟩ : ∃ n, n = s.size := ⟨_, rfl⟩
  have HR : Hid (nameB s = (decide (1 ≤ n ∧ n ≤ 12) && okFrom (nameC s) n 0)) := by unfold Hid nameB; rw [hn]
  generalize nameB s = R at *
  have hsn : (s.size : Int) = n := by omega
  have HN := Lib.hid hn
  by_cases h1 : 1 ≤ n
  case neg =>
    have HF : Hid (R = false) := HR.out.trans (by rw [decide_eq_false (by omega)]; rfl)
    clear HR
    go_enter Try.func100, Try.ntmps100
    go_wp2_with fail
    go_ret
    exact ⟨by rw [HF.out]; rfl, rfl⟩
  by_cases h2 : n ≤ 12
  case neg =>
    have HF : Hid (R = false) := HR.out.trans (by rw [decide_eq_false (by omega)]; rfl)
    clear HR
    go_enter Try.func100, Try.ntmps100
    go_wp2_with fail
    go_ret
    exact ⟨by rw [HF.out]; rfl, rfl⟩
  have HK : Hid (R = okFrom (nameC s) n 0) := HR.out.trans (by rw [decide_eq_true ⟨h1, h2⟩]; rfl)
  have g0 : ∀ W, (Instr.index 9 (.string s) (.int .i64 0)).run Try.prog W = .ok (.int .u8 (byt s 0)) W := fun W => run_byt s 0 (by omega) W
  have C0 := Lib.hid (fun W => isLetter_any (byt s 0) W)
  clear HR
  cases hl : letterB (byt s 0) with
  | false =>
    have HF : Hid (R = false) := HK.out.trans (okFrom_bad _ _ _ (by omega) (by simp [nameC, hl]))
    rw [hl] at C0
    generalize byt s 0 = c at *
    clear HK hl
    go_enter Try.func100, Try.ntmps100
    go_wp2_with fail
    refine (C0.out _).mono ?_
    rintro e w1 ⟨rfl, rfl⟩
    go_wp2_with fail
    go_ret
    exact ⟨by rw [HF.out]; rfl, rfl⟩
  | true =>
    rw [hl] at C0
    have HZ : Hid (∀ k, k < n → ∀ W, (Instr.index 9 (.string s) (.int .i64 k)).run Try.prog W = .ok (.int .u8 (byt s k)) W) := fun k hk W => run_byt s k (by omega) W
    have HL0 := Lib.hid hl
    have HB := Lib.hid (rfl : byt s 0 = byt s 0)
    generalize hc0 : byt s 0 = c0 at g0 C0
    have HC0 := Lib.hid hc0
    clear hl hc0 HB
    go_enter Try.func100, Try.ntmps100
    go_wp2_with fail
    refine (C0.out _).mono ?_
    rintro e w1 ⟨rfl, rfl⟩
    go_wp2_with fail
    clear g0 C0 HC0
    go_loop [20] (fun i => ∃ k : Nat, k ≤ n ∧ i = .int .i64 k ∧ Hid (R = okFrom (nameC s) n k)) (fun i => n - (intV i).toNat)
    case atStart => exact ⟨0, Nat.zero_le _, rfl, HK⟩
    case round =>
      obtain ⟨k, hk, rfl, HX⟩ := hrel
      by_cases hlt : k < n
      · have gk := HZ.out k hlt
        have CL := Lib.hid (fun W => isLetter_any (byt s k) W)
        have CD := Lib.hid (fun W => isDigit_any (byt s k) W)
        have HG : Hid (nameC s k = true → R = okFrom (nameC s) n (k + 1)) := fun h => HX.out.trans (okFrom_step _ _ _ h)
        have HBad : Hid (nameC s k = false → R = false) := fun h => HX.out.trans (okFrom_bad _ _ _ hlt h)
        have HN0 : Hid (letterB (byt s k) = false → k ≠ 0) := by
          intro h e
          subst e
          rw [HL0.out] at h; cases h
        cases hl : letterB (byt s k) with
        | true =>
          have HX' : Hid (R = okFrom (nameC s) n (k + 1)) := HG.out (by simp [nameC, hl])
          rw [hl] at CL
          clear HX HG HBad HN0 HZ HL0 HK CD
          generalize byt s k = c at *
          clear hl
          go_wp2_with fail
          refine (CL.out _).mono ?_
          rintro e w1 ⟨rfl, rfl⟩
          go_wp2_with fail
          go_round
          case rel => exact ⟨k + 1, by omega, by go_num, HX'⟩
          case measure => simp [intV]; omega
        | false =>
          have k0 := HN0.out hl
          cases hd : digitB (byt s k) with
          | true =>
            have HX' : Hid (R = okFrom (nameC s) n (k + 1)) := HG.out (by simp [nameC, hl, hd, k0])
            rw [hl] at CL
            rw [hd] at CD
            clear HX HG HBad HN0 HZ HL0 HK k0
            generalize byt s k = c at *
            clear hl hd
            go_wp2_with fail
            refine (CL.out _).mono ?_
            rintro e w1 ⟨rfl, rfl⟩
            go_wp2_with fail
            refine (CD.out _).mono ?_
            rintro e w1 ⟨rfl, rfl⟩
            go_wp2_with fail
            go_round
            case rel => exact ⟨k + 1, by omega, by go_num, HX'⟩
            case measure => simp [intV]; omega
          | false =>
            by_cases h45 : byt s k = 45
            · have HX' : Hid (R = okFrom (nameC s) n (k + 1)) := HG.out (by simp [nameC, h45, k0])
              rw [hl] at CL
              rw [hd] at CD
              clear HX HG HBad HN0 HZ HL0 HK k0
              have hb : (byt s k != 45) = false := by rw [h45]; rfl
              generalize byt s k = c at *
              clear hl hd h45
              go_wp2_with fail
              refine (CL.out _).mono ?_
              rintro e w1 ⟨rfl, rfl⟩
              go_wp2_with fail
              refine (CD.out _).mono ?_
              rintro e w1 ⟨rfl, rfl⟩
              go_wp2_with fail
              go_round
              case rel => exact ⟨k + 1, by omega, by go_num, HX'⟩
              case measure => simp [intV]; omega
            · have HF : Hid (R = false) := HBad.out (by simp [nameC, hl, hd, h45])
              rw [hl] at CL
              rw [hd] at CD
              clear HX HG HBad HN0 HZ HL0 HK k0
              have hb : (byt s k != 45) = true := by rw [bne_iff_ne]; exact h45
              generalize byt s k = c at *
              clear hl hd h45
              go_wp2_with fail
              refine (CL.out _).mono ?_
              rintro e w1 ⟨rfl, rfl⟩
              go_wp2_with fail
              refine (CD.out _).mono ?_
              rintro e w1 ⟨rfl, rfl⟩
              go_wp2_with fail
              go_ret
              exact ⟨by rw [HF.out]; rfl, rfl⟩
      · have HF : Hid (R = true) := HX.out.trans (okFrom_end _ _ _ (by omega))
        clear HX HK
        go_wp2_with fail
        go_ret
        exact ⟨by rw [HF.out]; rfl, rfl⟩

/-- the error of a name: ErrName is 4 -/
def nameE (s : ByteArray) : Int := if nameB s then 0 else 4
theorem nameError_any (s : ByteArray) (hs : s.size ≤ 1000) (w : World) :
    Calls Try.prog 79 #[.string s] w fun e w' => e = .returned (.int .i64 (nameE s)) ∧ w = w' := by
  have C := Lib.hid (fun W => isName_any s hs W)
  unfold nameE
  cases hb : nameB s
  all_goals
    rw [hb] at C
    clear hb
    go_enter Try.func79, Try.ntmps79
    go_wp2_with fail
    refine (C.out _).mono ?_
    rintro e w1 ⟨rfl, rfl⟩
    go_wp2_with fail
    go_ret
    exact ⟨rfl, rfl⟩

set_option maxRecDepth 100000 in
/-- THE REFERENCE's NAMES -/
theorem IsName_any (s : ByteArray) (hs : s.size ≤ 1000) (w : World) :
    Calls Try.prog 69 #[.string s] w fun e w' => e = .returned (.bool (nameB s)) ∧ w = w' := by
  obtain ⟨n, hn⟩ : ∃ n, n = s.size := ⟨_, rfl⟩
  have HR : Hid (nameB s = (decide (1 ≤ n ∧ n ≤ 12) && okFrom (nameC s) n 0)) := by unfold Hid nameB; rw [hn]
  generalize nameB s = R at *
  have hsn : (s.size : Int) = n := by omega
  have HN := Lib.hid hn
  by_cases h1 : 1 ≤ n
  case neg =>
    have HF : Hid (R = false) := HR.out.trans (by rw [decide_eq_false (by omega)]; rfl)
    clear HR
    go_enter Try.func69, Try.ntmps69
    go_wp2_with fail
    go_ret
    exact ⟨by rw [HF.out]; rfl, rfl⟩
  by_cases h2 : n ≤ 12
  case neg =>
    have HF : Hid (R = false) := HR.out.trans (by rw [decide_eq_false (by omega)]; rfl)
    clear HR
    go_enter Try.func69, Try.ntmps69
    go_wp2_with fail
    go_ret
    exact ⟨by rw [HF.out]; rfl, rfl⟩
  have HK : Hid (R = okFrom (nameC s) n 0) := HR.out.trans (by rw [decide_eq_true ⟨h1, h2⟩]; rfl)
  have HZ : Hid (∀ k, k < n → ∀ W, (Instr.index 9 (.string s) (.int .i64 k)).run Try.prog W = .ok (.int .u8 (byt s k)) W) := fun k hk W => run_byt s k (by omega) W
  clear HR
  go_enter Try.func69, Try.ntmps69
  go_wp2_with fail
  go_loop [3] (fun i => ∃ k : Nat, k ≤ n ∧ i = .int .i64 k ∧ Hid (R = okFrom (nameC s) n k)) (fun i => n - (intV i).toNat)
  case atStart => exact ⟨0, Nat.zero_le _, rfl, HK⟩
  case round =>
    obtain ⟨k, hk, rfl, HX⟩ := hrel
    by_cases hlt : k < n
    · have gk := HZ.out k hlt
      have HG : Hid (nameC s k = true → R = okFrom (nameC s) n (k + 1)) := fun h => HX.out.trans (okFrom_step _ _ _ h)
      have HBad : Hid (nameC s k = false → R = false) := fun h => HX.out.trans (okFrom_bad _ _ _ hlt h)
      have HD : Hid (nameC s k = (letterB (byt s k) || (decide (k ≠ 0) && (decide (byt s k = 45) || digitB (byt s k))))) := rfl
      clear HX HK HZ
      generalize nameC s k = G at *
      generalize byt s k = c at *
      by_cases a1 : 97 ≤ c
      · by_cases a2 : c ≤ 122
        · have hG : G = true := by rw [HD.out]; unfold letterB digitB; simp; omega
          have HX' := Lib.hid (HG.out hG)
          clear HG HBad HD hG
          go_wp2_with fail
          go_round
          case rel => exact ⟨k + 1, by omega, by go_num, HX'⟩
          case measure => simp [intV]; omega
        · have a3 : 65 ≤ c := by omega
          have a4 : ¬ c ≤ 90 := by omega
          by_cases x0 : k = 0
          · have hG : G = false := by rw [HD.out]; unfold letterB digitB; simp; omega
            have HF := Lib.hid (HBad.out hG)
            subst x0
            have e0 : ((0 : Nat) : Int) = 0 := rfl
            rw [e0] at gk ⊢
            clear HG HBad HD hG e0
            go_wp2_with fail
            go_ret
            exact ⟨by rw [HF.out]; rfl, rfl⟩
          · have hG : G = false := by rw [HD.out]; unfold letterB digitB; simp; omega
            have HF := Lib.hid (HBad.out hG)
            have hz : ((k : Int) == 0) = false := by rw [beq_eq_false_iff_ne]; omega
            have h45 : (c != 45) = true := by rw [bne_iff_ne]; omega
            have x1 : ¬ c < 48 := by omega
            have x2 : 57 < c := by omega
            clear HG HBad HD hG
            go_wp2_with fail
            go_ret
            exact ⟨by rw [HF.out]; rfl, rfl⟩
      · by_cases a3 : 65 ≤ c
        · by_cases a4 : c ≤ 90
          · have hG : G = true := by rw [HD.out]; unfold letterB digitB; simp; omega
            have HX' := Lib.hid (HG.out hG)
            clear HG HBad HD hG
            go_wp2_with fail
            go_round
            case rel => exact ⟨k + 1, by omega, by go_num, HX'⟩
            case measure => simp [intV]; omega
          · by_cases x0 : k = 0
            · have hG : G = false := by rw [HD.out]; unfold letterB digitB; simp; omega
              have HF := Lib.hid (HBad.out hG)
              subst x0
              have e0 : ((0 : Nat) : Int) = 0 := rfl
              rw [e0] at gk ⊢
              clear HG HBad HD hG e0
              go_wp2_with fail
              go_ret
              exact ⟨by rw [HF.out]; rfl, rfl⟩
            · have hG : G = false := by rw [HD.out]; unfold letterB digitB; simp; omega
              have HF := Lib.hid (HBad.out hG)
              have hz : ((k : Int) == 0) = false := by rw [beq_eq_false_iff_ne]; omega
              have h45 : (c != 45) = true := by rw [bne_iff_ne]; omega
              have x1 : ¬ c < 48 := by omega
              have x2 : 57 < c := by omega
              clear HG HBad HD hG
              go_wp2_with fail
              go_ret
              exact ⟨by rw [HF.out]; rfl, rfl⟩
        · by_cases x0 : k = 0
          · have hG : G = false := by rw [HD.out]; unfold letterB digitB; simp; omega
            have HF := Lib.hid (HBad.out hG)
            subst x0
            have e0 : ((0 : Nat) : Int) = 0 := rfl
            rw [e0] at gk ⊢
            clear HG HBad HD hG e0
            go_wp2_with fail
            go_ret
            exact ⟨by rw [HF.out]; rfl, rfl⟩
          · by_cases y1 : c = 45
            · have hG : G = true := by rw [HD.out]; unfold letterB digitB; simp; omega
              have HX' := Lib.hid (HG.out hG)
              have hz : ((k : Int) == 0) = false := by rw [beq_eq_false_iff_ne]; omega
              have h45 : (c != 45) = false := by rw [y1]; rfl
              clear HG HBad HD hG
              go_wp2_with fail
              go_round
              case rel => exact ⟨k + 1, by omega, by go_num, HX'⟩
              case measure => simp [intV]; omega
            · by_cases y2 : c < 48
              · have hG : G = false := by rw [HD.out]; unfold letterB digitB; simp; omega
                have HF := Lib.hid (HBad.out hG)
                have hz : ((k : Int) == 0) = false := by rw [beq_eq_false_iff_ne]; omega
                have h45 : (c != 45) = true := by rw [bne_iff_ne]; omega
                clear HG HBad HD hG
                go_wp2_with fail
                go_ret
                exact ⟨by rw [HF.out]; rfl, rfl⟩
              · by_cases y3 : 57 < c
                · have hG : G = false := by rw [HD.out]; unfold letterB digitB; simp; omega
                  have HF := Lib.hid (HBad.out hG)
                  have hz : ((k : Int) == 0) = false := by rw [beq_eq_false_iff_ne]; omega
                  have h45 : (c != 45) = true := by rw [bne_iff_ne]; omega
                  clear HG HBad HD hG
                  go_wp2_with fail
                  go_ret
                  exact ⟨by rw [HF.out]; rfl, rfl⟩
                · have hG : G = true := by rw [HD.out]; unfold letterB digitB; simp; omega
                  have HX' := Lib.hid (HG.out hG)
                  have hz : ((k : Int) == 0) = false := by rw [beq_eq_false_iff_ne]; omega
                  have h45 : (c != 45) = true := by rw [bne_iff_ne]; omega
                  clear HG HBad HD hG
                  go_wp2_with fail
                  go_round
                  case rel => exact ⟨k + 1, by omega, by go_num, HX'⟩
                  case measure => simp [intV]; omega
    · have HF : Hid (R = true) := HX.out.trans (okFrom_end _ _ _ (by omega))
      clear HX HK
      go_wp2_with fail
      go_ret
      exact ⟨by rw [HF.out]; rfl, rfl⟩

end Go.Proofs.Ytmbolmmcfnfamaa.Orb
