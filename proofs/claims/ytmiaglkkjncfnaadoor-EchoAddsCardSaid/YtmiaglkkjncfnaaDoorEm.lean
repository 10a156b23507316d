import Derived.Test.YtmiaglkkjncfnaaDoorEl
import Derived.Test.YtmiaglkkjncfnaaDoorShelf
namespace Go.Proofs.YtmiaglkkjncfnaaDoor
open Go.RowKit Go.Proofs.YtmiaglkkjncfnaaDoor.Flt

theorem floatToInt_of32 {x : Nat} {n : Int} (h : (Ieee.single.read x).toInt .zero = some n) (h1 : -9223372036854775808 ≤ n) (h2 : n ≤ 9223372036854775807) : floatToIntVal .f32 x .i64 = some n := by
  unfold floatToIntVal
  have : (FloatKind.f32.decode x).toInt .zero = some n := h
  rw [this]
  dsimp only
  rw [if_pos ⟨h1, h2⟩]

/-- a step of the check -/
def chkW (c k : Int) : Int := (31 * c + k + 2048) % 65521
theorem chkW_b (c k : Int) : 0 ≤ chkW c k ∧ chkW c k < 65521 := ⟨Int.emod_nonneg _ (by decide), Int.emod_lt_of_pos _ (by decide)⟩

theorem checkWith_any (c : Int) (x : Nat) (k : Int) (hx : Rep Ieee.single x k) (hk : k.natAbs ≤ 2047) (h0 : 0 ≤ c) (h1 : c < 65521) (w : World) :
    Calls Tryd.prog 76 #[.int .i64 c, .float .f32 x] w fun e w' => e = .returned (.int .i64 (chkW c k)) ∧ w = w' := by
  have c3 := fun w => run_convert_float_int (P := Tryd.prog) w 69 3 .f32 .i64 x k (by kernel_rfl) (by kernel_rfl) (floatToInt_of32 (toInt_rep good_single hx (by show k.natAbs ≤ 2 ^ 24; omega) .zero) (by omega) (by omega))
  have HF : Hid (chkW c k = (31 * c + k + 2048) % 65521) := rfl
  have k1 : -2047 ≤ k := by omega
  have k2 : k ≤ 2047 := by omega
  generalize chkW c k = R at *
  clear hx hk
  go_enter Tryd.func76, Tryd.ntmps76
  go_wp2
  go_ret
  refine ⟨?_, rfl⟩
  rw [HF.out, show 31 * c + k + 2048 = 31 * c + k + 2047 + 1 from by omega]
  rfl

/-- the check of the first samples -/
def chkTo (zs : List (Nat × Nat)) : Nat → Int
  | 0 => 0
  | i + 1 => chkW (chkW (chkTo zs i) (re .f32 zs i)) (im .f32 zs i)
theorem chkTo_b (zs : List (Nat × Nat)) (i : Nat) : 0 ≤ chkTo zs i ∧ chkTo zs i < 65521 := by
  cases i with
  | zero => unfold chkTo; decide
  | succ i => exact chkW_b _ _

set_option maxRecDepth 100000 in
/-- THE CHECK OF AN IMAGE -/
theorem checkOf_any (l s : Int) (v : Value) (zs : List (Nat × Nat)) (w : World) (hv : Sl w v (cvals .f32 zs)) (hz : Right .f32 2047 zs) :
    Calls Tryd.prog 59 #[.agg #[.int .i64 l, .int .i64 s, v]] w fun e w' => e = .returned (.int .i64 (chkTo zs zs.length)) ∧ Below w.heap.size w w' := by
  have hha := hv
  obtain ⟨ad, cap, rfl, hl, -⟩ := hv
  obtain ⟨n, hn⟩ : ∃ n, n = (cvals .f32 zs).length := ⟨_, rfl⟩
  rw [← hn] at hl hha ⊢
  have hn' : n = zs.length := by rw [hn]; simp [cvals]
  rw [← hn']
  have HA := Lib.hid hha
  have HN := Lib.hid hn'
  have HZ := Lib.hid hz
  clear hha hn hn' hz
  go_enter Tryd.func59, Tryd.ntmps59
  go_wp2_with fail
  have hb0 : Hid (Below w.heap.size w (w.alloc (.cells #[.int .i64 l, .int .i64 s, .slice ad n cap] 50))) := (Below.refl _ _).alloc (Nat.le_refl _) _
  generalize w.alloc (.cells #[.int .i64 l, .int .i64 s, .slice ad n cap] 50) = W at *
  go_loop [3, 9] (fun c i => ∃ k : Nat, k ≤ n ∧ i = .int .i64 k ∧ c = .int .i64 (chkTo zs k)) (fun _ i => n - (intOf i).toNat)
  case atStart => exact ⟨0, Nat.zero_le _, rfl, rfl⟩
  case round =>
    obtain ⟨k, hk, rfl, rfl⟩ := hrel
    by_cases hlt : k < n
    · obtain ⟨-, b1, o1, rfl, q1, h1⟩ := HA.out.at (by omega)
      have hkz : k < zs.length := by have := HN.out; omega
      have d1 : W.cell? ⟨b1, o1 + k, none⟩ = some (.complex .f32 (zs.getD k (0, 0)).1 (zs.getD k (0, 0)).2) := (hb0.out.cell (p := ⟨b1, o1 + k, none⟩) q1).trans (h1 k _ (cvals_get hkz))
      obtain ⟨r1, r2, r3, r4⟩ := HZ.out k hkz
      obtain ⟨e1, e2⟩ := chkTo_b zs k
      have C1 := Lib.hid (fun w => checkWith_any (chkTo zs k) _ _ r1 r3 e1 e2 w)
      have C2 := Lib.hid (fun w => checkWith_any (chkW (chkTo zs k) (re .f32 zs k)) _ _ r2 r4 (chkW_b _ _).1 (chkW_b _ _).2 w)
      have HF : Hid (chkTo zs (k + 1) = chkW (chkW (chkTo zs k) (re .f32 zs k)) (im .f32 zs k)) := rfl
      generalize (zs.getD k (0, 0)).1 = X at *
      generalize (zs.getD k (0, 0)).2 = Y at *
      generalize chkW (chkW (chkTo zs k) (re .f32 zs k)) (im .f32 zs k) = R2 at *
      generalize chkW (chkTo zs k) (re .f32 zs k) = R1 at *
      generalize chkTo zs k = R0 at *
      clear h1 r1 r2 r3 r4 e1 e2 HA HZ
      go_wp2_with fail
      refine (C1.out _).mono ?_
      rintro e w1 ⟨rfl, rfl⟩
      go_wp2_with fail
      refine (C2.out _).mono ?_
      rintro e w1 ⟨rfl, rfl⟩
      go_wp2_with fail
      go_round
      case rel => exact ⟨k + 1, by omega, by go_num, by rw [HF.out]⟩
      case measure => simp [intOf]; omega
    · obtain rfl : k = n := by omega
      go_wp2_with fail
      go_ret
      exact ⟨rfl, hb0.out⟩

theorem Tryd.infoStr : (Tryd.prog.info? 9).map (fun i => (i.zero, i.size, i.bytes)) = some (some (.string ⟨#[]⟩), 1, 16) := by kernel_rfl
theorem Tryd.pow10 : Tryd.prog.globalNamed "internal/strconv.uint64pow10" = some 1 := by kernel_rfl

theorem below_grows (w : World) (k : Nat) (os : Array Obj) : Below w.heap.size w (Go.Sort.grow (w.drewN k) os) := by
  refine ⟨rfl, rfl, rfl, ?_, fun b hb => ?_⟩
  · show w.heap.size ≤ (w.heap ++ os).size
    simp
  · show (w.heap ++ os)[b]? = w.heap[b]?
    exact Array.getElem?_append_left hb

theorem own_kept {w w' : World} {B e size n : Nat} {v : Value} {xs : List Value} (h : w.ownsRow B e size v n xs) (hb : Below w.heap.size w w') : w'.ownsRow B e size v n xs := by
  obtain ⟨h1, h2⟩ := h
  refine ⟨h1, ?_⟩
  rcases h2 with h2 | ⟨g, cap, cur, p1, p2, p3, p4⟩
  · exact .inl h2
  · exact .inr ⟨g, cap, cur, p1, p2, (hb.block g (Array.getElem?_eq_some_iff.1 p3).1).trans p3, p4⟩

/-- the table of the powers of ten -/
def Tab (w : World) : Prop := Lib.TabIs Tryd.prog w "internal/strconv.uint64pow10" .u64 Lib.pow10Tab
theorem Tab.below {w w' : World} (h : Tab w) (hb : Below w.heap.size w w') : Tab w' := by
  unfold Tab Lib.TabIs World.var? at h ⊢
  rw [Tryd.pow10] at h ⊢
  simp only [Option.bind_some] at h ⊢
  have hlt : 1 < w.heap.size := by
    rcases Nat.lt_or_ge 1 w.heap.size with h' | h'
    · exact h'
    · rw [Array.getElem?_eq_none h'] at h; cases h
  rw [hb.block 1 hlt]
  exact h

theorem Itoa_any (n : Int) (h0 : -9223372036854775808 ≤ n) (h1 : n ≤ 9223372036854775807) (w : World) (ht : Tab w) :
    Calls Tryd.prog 74 #[.int .i64 n] w fun e w' => e = .returned (.string ⟨(Lib.itoa n).toArray⟩) ∧ Below w.heap.size w w' :=
  (Tryd.strconv_Itoa n h0 h1 w ht).mono fun e w' h => by
    obtain ⟨h1, k, os, rfl⟩ := h
    exact ⟨h1, below_grows w k os⟩

/-- the words of numbers, the first k written -/
def wordPart (xs : List Int) (n k : Nat) : List Value := (List.range n).map fun i => .string (if i < k then ⟨(Lib.itoa (xs.getD i 0)).toArray⟩ else ⟨#[]⟩)
theorem wordPart_len (xs : List Int) (n k : Nat) : (wordPart xs n k).length = n := by simp [wordPart]
theorem wordPart_zero (xs : List Int) (n : Nat) : wordPart xs n 0 = List.replicate n (.string ⟨#[]⟩) := by
  apply List.ext_getElem?
  intro i
  by_cases h : i < n
  · rw [List.getElem?_replicate_of_lt h]
    simp [wordPart, List.getElem?_range h]
  · rw [List.getElem?_eq_none (by rw [wordPart_len]; omega), List.getElem?_eq_none (by simp; omega)]
theorem wordPart_at (xs : List Int) (n k : Nat) (h : k < n) : (wordPart xs n k)[k]? = some (.string ⟨#[]⟩) := by
  simp [wordPart, List.getElem?_range h]
theorem wordPart_step (xs : List Int) (n k : Nat) (h : k < n) : (wordPart xs n k).set k (.string ⟨(Lib.itoa (xs.getD k 0)).toArray⟩) = wordPart xs n (k + 1) := by
  apply List.ext_getElem?
  intro i
  rw [List.getElem?_set]
  by_cases hi : i < n
  · by_cases hs : k = i
    · subst hs; rw [if_pos rfl, if_pos (by rw [wordPart_len]; exact hi)]; simp [wordPart, List.getElem?_range hi]
    · rw [if_neg hs]
      have : i < k ↔ i < k + 1 := by omega
      simp [wordPart, List.getElem?_range hi, this]
  · by_cases hs : k = i
    · omega
    · rw [if_neg hs, List.getElem?_eq_none (by rw [wordPart_len]; omega), List.getElem?_eq_none (by rw [wordPart_len]; omega)]

structure WordInv (xs : List Int) (n : Nat) (w : World) (k : Nat) (wr : World) : Prop where
  hb : Below w.heap.size w wr
  ho : wr.ownsRow w.heap.size 9 1 (.slice (some ⟨w.heap.size, 0, none⟩) n n) n (wordPart xs n k)

theorem WordInv.next {xs : List Int} {n k : Nat} {w wr w2 : World} (h : WordInv xs n w k wr) (hb : Below wr.heap.size wr w2) (hk : k < n) :
    WordInv xs n w (k + 1) (w2.setCell ⟨w.heap.size, k, none⟩ (.string ⟨(Lib.itoa (xs.getD k 0)).toArray⟩)) := by
  refine ⟨(h.hb.trans (hb.mono h.hb.size)).setCell (p := ⟨w.heap.size, k, none⟩) (Nat.le_refl _) _, ?_⟩
  have := ((own_kept h.ho hb).stored k (.string ⟨(Lib.itoa (xs.getD k 0)).toArray⟩)).1
  rw [wordPart_step xs n k hk] at this
  exact this

/-- the text of numbers, with single blanks between -/
def joinOf (xs : List Int) : List UInt8 := Lib.join (xs.map Lib.itoa) [32]

set_option maxRecDepth 100000 in
set_option maxHeartbeats 1000000 in
theorem joined_any (v : Value) (xs : List Int) (w : World) (hv : Sl w v (ivals xs)) (hx : ∀ i, i < xs.length → I64 (xs.getD i 0)) (hn1 : xs.length ≤ 1000000) (hj : (joinOf xs).length ≤ 140737488355328) (ht : Tab w) :
    Calls Tryd.prog 58 #[v] w fun e w' => e = .returned (.string ⟨(joinOf xs).toArray⟩) ∧ Below w.heap.size w w' := by
  have hha := hv
  obtain ⟨aa, ac, rfl, hla, -⟩ := hv
  obtain ⟨n, hn⟩ : ∃ n, n = xs.length := ⟨_, rfl⟩
  have ex : (ivals xs).length = n := by simp [ivals, hn]
  rw [ex] at hla hha ⊢
  rw [← hn] at hn1 hx
  have HA := Lib.hid hha
  have HN := Lib.hid hn
  have HX := Lib.hid hx
  have HT := Lib.hid ht
  obtain ⟨i0, hi, hz0, hz1, hz2⟩ := info_parts Tryd.infoStr
  have CJ : Hid (∀ w2, (∀ (j : Nat) x, (xs.map fun x => (⟨(Lib.itoa x).toArray⟩ : ByteArray))[j]? = some x → w2.cell? ⟨w.heap.size, 0 + j, none⟩ = some (.string x)) → w.heap.size < w2.heap.size →
      Calls Tryd.prog 75 #[.slice (some ⟨w.heap.size, 0, none⟩) n n, .string ⟨#[32]⟩] w2 fun e w' => e = .returned (.string ⟨(joinOf xs).toArray⟩) ∧ Below w2.heap.size w2 w') := by
    intro w2 h1 h2
    have he : ((xs.map fun x => (⟨(Lib.itoa x).toArray⟩ : ByteArray)).map (·.data.toList)) = xs.map Lib.itoa := by rw [List.map_map]; rfl
    have hs : (⟨#[32]⟩ : ByteArray).data.toList = [32] := rfl
    have := Tryd.strings_Join w.heap.size 0 n (xs.map fun x => (⟨(Lib.itoa x).toArray⟩ : ByteArray)) ⟨#[32]⟩ w2 h1 h2 (by simp; omega) (by simp [hn]) (by rw [he, hs]; exact hj)
    rw [he, hs, List.length_map, ← hn] at this
    exact this
  clear ex hn hx ht hha hj
  generalize joinOf xs = T at *
  go_enter Tryd.func58, Tryd.ntmps58
  go_wp2_with (at_make; refine wpList_make_full _ rfl _ _ 123 rfl w.heap.size 9 i0 (.string ⟨#[]⟩) 1 Tryd.underlying123 hi hz0 hz1 .i64 .i64 _ _ n rfl rfl ?c1 ?c2 ?c3 ?c4 ?c5 ?_)
  case c1 => rfl
  case c2 => rfl
  case c3 => rw [hz2]; omega
  case c4 => unfold maxLen; omega
  case c5 => simp
  intro w1 hown hgrow
  have hlist : (madeCells #[Value.string ⟨#[]⟩] n).toList = List.replicate n (.string ⟨#[]⟩) := toList_madeCells_one _ _
  rw [hlist, ← wordPart_zero xs n] at hown
  have I0 : Hid (WordInv xs n w 0 w1) := ⟨(Below.refl _ _).grown hgrow (Nat.le_refl _) (by intro k h; cases h), hown⟩
  clear hown hgrow hlist hi hz0 hz1 hz2
  go_wp2_with fail
  go_loopw [11] (fun i wr => ∃ k : Nat, k ≤ n ∧ i = .int .i64 k ∧ Hid (WordInv xs n w k wr)) (fun i _ => n - (intOf i).toNat)
  case atStart => exact ⟨0, Nat.zero_le _, rfl, I0⟩
  case round =>
    obtain ⟨k, hk, rfl, IK⟩ := hrel
    obtain ⟨wz, rfl⟩ : ∃ wz : World, wz = wr := ⟨_, rfl⟩
    clear I0
    by_cases hlt : k < n
    · obtain ⟨-, b1, o1, rfl, q1, h1⟩ := HA.out.at (by omega)
      have d1 : wz.cell? ⟨b1, o1 + k, none⟩ = some (.int .i64 (xs.getD k 0)) := (IK.out.hb.cell (p := ⟨b1, o1 + k, none⟩) q1).trans (h1 k _ (ivals_get (by have := HN.out; omega)))
      obtain ⟨x0, x1⟩ := HX.out k hlt
      have C1 := Lib.hid (Itoa_any (xs.getD k 0) x0 x1 wz (HT.out.below IK.out.hb))
      have HF : Hid (∀ w2, Below wz.heap.size wz w2 → WordInv xs n w (k + 1) (w2.setCell ⟨w.heap.size, k, none⟩ (.string ⟨(Lib.itoa (xs.getD k 0)).toArray⟩))) := fun w2 h2 => IK.out.next h2 hlt
      generalize (⟨(Lib.itoa (xs.getD k 0)).toArray⟩ : ByteArray) = S at *
      generalize xs.getD k 0 = X at *
      clear h1 x0 x1 HA HX
      go_wp2_with fail
      refine C1.out.mono ?_
      rintro e w2 ⟨rfl, hb2⟩
      have l1 := (IK.out.ho.lt w.heap.size rfl).2
      have d3 : w2.cell? ⟨w.heap.size, k, none⟩ = some (.string ⟨#[]⟩) := ((own_kept IK.out.ho hb2).cellAt k (by omega)).trans (wordPart_at xs n k hlt)
      have d4 : w2.frozen? ⟨w.heap.size, k, none⟩ = false := (own_kept IK.out.ho hb2).frozenAt k
      have HW := Lib.hid (HF.out w2 hb2)
      clear hb2 d1
      go_wp2_with fail
      go_roundw
      case rel => exact ⟨k + 1, by omega, by go_num, HW⟩
      case measure => simp [intOf]; omega
    · obtain rfl : k = n := by omega
      have l1 := (IK.out.ho.lt w.heap.size rfl).2
      have HC := Lib.hid (CJ.out wz (by
        intro j x hj
        have hjn : j < k := by
          rcases Nat.lt_or_ge j k with h | h
          · exact h
          · rw [List.getElem?_eq_none (by simp; have := HN.out; omega)] at hj; cases hj
        have hjx : j < xs.length := by have := HN.out; omega
        rw [Nat.zero_add, IK.out.ho.cellAt j (by omega)]
        rw [List.getElem?_map, List.getElem?_eq_getElem hjx, Option.map_some] at hj
        injection hj with hj
        rw [← hj]
        simp [wordPart, hjn, List.getD_eq_getElem?_getD, List.getElem?_eq_getElem hjx]) l1)
      have HB := Lib.hid IK.out.hb
      clear IK CJ
      go_wp2_with fail
      refine HC.out.mono ?_
      rintro e w2 ⟨rfl, hb2⟩
      go_wp2_with fail
      go_ret
      exact ⟨rfl, HB.out.trans (hb2.mono HB.out.size)⟩
end Go.Proofs.YtmiaglkkjncfnaaDoor
