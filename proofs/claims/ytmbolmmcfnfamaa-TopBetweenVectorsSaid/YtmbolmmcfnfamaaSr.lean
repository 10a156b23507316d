import Derived.Test.YtmbolmmcfnfamaaSq
import Derived.ChangeKeysEq
import Derived.Outline
namespace Go.Proofs.Ytmbolmmcfnfamaa.Orb
open Go.RowKit Lib

/-- the orbit of the examples -/
def passL : List St := [⟨0, 0, 0, 100, 1⟩, ⟨10, 50, 20, 100, 3⟩]

theorem eq_rangeF (n : Nat) (a b c d : Int) (w : World) : (Op.equalIn (n + 2) 54 (.agg #[.int .i64 a, .int .i64 b]) (.agg #[.int .i64 c, .int .i64 d])).run Try.prog w = .ok (a == c && b == d) w := by
  have h1 : (Op.equalIn (n + 1) 3 (.int .i64 a) (.int .i64 c)).run Try.prog w = .ok (a == c) w := run_equalIn_int (P := Try.prog) w n 3 .i64 .i64 a c Try.underlying3
  have h2 : (Op.equalIn (n + 1) 3 (.int .i64 b) (.int .i64 d)).run Try.prog w = .ok (b == d) w := run_equalIn_int (P := Try.prog) w n 3 .i64 .i64 b d Try.underlying3
  rw [run_equalIn_agg (P := Try.prog) w (n + 1) 54 _ _ (by kernel_rfl) (by kernel_rfl)]
  have hf : (Try.prog.fieldsOf 54).toList = [{ name := "Lo", type := 3, offset := 0, embedded := false, tag := "", pkgPath := "", byteOffset := 0 }, { name := "Hi", type := 3, offset := 1, embedded := false, tag := "", pkgPath := "", byteOffset := 8 }] := by
    unfold Program.fieldsOf
    rw [Try.underlying54]
  rw [hf]
  cases hx : (a == c) <;> cases hy : (b == d) <;> rw [hx] at h1 <;> rw [hy] at h2 <;>
    simp [Op.eqFields, Sem.run_bind, go_sem, h1, h2, Try.isAgg3, Result.andThen]

/-- two boxes -/
theorem eq_box (a b c d e f a' b' c' d' e' f' : Int) (w : World) : (Op.equalIn 10000 61 (.agg #[.int .i64 a, .int .i64 b, .int .i64 c, .int .i64 d, .int .i64 e, .int .i64 f]) (.agg #[.int .i64 a', .int .i64 b', .int .i64 c', .int .i64 d', .int .i64 e', .int .i64 f'])).run Try.prog w =
    .ok ((a == a' && b == b') && (c == c' && d == d') && (e == e' && f == f')) w := by
  obtain ⟨i0, hi, -⟩ := info_parts infoRg
  rw [run_equalIn_array (P := Try.prog) (w := w) 9999 (t := 61) (e := 54) (n := 3) (i := i0) _ _ Try.underlying61 hi]
  have hc : Try.prog.cellsOf 54 = 2 := by kernel_rfl
  have h1 := eq_rangeF 9997 a b a' b' w
  have h2 := eq_rangeF 9997 c d c' d' w
  have h3 := eq_rangeF 9997 e f e' f' w
  rw [hc, show List.range 3 = [0, 1, 2] from rfl]
  cases hx : (a == a' && b == b') <;> cases hy : (c == c' && d == d') <;> cases hz : (e == e' && f == f') <;> rw [hx] at h1 <;> rw [hy] at h2 <;> rw [hz] at h3 <;>
    simp [Op.eqItems, Sem.run_bind, go_sem, h1, h2, h3, Try.isAgg54, Result.andThen]

set_option maxRecDepth 100000 in
theorem Pass_any (w : World) : Calls Try.prog 30 #[] w fun e w' => ∃ v, e = .returned v ∧ Below w.heap.size w w' ∧ OV w' v ⟨#[112]⟩ 2 passL := by
  go_enter Try.func30, Try.ntmps30
  go_wp2_with fail
  obtain ⟨W1, hW1⟩ : ∃ W1, W1 = (w.alloc (.cells #[.string { data := #[112] }, .int .i64 2, .slice (some ⟨w.heap.size + 1, 0, none⟩) 2 2] 24)).alloc (.cells #[.int .i64 0, .int .i64 0, .int .i64 0, .int .i64 100, .int .i64 1, .int .i64 10, .int .i64 50, .int .i64 20, .int .i64 100, .int .i64 3] 45) := ⟨_, rfl⟩
  rw [← hW1]
  have HB : Below w.heap.size w W1 := by rw [hW1]; (repeat (first | with_reducible exact Below.refl _ _ | with_reducible refine alloc1 ?_ _ | with_reducible refine Below.drew ?_ | with_reducible refine drewN1 ?_ _ | with_reducible refine setC ?_ (by omega) _))
  have H0 : W1.heap[w.heap.size]? = some (.cells #[.string { data := #[112] }, .int .i64 2, .slice (some ⟨w.heap.size + 1, 0, none⟩) 2 2] 24 (0, 0)) := by rw [hW1]; (repeat (first | ((with_reducible refine hnew ?_); (simp; done)) | with_reducible refine hdrew ?_ | with_reducible refine hold ?_))
  have H1 : W1.heap[w.heap.size + 1]? = some (.cells #[.int .i64 0, .int .i64 0, .int .i64 0, .int .i64 100, .int .i64 1, .int .i64 10, .int .i64 50, .int .i64 20, .int .i64 100, .int .i64 3] 45 (0, 0)) := by rw [hW1]; (repeat (first | ((with_reducible refine hnew ?_); (simp; done)) | with_reducible refine hdrew ?_ | with_reducible refine hold ?_))
  clear hW1
  obtain ⟨k0, k1, k2⟩ := cells3 H0
  refine bodyPost_ret (v := .agg #[.string { data := #[112] }, .int .i64 2, .slice (some ⟨w.heap.size + 1, 0, none⟩) 2 2]) (by simp [results, Try.results30, go_sem, k0, k1, k2]) rfl ⟨_, rfl, HB, ⟨⟨_, 2, rfl, by decide, by decide, fun _ => ⟨_, 0, rfl, ?_⟩⟩, ?_⟩⟩
  · intro k hk
    have hk2 : k = 0 ∨ k = 1 := by have h3 : passL.length = 2 := rfl; omega
    rcases hk2 with rfl | rfl <;> refine ⟨?_, ?_, ?_, ?_, ?_⟩ <;> rw [cell_of_row _ _ _ _ _ _ H1] <;> rfl
  · intro a c n cap h
    simp at h

/-- what awake asks of the program's answers -/
theorem values : tkE (nameE ⟨#[112]⟩) 2 passL 3 = 0 ∧ loC 2 passL 3 0 = 11 ∧ hiC 2 passL 3 0 = 19 ∧ loC 2 passL 3 1 = 2 ∧ hiC 2 passL 3 1 = 10 ∧ loC 2 passL 3 2 = 96 ∧ hiC 2 passL 3 2 = 104 ∧
    plE (nameE ⟨#[112]⟩) 2 passL 3 15 6 0 = 0 ∧ sqLo (loC 2 passL 3) (hiC 2 passL 3) (cc3 15 6 0) 3 = 9216 ∧ sqHi (loC 2 passL 3) (hiC 2 passL 3) (cc3 15 6 0) 3 = 10848 ∧
    opE (nameE ⟨#[112]⟩) 2 passL 30 12 0 = 0 ∧ nearest passL 30 12 0 = (6, 10000) ∧ psE (nameE ⟨#[112]⟩) 2 passL 30 12 0 101 = 0 ∧ passTo passL 30 12 0 (101 * 101) (ticksOf (fst passL) (nTicks passL)) = [(4, 8)] := by
  decide +kernel

set_option maxRecDepth 100000 in
set_option maxHeartbeats 8000000 in
/-- THE EXAMPLES ARE SO -/
theorem awake_any (w : World) : Calls Try.prog 6 #[] w fun e w' => e = .returned (.bool true) ∧ Below w.heap.size w w' := by
  have hI : ∀ k, (gt passL k).t ≤ 9223372036854775807 := by
    intro k
    match k with
    | 0 => decide
    | 1 => decide
    | k + 2 => exact (by decide : (0 : Int) ≤ 9223372036854775807)
  have hs : (⟨#[112]⟩ : ByteArray).size ≤ 1000 := by decide
  have hn : passL.length ≤ 1000 := by decide
  have CP := Lib.hid Pass_any
  obtain ⟨t0, b0, b1, b2, b3, b4, b5, p0, s0, s1, o0, n0, q0, q1⟩ := values
  have CB := Lib.hid (fun v W hv => BoxAt_any v ⟨#[112]⟩ hs 2 passL hn hI 3 W hv)
  have CS := Lib.hid (fun v W hv => SquareAt_any v ⟨#[112]⟩ hs 2 passL hn hI 3 15 6 0 W hv)
  have CN := Lib.hid (fun v W hv => Nearest_any v ⟨#[112]⟩ hs 2 passL hI 30 12 0 W hv)
  have CL := Lib.hid (fun v W hv => Passes_any v ⟨#[112]⟩ hs 2 passL hI 30 12 0 101 W hv)
  rw [t0] at CB
  rw [p0] at CS
  rw [o0] at CN
  rw [q0, q1] at CL
  simp only [zif, if_true, b0, b1, b2, b3, b4, b5] at CB
  simp only [zif, if_true, s0, s1] at CS
  simp only [zif, if_true, n0] at CN
  clear t0 b0 b1 b2 b3 b4 b5 p0 s0 s1 o0 n0 q0 q1 hI hs hn
  generalize passL = L at *
  generalize (⟨#[112]⟩ : ByteArray) = nm at *
  go_enter Try.func6, Try.ntmps6
  go_wp2_with fail
  refine (CP.out _).mono ?_
  rintro e w1 ⟨v1, rfl, hb1, hv1⟩
  have HB1 := Lib.hid hb1
  clear hb1
  go_wp2_with fail
  refine (CB.out _ _ hv1).mono ?_
  rintro e w2 ⟨rfl, hb2⟩
  have HB2 := Lib.hid (trans' HB1.out hb2)
  clear hb2 hv1
  go_wp2_with fail
  obtain ⟨W2, hW2⟩ : ∃ W2, W2 = w2.alloc (.cells #[.int .i64 11, .int .i64 19, .int .i64 2, .int .i64 10, .int .i64 96, .int .i64 104] 61) := ⟨_, rfl⟩
  rw [← hW2]
  have hb := new_below w2 (.cells #[.int .i64 11, .int .i64 19, .int .i64 2, .int .i64 10, .int .i64 96, .int .i64 104] 61)
  rw [← hW2] at hb
  have HB2' := Lib.hid (trans' HB2.out hb)
  have HX2 := Lib.hid (show W2.heap[w2.heap.size]? = some (.cells #[.int .i64 11, .int .i64 19, .int .i64 2, .int .i64 10, .int .i64 96, .int .i64 104] 61 (0, 0)) by rw [hW2]; exact heap_alloc_new _ _)
  clear hW2 hb HB1 HB2
  refine (CP.out _).mono ?_
  rintro e w3 ⟨v3, rfl, hb3, hv3⟩
  have HB3 := Lib.hid (trans' HB2'.out hb3)
  have HX3 := Lib.hid (keepb hb3 HX2.out)
  clear hb3 HX2 HB2'
  go_wp2_with fail
  refine (CS.out _ _ hv3).mono ?_
  rintro e w4 ⟨rfl, hb4⟩
  have HB4 := Lib.hid (trans' HB3.out hb4)
  have HX4 := Lib.hid (keepb hb4 HX3.out)
  clear hb4 hv3 HB3 HX3
  go_wp2_with fail
  obtain ⟨W4, hW4⟩ : ∃ W4, W4 = w4.alloc (.cells #[.int .i64 9216, .int .i64 10848] 54) := ⟨_, rfl⟩
  rw [← hW4]
  have hb := new_below w4 (.cells #[.int .i64 9216, .int .i64 10848] 54)
  rw [← hW4] at hb
  have HB4' := Lib.hid (trans' HB4.out hb)
  have HX4' := Lib.hid (keepb hb HX4.out)
  have HY4 := Lib.hid (show W4.heap[w4.heap.size]? = some (.cells #[.int .i64 9216, .int .i64 10848] 54 (0, 0)) by rw [hW4]; exact heap_alloc_new _ _)
  clear hW4 hb HB4 HX4
  refine (CP.out _).mono ?_
  rintro e w5 ⟨v5, rfl, hb5, hv5⟩
  have HB5 := Lib.hid (trans' HB4'.out hb5)
  have HX5 := Lib.hid (keepb hb5 HX4'.out)
  have HY5 := Lib.hid (keepb hb5 HY4.out)
  clear hb5 HX4' HB4' HY4
  go_wp2_with fail
  refine (CN.out _ _ hv5).mono ?_
  rintro e w6 ⟨rfl, hb6⟩
  have HB6 := Lib.hid (trans' HB5.out hb6)
  have HX6 := Lib.hid (keepb hb6 HX5.out)
  have HY6 := Lib.hid (keepb hb6 HY5.out)
  clear hb6 hv5 HB5 HX5 HY5
  go_wp2_with fail
  refine (CP.out _).mono ?_
  rintro e w7 ⟨v7, rfl, hb7, hv7⟩
  have HB7 := Lib.hid (trans' HB6.out hb7)
  have HX7 := Lib.hid (keepb hb7 HX6.out)
  have HY7 := Lib.hid (keepb hb7 HY6.out)
  clear hb7 HX6 HB6 HY6
  go_wp2_with fail
  refine (CL.out _ _ hv7).mono ?_
  rintro e w8 ⟨v8, rfl, hb8, ho8⟩
  have ho8' : w8.ownsRow w7.heap.size 54 2 v8 ([(4, 8)] : List (Int × Int)).length (rvI [(4, 8)]) := by
    rcases ho8 with ⟨-, h⟩ | ⟨h, -⟩
    · exact h
    · exact absurd rfl h
  have HR8 := Lib.hid (Rgs.of_owns ho8')
  have HB8 := Lib.hid (trans' HB7.out hb8)
  have hX8 := keepb hb8 HX7.out
  have hY8 := keepb hb8 HY7.out
  clear hb8 hv7 HB7 HX7 HY7 ho8 ho8'
  have x0 : w8.cell? ⟨w2.heap.size, 0, none⟩ = some (.int .i64 11) := by rw [cell_of_row _ _ _ _ _ _ hX8]; rfl
  have x1 : w8.cell? ⟨w2.heap.size, 1, none⟩ = some (.int .i64 19) := by rw [cell_of_row _ _ _ _ _ _ hX8]; rfl
  have x2 : w8.cell? ⟨w2.heap.size, 2, none⟩ = some (.int .i64 2) := by rw [cell_of_row _ _ _ _ _ _ hX8]; rfl
  have x3 : w8.cell? ⟨w2.heap.size, 3, none⟩ = some (.int .i64 10) := by rw [cell_of_row _ _ _ _ _ _ hX8]; rfl
  have x4 : w8.cell? ⟨w2.heap.size, 4, none⟩ = some (.int .i64 96) := by rw [cell_of_row _ _ _ _ _ _ hX8]; rfl
  have x5 : w8.cell? ⟨w2.heap.size, 5, none⟩ = some (.int .i64 104) := by rw [cell_of_row _ _ _ _ _ _ hX8]; rfl
  have y0 : w8.cell? ⟨w4.heap.size, 0, none⟩ = some (.int .i64 9216) := by rw [cell_of_row _ _ _ _ _ _ hY8]; rfl
  have y1 : w8.cell? ⟨w4.heap.size, 1, none⟩ = some (.int .i64 10848) := by rw [cell_of_row _ _ _ _ _ _ hY8]; rfl
  clear hX8 hY8
  have hE1 := eq_range
  have hE2 := eq_box
  have hG1 := guard_range
  have hG2 : Try.prog.eqGuardType Try.prog.depth 61 = false := by kernel_rfl
  go_wp2_with fail
  have hb := new_below w8 (.cells #[.int .i64 4, .int .i64 8] 54)
  have h8 : (w8.alloc (.cells #[.int .i64 4, .int .i64 8] 54)).heap[w8.heap.size]? = some (.cells #[.int .i64 4, .int .i64 8] 54 (0, 0)) := heap_alloc_new _ _
  refine (Ranges_true v8 _ [(4, 8)] _ (by decide) (HR8.out.below hb) ⟨⟨_, 1, rfl, .inr ⟨_, 0, rfl, lt_of_block h8, fun j x hx => ?_⟩⟩⟩).mono ?_
  · rw [Nat.zero_add, cell_of_row _ _ _ _ _ _ h8]
    simpa [rvI] using hx
  rintro e w9 ⟨rfl, q, rfl⟩
  go_wp2_with fail
  go_ret
  exact ⟨rfl, drewN1 (trans' HB8.out hb) q⟩
end Go.Proofs.Ytmbolmmcfnfamaa.Orb
