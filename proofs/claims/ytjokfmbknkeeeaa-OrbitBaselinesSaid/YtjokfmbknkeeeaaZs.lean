/-
  The law OrbitBaselines returns true for all its arguments, in every world.
-/
import Derived.Test.YtjokfmbknkeeeaaZq
import Derived.Test.YtjokfmbknkeeeaaSx
namespace Go.Proofs.Ytjokfmbknkeeeaa.Orb
open Go.ChangeShapes Go.WideShapes Go.ChangeAt Go.RowKit

section
variable {H : Type} {enc : TypeId × Value → H} {W : World} {base base' : Nat} {sp : Nat → Bool} {held : Bool}
theorem cells_o_b : Try.prog.cellsOf 24 = 3 := by kernel_rfl
theorem cells_str_b : Try.prog.cellsOf 9 = 1 := by kernel_rfl
theorem cells_sl_b : Try.prog.cellsOf 22 = 1 := by kernel_rfl
set_option maxRecDepth 100000 in
theorem states_of_b (nm : ByteArray) (bend : Int) {n : Nat} {v2 : Value} {y2 : DataW H × List MemPlace} (h2 : DataW.trod enc Try.prog W base sp held n 22 [v2] = some y2) :
    ∃ L, OV W (.agg #[.string nm, .int .i64 bend, v2]) nm bend L ∧ ∀ k, (gt L k).t ≤ 9223372036854775807 := by
  rcases Deep.open_slice Try.underlying22 h2 with ⟨hc, -⟩ | ⟨a, len, cap, m, n', D, Pl, hc, -, hl, hm, hmm, -, hx⟩
  · obtain rfl : v2 = .slice none 0 0 := by simpa using hc
    refine ⟨[], ⟨⟨none, 0, rfl, Nat.zero_le _, by decide, fun h => absurd h (by decide)⟩, fun a c n cap e => ?_⟩, fun k => (by decide : (0 : Int) ≤ 9223372036854775807)⟩
    simp at e
    omega
  · obtain rfl : v2 = .slice (some a) len cap := by simpa using hc
    rw [cells_s] at hx
    have hlm : len ≤ m := by rw [hmm]; split <;> omega
    obtain ⟨S, hS⟩ := Deep.choose_lt (α := St) (n := len) (p := fun i s => (∀ j u, ([.int .i64 s.t, .int .i64 s.x, .int .i64 s.y, .int .i64 s.z, .int .i64 s.e] : List Value)[j]? = some u → W.cell? (a.add (i * 5 + j)) = some u) ∧ s.t ≤ 9223372036854775807) (fun i hi => by
      obtain ⟨cs', g1, g2⟩ := hx i (by omega)
      obtain ⟨s, rfl, hs⟩ := state_of g2
      obtain ⟨-, -, g3⟩ := World.cells?_some g1
      refine ⟨s, fun j u hu => ?_, hs⟩
      have hj : j < 5 := by
        rcases Nat.lt_or_ge j 5 with h | h
        · exact h
        · rw [List.getElem?_eq_none (by simpa using h)] at hu; cases hu
      rw [← Addr.add_add, g3 j hj, hu])
    have hg : ∀ k, k < len → gt ((List.range len).map S) k = S k := fun k hk => by
      unfold gt
      rw [List.getD_eq_getElem?_getD, List.getElem?_map, List.getElem?_range hk]; rfl
    have hm2 : cap ≤ 9223372036854775807 := hm
    refine ⟨(List.range len).map S, ⟨⟨some a, cap, by simp, by simpa using hl, hm2, fun h0 => ?_⟩, fun a c n cap e => by simp at e⟩, fun k => ?_⟩
    · have h0 : 0 < len := by simpa using h0
      obtain ⟨b, off, spot⟩ := a
      have hspot : spot = none := by simpa [Addr.add] using World.cell?_spot ((hS 0 h0).1 0 _ rfl)
      subst hspot
      refine ⟨b, off, rfl, fun k hk => ?_⟩
      have hk : k < len := by simpa using hk
      rw [hg k hk]
      have h := (hS k hk).1
      simp only [add_none] at h
      exact ⟨h 0 _ rfl, h 1 _ rfl, h 2 _ rfl, h 3 _ rfl, h 4 _ rfl⟩
    · rcases Nat.lt_or_ge k len with hk | hk
      · rw [hg k hk]; exact (hS k hk).2
      · unfold gt
        rw [List.getD_eq_getElem?_getD, List.getElem?_eq_none (by simpa using hk)]
        exact (by decide : (0 : Int) ≤ 9223372036854775807)

theorem cells_pr : Try.prog.cellsOf 26 = 6 := by kernel_rfl
theorem cells_bs : Try.prog.cellsOf 30 = 5 := by kernel_rfl
theorem cells_pl : Try.prog.cellsOf 28 = 3 := by kernel_rfl
set_option maxRecDepth 100000 in
/-- a pair of orbits, from the outside -/
theorem got_pair {v : Value} {d : DataW H} {p : List MemPlace} (hval : Value.okWide Try.prog W .any base' 26 v) (h : DataW.Trod enc Try.prog W base sp held 26 v d p) :
    ∃ n1 b1 L1 u1 n2 b2 L2 u2, v = .agg #[.string n1, .int .i64 b1, u1, .string n2, .int .i64 b2, u2] ∧ (OV W (.agg #[.string n1, .int .i64 b1, u1]) n1 b1 L1 ∧ (∀ k, (gt L1 k).t ≤ 9223372036854775807)) ∧ OV W (.agg #[.string n2, .int .i64 b2, u2]) n2 b2 L2 ∧ ∀ k, (gt L2 k).t ≤ 9223372036854775807 := by
  obtain ⟨cs, rfl, hsz⟩ := okWide_struct Try.underlying26 hval
  rw [cells_pr] at hsz
  obtain ⟨fuel, hf⟩ := h
  obtain ⟨y0, y1, n, hx, hl, g0, g1⟩ := trod_struct2 Try.underlying26 hf
  obtain ⟨l⟩ := cs
  match l, hsz with
  | [c0, c1, c2, c3, c4, c5], _ =>
    have hcs : (Value.agg { toList := [c0, c1, c2, c3, c4, c5] }).cells.toList = [c0, c1, c2, c3, c4, c5] := rfl
    rw [hcs] at g0 g1
    simp only [cells_o_b] at g0 g1
    obtain ⟨z0, z1, z2, n', -, -, q0, q1, q2⟩ := Deep.trod_struct3 Try.underlying24 g0
    obtain ⟨x0, x1, x2, n'', -, -, r0, r1, r2⟩ := Deep.trod_struct3 Try.underlying24 g1
    simp only [cells_str_b, cells_sl_b, cells_i] at q0 q1 q2 r0 r1 r2
    obtain ⟨nm, hn, -, -⟩ := DataW.trod_string Try.underlying9 q0
    obtain rfl : c0 = .string nm := by simpa using hn
    obtain ⟨bend, hbn, -, -⟩ := DataW.trod_int Try.underlying3 q1
    obtain rfl : c1 = .int .i64 bend := by simpa using hbn
    have q2' : DataW.trod enc Try.prog W base sp held n' 22 [c2] = some z2 := by simpa using q2
    obtain ⟨L, hO, hI⟩ := states_of_b nm bend q2'
    obtain ⟨nm2, hn2, -, -⟩ := DataW.trod_string Try.underlying9 r0
    obtain rfl : c3 = .string nm2 := by simpa using hn2
    obtain ⟨bend2, hbn2, -, -⟩ := DataW.trod_int Try.underlying3 r1
    obtain rfl : c4 = .int .i64 bend2 := by simpa using hbn2
    have r2' : DataW.trod enc Try.prog W base sp held n'' 22 [c5] = some x2 := by simpa using r2
    obtain ⟨L2, hO2, hI2⟩ := states_of_b nm2 bend2 r2'
    exact ⟨nm, bend, L, c2, nm2, bend2, L2, c5, rfl, ⟨hO, hI⟩, hO2, hI2⟩
set_option maxRecDepth 100000 in
/-- two ticks and a place, from the outside -/
theorem got_base {v : Value} {d : DataW H} {p : List MemPlace} (hval : Value.okWide Try.prog W .any base' 30 v) (h : DataW.Trod enc Try.prog W base sp held 30 v d p) :
    ∃ f s x y z : Int, v = .agg #[.int .i64 f, .int .i64 s, .int .i64 x, .int .i64 y, .int .i64 z] := by
  obtain ⟨cs, rfl, hsz⟩ := okWide_struct Try.underlying30 hval
  rw [cells_bs] at hsz
  obtain ⟨fuel, hf⟩ := h
  obtain ⟨y0, y1, y2, n, -, -, g0, g1, g2⟩ := Deep.trod_struct3 Try.underlying30 hf
  obtain ⟨l⟩ := cs
  match l, hsz with
  | [c0, c1, c2, c3, c4], _ =>
    have hcs : (Value.agg { toList := [c0, c1, c2, c3, c4] }).cells.toList = [c0, c1, c2, c3, c4] := rfl
    rw [hcs] at g0 g1 g2
    simp only [cells_i, cells_pl] at g0 g1 g2
    obtain ⟨z0, z1, z2, n', -, -, q0, q1, q2⟩ := Deep.trod_struct3 Try.underlying28 g2
    simp only [cells_i] at q0 q1 q2
    obtain ⟨x1, e1, -, -⟩ := DataW.trod_int Try.underlying3 g0
    obtain ⟨x2, e2, -, -⟩ := DataW.trod_int Try.underlying3 g1
    obtain ⟨x3, e3, -, -⟩ := DataW.trod_int Try.underlying3 q0
    obtain ⟨x4, e4, -, -⟩ := DataW.trod_int Try.underlying3 q1
    obtain ⟨x5, e5, -, -⟩ := DataW.trod_int Try.underlying3 q2
    simp at e1 e2 e3 e4 e5
    exact ⟨x1, x2, x3, x4, x5, by rw [e1, e2, e3, e4, e5]⟩
end
end Go.Proofs.Ytjokfmbknkeeeaa.Orb
namespace Go.Proofs.Ytjokfmbknkeeeaa.Orb
open Go.ChangeShapes Go.WideShapes Go.ChangeAt Go.RowKit

set_option maxRecDepth 100000 in
theorem baselines_contract (H : Type) (enc : TypeId × Value → H) (W : World) (base : Nat) (args : Array Value) (ds gs : List (DataW H)) (before : List MemPlace)
    (hval : ∀ (j : Nat) t v, Try.f3.params[j]? = some t → args[j]? = some v → Value.okWide Try.prog W .any base t v)
    (hW : DataW.Whole enc Try.prog Try.f3.params.toList Rows.orbitBaselinesSpec.vars false W args.toList ds gs before) :
    Calls Try.prog 3 args W fun e W' => ∃ v, e = .returned v ∧ Rows.orbitBaselinesSpec.post enc Try.prog Try.f3 false true false false W args v W' := by
  have hW' := hW
  obtain ⟨p, q, hA0, hV, rfl, hfz, hnd⟩ := hW
  have hA : DataW.TrodAll enc Try.prog W 0 (fun _ => true) true Try.f3.params.toList args.toList ds p := hA0
  rw [Try.params3] at hA hval
  obtain ⟨v0, vs0, d0, ds0, p0, q0, hargs0, rfl, rfl, h0, r0⟩ := trodAll_cons hA
  obtain ⟨v1, vs1, d1, ds1, p1, q1, hargs1, rfl, rfl, h1, r1⟩ := trodAll_cons r0
  obtain ⟨rfl, rfl, rfl⟩ := trodAll_nil r1
  obtain rfl : args = #[v0, v1] := by cases args; simp_all
  obtain ⟨rfl, rfl⟩ := trodVars_none hV
  clear hA0
  obtain ⟨n1, b1, L1, u1, n2, b2, L2, u2, rfl, ⟨hv0a, hI0a⟩, hv0b, hI0b⟩ := got_pair (hval 0 26 v0 rfl rfl) h0
  obtain ⟨f, s, x, y, z, rfl⟩ := got_base (hval 1 30 v1 rfl rfl) h1
  refine (baselines_any u1 u2 n1 n2 b1 b2 L1 L2 hI0a hI0b f s x y z W hv0a hv0b).mono fun e W' ⟨he, hb⟩ => ?_
  subst he
  exact ⟨_, rfl, law_post (tys_ok' (by kernel_rfl)) rfl (by kernel_rfl) ⟨rfl, rfl, rfl⟩ hW' hb⟩

theorem baselines_reads (os : Os) {H : Type} (enc : TypeId × Value → H) : ∃ places, DataW.whole enc Try.prog ((World.holding Try.prog os ⟨#[], #[], []⟩).forCall (fun _ _ => 0) ⟨#[], #[.agg #[.string ⟨#[]⟩, .int .i64 0, .slice none 0 0, .string ⟨#[]⟩, .int .i64 0, .slice none 0 0], .agg #[.int .i64 0, .int .i64 0, .int .i64 0, .int .i64 0, .int .i64 0]], []⟩).memory Try.f3.params.toList Rows.orbitBaselinesSpec.vars false (#[.agg #[.string ⟨#[]⟩, .int .i64 0, .slice none 0 0, .string ⟨#[]⟩, .int .i64 0, .slice none 0 0], .agg #[.int .i64 0, .int .i64 0, .int .i64 0, .int .i64 0, .int .i64 0]] : Array Value).toList 8 = some ([.agg [.agg [.lit (.string []), .lit (.int .i64 0), .nil], .agg [.lit (.string []), .lit (.int .i64 0), .nil]], .agg [.lit (.int .i64 0), .lit (.int .i64 0), .agg [.lit (.int .i64 0), .lit (.int .i64 0), .lit (.int .i64 0)]]], [], places) :=
  ⟨[], by kernel_rfl⟩

set_option maxRecDepth 100000 in
theorem baselines_lifted (os : Os) (started : os.Started) (H : Type) (enc : TypeId × Value → H) (F : Stop.Interp) :
    ReturnsInHanded {} Try.checked os 3 .any ((OpenSpec.ofChange Rows.orbitBaselinesSpec).preRow enc Try.prog Try.f3 Rows.orbitBaselinesRow.domain false Rows.orbitBaselinesRow.laid) (((OpenSpec.ofChange Rows.orbitBaselinesSpec).at F).post enc Try.prog Try.f3 false true false false) := by
  obtain ⟨places, hx⟩ := baselines_reads os enc
  refine returnsInHanded_of_row (C := Try.checked) (s := OpenSpec.ofChange Rows.orbitBaselinesSpec) own_knob started (by kernel_rfl) Try.func3
    (witness_row_at (enc := enc) (C := Try.checked) false (World.holding Try.prog os ⟨#[], #[], []⟩) #[.agg #[.string ⟨#[]⟩, .int .i64 0, .slice none 0 0, .string ⟨#[]⟩, .int .i64 0, .slice none 0 0], .agg #[.int .i64 0, .int .i64 0, .int .i64 0, .int .i64 0, .int .i64 0]] rfl (by kernel_rfl) (by kernel_rfl) (by kernel_rfl)
      (OpenSpec.preRow_of_cond 8 hx (by kernel_rfl) (fun k hk => by cases hk) (by kernel_rfl) (laidMet_of_run' 8 (by kernel_rfl) (by kernel_rfl)))) ?_
  intro W base args ds gs before hval hW _ _ hsz hL _ _
  exact baselines_contract H enc W base args ds gs before hval hW

/-- OrbitBaselines returns true for all arguments. -/
theorem baselines_said : Rows.OrbitBaselinesSaid :=
  OpenClaim.holds_of_cond 3 Try.f3 rfl rfl rfl rfl rfl rfl rfl ⟨rfl, rfl, rfl, rfl, rfl⟩ rfl rfl rfl rfl rfl (by kernel_rfl) Try.func3 (by kernel_rfl)
    (of_decide_eq_true (by kernel_rfl)) (by unfold Func.isWrapper; first | (rw [if_pos (by decide +kernel)]; kernel_rfl) | (rw [if_neg (by decide +kernel)]; exact ⟨rfl, rfl⟩))
    (fun os started H enc _ F => by rw [OpenClaim.pre_eq_preRow]; exact baselines_lifted os started H enc F)
end Go.Proofs.Ytjokfmbknkeeeaa.Orb
