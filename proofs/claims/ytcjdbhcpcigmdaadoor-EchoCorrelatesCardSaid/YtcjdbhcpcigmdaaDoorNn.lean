/-
  The law EchoCorrelates returns true for all pairs of lists of numbers, in every world that holds the tables which its row lists.
-/
import Derived.Test.YtcjdbhcpcigmdaaDoorNm
namespace Go.Proofs.YtcjdbhcpcigmdaaDoor
open Go.ChangeShapes Go.WideShapes Go.ChangeAt Go.RowKit

set_option maxRecDepth 100000 in
theorem correlates_contract (H : Type) (enc : TypeId × Value → H) (W : World) (base : Nat) (args : Array Value) (ds gs : List (DataW H)) (before : List MemPlace)
    (hval : ∀ (j : Nat) t v, Tryd.f8.params[j]? = some t → args[j]? = some v → Value.okWide Tryd.prog W .any base t v)
    (hW : DataW.Whole enc Tryd.prog Tryd.f8.params.toList Rows.echoCorrelatesSpec.vars false W args.toList ds gs before) (hL : laidMetH Tryd.prog Rows.echoCorrelatesRow.laid W)
    (hsz : (DataW.weightsEach Tryd.prog (Tryd.f8.params.toList ++ DataSpec.varTypes Tryd.prog (OpenSpec.ofChange Rows.echoCorrelatesSpec).bare.plain) (ds ++ gs)).all (· ≤ reachBytes) = true) :
    Calls Tryd.prog 8 args W fun e W' => ∃ v, e = .returned v ∧ Rows.echoCorrelatesSpec.post enc Tryd.prog Tryd.f8 false true false false W args v W' := by
  have hW' := hW
  obtain ⟨p, q, hA0, hV, rfl, hfz, hnd⟩ := hW
  have hA : DataW.TrodAll enc Tryd.prog W 0 (fun _ => true) true Tryd.f8.params.toList args.toList ds p := hA0
  rw [Tryd.params8] at hA hval hsz
  obtain ⟨v0, vs0, d0, ds0, p0, q0, hargs, rfl, rfl, h0, r0⟩ := trodAll_cons hA
  obtain ⟨v1, vs1, d1, ds1, p1, q1, hargs1, rfl, rfl, h1, r1⟩ := trodAll_cons r0
  obtain ⟨rfl, rfl, rfl⟩ := trodAll_nil r1
  obtain rfl : args = #[v0, v1] := by cases args; simp_all
  obtain ⟨rfl, rfl⟩ := trodVars_none hV
  clear hA0
  simp only [List.append_nil] at hsz
  obtain ⟨xs, hg⟩ := got_ints (hval 0 73 v0 rfl rfl) h0 (fun es sp hd => by
    have := sized_slice hsz (j := 0) (t := 73) (e := 3) rfl (by rw [hd]; rfl) Tryd.underlying73
    rwa [bytes_int] at this)
  obtain ⟨ys, hg1⟩ := got_ints (hval 1 73 v1 rfl rfl) h1 (fun es sp hd => by
    have := sized_slice hsz (j := 1) (t := 73) (e := 3) rfl (by rw [hd]; rfl) Tryd.underlying73
    rwa [bytes_int] at this)
  refine (correlates_any v0 v1 xs ys W hg hg1 (tab_of hL)).mono fun e W' ⟨he, hb⟩ => ?_
  subst he
  exact ⟨_, rfl, law_post (tys_ok (by kernel_rfl)) rfl (by kernel_rfl) ⟨rfl, rfl, rfl⟩ hW' hb⟩

theorem correlates_laid_met (os : Os) : laidMet Tryd.prog Rows.echoCorrelatesRow.laid ((laidWorld os).forCall (fun _ _ => 0) ⟨#[], #[.slice none 0 0, .slice none 0 0], []⟩).memory :=
  laidMet_of_run' 8 (by kernel_rfl) (by kernel_rfl)
theorem correlates_reads (os : Os) {H : Type} (enc : TypeId × Value → H) : ∃ places, DataW.whole enc Tryd.prog ((laidWorld os).forCall (fun _ _ => 0) ⟨#[], #[.slice none 0 0, .slice none 0 0], []⟩).memory Tryd.f8.params.toList Rows.echoCorrelatesSpec.vars false #[Value.slice none 0 0, Value.slice none 0 0].toList 8 = some ([.nil, .nil], [], places) :=
  ⟨[], by kernel_rfl⟩

set_option maxRecDepth 100000 in
theorem correlates_lifted (os : Os) (started : os.Started) (H : Type) (enc : TypeId × Value → H) (F : Stop.Interp) :
    ReturnsInHanded {} Tryd.checked os 8 .any ((OpenSpec.ofChange Rows.echoCorrelatesSpec).preRow enc Tryd.prog Tryd.f8 Rows.echoCorrelatesRow.domain false Rows.echoCorrelatesRow.laid) (((OpenSpec.ofChange Rows.echoCorrelatesSpec).at F).post enc Tryd.prog Tryd.f8 false true false false) := by
  obtain ⟨places, hx⟩ := correlates_reads os enc
  refine returnsInHanded_of_row (C := Tryd.checked) (s := OpenSpec.ofChange Rows.echoCorrelatesSpec) own_knob started (by kernel_rfl) Tryd.func8
    (witness_row_at (enc := enc) (C := Tryd.checked) false (laidWorld os) #[.slice none 0 0, .slice none 0 0] rfl (by kernel_rfl) (by kernel_rfl) (by kernel_rfl)
      (OpenSpec.preRow_of_cond 8 hx (by kernel_rfl) (fun k hk => by cases hk) (by kernel_rfl) (correlates_laid_met os))) ?_
  intro W base args ds gs before hval hW _ _ hsz hL _ _
  exact correlates_contract H enc W base args ds gs before hval hW hL hsz

theorem correlates_said : Rows.EchoCorrelatesSaid :=
  OpenClaim.holds_of_cond 8 Tryd.f8 rfl rfl rfl rfl rfl rfl rfl ⟨rfl, rfl, rfl, rfl, rfl⟩ rfl rfl rfl rfl rfl (by kernel_rfl) Tryd.func8 (by kernel_rfl)
    (of_decide_eq_true (by kernel_rfl)) (by unfold Func.isWrapper; first | (rw [if_pos (by decide +kernel)]; kernel_rfl) | (rw [if_neg (by decide +kernel)]; exact ⟨rfl, rfl⟩))
    (fun os started H enc _ F => by rw [OpenClaim.pre_eq_preRow]; exact correlates_lifted os started H enc F)

theorem correlates_plain (f : FuncId) (fn : Func) (hf : Tryd.pinned.checked.prog.funcNamed "swath/swathlaw01.EchoCorrelates" = some f) (hfn : Tryd.pinned.checked.prog.funcs[f]? = some fn) :
    false = Tryd.pinned.checked.prog.looks [] ∧ ∀ (j : Nat) t, fn.params[j]? = some t → Tryd.pinned.checked.prog.wantsStandIn t = false := by
  obtain rfl : f = 8 := Option.some.inj ((show Tryd.prog.funcNamed "swath/swathlaw01.EchoCorrelates" = some 8 by kernel_rfl).symm.trans hf) |>.symm
  obtain rfl : fn = Tryd.f8 := (Option.some.inj (Tryd.func8.symm.trans hfn)).symm
  refine ⟨by kernel_rfl, fun j t ht => ?_⟩
  rw [Tryd.params8] at ht
  obtain rfl : t = 73 := by simpa using Array.mem_of_getElem? ht
  exact (show Tryd.prog.wantsStandIn 73 = false by kernel_rfl)

/-- EchoCorrelates returns true for all pairs of lists of numbers. -/
theorem correlates_card : Rows.EchoCorrelatesCardSaid :=
  Claim7.holds_tied_plain_at .later [] _ _ _ _ correlates_said (fun _ h => by cases h) (by kernel_rfl) (fun _ h => by cases h) echoCorrelates_row_tie rfl ⟨rfl, rfl⟩ (by kernel_rfl) rfl correlates_plain (by kernel_rfl)
end Go.Proofs.YtcjdbhcpcigmdaaDoor
