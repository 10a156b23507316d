/-
  The law EchoPhases returns true for all complex numbers, in every world that holds the tables which its row lists.
-/
import Derived.Test.YtcjdbhcpcigmdaaDoorWe
import Derived.Test.YtcjdbhcpcigmdaaDoorNl
import Derived.Laws.Cover2
import Derived.Test.YtcjdbhcpcigmdaaDoorCards
import Derived.Test.YtcjdbhcpcigmdaaDoorTie
import Derived.WalkKit
import Derived.ProofKit
import Derived.OpenShut
import Derived.Deep.DeepHandedRow
import Derived.Lib.LaidTab
import Derived.Stop.LaidErr
namespace Go.Proofs.YtcjdbhcpcigmdaaDoor
open Go.ChangeShapes Go.WideShapes Go.ChangeAt Go.RowKit

theorem wf_f64 {b : Nat} (h : (Lit.float .f64 b).wf = true) : b < 2 ^ 64 := by
  have h2 : decide (b < 2 ^ FloatKind.f64.format.width) = true := h
  exact of_decide_eq_true h2

set_option maxRecDepth 100000 in
theorem phases_contract (H : Type) (enc : TypeId × Value → H) (W : World) (base : Nat) (args : Array Value) (ds gs : List (DataW H)) (before : List MemPlace)
    (hval : ∀ (j : Nat) t v, Tryd.f10.params[j]? = some t → args[j]? = some v → Value.okWide Tryd.prog W .any base t v)
    (hW : DataW.Whole enc Tryd.prog Tryd.f10.params.toList Rows.echoPhasesSpec.vars false W args.toList ds gs before) (hL : laidMetH Tryd.prog Rows.echoPhasesRow.laid W) :
    Calls Tryd.prog 10 args W fun e W' => ∃ v, e = .returned v ∧ Rows.echoPhasesSpec.post enc Tryd.prog Tryd.f10 false true false false W args v W' := by
  have hW2 := hW
  obtain ⟨p, q, hA0, hV, rfl, hfz, hnd⟩ := hW
  have hA : DataW.TrodAll enc Tryd.prog W 0 (fun _ => true) true Tryd.f10.params.toList args.toList ds p := hA0
  rw [Tryd.params10] at hA hval
  obtain ⟨v0, vs0, d0, ds0, p0, q0, hargs, rfl, rfl, h0, r0⟩ := trodAll_cons hA
  obtain ⟨v1, vs1, d1, ds1, p1, q1, hargs1, rfl, rfl, h1, r1⟩ := trodAll_cons r0
  obtain ⟨rfl, rfl, rfl⟩ := trodAll_nil r1
  obtain rfl : args = #[v0, v1] := by cases args; simp_all
  obtain ⟨rfl, rfl⟩ := trodVars_none hV
  obtain ⟨x, rfl, rfl, rfl, hwf⟩ := open_float Tryd.underlying86 (hval 0 86 v0 rfl rfl) h0
  obtain ⟨y, rfl, rfl, rfl, hwf1⟩ := open_float Tryd.underlying86 (hval 1 86 v1 rfl rfl) h1
  refine (phases_any x y (wf_f64 hwf) (wf_f64 hwf1) W (tab_of hL)).mono fun e W' ⟨he, hb⟩ => ?_
  subst he
  exact ⟨_, rfl, law_post (tys_ok (by kernel_rfl)) rfl (by kernel_rfl) ⟨rfl, rfl, rfl⟩ hW2 hb⟩

theorem phases_laid_met (os : Os) : laidMet Tryd.prog Rows.echoPhasesRow.laid ((laidWorld os).forCall (fun _ _ => 0) ⟨#[], #[.float .f64 0, .float .f64 0], []⟩).memory :=
  laidMet_of_run' 8 (by kernel_rfl) (by kernel_rfl)
theorem phases_reads (os : Os) {H : Type} (enc : TypeId × Value → H) : ∃ places, DataW.whole enc Tryd.prog ((laidWorld os).forCall (fun _ _ => 0) ⟨#[], #[.float .f64 0, .float .f64 0], []⟩).memory Tryd.f10.params.toList Rows.echoPhasesSpec.vars false #[Value.float .f64 0, Value.float .f64 0].toList 8 = some ([.lit (.float .f64 0), .lit (.float .f64 0)], [], places) :=
  ⟨[], by kernel_rfl⟩

set_option maxRecDepth 100000 in
theorem phases_lifted (os : Os) (started : os.Started) (H : Type) (enc : TypeId × Value → H) (F : Stop.Interp) :
    ReturnsInHanded {} Tryd.checked os 10 .any ((OpenSpec.ofChange Rows.echoPhasesSpec).preRow enc Tryd.prog Tryd.f10 Rows.echoPhasesRow.domain false Rows.echoPhasesRow.laid) (((OpenSpec.ofChange Rows.echoPhasesSpec).at F).post enc Tryd.prog Tryd.f10 false true false false) := by
  obtain ⟨places, hx⟩ := phases_reads os enc
  refine returnsInHanded_of_row (C := Tryd.checked) (s := OpenSpec.ofChange Rows.echoPhasesSpec) own_knob started (by kernel_rfl) Tryd.func10
    (witness_row_at (enc := enc) (C := Tryd.checked) false (laidWorld os) #[.float .f64 0, .float .f64 0] rfl (by kernel_rfl) (by kernel_rfl) (by kernel_rfl)
      (OpenSpec.preRow_of_cond 8 hx (by kernel_rfl) (fun k hk => by cases hk) (by kernel_rfl) (phases_laid_met os))) ?_
  intro W base args ds gs before hval hW _ _ _ hL _ _
  exact phases_contract H enc W base args ds gs before hval hW hL

theorem phases_said : Rows.EchoPhasesSaid :=
  OpenClaim.holds_of_cond 10 Tryd.f10 rfl rfl rfl rfl rfl rfl rfl ⟨rfl, rfl, rfl, rfl, rfl⟩ rfl rfl rfl rfl rfl (by kernel_rfl) Tryd.func10 (by kernel_rfl)
    (of_decide_eq_true (by kernel_rfl)) (by unfold Func.isWrapper; first | (rw [if_pos (by decide +kernel)]; kernel_rfl) | (rw [if_neg (by decide +kernel)]; exact ⟨rfl, rfl⟩))
    (fun os started H enc _ F => by rw [OpenClaim.pre_eq_preRow]; exact phases_lifted os started H enc F)

theorem phases_plain (f : FuncId) (fn : Func) (hf : Tryd.pinned.checked.prog.funcNamed "swath/swathlaw01.EchoPhases" = some f) (hfn : Tryd.pinned.checked.prog.funcs[f]? = some fn) :
    false = Tryd.pinned.checked.prog.looks [] ∧ ∀ (j : Nat) t, fn.params[j]? = some t → Tryd.pinned.checked.prog.wantsStandIn t = false := by
  obtain rfl : f = 10 := Option.some.inj ((show Tryd.prog.funcNamed "swath/swathlaw01.EchoPhases" = some 10 by kernel_rfl).symm.trans hf) |>.symm
  obtain rfl : fn = Tryd.f10 := (Option.some.inj (Tryd.func10.symm.trans hfn)).symm
  refine ⟨by kernel_rfl, fun j t ht => ?_⟩
  rw [Tryd.params10] at ht
  obtain rfl : t = 86 := by simpa using Array.mem_of_getElem? ht
  exact (show Tryd.prog.wantsStandIn 86 = false by kernel_rfl)

/-- EchoPhases returns true for all complex numbers. -/
theorem phases_card : Rows.EchoPhasesCardSaid :=
  Claim7.holds_tied_plain_at .later [] _ _ _ _ phases_said (fun _ h => by cases h) (by kernel_rfl) (fun _ h => by cases h) echoPhases_row_tie rfl ⟨rfl, rfl⟩ (by kernel_rfl) rfl phases_plain (by kernel_rfl)
end Go.Proofs.YtcjdbhcpcigmdaaDoor
