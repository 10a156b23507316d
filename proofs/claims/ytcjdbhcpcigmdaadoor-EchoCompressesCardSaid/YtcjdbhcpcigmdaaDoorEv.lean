import Derived.Test.YtcjdbhcpcigmdaaDoorEp
import Derived.Test.YtcjdbhcpcigmdaaDoorCards
import Derived.Test.YtcjdbhcpcigmdaaDoorTie
import Derived.WalkKit
import Derived.ProofKit
import Derived.OpenShut
import Derived.Deep.DeepHandedRow
import Derived.Lib.LaidTab
import Derived.Stop.LaidErr
namespace Go.Proofs.YtcjdbhcpcigmdaaDoor
open Go.ChangeShapes Go.WideShapes Go.ChangeAt Go.RowKit

theorem own_knob : ownKnob Tryd.prog.godebug = none := by kernel_rfl
theorem g32 : Tryd.prog.globalNamed "math/bits.deBruijn32tab" = some 3 := by kernel_rfl
theorem g64 : Tryd.prog.globalNamed "math/bits.deBruijn64tab" = some 4 := by kernel_rfl
theorem tab_of {W : World} (h : laidMetH Tryd.prog Rows.echoDirectionsRow.laid W) : Tab W := by
  have h1 := laidMet.tail (laidMet.tail (P := Tryd.prog) h)
  exact Lib.tabIs_of_head (rest := []) (t := 184) (e := 147) (n := 20) Tryd.pow10 (by kernel_rfl) Tryd.underlying184 Tryd.underlying147 (by kernel_rfl) (by kernel_rfl) h1

def litCells : DataW Unit → Array Value
  | .agg ps => (ps.map fun | .lit (.int k n) => Value.int k n | _ => Value.nilIface).toArray
  | _ => #[]

set_option maxRecDepth 100000 in
/-- what the row asks of a call whose arguments lead to no memory, where nothing old has changed -/
theorem post_none {H : Type} {enc : TypeId × Value → H} {f : Func} {s : ChangeSpec} {apart fresh handsOn again : Bool} {W W' : World} {args : Array Value} {v : Value} {ds gs : List (DataW H)}
    (hW : DataW.Whole enc Tryd.prog f.params.toList s.vars apart W args.toList ds gs [])
    (hres : ∀ (b : Nat) (sp : Nat → Bool) (hd : Bool), DataW.TrodAll enc Tryd.prog W' b sp hd f.resultTypes.toList (v.resultList f.resultTypes.size) (s.fn H (ds ++ gs)).results [])
    (hargs : ∀ sp : Nat → Bool, DataW.TrodAll enc Tryd.prog W' 0 sp true f.params.toList args.toList (s.fn H (ds ++ gs)).args [])
    (hvars : ∀ sp : Nat → Bool, DataW.TrodVars enc Tryd.prog W' sp s.vars (s.fn H (ds ++ gs)).vars [])
    (hb : Below W.heap.size W W')
    (hok : ∀ (j : Nat) (t : TypeId) (r : Value), f.resultTypes[j]? = some t → (v.resultList f.resultTypes.size)[j]? = some r → Value.okWide Tryd.prog W' .any 0 t r) :
    s.post enc Tryd.prog f apart fresh handsOn again W args v W' :=
  ⟨ds, gs, [], [], [], [], hW, hres _ _ _, hargs _, hvars _, hb.frame _, fun _ => ⟨hok, _, _, [], ⟨[], [], trodAll_append (hargs _) (hres _ _ _), hvars _, rfl, (fun _ _ h => nomatch h), fun _ => List.nodup_nil⟩, (fun _ h => nomatch h)⟩⟩

/-- a block with other cells -/
def refill (cs : Array Value) : Obj → Obj
  | .cells _ t frozen => .cells cs t frozen
  | o => o
/-- a world for the witness: the tables hold what the row lists -/
noncomputable def laidWorld (os : Os) : World :=
  { World.holding Tryd.prog os ⟨#[], #[], []⟩ with heap := (((World.holding Tryd.prog os ⟨#[], #[], []⟩).heap.modify 3 (refill (litCells Rows.laid_math_bits_deBruijn32tab))).modify 4 (refill (litCells Rows.laid_math_bits_deBruijn64tab))).modify 1 (refill (litCells Rows.laid_internal_strconv_uint64pow10)) }
end Go.Proofs.YtcjdbhcpcigmdaaDoor
