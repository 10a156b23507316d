/-
  No cell of these rows narrows 'for every input' (looked for: loops, veiled, ifaces, maps, wideKeys, modest, calm, conditions, laid).
  DERIVED. THE GIVEN ROWS OF THIS SEAT. 3 by the template 'for every input the law returns true; each argument reads behind the call as it read before'; 0 by the template 'total and deterministic' (their statements: YtmbolmmcfnfamaaTotals.lean).
  GIVEN WITH THE SEED: the statements are not yours to turn. If you find one false, say at which input.
  Laid BY PROGRAM, IN A SANDBOX (cutbox-rows.mjs): the forced cells as the released guide's own fill.sh prints them over the translation dc36dcbc4eee020c… (all of the seat's roots in one cut). By AI agents, Wed Nov 11 2026. No macro, syntax, notation, axiom, sorry.
-/
import Derived.Test.YtmbolmmcfnfamaaChecked
import GoSem.Claim
import GoSem.ClaimJoined
import GoSem.ClaimMapViews
import Derived.JoinedTies
import Derived.KernelRfl
namespace Go.Proofs.Ytmbolmmcfnfamaa
/- THE CELL 'sum', in the pinned program and in every row, IS THE sha256 OF THE DUMP (.gsa) THAT YtmbolmmcfnfamaaProg.lean LOADS. Nothing in Lean hashes anything: it is a label: what it is worth is what the hold of that sum in a sandbox is worth. -/
noncomputable def Try.pinned : Pinned := { name := "ytmbolmmcfnfamaa", sum := "dc36dcbc4eee020cb6d30ab32ef4cc0f1735e8de0735306f4e6d12e0bd6e9d22", checked := Try.checked }
namespace Rows
def none {H : Type} : Left H := { results := [], args := [] }

/-- 'swathlaw02.OrbitAgrees': WHATEVER THE INPUT: true; the input reads as it did. -/
def orbitAgreesSpec : ChangeSpec := { name := "orbitAgrees", fn := fun _ => fun
  | [d1, d2] => { results := [.lit (.bool true)], args := [d1, d2] }
  | _ => none }
def orbitAgreesRow : OpenClaim := { program := "ytmbolmmcfnfamaa", sum := "dc36dcbc4eee020cb6d30ab32ef4cc0f1735e8de0735306f4e6d12e0bd6e9d22", func := "swath/swathlaw02.OrbitAgrees", spec := "orbitAgrees", unfollowed := true, recurses := true, apart := false }
def OrbitAgreesSaid : Prop := orbitAgreesRow.holds Try.pinned (OpenSpec.ofChange orbitAgreesSpec)

/-- ITS FALSE NEIGHBOUR: 'it returns false'. Refute it at one input. -/
def orbitAgreesWrong : ChangeSpec := { name := "orbitAgrees", fn := fun _ => fun
  | [d1, d2] => { results := [.lit (.bool false)], args := [d1, d2] }
  | _ => none }
def OrbitAgreesWrongFalsely : Prop := orbitAgreesRow.holds Try.pinned (OpenSpec.ofChange orbitAgreesWrong)

/-- 'swathlaw02.OrbitCorrects': WHATEVER THE INPUT: true; the input reads as it did. -/
def orbitCorrectsSpec : ChangeSpec := { name := "orbitCorrects", fn := fun _ => fun
  | [d1, d2, d3] => { results := [.lit (.bool true)], args := [d1, d2, d3] }
  | _ => none }
def orbitCorrectsRow : OpenClaim := { program := "ytmbolmmcfnfamaa", sum := "dc36dcbc4eee020cb6d30ab32ef4cc0f1735e8de0735306f4e6d12e0bd6e9d22", func := "swath/swathlaw02.OrbitCorrects", spec := "orbitCorrects", unfollowed := true, recurses := true, apart := false }
def OrbitCorrectsSaid : Prop := orbitCorrectsRow.holds Try.pinned (OpenSpec.ofChange orbitCorrectsSpec)

/-- ITS FALSE NEIGHBOUR: 'it returns false'. Refute it at one input. -/
def orbitCorrectsWrong : ChangeSpec := { name := "orbitCorrects", fn := fun _ => fun
  | [d1, d2, d3] => { results := [.lit (.bool false)], args := [d1, d2, d3] }
  | _ => none }
def OrbitCorrectsWrongFalsely : Prop := orbitCorrectsRow.holds Try.pinned (OpenSpec.ofChange orbitCorrectsWrong)

/-- 'swathtop.TopBetweenVectors': WHATEVER THE INPUT: true; the input reads as it did. -/
def topBetweenVectorsSpec : ChangeSpec := { name := "topBetweenVectors", fn := fun _ => fun
  | [d1, d2, d3] => { results := [.lit (.bool true)], args := [d1, d2, d3] }
  | _ => none }
def topBetweenVectorsRow : OpenClaim := { program := "ytmbolmmcfnfamaa", sum := "dc36dcbc4eee020cb6d30ab32ef4cc0f1735e8de0735306f4e6d12e0bd6e9d22", func := "swath/swathtop.TopBetweenVectors", spec := "topBetweenVectors", unfollowed := true, recurses := true, apart := false }
def TopBetweenVectorsSaid : Prop := topBetweenVectorsRow.holds Try.pinned (OpenSpec.ofChange topBetweenVectorsSpec)

/-- ITS FALSE NEIGHBOUR: 'it returns false'. Refute it at one input. -/
def topBetweenVectorsWrong : ChangeSpec := { name := "topBetweenVectors", fn := fun _ => fun
  | [d1, d2, d3] => { results := [.lit (.bool false)], args := [d1, d2, d3] }
  | _ => none }
def TopBetweenVectorsWrongFalsely : Prop := topBetweenVectorsRow.holds Try.pinned (OpenSpec.ofChange topBetweenVectorsWrong)

/- THE SECOND FORM. 'bulk': how many values and letters a reading holds, each counted each time it is reached (what is shared counts as often as it is met; a slice's spare places count too). A statement '..UptoSaid' is the law's where the arguments, and the package variables that the reading takes, are together of bulk at most 1048576: NARROWER than '..Said'. Prove '..Said' where nothing that the law and all that it calls make is longer than what came in: it says more and counts as full. Else prove '..UptoSaid'. A law counts once. -/
mutual
def uptoBulk {H : Type} : DataW H → Nat
  | .lit (.string bytes) => bytes.length + 1
  | .lit _ => 1
  | .nil => 1
  | .ptr d => uptoBulk d + 1
  | .slice elems spare => uptoBulkAll elems + uptoBulkAll spare + 1
  | .agg parts => uptoBulkAll parts + 1
  | .iface _ d => uptoBulk d + 1
  | .map entries => uptoBulkEntries entries + 1
  | .held _ => 1
def uptoBulkAll {H : Type} : List (DataW H) → Nat
  | [] => 0
  | d :: r => uptoBulk d + uptoBulkAll r
def uptoBulkEntries {H : Type} : List (Lit × DataW H) → Nat
  | [] => 0
  | x :: r => uptoBulkEntry x + uptoBulkEntries r
def uptoBulkEntry {H : Type} : Lit × DataW H → Nat
  | (.string bytes, d) => bytes.length + uptoBulk d + 1
  | (_, d) => uptoBulk d + 1
 end
def uptoSmall : (H : Type) → List (DataW H) → Bool := fun _ ds => decide (uptoBulkAll ds ≤ 1048576)
def OpenSpec.upto (s : _root_.Go.ChangeSpec) : _root_.Go.OpenSpec := { _root_.Go.OpenSpec.ofChange s with cond := some uptoSmall }

/-- 'swathlaw02.OrbitAgrees', WHERE WHAT IT READS IS OF BULK AT MOST 1048576: true; the input reads as it did. -/
def orbitAgreesUptoRow : OpenClaim := { program := "ytmbolmmcfnfamaa", sum := "dc36dcbc4eee020cb6d30ab32ef4cc0f1735e8de0735306f4e6d12e0bd6e9d22", func := "swath/swathlaw02.OrbitAgrees", spec := "orbitAgrees", unfollowed := true, recurses := true, apart := false, narrowed := true }
def OrbitAgreesUptoSaid : Prop := orbitAgreesUptoRow.holds Try.pinned (OpenSpec.upto orbitAgreesSpec)

/-- 'swathlaw02.OrbitCorrects', WHERE WHAT IT READS IS OF BULK AT MOST 1048576: true; the input reads as it did. -/
def orbitCorrectsUptoRow : OpenClaim := { program := "ytmbolmmcfnfamaa", sum := "dc36dcbc4eee020cb6d30ab32ef4cc0f1735e8de0735306f4e6d12e0bd6e9d22", func := "swath/swathlaw02.OrbitCorrects", spec := "orbitCorrects", unfollowed := true, recurses := true, apart := false, narrowed := true }
def OrbitCorrectsUptoSaid : Prop := orbitCorrectsUptoRow.holds Try.pinned (OpenSpec.upto orbitCorrectsSpec)

/-- 'swathtop.TopBetweenVectors', WHERE WHAT IT READS IS OF BULK AT MOST 1048576: true; the input reads as it did. -/
def topBetweenVectorsUptoRow : OpenClaim := { program := "ytmbolmmcfnfamaa", sum := "dc36dcbc4eee020cb6d30ab32ef4cc0f1735e8de0735306f4e6d12e0bd6e9d22", func := "swath/swathtop.TopBetweenVectors", spec := "topBetweenVectors", unfollowed := true, recurses := true, apart := false, narrowed := true }
def TopBetweenVectorsUptoSaid : Prop := topBetweenVectorsUptoRow.holds Try.pinned (OpenSpec.upto topBetweenVectorsSpec)

end Rows
end Go.Proofs.Ytmbolmmcfnfamaa
