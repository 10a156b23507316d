/-
  DERIVED. GIVEN WITH THE SEED: THE CARDS: each row of YtmiaglkkjncfnaaDoorRows.lean that lists a variable, with what it lists TIED to the program's text (the seventh form; the later family's looks); each row that meets fmt, with fmt's text TOLD by the authors' own Lean function (tested against real Go, not proved from fmt's source: count such statements apart). THE CARD IS WHAT COUNTS. Prove the row's statement (the work); the ties are given (YtmiaglkkjncfnaaDoorTie.lean); close each card by the builder's one call (the guide's Derived/Test/ToyasCard.lean, 'card_holds'). Laid BY PROGRAM, IN A SANDBOX (cutbox-door.mjs). By AI agents, Wed Nov 11 2026. No macro, syntax, notation, axiom, sorry.
-/
import Derived.Test.YtmiaglkkjncfnaaDoorRows
import GoSem.ClaimSeven
namespace Go.Proofs.YtmiaglkkjncfnaaDoor
namespace Rows

/-- THE TIED CARD OF 'swathlaw01.EchoResponds'. -/
def echoRespondsCard : Claim7 := { stood := { row := echoRespondsRow, standIns := [], harness := (true, "e20bc8e725559ca6c0712bced4d329756c400ca60f45ac5041ef823ccc46f590"), looks := false }, kinds := [], alts := [], laidByText := true, laidKinds := [.data, .data, .data], laidTests := true, laidLooks := .later }
def EchoRespondsCardSaid : Prop := Claim7.holds Tryd.pinned (.plain (OpenSpec.ofChange echoRespondsSpec)) echoRespondsCard

/-- THE TIED CARD OF 'swathlaw01.EchoLinear'. -/
def echoLinearCard : Claim7 := { stood := { row := echoLinearRow, standIns := [], harness := (true, "e20bc8e725559ca6c0712bced4d329756c400ca60f45ac5041ef823ccc46f590"), looks := false }, kinds := [], alts := [], laidByText := true, laidKinds := [.data, .data, .data], laidTests := true, laidLooks := .later }
def EchoLinearCardSaid : Prop := Claim7.holds Tryd.pinned (.plain (OpenSpec.ofChange echoLinearSpec)) echoLinearCard

/-- THE TIED CARD OF 'swathlaw01.EchoAdds'. -/
def echoAddsCard : Claim7 := { stood := { row := echoAddsRow, standIns := [], harness := (true, "e20bc8e725559ca6c0712bced4d329756c400ca60f45ac5041ef823ccc46f590"), looks := false }, kinds := [], alts := [], laidByText := true, laidKinds := [.data, .data, .data], laidTests := true, laidLooks := .later }
def EchoAddsCardSaid : Prop := Claim7.holds Tryd.pinned (.plain (OpenSpec.ofChange echoAddsSpec)) echoAddsCard

/-- THE SECOND FORM's CARD OF 'swathlaw01.EchoResponds'. -/
def echoRespondsUptoCard : Claim7 := { stood := { row := echoRespondsUptoRow, standIns := [], harness := (true, "e20bc8e725559ca6c0712bced4d329756c400ca60f45ac5041ef823ccc46f590"), looks := false }, kinds := [], alts := [], laidByText := true, laidKinds := [.data, .data, .data], laidTests := true, laidLooks := .later }
def EchoRespondsUptoCardSaid : Prop := Claim7.holds Tryd.pinned (.plain (OpenSpec.upto echoRespondsSpec)) echoRespondsUptoCard

/-- THE SECOND FORM's CARD OF 'swathlaw01.EchoLinear'. -/
def echoLinearUptoCard : Claim7 := { stood := { row := echoLinearUptoRow, standIns := [], harness := (true, "e20bc8e725559ca6c0712bced4d329756c400ca60f45ac5041ef823ccc46f590"), looks := false }, kinds := [], alts := [], laidByText := true, laidKinds := [.data, .data, .data], laidTests := true, laidLooks := .later }
def EchoLinearUptoCardSaid : Prop := Claim7.holds Tryd.pinned (.plain (OpenSpec.upto echoLinearSpec)) echoLinearUptoCard

/-- THE SECOND FORM's CARD OF 'swathlaw01.EchoAdds'. -/
def echoAddsUptoCard : Claim7 := { stood := { row := echoAddsUptoRow, standIns := [], harness := (true, "e20bc8e725559ca6c0712bced4d329756c400ca60f45ac5041ef823ccc46f590"), looks := false }, kinds := [], alts := [], laidByText := true, laidKinds := [.data, .data, .data], laidTests := true, laidLooks := .later }
def EchoAddsUptoCardSaid : Prop := Claim7.holds Tryd.pinned (.plain (OpenSpec.upto echoAddsSpec)) echoAddsUptoCard
end Rows
end Go.Proofs.YtmiaglkkjncfnaaDoor
