/-
  DERIVED. GIVEN WITH THE SEED: THE CARDS: each row of YteiideeechnekabDoorRows.lean that lists a variable, with what it lists TIED to the program's text (the seventh form; the later family's looks); each row that meets fmt, with fmt's text TOLD by the authors' own Lean function (tested against real Go, not proved from fmt's source: count such statements apart). THE CARD IS WHAT COUNTS. Prove the row's statement (the work); the ties are given (YteiideeechnekabDoorTie.lean); close each card by the builder's one call (the guide's Derived/Test/ToyasCard.lean, 'card_holds'). Laid BY PROGRAM, IN A SANDBOX (cutbox-door.mjs). By AI agents, Wed Nov 11 2026. No macro, syntax, notation, axiom, sorry.
-/
import Derived.Test.YteiideeechnekabDoorRows
import GoSem.ClaimSeven
namespace Go.Proofs.YteiideeechnekabDoor
namespace Rows

/-- THE TIED CARD OF 'hartkeep.Sleeps'. -/
def sleepsCard : Claim7 := { stood := { row := sleepsRow, standIns := [], harness := (true, "3967bc71c5ec9d95821145e0cf5cc42c626de5d609b49c955233da3432dd156b"), looks := false }, kinds := [], alts := [], laidByText := true, laidKinds := [.data, .data, .data, .data, .data, .data, .data, .data, .data, .data, .data, .data, .data], laidTests := true, laidLooks := .later }
def SleepsCardSaid : Prop := Claim7.holds Tryd.pinned (.plain (OpenSpec.ofChange sleepsSpec)) sleepsCard

/-- THE TIED CARD OF 'hartkeep.Soon'. -/
def soonCard : Claim7 := { stood := { row := soonRow, standIns := [], harness := (true, "3967bc71c5ec9d95821145e0cf5cc42c626de5d609b49c955233da3432dd156b"), looks := false }, kinds := [], alts := [], laidByText := true, laidKinds := [.data, .data, .data, .data, .data, .data, .data, .data, .data, .data, .data, .data, .data], laidTests := true, laidLooks := .later }
def SoonCardSaid : Prop := Claim7.holds Tryd.pinned (.plain (OpenSpec.ofChange soonSpec)) soonCard

/-- THE SECOND FORM's CARD OF 'hartkeep.Sleeps'. -/
def sleepsUptoCard : Claim7 := { stood := { row := sleepsUptoRow, standIns := [], harness := (true, "3967bc71c5ec9d95821145e0cf5cc42c626de5d609b49c955233da3432dd156b"), looks := false }, kinds := [], alts := [], laidByText := true, laidKinds := [.data, .data, .data, .data, .data, .data, .data, .data, .data, .data, .data, .data, .data], laidTests := true, laidLooks := .later }
def SleepsUptoCardSaid : Prop := Claim7.holds Tryd.pinned (.plain (OpenSpec.upto sleepsSpec)) sleepsUptoCard

/-- THE SECOND FORM's CARD OF 'hartkeep.Soon'. -/
def soonUptoCard : Claim7 := { stood := { row := soonUptoRow, standIns := [], harness := (true, "3967bc71c5ec9d95821145e0cf5cc42c626de5d609b49c955233da3432dd156b"), looks := false }, kinds := [], alts := [], laidByText := true, laidKinds := [.data, .data, .data, .data, .data, .data, .data, .data, .data, .data, .data, .data, .data], laidTests := true, laidLooks := .later }
def SoonUptoCardSaid : Prop := Claim7.holds Tryd.pinned (.plain (OpenSpec.upto soonSpec)) soonUptoCard
end Rows
end Go.Proofs.YteiideeechnekabDoor
