/-
  DERIVED. GIVEN WITH THE SEED: THE CARDS: each row of YtonlmogclejfaaaGreatDoorRows.lean that lists a variable, with what it lists TIED to the program's text (the seventh form; the later family's looks); each row that meets fmt, with fmt's text TOLD by the authors' own Lean function (tested against real Go, not proved from fmt's source: count such statements apart). THE CARD IS WHAT COUNTS. Prove the row's statement (the work); the ties are given (YtonlmogclejfaaaGreatDoorTie.lean); close each card by the builder's one call (the guide's Derived/Test/ToyasCard.lean, 'card_holds'). Laid BY PROGRAM, IN A SANDBOX (cutbox-door.mjs). By AI agents, Wed Nov 11 2026. No macro, syntax, notation, axiom, sorry.
-/
import Derived.Test.YtonlmogclejfaaaGreatDoorRows
import GoSem.ClaimSeven
namespace Go.Proofs.YtonlmogclejfaaaGreatDoor
namespace Rows

/-- THE TIED CARD OF 'hartlaw.Plain'. -/
def plainCard : Claim7 := { stood := { row := plainRow, standIns := [], harness := (true, "9743d8ffc64b4851c610049ca3cdcc2bf925af0f9c7fa61dcc9e9e733839ca8c"), looks := false }, kinds := [], alts := [], laidByText := true, laidKinds := [.data, .data, .data, .data, .data, .data, .data, .data, .data, .data, .data, .data], laidTests := true, laidLooks := .later }
def PlainCardSaid : Prop := Claim7.holds Tryz.pinned (.plain (OpenSpec.ofChange plainSpec)) plainCard

/-- THE TIED CARD OF 'hartlaw.Traps'. -/
def trapsCard : Claim7 := { stood := { row := trapsRow, standIns := [], harness := (true, "9743d8ffc64b4851c610049ca3cdcc2bf925af0f9c7fa61dcc9e9e733839ca8c"), looks := false }, kinds := [], alts := [], laidByText := true, laidKinds := [.data, .data, .data, .data, .data, .data, .data, .data, .data, .data, .data, .data], laidTests := true, laidLooks := .later }
def TrapsCardSaid : Prop := Claim7.holds Tryz.pinned (.plain (OpenSpec.ofChange trapsSpec)) trapsCard

/-- THE SECOND FORM's CARD OF 'hartlaw.Plain'. -/
def plainUptoCard : Claim7 := { stood := { row := plainUptoRow, standIns := [], harness := (true, "9743d8ffc64b4851c610049ca3cdcc2bf925af0f9c7fa61dcc9e9e733839ca8c"), looks := false }, kinds := [], alts := [], laidByText := true, laidKinds := [.data, .data, .data, .data, .data, .data, .data, .data, .data, .data, .data, .data], laidTests := true, laidLooks := .later }
def PlainUptoCardSaid : Prop := Claim7.holds Tryz.pinned (.plain (OpenSpec.upto plainSpec)) plainUptoCard

/-- THE SECOND FORM's CARD OF 'hartlaw.Traps'. -/
def trapsUptoCard : Claim7 := { stood := { row := trapsUptoRow, standIns := [], harness := (true, "9743d8ffc64b4851c610049ca3cdcc2bf925af0f9c7fa61dcc9e9e733839ca8c"), looks := false }, kinds := [], alts := [], laidByText := true, laidKinds := [.data, .data, .data, .data, .data, .data, .data, .data, .data, .data, .data, .data], laidTests := true, laidLooks := .later }
def TrapsUptoCardSaid : Prop := Claim7.holds Tryz.pinned (.plain (OpenSpec.upto trapsSpec)) trapsUptoCard
end Rows
end Go.Proofs.YtonlmogclejfaaaGreatDoor
