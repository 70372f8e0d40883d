/-
  DERIVED. GIVEN WITH THE SEED: THE CARDS: each row of YteiideeechnekaaDoorRows.lean that lists a variable, with what it lists TIED to the program's text (the seventh form; the later family's looks); each row that meets fmt, with fmt's text TOLD by the authors' own Lean function (tested against real Go, not proved from fmt's source: count such statements apart). THE CARD IS WHAT COUNTS. Prove the row's statement (the work); the ties are given (YteiideeechnekaaDoorTie.lean); close each card by the builder's one call (the guide's Derived/Test/ToyasCard.lean, 'card_holds'). Laid BY PROGRAM, IN A SANDBOX (cutbox-door.mjs). By AI agents, Wed Nov 11 2026. No macro, syntax, notation, axiom, sorry.
-/
import Derived.Test.YteiideeechnekaaDoorRows
import GoSem.ClaimSeven
namespace Go.Proofs.YteiideeechnekaaDoor
namespace Rows

/-- THE TIED CARD OF 'hartlaw.Decodes'. -/
def decodesCard : Claim7 := { stood := { row := decodesRow, standIns := [], harness := (true, "edd6514eb5da8b47b952ad41d106ddf1df4881c6f6eda2eadb2b275236dd9b8d"), looks := false }, kinds := [], alts := [], laidByText := true, laidKinds := [.data, .data, .data, .data, .data, .data, .data, .data, .data, .data, .data], laidTests := true, laidLooks := .later }
def DecodesCardSaid : Prop := Claim7.holds Tryd.pinned (.plain (OpenSpec.ofChange decodesSpec)) decodesCard

/-- THE TIED CARD OF 'hartkeep.Fields'. -/
def fieldsCard : Claim7 := { stood := { row := fieldsRow, standIns := [], harness := (true, "edd6514eb5da8b47b952ad41d106ddf1df4881c6f6eda2eadb2b275236dd9b8d"), looks := false }, kinds := [], alts := [], laidByText := true, laidKinds := [.data, .data, .data, .data, .data, .data, .data, .data, .data, .data, .data], laidTests := true, laidLooks := .later }
def FieldsCardSaid : Prop := Claim7.holds Tryd.pinned (.plain (OpenSpec.ofChange fieldsSpec)) fieldsCard

/-- THE SECOND FORM's CARD OF 'hartlaw.Decodes'. -/
def decodesUptoCard : Claim7 := { stood := { row := decodesUptoRow, standIns := [], harness := (true, "edd6514eb5da8b47b952ad41d106ddf1df4881c6f6eda2eadb2b275236dd9b8d"), looks := false }, kinds := [], alts := [], laidByText := true, laidKinds := [.data, .data, .data, .data, .data, .data, .data, .data, .data, .data, .data], laidTests := true, laidLooks := .later }
def DecodesUptoCardSaid : Prop := Claim7.holds Tryd.pinned (.plain (OpenSpec.upto decodesSpec)) decodesUptoCard

/-- THE SECOND FORM's CARD OF 'hartkeep.Fields'. -/
def fieldsUptoCard : Claim7 := { stood := { row := fieldsUptoRow, standIns := [], harness := (true, "edd6514eb5da8b47b952ad41d106ddf1df4881c6f6eda2eadb2b275236dd9b8d"), looks := false }, kinds := [], alts := [], laidByText := true, laidKinds := [.data, .data, .data, .data, .data, .data, .data, .data, .data, .data, .data], laidTests := true, laidLooks := .later }
def FieldsUptoCardSaid : Prop := Claim7.holds Tryd.pinned (.plain (OpenSpec.upto fieldsSpec)) fieldsUptoCard
end Rows
end Go.Proofs.YteiideeechnekaaDoor
