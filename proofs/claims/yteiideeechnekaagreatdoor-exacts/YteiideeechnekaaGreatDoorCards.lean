/-
  DERIVED. GIVEN WITH THE SEED: THE CARDS: each row of YteiideeechnekaaGreatDoorRows.lean that lists a variable, with what it lists TIED to the program's text (the seventh form; the later family's looks); each row that meets fmt, with fmt's text TOLD by the authors' own Lean function (tested against real Go, not proved from fmt's source: count such statements apart). THE CARD IS WHAT COUNTS. Prove the row's statement (the work); the ties are given (YteiideeechnekaaGreatDoorTie.lean); close each card by the builder's one call (the guide's Derived/Test/ToyasCard.lean, 'card_holds'). Laid BY PROGRAM, IN A SANDBOX (cutbox-door.mjs). By AI agents, Wed Nov 11 2026. No macro, syntax, notation, axiom, sorry.
-/
import Derived.Test.YteiideeechnekaaGreatDoorRows
import GoSem.ClaimSeven
namespace Go.Proofs.YteiideeechnekaaGreatDoor
namespace Rows

/-- THE TIED CARD OF 'hartlaw.Plain'. -/
def plainCard : Claim7 := { stood := { row := plainRow, standIns := [], harness := (true, "04297ff650f0584875fbd4c65fdaf5a0e5754408f6c417dc5e7eda42495a339e"), looks := false }, kinds := [], alts := [], laidByText := true, laidKinds := [.data, .data, .data, .data, .data, .data, .data, .data, .data, .data, .data, .data, .data], laidTests := true, laidLooks := .later }
def PlainCardSaid : Prop := Claim7.holds Tryz.pinned (.plain (OpenSpec.ofChange plainSpec)) plainCard

/-- THE TIED CARD OF 'hartlaw.Traps'. -/
def trapsCard : Claim7 := { stood := { row := trapsRow, standIns := [], harness := (true, "04297ff650f0584875fbd4c65fdaf5a0e5754408f6c417dc5e7eda42495a339e"), looks := false }, kinds := [], alts := [], laidByText := true, laidKinds := [.data, .data, .data, .data, .data, .data, .data, .data, .data, .data, .data, .data, .data], laidTests := true, laidLooks := .later }
def TrapsCardSaid : Prop := Claim7.holds Tryz.pinned (.plain (OpenSpec.ofChange trapsSpec)) trapsCard

/-- THE TIED CARD OF 'hartlaw.Devices'. -/
def devicesCard : Claim7 := { stood := { row := devicesRow, standIns := [], harness := (true, "04297ff650f0584875fbd4c65fdaf5a0e5754408f6c417dc5e7eda42495a339e"), looks := false }, kinds := [], alts := [], laidByText := true, laidKinds := [.data, .data, .data, .data, .data, .data, .data, .data, .data, .data, .data, .data, .data], laidTests := true, laidLooks := .later }
def DevicesCardSaid : Prop := Claim7.holds Tryz.pinned (.plain (OpenSpec.ofChange devicesSpec)) devicesCard

/-- THE TIED CARD OF 'hartlaw.Runs'. -/
def runsCard : Claim7 := { stood := { row := runsRow, standIns := [], harness := (true, "04297ff650f0584875fbd4c65fdaf5a0e5754408f6c417dc5e7eda42495a339e"), looks := false }, kinds := [], alts := [], laidByText := true, laidKinds := [.data, .data, .data, .data, .data, .data, .data, .data, .data, .data, .data, .data, .data], laidTests := true, laidLooks := .later }
def RunsCardSaid : Prop := Claim7.holds Tryz.pinned (.plain (OpenSpec.ofChange runsSpec)) runsCard

/-- THE TIED CARD OF 'hartlaw.All'. -/
def allCard : Claim7 := { stood := { row := allRow, standIns := [], harness := (true, "04297ff650f0584875fbd4c65fdaf5a0e5754408f6c417dc5e7eda42495a339e"), looks := false }, kinds := [], alts := [], laidByText := true, laidKinds := [.data, .data, .data, .data, .data, .data, .data, .data, .data, .data, .data, .data, .data], laidTests := true, laidLooks := .later }
def AllCardSaid : Prop := Claim7.holds Tryz.pinned (.plain (OpenSpec.ofChange allSpec)) allCard

/-- THE TIED CARD OF 'hartkeep.Exacts'. -/
def exactsCard : Claim7 := { stood := { row := exactsRow, standIns := [], harness := (true, "04297ff650f0584875fbd4c65fdaf5a0e5754408f6c417dc5e7eda42495a339e"), looks := false }, kinds := [], alts := [], laidByText := true, laidKinds := [.data, .data, .data, .data, .data, .data, .data, .data, .data, .data, .data, .data, .data], laidTests := true, laidLooks := .later }
def ExactsCardSaid : Prop := Claim7.holds Tryz.pinned (.plain (OpenSpec.ofChange exactsSpec)) exactsCard

/-- THE SECOND FORM's CARD OF 'hartlaw.Plain'. -/
def plainUptoCard : Claim7 := { stood := { row := plainUptoRow, standIns := [], harness := (true, "04297ff650f0584875fbd4c65fdaf5a0e5754408f6c417dc5e7eda42495a339e"), looks := false }, kinds := [], alts := [], laidByText := true, laidKinds := [.data, .data, .data, .data, .data, .data, .data, .data, .data, .data, .data, .data, .data], laidTests := true, laidLooks := .later }
def PlainUptoCardSaid : Prop := Claim7.holds Tryz.pinned (.plain (OpenSpec.upto plainSpec)) plainUptoCard

/-- THE SECOND FORM's CARD OF 'hartlaw.Traps'. -/
def trapsUptoCard : Claim7 := { stood := { row := trapsUptoRow, standIns := [], harness := (true, "04297ff650f0584875fbd4c65fdaf5a0e5754408f6c417dc5e7eda42495a339e"), looks := false }, kinds := [], alts := [], laidByText := true, laidKinds := [.data, .data, .data, .data, .data, .data, .data, .data, .data, .data, .data, .data, .data], laidTests := true, laidLooks := .later }
def TrapsUptoCardSaid : Prop := Claim7.holds Tryz.pinned (.plain (OpenSpec.upto trapsSpec)) trapsUptoCard

/-- THE SECOND FORM's CARD OF 'hartlaw.Devices'. -/
def devicesUptoCard : Claim7 := { stood := { row := devicesUptoRow, standIns := [], harness := (true, "04297ff650f0584875fbd4c65fdaf5a0e5754408f6c417dc5e7eda42495a339e"), looks := false }, kinds := [], alts := [], laidByText := true, laidKinds := [.data, .data, .data, .data, .data, .data, .data, .data, .data, .data, .data, .data, .data], laidTests := true, laidLooks := .later }
def DevicesUptoCardSaid : Prop := Claim7.holds Tryz.pinned (.plain (OpenSpec.upto devicesSpec)) devicesUptoCard

/-- THE SECOND FORM's CARD OF 'hartlaw.Runs'. -/
def runsUptoCard : Claim7 := { stood := { row := runsUptoRow, standIns := [], harness := (true, "04297ff650f0584875fbd4c65fdaf5a0e5754408f6c417dc5e7eda42495a339e"), looks := false }, kinds := [], alts := [], laidByText := true, laidKinds := [.data, .data, .data, .data, .data, .data, .data, .data, .data, .data, .data, .data, .data], laidTests := true, laidLooks := .later }
def RunsUptoCardSaid : Prop := Claim7.holds Tryz.pinned (.plain (OpenSpec.upto runsSpec)) runsUptoCard

/-- THE SECOND FORM's CARD OF 'hartlaw.All'. -/
def allUptoCard : Claim7 := { stood := { row := allUptoRow, standIns := [], harness := (true, "04297ff650f0584875fbd4c65fdaf5a0e5754408f6c417dc5e7eda42495a339e"), looks := false }, kinds := [], alts := [], laidByText := true, laidKinds := [.data, .data, .data, .data, .data, .data, .data, .data, .data, .data, .data, .data, .data], laidTests := true, laidLooks := .later }
def AllUptoCardSaid : Prop := Claim7.holds Tryz.pinned (.plain (OpenSpec.upto allSpec)) allUptoCard

/-- THE SECOND FORM's CARD OF 'hartkeep.Exacts'. -/
def exactsUptoCard : Claim7 := { stood := { row := exactsUptoRow, standIns := [], harness := (true, "04297ff650f0584875fbd4c65fdaf5a0e5754408f6c417dc5e7eda42495a339e"), looks := false }, kinds := [], alts := [], laidByText := true, laidKinds := [.data, .data, .data, .data, .data, .data, .data, .data, .data, .data, .data, .data, .data], laidTests := true, laidLooks := .later }
def ExactsUptoCardSaid : Prop := Claim7.holds Tryz.pinned (.plain (OpenSpec.upto exactsSpec)) exactsUptoCard
end Rows
end Go.Proofs.YteiideeechnekaaGreatDoor
