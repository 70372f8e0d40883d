/-
  DERIVED. GIVEN WITH THE SEED: THE PROGRAM's TIES (one call each: nine closed facts by the kernel) AND EACH ROW's TIE, after the 31st guide's Derived/Test/Toyas{Tie, Card}.lean. No idea stands in it: it is a product of the set-up. Laid BY PROGRAM, IN A SANDBOX (cutbox-door.mjs). By AI agents, Wed Nov 11 2026. No macro, syntax, notation, axiom, sorry.
-/
import Derived.Test.YteiideeechnekaaGreatDoorRows
import Derived.LaidByTextLater
import Derived.SevenTiedAt
import Derived.LaidSub
import Derived.LaidOnce
namespace Go.Proofs.YteiideeechnekaaGreatDoor
open Go
set_option maxRecDepth 100000
theorem seatTie1 : Tryz.prog.laidByTextLater [("hart/decode.jumps", Rows.laid_hart_decode_jumps), ("hart/decode.branches", Rows.laid_hart_decode_branches), ("hart/decode.loads", Rows.laid_hart_decode_loads), ("hart/decode.stores", Rows.laid_hart_decode_stores), ("hart/decode.fences", Rows.laid_hart_decode_fences), ("hart/decode.controls", Rows.laid_hart_decode_controls), ("hart/decode.immediates", Rows.laid_hart_decode_immediates), ("hart/decode.shifts0", Rows.laid_hart_decode_shifts0), ("hart/decode.shifts20", Rows.laid_hart_decode_shifts20), ("hart/decode.registers0", Rows.laid_hart_decode_registers0), ("hart/decode.registers20", Rows.laid_hart_decode_registers20), ("hart/hart.controlNumbers", Rows.laid_hart_hart_controlNumbers), ("hart/hart.precedence", Rows.laid_hart_hart_precedence)] [.data, .data, .data, .data, .data, .data, .data, .data, .data, .data, .data, .data, .data] true :=
  Program.laidByTextLater_by_one 74 8 20 (by kernel_rfl) (by kernel_rfl) (by kernel_rfl) (by kernel_rfl) (by kernel_rfl) (by kernel_rfl) (fun _ _ => by kernel_rfl)
theorem noOwnUnsafe : Tryz.pinned.checked.prog.headLifts.contains "ownunsafe" = false := by kernel_rfl
theorem tie : Tryz.prog.laidByTextLater [("hart/decode.jumps", Rows.laid_hart_decode_jumps), ("hart/decode.branches", Rows.laid_hart_decode_branches), ("hart/decode.loads", Rows.laid_hart_decode_loads), ("hart/decode.stores", Rows.laid_hart_decode_stores), ("hart/decode.fences", Rows.laid_hart_decode_fences), ("hart/decode.controls", Rows.laid_hart_decode_controls), ("hart/decode.immediates", Rows.laid_hart_decode_immediates), ("hart/decode.shifts0", Rows.laid_hart_decode_shifts0), ("hart/decode.shifts20", Rows.laid_hart_decode_shifts20), ("hart/decode.registers0", Rows.laid_hart_decode_registers0), ("hart/decode.registers20", Rows.laid_hart_decode_registers20), ("hart/hart.controlNumbers", Rows.laid_hart_hart_controlNumbers), ("hart/hart.precedence", Rows.laid_hart_hart_precedence)] [.data, .data, .data, .data, .data, .data, .data, .data, .data, .data, .data, .data, .data] true :=
  Program.laidByTextLater.sub seatTie1 ["hart/decode.jumps", "hart/decode.branches", "hart/decode.loads", "hart/decode.stores", "hart/decode.fences", "hart/decode.controls", "hart/decode.immediates", "hart/decode.shifts0", "hart/decode.shifts20", "hart/decode.registers0", "hart/decode.registers20", "hart/hart.controlNumbers", "hart/hart.precedence"] (by kernel_rfl) (by kernel_rfl)
theorem plain_row_tie : Rows.plainRow.laidByTextAt .later Tryz.pinned [.data, .data, .data, .data, .data, .data, .data, .data, .data, .data, .data, .data, .data] true :=
  OpenClaim.laidByTextAt_later rfl rfl tie noOwnUnsafe
theorem traps_row_tie : Rows.trapsRow.laidByTextAt .later Tryz.pinned [.data, .data, .data, .data, .data, .data, .data, .data, .data, .data, .data, .data, .data] true :=
  OpenClaim.laidByTextAt_later rfl rfl tie noOwnUnsafe
theorem devices_row_tie : Rows.devicesRow.laidByTextAt .later Tryz.pinned [.data, .data, .data, .data, .data, .data, .data, .data, .data, .data, .data, .data, .data] true :=
  OpenClaim.laidByTextAt_later rfl rfl tie noOwnUnsafe
theorem runs_row_tie : Rows.runsRow.laidByTextAt .later Tryz.pinned [.data, .data, .data, .data, .data, .data, .data, .data, .data, .data, .data, .data, .data] true :=
  OpenClaim.laidByTextAt_later rfl rfl tie noOwnUnsafe
theorem all_row_tie : Rows.allRow.laidByTextAt .later Tryz.pinned [.data, .data, .data, .data, .data, .data, .data, .data, .data, .data, .data, .data, .data] true :=
  OpenClaim.laidByTextAt_later rfl rfl tie noOwnUnsafe
theorem exacts_row_tie : Rows.exactsRow.laidByTextAt .later Tryz.pinned [.data, .data, .data, .data, .data, .data, .data, .data, .data, .data, .data, .data, .data] true :=
  OpenClaim.laidByTextAt_later rfl rfl tie noOwnUnsafe
theorem plainUpto_row_tie : Rows.plainUptoRow.laidByTextAt .later Tryz.pinned [.data, .data, .data, .data, .data, .data, .data, .data, .data, .data, .data, .data, .data] true :=
  OpenClaim.laidByTextAt_later rfl rfl tie noOwnUnsafe
theorem trapsUpto_row_tie : Rows.trapsUptoRow.laidByTextAt .later Tryz.pinned [.data, .data, .data, .data, .data, .data, .data, .data, .data, .data, .data, .data, .data] true :=
  OpenClaim.laidByTextAt_later rfl rfl tie noOwnUnsafe
theorem devicesUpto_row_tie : Rows.devicesUptoRow.laidByTextAt .later Tryz.pinned [.data, .data, .data, .data, .data, .data, .data, .data, .data, .data, .data, .data, .data] true :=
  OpenClaim.laidByTextAt_later rfl rfl tie noOwnUnsafe
theorem runsUpto_row_tie : Rows.runsUptoRow.laidByTextAt .later Tryz.pinned [.data, .data, .data, .data, .data, .data, .data, .data, .data, .data, .data, .data, .data] true :=
  OpenClaim.laidByTextAt_later rfl rfl tie noOwnUnsafe
theorem allUpto_row_tie : Rows.allUptoRow.laidByTextAt .later Tryz.pinned [.data, .data, .data, .data, .data, .data, .data, .data, .data, .data, .data, .data, .data] true :=
  OpenClaim.laidByTextAt_later rfl rfl tie noOwnUnsafe
theorem exactsUpto_row_tie : Rows.exactsUptoRow.laidByTextAt .later Tryz.pinned [.data, .data, .data, .data, .data, .data, .data, .data, .data, .data, .data, .data, .data] true :=
  OpenClaim.laidByTextAt_later rfl rfl tie noOwnUnsafe
end Go.Proofs.YteiideeechnekaaGreatDoor
