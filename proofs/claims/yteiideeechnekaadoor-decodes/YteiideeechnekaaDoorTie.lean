/-
  DERIVED. GIVEN WITH THE SEED: THE PROGRAM's TIES (one call each: nine closed facts by the kernel) AND EACH ROW's TIE, after the 31st guide's Derived/Test/Toyas{Tie, Card}.lean. No idea stands in it: it is a product of the set-up. Laid BY PROGRAM, IN A SANDBOX (cutbox-door.mjs). By AI agents, Wed Nov 11 2026. No macro, syntax, notation, axiom, sorry.
-/
import Derived.Test.YteiideeechnekaaDoorRows
import Derived.LaidByTextLater
import Derived.SevenTiedAt
import Derived.LaidSub
import Derived.LaidOnce
namespace Go.Proofs.YteiideeechnekaaDoor
open Go
set_option maxRecDepth 100000
theorem seatTie1 : Tryd.prog.laidByTextLater [("hart/decode.jumps", Rows.laid_hart_decode_jumps), ("hart/decode.branches", Rows.laid_hart_decode_branches), ("hart/decode.loads", Rows.laid_hart_decode_loads), ("hart/decode.stores", Rows.laid_hart_decode_stores), ("hart/decode.fences", Rows.laid_hart_decode_fences), ("hart/decode.controls", Rows.laid_hart_decode_controls), ("hart/decode.immediates", Rows.laid_hart_decode_immediates), ("hart/decode.shifts0", Rows.laid_hart_decode_shifts0), ("hart/decode.shifts20", Rows.laid_hart_decode_shifts20), ("hart/decode.registers0", Rows.laid_hart_decode_registers0), ("hart/decode.registers20", Rows.laid_hart_decode_registers20)] [.data, .data, .data, .data, .data, .data, .data, .data, .data, .data, .data] true :=
  Program.laidByTextLater_by_one 64 8 9 (by kernel_rfl) (by kernel_rfl) (by kernel_rfl) (by kernel_rfl) (by kernel_rfl) (by kernel_rfl) (fun _ _ => by kernel_rfl)
theorem noOwnUnsafe : Tryd.pinned.checked.prog.headLifts.contains "ownunsafe" = false := by kernel_rfl
theorem tie : Tryd.prog.laidByTextLater [("hart/decode.jumps", Rows.laid_hart_decode_jumps), ("hart/decode.branches", Rows.laid_hart_decode_branches), ("hart/decode.loads", Rows.laid_hart_decode_loads), ("hart/decode.stores", Rows.laid_hart_decode_stores), ("hart/decode.fences", Rows.laid_hart_decode_fences), ("hart/decode.controls", Rows.laid_hart_decode_controls), ("hart/decode.immediates", Rows.laid_hart_decode_immediates), ("hart/decode.shifts0", Rows.laid_hart_decode_shifts0), ("hart/decode.shifts20", Rows.laid_hart_decode_shifts20), ("hart/decode.registers0", Rows.laid_hart_decode_registers0), ("hart/decode.registers20", Rows.laid_hart_decode_registers20)] [.data, .data, .data, .data, .data, .data, .data, .data, .data, .data, .data] true :=
  Program.laidByTextLater.sub seatTie1 ["hart/decode.jumps", "hart/decode.branches", "hart/decode.loads", "hart/decode.stores", "hart/decode.fences", "hart/decode.controls", "hart/decode.immediates", "hart/decode.shifts0", "hart/decode.shifts20", "hart/decode.registers0", "hart/decode.registers20"] (by kernel_rfl) (by kernel_rfl)
theorem decodes_row_tie : Rows.decodesRow.laidByTextAt .later Tryd.pinned [.data, .data, .data, .data, .data, .data, .data, .data, .data, .data, .data] true :=
  OpenClaim.laidByTextAt_later rfl rfl tie noOwnUnsafe
theorem fields_row_tie : Rows.fieldsRow.laidByTextAt .later Tryd.pinned [.data, .data, .data, .data, .data, .data, .data, .data, .data, .data, .data] true :=
  OpenClaim.laidByTextAt_later rfl rfl tie noOwnUnsafe
theorem decodesUpto_row_tie : Rows.decodesUptoRow.laidByTextAt .later Tryd.pinned [.data, .data, .data, .data, .data, .data, .data, .data, .data, .data, .data] true :=
  OpenClaim.laidByTextAt_later rfl rfl tie noOwnUnsafe
theorem fieldsUpto_row_tie : Rows.fieldsUptoRow.laidByTextAt .later Tryd.pinned [.data, .data, .data, .data, .data, .data, .data, .data, .data, .data, .data] true :=
  OpenClaim.laidByTextAt_later rfl rfl tie noOwnUnsafe
end Go.Proofs.YteiideeechnekaaDoor
