/-
  What the listed tables give the walks, and the rows' start.
-/
import Derived.Test.YteiideeechnekaaDoorRows
import Derived.Test.YteiideeechnekaaDoorCode
import Derived.ProofKit
import Derived.LaidMore
import Derived.OpenShut
import Derived.Lib.LaidTab
import Derived.Stop.LaidErr
import Derived.Stop.Joined
namespace Go.Proofs.YteiideeechnekaaDoor
open Go.ChangeShapes Go.WideShapes Go.ChangeAt Go.WideMaps Go.WideElems Go.RowKit

theorem own : ownKnob Tryd.prog.godebug = none := by kernel_rfl
theorem cells3 : Tryd.prog.cellsOf 3 = 1 := by kernel_rfl
theorem cells44 : Tryd.prog.cellsOf 44 = 8 := by kernel_rfl
theorem glob_jumps : Tryd.prog.globalNamed "hart/decode.jumps" = some 0 := by kernel_rfl
theorem type_jumps : (Tryd.prog.globals[0]?).map (·.type) = some 44 := by kernel_rfl
theorem glob_branches : Tryd.prog.globalNamed "hart/decode.branches" = some 1 := by kernel_rfl
theorem type_branches : (Tryd.prog.globals[1]?).map (·.type) = some 44 := by kernel_rfl
theorem glob_loads : Tryd.prog.globalNamed "hart/decode.loads" = some 2 := by kernel_rfl
theorem type_loads : (Tryd.prog.globals[2]?).map (·.type) = some 44 := by kernel_rfl
theorem glob_stores : Tryd.prog.globalNamed "hart/decode.stores" = some 3 := by kernel_rfl
theorem type_stores : (Tryd.prog.globals[3]?).map (·.type) = some 44 := by kernel_rfl
theorem glob_fences : Tryd.prog.globalNamed "hart/decode.fences" = some 4 := by kernel_rfl
theorem type_fences : (Tryd.prog.globals[4]?).map (·.type) = some 44 := by kernel_rfl
theorem glob_controls : Tryd.prog.globalNamed "hart/decode.controls" = some 10 := by kernel_rfl
theorem type_controls : (Tryd.prog.globals[10]?).map (·.type) = some 44 := by kernel_rfl
theorem glob_immediates : Tryd.prog.globalNamed "hart/decode.immediates" = some 5 := by kernel_rfl
theorem type_immediates : (Tryd.prog.globals[5]?).map (·.type) = some 44 := by kernel_rfl
theorem glob_shifts0 : Tryd.prog.globalNamed "hart/decode.shifts0" = some 6 := by kernel_rfl
theorem type_shifts0 : (Tryd.prog.globals[6]?).map (·.type) = some 44 := by kernel_rfl
theorem glob_shifts20 : Tryd.prog.globalNamed "hart/decode.shifts20" = some 7 := by kernel_rfl
theorem type_shifts20 : (Tryd.prog.globals[7]?).map (·.type) = some 44 := by kernel_rfl
theorem glob_registers0 : Tryd.prog.globalNamed "hart/decode.registers0" = some 8 := by kernel_rfl
theorem type_registers0 : (Tryd.prog.globals[8]?).map (·.type) = some 44 := by kernel_rfl
theorem glob_registers20 : Tryd.prog.globalNamed "hart/decode.registers20" = some 9 := by kernel_rfl
theorem type_registers20 : (Tryd.prog.globals[9]?).map (·.type) = some 44 := by kernel_rfl

theorem tabs_of_laid {W : World} (h : laidMetH Tryd.prog Rows.decodesRow.laid W) : Tabs W := by
  rw [MakeChecks.laidMetH_plain _ _ _ (by kernel_rfl)] at h
  have t0 := Lib.tabIs_of_head (name := "hart/decode.jumps") (k := .i64) (zs := [4, 0, 0, 0, 0, 0, 0, 0]) glob_jumps type_jumps Tryd.underlying44 Tryd.underlying3 cells3 cells44 h
  have h0 := laidMet.tail h
  have t1 := Lib.tabIs_of_head (name := "hart/decode.branches") (k := .i64) (zs := [5, 6, 0, 0, 7, 8, 9, 10]) glob_branches type_branches Tryd.underlying44 Tryd.underlying3 cells3 cells44 h0
  have h1 := laidMet.tail h0
  have t2 := Lib.tabIs_of_head (name := "hart/decode.loads") (k := .i64) (zs := [11, 12, 13, 0, 14, 15, 0, 0]) glob_loads type_loads Tryd.underlying44 Tryd.underlying3 cells3 cells44 h1
  have h2 := laidMet.tail h1
  have t3 := Lib.tabIs_of_head (name := "hart/decode.stores") (k := .i64) (zs := [16, 17, 18, 0, 0, 0, 0, 0]) glob_stores type_stores Tryd.underlying44 Tryd.underlying3 cells3 cells44 h2
  have h3 := laidMet.tail h2
  have t4 := Lib.tabIs_of_head (name := "hart/decode.fences") (k := .i64) (zs := [38, 0, 0, 0, 0, 0, 0, 0]) glob_fences type_fences Tryd.underlying44 Tryd.underlying3 cells3 cells44 h3
  have h4 := laidMet.tail h3
  have t5 := Lib.tabIs_of_head (name := "hart/decode.controls") (k := .i64) (zs := [0, 44, 45, 46, 0, 47, 48, 49]) glob_controls type_controls Tryd.underlying44 Tryd.underlying3 cells3 cells44 h4
  have h5 := laidMet.tail h4
  have t6 := Lib.tabIs_of_head (name := "hart/decode.immediates") (k := .i64) (zs := [19, 0, 20, 21, 22, 0, 23, 24]) glob_immediates type_immediates Tryd.underlying44 Tryd.underlying3 cells3 cells44 h5
  have h6 := laidMet.tail h5
  have t7 := Lib.tabIs_of_head (name := "hart/decode.shifts0") (k := .i64) (zs := [0, 25, 0, 0, 0, 26, 0, 0]) glob_shifts0 type_shifts0 Tryd.underlying44 Tryd.underlying3 cells3 cells44 h6
  have h7 := laidMet.tail h6
  have t8 := Lib.tabIs_of_head (name := "hart/decode.shifts20") (k := .i64) (zs := [0, 0, 0, 0, 0, 27, 0, 0]) glob_shifts20 type_shifts20 Tryd.underlying44 Tryd.underlying3 cells3 cells44 h7
  have h8 := laidMet.tail h7
  have t9 := Lib.tabIs_of_head (name := "hart/decode.registers0") (k := .i64) (zs := [28, 30, 31, 32, 33, 34, 36, 37]) glob_registers0 type_registers0 Tryd.underlying44 Tryd.underlying3 cells3 cells44 h8
  have h9 := laidMet.tail h8
  have t10 := Lib.tabIs_of_head (name := "hart/decode.registers20") (k := .i64) (zs := [29, 0, 0, 0, 0, 35, 0, 0]) glob_registers20 type_registers20 Tryd.underlying44 Tryd.underlying3 cells3 cells44 h9
  refine ⟨World.block_lt_of_cell? W ⟨10, 0, none⟩ (t5.cell glob_controls 0 (by decide)), fun f hf => t0.cell glob_jumps f (by simpa using hf), fun f hf => t1.cell glob_branches f (by simpa using hf), fun f hf => t2.cell glob_loads f (by simpa using hf), fun f hf => t3.cell glob_stores f (by simpa using hf), fun f hf => t4.cell glob_fences f (by simpa using hf), fun f hf => t6.cell glob_immediates f (by simpa using hf), fun f hf => t7.cell glob_shifts0 f (by simpa using hf), fun f hf => t8.cell glob_shifts20 f (by simpa using hf), fun f hf => t9.cell glob_registers0 f (by simpa using hf), fun f hf => t10.cell glob_registers20 f (by simpa using hf), fun f hf => t5.cell glob_controls f (by simpa using hf)⟩

/-- The door's own heap meets the condition. -/
theorem door_met (os : Os) (args : Array Value) : laidMetH Tryd.prog Rows.decodesRow.laid ((World.doorLaid Tryd.prog 400 os).forCall (fun _ _ => 0) ⟨#[], args, []⟩).memory :=
  laidMetH_of_parts3 (fuel := 8) (laidMet_of_run' 8 (by kernel_rfl) (by kernel_rfl)) (by kernel_rfl) (by kernel_rfl)
end Go.Proofs.YteiideeechnekaaDoor
