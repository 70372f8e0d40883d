/-
  What the listed tables give the walk, and the row's start.
-/
import Derived.Test.YteiideeechnekaaGreatDoorRows
import Derived.Test.YteiideeechnekaaGreatDoorDCode
import Derived.Test.YteiideeechnekaaGreatDoorCodeCsr
import Derived.ProofKit
import Derived.LaidMore
import Derived.OpenShut
import Derived.Lib.LaidTab
import Derived.Stop.LaidErr
import Derived.Stop.Joined
namespace Go.Proofs.YteiideeechnekaaGreatDoor
open Go.ChangeShapes Go.WideShapes Go.ChangeAt Go.WideMaps Go.WideElems Go.RowKit

theorem own : ownKnob Tryz.prog.godebug = none := by kernel_rfl
theorem cells3 : Tryz.prog.cellsOf 3 = 1 := by kernel_rfl
theorem cells8 : Tryz.prog.cellsOf 139 = 8 := by kernel_rfl
theorem cells29 : Tryz.prog.cellsOf 29 = 1 := by kernel_rfl
theorem cells19 : Tryz.prog.cellsOf 148 = 19 := by kernel_rfl
theorem cells6 : Tryz.prog.cellsOf 119 = 6 := by kernel_rfl
theorem glob_jumps : Tryz.prog.globalNamed "hart/decode.jumps" = some 1 := by kernel_rfl
theorem type_jumps : (Tryz.prog.globals[1]?).map (·.type) = some 139 := by kernel_rfl
theorem glob_branches : Tryz.prog.globalNamed "hart/decode.branches" = some 2 := by kernel_rfl
theorem type_branches : (Tryz.prog.globals[2]?).map (·.type) = some 139 := by kernel_rfl
theorem glob_loads : Tryz.prog.globalNamed "hart/decode.loads" = some 3 := by kernel_rfl
theorem type_loads : (Tryz.prog.globals[3]?).map (·.type) = some 139 := by kernel_rfl
theorem glob_stores : Tryz.prog.globalNamed "hart/decode.stores" = some 4 := by kernel_rfl
theorem type_stores : (Tryz.prog.globals[4]?).map (·.type) = some 139 := by kernel_rfl
theorem glob_fences : Tryz.prog.globalNamed "hart/decode.fences" = some 5 := by kernel_rfl
theorem type_fences : (Tryz.prog.globals[5]?).map (·.type) = some 139 := by kernel_rfl
theorem glob_controls : Tryz.prog.globalNamed "hart/decode.controls" = some 11 := by kernel_rfl
theorem type_controls : (Tryz.prog.globals[11]?).map (·.type) = some 139 := by kernel_rfl
theorem glob_immediates : Tryz.prog.globalNamed "hart/decode.immediates" = some 6 := by kernel_rfl
theorem type_immediates : (Tryz.prog.globals[6]?).map (·.type) = some 139 := by kernel_rfl
theorem glob_shifts0 : Tryz.prog.globalNamed "hart/decode.shifts0" = some 7 := by kernel_rfl
theorem type_shifts0 : (Tryz.prog.globals[7]?).map (·.type) = some 139 := by kernel_rfl
theorem glob_shifts20 : Tryz.prog.globalNamed "hart/decode.shifts20" = some 8 := by kernel_rfl
theorem type_shifts20 : (Tryz.prog.globals[8]?).map (·.type) = some 139 := by kernel_rfl
theorem glob_registers0 : Tryz.prog.globalNamed "hart/decode.registers0" = some 9 := by kernel_rfl
theorem type_registers0 : (Tryz.prog.globals[9]?).map (·.type) = some 139 := by kernel_rfl
theorem glob_registers20 : Tryz.prog.globalNamed "hart/decode.registers20" = some 10 := by kernel_rfl
theorem type_registers20 : (Tryz.prog.globals[10]?).map (·.type) = some 139 := by kernel_rfl
theorem glob_controlNumbers : Tryz.prog.globalNamed "hart/hart.controlNumbers" = some 12 := by kernel_rfl
theorem type_controlNumbers : (Tryz.prog.globals[12]?).map (·.type) = some 148 := by kernel_rfl
theorem glob_precedence : Tryz.prog.globalNamed "hart/hart.precedence" = some 0 := by kernel_rfl
theorem type_precedence : (Tryz.prog.globals[0]?).map (·.type) = some 119 := by kernel_rfl

theorem tabs_of_laid {W : World} (h : laidMetH Tryz.prog Rows.exactsRow.laid W) : D.Tabs W ∧ T19 W := by
  rw [MakeChecks.laidMetH_plain _ _ _ (by kernel_rfl)] at h
  have t0 := Lib.tabIs_of_head (name := "hart/decode.jumps") (k := .i64) (zs := [4, 0, 0, 0, 0, 0, 0, 0]) glob_jumps type_jumps Tryz.underlying139 Tryz.underlying3 cells3 cells8 h
  have h0 := laidMet.tail h
  have t1 := Lib.tabIs_of_head (name := "hart/decode.branches") (k := .i64) (zs := [5, 6, 0, 0, 7, 8, 9, 10]) glob_branches type_branches Tryz.underlying139 Tryz.underlying3 cells3 cells8 h0
  have h1 := laidMet.tail h0
  have t2 := Lib.tabIs_of_head (name := "hart/decode.loads") (k := .i64) (zs := [11, 12, 13, 0, 14, 15, 0, 0]) glob_loads type_loads Tryz.underlying139 Tryz.underlying3 cells3 cells8 h1
  have h2 := laidMet.tail h1
  have t3 := Lib.tabIs_of_head (name := "hart/decode.stores") (k := .i64) (zs := [16, 17, 18, 0, 0, 0, 0, 0]) glob_stores type_stores Tryz.underlying139 Tryz.underlying3 cells3 cells8 h2
  have h3 := laidMet.tail h2
  have t4 := Lib.tabIs_of_head (name := "hart/decode.fences") (k := .i64) (zs := [38, 0, 0, 0, 0, 0, 0, 0]) glob_fences type_fences Tryz.underlying139 Tryz.underlying3 cells3 cells8 h3
  have h4 := laidMet.tail h3
  have t5 := Lib.tabIs_of_head (name := "hart/decode.controls") (k := .i64) (zs := [0, 44, 45, 46, 0, 47, 48, 49]) glob_controls type_controls Tryz.underlying139 Tryz.underlying3 cells3 cells8 h4
  have h5 := laidMet.tail h4
  have t6 := Lib.tabIs_of_head (name := "hart/decode.immediates") (k := .i64) (zs := [19, 0, 20, 21, 22, 0, 23, 24]) glob_immediates type_immediates Tryz.underlying139 Tryz.underlying3 cells3 cells8 h5
  have h6 := laidMet.tail h5
  have t7 := Lib.tabIs_of_head (name := "hart/decode.shifts0") (k := .i64) (zs := [0, 25, 0, 0, 0, 26, 0, 0]) glob_shifts0 type_shifts0 Tryz.underlying139 Tryz.underlying3 cells3 cells8 h6
  have h7 := laidMet.tail h6
  have t8 := Lib.tabIs_of_head (name := "hart/decode.shifts20") (k := .i64) (zs := [0, 0, 0, 0, 0, 27, 0, 0]) glob_shifts20 type_shifts20 Tryz.underlying139 Tryz.underlying3 cells3 cells8 h7
  have h8 := laidMet.tail h7
  have t9 := Lib.tabIs_of_head (name := "hart/decode.registers0") (k := .i64) (zs := [28, 30, 31, 32, 33, 34, 36, 37]) glob_registers0 type_registers0 Tryz.underlying139 Tryz.underlying3 cells3 cells8 h8
  have h9 := laidMet.tail h8
  have t10 := Lib.tabIs_of_head (name := "hart/decode.registers20") (k := .i64) (zs := [29, 0, 0, 0, 0, 35, 0, 0]) glob_registers20 type_registers20 Tryz.underlying139 Tryz.underlying3 cells3 cells8 h9
  have h10 := laidMet.tail h9
  have t11 := Lib.tabIs_of_head (name := "hart/hart.controlNumbers") (k := .u32) (zs := numsR) glob_controlNumbers type_controlNumbers Tryz.underlying148 Tryz.underlying29 cells29 cells19 h10
  have h11 := laidMet.tail h10
  have t12 := Lib.tabIs_of_head (name := "hart/hart.precedence") (k := .u32) (zs := precR) glob_precedence type_precedence Tryz.underlying119 Tryz.underlying29 cells29 cells6 h11
  refine ⟨⟨World.block_lt_of_cell? W ⟨11, 0, none⟩ (t5.cell glob_controls 0 (by decide)), fun f hf => t0.cell glob_jumps f (by simpa using hf), fun f hf => t1.cell glob_branches f (by simpa using hf), fun f hf => t2.cell glob_loads f (by simpa using hf), fun f hf => t3.cell glob_stores f (by simpa using hf), fun f hf => t4.cell glob_fences f (by simpa using hf), fun f hf => t6.cell glob_immediates f (by simpa using hf), fun f hf => t7.cell glob_shifts0 f (by simpa using hf), fun f hf => t8.cell glob_shifts20 f (by simpa using hf), fun f hf => t9.cell glob_registers0 f (by simpa using hf), fun f hf => t10.cell glob_registers20 f (by simpa using hf), fun f hf => t5.cell glob_controls f (by simpa using hf)⟩, World.block_lt_of_cell? W ⟨12, 0, none⟩ (t11.cell glob_controlNumbers 0 (by decide)), fun j hj => t11.cell glob_controlNumbers j hj, fun j hj => t12.cell glob_precedence j hj⟩

/-- The door's own heap meets the condition. -/
theorem door_met (os : Os) (args : Array Value) : laidMetH Tryz.prog Rows.exactsRow.laid ((World.doorLaid Tryz.prog 400 os).forCall (fun _ _ => 0) ⟨#[], args, []⟩).memory :=
  laidMetH_of_parts3 (fuel := 8) (laidMet_of_run' 8 (by kernel_rfl) (by kernel_rfl)) (by kernel_rfl) (by kernel_rfl)
end Go.Proofs.YteiideeechnekaaGreatDoor
