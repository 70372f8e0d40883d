/-
  NARROWER THAN 'FOR EVERY INPUT', by the rows' own cells (each row's printed sentence says how): Plain: laid · Traps: laid · Devices: laid · Runs: laid · All: laid · Exacts: laid.
  DERIVED. THE GIVEN ROWS OF THIS SEAT. 6 by the template 'for every input the law returns true; each argument reads behind the call as it read before'; 0 by the template 'total and deterministic' (their statements: YteiideeechnekaaGreatDoorTotals.lean).
  GIVEN WITH THE SEED: the statements are not yours to turn. If you find one false, say at which input.
  Laid BY PROGRAM, IN A SANDBOX (cutbox-rows.mjs): the forced cells as the released guide's own fill.sh prints them over the translation ddc6848d6ec8b237… (all of the seat's roots in one cut). By AI agents, Wed Nov 11 2026. No macro, syntax, notation, axiom, sorry.
-/
import Derived.Test.YteiideeechnekaaGreatDoorChecked
import GoSem.Claim
import GoSem.ClaimJoined
import GoSem.ClaimMapViews
import Derived.JoinedTies
import Derived.KernelRfl
namespace Go.Proofs.YteiideeechnekaaGreatDoor
/- THE CELL 'sum', in the pinned program and in every row, IS THE sha256 OF THE DUMP (.gsa) THAT YteiideeechnekaaGreatDoorProg.lean LOADS. Nothing in Lean hashes anything: it is a label: what it is worth is what the hold of that sum in a sandbox is worth. -/
noncomputable def Tryz.pinned : Pinned := { name := "yteiideeechnekaagreatdoor", sum := "ddc6848d6ec8b237b21069e10313ba58408466a0dfe7e2880fb3e3493d6a6a4f", checked := Tryz.checked }
namespace Rows
def none {H : Type} : Left H := { results := [], args := [] }

/- WHAT THE LISTED PACKAGE-LEVEL VARIABLES READ AS WHEN THE CALL BEGINS. Each datum BY PROGRAM (the guide's laid-datum.mjs) off the statement by which the dump's own 'gosem.cut.vars' lays the variable. In a bare row this is a premise. The card (YteiideeechnekaaGreatDoorCards.lean) ties it to the program's text. -/
def laid_hart_decode_jumps {H : Type} : DataW H := .agg [.lit (.int .i64 4), .lit (.int .i64 0), .lit (.int .i64 0), .lit (.int .i64 0), .lit (.int .i64 0), .lit (.int .i64 0), .lit (.int .i64 0), .lit (.int .i64 0)]
def laid_hart_decode_branches {H : Type} : DataW H := .agg [.lit (.int .i64 5), .lit (.int .i64 6), .lit (.int .i64 0), .lit (.int .i64 0), .lit (.int .i64 7), .lit (.int .i64 8), .lit (.int .i64 9), .lit (.int .i64 10)]
def laid_hart_decode_loads {H : Type} : DataW H := .agg [.lit (.int .i64 11), .lit (.int .i64 12), .lit (.int .i64 13), .lit (.int .i64 0), .lit (.int .i64 14), .lit (.int .i64 15), .lit (.int .i64 0), .lit (.int .i64 0)]
def laid_hart_decode_stores {H : Type} : DataW H := .agg [.lit (.int .i64 16), .lit (.int .i64 17), .lit (.int .i64 18), .lit (.int .i64 0), .lit (.int .i64 0), .lit (.int .i64 0), .lit (.int .i64 0), .lit (.int .i64 0)]
def laid_hart_decode_fences {H : Type} : DataW H := .agg [.lit (.int .i64 38), .lit (.int .i64 0), .lit (.int .i64 0), .lit (.int .i64 0), .lit (.int .i64 0), .lit (.int .i64 0), .lit (.int .i64 0), .lit (.int .i64 0)]
def laid_hart_decode_controls {H : Type} : DataW H := .agg [.lit (.int .i64 0), .lit (.int .i64 44), .lit (.int .i64 45), .lit (.int .i64 46), .lit (.int .i64 0), .lit (.int .i64 47), .lit (.int .i64 48), .lit (.int .i64 49)]
def laid_hart_decode_immediates {H : Type} : DataW H := .agg [.lit (.int .i64 19), .lit (.int .i64 0), .lit (.int .i64 20), .lit (.int .i64 21), .lit (.int .i64 22), .lit (.int .i64 0), .lit (.int .i64 23), .lit (.int .i64 24)]
def laid_hart_decode_shifts0 {H : Type} : DataW H := .agg [.lit (.int .i64 0), .lit (.int .i64 25), .lit (.int .i64 0), .lit (.int .i64 0), .lit (.int .i64 0), .lit (.int .i64 26), .lit (.int .i64 0), .lit (.int .i64 0)]
def laid_hart_decode_shifts20 {H : Type} : DataW H := .agg [.lit (.int .i64 0), .lit (.int .i64 0), .lit (.int .i64 0), .lit (.int .i64 0), .lit (.int .i64 0), .lit (.int .i64 27), .lit (.int .i64 0), .lit (.int .i64 0)]
def laid_hart_decode_registers0 {H : Type} : DataW H := .agg [.lit (.int .i64 28), .lit (.int .i64 30), .lit (.int .i64 31), .lit (.int .i64 32), .lit (.int .i64 33), .lit (.int .i64 34), .lit (.int .i64 36), .lit (.int .i64 37)]
def laid_hart_decode_registers20 {H : Type} : DataW H := .agg [.lit (.int .i64 29), .lit (.int .i64 0), .lit (.int .i64 0), .lit (.int .i64 0), .lit (.int .i64 0), .lit (.int .i64 35), .lit (.int .i64 0), .lit (.int .i64 0)]
def laid_hart_hart_controlNumbers {H : Type} : DataW H := .agg [.lit (.int .u32 256), .lit (.int .u32 260), .lit (.int .u32 261), .lit (.int .u32 320), .lit (.int .u32 321), .lit (.int .u32 322), .lit (.int .u32 323), .lit (.int .u32 324), .lit (.int .u32 768), .lit (.int .u32 770), .lit (.int .u32 771), .lit (.int .u32 772), .lit (.int .u32 773), .lit (.int .u32 832), .lit (.int .u32 833), .lit (.int .u32 834), .lit (.int .u32 835), .lit (.int .u32 836), .lit (.int .u32 3860)]
def laid_hart_hart_precedence {H : Type} : DataW H := .agg [.lit (.int .u32 11), .lit (.int .u32 3), .lit (.int .u32 7), .lit (.int .u32 9), .lit (.int .u32 1), .lit (.int .u32 5)]

/-- 'hartlaw.Plain': WHATEVER THE INPUT: true; the input reads as it did. -/
def plainSpec : ChangeSpec := { name := "plain", fn := fun _ => fun
  | [d1, d2, d3] => { results := [.lit (.bool true)], args := [d1, d2, d3] }
  | _ => none }
def plainRow : OpenClaim := { program := "yteiideeechnekaagreatdoor", sum := "ddc6848d6ec8b237b21069e10313ba58408466a0dfe7e2880fb3e3493d6a6a4f", func := "hart/hartlaw.Plain", spec := "plain", named := ["hart/hart.precedence", "hart/decode.jumps", "hart/decode.branches", "hart/decode.loads", "hart/decode.stores", "hart/decode.fences", "hart/decode.immediates", "hart/decode.shifts0", "hart/decode.shifts20", "hart/decode.registers0", "hart/decode.registers20", "hart/decode.controls", "hart/hart.controlNumbers"], apart := false, laid := [("hart/decode.jumps", laid_hart_decode_jumps), ("hart/decode.branches", laid_hart_decode_branches), ("hart/decode.loads", laid_hart_decode_loads), ("hart/decode.stores", laid_hart_decode_stores), ("hart/decode.fences", laid_hart_decode_fences), ("hart/decode.controls", laid_hart_decode_controls), ("hart/decode.immediates", laid_hart_decode_immediates), ("hart/decode.shifts0", laid_hart_decode_shifts0), ("hart/decode.shifts20", laid_hart_decode_shifts20), ("hart/decode.registers0", laid_hart_decode_registers0), ("hart/decode.registers20", laid_hart_decode_registers20), ("hart/hart.controlNumbers", laid_hart_hart_controlNumbers), ("hart/hart.precedence", laid_hart_hart_precedence)] }
def PlainSaid : Prop := plainRow.holds Tryz.pinned (OpenSpec.ofChange plainSpec)

/-- ITS FALSE NEIGHBOUR: 'it returns false'. Refute it at one input. -/
def plainWrong : ChangeSpec := { name := "plain", fn := fun _ => fun
  | [d1, d2, d3] => { results := [.lit (.bool false)], args := [d1, d2, d3] }
  | _ => none }
def PlainWrongFalsely : Prop := plainRow.holds Tryz.pinned (OpenSpec.ofChange plainWrong)

/-- 'hartlaw.Traps': WHATEVER THE INPUT: true; the input reads as it did. -/
def trapsSpec : ChangeSpec := { name := "traps", fn := fun _ => fun
  | [d1, d2, d3] => { results := [.lit (.bool true)], args := [d1, d2, d3] }
  | _ => none }
def trapsRow : OpenClaim := { program := "yteiideeechnekaagreatdoor", sum := "ddc6848d6ec8b237b21069e10313ba58408466a0dfe7e2880fb3e3493d6a6a4f", func := "hart/hartlaw.Traps", spec := "traps", named := ["hart/hart.precedence", "hart/decode.jumps", "hart/decode.branches", "hart/decode.loads", "hart/decode.stores", "hart/decode.fences", "hart/decode.immediates", "hart/decode.shifts0", "hart/decode.shifts20", "hart/decode.registers0", "hart/decode.registers20", "hart/decode.controls", "hart/hart.controlNumbers"], apart := false, laid := [("hart/decode.jumps", laid_hart_decode_jumps), ("hart/decode.branches", laid_hart_decode_branches), ("hart/decode.loads", laid_hart_decode_loads), ("hart/decode.stores", laid_hart_decode_stores), ("hart/decode.fences", laid_hart_decode_fences), ("hart/decode.controls", laid_hart_decode_controls), ("hart/decode.immediates", laid_hart_decode_immediates), ("hart/decode.shifts0", laid_hart_decode_shifts0), ("hart/decode.shifts20", laid_hart_decode_shifts20), ("hart/decode.registers0", laid_hart_decode_registers0), ("hart/decode.registers20", laid_hart_decode_registers20), ("hart/hart.controlNumbers", laid_hart_hart_controlNumbers), ("hart/hart.precedence", laid_hart_hart_precedence)] }
def TrapsSaid : Prop := trapsRow.holds Tryz.pinned (OpenSpec.ofChange trapsSpec)

/-- ITS FALSE NEIGHBOUR: 'it returns false'. Refute it at one input. -/
def trapsWrong : ChangeSpec := { name := "traps", fn := fun _ => fun
  | [d1, d2, d3] => { results := [.lit (.bool false)], args := [d1, d2, d3] }
  | _ => none }
def TrapsWrongFalsely : Prop := trapsRow.holds Tryz.pinned (OpenSpec.ofChange trapsWrong)

/-- 'hartlaw.Devices': WHATEVER THE INPUT: true; the input reads as it did. -/
def devicesSpec : ChangeSpec := { name := "devices", fn := fun _ => fun
  | [d1, d2, d3] => { results := [.lit (.bool true)], args := [d1, d2, d3] }
  | _ => none }
def devicesRow : OpenClaim := { program := "yteiideeechnekaagreatdoor", sum := "ddc6848d6ec8b237b21069e10313ba58408466a0dfe7e2880fb3e3493d6a6a4f", func := "hart/hartlaw.Devices", spec := "devices", named := ["hart/hart.precedence", "hart/decode.jumps", "hart/decode.branches", "hart/decode.loads", "hart/decode.stores", "hart/decode.fences", "hart/decode.immediates", "hart/decode.shifts0", "hart/decode.shifts20", "hart/decode.registers0", "hart/decode.registers20", "hart/decode.controls", "hart/hart.controlNumbers"], apart := false, laid := [("hart/decode.jumps", laid_hart_decode_jumps), ("hart/decode.branches", laid_hart_decode_branches), ("hart/decode.loads", laid_hart_decode_loads), ("hart/decode.stores", laid_hart_decode_stores), ("hart/decode.fences", laid_hart_decode_fences), ("hart/decode.controls", laid_hart_decode_controls), ("hart/decode.immediates", laid_hart_decode_immediates), ("hart/decode.shifts0", laid_hart_decode_shifts0), ("hart/decode.shifts20", laid_hart_decode_shifts20), ("hart/decode.registers0", laid_hart_decode_registers0), ("hart/decode.registers20", laid_hart_decode_registers20), ("hart/hart.controlNumbers", laid_hart_hart_controlNumbers), ("hart/hart.precedence", laid_hart_hart_precedence)] }
def DevicesSaid : Prop := devicesRow.holds Tryz.pinned (OpenSpec.ofChange devicesSpec)

/-- ITS FALSE NEIGHBOUR: 'it returns false'. Refute it at one input. -/
def devicesWrong : ChangeSpec := { name := "devices", fn := fun _ => fun
  | [d1, d2, d3] => { results := [.lit (.bool false)], args := [d1, d2, d3] }
  | _ => none }
def DevicesWrongFalsely : Prop := devicesRow.holds Tryz.pinned (OpenSpec.ofChange devicesWrong)

/-- 'hartlaw.Runs': WHATEVER THE INPUT: true; the input reads as it did. -/
def runsSpec : ChangeSpec := { name := "runs", fn := fun _ => fun
  | [d1, d2, d3] => { results := [.lit (.bool true)], args := [d1, d2, d3] }
  | _ => none }
def runsRow : OpenClaim := { program := "yteiideeechnekaagreatdoor", sum := "ddc6848d6ec8b237b21069e10313ba58408466a0dfe7e2880fb3e3493d6a6a4f", func := "hart/hartlaw.Runs", spec := "runs", named := ["hart/hart.precedence", "hart/decode.jumps", "hart/decode.branches", "hart/decode.loads", "hart/decode.stores", "hart/decode.fences", "hart/decode.immediates", "hart/decode.shifts0", "hart/decode.shifts20", "hart/decode.registers0", "hart/decode.registers20", "hart/decode.controls", "hart/hart.controlNumbers"], apart := false, laid := [("hart/decode.jumps", laid_hart_decode_jumps), ("hart/decode.branches", laid_hart_decode_branches), ("hart/decode.loads", laid_hart_decode_loads), ("hart/decode.stores", laid_hart_decode_stores), ("hart/decode.fences", laid_hart_decode_fences), ("hart/decode.controls", laid_hart_decode_controls), ("hart/decode.immediates", laid_hart_decode_immediates), ("hart/decode.shifts0", laid_hart_decode_shifts0), ("hart/decode.shifts20", laid_hart_decode_shifts20), ("hart/decode.registers0", laid_hart_decode_registers0), ("hart/decode.registers20", laid_hart_decode_registers20), ("hart/hart.controlNumbers", laid_hart_hart_controlNumbers), ("hart/hart.precedence", laid_hart_hart_precedence)] }
def RunsSaid : Prop := runsRow.holds Tryz.pinned (OpenSpec.ofChange runsSpec)

/-- ITS FALSE NEIGHBOUR: 'it returns false'. Refute it at one input. -/
def runsWrong : ChangeSpec := { name := "runs", fn := fun _ => fun
  | [d1, d2, d3] => { results := [.lit (.bool false)], args := [d1, d2, d3] }
  | _ => none }
def RunsWrongFalsely : Prop := runsRow.holds Tryz.pinned (OpenSpec.ofChange runsWrong)

/-- 'hartlaw.All': WHATEVER THE INPUT: true; the input reads as it did. -/
def allSpec : ChangeSpec := { name := "all", fn := fun _ => fun
  | [d1, d2, d3, d4, d5] => { results := [.lit (.bool true)], args := [d1, d2, d3, d4, d5] }
  | _ => none }
def allRow : OpenClaim := { program := "yteiideeechnekaagreatdoor", sum := "ddc6848d6ec8b237b21069e10313ba58408466a0dfe7e2880fb3e3493d6a6a4f", func := "hart/hartlaw.All", spec := "all", named := ["hart/hart.precedence", "hart/decode.jumps", "hart/decode.branches", "hart/decode.loads", "hart/decode.stores", "hart/decode.fences", "hart/decode.immediates", "hart/decode.shifts0", "hart/decode.shifts20", "hart/decode.registers0", "hart/decode.registers20", "hart/decode.controls", "hart/hart.controlNumbers"], apart := false, laid := [("hart/decode.jumps", laid_hart_decode_jumps), ("hart/decode.branches", laid_hart_decode_branches), ("hart/decode.loads", laid_hart_decode_loads), ("hart/decode.stores", laid_hart_decode_stores), ("hart/decode.fences", laid_hart_decode_fences), ("hart/decode.controls", laid_hart_decode_controls), ("hart/decode.immediates", laid_hart_decode_immediates), ("hart/decode.shifts0", laid_hart_decode_shifts0), ("hart/decode.shifts20", laid_hart_decode_shifts20), ("hart/decode.registers0", laid_hart_decode_registers0), ("hart/decode.registers20", laid_hart_decode_registers20), ("hart/hart.controlNumbers", laid_hart_hart_controlNumbers), ("hart/hart.precedence", laid_hart_hart_precedence)] }
def AllSaid : Prop := allRow.holds Tryz.pinned (OpenSpec.ofChange allSpec)

/-- ITS FALSE NEIGHBOUR: 'it returns false'. Refute it at one input. -/
def allWrong : ChangeSpec := { name := "all", fn := fun _ => fun
  | [d1, d2, d3, d4, d5] => { results := [.lit (.bool false)], args := [d1, d2, d3, d4, d5] }
  | _ => none }
def AllWrongFalsely : Prop := allRow.holds Tryz.pinned (OpenSpec.ofChange allWrong)

/-- 'hartkeep.Exacts': WHATEVER THE INPUT: true; the input reads as it did. -/
def exactsSpec : ChangeSpec := { name := "exacts", fn := fun _ => fun
  | [d1, d2, d3] => { results := [.lit (.bool true)], args := [d1, d2, d3] }
  | _ => none }
def exactsRow : OpenClaim := { program := "yteiideeechnekaagreatdoor", sum := "ddc6848d6ec8b237b21069e10313ba58408466a0dfe7e2880fb3e3493d6a6a4f", func := "hart/hartkeep.Exacts", spec := "exacts", named := ["hart/hart.precedence", "hart/decode.jumps", "hart/decode.branches", "hart/decode.loads", "hart/decode.stores", "hart/decode.fences", "hart/decode.immediates", "hart/decode.shifts0", "hart/decode.shifts20", "hart/decode.registers0", "hart/decode.registers20", "hart/decode.controls", "hart/hart.controlNumbers"], apart := false, laid := [("hart/decode.jumps", laid_hart_decode_jumps), ("hart/decode.branches", laid_hart_decode_branches), ("hart/decode.loads", laid_hart_decode_loads), ("hart/decode.stores", laid_hart_decode_stores), ("hart/decode.fences", laid_hart_decode_fences), ("hart/decode.controls", laid_hart_decode_controls), ("hart/decode.immediates", laid_hart_decode_immediates), ("hart/decode.shifts0", laid_hart_decode_shifts0), ("hart/decode.shifts20", laid_hart_decode_shifts20), ("hart/decode.registers0", laid_hart_decode_registers0), ("hart/decode.registers20", laid_hart_decode_registers20), ("hart/hart.controlNumbers", laid_hart_hart_controlNumbers), ("hart/hart.precedence", laid_hart_hart_precedence)] }
def ExactsSaid : Prop := exactsRow.holds Tryz.pinned (OpenSpec.ofChange exactsSpec)

/-- ITS FALSE NEIGHBOUR: 'it returns false'. Refute it at one input. -/
def exactsWrong : ChangeSpec := { name := "exacts", fn := fun _ => fun
  | [d1, d2, d3] => { results := [.lit (.bool false)], args := [d1, d2, d3] }
  | _ => none }
def ExactsWrongFalsely : Prop := exactsRow.holds Tryz.pinned (OpenSpec.ofChange exactsWrong)

/- THE SECOND FORM. 'bulk': how many values and letters a reading holds, each counted each time it is reached (what is shared counts as often as it is met; a slice's spare places count too). A statement '..UptoSaid' is the law's where the arguments, and the package variables that the reading takes, are together of bulk at most 1048576: NARROWER than '..Said'. Prove '..Said' where nothing that the law and all that it calls make is longer than what came in: it says more and counts as full. Else prove '..UptoSaid'. A law counts once. -/
mutual
def uptoBulk {H : Type} : DataW H → Nat
  | .lit (.string bytes) => bytes.length + 1
  | .lit _ => 1
  | .nil => 1
  | .ptr d => uptoBulk d + 1
  | .slice elems spare => uptoBulkAll elems + uptoBulkAll spare + 1
  | .agg parts => uptoBulkAll parts + 1
  | .iface _ d => uptoBulk d + 1
  | .map entries => uptoBulkEntries entries + 1
  | .held _ => 1
def uptoBulkAll {H : Type} : List (DataW H) → Nat
  | [] => 0
  | d :: r => uptoBulk d + uptoBulkAll r
def uptoBulkEntries {H : Type} : List (Lit × DataW H) → Nat
  | [] => 0
  | x :: r => uptoBulkEntry x + uptoBulkEntries r
def uptoBulkEntry {H : Type} : Lit × DataW H → Nat
  | (.string bytes, d) => bytes.length + uptoBulk d + 1
  | (_, d) => uptoBulk d + 1
 end
def uptoSmall : (H : Type) → List (DataW H) → Bool := fun _ ds => decide (uptoBulkAll ds ≤ 1048576)
def OpenSpec.upto (s : _root_.Go.ChangeSpec) : _root_.Go.OpenSpec := { _root_.Go.OpenSpec.ofChange s with cond := some uptoSmall }

/-- 'hartlaw.Plain', WHERE WHAT IT READS IS OF BULK AT MOST 1048576: true; the input reads as it did. -/
def plainUptoRow : OpenClaim := { program := "yteiideeechnekaagreatdoor", sum := "ddc6848d6ec8b237b21069e10313ba58408466a0dfe7e2880fb3e3493d6a6a4f", func := "hart/hartlaw.Plain", spec := "plain", named := ["hart/hart.precedence", "hart/decode.jumps", "hart/decode.branches", "hart/decode.loads", "hart/decode.stores", "hart/decode.fences", "hart/decode.immediates", "hart/decode.shifts0", "hart/decode.shifts20", "hart/decode.registers0", "hart/decode.registers20", "hart/decode.controls", "hart/hart.controlNumbers"], apart := false, laid := [("hart/decode.jumps", laid_hart_decode_jumps), ("hart/decode.branches", laid_hart_decode_branches), ("hart/decode.loads", laid_hart_decode_loads), ("hart/decode.stores", laid_hart_decode_stores), ("hart/decode.fences", laid_hart_decode_fences), ("hart/decode.controls", laid_hart_decode_controls), ("hart/decode.immediates", laid_hart_decode_immediates), ("hart/decode.shifts0", laid_hart_decode_shifts0), ("hart/decode.shifts20", laid_hart_decode_shifts20), ("hart/decode.registers0", laid_hart_decode_registers0), ("hart/decode.registers20", laid_hart_decode_registers20), ("hart/hart.controlNumbers", laid_hart_hart_controlNumbers), ("hart/hart.precedence", laid_hart_hart_precedence)], narrowed := true }
def PlainUptoSaid : Prop := plainUptoRow.holds Tryz.pinned (OpenSpec.upto plainSpec)

/-- 'hartlaw.Traps', WHERE WHAT IT READS IS OF BULK AT MOST 1048576: true; the input reads as it did. -/
def trapsUptoRow : OpenClaim := { program := "yteiideeechnekaagreatdoor", sum := "ddc6848d6ec8b237b21069e10313ba58408466a0dfe7e2880fb3e3493d6a6a4f", func := "hart/hartlaw.Traps", spec := "traps", named := ["hart/hart.precedence", "hart/decode.jumps", "hart/decode.branches", "hart/decode.loads", "hart/decode.stores", "hart/decode.fences", "hart/decode.immediates", "hart/decode.shifts0", "hart/decode.shifts20", "hart/decode.registers0", "hart/decode.registers20", "hart/decode.controls", "hart/hart.controlNumbers"], apart := false, laid := [("hart/decode.jumps", laid_hart_decode_jumps), ("hart/decode.branches", laid_hart_decode_branches), ("hart/decode.loads", laid_hart_decode_loads), ("hart/decode.stores", laid_hart_decode_stores), ("hart/decode.fences", laid_hart_decode_fences), ("hart/decode.controls", laid_hart_decode_controls), ("hart/decode.immediates", laid_hart_decode_immediates), ("hart/decode.shifts0", laid_hart_decode_shifts0), ("hart/decode.shifts20", laid_hart_decode_shifts20), ("hart/decode.registers0", laid_hart_decode_registers0), ("hart/decode.registers20", laid_hart_decode_registers20), ("hart/hart.controlNumbers", laid_hart_hart_controlNumbers), ("hart/hart.precedence", laid_hart_hart_precedence)], narrowed := true }
def TrapsUptoSaid : Prop := trapsUptoRow.holds Tryz.pinned (OpenSpec.upto trapsSpec)

/-- 'hartlaw.Devices', WHERE WHAT IT READS IS OF BULK AT MOST 1048576: true; the input reads as it did. -/
def devicesUptoRow : OpenClaim := { program := "yteiideeechnekaagreatdoor", sum := "ddc6848d6ec8b237b21069e10313ba58408466a0dfe7e2880fb3e3493d6a6a4f", func := "hart/hartlaw.Devices", spec := "devices", named := ["hart/hart.precedence", "hart/decode.jumps", "hart/decode.branches", "hart/decode.loads", "hart/decode.stores", "hart/decode.fences", "hart/decode.immediates", "hart/decode.shifts0", "hart/decode.shifts20", "hart/decode.registers0", "hart/decode.registers20", "hart/decode.controls", "hart/hart.controlNumbers"], apart := false, laid := [("hart/decode.jumps", laid_hart_decode_jumps), ("hart/decode.branches", laid_hart_decode_branches), ("hart/decode.loads", laid_hart_decode_loads), ("hart/decode.stores", laid_hart_decode_stores), ("hart/decode.fences", laid_hart_decode_fences), ("hart/decode.controls", laid_hart_decode_controls), ("hart/decode.immediates", laid_hart_decode_immediates), ("hart/decode.shifts0", laid_hart_decode_shifts0), ("hart/decode.shifts20", laid_hart_decode_shifts20), ("hart/decode.registers0", laid_hart_decode_registers0), ("hart/decode.registers20", laid_hart_decode_registers20), ("hart/hart.controlNumbers", laid_hart_hart_controlNumbers), ("hart/hart.precedence", laid_hart_hart_precedence)], narrowed := true }
def DevicesUptoSaid : Prop := devicesUptoRow.holds Tryz.pinned (OpenSpec.upto devicesSpec)

/-- 'hartlaw.Runs', WHERE WHAT IT READS IS OF BULK AT MOST 1048576: true; the input reads as it did. -/
def runsUptoRow : OpenClaim := { program := "yteiideeechnekaagreatdoor", sum := "ddc6848d6ec8b237b21069e10313ba58408466a0dfe7e2880fb3e3493d6a6a4f", func := "hart/hartlaw.Runs", spec := "runs", named := ["hart/hart.precedence", "hart/decode.jumps", "hart/decode.branches", "hart/decode.loads", "hart/decode.stores", "hart/decode.fences", "hart/decode.immediates", "hart/decode.shifts0", "hart/decode.shifts20", "hart/decode.registers0", "hart/decode.registers20", "hart/decode.controls", "hart/hart.controlNumbers"], apart := false, laid := [("hart/decode.jumps", laid_hart_decode_jumps), ("hart/decode.branches", laid_hart_decode_branches), ("hart/decode.loads", laid_hart_decode_loads), ("hart/decode.stores", laid_hart_decode_stores), ("hart/decode.fences", laid_hart_decode_fences), ("hart/decode.controls", laid_hart_decode_controls), ("hart/decode.immediates", laid_hart_decode_immediates), ("hart/decode.shifts0", laid_hart_decode_shifts0), ("hart/decode.shifts20", laid_hart_decode_shifts20), ("hart/decode.registers0", laid_hart_decode_registers0), ("hart/decode.registers20", laid_hart_decode_registers20), ("hart/hart.controlNumbers", laid_hart_hart_controlNumbers), ("hart/hart.precedence", laid_hart_hart_precedence)], narrowed := true }
def RunsUptoSaid : Prop := runsUptoRow.holds Tryz.pinned (OpenSpec.upto runsSpec)

/-- 'hartlaw.All', WHERE WHAT IT READS IS OF BULK AT MOST 1048576: true; the input reads as it did. -/
def allUptoRow : OpenClaim := { program := "yteiideeechnekaagreatdoor", sum := "ddc6848d6ec8b237b21069e10313ba58408466a0dfe7e2880fb3e3493d6a6a4f", func := "hart/hartlaw.All", spec := "all", named := ["hart/hart.precedence", "hart/decode.jumps", "hart/decode.branches", "hart/decode.loads", "hart/decode.stores", "hart/decode.fences", "hart/decode.immediates", "hart/decode.shifts0", "hart/decode.shifts20", "hart/decode.registers0", "hart/decode.registers20", "hart/decode.controls", "hart/hart.controlNumbers"], apart := false, laid := [("hart/decode.jumps", laid_hart_decode_jumps), ("hart/decode.branches", laid_hart_decode_branches), ("hart/decode.loads", laid_hart_decode_loads), ("hart/decode.stores", laid_hart_decode_stores), ("hart/decode.fences", laid_hart_decode_fences), ("hart/decode.controls", laid_hart_decode_controls), ("hart/decode.immediates", laid_hart_decode_immediates), ("hart/decode.shifts0", laid_hart_decode_shifts0), ("hart/decode.shifts20", laid_hart_decode_shifts20), ("hart/decode.registers0", laid_hart_decode_registers0), ("hart/decode.registers20", laid_hart_decode_registers20), ("hart/hart.controlNumbers", laid_hart_hart_controlNumbers), ("hart/hart.precedence", laid_hart_hart_precedence)], narrowed := true }
def AllUptoSaid : Prop := allUptoRow.holds Tryz.pinned (OpenSpec.upto allSpec)

/-- 'hartkeep.Exacts', WHERE WHAT IT READS IS OF BULK AT MOST 1048576: true; the input reads as it did. -/
def exactsUptoRow : OpenClaim := { program := "yteiideeechnekaagreatdoor", sum := "ddc6848d6ec8b237b21069e10313ba58408466a0dfe7e2880fb3e3493d6a6a4f", func := "hart/hartkeep.Exacts", spec := "exacts", named := ["hart/hart.precedence", "hart/decode.jumps", "hart/decode.branches", "hart/decode.loads", "hart/decode.stores", "hart/decode.fences", "hart/decode.immediates", "hart/decode.shifts0", "hart/decode.shifts20", "hart/decode.registers0", "hart/decode.registers20", "hart/decode.controls", "hart/hart.controlNumbers"], apart := false, laid := [("hart/decode.jumps", laid_hart_decode_jumps), ("hart/decode.branches", laid_hart_decode_branches), ("hart/decode.loads", laid_hart_decode_loads), ("hart/decode.stores", laid_hart_decode_stores), ("hart/decode.fences", laid_hart_decode_fences), ("hart/decode.controls", laid_hart_decode_controls), ("hart/decode.immediates", laid_hart_decode_immediates), ("hart/decode.shifts0", laid_hart_decode_shifts0), ("hart/decode.shifts20", laid_hart_decode_shifts20), ("hart/decode.registers0", laid_hart_decode_registers0), ("hart/decode.registers20", laid_hart_decode_registers20), ("hart/hart.controlNumbers", laid_hart_hart_controlNumbers), ("hart/hart.precedence", laid_hart_hart_precedence)], narrowed := true }
def ExactsUptoSaid : Prop := exactsUptoRow.holds Tryz.pinned (OpenSpec.upto exactsSpec)

end Rows
end Go.Proofs.YteiideeechnekaaGreatDoor
