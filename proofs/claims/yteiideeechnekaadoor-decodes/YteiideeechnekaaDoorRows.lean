/-
  NARROWER THAN 'FOR EVERY INPUT', by the rows' own cells (each row's printed sentence says how): Decodes: laid · Fields: laid.
  DERIVED. THE GIVEN ROWS OF THIS SEAT. 2 by the template 'for every input the law returns true; each argument reads behind the call as it read before'; 0 by the template 'total and deterministic' (their statements: YteiideeechnekaaDoorTotals.lean).
  GIVEN WITH THE SEED: the statements are not yours to turn. If you find one false, say at which input.
  Laid BY PROGRAM, IN A SANDBOX (cutbox-rows.mjs): the forced cells as the released guide's own fill.sh prints them over the translation 6263322556901602… (all of the seat's roots in one cut). By AI agents, Wed Nov 11 2026. No macro, syntax, notation, axiom, sorry.
-/
import Derived.Test.YteiideeechnekaaDoorChecked
import GoSem.Claim
import GoSem.ClaimJoined
import GoSem.ClaimMapViews
import Derived.JoinedTies
import Derived.KernelRfl
namespace Go.Proofs.YteiideeechnekaaDoor
/- THE CELL 'sum', in the pinned program and in every row, IS THE sha256 OF THE DUMP (.gsa) THAT YteiideeechnekaaDoorProg.lean LOADS. Nothing in Lean hashes anything: it is a label: what it is worth is what the hold of that sum in a sandbox is worth. -/
noncomputable def Tryd.pinned : Pinned := { name := "yteiideeechnekaadoor", sum := "6263322556901602b9ac8e4c56a0f4c24fcd0328f81ff08322fcfeb98715dca1", checked := Tryd.checked }
namespace Rows
def none {H : Type} : Left H := { results := [], args := [] }

/- WHAT THE LISTED PACKAGE-LEVEL VARIABLES READ AS WHEN THE CALL BEGINS. Each datum BY PROGRAM (the guide's laid-datum.mjs) off the statement by which the dump's own 'gosem.cut.vars' lays the variable. In a bare row this is a premise. The card (YteiideeechnekaaDoorCards.lean) ties it to the program's text. -/
def laid_hart_decode_jumps {H : Type} : DataW H := .agg [.lit (.int .i64 4), .lit (.int .i64 0), .lit (.int .i64 0), .lit (.int .i64 0), .lit (.int .i64 0), .lit (.int .i64 0), .lit (.int .i64 0), .lit (.int .i64 0)]
def laid_hart_decode_branches {H : Type} : DataW H := .agg [.lit (.int .i64 5), .lit (.int .i64 6), .lit (.int .i64 0), .lit (.int .i64 0), .lit (.int .i64 7), .lit (.int .i64 8), .lit (.int .i64 9), .lit (.int .i64 10)]
def laid_hart_decode_loads {H : Type} : DataW H := .agg [.lit (.int .i64 11), .lit (.int .i64 12), .lit (.int .i64 13), .lit (.int .i64 0), .lit (.int .i64 14), .lit (.int .i64 15), .lit (.int .i64 0), .lit (.int .i64 0)]
def laid_hart_decode_stores {H : Type} : DataW H := .agg [.lit (.int .i64 16), .lit (.int .i64 17), .lit (.int .i64 18), .lit (.int .i64 0), .lit (.int .i64 0), .lit (.int .i64 0), .lit (.int .i64 0), .lit (.int .i64 0)]
def laid_hart_decode_fences {H : Type} : DataW H := .agg [.lit (.int .i64 38), .lit (.int .i64 0), .lit (.int .i64 0), .lit (.int .i64 0), .lit (.int .i64 0), .lit (.int .i64 0), .lit (.int .i64 0), .lit (.int .i64 0)]
def laid_hart_decode_controls {H : Type} : DataW H := .agg [.lit (.int .i64 0), .lit (.int .i64 44), .lit (.int .i64 45), .lit (.int .i64 46), .lit (.int .i64 0), .lit (.int .i64 47), .lit (.int .i64 48), .lit (.int .i64 49)]
def laid_hart_decode_immediates {H : Type} : DataW H := .agg [.lit (.int .i64 19), .lit (.int .i64 0), .lit (.int .i64 20), .lit (.int .i64 21), .lit (.int .i64 22), .lit (.int .i64 0), .lit (.int .i64 23), .lit (.int .i64 24)]
def laid_hart_decode_shifts0 {H : Type} : DataW H := .agg [.lit (.int .i64 0), .lit (.int .i64 25), .lit (.int .i64 0), .lit (.int .i64 0), .lit (.int .i64 0), .lit (.int .i64 26), .lit (.int .i64 0), .lit (.int .i64 0)]
def laid_hart_decode_shifts20 {H : Type} : DataW H := .agg [.lit (.int .i64 0), .lit (.int .i64 0), .lit (.int .i64 0), .lit (.int .i64 0), .lit (.int .i64 0), .lit (.int .i64 27), .lit (.int .i64 0), .lit (.int .i64 0)]
def laid_hart_decode_registers0 {H : Type} : DataW H := .agg [.lit (.int .i64 28), .lit (.int .i64 30), .lit (.int .i64 31), .lit (.int .i64 32), .lit (.int .i64 33), .lit (.int .i64 34), .lit (.int .i64 36), .lit (.int .i64 37)]
def laid_hart_decode_registers20 {H : Type} : DataW H := .agg [.lit (.int .i64 29), .lit (.int .i64 0), .lit (.int .i64 0), .lit (.int .i64 0), .lit (.int .i64 0), .lit (.int .i64 35), .lit (.int .i64 0), .lit (.int .i64 0)]

/-- 'hartlaw.Decodes': WHATEVER THE INPUT: true; the input reads as it did. -/
def decodesSpec : ChangeSpec := { name := "decodes", fn := fun _ => fun
  | [d] => { results := [.lit (.bool true)], args := [d] }
  | _ => none }
def decodesRow : OpenClaim := { program := "yteiideeechnekaadoor", sum := "6263322556901602b9ac8e4c56a0f4c24fcd0328f81ff08322fcfeb98715dca1", func := "hart/hartlaw.Decodes", spec := "decodes", named := ["hart/decode.jumps", "hart/decode.branches", "hart/decode.loads", "hart/decode.stores", "hart/decode.fences", "hart/decode.immediates", "hart/decode.shifts0", "hart/decode.shifts20", "hart/decode.registers0", "hart/decode.registers20", "hart/decode.controls"], apart := false, laid := [("hart/decode.jumps", laid_hart_decode_jumps), ("hart/decode.branches", laid_hart_decode_branches), ("hart/decode.loads", laid_hart_decode_loads), ("hart/decode.stores", laid_hart_decode_stores), ("hart/decode.fences", laid_hart_decode_fences), ("hart/decode.controls", laid_hart_decode_controls), ("hart/decode.immediates", laid_hart_decode_immediates), ("hart/decode.shifts0", laid_hart_decode_shifts0), ("hart/decode.shifts20", laid_hart_decode_shifts20), ("hart/decode.registers0", laid_hart_decode_registers0), ("hart/decode.registers20", laid_hart_decode_registers20)] }
def DecodesSaid : Prop := decodesRow.holds Tryd.pinned (OpenSpec.ofChange decodesSpec)

/-- ITS FALSE NEIGHBOUR: 'it returns false'. Refute it at one input. -/
def decodesWrong : ChangeSpec := { name := "decodes", fn := fun _ => fun
  | [d] => { results := [.lit (.bool false)], args := [d] }
  | _ => none }
def DecodesWrongFalsely : Prop := decodesRow.holds Tryd.pinned (OpenSpec.ofChange decodesWrong)

/-- 'hartkeep.Fields': WHATEVER THE INPUT: true; the input reads as it did. -/
def fieldsSpec : ChangeSpec := { name := "fields", fn := fun _ => fun
  | [d1, d2, d3, d4] => { results := [.lit (.bool true)], args := [d1, d2, d3, d4] }
  | _ => none }
def fieldsRow : OpenClaim := { program := "yteiideeechnekaadoor", sum := "6263322556901602b9ac8e4c56a0f4c24fcd0328f81ff08322fcfeb98715dca1", func := "hart/hartkeep.Fields", spec := "fields", named := ["hart/decode.jumps", "hart/decode.branches", "hart/decode.loads", "hart/decode.stores", "hart/decode.fences", "hart/decode.immediates", "hart/decode.shifts0", "hart/decode.shifts20", "hart/decode.registers0", "hart/decode.registers20", "hart/decode.controls"], apart := false, laid := [("hart/decode.jumps", laid_hart_decode_jumps), ("hart/decode.branches", laid_hart_decode_branches), ("hart/decode.loads", laid_hart_decode_loads), ("hart/decode.stores", laid_hart_decode_stores), ("hart/decode.fences", laid_hart_decode_fences), ("hart/decode.controls", laid_hart_decode_controls), ("hart/decode.immediates", laid_hart_decode_immediates), ("hart/decode.shifts0", laid_hart_decode_shifts0), ("hart/decode.shifts20", laid_hart_decode_shifts20), ("hart/decode.registers0", laid_hart_decode_registers0), ("hart/decode.registers20", laid_hart_decode_registers20)] }
def FieldsSaid : Prop := fieldsRow.holds Tryd.pinned (OpenSpec.ofChange fieldsSpec)

/-- ITS FALSE NEIGHBOUR: 'it returns false'. Refute it at one input. -/
def fieldsWrong : ChangeSpec := { name := "fields", fn := fun _ => fun
  | [d1, d2, d3, d4] => { results := [.lit (.bool false)], args := [d1, d2, d3, d4] }
  | _ => none }
def FieldsWrongFalsely : Prop := fieldsRow.holds Tryd.pinned (OpenSpec.ofChange fieldsWrong)

/- THE SECOND FORM. 'bulk': how many values and letters a reading holds, each counted each time it is reached (what is shared counts as often as it is met; a slice's spare places count too). A statement '..UptoSaid' is the law's where the arguments, and the package variables that the reading takes, are together of bulk at most 1048576: NARROWER than '..Said'. Prove '..Said' where nothing that the law and all that it calls make is longer than what came in: it says more and counts as full. Else prove '..UptoSaid'. A law counts once. -/
mutual
def uptoBulk {H : Type} : DataW H → Nat
  | .lit (.string bytes) => bytes.length + 1
  | .lit _ => 1
  | .nil => 1
  | .ptr d => uptoBulk d + 1
  | .slice elems spare => uptoBulkAll elems + uptoBulkAll spare + 1
  | .agg parts => uptoBulkAll parts + 1
  | .iface _ d => uptoBulk d + 1
  | .map entries => uptoBulkEntries entries + 1
  | .held _ => 1
def uptoBulkAll {H : Type} : List (DataW H) → Nat
  | [] => 0
  | d :: r => uptoBulk d + uptoBulkAll r
def uptoBulkEntries {H : Type} : List (Lit × DataW H) → Nat
  | [] => 0
  | x :: r => uptoBulkEntry x + uptoBulkEntries r
def uptoBulkEntry {H : Type} : Lit × DataW H → Nat
  | (.string bytes, d) => bytes.length + uptoBulk d + 1
  | (_, d) => uptoBulk d + 1
 end
def uptoSmall : (H : Type) → List (DataW H) → Bool := fun _ ds => decide (uptoBulkAll ds ≤ 1048576)
def OpenSpec.upto (s : _root_.Go.ChangeSpec) : _root_.Go.OpenSpec := { _root_.Go.OpenSpec.ofChange s with cond := some uptoSmall }

/-- 'hartlaw.Decodes', WHERE WHAT IT READS IS OF BULK AT MOST 1048576: true; the input reads as it did. -/
def decodesUptoRow : OpenClaim := { program := "yteiideeechnekaadoor", sum := "6263322556901602b9ac8e4c56a0f4c24fcd0328f81ff08322fcfeb98715dca1", func := "hart/hartlaw.Decodes", spec := "decodes", named := ["hart/decode.jumps", "hart/decode.branches", "hart/decode.loads", "hart/decode.stores", "hart/decode.fences", "hart/decode.immediates", "hart/decode.shifts0", "hart/decode.shifts20", "hart/decode.registers0", "hart/decode.registers20", "hart/decode.controls"], apart := false, laid := [("hart/decode.jumps", laid_hart_decode_jumps), ("hart/decode.branches", laid_hart_decode_branches), ("hart/decode.loads", laid_hart_decode_loads), ("hart/decode.stores", laid_hart_decode_stores), ("hart/decode.fences", laid_hart_decode_fences), ("hart/decode.controls", laid_hart_decode_controls), ("hart/decode.immediates", laid_hart_decode_immediates), ("hart/decode.shifts0", laid_hart_decode_shifts0), ("hart/decode.shifts20", laid_hart_decode_shifts20), ("hart/decode.registers0", laid_hart_decode_registers0), ("hart/decode.registers20", laid_hart_decode_registers20)], narrowed := true }
def DecodesUptoSaid : Prop := decodesUptoRow.holds Tryd.pinned (OpenSpec.upto decodesSpec)

/-- 'hartkeep.Fields', WHERE WHAT IT READS IS OF BULK AT MOST 1048576: true; the input reads as it did. -/
def fieldsUptoRow : OpenClaim := { program := "yteiideeechnekaadoor", sum := "6263322556901602b9ac8e4c56a0f4c24fcd0328f81ff08322fcfeb98715dca1", func := "hart/hartkeep.Fields", spec := "fields", named := ["hart/decode.jumps", "hart/decode.branches", "hart/decode.loads", "hart/decode.stores", "hart/decode.fences", "hart/decode.immediates", "hart/decode.shifts0", "hart/decode.shifts20", "hart/decode.registers0", "hart/decode.registers20", "hart/decode.controls"], apart := false, laid := [("hart/decode.jumps", laid_hart_decode_jumps), ("hart/decode.branches", laid_hart_decode_branches), ("hart/decode.loads", laid_hart_decode_loads), ("hart/decode.stores", laid_hart_decode_stores), ("hart/decode.fences", laid_hart_decode_fences), ("hart/decode.controls", laid_hart_decode_controls), ("hart/decode.immediates", laid_hart_decode_immediates), ("hart/decode.shifts0", laid_hart_decode_shifts0), ("hart/decode.shifts20", laid_hart_decode_shifts20), ("hart/decode.registers0", laid_hart_decode_registers0), ("hart/decode.registers20", laid_hart_decode_registers20)], narrowed := true }
def FieldsUptoSaid : Prop := fieldsUptoRow.holds Tryd.pinned (OpenSpec.upto fieldsSpec)

end Rows
end Go.Proofs.YteiideeechnekaaDoor
