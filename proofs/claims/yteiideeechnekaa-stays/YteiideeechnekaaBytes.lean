/-
  The memory's bytes as a string.
-/
import Derived.Test.YteiideeechnekaaCodeAt
namespace Go.Proofs.Yteiideeechnekaa
open Go.RowKit

def bytesOf (bs : List Int) : ByteArray := bs.foldl (fun r n => r.push (UInt8.ofNat n.toNat)) ByteArray.empty
theorem ram_in_string (W : World) (r cap : Nat) (bs : List Int) (h : RamIn W r cap bs) : (convert 59 9 (.slice (some ⟨r, 0, none⟩) bs.length cap)).run Try.prog W = .ok (.string (bytesOf bs)) W := by
  rw [run_convert_bytes_string W _ _ _ _ _ _ Try.underlying59 Try.underlying5 Try.underlying9]
  refine run_bytesToString W ⟨r, 0, none⟩ bs.length cap bs ?_
  have hl : bs.length = (bs.map (Value.int .u8)).length := by simp
  conv => lhs; rw [hl]
  refine run_loadCells_list (P := Try.prog) W ⟨r, 0, none⟩ (bs.map (Value.int .u8)) fun j v hj => ?_
  have e : (⟨r, 0, none⟩ : Addr).add j = ⟨r, j, none⟩ := by unfold Addr.add; split <;> simp_all
  have hl' : j < bs.length := by have := (List.getElem?_eq_some_iff.1 hj).1; simpa using this
  rw [e, h.cell j hl', ← hj]
  simp [List.getD, hl']
theorem ram_string (W : World) (r : Nat) (bs : List Int) (h : RamAt W r bs) : (convert 59 9 (.slice (some ⟨r, 0, none⟩) bs.length bs.length)).run Try.prog W = .ok (.string (bytesOf bs)) W := ram_in_string W r _ bs h.room
end Go.Proofs.Yteiideeechnekaa
