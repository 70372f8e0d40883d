/-
  The memory's bytes as a string.
-/
import Derived.Test.YtkglcebkgpnmfaaCodeAt
namespace Go.Proofs.Ytkglcebkgpnmfaa
open Go.RowKit

def bytesOf (bs : List Int) : ByteArray := bs.foldl (fun r n => r.push (UInt8.ofNat n.toNat)) ByteArray.empty
theorem ram_string (W : World) (r : Nat) (bs : List Int) (h : RamAt W r bs) : (convert 33 9 (.slice (some ⟨r, 0, none⟩) bs.length bs.length)).run Try.prog W = .ok (.string (bytesOf bs)) W := by
  rw [run_convert_bytes_string W _ _ _ _ _ _ Try.underlying33 Try.underlying5 Try.underlying9]
  refine run_bytesToString W ⟨r, 0, none⟩ bs.length bs.length bs ?_
  have hl : bs.length = (bs.map (Value.int .u8)).length := by simp
  conv => lhs; rw [hl]
  refine run_loadCells_list (P := Try.prog) W ⟨r, 0, none⟩ (bs.map (Value.int .u8)) fun j v hj => ?_
  have e : (⟨r, 0, none⟩ : Addr).add j = ⟨r, j, none⟩ := by unfold Addr.add; split <;> simp_all
  rw [e, cell_of_row W r j _ _ (0, 0) h.1, ← hj]
  simp
end Go.Proofs.Ytkglcebkgpnmfaa
