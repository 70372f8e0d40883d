/-
  Rows beside a struct of thirteen cells that is written.
-/
import Derived.Test.YteiideeechnekaaSet13
namespace Go.Proofs.Yteiideeechnekaa
open Go.RowKit

theorem RowAt.put1 {W : World} {g cap : Nat} {xs : List Int} (h : RowAt W g cap xs) {R : Nat} (hne : g ≠ R) (j : Nat) (v : Value) : RowAt (W.setCell ⟨R, j, none⟩ v) g cap xs := by
  obtain ⟨cur, h1, r⟩ := h
  exact ⟨cur, (Below.heap_setCell W ⟨R, j, none⟩ v g hne).trans h1, r⟩
theorem RowAt.put13 {w : World} {g cap : Nat} {xs : List Int} (h : RowAt w g cap xs) {R : Nat} (hne : g ≠ R) (v0 v1 v2 v3 v4 v5 v6 v7 v8 v9 v10 v11 v12 : Value) : RowAt (((((((((((((w.setCell ⟨R, 0, none⟩ v0).setCell ⟨R, 1, none⟩ v1).setCell ⟨R, 2, none⟩ v2).setCell ⟨R, 3, none⟩ v3).setCell ⟨R, 4, none⟩ v4).setCell ⟨R, 5, none⟩ v5).setCell ⟨R, 6, none⟩ v6).setCell ⟨R, 7, none⟩ v7).setCell ⟨R, 8, none⟩ v8).setCell ⟨R, 9, none⟩ v9).setCell ⟨R, 10, none⟩ v10).setCell ⟨R, 11, none⟩ v11).setCell ⟨R, 12, none⟩ v12) g cap xs := (((((((((((((h.put1 hne 0 v0).put1 hne 1 v1).put1 hne 2 v2).put1 hne 3 v3).put1 hne 4 v4).put1 hne 5 v5).put1 hne 6 v6).put1 hne 7 v7).put1 hne 8 v8).put1 hne 9 v9).put1 hne 10 v10).put1 hne 11 v11).put1 hne 12 v12)
theorem below_put13 {B : Nat} {a w : World} (h : Below B a w) {R : Nat} (hR : B ≤ R) (v0 v1 v2 v3 v4 v5 v6 v7 v8 v9 v10 v11 v12 : Value) : Below B a (((((((((((((w.setCell ⟨R, 0, none⟩ v0).setCell ⟨R, 1, none⟩ v1).setCell ⟨R, 2, none⟩ v2).setCell ⟨R, 3, none⟩ v3).setCell ⟨R, 4, none⟩ v4).setCell ⟨R, 5, none⟩ v5).setCell ⟨R, 6, none⟩ v6).setCell ⟨R, 7, none⟩ v7).setCell ⟨R, 8, none⟩ v8).setCell ⟨R, 9, none⟩ v9).setCell ⟨R, 10, none⟩ v10).setCell ⟨R, 11, none⟩ v11).setCell ⟨R, 12, none⟩ v12) := (((((((((((((h.setCell (p := ⟨R, 0, none⟩) hR v0).setCell (p := ⟨R, 1, none⟩) hR v1).setCell (p := ⟨R, 2, none⟩) hR v2).setCell (p := ⟨R, 3, none⟩) hR v3).setCell (p := ⟨R, 4, none⟩) hR v4).setCell (p := ⟨R, 5, none⟩) hR v5).setCell (p := ⟨R, 6, none⟩) hR v6).setCell (p := ⟨R, 7, none⟩) hR v7).setCell (p := ⟨R, 8, none⟩) hR v8).setCell (p := ⟨R, 9, none⟩) hR v9).setCell (p := ⟨R, 10, none⟩) hR v10).setCell (p := ⟨R, 11, none⟩) hR v11).setCell (p := ⟨R, 12, none⟩) hR v12)
end Go.Proofs.Yteiideeechnekaa
