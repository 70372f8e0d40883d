import Derived.Test.YteiideeechnekaaGreatDoorCodeAt
import Derived.RegionTactic
/-
  A struct of thirteen cells, written and read again.
-/
namespace Go.Proofs.YteiideeechnekaaGreatDoor
open Go.RowKit

theorem get_same (w : World) (R j : Nat) (v u : Value) (h : w.cell? ⟨R, j, none⟩ = some u) : (w.setCell ⟨R, j, none⟩ v).cell? ⟨R, j, none⟩ = some v := World.cell?_setCell_same _ _ _ h
theorem get_other (w : World) (R i j : Nat) (v : Value) (h : j ≠ i) : (w.setCell ⟨R, i, none⟩ v).cell? ⟨R, j, none⟩ = w.cell? ⟨R, j, none⟩ := World.cell?_setCell_other _ _ _ _ (by intro e; injection e; omega)
theorem get13_0 (w : World) (R : Nat) (v0 v1 v2 v3 v4 v5 v6 v7 v8 v9 v10 v11 v12 u : Value) (h : w.cell? ⟨R, 0, none⟩ = some u) : (((((((((((((w.setCell ⟨R, 0, none⟩ v0).setCell ⟨R, 1, none⟩ v1).setCell ⟨R, 2, none⟩ v2).setCell ⟨R, 3, none⟩ v3).setCell ⟨R, 4, none⟩ v4).setCell ⟨R, 5, none⟩ v5).setCell ⟨R, 6, none⟩ v6).setCell ⟨R, 7, none⟩ v7).setCell ⟨R, 8, none⟩ v8).setCell ⟨R, 9, none⟩ v9).setCell ⟨R, 10, none⟩ v10).setCell ⟨R, 11, none⟩ v11).setCell ⟨R, 12, none⟩ v12).cell? ⟨R, 0, none⟩ = some v0 := by
  rw [get_other _ R 12 0 _ (by decide), get_other _ R 11 0 _ (by decide), get_other _ R 10 0 _ (by decide), get_other _ R 9 0 _ (by decide), get_other _ R 8 0 _ (by decide), get_other _ R 7 0 _ (by decide), get_other _ R 6 0 _ (by decide), get_other _ R 5 0 _ (by decide), get_other _ R 4 0 _ (by decide), get_other _ R 3 0 _ (by decide), get_other _ R 2 0 _ (by decide), get_other _ R 1 0 _ (by decide)]
  exact get_same w R 0 v0 u (by exact h)
theorem get13_1 (w : World) (R : Nat) (v0 v1 v2 v3 v4 v5 v6 v7 v8 v9 v10 v11 v12 u : Value) (h : w.cell? ⟨R, 1, none⟩ = some u) : (((((((((((((w.setCell ⟨R, 0, none⟩ v0).setCell ⟨R, 1, none⟩ v1).setCell ⟨R, 2, none⟩ v2).setCell ⟨R, 3, none⟩ v3).setCell ⟨R, 4, none⟩ v4).setCell ⟨R, 5, none⟩ v5).setCell ⟨R, 6, none⟩ v6).setCell ⟨R, 7, none⟩ v7).setCell ⟨R, 8, none⟩ v8).setCell ⟨R, 9, none⟩ v9).setCell ⟨R, 10, none⟩ v10).setCell ⟨R, 11, none⟩ v11).setCell ⟨R, 12, none⟩ v12).cell? ⟨R, 1, none⟩ = some v1 := by
  rw [get_other _ R 12 1 _ (by decide), get_other _ R 11 1 _ (by decide), get_other _ R 10 1 _ (by decide), get_other _ R 9 1 _ (by decide), get_other _ R 8 1 _ (by decide), get_other _ R 7 1 _ (by decide), get_other _ R 6 1 _ (by decide), get_other _ R 5 1 _ (by decide), get_other _ R 4 1 _ (by decide), get_other _ R 3 1 _ (by decide), get_other _ R 2 1 _ (by decide)]
  exact get_same (w.setCell ⟨R, 0, none⟩ v0) R 1 v1 u (by rw [get_other _ R 0 1 _ (by decide)]; exact h)
theorem get13_2 (w : World) (R : Nat) (v0 v1 v2 v3 v4 v5 v6 v7 v8 v9 v10 v11 v12 u : Value) (h : w.cell? ⟨R, 2, none⟩ = some u) : (((((((((((((w.setCell ⟨R, 0, none⟩ v0).setCell ⟨R, 1, none⟩ v1).setCell ⟨R, 2, none⟩ v2).setCell ⟨R, 3, none⟩ v3).setCell ⟨R, 4, none⟩ v4).setCell ⟨R, 5, none⟩ v5).setCell ⟨R, 6, none⟩ v6).setCell ⟨R, 7, none⟩ v7).setCell ⟨R, 8, none⟩ v8).setCell ⟨R, 9, none⟩ v9).setCell ⟨R, 10, none⟩ v10).setCell ⟨R, 11, none⟩ v11).setCell ⟨R, 12, none⟩ v12).cell? ⟨R, 2, none⟩ = some v2 := by
  rw [get_other _ R 12 2 _ (by decide), get_other _ R 11 2 _ (by decide), get_other _ R 10 2 _ (by decide), get_other _ R 9 2 _ (by decide), get_other _ R 8 2 _ (by decide), get_other _ R 7 2 _ (by decide), get_other _ R 6 2 _ (by decide), get_other _ R 5 2 _ (by decide), get_other _ R 4 2 _ (by decide), get_other _ R 3 2 _ (by decide)]
  exact get_same ((w.setCell ⟨R, 0, none⟩ v0).setCell ⟨R, 1, none⟩ v1) R 2 v2 u (by rw [get_other _ R 1 2 _ (by decide), get_other _ R 0 2 _ (by decide)]; exact h)
theorem get13_3 (w : World) (R : Nat) (v0 v1 v2 v3 v4 v5 v6 v7 v8 v9 v10 v11 v12 u : Value) (h : w.cell? ⟨R, 3, none⟩ = some u) : (((((((((((((w.setCell ⟨R, 0, none⟩ v0).setCell ⟨R, 1, none⟩ v1).setCell ⟨R, 2, none⟩ v2).setCell ⟨R, 3, none⟩ v3).setCell ⟨R, 4, none⟩ v4).setCell ⟨R, 5, none⟩ v5).setCell ⟨R, 6, none⟩ v6).setCell ⟨R, 7, none⟩ v7).setCell ⟨R, 8, none⟩ v8).setCell ⟨R, 9, none⟩ v9).setCell ⟨R, 10, none⟩ v10).setCell ⟨R, 11, none⟩ v11).setCell ⟨R, 12, none⟩ v12).cell? ⟨R, 3, none⟩ = some v3 := by
  rw [get_other _ R 12 3 _ (by decide), get_other _ R 11 3 _ (by decide), get_other _ R 10 3 _ (by decide), get_other _ R 9 3 _ (by decide), get_other _ R 8 3 _ (by decide), get_other _ R 7 3 _ (by decide), get_other _ R 6 3 _ (by decide), get_other _ R 5 3 _ (by decide), get_other _ R 4 3 _ (by decide)]
  exact get_same (((w.setCell ⟨R, 0, none⟩ v0).setCell ⟨R, 1, none⟩ v1).setCell ⟨R, 2, none⟩ v2) R 3 v3 u (by rw [get_other _ R 2 3 _ (by decide), get_other _ R 1 3 _ (by decide), get_other _ R 0 3 _ (by decide)]; exact h)
theorem get13_4 (w : World) (R : Nat) (v0 v1 v2 v3 v4 v5 v6 v7 v8 v9 v10 v11 v12 u : Value) (h : w.cell? ⟨R, 4, none⟩ = some u) : (((((((((((((w.setCell ⟨R, 0, none⟩ v0).setCell ⟨R, 1, none⟩ v1).setCell ⟨R, 2, none⟩ v2).setCell ⟨R, 3, none⟩ v3).setCell ⟨R, 4, none⟩ v4).setCell ⟨R, 5, none⟩ v5).setCell ⟨R, 6, none⟩ v6).setCell ⟨R, 7, none⟩ v7).setCell ⟨R, 8, none⟩ v8).setCell ⟨R, 9, none⟩ v9).setCell ⟨R, 10, none⟩ v10).setCell ⟨R, 11, none⟩ v11).setCell ⟨R, 12, none⟩ v12).cell? ⟨R, 4, none⟩ = some v4 := by
  rw [get_other _ R 12 4 _ (by decide), get_other _ R 11 4 _ (by decide), get_other _ R 10 4 _ (by decide), get_other _ R 9 4 _ (by decide), get_other _ R 8 4 _ (by decide), get_other _ R 7 4 _ (by decide), get_other _ R 6 4 _ (by decide), get_other _ R 5 4 _ (by decide)]
  exact get_same ((((w.setCell ⟨R, 0, none⟩ v0).setCell ⟨R, 1, none⟩ v1).setCell ⟨R, 2, none⟩ v2).setCell ⟨R, 3, none⟩ v3) R 4 v4 u (by rw [get_other _ R 3 4 _ (by decide), get_other _ R 2 4 _ (by decide), get_other _ R 1 4 _ (by decide), get_other _ R 0 4 _ (by decide)]; exact h)
theorem get13_5 (w : World) (R : Nat) (v0 v1 v2 v3 v4 v5 v6 v7 v8 v9 v10 v11 v12 u : Value) (h : w.cell? ⟨R, 5, none⟩ = some u) : (((((((((((((w.setCell ⟨R, 0, none⟩ v0).setCell ⟨R, 1, none⟩ v1).setCell ⟨R, 2, none⟩ v2).setCell ⟨R, 3, none⟩ v3).setCell ⟨R, 4, none⟩ v4).setCell ⟨R, 5, none⟩ v5).setCell ⟨R, 6, none⟩ v6).setCell ⟨R, 7, none⟩ v7).setCell ⟨R, 8, none⟩ v8).setCell ⟨R, 9, none⟩ v9).setCell ⟨R, 10, none⟩ v10).setCell ⟨R, 11, none⟩ v11).setCell ⟨R, 12, none⟩ v12).cell? ⟨R, 5, none⟩ = some v5 := by
  rw [get_other _ R 12 5 _ (by decide), get_other _ R 11 5 _ (by decide), get_other _ R 10 5 _ (by decide), get_other _ R 9 5 _ (by decide), get_other _ R 8 5 _ (by decide), get_other _ R 7 5 _ (by decide), get_other _ R 6 5 _ (by decide)]
  exact get_same (((((w.setCell ⟨R, 0, none⟩ v0).setCell ⟨R, 1, none⟩ v1).setCell ⟨R, 2, none⟩ v2).setCell ⟨R, 3, none⟩ v3).setCell ⟨R, 4, none⟩ v4) R 5 v5 u (by rw [get_other _ R 4 5 _ (by decide), get_other _ R 3 5 _ (by decide), get_other _ R 2 5 _ (by decide), get_other _ R 1 5 _ (by decide), get_other _ R 0 5 _ (by decide)]; exact h)
theorem get13_6 (w : World) (R : Nat) (v0 v1 v2 v3 v4 v5 v6 v7 v8 v9 v10 v11 v12 u : Value) (h : w.cell? ⟨R, 6, none⟩ = some u) : (((((((((((((w.setCell ⟨R, 0, none⟩ v0).setCell ⟨R, 1, none⟩ v1).setCell ⟨R, 2, none⟩ v2).setCell ⟨R, 3, none⟩ v3).setCell ⟨R, 4, none⟩ v4).setCell ⟨R, 5, none⟩ v5).setCell ⟨R, 6, none⟩ v6).setCell ⟨R, 7, none⟩ v7).setCell ⟨R, 8, none⟩ v8).setCell ⟨R, 9, none⟩ v9).setCell ⟨R, 10, none⟩ v10).setCell ⟨R, 11, none⟩ v11).setCell ⟨R, 12, none⟩ v12).cell? ⟨R, 6, none⟩ = some v6 := by
  rw [get_other _ R 12 6 _ (by decide), get_other _ R 11 6 _ (by decide), get_other _ R 10 6 _ (by decide), get_other _ R 9 6 _ (by decide), get_other _ R 8 6 _ (by decide), get_other _ R 7 6 _ (by decide)]
  exact get_same ((((((w.setCell ⟨R, 0, none⟩ v0).setCell ⟨R, 1, none⟩ v1).setCell ⟨R, 2, none⟩ v2).setCell ⟨R, 3, none⟩ v3).setCell ⟨R, 4, none⟩ v4).setCell ⟨R, 5, none⟩ v5) R 6 v6 u (by rw [get_other _ R 5 6 _ (by decide), get_other _ R 4 6 _ (by decide), get_other _ R 3 6 _ (by decide), get_other _ R 2 6 _ (by decide), get_other _ R 1 6 _ (by decide), get_other _ R 0 6 _ (by decide)]; exact h)
theorem get13_7 (w : World) (R : Nat) (v0 v1 v2 v3 v4 v5 v6 v7 v8 v9 v10 v11 v12 u : Value) (h : w.cell? ⟨R, 7, none⟩ = some u) : (((((((((((((w.setCell ⟨R, 0, none⟩ v0).setCell ⟨R, 1, none⟩ v1).setCell ⟨R, 2, none⟩ v2).setCell ⟨R, 3, none⟩ v3).setCell ⟨R, 4, none⟩ v4).setCell ⟨R, 5, none⟩ v5).setCell ⟨R, 6, none⟩ v6).setCell ⟨R, 7, none⟩ v7).setCell ⟨R, 8, none⟩ v8).setCell ⟨R, 9, none⟩ v9).setCell ⟨R, 10, none⟩ v10).setCell ⟨R, 11, none⟩ v11).setCell ⟨R, 12, none⟩ v12).cell? ⟨R, 7, none⟩ = some v7 := by
  rw [get_other _ R 12 7 _ (by decide), get_other _ R 11 7 _ (by decide), get_other _ R 10 7 _ (by decide), get_other _ R 9 7 _ (by decide), get_other _ R 8 7 _ (by decide)]
  exact get_same (((((((w.setCell ⟨R, 0, none⟩ v0).setCell ⟨R, 1, none⟩ v1).setCell ⟨R, 2, none⟩ v2).setCell ⟨R, 3, none⟩ v3).setCell ⟨R, 4, none⟩ v4).setCell ⟨R, 5, none⟩ v5).setCell ⟨R, 6, none⟩ v6) R 7 v7 u (by rw [get_other _ R 6 7 _ (by decide), get_other _ R 5 7 _ (by decide), get_other _ R 4 7 _ (by decide), get_other _ R 3 7 _ (by decide), get_other _ R 2 7 _ (by decide), get_other _ R 1 7 _ (by decide), get_other _ R 0 7 _ (by decide)]; exact h)
theorem get13_8 (w : World) (R : Nat) (v0 v1 v2 v3 v4 v5 v6 v7 v8 v9 v10 v11 v12 u : Value) (h : w.cell? ⟨R, 8, none⟩ = some u) : (((((((((((((w.setCell ⟨R, 0, none⟩ v0).setCell ⟨R, 1, none⟩ v1).setCell ⟨R, 2, none⟩ v2).setCell ⟨R, 3, none⟩ v3).setCell ⟨R, 4, none⟩ v4).setCell ⟨R, 5, none⟩ v5).setCell ⟨R, 6, none⟩ v6).setCell ⟨R, 7, none⟩ v7).setCell ⟨R, 8, none⟩ v8).setCell ⟨R, 9, none⟩ v9).setCell ⟨R, 10, none⟩ v10).setCell ⟨R, 11, none⟩ v11).setCell ⟨R, 12, none⟩ v12).cell? ⟨R, 8, none⟩ = some v8 := by
  rw [get_other _ R 12 8 _ (by decide), get_other _ R 11 8 _ (by decide), get_other _ R 10 8 _ (by decide), get_other _ R 9 8 _ (by decide)]
  exact get_same ((((((((w.setCell ⟨R, 0, none⟩ v0).setCell ⟨R, 1, none⟩ v1).setCell ⟨R, 2, none⟩ v2).setCell ⟨R, 3, none⟩ v3).setCell ⟨R, 4, none⟩ v4).setCell ⟨R, 5, none⟩ v5).setCell ⟨R, 6, none⟩ v6).setCell ⟨R, 7, none⟩ v7) R 8 v8 u (by rw [get_other _ R 7 8 _ (by decide), get_other _ R 6 8 _ (by decide), get_other _ R 5 8 _ (by decide), get_other _ R 4 8 _ (by decide), get_other _ R 3 8 _ (by decide), get_other _ R 2 8 _ (by decide), get_other _ R 1 8 _ (by decide), get_other _ R 0 8 _ (by decide)]; exact h)
theorem get13_9 (w : World) (R : Nat) (v0 v1 v2 v3 v4 v5 v6 v7 v8 v9 v10 v11 v12 u : Value) (h : w.cell? ⟨R, 9, none⟩ = some u) : (((((((((((((w.setCell ⟨R, 0, none⟩ v0).setCell ⟨R, 1, none⟩ v1).setCell ⟨R, 2, none⟩ v2).setCell ⟨R, 3, none⟩ v3).setCell ⟨R, 4, none⟩ v4).setCell ⟨R, 5, none⟩ v5).setCell ⟨R, 6, none⟩ v6).setCell ⟨R, 7, none⟩ v7).setCell ⟨R, 8, none⟩ v8).setCell ⟨R, 9, none⟩ v9).setCell ⟨R, 10, none⟩ v10).setCell ⟨R, 11, none⟩ v11).setCell ⟨R, 12, none⟩ v12).cell? ⟨R, 9, none⟩ = some v9 := by
  rw [get_other _ R 12 9 _ (by decide), get_other _ R 11 9 _ (by decide), get_other _ R 10 9 _ (by decide)]
  exact get_same (((((((((w.setCell ⟨R, 0, none⟩ v0).setCell ⟨R, 1, none⟩ v1).setCell ⟨R, 2, none⟩ v2).setCell ⟨R, 3, none⟩ v3).setCell ⟨R, 4, none⟩ v4).setCell ⟨R, 5, none⟩ v5).setCell ⟨R, 6, none⟩ v6).setCell ⟨R, 7, none⟩ v7).setCell ⟨R, 8, none⟩ v8) R 9 v9 u (by rw [get_other _ R 8 9 _ (by decide), get_other _ R 7 9 _ (by decide), get_other _ R 6 9 _ (by decide), get_other _ R 5 9 _ (by decide), get_other _ R 4 9 _ (by decide), get_other _ R 3 9 _ (by decide), get_other _ R 2 9 _ (by decide), get_other _ R 1 9 _ (by decide), get_other _ R 0 9 _ (by decide)]; exact h)
theorem get13_10 (w : World) (R : Nat) (v0 v1 v2 v3 v4 v5 v6 v7 v8 v9 v10 v11 v12 u : Value) (h : w.cell? ⟨R, 10, none⟩ = some u) : (((((((((((((w.setCell ⟨R, 0, none⟩ v0).setCell ⟨R, 1, none⟩ v1).setCell ⟨R, 2, none⟩ v2).setCell ⟨R, 3, none⟩ v3).setCell ⟨R, 4, none⟩ v4).setCell ⟨R, 5, none⟩ v5).setCell ⟨R, 6, none⟩ v6).setCell ⟨R, 7, none⟩ v7).setCell ⟨R, 8, none⟩ v8).setCell ⟨R, 9, none⟩ v9).setCell ⟨R, 10, none⟩ v10).setCell ⟨R, 11, none⟩ v11).setCell ⟨R, 12, none⟩ v12).cell? ⟨R, 10, none⟩ = some v10 := by
  rw [get_other _ R 12 10 _ (by decide), get_other _ R 11 10 _ (by decide)]
  exact get_same ((((((((((w.setCell ⟨R, 0, none⟩ v0).setCell ⟨R, 1, none⟩ v1).setCell ⟨R, 2, none⟩ v2).setCell ⟨R, 3, none⟩ v3).setCell ⟨R, 4, none⟩ v4).setCell ⟨R, 5, none⟩ v5).setCell ⟨R, 6, none⟩ v6).setCell ⟨R, 7, none⟩ v7).setCell ⟨R, 8, none⟩ v8).setCell ⟨R, 9, none⟩ v9) R 10 v10 u (by rw [get_other _ R 9 10 _ (by decide), get_other _ R 8 10 _ (by decide), get_other _ R 7 10 _ (by decide), get_other _ R 6 10 _ (by decide), get_other _ R 5 10 _ (by decide), get_other _ R 4 10 _ (by decide), get_other _ R 3 10 _ (by decide), get_other _ R 2 10 _ (by decide), get_other _ R 1 10 _ (by decide), get_other _ R 0 10 _ (by decide)]; exact h)
theorem get13_11 (w : World) (R : Nat) (v0 v1 v2 v3 v4 v5 v6 v7 v8 v9 v10 v11 v12 u : Value) (h : w.cell? ⟨R, 11, none⟩ = some u) : (((((((((((((w.setCell ⟨R, 0, none⟩ v0).setCell ⟨R, 1, none⟩ v1).setCell ⟨R, 2, none⟩ v2).setCell ⟨R, 3, none⟩ v3).setCell ⟨R, 4, none⟩ v4).setCell ⟨R, 5, none⟩ v5).setCell ⟨R, 6, none⟩ v6).setCell ⟨R, 7, none⟩ v7).setCell ⟨R, 8, none⟩ v8).setCell ⟨R, 9, none⟩ v9).setCell ⟨R, 10, none⟩ v10).setCell ⟨R, 11, none⟩ v11).setCell ⟨R, 12, none⟩ v12).cell? ⟨R, 11, none⟩ = some v11 := by
  rw [get_other _ R 12 11 _ (by decide)]
  exact get_same (((((((((((w.setCell ⟨R, 0, none⟩ v0).setCell ⟨R, 1, none⟩ v1).setCell ⟨R, 2, none⟩ v2).setCell ⟨R, 3, none⟩ v3).setCell ⟨R, 4, none⟩ v4).setCell ⟨R, 5, none⟩ v5).setCell ⟨R, 6, none⟩ v6).setCell ⟨R, 7, none⟩ v7).setCell ⟨R, 8, none⟩ v8).setCell ⟨R, 9, none⟩ v9).setCell ⟨R, 10, none⟩ v10) R 11 v11 u (by rw [get_other _ R 10 11 _ (by decide), get_other _ R 9 11 _ (by decide), get_other _ R 8 11 _ (by decide), get_other _ R 7 11 _ (by decide), get_other _ R 6 11 _ (by decide), get_other _ R 5 11 _ (by decide), get_other _ R 4 11 _ (by decide), get_other _ R 3 11 _ (by decide), get_other _ R 2 11 _ (by decide), get_other _ R 1 11 _ (by decide), get_other _ R 0 11 _ (by decide)]; exact h)
theorem get13_12 (w : World) (R : Nat) (v0 v1 v2 v3 v4 v5 v6 v7 v8 v9 v10 v11 v12 u : Value) (h : w.cell? ⟨R, 12, none⟩ = some u) : (((((((((((((w.setCell ⟨R, 0, none⟩ v0).setCell ⟨R, 1, none⟩ v1).setCell ⟨R, 2, none⟩ v2).setCell ⟨R, 3, none⟩ v3).setCell ⟨R, 4, none⟩ v4).setCell ⟨R, 5, none⟩ v5).setCell ⟨R, 6, none⟩ v6).setCell ⟨R, 7, none⟩ v7).setCell ⟨R, 8, none⟩ v8).setCell ⟨R, 9, none⟩ v9).setCell ⟨R, 10, none⟩ v10).setCell ⟨R, 11, none⟩ v11).setCell ⟨R, 12, none⟩ v12).cell? ⟨R, 12, none⟩ = some v12 := by
  skip
  exact get_same ((((((((((((w.setCell ⟨R, 0, none⟩ v0).setCell ⟨R, 1, none⟩ v1).setCell ⟨R, 2, none⟩ v2).setCell ⟨R, 3, none⟩ v3).setCell ⟨R, 4, none⟩ v4).setCell ⟨R, 5, none⟩ v5).setCell ⟨R, 6, none⟩ v6).setCell ⟨R, 7, none⟩ v7).setCell ⟨R, 8, none⟩ v8).setCell ⟨R, 9, none⟩ v9).setCell ⟨R, 10, none⟩ v10).setCell ⟨R, 11, none⟩ v11) R 12 v12 u (by rw [get_other _ R 11 12 _ (by decide), get_other _ R 10 12 _ (by decide), get_other _ R 9 12 _ (by decide), get_other _ R 8 12 _ (by decide), get_other _ R 7 12 _ (by decide), get_other _ R 6 12 _ (by decide), get_other _ R 5 12 _ (by decide), get_other _ R 4 12 _ (by decide), get_other _ R 3 12 _ (by decide), get_other _ R 2 12 _ (by decide), get_other _ R 1 12 _ (by decide), get_other _ R 0 12 _ (by decide)]; exact h)
end Go.Proofs.YteiideeechnekaaGreatDoor

/-
  Rows beside a struct of thirteen cells that is written.
-/
namespace Go.Proofs.YteiideeechnekaaGreatDoor
open Go.RowKit

theorem RowAt.put1 {W : World} {g cap : Nat} {xs : List Int} (h : RowAt W g cap xs) {R : Nat} (hne : g ≠ R) (j : Nat) (v : Value) : RowAt (W.setCell ⟨R, j, none⟩ v) g cap xs := by
  obtain ⟨cur, h1, r⟩ := h
  exact ⟨cur, (Below.heap_setCell W ⟨R, j, none⟩ v g hne).trans h1, r⟩
theorem RowAt.put13 {w : World} {g cap : Nat} {xs : List Int} (h : RowAt w g cap xs) {R : Nat} (hne : g ≠ R) (v0 v1 v2 v3 v4 v5 v6 v7 v8 v9 v10 v11 v12 : Value) : RowAt (((((((((((((w.setCell ⟨R, 0, none⟩ v0).setCell ⟨R, 1, none⟩ v1).setCell ⟨R, 2, none⟩ v2).setCell ⟨R, 3, none⟩ v3).setCell ⟨R, 4, none⟩ v4).setCell ⟨R, 5, none⟩ v5).setCell ⟨R, 6, none⟩ v6).setCell ⟨R, 7, none⟩ v7).setCell ⟨R, 8, none⟩ v8).setCell ⟨R, 9, none⟩ v9).setCell ⟨R, 10, none⟩ v10).setCell ⟨R, 11, none⟩ v11).setCell ⟨R, 12, none⟩ v12) g cap xs := (((((((((((((h.put1 hne 0 v0).put1 hne 1 v1).put1 hne 2 v2).put1 hne 3 v3).put1 hne 4 v4).put1 hne 5 v5).put1 hne 6 v6).put1 hne 7 v7).put1 hne 8 v8).put1 hne 9 v9).put1 hne 10 v10).put1 hne 11 v11).put1 hne 12 v12)
theorem below_put13 {B : Nat} {a w : World} (h : Below B a w) {R : Nat} (hR : B ≤ R) (v0 v1 v2 v3 v4 v5 v6 v7 v8 v9 v10 v11 v12 : Value) : Below B a (((((((((((((w.setCell ⟨R, 0, none⟩ v0).setCell ⟨R, 1, none⟩ v1).setCell ⟨R, 2, none⟩ v2).setCell ⟨R, 3, none⟩ v3).setCell ⟨R, 4, none⟩ v4).setCell ⟨R, 5, none⟩ v5).setCell ⟨R, 6, none⟩ v6).setCell ⟨R, 7, none⟩ v7).setCell ⟨R, 8, none⟩ v8).setCell ⟨R, 9, none⟩ v9).setCell ⟨R, 10, none⟩ v10).setCell ⟨R, 11, none⟩ v11).setCell ⟨R, 12, none⟩ v12) := (((((((((((((h.setCell (p := ⟨R, 0, none⟩) hR v0).setCell (p := ⟨R, 1, none⟩) hR v1).setCell (p := ⟨R, 2, none⟩) hR v2).setCell (p := ⟨R, 3, none⟩) hR v3).setCell (p := ⟨R, 4, none⟩) hR v4).setCell (p := ⟨R, 5, none⟩) hR v5).setCell (p := ⟨R, 6, none⟩) hR v6).setCell (p := ⟨R, 7, none⟩) hR v7).setCell (p := ⟨R, 8, none⟩) hR v8).setCell (p := ⟨R, 9, none⟩) hR v9).setCell (p := ⟨R, 10, none⟩) hR v10).setCell (p := ⟨R, 11, none⟩) hR v11).setCell (p := ⟨R, 12, none⟩) hR v12)
end Go.Proofs.YteiideeechnekaaGreatDoor

/-
  The memory's bytes as a string.
-/
namespace Go.Proofs.YteiideeechnekaaGreatDoor
open Go.RowKit

def bytesOf (bs : List Int) : ByteArray := bs.foldl (fun r n => r.push (UInt8.ofNat n.toNat)) ByteArray.empty
theorem ram_in_string (W : World) (r cap : Nat) (bs : List Int) (h : RamIn W r cap bs) : (convert 30 9 (.slice (some ⟨r, 0, none⟩) bs.length cap)).run Tryz.prog W = .ok (.string (bytesOf bs)) W := by
  rw [run_convert_bytes_string W _ _ _ _ _ _ Tryz.underlying30 Tryz.underlying5 Tryz.underlying9]
  refine run_bytesToString W ⟨r, 0, none⟩ bs.length cap bs ?_
  have hl : bs.length = (bs.map (Value.int .u8)).length := by simp
  conv => lhs; rw [hl]
  refine run_loadCells_list (P := Tryz.prog) W ⟨r, 0, none⟩ (bs.map (Value.int .u8)) fun j v hj => ?_
  have e : (⟨r, 0, none⟩ : Addr).add j = ⟨r, j, none⟩ := by unfold Addr.add; split <;> simp_all
  have hl' : j < bs.length := by have := (List.getElem?_eq_some_iff.1 hj).1; simpa using this
  rw [e, h.cell j hl', ← hj]
  simp [List.getD, hl']
theorem ram_string (W : World) (r : Nat) (bs : List Int) (h : RamAt W r bs) : (convert 30 9 (.slice (some ⟨r, 0, none⟩) bs.length bs.length)).run Tryz.prog W = .ok (.string (bytesOf bs)) W := ram_in_string W r _ bs h.room
end Go.Proofs.YteiideeechnekaaGreatDoor

/-
  A region in which five makes come in whatever order.
-/
namespace Go.Proofs.YteiideeechnekaaGreatDoor
open Go.RowKit

def sl (l : Bool) (b k : Nat) : Value := match l with | true => .slice (some ⟨b, 0, none⟩) k k | false => undef
def cnt (b : Bool) : Nat := match b with | true => 0 | false => 1

theorem makes5 {P : Program} {ops : Array Oper} {Q : Exit → Act → World → Prop} (I : Bool → Bool → Bool → Bool → Bool → Act → World → Prop)
    (hr : ∀ l0 l2 l3 l4 l5, (l0 && l2 && l3 && l4 && l5) = false → Region.ready .any ops #[l0, true, l2, l3, l4, l5, false, false, false] = (if l0 then [] else [0]) ++ (if l2 then [] else [2]) ++ (if l3 then [] else [3]) ++ (if l4 then [] else [4]) ++ (if l5 then [] else [5]))
    (s0 : ∀ l2 l3 l4 l5 a w (K' : Act → World → Prop), I false l2 l3 l4 l5 a w → (∀ a' w', I true l2 l3 l4 l5 a' w' → K' a' w') → wpOp P ops Q 0 K' a w)
    (s2 : ∀ l0 l3 l4 l5 a w (K' : Act → World → Prop), I l0 false l3 l4 l5 a w → (∀ a' w', I l0 true l3 l4 l5 a' w' → K' a' w') → wpOp P ops Q 2 K' a w)
    (s3 : ∀ l0 l2 l4 l5 a w (K' : Act → World → Prop), I l0 l2 false l4 l5 a w → (∀ a' w', I l0 l2 true l4 l5 a' w' → K' a' w') → wpOp P ops Q 3 K' a w)
    (s4 : ∀ l0 l2 l3 l5 a w (K' : Act → World → Prop), I l0 l2 l3 false l5 a w → (∀ a' w', I l0 l2 l3 true l5 a' w' → K' a' w') → wpOp P ops Q 4 K' a w)
    (s5 : ∀ l0 l2 l3 l4 a w (K' : Act → World → Prop), I l0 l2 l3 l4 false a w → (∀ a' w', I l0 l2 l3 l4 true a' w' → K' a' w') → wpOp P ops Q 5 K' a w)
    (fin : ∀ a w, I true true true true true a w → wpAny P .any ops Q 3 #[true, true, true, true, true, true, false, false, false] a w) :
    ∀ (k : Nat) (l0 l2 l3 l4 l5 : Bool) (a : Act) (w : World), cnt l0 + cnt l2 + cnt l3 + cnt l4 + cnt l5 = k → I l0 l2 l3 l4 l5 a w → wpAny P .any ops Q (k + 3) #[l0, true, l2, l3, l4, l5, false, false, false] a w := by
  intro k
  induction k with
  | zero =>
    intro l0 l2 l3 l4 l5 a w hk h
    have e : l0 = true ∧ l2 = true ∧ l3 = true ∧ l4 = true ∧ l5 = true := by
      cases l0 <;> cases l2 <;> cases l3 <;> cases l4 <;> cases l5 <;> simp [cnt] at hk ⊢
    obtain ⟨rfl, rfl, rfl, rfl, rfl⟩ := e
    exact fin a w h
  | succ k ih =>
    intro l0 l2 l3 l4 l5 a w hk h
    have hf : (l0 && l2 && l3 && l4 && l5) = false := by
      cases l0 <;> cases l2 <;> cases l3 <;> cases l4 <;> cases l5 <;> simp [cnt] at hk ⊢
    have hre := hr l0 l2 l3 l4 l5 hf
    refine wpAny_all (fuel := k + 3) hre (by cases l0 <;> cases l2 <;> cases l3 <;> cases l4 <;> cases l5 <;> simp at hf ⊢) fun i hi => ?_
    have hi' : (l0 = false ∧ i = 0) ∨ (l2 = false ∧ i = 2) ∨ (l3 = false ∧ i = 3) ∨ (l4 = false ∧ i = 4) ∨ (l5 = false ∧ i = 5) := by
      cases l0 <;> cases l2 <;> cases l3 <;> cases l4 <;> cases l5 <;> simp at hi ⊢ <;> exact hi
    rcases hi' with ⟨e, rfl⟩ | ⟨e, rfl⟩ | ⟨e, rfl⟩ | ⟨e, rfl⟩ | ⟨e, rfl⟩
    · obtain rfl : l0 = false := e
      exact s0 l2 l3 l4 l5 a w _ h fun a' w' h' => ih true l2 l3 l4 l5 a' w' (by cases l2 <;> cases l3 <;> cases l4 <;> cases l5 <;> simp [cnt] at hk ⊢ <;> omega) h'
    · obtain rfl : l2 = false := e
      exact s2 l0 l3 l4 l5 a w _ h fun a' w' h' => ih l0 true l3 l4 l5 a' w' (by cases l0 <;> cases l3 <;> cases l4 <;> cases l5 <;> simp [cnt] at hk ⊢ <;> omega) h'
    · obtain rfl : l3 = false := e
      exact s3 l0 l2 l4 l5 a w _ h fun a' w' h' => ih l0 l2 true l4 l5 a' w' (by cases l0 <;> cases l2 <;> cases l4 <;> cases l5 <;> simp [cnt] at hk ⊢ <;> omega) h'
    · obtain rfl : l4 = false := e
      exact s4 l0 l2 l3 l5 a w _ h fun a' w' h' => ih l0 l2 l3 true l5 a' w' (by cases l0 <;> cases l2 <;> cases l3 <;> cases l5 <;> simp [cnt] at hk ⊢ <;> omega) h'
    · obtain rfl : l5 = false := e
      exact s5 l0 l2 l3 l4 a w _ h fun a' w' h' => ih l0 l2 l3 l4 true a' w' (by cases l0 <;> cases l2 <;> cases l3 <;> cases l4 <;> simp [cnt] at hk ⊢ <;> omega) h'

structure Inv5 (W : World) (C0 C1 C2 C3 C4 : Array Value) (t0 t1 t2 t3 t4 : TypeId) (w : World) (m0 m1 m2 m3 m4 : Bool) (b0 b1 b2 b3 b4 : Nat) : Prop where
  bel : Below W.heap.size W w
  a0 : m0 = true → W.heap.size ≤ b0 ∧ b0 < w.heap.size ∧ w.heap[b0]? = some (.cells C0 t0 (0, 0))
  a1 : m1 = true → W.heap.size ≤ b1 ∧ b1 < w.heap.size ∧ w.heap[b1]? = some (.cells C1 t1 (0, 0))
  a2 : m2 = true → W.heap.size ≤ b2 ∧ b2 < w.heap.size ∧ w.heap[b2]? = some (.cells C2 t2 (0, 0))
  a3 : m3 = true → W.heap.size ≤ b3 ∧ b3 < w.heap.size ∧ w.heap[b3]? = some (.cells C3 t3 (0, 0))
  a4 : m4 = true → W.heap.size ≤ b4 ∧ b4 < w.heap.size ∧ w.heap[b4]? = some (.cells C4 t4 (0, 0))
  p01 : m0 = true → m1 = true → b0 ≠ b1
  p02 : m0 = true → m2 = true → b0 ≠ b2
  p03 : m0 = true → m3 = true → b0 ≠ b3
  p04 : m0 = true → m4 = true → b0 ≠ b4
  p12 : m1 = true → m2 = true → b1 ≠ b2
  p13 : m1 = true → m3 = true → b1 ≠ b3
  p14 : m1 = true → m4 = true → b1 ≠ b4
  p23 : m2 = true → m3 = true → b2 ≠ b3
  p24 : m2 = true → m4 = true → b2 ≠ b4
  p34 : m3 = true → m4 = true → b3 ≠ b4

theorem Inv5.step0 {W : World} {C0 C1 C2 C3 C4 : Array Value} {t0 t1 t2 t3 t4 : TypeId} {w : World} {m1 m2 m3 m4 : Bool} {b0 b1 b2 b3 b4 : Nat} (h : Inv5 W C0 C1 C2 C3 C4 t0 t1 t2 t3 t4 w false m1 m2 m3 m4 b0 b1 b2 b3 b4) : Inv5 W C0 C1 C2 C3 C4 t0 t1 t2 t3 t4 (w.alloc (.cells C0 t0)) true m1 m2 m3 m4 w.heap.size b1 b2 b3 b4 :=
  ⟨h.bel.alloc h.bel.size _, fun _ => ⟨h.bel.size, by simp, heap_alloc_new w _⟩, fun e => ⟨(h.a1 e).1, by have := (h.a1 e).2.1; simp; omega, (heap_alloc_old w _ (h.a1 e).2.1).trans (h.a1 e).2.2⟩, fun e => ⟨(h.a2 e).1, by have := (h.a2 e).2.1; simp; omega, (heap_alloc_old w _ (h.a2 e).2.1).trans (h.a2 e).2.2⟩, fun e => ⟨(h.a3 e).1, by have := (h.a3 e).2.1; simp; omega, (heap_alloc_old w _ (h.a3 e).2.1).trans (h.a3 e).2.2⟩, fun e => ⟨(h.a4 e).1, by have := (h.a4 e).2.1; simp; omega, (heap_alloc_old w _ (h.a4 e).2.1).trans (h.a4 e).2.2⟩, fun _ e => Nat.ne_of_gt (h.a1 e).2.1, fun _ e => Nat.ne_of_gt (h.a2 e).2.1, fun _ e => Nat.ne_of_gt (h.a3 e).2.1, fun _ e => Nat.ne_of_gt (h.a4 e).2.1, h.p12, h.p13, h.p14, h.p23, h.p24, h.p34⟩
theorem Inv5.step1 {W : World} {C0 C1 C2 C3 C4 : Array Value} {t0 t1 t2 t3 t4 : TypeId} {w : World} {m0 m2 m3 m4 : Bool} {b0 b1 b2 b3 b4 : Nat} (h : Inv5 W C0 C1 C2 C3 C4 t0 t1 t2 t3 t4 w m0 false m2 m3 m4 b0 b1 b2 b3 b4) : Inv5 W C0 C1 C2 C3 C4 t0 t1 t2 t3 t4 (w.alloc (.cells C1 t1)) m0 true m2 m3 m4 b0 w.heap.size b2 b3 b4 :=
  ⟨h.bel.alloc h.bel.size _, fun e => ⟨(h.a0 e).1, by have := (h.a0 e).2.1; simp; omega, (heap_alloc_old w _ (h.a0 e).2.1).trans (h.a0 e).2.2⟩, fun _ => ⟨h.bel.size, by simp, heap_alloc_new w _⟩, fun e => ⟨(h.a2 e).1, by have := (h.a2 e).2.1; simp; omega, (heap_alloc_old w _ (h.a2 e).2.1).trans (h.a2 e).2.2⟩, fun e => ⟨(h.a3 e).1, by have := (h.a3 e).2.1; simp; omega, (heap_alloc_old w _ (h.a3 e).2.1).trans (h.a3 e).2.2⟩, fun e => ⟨(h.a4 e).1, by have := (h.a4 e).2.1; simp; omega, (heap_alloc_old w _ (h.a4 e).2.1).trans (h.a4 e).2.2⟩, fun e _ => Nat.ne_of_lt (h.a0 e).2.1, h.p02, h.p03, h.p04, fun _ e => Nat.ne_of_gt (h.a2 e).2.1, fun _ e => Nat.ne_of_gt (h.a3 e).2.1, fun _ e => Nat.ne_of_gt (h.a4 e).2.1, h.p23, h.p24, h.p34⟩
theorem Inv5.step2 {W : World} {C0 C1 C2 C3 C4 : Array Value} {t0 t1 t2 t3 t4 : TypeId} {w : World} {m0 m1 m3 m4 : Bool} {b0 b1 b2 b3 b4 : Nat} (h : Inv5 W C0 C1 C2 C3 C4 t0 t1 t2 t3 t4 w m0 m1 false m3 m4 b0 b1 b2 b3 b4) : Inv5 W C0 C1 C2 C3 C4 t0 t1 t2 t3 t4 (w.alloc (.cells C2 t2)) m0 m1 true m3 m4 b0 b1 w.heap.size b3 b4 :=
  ⟨h.bel.alloc h.bel.size _, fun e => ⟨(h.a0 e).1, by have := (h.a0 e).2.1; simp; omega, (heap_alloc_old w _ (h.a0 e).2.1).trans (h.a0 e).2.2⟩, fun e => ⟨(h.a1 e).1, by have := (h.a1 e).2.1; simp; omega, (heap_alloc_old w _ (h.a1 e).2.1).trans (h.a1 e).2.2⟩, fun _ => ⟨h.bel.size, by simp, heap_alloc_new w _⟩, fun e => ⟨(h.a3 e).1, by have := (h.a3 e).2.1; simp; omega, (heap_alloc_old w _ (h.a3 e).2.1).trans (h.a3 e).2.2⟩, fun e => ⟨(h.a4 e).1, by have := (h.a4 e).2.1; simp; omega, (heap_alloc_old w _ (h.a4 e).2.1).trans (h.a4 e).2.2⟩, h.p01, fun e _ => Nat.ne_of_lt (h.a0 e).2.1, h.p03, h.p04, fun e _ => Nat.ne_of_lt (h.a1 e).2.1, h.p13, h.p14, fun _ e => Nat.ne_of_gt (h.a3 e).2.1, fun _ e => Nat.ne_of_gt (h.a4 e).2.1, h.p34⟩
theorem Inv5.step3 {W : World} {C0 C1 C2 C3 C4 : Array Value} {t0 t1 t2 t3 t4 : TypeId} {w : World} {m0 m1 m2 m4 : Bool} {b0 b1 b2 b3 b4 : Nat} (h : Inv5 W C0 C1 C2 C3 C4 t0 t1 t2 t3 t4 w m0 m1 m2 false m4 b0 b1 b2 b3 b4) : Inv5 W C0 C1 C2 C3 C4 t0 t1 t2 t3 t4 (w.alloc (.cells C3 t3)) m0 m1 m2 true m4 b0 b1 b2 w.heap.size b4 :=
  ⟨h.bel.alloc h.bel.size _, fun e => ⟨(h.a0 e).1, by have := (h.a0 e).2.1; simp; omega, (heap_alloc_old w _ (h.a0 e).2.1).trans (h.a0 e).2.2⟩, fun e => ⟨(h.a1 e).1, by have := (h.a1 e).2.1; simp; omega, (heap_alloc_old w _ (h.a1 e).2.1).trans (h.a1 e).2.2⟩, fun e => ⟨(h.a2 e).1, by have := (h.a2 e).2.1; simp; omega, (heap_alloc_old w _ (h.a2 e).2.1).trans (h.a2 e).2.2⟩, fun _ => ⟨h.bel.size, by simp, heap_alloc_new w _⟩, fun e => ⟨(h.a4 e).1, by have := (h.a4 e).2.1; simp; omega, (heap_alloc_old w _ (h.a4 e).2.1).trans (h.a4 e).2.2⟩, h.p01, h.p02, fun e _ => Nat.ne_of_lt (h.a0 e).2.1, h.p04, h.p12, fun e _ => Nat.ne_of_lt (h.a1 e).2.1, h.p14, fun e _ => Nat.ne_of_lt (h.a2 e).2.1, h.p24, fun _ e => Nat.ne_of_gt (h.a4 e).2.1⟩
theorem Inv5.step4 {W : World} {C0 C1 C2 C3 C4 : Array Value} {t0 t1 t2 t3 t4 : TypeId} {w : World} {m0 m1 m2 m3 : Bool} {b0 b1 b2 b3 b4 : Nat} (h : Inv5 W C0 C1 C2 C3 C4 t0 t1 t2 t3 t4 w m0 m1 m2 m3 false b0 b1 b2 b3 b4) : Inv5 W C0 C1 C2 C3 C4 t0 t1 t2 t3 t4 (w.alloc (.cells C4 t4)) m0 m1 m2 m3 true b0 b1 b2 b3 w.heap.size :=
  ⟨h.bel.alloc h.bel.size _, fun e => ⟨(h.a0 e).1, by have := (h.a0 e).2.1; simp; omega, (heap_alloc_old w _ (h.a0 e).2.1).trans (h.a0 e).2.2⟩, fun e => ⟨(h.a1 e).1, by have := (h.a1 e).2.1; simp; omega, (heap_alloc_old w _ (h.a1 e).2.1).trans (h.a1 e).2.2⟩, fun e => ⟨(h.a2 e).1, by have := (h.a2 e).2.1; simp; omega, (heap_alloc_old w _ (h.a2 e).2.1).trans (h.a2 e).2.2⟩, fun e => ⟨(h.a3 e).1, by have := (h.a3 e).2.1; simp; omega, (heap_alloc_old w _ (h.a3 e).2.1).trans (h.a3 e).2.2⟩, fun _ => ⟨h.bel.size, by simp, heap_alloc_new w _⟩, h.p01, h.p02, h.p03, fun e _ => Nat.ne_of_lt (h.a0 e).2.1, h.p12, h.p13, fun e _ => Nat.ne_of_lt (h.a1 e).2.1, h.p23, fun e _ => Nat.ne_of_lt (h.a2 e).2.1, fun e _ => Nat.ne_of_lt (h.a3 e).2.1⟩

end Go.Proofs.YteiideeechnekaaGreatDoor
