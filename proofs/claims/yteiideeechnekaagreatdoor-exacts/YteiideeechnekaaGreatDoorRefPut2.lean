/-
  A cell of a source, or of the rows Enable and Limit, is written.
-/
import Derived.Test.YteiideeechnekaaGreatDoorRefPut
namespace Go.Proofs.YteiideeechnekaaGreatDoor
open Go.RowKit

theorem srcAt_set (s : RSt) (i j : Nat) (hi : i < s.src.length) (v : Srce) : srcAt { s with src := s.src.set i v } j = if i = j then v else srcAt s j := by
  unfold srcAt
  show ((s.src.set i v)[j]?).getD _ = _
  rw [List.getElem?_set]
  by_cases e : i = j
  · subst e; simp [hi]
  · simp [e]
theorem RefAt.put_served {W : World} {p : Nat} {b : RBl} {s : RSt} (h : RefAt W p b s) (A : b.Apart p) (i : Nat) (hi : i < 8) (v : Bool) : RefAt (W.setCell ⟨b.src, i * 4 + 2, none⟩ (.bool v)) p b { s with src := s.src.set i { srcAt s i with served := v } } := by
  have k : ∀ g, g ≠ b.src → (W.setCell ⟨b.src, i * 4 + 2, none⟩ (.bool v)).heap[g]? = W.heap[g]? := fun g hg => Below.heap_setCell _ _ _ _ hg
  have c : ∀ j, (W.setCell ⟨b.src, i * 4 + 2, none⟩ (.bool v)).cell? ⟨p, j, none⟩ = W.cell? ⟨p, j, none⟩ := fun j => World.cell?_of_block (w := W) (k _ A.e2)
  have d : ∀ j, j ≠ i * 4 + 2 → (W.setCell ⟨b.src, i * 4 + 2, none⟩ (.bool v)).cell? ⟨b.src, j, none⟩ = W.cell? ⟨b.src, j, none⟩ := fun j hj => World.cell?_setCell_other _ _ _ _ (by intro e; injection e with e1 e2; exact hj e2.symm)
  have g := fun j => srcAt_set s i j (by rw [h.nsrc]; exact hi) { srcAt s i with served := v }
  refine { nx := h.nx, nen := h.nen, nli := h.nli, cx := (c _).trans h.cx, cram := (c _).trans h.cram, csrc := (c _).trans h.csrc, cen := (c _).trans h.cen, cli := (c _).trans h.cli, pc := (c _).trans h.pc, mode := (c _).trans h.mode, asleep := (c _).trans h.asleep, sie := (c _).trans h.sie, mieb := (c _).trans h.mieb, spie := (c _).trans h.spie, mpie := (c _).trans h.mpie, spp := (c _).trans h.spp, mpp := (c _).trans h.mpp, tw := (c _).trans h.tw, tsr := (c _).trans h.tsr, medeleg := (c _).trans h.medeleg, mideleg := (c _).trans h.mideleg, mie := (c _).trans h.mie, soft := (c _).trans h.soft, mtvec := (c _).trans h.mtvec, stvec := (c _).trans h.stvec, mscratch := (c _).trans h.mscratch, sscratch := (c _).trans h.sscratch, mepc := (c _).trans h.mepc, sepc := (c _).trans h.sepc, mcause := (c _).trans h.mcause, scause := (c _).trans h.scause, mtval := (c _).trans h.mtval, stval := (c _).trans h.stval, msip := (c _).trans h.msip, mtimecmp := (c _).trans h.mtimecmp, mtime := (c _).trans h.mtime, traps := (c _).trans h.traps, system := (c _).trans h.system, device := (c _).trans h.device, fp := fun j => (World.frozen?_setCell _ _ _ _).trans (h.fp j), fs := fun j => (World.frozen?_setCell _ _ _ _).trans (h.fs j), ksrc := h.ksrc, x := row_keep h.x (k _ A.d1), ram := h.ram.of (k _ A.d4), en := row_keep h.en (k _ (Ne.symm A.d7)), li := row_keep h.li (k _ (Ne.symm A.d8)), nsrc := (by simp [h.nsrc]), high := ?_, waits := ?_, served := ?_, prio := ?_ }
  · intro j hj
    rw [g j, d _ (by omega), h.high j hj]
    by_cases e : i = j
    · subst e; rw [if_pos rfl]
    · rw [if_neg e]
  · intro j hj
    rw [g j, d _ (by omega), h.waits j hj]
    by_cases e : i = j
    · subst e; rw [if_pos rfl]
    · rw [if_neg e]
  · intro j hj
    rw [g j]
    by_cases e : i = j
    · subst e; rw [if_pos rfl]; exact World.cell?_setCell_same _ _ _ (h.served i hi)
    · rw [if_neg e, d _ (by omega)]; exact h.served j hj
  · intro j hj
    rw [g j, d _ (by omega), h.prio j hj]
    by_cases e : i = j
    · subst e; rw [if_pos rfl]
    · rw [if_neg e]
theorem RefAt.put_prio {W : World} {p : Nat} {b : RBl} {s : RSt} (h : RefAt W p b s) (A : b.Apart p) (i : Nat) (hi : i < 8) (v : Int) : RefAt (W.setCell ⟨b.src, i * 4 + 3, none⟩ (.int .u32 v)) p b { s with src := s.src.set i { srcAt s i with prio := v } } := by
  have k : ∀ g, g ≠ b.src → (W.setCell ⟨b.src, i * 4 + 3, none⟩ (.int .u32 v)).heap[g]? = W.heap[g]? := fun g hg => Below.heap_setCell _ _ _ _ hg
  have c : ∀ j, (W.setCell ⟨b.src, i * 4 + 3, none⟩ (.int .u32 v)).cell? ⟨p, j, none⟩ = W.cell? ⟨p, j, none⟩ := fun j => World.cell?_of_block (w := W) (k _ A.e2)
  have d : ∀ j, j ≠ i * 4 + 3 → (W.setCell ⟨b.src, i * 4 + 3, none⟩ (.int .u32 v)).cell? ⟨b.src, j, none⟩ = W.cell? ⟨b.src, j, none⟩ := fun j hj => World.cell?_setCell_other _ _ _ _ (by intro e; injection e with e1 e2; exact hj e2.symm)
  have g := fun j => srcAt_set s i j (by rw [h.nsrc]; exact hi) { srcAt s i with prio := v }
  refine { nx := h.nx, nen := h.nen, nli := h.nli, cx := (c _).trans h.cx, cram := (c _).trans h.cram, csrc := (c _).trans h.csrc, cen := (c _).trans h.cen, cli := (c _).trans h.cli, pc := (c _).trans h.pc, mode := (c _).trans h.mode, asleep := (c _).trans h.asleep, sie := (c _).trans h.sie, mieb := (c _).trans h.mieb, spie := (c _).trans h.spie, mpie := (c _).trans h.mpie, spp := (c _).trans h.spp, mpp := (c _).trans h.mpp, tw := (c _).trans h.tw, tsr := (c _).trans h.tsr, medeleg := (c _).trans h.medeleg, mideleg := (c _).trans h.mideleg, mie := (c _).trans h.mie, soft := (c _).trans h.soft, mtvec := (c _).trans h.mtvec, stvec := (c _).trans h.stvec, mscratch := (c _).trans h.mscratch, sscratch := (c _).trans h.sscratch, mepc := (c _).trans h.mepc, sepc := (c _).trans h.sepc, mcause := (c _).trans h.mcause, scause := (c _).trans h.scause, mtval := (c _).trans h.mtval, stval := (c _).trans h.stval, msip := (c _).trans h.msip, mtimecmp := (c _).trans h.mtimecmp, mtime := (c _).trans h.mtime, traps := (c _).trans h.traps, system := (c _).trans h.system, device := (c _).trans h.device, fp := fun j => (World.frozen?_setCell _ _ _ _).trans (h.fp j), fs := fun j => (World.frozen?_setCell _ _ _ _).trans (h.fs j), ksrc := h.ksrc, x := row_keep h.x (k _ A.d1), ram := h.ram.of (k _ A.d4), en := row_keep h.en (k _ (Ne.symm A.d7)), li := row_keep h.li (k _ (Ne.symm A.d8)), nsrc := (by simp [h.nsrc]), high := ?_, waits := ?_, served := ?_, prio := ?_ }
  · intro j hj
    rw [g j, d _ (by omega), h.high j hj]
    by_cases e : i = j
    · subst e; rw [if_pos rfl]
    · rw [if_neg e]
  · intro j hj
    rw [g j, d _ (by omega), h.waits j hj]
    by_cases e : i = j
    · subst e; rw [if_pos rfl]
    · rw [if_neg e]
  · intro j hj
    rw [g j, d _ (by omega), h.served j hj]
    by_cases e : i = j
    · subst e; rw [if_pos rfl]
    · rw [if_neg e]
  · intro j hj
    rw [g j]
    by_cases e : i = j
    · subst e; rw [if_pos rfl]; exact World.cell?_setCell_same _ _ _ (h.prio i hi)
    · rw [if_neg e, d _ (by omega)]; exact h.prio j hj
end Go.Proofs.YteiideeechnekaaGreatDoor
