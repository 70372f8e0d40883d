/-
  A cell of the code's computer is written.
-/
import Derived.Test.YtonlmogclejfaaaGreatDoorRefPut
import Derived.OrdersHeld
import Derived.Deep.RegionWith
namespace Go.Proofs.YtonlmogclejfaaaGreatDoor
open Go.RowKit

theorem CodeAt.put_pc {W : World} {x r : Nat} {s : CSt} (h : CodeAt W x r s) (A : x ≠ r) (v : Int) : CodeAt (W.setCell ⟨x, 32, none⟩ (.int .u32 v)) x r { s with pc := v } := by
  have c : ∀ j, j ≠ 32 → (W.setCell ⟨x, 32, none⟩ (.int .u32 v)).cell? ⟨x, j, none⟩ = W.cell? ⟨x, j, none⟩ := fun j hj => World.cell?_setCell_other _ _ _ _ (by intro e; injection e with e1 e2; exact hj e2.symm)
  exact { nregs := h.nregs, nprio := h.nprio, regs := fun i hi => (c _ (by omega)).trans (h.regs i hi), pc := World.cell?_setCell_same _ _ _ h.pc, mode := (c _ (by decide)).trans h.mode, asleep := (c _ (by decide)).trans h.asleep, mstatus := (c _ (by decide)).trans h.mstatus, medeleg := (c _ (by decide)).trans h.medeleg, mideleg := (c _ (by decide)).trans h.mideleg, mie := (c _ (by decide)).trans h.mie, written := (c _ (by decide)).trans h.written, stvec := (c _ (by decide)).trans h.stvec, sscratch := (c _ (by decide)).trans h.sscratch, sepc := (c _ (by decide)).trans h.sepc, scause := (c _ (by decide)).trans h.scause, stval := (c _ (by decide)).trans h.stval, mtvec := (c _ (by decide)).trans h.mtvec, mscratch := (c _ (by decide)).trans h.mscratch, mepc := (c _ (by decide)).trans h.mepc, mcause := (c _ (by decide)).trans h.mcause, mtval := (c _ (by decide)).trans h.mtval, ram := (c _ (by decide)).trans h.ram, msip := (c _ (by decide)).trans h.msip, mtimecmp := (c _ (by decide)).trans h.mtimecmp, mtime := (c _ (by decide)).trans h.mtime, pend := (c _ (by decide)).trans h.pend, served := (c _ (by decide)).trans h.served, level := (c _ (by decide)).trans h.level, en0 := (c _ (by decide)).trans h.en0, en1 := (c _ (by decide)).trans h.en1, li0 := (c _ (by decide)).trans h.li0, li1 := (c _ (by decide)).trans h.li1, prio := fun i hi => (c _ (by omega)).trans (h.prio i hi), bytes := ⟨(Below.heap_setCell _ _ _ _ (Ne.symm A)).trans h.bytes.1, h.bytes.2⟩, fx := fun j => (World.frozen?_setCell _ _ _ _).trans (h.fx j) }
theorem CodeAt.put_reg {W : World} {x r : Nat} {s : CSt} (h : CodeAt W x r s) (A : x ≠ r) (k : Nat) (hk : k < 32) (v : Int) : CodeAt (W.setCell ⟨x, k, none⟩ (.int .u32 v)) x r { s with regs := s.regs.set k v } := by
  have c : ∀ j, j ≠ k → (W.setCell ⟨x, k, none⟩ (.int .u32 v)).cell? ⟨x, j, none⟩ = W.cell? ⟨x, j, none⟩ := fun j hj => World.cell?_setCell_other _ _ _ _ (by intro e; injection e with e1 e2; exact hj e2.symm)
  refine { nregs := by simp [h.nregs], nprio := h.nprio, regs := fun i hi => ?_, pc := (c _ (by omega)).trans h.pc, mode := (c _ (by omega)).trans h.mode, asleep := (c _ (by omega)).trans h.asleep, mstatus := (c _ (by omega)).trans h.mstatus, medeleg := (c _ (by omega)).trans h.medeleg, mideleg := (c _ (by omega)).trans h.mideleg, mie := (c _ (by omega)).trans h.mie, written := (c _ (by omega)).trans h.written, stvec := (c _ (by omega)).trans h.stvec, sscratch := (c _ (by omega)).trans h.sscratch, sepc := (c _ (by omega)).trans h.sepc, scause := (c _ (by omega)).trans h.scause, stval := (c _ (by omega)).trans h.stval, mtvec := (c _ (by omega)).trans h.mtvec, mscratch := (c _ (by omega)).trans h.mscratch, mepc := (c _ (by omega)).trans h.mepc, mcause := (c _ (by omega)).trans h.mcause, mtval := (c _ (by omega)).trans h.mtval, ram := (c _ (by omega)).trans h.ram, msip := (c _ (by omega)).trans h.msip, mtimecmp := (c _ (by omega)).trans h.mtimecmp, mtime := (c _ (by omega)).trans h.mtime, pend := (c _ (by omega)).trans h.pend, served := (c _ (by omega)).trans h.served, level := (c _ (by omega)).trans h.level, en0 := (c _ (by omega)).trans h.en0, en1 := (c _ (by omega)).trans h.en1, li0 := (c _ (by omega)).trans h.li0, li1 := (c _ (by omega)).trans h.li1, prio := fun i hi => (c _ (by omega)).trans (h.prio i hi), bytes := ⟨(Below.heap_setCell _ _ _ _ (Ne.symm A)).trans h.bytes.1, h.bytes.2⟩, fx := fun j => (World.frozen?_setCell _ _ _ _).trans (h.fx j) }
  show _ = some (Value.int .u32 ((s.regs.set k v).getD i 0))
  by_cases e : i = k
  · subst e
    have h0 := h.regs i hi
    rw [Nat.zero_add] at h0 ⊢
    rw [World.cell?_setCell_same _ _ _ h0]
    simp [List.getD, h.nregs, hi]
  · rw [c _ (by omega), h.regs i hi]
    simp [List.getD, show ¬ k = i from fun e' => e e'.symm]
theorem CodeAt.put_ram {W : World} {x r : Nat} {s : CSt} (h : CodeAt W x r s) (A : x ≠ r) (k : Nat) (v : Int) (v0 : 0 ≤ v) (v1 : v < 256) : CodeAt (W.setCell ⟨r, k, none⟩ (.int .u8 v)) x r { s with ram := s.ram.set k v } := by
  have c : ∀ j, (W.setCell ⟨r, k, none⟩ (.int .u8 v)).cell? ⟨x, j, none⟩ = W.cell? ⟨x, j, none⟩ := fun j => World.cell?_of_block (w := W) (Below.heap_setCell _ _ _ _ A)
  exact { nregs := h.nregs, nprio := h.nprio, regs := fun i hi => (c _).trans (h.regs i hi), pc := (c _).trans h.pc, mode := (c _).trans h.mode, asleep := (c _).trans h.asleep, mstatus := (c _).trans h.mstatus, medeleg := (c _).trans h.medeleg, mideleg := (c _).trans h.mideleg, mie := (c _).trans h.mie, written := (c _).trans h.written, stvec := (c _).trans h.stvec, sscratch := (c _).trans h.sscratch, sepc := (c _).trans h.sepc, scause := (c _).trans h.scause, stval := (c _).trans h.stval, mtvec := (c _).trans h.mtvec, mscratch := (c _).trans h.mscratch, mepc := (c _).trans h.mepc, mcause := (c _).trans h.mcause, mtval := (c _).trans h.mtval, ram := (by rw [List.length_set]; exact (c _).trans h.ram), msip := (c _).trans h.msip, mtimecmp := (c _).trans h.mtimecmp, mtime := (c _).trans h.mtime, pend := (c _).trans h.pend, served := (c _).trans h.served, level := (c _).trans h.level, en0 := (c _).trans h.en0, en1 := (c _).trans h.en1, li0 := (c _).trans h.li0, li1 := (c _).trans h.li1, prio := fun i hi => (c _).trans (h.prio i hi), bytes := h.bytes.put k v v0 v1, fx := fun j => (World.frozen?_setCell _ _ _ _).trans (h.fx j) }
theorem CodeAt.putp {W : World} {x r : Nat} {s : CSt} (h : CodeAt W x r s) (A : x ≠ r) (j : Nat) (v : Value) (hj : 32 ≤ j) (hk : j < 54) :
    (∀ {i u}, (i == j) = false → W.cell? ⟨x, i, none⟩ = some u → (W.setCell ⟨x, j, none⟩ v).cell? ⟨x, i, none⟩ = some u) ∧ (∀ i, i < 32 → (W.setCell ⟨x, j, none⟩ v).cell? ⟨x, 0 + i, none⟩ = some (.int .u32 (s.regs.getD i 0))) ∧ (∀ i, i < 8 → (W.setCell ⟨x, j, none⟩ v).cell? ⟨x, 54 + i, none⟩ = some (.int .u32 (s.prio[i]?.getD 0))) ∧ RamAt (W.setCell ⟨x, j, none⟩ v) r s.ram ∧ (∀ j', (W.setCell ⟨x, j, none⟩ v).frozen? ⟨x, j', none⟩ = false) := by
  have c : ∀ {i u}, (i == j) = false → W.cell? ⟨x, i, none⟩ = some u → (W.setCell ⟨x, j, none⟩ v).cell? ⟨x, i, none⟩ = some u := fun {i u} hi e => (World.cell?_setCell_other _ _ _ _ (by intro e; injection e with e1 e2; rw [e2] at hi; simp at hi)).trans e
  exact ⟨c, fun i hi => c (by simp; omega) (h.regs i hi), fun i hi => c (by simp; omega) (h.prio i hi), ⟨(Below.heap_setCell _ _ _ _ (Ne.symm A)).trans h.bytes.1, h.bytes.2⟩, fun j => (World.frozen?_setCell _ _ _ _).trans (h.fx j)⟩
theorem CodeAt.put_mode {W : World} {x r : Nat} {s : CSt} (h : CodeAt W x r s) (A : x ≠ r) (v : Int) : CodeAt (W.setCell ⟨x, 33, none⟩ (.int .i64 v)) x r { s with mode := v } := by
  obtain ⟨c, R, P, b, z⟩ := h.putp A 33 (.int .i64 v) (by decide) (by decide)
  exact ⟨h.nregs, h.nprio, R, c rfl h.pc, World.cell?_setCell_same _ _ _ h.mode, c rfl h.asleep, c rfl h.mstatus, c rfl h.medeleg, c rfl h.mideleg, c rfl h.mie, c rfl h.written, c rfl h.stvec, c rfl h.sscratch, c rfl h.sepc, c rfl h.scause, c rfl h.stval, c rfl h.mtvec, c rfl h.mscratch, c rfl h.mepc, c rfl h.mcause, c rfl h.mtval, c rfl h.ram, c rfl h.msip, c rfl h.mtimecmp, c rfl h.mtime, P, c rfl h.pend, c rfl h.served, c rfl h.level, c rfl h.en0, c rfl h.en1, c rfl h.li0, c rfl h.li1, b, z⟩
theorem CodeAt.put_asleep {W : World} {x r : Nat} {s : CSt} (h : CodeAt W x r s) (A : x ≠ r) (v : Bool) : CodeAt (W.setCell ⟨x, 34, none⟩ (.bool v)) x r { s with asleep := v } := by
  obtain ⟨c, R, P, b, z⟩ := h.putp A 34 (.bool v) (by decide) (by decide)
  exact ⟨h.nregs, h.nprio, R, c rfl h.pc, c rfl h.mode, World.cell?_setCell_same _ _ _ h.asleep, c rfl h.mstatus, c rfl h.medeleg, c rfl h.mideleg, c rfl h.mie, c rfl h.written, c rfl h.stvec, c rfl h.sscratch, c rfl h.sepc, c rfl h.scause, c rfl h.stval, c rfl h.mtvec, c rfl h.mscratch, c rfl h.mepc, c rfl h.mcause, c rfl h.mtval, c rfl h.ram, c rfl h.msip, c rfl h.mtimecmp, c rfl h.mtime, P, c rfl h.pend, c rfl h.served, c rfl h.level, c rfl h.en0, c rfl h.en1, c rfl h.li0, c rfl h.li1, b, z⟩
theorem CodeAt.put_mstatus {W : World} {x r : Nat} {s : CSt} (h : CodeAt W x r s) (A : x ≠ r) (v : Int) : CodeAt (W.setCell ⟨x, 35, none⟩ (.int .u32 v)) x r { s with mstatus := v } := by
  obtain ⟨c, R, P, b, z⟩ := h.putp A 35 (.int .u32 v) (by decide) (by decide)
  exact ⟨h.nregs, h.nprio, R, c rfl h.pc, c rfl h.mode, c rfl h.asleep, World.cell?_setCell_same _ _ _ h.mstatus, c rfl h.medeleg, c rfl h.mideleg, c rfl h.mie, c rfl h.written, c rfl h.stvec, c rfl h.sscratch, c rfl h.sepc, c rfl h.scause, c rfl h.stval, c rfl h.mtvec, c rfl h.mscratch, c rfl h.mepc, c rfl h.mcause, c rfl h.mtval, c rfl h.ram, c rfl h.msip, c rfl h.mtimecmp, c rfl h.mtime, P, c rfl h.pend, c rfl h.served, c rfl h.level, c rfl h.en0, c rfl h.en1, c rfl h.li0, c rfl h.li1, b, z⟩
theorem CodeAt.put_medeleg {W : World} {x r : Nat} {s : CSt} (h : CodeAt W x r s) (A : x ≠ r) (v : Int) : CodeAt (W.setCell ⟨x, 36, none⟩ (.int .u32 v)) x r { s with medeleg := v } := by
  obtain ⟨c, R, P, b, z⟩ := h.putp A 36 (.int .u32 v) (by decide) (by decide)
  exact ⟨h.nregs, h.nprio, R, c rfl h.pc, c rfl h.mode, c rfl h.asleep, c rfl h.mstatus, World.cell?_setCell_same _ _ _ h.medeleg, c rfl h.mideleg, c rfl h.mie, c rfl h.written, c rfl h.stvec, c rfl h.sscratch, c rfl h.sepc, c rfl h.scause, c rfl h.stval, c rfl h.mtvec, c rfl h.mscratch, c rfl h.mepc, c rfl h.mcause, c rfl h.mtval, c rfl h.ram, c rfl h.msip, c rfl h.mtimecmp, c rfl h.mtime, P, c rfl h.pend, c rfl h.served, c rfl h.level, c rfl h.en0, c rfl h.en1, c rfl h.li0, c rfl h.li1, b, z⟩
theorem CodeAt.put_mideleg {W : World} {x r : Nat} {s : CSt} (h : CodeAt W x r s) (A : x ≠ r) (v : Int) : CodeAt (W.setCell ⟨x, 37, none⟩ (.int .u32 v)) x r { s with mideleg := v } := by
  obtain ⟨c, R, P, b, z⟩ := h.putp A 37 (.int .u32 v) (by decide) (by decide)
  exact ⟨h.nregs, h.nprio, R, c rfl h.pc, c rfl h.mode, c rfl h.asleep, c rfl h.mstatus, c rfl h.medeleg, World.cell?_setCell_same _ _ _ h.mideleg, c rfl h.mie, c rfl h.written, c rfl h.stvec, c rfl h.sscratch, c rfl h.sepc, c rfl h.scause, c rfl h.stval, c rfl h.mtvec, c rfl h.mscratch, c rfl h.mepc, c rfl h.mcause, c rfl h.mtval, c rfl h.ram, c rfl h.msip, c rfl h.mtimecmp, c rfl h.mtime, P, c rfl h.pend, c rfl h.served, c rfl h.level, c rfl h.en0, c rfl h.en1, c rfl h.li0, c rfl h.li1, b, z⟩
theorem CodeAt.put_mie {W : World} {x r : Nat} {s : CSt} (h : CodeAt W x r s) (A : x ≠ r) (v : Int) : CodeAt (W.setCell ⟨x, 38, none⟩ (.int .u32 v)) x r { s with mie := v } := by
  obtain ⟨c, R, P, b, z⟩ := h.putp A 38 (.int .u32 v) (by decide) (by decide)
  exact ⟨h.nregs, h.nprio, R, c rfl h.pc, c rfl h.mode, c rfl h.asleep, c rfl h.mstatus, c rfl h.medeleg, c rfl h.mideleg, World.cell?_setCell_same _ _ _ h.mie, c rfl h.written, c rfl h.stvec, c rfl h.sscratch, c rfl h.sepc, c rfl h.scause, c rfl h.stval, c rfl h.mtvec, c rfl h.mscratch, c rfl h.mepc, c rfl h.mcause, c rfl h.mtval, c rfl h.ram, c rfl h.msip, c rfl h.mtimecmp, c rfl h.mtime, P, c rfl h.pend, c rfl h.served, c rfl h.level, c rfl h.en0, c rfl h.en1, c rfl h.li0, c rfl h.li1, b, z⟩
theorem CodeAt.put_written {W : World} {x r : Nat} {s : CSt} (h : CodeAt W x r s) (A : x ≠ r) (v : Int) : CodeAt (W.setCell ⟨x, 39, none⟩ (.int .u32 v)) x r { s with written := v } := by
  obtain ⟨c, R, P, b, z⟩ := h.putp A 39 (.int .u32 v) (by decide) (by decide)
  exact ⟨h.nregs, h.nprio, R, c rfl h.pc, c rfl h.mode, c rfl h.asleep, c rfl h.mstatus, c rfl h.medeleg, c rfl h.mideleg, c rfl h.mie, World.cell?_setCell_same _ _ _ h.written, c rfl h.stvec, c rfl h.sscratch, c rfl h.sepc, c rfl h.scause, c rfl h.stval, c rfl h.mtvec, c rfl h.mscratch, c rfl h.mepc, c rfl h.mcause, c rfl h.mtval, c rfl h.ram, c rfl h.msip, c rfl h.mtimecmp, c rfl h.mtime, P, c rfl h.pend, c rfl h.served, c rfl h.level, c rfl h.en0, c rfl h.en1, c rfl h.li0, c rfl h.li1, b, z⟩
theorem CodeAt.put_stvec {W : World} {x r : Nat} {s : CSt} (h : CodeAt W x r s) (A : x ≠ r) (v : Int) : CodeAt (W.setCell ⟨x, 40, none⟩ (.int .u32 v)) x r { s with stvec := v } := by
  obtain ⟨c, R, P, b, z⟩ := h.putp A 40 (.int .u32 v) (by decide) (by decide)
  exact ⟨h.nregs, h.nprio, R, c rfl h.pc, c rfl h.mode, c rfl h.asleep, c rfl h.mstatus, c rfl h.medeleg, c rfl h.mideleg, c rfl h.mie, c rfl h.written, World.cell?_setCell_same _ _ _ h.stvec, c rfl h.sscratch, c rfl h.sepc, c rfl h.scause, c rfl h.stval, c rfl h.mtvec, c rfl h.mscratch, c rfl h.mepc, c rfl h.mcause, c rfl h.mtval, c rfl h.ram, c rfl h.msip, c rfl h.mtimecmp, c rfl h.mtime, P, c rfl h.pend, c rfl h.served, c rfl h.level, c rfl h.en0, c rfl h.en1, c rfl h.li0, c rfl h.li1, b, z⟩
theorem CodeAt.put_sscratch {W : World} {x r : Nat} {s : CSt} (h : CodeAt W x r s) (A : x ≠ r) (v : Int) : CodeAt (W.setCell ⟨x, 41, none⟩ (.int .u32 v)) x r { s with sscratch := v } := by
  obtain ⟨c, R, P, b, z⟩ := h.putp A 41 (.int .u32 v) (by decide) (by decide)
  exact ⟨h.nregs, h.nprio, R, c rfl h.pc, c rfl h.mode, c rfl h.asleep, c rfl h.mstatus, c rfl h.medeleg, c rfl h.mideleg, c rfl h.mie, c rfl h.written, c rfl h.stvec, World.cell?_setCell_same _ _ _ h.sscratch, c rfl h.sepc, c rfl h.scause, c rfl h.stval, c rfl h.mtvec, c rfl h.mscratch, c rfl h.mepc, c rfl h.mcause, c rfl h.mtval, c rfl h.ram, c rfl h.msip, c rfl h.mtimecmp, c rfl h.mtime, P, c rfl h.pend, c rfl h.served, c rfl h.level, c rfl h.en0, c rfl h.en1, c rfl h.li0, c rfl h.li1, b, z⟩
theorem CodeAt.put_sepc {W : World} {x r : Nat} {s : CSt} (h : CodeAt W x r s) (A : x ≠ r) (v : Int) : CodeAt (W.setCell ⟨x, 42, none⟩ (.int .u32 v)) x r { s with sepc := v } := by
  obtain ⟨c, R, P, b, z⟩ := h.putp A 42 (.int .u32 v) (by decide) (by decide)
  exact ⟨h.nregs, h.nprio, R, c rfl h.pc, c rfl h.mode, c rfl h.asleep, c rfl h.mstatus, c rfl h.medeleg, c rfl h.mideleg, c rfl h.mie, c rfl h.written, c rfl h.stvec, c rfl h.sscratch, World.cell?_setCell_same _ _ _ h.sepc, c rfl h.scause, c rfl h.stval, c rfl h.mtvec, c rfl h.mscratch, c rfl h.mepc, c rfl h.mcause, c rfl h.mtval, c rfl h.ram, c rfl h.msip, c rfl h.mtimecmp, c rfl h.mtime, P, c rfl h.pend, c rfl h.served, c rfl h.level, c rfl h.en0, c rfl h.en1, c rfl h.li0, c rfl h.li1, b, z⟩
theorem CodeAt.put_scause {W : World} {x r : Nat} {s : CSt} (h : CodeAt W x r s) (A : x ≠ r) (v : Int) : CodeAt (W.setCell ⟨x, 43, none⟩ (.int .u32 v)) x r { s with scause := v } := by
  obtain ⟨c, R, P, b, z⟩ := h.putp A 43 (.int .u32 v) (by decide) (by decide)
  exact ⟨h.nregs, h.nprio, R, c rfl h.pc, c rfl h.mode, c rfl h.asleep, c rfl h.mstatus, c rfl h.medeleg, c rfl h.mideleg, c rfl h.mie, c rfl h.written, c rfl h.stvec, c rfl h.sscratch, c rfl h.sepc, World.cell?_setCell_same _ _ _ h.scause, c rfl h.stval, c rfl h.mtvec, c rfl h.mscratch, c rfl h.mepc, c rfl h.mcause, c rfl h.mtval, c rfl h.ram, c rfl h.msip, c rfl h.mtimecmp, c rfl h.mtime, P, c rfl h.pend, c rfl h.served, c rfl h.level, c rfl h.en0, c rfl h.en1, c rfl h.li0, c rfl h.li1, b, z⟩
theorem CodeAt.put_stval {W : World} {x r : Nat} {s : CSt} (h : CodeAt W x r s) (A : x ≠ r) (v : Int) : CodeAt (W.setCell ⟨x, 44, none⟩ (.int .u32 v)) x r { s with stval := v } := by
  obtain ⟨c, R, P, b, z⟩ := h.putp A 44 (.int .u32 v) (by decide) (by decide)
  exact ⟨h.nregs, h.nprio, R, c rfl h.pc, c rfl h.mode, c rfl h.asleep, c rfl h.mstatus, c rfl h.medeleg, c rfl h.mideleg, c rfl h.mie, c rfl h.written, c rfl h.stvec, c rfl h.sscratch, c rfl h.sepc, c rfl h.scause, World.cell?_setCell_same _ _ _ h.stval, c rfl h.mtvec, c rfl h.mscratch, c rfl h.mepc, c rfl h.mcause, c rfl h.mtval, c rfl h.ram, c rfl h.msip, c rfl h.mtimecmp, c rfl h.mtime, P, c rfl h.pend, c rfl h.served, c rfl h.level, c rfl h.en0, c rfl h.en1, c rfl h.li0, c rfl h.li1, b, z⟩
theorem CodeAt.put_mtvec {W : World} {x r : Nat} {s : CSt} (h : CodeAt W x r s) (A : x ≠ r) (v : Int) : CodeAt (W.setCell ⟨x, 45, none⟩ (.int .u32 v)) x r { s with mtvec := v } := by
  obtain ⟨c, R, P, b, z⟩ := h.putp A 45 (.int .u32 v) (by decide) (by decide)
  exact ⟨h.nregs, h.nprio, R, c rfl h.pc, c rfl h.mode, c rfl h.asleep, c rfl h.mstatus, c rfl h.medeleg, c rfl h.mideleg, c rfl h.mie, c rfl h.written, c rfl h.stvec, c rfl h.sscratch, c rfl h.sepc, c rfl h.scause, c rfl h.stval, World.cell?_setCell_same _ _ _ h.mtvec, c rfl h.mscratch, c rfl h.mepc, c rfl h.mcause, c rfl h.mtval, c rfl h.ram, c rfl h.msip, c rfl h.mtimecmp, c rfl h.mtime, P, c rfl h.pend, c rfl h.served, c rfl h.level, c rfl h.en0, c rfl h.en1, c rfl h.li0, c rfl h.li1, b, z⟩
theorem CodeAt.put_mscratch {W : World} {x r : Nat} {s : CSt} (h : CodeAt W x r s) (A : x ≠ r) (v : Int) : CodeAt (W.setCell ⟨x, 46, none⟩ (.int .u32 v)) x r { s with mscratch := v } := by
  obtain ⟨c, R, P, b, z⟩ := h.putp A 46 (.int .u32 v) (by decide) (by decide)
  exact ⟨h.nregs, h.nprio, R, c rfl h.pc, c rfl h.mode, c rfl h.asleep, c rfl h.mstatus, c rfl h.medeleg, c rfl h.mideleg, c rfl h.mie, c rfl h.written, c rfl h.stvec, c rfl h.sscratch, c rfl h.sepc, c rfl h.scause, c rfl h.stval, c rfl h.mtvec, World.cell?_setCell_same _ _ _ h.mscratch, c rfl h.mepc, c rfl h.mcause, c rfl h.mtval, c rfl h.ram, c rfl h.msip, c rfl h.mtimecmp, c rfl h.mtime, P, c rfl h.pend, c rfl h.served, c rfl h.level, c rfl h.en0, c rfl h.en1, c rfl h.li0, c rfl h.li1, b, z⟩
theorem CodeAt.put_mepc {W : World} {x r : Nat} {s : CSt} (h : CodeAt W x r s) (A : x ≠ r) (v : Int) : CodeAt (W.setCell ⟨x, 47, none⟩ (.int .u32 v)) x r { s with mepc := v } := by
  obtain ⟨c, R, P, b, z⟩ := h.putp A 47 (.int .u32 v) (by decide) (by decide)
  exact ⟨h.nregs, h.nprio, R, c rfl h.pc, c rfl h.mode, c rfl h.asleep, c rfl h.mstatus, c rfl h.medeleg, c rfl h.mideleg, c rfl h.mie, c rfl h.written, c rfl h.stvec, c rfl h.sscratch, c rfl h.sepc, c rfl h.scause, c rfl h.stval, c rfl h.mtvec, c rfl h.mscratch, World.cell?_setCell_same _ _ _ h.mepc, c rfl h.mcause, c rfl h.mtval, c rfl h.ram, c rfl h.msip, c rfl h.mtimecmp, c rfl h.mtime, P, c rfl h.pend, c rfl h.served, c rfl h.level, c rfl h.en0, c rfl h.en1, c rfl h.li0, c rfl h.li1, b, z⟩
theorem CodeAt.put_mcause {W : World} {x r : Nat} {s : CSt} (h : CodeAt W x r s) (A : x ≠ r) (v : Int) : CodeAt (W.setCell ⟨x, 48, none⟩ (.int .u32 v)) x r { s with mcause := v } := by
  obtain ⟨c, R, P, b, z⟩ := h.putp A 48 (.int .u32 v) (by decide) (by decide)
  exact ⟨h.nregs, h.nprio, R, c rfl h.pc, c rfl h.mode, c rfl h.asleep, c rfl h.mstatus, c rfl h.medeleg, c rfl h.mideleg, c rfl h.mie, c rfl h.written, c rfl h.stvec, c rfl h.sscratch, c rfl h.sepc, c rfl h.scause, c rfl h.stval, c rfl h.mtvec, c rfl h.mscratch, c rfl h.mepc, World.cell?_setCell_same _ _ _ h.mcause, c rfl h.mtval, c rfl h.ram, c rfl h.msip, c rfl h.mtimecmp, c rfl h.mtime, P, c rfl h.pend, c rfl h.served, c rfl h.level, c rfl h.en0, c rfl h.en1, c rfl h.li0, c rfl h.li1, b, z⟩
theorem CodeAt.put_mtval {W : World} {x r : Nat} {s : CSt} (h : CodeAt W x r s) (A : x ≠ r) (v : Int) : CodeAt (W.setCell ⟨x, 49, none⟩ (.int .u32 v)) x r { s with mtval := v } := by
  obtain ⟨c, R, P, b, z⟩ := h.putp A 49 (.int .u32 v) (by decide) (by decide)
  exact ⟨h.nregs, h.nprio, R, c rfl h.pc, c rfl h.mode, c rfl h.asleep, c rfl h.mstatus, c rfl h.medeleg, c rfl h.mideleg, c rfl h.mie, c rfl h.written, c rfl h.stvec, c rfl h.sscratch, c rfl h.sepc, c rfl h.scause, c rfl h.stval, c rfl h.mtvec, c rfl h.mscratch, c rfl h.mepc, c rfl h.mcause, World.cell?_setCell_same _ _ _ h.mtval, c rfl h.ram, c rfl h.msip, c rfl h.mtimecmp, c rfl h.mtime, P, c rfl h.pend, c rfl h.served, c rfl h.level, c rfl h.en0, c rfl h.en1, c rfl h.li0, c rfl h.li1, b, z⟩
theorem tK {P : Program} {ops : Array Oper} {Q : Exit → Act → World → Prop} {S : World → Prop} (i : Nat) (v : Value) {oi : Oper} {fuel : Nat} {listed : Array Bool} {a : Act} {w : World} (hi : ops[i]? = some oi)
    (h4 : (Region.noSelect ops && Region.free .any ops listed i && (Region.ready .any ops listed).contains i && Region.wanted oi (yielded ops a.tmps)) = true) (hQ : ∀ c a w, Q (.panic c) (a.put oi.dst v) w → Q (.panic c) a w)
    (hx : ∀ w, (execOp a.eval oi).run P w = .ok (.value v) w) (hS : S w) (h : wpAnyH P .any ops Q S fuel (listed.setIfInBounds i true) (a.put oi.dst v) w) : wpAnyH P .any ops Q S (fuel + 1) listed a w := by
  simp only [Bool.and_eq_true] at h4
  exact wpAnyH_take hi h4.1.1.1 h4.1.1.2 h4.1.2 hQ (Or.inl ⟨h4.2, fun w _ => hx w⟩) hS h
theorem tL {ops : Array Oper} {Q : Exit → Act → World → Prop} {S : World → Prop} (i : Nat) {v : Value} {A : Addr} {t : TypeId} {X : Operand} {oi : Oper} {fuel : Nat} {listed : Array Bool} {a : Act} {w : World} (hi : ops[i]? = some oi) (hop : oi.op = .load t X)
    (h4 : (Region.noSelect ops && Region.free .any ops listed i && (Region.ready .any ops listed).contains i && Region.wanted oi (yielded ops a.tmps)) = true) (hQ : ∀ c a w, Q (.panic c) (a.put oi.dst v) w → Q (.panic c) a w)
    (he : a.eval X = .pointer (some A)) (hrun : ∀ w : World, w.cell? A = some v → (Instr.loadAt t (.pointer (some A))).run Tryz.prog w = .ok v w) (hc : ∀ w, S w → w.cell? A = some v) (hS : S w) (h : wpAnyH Tryz.prog .any ops Q S fuel (listed.setIfInBounds i true) (a.put oi.dst v) w) : wpAnyH Tryz.prog .any ops Q S (fuel + 1) listed a w := by
  simp only [Bool.and_eq_true] at h4
  exact wpAnyH_take hi h4.1.1.1 h4.1.1.2 h4.1.2 hQ (Or.inl ⟨h4.2, fun w hw => by
    unfold execOp
    rw [hop]
    simp [he, hrun w (hc w hw), Result.andThen]⟩) hS h
theorem tI {ops : Array Oper} {Q : Exit → Act → World → Prop} {S : World → Prop} (i : Nat) {v : Value} {A : Addr} {X : Operand} {oi : Oper} {fuel : Nat} {listed : Array Bool} {a : Act} {w : World} (hi : ops[i]? = some oi) (hop : oi.op = .load 3 X)
    (h4 : (Region.noSelect ops && Region.free .any ops listed i && (Region.ready .any ops listed).contains i && Region.wanted oi (yielded ops a.tmps)) = true) (hQ : ∀ c a w, Q (.panic c) (a.put oi.dst v) w → Q (.panic c) a w)
    (he : a.eval X = .pointer (some A)) (hc : ∀ w, S w → w.cell? A = some v) (hS : S w) (h : wpAnyH Tryz.prog .any ops Q S fuel (listed.setIfInBounds i true) (a.put oi.dst v) w) : wpAnyH Tryz.prog .any ops Q S (fuel + 1) listed a w :=
  tL i hi hop h4 hQ he (fun w h => by simp [Instr.loadAt, go_sem, h]) hc hS h
theorem tU {ops : Array Oper} {Q : Exit → Act → World → Prop} {S : World → Prop} (i : Nat) {v : Value} {A : Addr} {X : Operand} {oi : Oper} {fuel : Nat} {listed : Array Bool} {a : Act} {w : World} (hi : ops[i]? = some oi) (hop : oi.op = .load 29 X)
    (h4 : (Region.noSelect ops && Region.free .any ops listed i && (Region.ready .any ops listed).contains i && Region.wanted oi (yielded ops a.tmps)) = true) (hQ : ∀ c a w, Q (.panic c) (a.put oi.dst v) w → Q (.panic c) a w)
    (he : a.eval X = .pointer (some A)) (hc : ∀ w, S w → w.cell? A = some v) (hS : S w) (h : wpAnyH Tryz.prog .any ops Q S fuel (listed.setIfInBounds i true) (a.put oi.dst v) w) : wpAnyH Tryz.prog .any ops Q S (fuel + 1) listed a w :=
  tL i hi hop h4 hQ he (fun w h => by simp [Instr.loadAt, go_sem, h]) hc hS h
theorem tA {P : Program} {ops : Array Oper} {Q : Exit → Act → World → Prop} {S : World → Prop} (i : Nat) {fuel : Nat} {listed : Array Bool} {a : Act} {w : World} (hr : Region.ready .any ops listed = [i])
    (h : wpOp P ops Q i (fun a' w' => S w' ∧ wpAnyH P .any ops Q S fuel (listed.setIfInBounds i true) a' w') a w) : wpAnyH P .any ops Q S (fuel + 1) listed a w :=
  wpAnyH_all hr (by simp) fun j hj => by
    obtain rfl : j = i := by simpa using hj
    exact h
/-- The box of an instruction. -/
structure Bx (w : World) (g : Nat) (op rd r1 r2 n : Int) : Prop where
  c0 : w.cell? ⟨g, 0, none⟩ = some (.int .i64 op)
  c1 : w.cell? ⟨g, 1, none⟩ = some (.int .i64 rd)
  c2 : w.cell? ⟨g, 2, none⟩ = some (.int .i64 r1)
  c3 : w.cell? ⟨g, 3, none⟩ = some (.int .i64 r2)
  c4 : w.cell? ⟨g, 4, none⟩ = some (.int .u32 n)
theorem Bx.of {w w' : World} {g : Nat} {op rd r1 r2 n : Int} (h : Bx w g op rd r1 r2 n) (e : w'.heap[g]? = w.heap[g]?) : Bx w' g op rd r1 r2 n := by
  have c : ∀ j, w'.cell? ⟨g, j, none⟩ = w.cell? ⟨g, j, none⟩ := fun j => World.cell?_of_block (w := w) e
  exact ⟨(c _).trans h.c0, (c _).trans h.c1, (c _).trans h.c2, (c _).trans h.c3, (c _).trans h.c4⟩
theorem Bx.lt {w : World} {g : Nat} {op rd r1 r2 n : Int} (h : Bx w g op rd r1 r2 n) : g < w.heap.size := World.block_lt_of_cell? w _ h.c0
theorem Bx.below {w w' : World} {g : Nat} {op rd r1 r2 n : Int} (h : Bx w g op rd r1 r2 n) (hb : Below w.heap.size w w') : Bx w' g op rd r1 r2 n := h.of (hb.block g h.lt)
theorem Bx.offs {w w' : World} {g : Nat} {op rd r1 r2 n : Int} {L : List Nat} (h : Bx w g op rd r1 r2 n) (ho : Offs L w w') (hg : g ∉ L) : Bx w' g op rd r1 r2 n := h.of (ho.block g h.lt hg)
theorem Bx.new (W : World) (op rd r1 r2 n : Int) (t : TypeId) : Bx (W.alloc (.cells #[.int .i64 op, .int .i64 rd, .int .i64 r1, .int .i64 r2, .int .u32 n] t)) W.heap.size op rd r1 r2 n := by
  have e := fun j => cell_of_row (W.alloc (.cells #[.int .i64 op, .int .i64 rd, .int .i64 r1, .int .i64 r2, .int .u32 n] t)) W.heap.size j _ _ (0, 0) (heap_alloc_new W _)
  exact ⟨(e 0).trans rfl, (e 1).trans rfl, (e 2).trans rfl, (e 3).trans rfl, (e 4).trans rfl⟩
structure At (W w : World) (x r g : Nat) (c : CSt) (op rd r1 r2 n : Int) : Prop where
  c : CodeAt w x r c
  b : Bx w g op rd r1 r2 n
  o : Offs [x, r] W w
theorem At.below {W w w' : World} {x r g : Nat} {c : CSt} {op rd r1 r2 n : Int} (h : At W w x r g c op rd r1 r2 n) (hb : Below w.heap.size w w') : At W w' x r g c op rd r1 r2 n :=
  ⟨h.c.below hb h.c.lt.1 h.c.lt.2, h.b.below hb, h.o.trans (Offs.of_below hb)⟩
theorem At.new {W : World} {x r : Nat} {c : CSt} (h : CodeAt W x r c) (op rd r1 r2 n : Int) (t : TypeId) : At W (W.alloc (.cells #[.int .i64 op, .int .i64 rd, .int .i64 r1, .int .i64 r2, .int .u32 n] t)) x r W.heap.size c op rd r1 r2 n :=
  ⟨h.below ((Below.refl W.heap.size W).alloc (Nat.le_refl _) _) h.lt.1 h.lt.2, Bx.new W op rd r1 r2 n t, (Offs.refl _ _).new _⟩
end Go.Proofs.YtonlmogclejfaaaGreatDoor
