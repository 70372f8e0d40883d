/-
  The code's do: Lui, Auipc, jumps, Fence.
-/
import Derived.Test.YtlilgcbgmebcdaaGreatDoorCodeSmall
import Derived.Test.YtlilgcbgmebcdaaGreatDoorCodeReck
namespace Go.Proofs.YtlilgcbgmebcdaaGreatDoor
open Go.RowKit

theorem an_bd' (x : Int) (h0 : 0 ≤ x) (h1 : x < 4294967296) : 0 ≤ bits .andNot .u32 x 1 ∧ bits .andNot .u32 x 1 < 4294967296 := by
  rw [u32_andNot x 1 h0 h1 (by decide) (by decide)]
  have : x.toNat &&& (4294967295 - (1 : Int).toNat) ≤ x.toNat := Nat.and_le_left
  omega
structure Iok (rd r1 r2 : Nat) (imm : Int) : Prop where
  d : rd < 32
  s : r1 < 32
  t : r2 < 32
  i0 : 0 ≤ imm
  i1 : imm < 4294967296
structure Cok (c : CSt) : Prop where
  z : c.regs[0]?.getD 0 = 0
  x : ∀ i : Nat, 0 ≤ c.regs[i]?.getD 0 ∧ c.regs[i]?.getD 0 < 4294967296
  p0 : 0 ≤ c.pc
  p1 : c.pc < 4294967296
set_option maxHeartbeats 4000000 in
set_option maxRecDepth 100000 in
theorem cdo_1 (W : World) (x r : Nat) (c : CSt) (h : CodeAt W x r c) (A : x ≠ r) (C : Cok c) (rd r1 r2 : Nat) (imm : Int) (K : Iok rd r1 r2 imm) :
    Calls Tryz.prog 27 #[.pointer (some ⟨x, 0, none⟩), .agg #[.int .i64 1, .int .i64 rd, .int .i64 r1, .int .i64 r2, .int .u32 imm]] W fun e W' => e = .returned (.tuple #[]) ∧ CodeAt W' x r (resC c rd imm) ∧ Offs [x, r] W W' := by
  have HF0 : Hid (∀ o, CodeAt (W.alloc o) x r c) := fun o => h.below ((Below.refl W.heap.size W).alloc (Nat.le_refl _) o) h.lt.1 h.lt.2
  have HF : Hid (∀ o q, CodeAt ((W.alloc o).drewN q) x r c) := fun o q => (HF0.out o).drawn q
  have hd := K.d
  have h1 := K.s
  have h2 := K.t
  have i0 := K.i0
  have i1 := K.i1
  have z := C.z
  have xa := C.x r1
  have xb := C.x r2
  have p0 := C.p0
  have p1 := C.p1
  have hd' : (rd : Int) < 32 := by omega
  have c1 := fun o => (HF0.out o).pc
  have f1 := fun o => (HF0.out o).fx
  have HZ : Hid (c.regs[0]?.getD 0 = 0) := z
  clear h z C
  go_enter Tryz.func27, Tryz.ntmps27
  go_wp2_with (first | (go_at_call 52; (first | (refine (reg_any _ x r c (HF0.out _) HZ.out _ (by omega)).mono ?_) | (refine (reg_any _ x r c (HF.out _ _) HZ.out _ (by omega)).mono ?_)); rintro e w' ⟨rfl, q, rfl⟩))
  refine (result_c _ x r c (HF.out _ _) A rd hd _).mono ?_
  rintro e w3 ⟨rfl, h3, o3⟩
  go_wp2_with fail
  go_end0
  exact ⟨rfl, h3, (((Offs.refl _ _).new _).drawn _).trans o3⟩
set_option maxHeartbeats 4000000 in
set_option maxRecDepth 100000 in
theorem cdo_2 (W : World) (x r : Nat) (c : CSt) (h : CodeAt W x r c) (A : x ≠ r) (C : Cok c) (rd r1 r2 : Nat) (imm : Int) (K : Iok rd r1 r2 imm) :
    Calls Tryz.prog 27 #[.pointer (some ⟨x, 0, none⟩), .agg #[.int .i64 2, .int .i64 rd, .int .i64 r1, .int .i64 r2, .int .u32 imm]] W fun e W' => e = .returned (.tuple #[]) ∧ CodeAt W' x r (resC c rd ((c.pc + imm) % 4294967296)) ∧ Offs [x, r] W W' := by
  have HF0 : Hid (∀ o, CodeAt (W.alloc o) x r c) := fun o => h.below ((Below.refl W.heap.size W).alloc (Nat.le_refl _) o) h.lt.1 h.lt.2
  have HF : Hid (∀ o q, CodeAt ((W.alloc o).drewN q) x r c) := fun o q => (HF0.out o).drawn q
  have hd := K.d
  have h1 := K.s
  have h2 := K.t
  have i0 := K.i0
  have i1 := K.i1
  have z := C.z
  have xa := C.x r1
  have xb := C.x r2
  have p0 := C.p0
  have p1 := C.p1
  have hd' : (rd : Int) < 32 := by omega
  have c1 := fun o => (HF0.out o).pc
  have f1 := fun o => (HF0.out o).fx
  have HZ : Hid (c.regs[0]?.getD 0 = 0) := z
  clear h z C
  go_enter Tryz.func27, Tryz.ntmps27
  go_wp2_with (first | (go_at_call 52; (first | (refine (reg_any _ x r c (HF0.out _) HZ.out _ (by omega)).mono ?_) | (refine (reg_any _ x r c (HF.out _ _) HZ.out _ (by omega)).mono ?_)); rintro e w' ⟨rfl, q, rfl⟩))
  refine (result_c _ x r c (HF.out _ _) A rd hd _).mono ?_
  rintro e w3 ⟨rfl, h3, o3⟩
  go_wp2_with fail
  go_end0
  exact ⟨rfl, h3, (((Offs.refl _ _).new _).drawn _).trans o3⟩
set_option maxHeartbeats 4000000 in
set_option maxRecDepth 100000 in
theorem cdo_3 (W : World) (x r : Nat) (c : CSt) (h : CodeAt W x r c) (A : x ≠ r) (C : Cok c) (rd r1 r2 : Nat) (imm : Int) (K : Iok rd r1 r2 imm) (t4 : (c.pc + imm) % 4294967296 % 4 = 0) :
    Calls Tryz.prog 27 #[.pointer (some ⟨x, 0, none⟩), .agg #[.int .i64 3, .int .i64 rd, .int .i64 r1, .int .i64 r2, .int .u32 imm]] W fun e W' => e = .returned (.tuple #[]) ∧ CodeAt W' x r (jmpC c rd ((c.pc + imm) % 4294967296)) ∧ Offs [x, r] W W' := by
  have HF0 : Hid (∀ o, CodeAt (W.alloc o) x r c) := fun o => h.below ((Below.refl W.heap.size W).alloc (Nat.le_refl _) o) h.lt.1 h.lt.2
  have HF : Hid (∀ o q, CodeAt ((W.alloc o).drewN q) x r c) := fun o q => (HF0.out o).drawn q
  have hd := K.d
  have h1 := K.s
  have h2 := K.t
  have i0 := K.i0
  have i1 := K.i1
  have z := C.z
  have xa := C.x r1
  have xb := C.x r2
  have p0 := C.p0
  have p1 := C.p1
  have hd' : (rd : Int) < 32 := by omega
  have c1 := fun o => (HF0.out o).pc
  have f1 := fun o => (HF0.out o).fx
  have HZ : Hid (c.regs[0]?.getD 0 = 0) := z
  have T4 : Hid ((c.pc + imm) % 4294967296 % 4 = 0) := t4
  clear t4
  clear h z C
  go_enter Tryz.func27, Tryz.ntmps27
  go_wp2_with (first | (go_at_call 52; (first | (refine (reg_any _ x r c (HF0.out _) HZ.out _ (by omega)).mono ?_) | (refine (reg_any _ x r c (HF.out _ _) HZ.out _ (by omega)).mono ?_)); rintro e w' ⟨rfl, q, rfl⟩))
  refine (jump_c _ x r c (HF.out _ _) A rd hd _ (by omega) T4.out).mono ?_
  rintro e w3 ⟨rfl, h3, o3⟩
  go_wp2_with fail
  go_end0
  exact ⟨rfl, h3, (((Offs.refl _ _).new _).drawn _).trans o3⟩
set_option maxHeartbeats 4000000 in
set_option maxRecDepth 100000 in
theorem cdo_4 (W : World) (x r : Nat) (c : CSt) (h : CodeAt W x r c) (A : x ≠ r) (C : Cok c) (rd r1 r2 : Nat) (imm : Int) (K : Iok rd r1 r2 imm) (t4 : bits .andNot .u32 ((c.regs[r1]?.getD 0 + imm) % 4294967296) 1 % 4 = 0) :
    Calls Tryz.prog 27 #[.pointer (some ⟨x, 0, none⟩), .agg #[.int .i64 4, .int .i64 rd, .int .i64 r1, .int .i64 r2, .int .u32 imm]] W fun e W' => e = .returned (.tuple #[]) ∧ CodeAt W' x r (jmpC c rd (bits .andNot .u32 ((c.regs[r1]?.getD 0 + imm) % 4294967296) 1)) ∧ Offs [x, r] W W' := by
  have HF0 : Hid (∀ o, CodeAt (W.alloc o) x r c) := fun o => h.below ((Below.refl W.heap.size W).alloc (Nat.le_refl _) o) h.lt.1 h.lt.2
  have HF : Hid (∀ o q, CodeAt ((W.alloc o).drewN q) x r c) := fun o q => (HF0.out o).drawn q
  have hd := K.d
  have h1 := K.s
  have h2 := K.t
  have i0 := K.i0
  have i1 := K.i1
  have z := C.z
  have xa := C.x r1
  have xb := C.x r2
  have p0 := C.p0
  have p1 := C.p1
  have hd' : (rd : Int) < 32 := by omega
  have c1 := fun o => (HF0.out o).pc
  have f1 := fun o => (HF0.out o).fx
  have HZ : Hid (c.regs[0]?.getD 0 = 0) := z
  have T4 : Hid (bits .andNot .u32 ((c.regs[r1]?.getD 0 + imm) % 4294967296) 1 % 4 = 0) := t4
  clear t4
  clear h z C
  go_enter Tryz.func27, Tryz.ntmps27
  go_wp2_with (first | (go_at_call 52; (first | (refine (reg_any _ x r c (HF0.out _) HZ.out _ (by omega)).mono ?_) | (refine (reg_any _ x r c (HF.out _ _) HZ.out _ (by omega)).mono ?_)); rintro e w' ⟨rfl, q, rfl⟩))
  refine (jump_c _ x r c (HF.out _ _) A rd hd _ (an_bd' _ (by omega) (by omega)).1 T4.out).mono ?_
  rintro e w3 ⟨rfl, h3, o3⟩
  go_wp2_with fail
  go_end0
  exact ⟨rfl, h3, (((Offs.refl _ _).new _).drawn _).trans o3⟩
set_option maxHeartbeats 4000000 in
set_option maxRecDepth 100000 in
theorem cdo_38 (W : World) (x r : Nat) (c : CSt) (h : CodeAt W x r c) (A : x ≠ r) (C : Cok c) (rd r1 r2 : Nat) (imm : Int) (K : Iok rd r1 r2 imm) :
    Calls Tryz.prog 27 #[.pointer (some ⟨x, 0, none⟩), .agg #[.int .i64 38, .int .i64 rd, .int .i64 r1, .int .i64 r2, .int .u32 imm]] W fun e W' => e = .returned (.tuple #[]) ∧ CodeAt W' x r ({ c with pc := (c.pc + 4) % 4294967296 }) ∧ Offs [x, r] W W' := by
  have HF0 : Hid (∀ o, CodeAt (W.alloc o) x r c) := fun o => h.below ((Below.refl W.heap.size W).alloc (Nat.le_refl _) o) h.lt.1 h.lt.2
  have HF : Hid (∀ o q, CodeAt ((W.alloc o).drewN q) x r c) := fun o q => (HF0.out o).drawn q
  have hd := K.d
  have h1 := K.s
  have h2 := K.t
  have i0 := K.i0
  have i1 := K.i1
  have z := C.z
  have xa := C.x r1
  have xb := C.x r2
  have p0 := C.p0
  have p1 := C.p1
  have hd' : (rd : Int) < 32 := by omega
  have c1 := fun o => (HF0.out o).pc
  have f1 := fun o => (HF0.out o).fx
  have HZ : Hid (c.regs[0]?.getD 0 = 0) := z
  clear h z C
  go_enter Tryz.func27, Tryz.ntmps27
  go_wp2_with (first | (go_at_call 52; (first | (refine (reg_any _ x r c (HF0.out _) HZ.out _ (by omega)).mono ?_) | (refine (reg_any _ x r c (HF.out _ _) HZ.out _ (by omega)).mono ?_)); rintro e w' ⟨rfl, q, rfl⟩))
  go_end0
  exact ⟨rfl, ((HF.out _ _)).put_pc A _, (((Offs.refl _ _).new _).drawn _).put (by simp) _⟩
end Go.Proofs.YtlilgcbgmebcdaaGreatDoor
