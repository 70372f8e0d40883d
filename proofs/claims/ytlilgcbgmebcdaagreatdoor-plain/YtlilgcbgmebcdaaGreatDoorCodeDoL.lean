/-
  The code's do: branches, loads and stores.
-/
import Derived.Test.YtlilgcbgmebcdaaGreatDoorCodeSmall
import Derived.Test.YtlilgcbgmebcdaaGreatDoorCodeReck
import Derived.Test.YtlilgcbgmebcdaaGreatDoorCodeDo1
namespace Go.Proofs.YtlilgcbgmebcdaaGreatDoor
open Go.RowKit

set_option maxHeartbeats 4000000 in
set_option maxRecDepth 100000 in
theorem cdo_5_y (W : World) (x r : Nat) (c : CSt) (h : CodeAt W x r c) (A : x ≠ r) (C : Cok c) (rd r1 r2 : Nat) (imm : Int) (K : Iok rd r1 r2 imm) (ht : takenB 5 (c.regs[r1]?.getD 0) (c.regs[r2]?.getD 0) = true) (t4 : (c.pc + imm) % 4294967296 % 4 = 0) :
    Calls Tryz.prog 27 #[.pointer (some ⟨x, 0, none⟩), .agg #[.int .i64 5, .int .i64 rd, .int .i64 r1, .int .i64 r2, .int .u32 imm]] W fun e W' => e = .returned (.tuple #[]) ∧ CodeAt W' x r ({ c with pc := (c.pc + imm) % 4294967296 }) ∧ Offs [x, r] W W' := by
  have HF0 : Hid (∀ o, CodeAt (W.alloc o) x r c) := fun o => h.below ((Below.refl W.heap.size W).alloc (Nat.le_refl _) o) h.lt.1 h.lt.2
  have HF : Hid (∀ o q, CodeAt ((W.alloc o).drewN q) x r c) := fun o q => (HF0.out o).drawn q
  have hd := K.d
  have h1 := K.s
  have h2 := K.t
  have i0 := K.i0
  have i1 := K.i1
  have z := C.z
  have xa := C.x r1
  have xb := C.x r2
  have p0 := C.p0
  have p1 := C.p1
  have hd' : (rd : Int) < 32 := by omega
  have c1 := fun o => (HF0.out o).pc
  have f1 := fun o => (HF0.out o).fx
  have HZ : Hid (c.regs[0]?.getD 0 = 0) := z
  have wpi : IntKind.u32.wrap (c.pc + imm) = (c.pc + imm) % 4294967296 := IntKind.wrap_u32 _
  have T4 : Hid ((c.pc + imm) % 4294967296 % 4 = 0) := t4
  have HT : Hid (takenB 5 (c.regs[r1]?.getD 0) (c.regs[r2]?.getD 0) = true) := ht
  clear t4 ht
  clear h z C
  go_enter Tryz.func27, Tryz.ntmps27
  go_wp2_with (first | (go_at_call 52; (first | (refine (reg_any _ x r c (HF0.out _) HZ.out _ (by omega)).mono ?_) | (refine (reg_any _ x r c (HF.out _ _) HZ.out _ (by omega)).mono ?_)); rintro e w' ⟨rfl, q, rfl⟩))
  go_region_with (first | (go_at_call 56; refine (taken_any _ 5 _ _ (by decide) (by decide) xa.1 xa.2 xb.1 xb.2).mono ?_; rw [HT.out]; rintro e w' ⟨rfl, rfl⟩) | (go_at_call 55; refine (branch_yes _ x r c (HF.out _ _) A _ (by omega) T4.out).mono ?_; rintro e w3 ⟨rfl, h3, o3⟩))
  all_goals go_wp2_with fail
  all_goals go_end0
  all_goals exact ⟨rfl, h3, (((Offs.refl _ _).new _).drawn _).trans o3⟩
set_option maxHeartbeats 4000000 in
set_option maxRecDepth 100000 in
theorem cdo_5_n (W : World) (x r : Nat) (c : CSt) (h : CodeAt W x r c) (A : x ≠ r) (C : Cok c) (rd r1 r2 : Nat) (imm : Int) (K : Iok rd r1 r2 imm) (ht : takenB 5 (c.regs[r1]?.getD 0) (c.regs[r2]?.getD 0) = false) (t4 : (c.pc + 4) % 4294967296 % 4 = 0) :
    Calls Tryz.prog 27 #[.pointer (some ⟨x, 0, none⟩), .agg #[.int .i64 5, .int .i64 rd, .int .i64 r1, .int .i64 r2, .int .u32 imm]] W fun e W' => e = .returned (.tuple #[]) ∧ CodeAt W' x r ({ c with pc := (c.pc + 4) % 4294967296 }) ∧ Offs [x, r] W W' := by
  have HF0 : Hid (∀ o, CodeAt (W.alloc o) x r c) := fun o => h.below ((Below.refl W.heap.size W).alloc (Nat.le_refl _) o) h.lt.1 h.lt.2
  have HF : Hid (∀ o q, CodeAt ((W.alloc o).drewN q) x r c) := fun o q => (HF0.out o).drawn q
  have hd := K.d
  have h1 := K.s
  have h2 := K.t
  have i0 := K.i0
  have i1 := K.i1
  have z := C.z
  have xa := C.x r1
  have xb := C.x r2
  have p0 := C.p0
  have p1 := C.p1
  have hd' : (rd : Int) < 32 := by omega
  have c1 := fun o => (HF0.out o).pc
  have f1 := fun o => (HF0.out o).fx
  have HZ : Hid (c.regs[0]?.getD 0 = 0) := z
  have wpi : IntKind.u32.wrap (c.pc + imm) = (c.pc + imm) % 4294967296 := IntKind.wrap_u32 _
  have T4 : Hid ((c.pc + 4) % 4294967296 % 4 = 0) := t4
  have HT : Hid (takenB 5 (c.regs[r1]?.getD 0) (c.regs[r2]?.getD 0) = false) := ht
  clear t4 ht
  clear h z C
  go_enter Tryz.func27, Tryz.ntmps27
  go_wp2_with (first | (go_at_call 52; (first | (refine (reg_any _ x r c (HF0.out _) HZ.out _ (by omega)).mono ?_) | (refine (reg_any _ x r c (HF.out _ _) HZ.out _ (by omega)).mono ?_)); rintro e w' ⟨rfl, q, rfl⟩))
  go_region_with (first | (go_at_call 56; refine (taken_any _ 5 _ _ (by decide) (by decide) xa.1 xa.2 xb.1 xb.2).mono ?_; rw [HT.out]; rintro e w' ⟨rfl, rfl⟩) | (go_at_call 55; refine (branch_no _ x r c (HF.out _ _) A _ T4.out).mono ?_; rintro e w3 ⟨rfl, h3, o3⟩))
  all_goals go_wp2_with fail
  all_goals go_end0
  all_goals exact ⟨rfl, h3, (((Offs.refl _ _).new _).drawn _).trans o3⟩
set_option maxHeartbeats 4000000 in
set_option maxRecDepth 100000 in
theorem cdo_6_y (W : World) (x r : Nat) (c : CSt) (h : CodeAt W x r c) (A : x ≠ r) (C : Cok c) (rd r1 r2 : Nat) (imm : Int) (K : Iok rd r1 r2 imm) (ht : takenB 6 (c.regs[r1]?.getD 0) (c.regs[r2]?.getD 0) = true) (t4 : (c.pc + imm) % 4294967296 % 4 = 0) :
    Calls Tryz.prog 27 #[.pointer (some ⟨x, 0, none⟩), .agg #[.int .i64 6, .int .i64 rd, .int .i64 r1, .int .i64 r2, .int .u32 imm]] W fun e W' => e = .returned (.tuple #[]) ∧ CodeAt W' x r ({ c with pc := (c.pc + imm) % 4294967296 }) ∧ Offs [x, r] W W' := by
  have HF0 : Hid (∀ o, CodeAt (W.alloc o) x r c) := fun o => h.below ((Below.refl W.heap.size W).alloc (Nat.le_refl _) o) h.lt.1 h.lt.2
  have HF : Hid (∀ o q, CodeAt ((W.alloc o).drewN q) x r c) := fun o q => (HF0.out o).drawn q
  have hd := K.d
  have h1 := K.s
  have h2 := K.t
  have i0 := K.i0
  have i1 := K.i1
  have z := C.z
  have xa := C.x r1
  have xb := C.x r2
  have p0 := C.p0
  have p1 := C.p1
  have hd' : (rd : Int) < 32 := by omega
  have c1 := fun o => (HF0.out o).pc
  have f1 := fun o => (HF0.out o).fx
  have HZ : Hid (c.regs[0]?.getD 0 = 0) := z
  have wpi : IntKind.u32.wrap (c.pc + imm) = (c.pc + imm) % 4294967296 := IntKind.wrap_u32 _
  have T4 : Hid ((c.pc + imm) % 4294967296 % 4 = 0) := t4
  have HT : Hid (takenB 6 (c.regs[r1]?.getD 0) (c.regs[r2]?.getD 0) = true) := ht
  clear t4 ht
  clear h z C
  go_enter Tryz.func27, Tryz.ntmps27
  go_wp2_with (first | (go_at_call 52; (first | (refine (reg_any _ x r c (HF0.out _) HZ.out _ (by omega)).mono ?_) | (refine (reg_any _ x r c (HF.out _ _) HZ.out _ (by omega)).mono ?_)); rintro e w' ⟨rfl, q, rfl⟩))
  go_region_with (first | (go_at_call 56; refine (taken_any _ 6 _ _ (by decide) (by decide) xa.1 xa.2 xb.1 xb.2).mono ?_; rw [HT.out]; rintro e w' ⟨rfl, rfl⟩) | (go_at_call 55; refine (branch_yes _ x r c (HF.out _ _) A _ (by omega) T4.out).mono ?_; rintro e w3 ⟨rfl, h3, o3⟩))
  all_goals go_wp2_with fail
  all_goals go_end0
  all_goals exact ⟨rfl, h3, (((Offs.refl _ _).new _).drawn _).trans o3⟩
set_option maxHeartbeats 4000000 in
set_option maxRecDepth 100000 in
theorem cdo_6_n (W : World) (x r : Nat) (c : CSt) (h : CodeAt W x r c) (A : x ≠ r) (C : Cok c) (rd r1 r2 : Nat) (imm : Int) (K : Iok rd r1 r2 imm) (ht : takenB 6 (c.regs[r1]?.getD 0) (c.regs[r2]?.getD 0) = false) (t4 : (c.pc + 4) % 4294967296 % 4 = 0) :
    Calls Tryz.prog 27 #[.pointer (some ⟨x, 0, none⟩), .agg #[.int .i64 6, .int .i64 rd, .int .i64 r1, .int .i64 r2, .int .u32 imm]] W fun e W' => e = .returned (.tuple #[]) ∧ CodeAt W' x r ({ c with pc := (c.pc + 4) % 4294967296 }) ∧ Offs [x, r] W W' := by
  have HF0 : Hid (∀ o, CodeAt (W.alloc o) x r c) := fun o => h.below ((Below.refl W.heap.size W).alloc (Nat.le_refl _) o) h.lt.1 h.lt.2
  have HF : Hid (∀ o q, CodeAt ((W.alloc o).drewN q) x r c) := fun o q => (HF0.out o).drawn q
  have hd := K.d
  have h1 := K.s
  have h2 := K.t
  have i0 := K.i0
  have i1 := K.i1
  have z := C.z
  have xa := C.x r1
  have xb := C.x r2
  have p0 := C.p0
  have p1 := C.p1
  have hd' : (rd : Int) < 32 := by omega
  have c1 := fun o => (HF0.out o).pc
  have f1 := fun o => (HF0.out o).fx
  have HZ : Hid (c.regs[0]?.getD 0 = 0) := z
  have wpi : IntKind.u32.wrap (c.pc + imm) = (c.pc + imm) % 4294967296 := IntKind.wrap_u32 _
  have T4 : Hid ((c.pc + 4) % 4294967296 % 4 = 0) := t4
  have HT : Hid (takenB 6 (c.regs[r1]?.getD 0) (c.regs[r2]?.getD 0) = false) := ht
  clear t4 ht
  clear h z C
  go_enter Tryz.func27, Tryz.ntmps27
  go_wp2_with (first | (go_at_call 52; (first | (refine (reg_any _ x r c (HF0.out _) HZ.out _ (by omega)).mono ?_) | (refine (reg_any _ x r c (HF.out _ _) HZ.out _ (by omega)).mono ?_)); rintro e w' ⟨rfl, q, rfl⟩))
  go_region_with (first | (go_at_call 56; refine (taken_any _ 6 _ _ (by decide) (by decide) xa.1 xa.2 xb.1 xb.2).mono ?_; rw [HT.out]; rintro e w' ⟨rfl, rfl⟩) | (go_at_call 55; refine (branch_no _ x r c (HF.out _ _) A _ T4.out).mono ?_; rintro e w3 ⟨rfl, h3, o3⟩))
  all_goals go_wp2_with fail
  all_goals go_end0
  all_goals exact ⟨rfl, h3, (((Offs.refl _ _).new _).drawn _).trans o3⟩
set_option maxHeartbeats 4000000 in
set_option maxRecDepth 100000 in
theorem cdo_7_y (W : World) (x r : Nat) (c : CSt) (h : CodeAt W x r c) (A : x ≠ r) (C : Cok c) (rd r1 r2 : Nat) (imm : Int) (K : Iok rd r1 r2 imm) (ht : takenB 7 (c.regs[r1]?.getD 0) (c.regs[r2]?.getD 0) = true) (t4 : (c.pc + imm) % 4294967296 % 4 = 0) :
    Calls Tryz.prog 27 #[.pointer (some ⟨x, 0, none⟩), .agg #[.int .i64 7, .int .i64 rd, .int .i64 r1, .int .i64 r2, .int .u32 imm]] W fun e W' => e = .returned (.tuple #[]) ∧ CodeAt W' x r ({ c with pc := (c.pc + imm) % 4294967296 }) ∧ Offs [x, r] W W' := by
  have HF0 : Hid (∀ o, CodeAt (W.alloc o) x r c) := fun o => h.below ((Below.refl W.heap.size W).alloc (Nat.le_refl _) o) h.lt.1 h.lt.2
  have HF : Hid (∀ o q, CodeAt ((W.alloc o).drewN q) x r c) := fun o q => (HF0.out o).drawn q
  have hd := K.d
  have h1 := K.s
  have h2 := K.t
  have i0 := K.i0
  have i1 := K.i1
  have z := C.z
  have xa := C.x r1
  have xb := C.x r2
  have p0 := C.p0
  have p1 := C.p1
  have hd' : (rd : Int) < 32 := by omega
  have c1 := fun o => (HF0.out o).pc
  have f1 := fun o => (HF0.out o).fx
  have HZ : Hid (c.regs[0]?.getD 0 = 0) := z
  have wpi : IntKind.u32.wrap (c.pc + imm) = (c.pc + imm) % 4294967296 := IntKind.wrap_u32 _
  have T4 : Hid ((c.pc + imm) % 4294967296 % 4 = 0) := t4
  have HT : Hid (takenB 7 (c.regs[r1]?.getD 0) (c.regs[r2]?.getD 0) = true) := ht
  clear t4 ht
  clear h z C
  go_enter Tryz.func27, Tryz.ntmps27
  go_wp2_with (first | (go_at_call 52; (first | (refine (reg_any _ x r c (HF0.out _) HZ.out _ (by omega)).mono ?_) | (refine (reg_any _ x r c (HF.out _ _) HZ.out _ (by omega)).mono ?_)); rintro e w' ⟨rfl, q, rfl⟩))
  go_region_with (first | (go_at_call 56; refine (taken_any _ 7 _ _ (by decide) (by decide) xa.1 xa.2 xb.1 xb.2).mono ?_; rw [HT.out]; rintro e w' ⟨rfl, rfl⟩) | (go_at_call 55; refine (branch_yes _ x r c (HF.out _ _) A _ (by omega) T4.out).mono ?_; rintro e w3 ⟨rfl, h3, o3⟩))
  all_goals go_wp2_with fail
  all_goals go_end0
  all_goals exact ⟨rfl, h3, (((Offs.refl _ _).new _).drawn _).trans o3⟩
set_option maxHeartbeats 4000000 in
set_option maxRecDepth 100000 in
theorem cdo_7_n (W : World) (x r : Nat) (c : CSt) (h : CodeAt W x r c) (A : x ≠ r) (C : Cok c) (rd r1 r2 : Nat) (imm : Int) (K : Iok rd r1 r2 imm) (ht : takenB 7 (c.regs[r1]?.getD 0) (c.regs[r2]?.getD 0) = false) (t4 : (c.pc + 4) % 4294967296 % 4 = 0) :
    Calls Tryz.prog 27 #[.pointer (some ⟨x, 0, none⟩), .agg #[.int .i64 7, .int .i64 rd, .int .i64 r1, .int .i64 r2, .int .u32 imm]] W fun e W' => e = .returned (.tuple #[]) ∧ CodeAt W' x r ({ c with pc := (c.pc + 4) % 4294967296 }) ∧ Offs [x, r] W W' := by
  have HF0 : Hid (∀ o, CodeAt (W.alloc o) x r c) := fun o => h.below ((Below.refl W.heap.size W).alloc (Nat.le_refl _) o) h.lt.1 h.lt.2
  have HF : Hid (∀ o q, CodeAt ((W.alloc o).drewN q) x r c) := fun o q => (HF0.out o).drawn q
  have hd := K.d
  have h1 := K.s
  have h2 := K.t
  have i0 := K.i0
  have i1 := K.i1
  have z := C.z
  have xa := C.x r1
  have xb := C.x r2
  have p0 := C.p0
  have p1 := C.p1
  have hd' : (rd : Int) < 32 := by omega
  have c1 := fun o => (HF0.out o).pc
  have f1 := fun o => (HF0.out o).fx
  have HZ : Hid (c.regs[0]?.getD 0 = 0) := z
  have wpi : IntKind.u32.wrap (c.pc + imm) = (c.pc + imm) % 4294967296 := IntKind.wrap_u32 _
  have T4 : Hid ((c.pc + 4) % 4294967296 % 4 = 0) := t4
  have HT : Hid (takenB 7 (c.regs[r1]?.getD 0) (c.regs[r2]?.getD 0) = false) := ht
  clear t4 ht
  clear h z C
  go_enter Tryz.func27, Tryz.ntmps27
  go_wp2_with (first | (go_at_call 52; (first | (refine (reg_any _ x r c (HF0.out _) HZ.out _ (by omega)).mono ?_) | (refine (reg_any _ x r c (HF.out _ _) HZ.out _ (by omega)).mono ?_)); rintro e w' ⟨rfl, q, rfl⟩))
  go_region_with (first | (go_at_call 56; refine (taken_any _ 7 _ _ (by decide) (by decide) xa.1 xa.2 xb.1 xb.2).mono ?_; rw [HT.out]; rintro e w' ⟨rfl, rfl⟩) | (go_at_call 55; refine (branch_no _ x r c (HF.out _ _) A _ T4.out).mono ?_; rintro e w3 ⟨rfl, h3, o3⟩))
  all_goals go_wp2_with fail
  all_goals go_end0
  all_goals exact ⟨rfl, h3, (((Offs.refl _ _).new _).drawn _).trans o3⟩
set_option maxHeartbeats 4000000 in
set_option maxRecDepth 100000 in
theorem cdo_8_y (W : World) (x r : Nat) (c : CSt) (h : CodeAt W x r c) (A : x ≠ r) (C : Cok c) (rd r1 r2 : Nat) (imm : Int) (K : Iok rd r1 r2 imm) (ht : takenB 8 (c.regs[r1]?.getD 0) (c.regs[r2]?.getD 0) = true) (t4 : (c.pc + imm) % 4294967296 % 4 = 0) :
    Calls Tryz.prog 27 #[.pointer (some ⟨x, 0, none⟩), .agg #[.int .i64 8, .int .i64 rd, .int .i64 r1, .int .i64 r2, .int .u32 imm]] W fun e W' => e = .returned (.tuple #[]) ∧ CodeAt W' x r ({ c with pc := (c.pc + imm) % 4294967296 }) ∧ Offs [x, r] W W' := by
  have HF0 : Hid (∀ o, CodeAt (W.alloc o) x r c) := fun o => h.below ((Below.refl W.heap.size W).alloc (Nat.le_refl _) o) h.lt.1 h.lt.2
  have HF : Hid (∀ o q, CodeAt ((W.alloc o).drewN q) x r c) := fun o q => (HF0.out o).drawn q
  have hd := K.d
  have h1 := K.s
  have h2 := K.t
  have i0 := K.i0
  have i1 := K.i1
  have z := C.z
  have xa := C.x r1
  have xb := C.x r2
  have p0 := C.p0
  have p1 := C.p1
  have hd' : (rd : Int) < 32 := by omega
  have c1 := fun o => (HF0.out o).pc
  have f1 := fun o => (HF0.out o).fx
  have HZ : Hid (c.regs[0]?.getD 0 = 0) := z
  have wpi : IntKind.u32.wrap (c.pc + imm) = (c.pc + imm) % 4294967296 := IntKind.wrap_u32 _
  have T4 : Hid ((c.pc + imm) % 4294967296 % 4 = 0) := t4
  have HT : Hid (takenB 8 (c.regs[r1]?.getD 0) (c.regs[r2]?.getD 0) = true) := ht
  clear t4 ht
  clear h z C
  go_enter Tryz.func27, Tryz.ntmps27
  go_wp2_with (first | (go_at_call 52; (first | (refine (reg_any _ x r c (HF0.out _) HZ.out _ (by omega)).mono ?_) | (refine (reg_any _ x r c (HF.out _ _) HZ.out _ (by omega)).mono ?_)); rintro e w' ⟨rfl, q, rfl⟩))
  go_region_with (first | (go_at_call 56; refine (taken_any _ 8 _ _ (by decide) (by decide) xa.1 xa.2 xb.1 xb.2).mono ?_; rw [HT.out]; rintro e w' ⟨rfl, rfl⟩) | (go_at_call 55; refine (branch_yes _ x r c (HF.out _ _) A _ (by omega) T4.out).mono ?_; rintro e w3 ⟨rfl, h3, o3⟩))
  all_goals go_wp2_with fail
  all_goals go_end0
  all_goals exact ⟨rfl, h3, (((Offs.refl _ _).new _).drawn _).trans o3⟩
set_option maxHeartbeats 4000000 in
set_option maxRecDepth 100000 in
theorem cdo_8_n (W : World) (x r : Nat) (c : CSt) (h : CodeAt W x r c) (A : x ≠ r) (C : Cok c) (rd r1 r2 : Nat) (imm : Int) (K : Iok rd r1 r2 imm) (ht : takenB 8 (c.regs[r1]?.getD 0) (c.regs[r2]?.getD 0) = false) (t4 : (c.pc + 4) % 4294967296 % 4 = 0) :
    Calls Tryz.prog 27 #[.pointer (some ⟨x, 0, none⟩), .agg #[.int .i64 8, .int .i64 rd, .int .i64 r1, .int .i64 r2, .int .u32 imm]] W fun e W' => e = .returned (.tuple #[]) ∧ CodeAt W' x r ({ c with pc := (c.pc + 4) % 4294967296 }) ∧ Offs [x, r] W W' := by
  have HF0 : Hid (∀ o, CodeAt (W.alloc o) x r c) := fun o => h.below ((Below.refl W.heap.size W).alloc (Nat.le_refl _) o) h.lt.1 h.lt.2
  have HF : Hid (∀ o q, CodeAt ((W.alloc o).drewN q) x r c) := fun o q => (HF0.out o).drawn q
  have hd := K.d
  have h1 := K.s
  have h2 := K.t
  have i0 := K.i0
  have i1 := K.i1
  have z := C.z
  have xa := C.x r1
  have xb := C.x r2
  have p0 := C.p0
  have p1 := C.p1
  have hd' : (rd : Int) < 32 := by omega
  have c1 := fun o => (HF0.out o).pc
  have f1 := fun o => (HF0.out o).fx
  have HZ : Hid (c.regs[0]?.getD 0 = 0) := z
  have wpi : IntKind.u32.wrap (c.pc + imm) = (c.pc + imm) % 4294967296 := IntKind.wrap_u32 _
  have T4 : Hid ((c.pc + 4) % 4294967296 % 4 = 0) := t4
  have HT : Hid (takenB 8 (c.regs[r1]?.getD 0) (c.regs[r2]?.getD 0) = false) := ht
  clear t4 ht
  clear h z C
  go_enter Tryz.func27, Tryz.ntmps27
  go_wp2_with (first | (go_at_call 52; (first | (refine (reg_any _ x r c (HF0.out _) HZ.out _ (by omega)).mono ?_) | (refine (reg_any _ x r c (HF.out _ _) HZ.out _ (by omega)).mono ?_)); rintro e w' ⟨rfl, q, rfl⟩))
  go_region_with (first | (go_at_call 56; refine (taken_any _ 8 _ _ (by decide) (by decide) xa.1 xa.2 xb.1 xb.2).mono ?_; rw [HT.out]; rintro e w' ⟨rfl, rfl⟩) | (go_at_call 55; refine (branch_no _ x r c (HF.out _ _) A _ T4.out).mono ?_; rintro e w3 ⟨rfl, h3, o3⟩))
  all_goals go_wp2_with fail
  all_goals go_end0
  all_goals exact ⟨rfl, h3, (((Offs.refl _ _).new _).drawn _).trans o3⟩
set_option maxHeartbeats 4000000 in
set_option maxRecDepth 100000 in
theorem cdo_9_y (W : World) (x r : Nat) (c : CSt) (h : CodeAt W x r c) (A : x ≠ r) (C : Cok c) (rd r1 r2 : Nat) (imm : Int) (K : Iok rd r1 r2 imm) (ht : takenB 9 (c.regs[r1]?.getD 0) (c.regs[r2]?.getD 0) = true) (t4 : (c.pc + imm) % 4294967296 % 4 = 0) :
    Calls Tryz.prog 27 #[.pointer (some ⟨x, 0, none⟩), .agg #[.int .i64 9, .int .i64 rd, .int .i64 r1, .int .i64 r2, .int .u32 imm]] W fun e W' => e = .returned (.tuple #[]) ∧ CodeAt W' x r ({ c with pc := (c.pc + imm) % 4294967296 }) ∧ Offs [x, r] W W' := by
  have HF0 : Hid (∀ o, CodeAt (W.alloc o) x r c) := fun o => h.below ((Below.refl W.heap.size W).alloc (Nat.le_refl _) o) h.lt.1 h.lt.2
  have HF : Hid (∀ o q, CodeAt ((W.alloc o).drewN q) x r c) := fun o q => (HF0.out o).drawn q
  have hd := K.d
  have h1 := K.s
  have h2 := K.t
  have i0 := K.i0
  have i1 := K.i1
  have z := C.z
  have xa := C.x r1
  have xb := C.x r2
  have p0 := C.p0
  have p1 := C.p1
  have hd' : (rd : Int) < 32 := by omega
  have c1 := fun o => (HF0.out o).pc
  have f1 := fun o => (HF0.out o).fx
  have HZ : Hid (c.regs[0]?.getD 0 = 0) := z
  have wpi : IntKind.u32.wrap (c.pc + imm) = (c.pc + imm) % 4294967296 := IntKind.wrap_u32 _
  have T4 : Hid ((c.pc + imm) % 4294967296 % 4 = 0) := t4
  have HT : Hid (takenB 9 (c.regs[r1]?.getD 0) (c.regs[r2]?.getD 0) = true) := ht
  clear t4 ht
  clear h z C
  go_enter Tryz.func27, Tryz.ntmps27
  go_wp2_with (first | (go_at_call 52; (first | (refine (reg_any _ x r c (HF0.out _) HZ.out _ (by omega)).mono ?_) | (refine (reg_any _ x r c (HF.out _ _) HZ.out _ (by omega)).mono ?_)); rintro e w' ⟨rfl, q, rfl⟩))
  go_region_with (first | (go_at_call 56; refine (taken_any _ 9 _ _ (by decide) (by decide) xa.1 xa.2 xb.1 xb.2).mono ?_; rw [HT.out]; rintro e w' ⟨rfl, rfl⟩) | (go_at_call 55; refine (branch_yes _ x r c (HF.out _ _) A _ (by omega) T4.out).mono ?_; rintro e w3 ⟨rfl, h3, o3⟩))
  all_goals go_wp2_with fail
  all_goals go_end0
  all_goals exact ⟨rfl, h3, (((Offs.refl _ _).new _).drawn _).trans o3⟩
set_option maxHeartbeats 4000000 in
set_option maxRecDepth 100000 in
theorem cdo_9_n (W : World) (x r : Nat) (c : CSt) (h : CodeAt W x r c) (A : x ≠ r) (C : Cok c) (rd r1 r2 : Nat) (imm : Int) (K : Iok rd r1 r2 imm) (ht : takenB 9 (c.regs[r1]?.getD 0) (c.regs[r2]?.getD 0) = false) (t4 : (c.pc + 4) % 4294967296 % 4 = 0) :
    Calls Tryz.prog 27 #[.pointer (some ⟨x, 0, none⟩), .agg #[.int .i64 9, .int .i64 rd, .int .i64 r1, .int .i64 r2, .int .u32 imm]] W fun e W' => e = .returned (.tuple #[]) ∧ CodeAt W' x r ({ c with pc := (c.pc + 4) % 4294967296 }) ∧ Offs [x, r] W W' := by
  have HF0 : Hid (∀ o, CodeAt (W.alloc o) x r c) := fun o => h.below ((Below.refl W.heap.size W).alloc (Nat.le_refl _) o) h.lt.1 h.lt.2
  have HF : Hid (∀ o q, CodeAt ((W.alloc o).drewN q) x r c) := fun o q => (HF0.out o).drawn q
  have hd := K.d
  have h1 := K.s
  have h2 := K.t
  have i0 := K.i0
  have i1 := K.i1
  have z := C.z
  have xa := C.x r1
  have xb := C.x r2
  have p0 := C.p0
  have p1 := C.p1
  have hd' : (rd : Int) < 32 := by omega
  have c1 := fun o => (HF0.out o).pc
  have f1 := fun o => (HF0.out o).fx
  have HZ : Hid (c.regs[0]?.getD 0 = 0) := z
  have wpi : IntKind.u32.wrap (c.pc + imm) = (c.pc + imm) % 4294967296 := IntKind.wrap_u32 _
  have T4 : Hid ((c.pc + 4) % 4294967296 % 4 = 0) := t4
  have HT : Hid (takenB 9 (c.regs[r1]?.getD 0) (c.regs[r2]?.getD 0) = false) := ht
  clear t4 ht
  clear h z C
  go_enter Tryz.func27, Tryz.ntmps27
  go_wp2_with (first | (go_at_call 52; (first | (refine (reg_any _ x r c (HF0.out _) HZ.out _ (by omega)).mono ?_) | (refine (reg_any _ x r c (HF.out _ _) HZ.out _ (by omega)).mono ?_)); rintro e w' ⟨rfl, q, rfl⟩))
  go_region_with (first | (go_at_call 56; refine (taken_any _ 9 _ _ (by decide) (by decide) xa.1 xa.2 xb.1 xb.2).mono ?_; rw [HT.out]; rintro e w' ⟨rfl, rfl⟩) | (go_at_call 55; refine (branch_no _ x r c (HF.out _ _) A _ T4.out).mono ?_; rintro e w3 ⟨rfl, h3, o3⟩))
  all_goals go_wp2_with fail
  all_goals go_end0
  all_goals exact ⟨rfl, h3, (((Offs.refl _ _).new _).drawn _).trans o3⟩
set_option maxHeartbeats 4000000 in
set_option maxRecDepth 100000 in
theorem cdo_10_y (W : World) (x r : Nat) (c : CSt) (h : CodeAt W x r c) (A : x ≠ r) (C : Cok c) (rd r1 r2 : Nat) (imm : Int) (K : Iok rd r1 r2 imm) (ht : takenB 10 (c.regs[r1]?.getD 0) (c.regs[r2]?.getD 0) = true) (t4 : (c.pc + imm) % 4294967296 % 4 = 0) :
    Calls Tryz.prog 27 #[.pointer (some ⟨x, 0, none⟩), .agg #[.int .i64 10, .int .i64 rd, .int .i64 r1, .int .i64 r2, .int .u32 imm]] W fun e W' => e = .returned (.tuple #[]) ∧ CodeAt W' x r ({ c with pc := (c.pc + imm) % 4294967296 }) ∧ Offs [x, r] W W' := by
  have HF0 : Hid (∀ o, CodeAt (W.alloc o) x r c) := fun o => h.below ((Below.refl W.heap.size W).alloc (Nat.le_refl _) o) h.lt.1 h.lt.2
  have HF : Hid (∀ o q, CodeAt ((W.alloc o).drewN q) x r c) := fun o q => (HF0.out o).drawn q
  have hd := K.d
  have h1 := K.s
  have h2 := K.t
  have i0 := K.i0
  have i1 := K.i1
  have z := C.z
  have xa := C.x r1
  have xb := C.x r2
  have p0 := C.p0
  have p1 := C.p1
  have hd' : (rd : Int) < 32 := by omega
  have c1 := fun o => (HF0.out o).pc
  have f1 := fun o => (HF0.out o).fx
  have HZ : Hid (c.regs[0]?.getD 0 = 0) := z
  have wpi : IntKind.u32.wrap (c.pc + imm) = (c.pc + imm) % 4294967296 := IntKind.wrap_u32 _
  have T4 : Hid ((c.pc + imm) % 4294967296 % 4 = 0) := t4
  have HT : Hid (takenB 10 (c.regs[r1]?.getD 0) (c.regs[r2]?.getD 0) = true) := ht
  clear t4 ht
  clear h z C
  go_enter Tryz.func27, Tryz.ntmps27
  go_wp2_with (first | (go_at_call 52; (first | (refine (reg_any _ x r c (HF0.out _) HZ.out _ (by omega)).mono ?_) | (refine (reg_any _ x r c (HF.out _ _) HZ.out _ (by omega)).mono ?_)); rintro e w' ⟨rfl, q, rfl⟩))
  go_region_with (first | (go_at_call 56; refine (taken_any _ 10 _ _ (by decide) (by decide) xa.1 xa.2 xb.1 xb.2).mono ?_; rw [HT.out]; rintro e w' ⟨rfl, rfl⟩) | (go_at_call 55; refine (branch_yes _ x r c (HF.out _ _) A _ (by omega) T4.out).mono ?_; rintro e w3 ⟨rfl, h3, o3⟩))
  all_goals go_wp2_with fail
  all_goals go_end0
  all_goals exact ⟨rfl, h3, (((Offs.refl _ _).new _).drawn _).trans o3⟩
set_option maxHeartbeats 4000000 in
set_option maxRecDepth 100000 in
theorem cdo_10_n (W : World) (x r : Nat) (c : CSt) (h : CodeAt W x r c) (A : x ≠ r) (C : Cok c) (rd r1 r2 : Nat) (imm : Int) (K : Iok rd r1 r2 imm) (ht : takenB 10 (c.regs[r1]?.getD 0) (c.regs[r2]?.getD 0) = false) (t4 : (c.pc + 4) % 4294967296 % 4 = 0) :
    Calls Tryz.prog 27 #[.pointer (some ⟨x, 0, none⟩), .agg #[.int .i64 10, .int .i64 rd, .int .i64 r1, .int .i64 r2, .int .u32 imm]] W fun e W' => e = .returned (.tuple #[]) ∧ CodeAt W' x r ({ c with pc := (c.pc + 4) % 4294967296 }) ∧ Offs [x, r] W W' := by
  have HF0 : Hid (∀ o, CodeAt (W.alloc o) x r c) := fun o => h.below ((Below.refl W.heap.size W).alloc (Nat.le_refl _) o) h.lt.1 h.lt.2
  have HF : Hid (∀ o q, CodeAt ((W.alloc o).drewN q) x r c) := fun o q => (HF0.out o).drawn q
  have hd := K.d
  have h1 := K.s
  have h2 := K.t
  have i0 := K.i0
  have i1 := K.i1
  have z := C.z
  have xa := C.x r1
  have xb := C.x r2
  have p0 := C.p0
  have p1 := C.p1
  have hd' : (rd : Int) < 32 := by omega
  have c1 := fun o => (HF0.out o).pc
  have f1 := fun o => (HF0.out o).fx
  have HZ : Hid (c.regs[0]?.getD 0 = 0) := z
  have wpi : IntKind.u32.wrap (c.pc + imm) = (c.pc + imm) % 4294967296 := IntKind.wrap_u32 _
  have T4 : Hid ((c.pc + 4) % 4294967296 % 4 = 0) := t4
  have HT : Hid (takenB 10 (c.regs[r1]?.getD 0) (c.regs[r2]?.getD 0) = false) := ht
  clear t4 ht
  clear h z C
  go_enter Tryz.func27, Tryz.ntmps27
  go_wp2_with (first | (go_at_call 52; (first | (refine (reg_any _ x r c (HF0.out _) HZ.out _ (by omega)).mono ?_) | (refine (reg_any _ x r c (HF.out _ _) HZ.out _ (by omega)).mono ?_)); rintro e w' ⟨rfl, q, rfl⟩))
  go_region_with (first | (go_at_call 56; refine (taken_any _ 10 _ _ (by decide) (by decide) xa.1 xa.2 xb.1 xb.2).mono ?_; rw [HT.out]; rintro e w' ⟨rfl, rfl⟩) | (go_at_call 55; refine (branch_no _ x r c (HF.out _ _) A _ T4.out).mono ?_; rintro e w3 ⟨rfl, h3, o3⟩))
  all_goals go_wp2_with fail
  all_goals go_end0
  all_goals exact ⟨rfl, h3, (((Offs.refl _ _).new _).drawn _).trans o3⟩
set_option maxHeartbeats 4000000 in
set_option maxRecDepth 100000 in
theorem cdo_11_lo (W : World) (x r : Nat) (c : CSt) (h : CodeAt W x r c) (A : x ≠ r) (C : Cok c) (rd r1 r2 : Nat) (imm : Int) (K : Iok rd r1 r2 imm) (a : Nat) (ea : (c.regs[r1]?.getD 0 + imm) % 4294967296 = a) (ha : a + 1 ≤ c.ram.length) (hc : leV c.ram a 1 < 128) :
    Calls Tryz.prog 27 #[.pointer (some ⟨x, 0, none⟩), .agg #[.int .i64 11, .int .i64 rd, .int .i64 r1, .int .i64 r2, .int .u32 imm]] W fun e W' => e = .returned (.tuple #[]) ∧ CodeAt W' x r (resC c rd (leV c.ram a 1)) ∧ Offs [x, r] W W' := by
  have HF0 : Hid (∀ o, CodeAt (W.alloc o) x r c) := fun o => h.below ((Below.refl W.heap.size W).alloc (Nat.le_refl _) o) h.lt.1 h.lt.2
  have HF : Hid (∀ o q, CodeAt ((W.alloc o).drewN q) x r c) := fun o q => (HF0.out o).drawn q
  have hd := K.d
  have h1 := K.s
  have h2 := K.t
  have i0 := K.i0
  have i1 := K.i1
  have z := C.z
  have xa := C.x r1
  have xb := C.x r2
  have p0 := C.p0
  have p1 := C.p1
  have hd' : (rd : Int) < 32 := by omega
  have c1 := fun o => (HF0.out o).pc
  have f1 := fun o => (HF0.out o).fx
  have HZ : Hid (c.regs[0]?.getD 0 = 0) := z
  have HCC : Hid (leV c.ram a 1 < 128) := hc
  clear hc
  clear h z C
  go_enter Tryz.func27, Tryz.ntmps27
  go_wp2_with (first | (go_at_call 52; (first | (refine (reg_any _ x r c (HF0.out _) HZ.out _ (by omega)).mono ?_) | (refine (reg_any _ x r c (HF.out _ _) HZ.out _ (by omega)).mono ?_)); rintro e w' ⟨rfl, q, rfl⟩))
  refine (cload_11_lo _ x r c (HF.out _ _) A rd hd _ _ _ a ha (by have := HCC.out; omega)).mono ?_
  rintro e w3 ⟨rfl, h3, o3⟩
  go_wp2_with fail
  go_end0
  exact ⟨rfl, h3, (((Offs.refl _ _).new _).drawn _).trans o3⟩
set_option maxHeartbeats 4000000 in
set_option maxRecDepth 100000 in
theorem cdo_11_hi (W : World) (x r : Nat) (c : CSt) (h : CodeAt W x r c) (A : x ≠ r) (C : Cok c) (rd r1 r2 : Nat) (imm : Int) (K : Iok rd r1 r2 imm) (a : Nat) (ea : (c.regs[r1]?.getD 0 + imm) % 4294967296 = a) (ha : a + 1 ≤ c.ram.length) (hc : ¬ leV c.ram a 1 < 128) :
    Calls Tryz.prog 27 #[.pointer (some ⟨x, 0, none⟩), .agg #[.int .i64 11, .int .i64 rd, .int .i64 r1, .int .i64 r2, .int .u32 imm]] W fun e W' => e = .returned (.tuple #[]) ∧ CodeAt W' x r (resC c rd (leV c.ram a 1 + 4294967040)) ∧ Offs [x, r] W W' := by
  have HF0 : Hid (∀ o, CodeAt (W.alloc o) x r c) := fun o => h.below ((Below.refl W.heap.size W).alloc (Nat.le_refl _) o) h.lt.1 h.lt.2
  have HF : Hid (∀ o q, CodeAt ((W.alloc o).drewN q) x r c) := fun o q => (HF0.out o).drawn q
  have hd := K.d
  have h1 := K.s
  have h2 := K.t
  have i0 := K.i0
  have i1 := K.i1
  have z := C.z
  have xa := C.x r1
  have xb := C.x r2
  have p0 := C.p0
  have p1 := C.p1
  have hd' : (rd : Int) < 32 := by omega
  have c1 := fun o => (HF0.out o).pc
  have f1 := fun o => (HF0.out o).fx
  have HZ : Hid (c.regs[0]?.getD 0 = 0) := z
  have HCC : Hid (¬ leV c.ram a 1 < 128) := hc
  clear hc
  clear h z C
  go_enter Tryz.func27, Tryz.ntmps27
  go_wp2_with (first | (go_at_call 52; (first | (refine (reg_any _ x r c (HF0.out _) HZ.out _ (by omega)).mono ?_) | (refine (reg_any _ x r c (HF.out _ _) HZ.out _ (by omega)).mono ?_)); rintro e w' ⟨rfl, q, rfl⟩))
  refine (cload_11_hi _ x r c (HF.out _ _) A rd hd _ _ _ a ha (by have := HCC.out; omega)).mono ?_
  rintro e w3 ⟨rfl, h3, o3⟩
  go_wp2_with fail
  go_end0
  exact ⟨rfl, h3, (((Offs.refl _ _).new _).drawn _).trans o3⟩
set_option maxHeartbeats 4000000 in
set_option maxRecDepth 100000 in
theorem cdo_12_lo (W : World) (x r : Nat) (c : CSt) (h : CodeAt W x r c) (A : x ≠ r) (C : Cok c) (rd r1 r2 : Nat) (imm : Int) (K : Iok rd r1 r2 imm) (a : Nat) (ea : (c.regs[r1]?.getD 0 + imm) % 4294967296 = a) (ha : a + 2 ≤ c.ram.length) (hc : leV c.ram a 2 < 32768) :
    Calls Tryz.prog 27 #[.pointer (some ⟨x, 0, none⟩), .agg #[.int .i64 12, .int .i64 rd, .int .i64 r1, .int .i64 r2, .int .u32 imm]] W fun e W' => e = .returned (.tuple #[]) ∧ CodeAt W' x r (resC c rd (leV c.ram a 2)) ∧ Offs [x, r] W W' := by
  have HF0 : Hid (∀ o, CodeAt (W.alloc o) x r c) := fun o => h.below ((Below.refl W.heap.size W).alloc (Nat.le_refl _) o) h.lt.1 h.lt.2
  have HF : Hid (∀ o q, CodeAt ((W.alloc o).drewN q) x r c) := fun o q => (HF0.out o).drawn q
  have hd := K.d
  have h1 := K.s
  have h2 := K.t
  have i0 := K.i0
  have i1 := K.i1
  have z := C.z
  have xa := C.x r1
  have xb := C.x r2
  have p0 := C.p0
  have p1 := C.p1
  have hd' : (rd : Int) < 32 := by omega
  have c1 := fun o => (HF0.out o).pc
  have f1 := fun o => (HF0.out o).fx
  have HZ : Hid (c.regs[0]?.getD 0 = 0) := z
  have HCC : Hid (leV c.ram a 2 < 32768) := hc
  clear hc
  clear h z C
  go_enter Tryz.func27, Tryz.ntmps27
  go_wp2_with (first | (go_at_call 52; (first | (refine (reg_any _ x r c (HF0.out _) HZ.out _ (by omega)).mono ?_) | (refine (reg_any _ x r c (HF.out _ _) HZ.out _ (by omega)).mono ?_)); rintro e w' ⟨rfl, q, rfl⟩))
  refine (cload_12_lo _ x r c (HF.out _ _) A rd hd _ _ _ a ha (by have := HCC.out; omega)).mono ?_
  rintro e w3 ⟨rfl, h3, o3⟩
  go_wp2_with fail
  go_end0
  exact ⟨rfl, h3, (((Offs.refl _ _).new _).drawn _).trans o3⟩
set_option maxHeartbeats 4000000 in
set_option maxRecDepth 100000 in
theorem cdo_12_hi (W : World) (x r : Nat) (c : CSt) (h : CodeAt W x r c) (A : x ≠ r) (C : Cok c) (rd r1 r2 : Nat) (imm : Int) (K : Iok rd r1 r2 imm) (a : Nat) (ea : (c.regs[r1]?.getD 0 + imm) % 4294967296 = a) (ha : a + 2 ≤ c.ram.length) (hc : ¬ leV c.ram a 2 < 32768) :
    Calls Tryz.prog 27 #[.pointer (some ⟨x, 0, none⟩), .agg #[.int .i64 12, .int .i64 rd, .int .i64 r1, .int .i64 r2, .int .u32 imm]] W fun e W' => e = .returned (.tuple #[]) ∧ CodeAt W' x r (resC c rd (leV c.ram a 2 + 4294901760)) ∧ Offs [x, r] W W' := by
  have HF0 : Hid (∀ o, CodeAt (W.alloc o) x r c) := fun o => h.below ((Below.refl W.heap.size W).alloc (Nat.le_refl _) o) h.lt.1 h.lt.2
  have HF : Hid (∀ o q, CodeAt ((W.alloc o).drewN q) x r c) := fun o q => (HF0.out o).drawn q
  have hd := K.d
  have h1 := K.s
  have h2 := K.t
  have i0 := K.i0
  have i1 := K.i1
  have z := C.z
  have xa := C.x r1
  have xb := C.x r2
  have p0 := C.p0
  have p1 := C.p1
  have hd' : (rd : Int) < 32 := by omega
  have c1 := fun o => (HF0.out o).pc
  have f1 := fun o => (HF0.out o).fx
  have HZ : Hid (c.regs[0]?.getD 0 = 0) := z
  have HCC : Hid (¬ leV c.ram a 2 < 32768) := hc
  clear hc
  clear h z C
  go_enter Tryz.func27, Tryz.ntmps27
  go_wp2_with (first | (go_at_call 52; (first | (refine (reg_any _ x r c (HF0.out _) HZ.out _ (by omega)).mono ?_) | (refine (reg_any _ x r c (HF.out _ _) HZ.out _ (by omega)).mono ?_)); rintro e w' ⟨rfl, q, rfl⟩))
  refine (cload_12_hi _ x r c (HF.out _ _) A rd hd _ _ _ a ha (by have := HCC.out; omega)).mono ?_
  rintro e w3 ⟨rfl, h3, o3⟩
  go_wp2_with fail
  go_end0
  exact ⟨rfl, h3, (((Offs.refl _ _).new _).drawn _).trans o3⟩
set_option maxHeartbeats 4000000 in
set_option maxRecDepth 100000 in
theorem cdo_13 (W : World) (x r : Nat) (c : CSt) (h : CodeAt W x r c) (A : x ≠ r) (C : Cok c) (rd r1 r2 : Nat) (imm : Int) (K : Iok rd r1 r2 imm) (a : Nat) (ea : (c.regs[r1]?.getD 0 + imm) % 4294967296 = a) (ha : a + 4 ≤ c.ram.length) :
    Calls Tryz.prog 27 #[.pointer (some ⟨x, 0, none⟩), .agg #[.int .i64 13, .int .i64 rd, .int .i64 r1, .int .i64 r2, .int .u32 imm]] W fun e W' => e = .returned (.tuple #[]) ∧ CodeAt W' x r (resC c rd (leV c.ram a 4)) ∧ Offs [x, r] W W' := by
  have HF0 : Hid (∀ o, CodeAt (W.alloc o) x r c) := fun o => h.below ((Below.refl W.heap.size W).alloc (Nat.le_refl _) o) h.lt.1 h.lt.2
  have HF : Hid (∀ o q, CodeAt ((W.alloc o).drewN q) x r c) := fun o q => (HF0.out o).drawn q
  have hd := K.d
  have h1 := K.s
  have h2 := K.t
  have i0 := K.i0
  have i1 := K.i1
  have z := C.z
  have xa := C.x r1
  have xb := C.x r2
  have p0 := C.p0
  have p1 := C.p1
  have hd' : (rd : Int) < 32 := by omega
  have c1 := fun o => (HF0.out o).pc
  have f1 := fun o => (HF0.out o).fx
  have HZ : Hid (c.regs[0]?.getD 0 = 0) := z
  clear h z C
  go_enter Tryz.func27, Tryz.ntmps27
  go_wp2_with (first | (go_at_call 52; (first | (refine (reg_any _ x r c (HF0.out _) HZ.out _ (by omega)).mono ?_) | (refine (reg_any _ x r c (HF.out _ _) HZ.out _ (by omega)).mono ?_)); rintro e w' ⟨rfl, q, rfl⟩))
  refine (cload_13 _ x r c (HF.out _ _) A rd hd _ _ _ a ha).mono ?_
  rintro e w3 ⟨rfl, h3, o3⟩
  go_wp2_with fail
  go_end0
  exact ⟨rfl, h3, (((Offs.refl _ _).new _).drawn _).trans o3⟩
set_option maxHeartbeats 4000000 in
set_option maxRecDepth 100000 in
theorem cdo_14 (W : World) (x r : Nat) (c : CSt) (h : CodeAt W x r c) (A : x ≠ r) (C : Cok c) (rd r1 r2 : Nat) (imm : Int) (K : Iok rd r1 r2 imm) (a : Nat) (ea : (c.regs[r1]?.getD 0 + imm) % 4294967296 = a) (ha : a + 1 ≤ c.ram.length) :
    Calls Tryz.prog 27 #[.pointer (some ⟨x, 0, none⟩), .agg #[.int .i64 14, .int .i64 rd, .int .i64 r1, .int .i64 r2, .int .u32 imm]] W fun e W' => e = .returned (.tuple #[]) ∧ CodeAt W' x r (resC c rd (leV c.ram a 1)) ∧ Offs [x, r] W W' := by
  have HF0 : Hid (∀ o, CodeAt (W.alloc o) x r c) := fun o => h.below ((Below.refl W.heap.size W).alloc (Nat.le_refl _) o) h.lt.1 h.lt.2
  have HF : Hid (∀ o q, CodeAt ((W.alloc o).drewN q) x r c) := fun o q => (HF0.out o).drawn q
  have hd := K.d
  have h1 := K.s
  have h2 := K.t
  have i0 := K.i0
  have i1 := K.i1
  have z := C.z
  have xa := C.x r1
  have xb := C.x r2
  have p0 := C.p0
  have p1 := C.p1
  have hd' : (rd : Int) < 32 := by omega
  have c1 := fun o => (HF0.out o).pc
  have f1 := fun o => (HF0.out o).fx
  have HZ : Hid (c.regs[0]?.getD 0 = 0) := z
  clear h z C
  go_enter Tryz.func27, Tryz.ntmps27
  go_wp2_with (first | (go_at_call 52; (first | (refine (reg_any _ x r c (HF0.out _) HZ.out _ (by omega)).mono ?_) | (refine (reg_any _ x r c (HF.out _ _) HZ.out _ (by omega)).mono ?_)); rintro e w' ⟨rfl, q, rfl⟩))
  refine (cload_14 _ x r c (HF.out _ _) A rd hd _ _ _ a ha).mono ?_
  rintro e w3 ⟨rfl, h3, o3⟩
  go_wp2_with fail
  go_end0
  exact ⟨rfl, h3, (((Offs.refl _ _).new _).drawn _).trans o3⟩
set_option maxHeartbeats 4000000 in
set_option maxRecDepth 100000 in
theorem cdo_15 (W : World) (x r : Nat) (c : CSt) (h : CodeAt W x r c) (A : x ≠ r) (C : Cok c) (rd r1 r2 : Nat) (imm : Int) (K : Iok rd r1 r2 imm) (a : Nat) (ea : (c.regs[r1]?.getD 0 + imm) % 4294967296 = a) (ha : a + 2 ≤ c.ram.length) :
    Calls Tryz.prog 27 #[.pointer (some ⟨x, 0, none⟩), .agg #[.int .i64 15, .int .i64 rd, .int .i64 r1, .int .i64 r2, .int .u32 imm]] W fun e W' => e = .returned (.tuple #[]) ∧ CodeAt W' x r (resC c rd (leV c.ram a 2)) ∧ Offs [x, r] W W' := by
  have HF0 : Hid (∀ o, CodeAt (W.alloc o) x r c) := fun o => h.below ((Below.refl W.heap.size W).alloc (Nat.le_refl _) o) h.lt.1 h.lt.2
  have HF : Hid (∀ o q, CodeAt ((W.alloc o).drewN q) x r c) := fun o q => (HF0.out o).drawn q
  have hd := K.d
  have h1 := K.s
  have h2 := K.t
  have i0 := K.i0
  have i1 := K.i1
  have z := C.z
  have xa := C.x r1
  have xb := C.x r2
  have p0 := C.p0
  have p1 := C.p1
  have hd' : (rd : Int) < 32 := by omega
  have c1 := fun o => (HF0.out o).pc
  have f1 := fun o => (HF0.out o).fx
  have HZ : Hid (c.regs[0]?.getD 0 = 0) := z
  clear h z C
  go_enter Tryz.func27, Tryz.ntmps27
  go_wp2_with (first | (go_at_call 52; (first | (refine (reg_any _ x r c (HF0.out _) HZ.out _ (by omega)).mono ?_) | (refine (reg_any _ x r c (HF.out _ _) HZ.out _ (by omega)).mono ?_)); rintro e w' ⟨rfl, q, rfl⟩))
  refine (cload_15 _ x r c (HF.out _ _) A rd hd _ _ _ a ha).mono ?_
  rintro e w3 ⟨rfl, h3, o3⟩
  go_wp2_with fail
  go_end0
  exact ⟨rfl, h3, (((Offs.refl _ _).new _).drawn _).trans o3⟩
set_option maxHeartbeats 4000000 in
set_option maxRecDepth 100000 in
theorem cdo_16 (W : World) (x r : Nat) (c : CSt) (h : CodeAt W x r c) (A : x ≠ r) (C : Cok c) (rd r1 r2 : Nat) (imm : Int) (K : Iok rd r1 r2 imm) (a : Nat) (ea : (c.regs[r1]?.getD 0 + imm) % 4294967296 = a) (ha : a + 1 ≤ c.ram.length) :
    Calls Tryz.prog 27 #[.pointer (some ⟨x, 0, none⟩), .agg #[.int .i64 16, .int .i64 rd, .int .i64 r1, .int .i64 r2, .int .u32 imm]] W fun e W' => e = .returned (.tuple #[]) ∧ CodeAt W' x r ({ c with ram := stV c.ram a (c.regs[r2]?.getD 0) 1, pc := (c.pc + 4) % 4294967296 }) ∧ Offs [x, r] W W' := by
  have HF0 : Hid (∀ o, CodeAt (W.alloc o) x r c) := fun o => h.below ((Below.refl W.heap.size W).alloc (Nat.le_refl _) o) h.lt.1 h.lt.2
  have HF : Hid (∀ o q, CodeAt ((W.alloc o).drewN q) x r c) := fun o q => (HF0.out o).drawn q
  have hd := K.d
  have h1 := K.s
  have h2 := K.t
  have i0 := K.i0
  have i1 := K.i1
  have z := C.z
  have xa := C.x r1
  have xb := C.x r2
  have p0 := C.p0
  have p1 := C.p1
  have hd' : (rd : Int) < 32 := by omega
  have c1 := fun o => (HF0.out o).pc
  have f1 := fun o => (HF0.out o).fx
  have HZ : Hid (c.regs[0]?.getD 0 = 0) := z
  clear h z C
  go_enter Tryz.func27, Tryz.ntmps27
  go_wp2_with (first | (go_at_call 52; (first | (refine (reg_any _ x r c (HF0.out _) HZ.out _ (by omega)).mono ?_) | (refine (reg_any _ x r c (HF.out _ _) HZ.out _ (by omega)).mono ?_)); rintro e w' ⟨rfl, q, rfl⟩))
  refine (cstore_16 _ x r c (HF.out _ _) A a _ xb.1 xb.2 ha).mono ?_
  rintro e w3 ⟨rfl, h3, o3⟩
  go_wp2_with fail
  go_end0
  exact ⟨rfl, h3, (((Offs.refl _ _).new _).drawn _).trans o3⟩
set_option maxHeartbeats 4000000 in
set_option maxRecDepth 100000 in
theorem cdo_17 (W : World) (x r : Nat) (c : CSt) (h : CodeAt W x r c) (A : x ≠ r) (C : Cok c) (rd r1 r2 : Nat) (imm : Int) (K : Iok rd r1 r2 imm) (a : Nat) (ea : (c.regs[r1]?.getD 0 + imm) % 4294967296 = a) (ha : a + 2 ≤ c.ram.length) :
    Calls Tryz.prog 27 #[.pointer (some ⟨x, 0, none⟩), .agg #[.int .i64 17, .int .i64 rd, .int .i64 r1, .int .i64 r2, .int .u32 imm]] W fun e W' => e = .returned (.tuple #[]) ∧ CodeAt W' x r ({ c with ram := stV c.ram a (c.regs[r2]?.getD 0) 2, pc := (c.pc + 4) % 4294967296 }) ∧ Offs [x, r] W W' := by
  have HF0 : Hid (∀ o, CodeAt (W.alloc o) x r c) := fun o => h.below ((Below.refl W.heap.size W).alloc (Nat.le_refl _) o) h.lt.1 h.lt.2
  have HF : Hid (∀ o q, CodeAt ((W.alloc o).drewN q) x r c) := fun o q => (HF0.out o).drawn q
  have hd := K.d
  have h1 := K.s
  have h2 := K.t
  have i0 := K.i0
  have i1 := K.i1
  have z := C.z
  have xa := C.x r1
  have xb := C.x r2
  have p0 := C.p0
  have p1 := C.p1
  have hd' : (rd : Int) < 32 := by omega
  have c1 := fun o => (HF0.out o).pc
  have f1 := fun o => (HF0.out o).fx
  have HZ : Hid (c.regs[0]?.getD 0 = 0) := z
  clear h z C
  go_enter Tryz.func27, Tryz.ntmps27
  go_wp2_with (first | (go_at_call 52; (first | (refine (reg_any _ x r c (HF0.out _) HZ.out _ (by omega)).mono ?_) | (refine (reg_any _ x r c (HF.out _ _) HZ.out _ (by omega)).mono ?_)); rintro e w' ⟨rfl, q, rfl⟩))
  refine (cstore_17 _ x r c (HF.out _ _) A a _ xb.1 xb.2 ha).mono ?_
  rintro e w3 ⟨rfl, h3, o3⟩
  go_wp2_with fail
  go_end0
  exact ⟨rfl, h3, (((Offs.refl _ _).new _).drawn _).trans o3⟩
set_option maxHeartbeats 4000000 in
set_option maxRecDepth 100000 in
theorem cdo_18 (W : World) (x r : Nat) (c : CSt) (h : CodeAt W x r c) (A : x ≠ r) (C : Cok c) (rd r1 r2 : Nat) (imm : Int) (K : Iok rd r1 r2 imm) (a : Nat) (ea : (c.regs[r1]?.getD 0 + imm) % 4294967296 = a) (ha : a + 4 ≤ c.ram.length) :
    Calls Tryz.prog 27 #[.pointer (some ⟨x, 0, none⟩), .agg #[.int .i64 18, .int .i64 rd, .int .i64 r1, .int .i64 r2, .int .u32 imm]] W fun e W' => e = .returned (.tuple #[]) ∧ CodeAt W' x r ({ c with ram := stV c.ram a (c.regs[r2]?.getD 0) 4, pc := (c.pc + 4) % 4294967296 }) ∧ Offs [x, r] W W' := by
  have HF0 : Hid (∀ o, CodeAt (W.alloc o) x r c) := fun o => h.below ((Below.refl W.heap.size W).alloc (Nat.le_refl _) o) h.lt.1 h.lt.2
  have HF : Hid (∀ o q, CodeAt ((W.alloc o).drewN q) x r c) := fun o q => (HF0.out o).drawn q
  have hd := K.d
  have h1 := K.s
  have h2 := K.t
  have i0 := K.i0
  have i1 := K.i1
  have z := C.z
  have xa := C.x r1
  have xb := C.x r2
  have p0 := C.p0
  have p1 := C.p1
  have hd' : (rd : Int) < 32 := by omega
  have c1 := fun o => (HF0.out o).pc
  have f1 := fun o => (HF0.out o).fx
  have HZ : Hid (c.regs[0]?.getD 0 = 0) := z
  clear h z C
  go_enter Tryz.func27, Tryz.ntmps27
  go_wp2_with (first | (go_at_call 52; (first | (refine (reg_any _ x r c (HF0.out _) HZ.out _ (by omega)).mono ?_) | (refine (reg_any _ x r c (HF.out _ _) HZ.out _ (by omega)).mono ?_)); rintro e w' ⟨rfl, q, rfl⟩))
  refine (cstore_18 _ x r c (HF.out _ _) A a _ xb.1 xb.2 ha).mono ?_
  rintro e w3 ⟨rfl, h3, o3⟩
  go_wp2_with fail
  go_end0
  exact ⟨rfl, h3, (((Offs.refl _ _).new _).drawn _).trans o3⟩
end Go.Proofs.YtlilgcbgmebcdaaGreatDoor
