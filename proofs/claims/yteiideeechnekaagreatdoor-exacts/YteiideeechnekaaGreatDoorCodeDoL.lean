/-
  The code's do: branches, loads and stores.
-/
import Derived.Test.YteiideeechnekaaGreatDoorCodeSmall
import Derived.Test.YteiideeechnekaaGreatDoorCodeReck
import Derived.Test.YteiideeechnekaaGreatDoorCodeDo1
namespace Go.Proofs.YteiideeechnekaaGreatDoor
open Go.RowKit

set_option maxHeartbeats 4000000 in
set_option maxRecDepth 100000 in
theorem cdo_5_y {W : World} {x r rd r1 r2 : Nat} {c : CSt} {imm : Int} (J : Din W x r c rd r1 r2 imm) (w : Int) (ht : takenB 5 (c.regs[r1]?.getD 0) (c.regs[r2]?.getD 0) = true) : CDo W x r 5 rd r1 r2 imm w (goC c ((c.pc + imm) % 4294967296)) := by
  obtain ⟨HF0, HF, HAT, HL, HZ, A, ⟨hd, hd'⟩, h1, h2, ⟨i0, i1⟩, xa, xb, ⟨p0, p1⟩, ⟨m0, m3⟩, c1, f1⟩ := J.facts
  have HT : Hid (takenB 5 (c.regs[r1]?.getD 0) (c.regs[r2]?.getD 0) = true) := ht
  clear ht
  clear J
  unfold CDo
  go_enter Tryz.func81, Tryz.ntmps81
  go_wp2_with (first | (go_at_call 110; (first | (refine (reg_any _ x r c (HF0.out _) HZ.out _ (by omega)).mono ?_) | (refine (reg_any _ x r c (HF.out _ _) HZ.out _ (by omega)).mono ?_)); rintro e w' ⟨rfl, q, rfl⟩))
  generalize hw0 : World.drewN (W.alloc (Obj.cells #[.int .i64 5, .int .i64 rd, .int .i64 r1, .int .i64 r2, .int .u32 imm] 72)) _ = w0
  have A0 : Hid (At W w0.drew x r W.heap.size c 5 rd r1 r2 imm) := by rw [← hw0]; exact HAT.out _ _
  have hS := A0.out.b
  clear hw0 c1 f1
  refine wp_region_held (S := fun w' => Bx w' W.heap.size 5 rd r1 r2 imm) (by kernel_rfl) ?_
  change wpAnyH _ _ _ _ _ _ _ _ (w0.drew)
  refine yK 0 (.pointer (some ⟨x, 0, none⟩)) hS ?_
  refine yK 1 (.pointer (some ⟨W.heap.size, 0, none⟩)) hS ?_
  refine yI 2 (fun _ h => h.c0) hS ?_
  refine yK 3 (.int .u32 (c.regs[r1]?.getD 0)) hS ?_
  refine yK 4 (.int .u32 (c.regs[r2]?.getD 0)) hS ?_
  refine yK 6 (.int .u32 c.pc) hS ?_
  refine yK 7 (.pointer (some ⟨W.heap.size, 4, none⟩)) hS ?_
  refine yU 8 (fun _ h => h.c4) hS ?_
  refine yK 9 (.int .u32 (IntKind.u32.wrap (c.pc + imm))) hS ?_
  refine tA 5 (by kernel_rfl) (wpOp_step rfl fun K hK => ?_)
  go_simp
  refine (taken_any _ 5 _ _ (by decide) (by decide) xa.1 xa.2 xb.1 xb.2).mono ?_
  rw [HT.out]
  rintro e w' ⟨rfl, hw⟩
  rw [hw]
  clear hw w'
  refine hK _ _ ⟨hS, ?_⟩
  clear hK K
  refine tA 10 (by kernel_rfl) (wpOp_step rfl fun K hK => ?_)
  go_simp
  refine (branch_yes _ x r c A0.out.c A m0 m3 _ (by rw [IntKind.wrap_u32]; omega)).mono ?_
  rintro e w3 ⟨rfl, h3, o3⟩
  refine hK _ _ ⟨hS.offs o3 HL.out, wpAnyH_done (by kernel_rfl) ?_ _⟩
  clear hK K
  go_wp2_with fail
  go_end0
  exact ⟨rfl, by rw [← IntKind.wrap_u32]; exact h3, A0.out.o.trans o3⟩
set_option maxHeartbeats 4000000 in
set_option maxRecDepth 100000 in
theorem cdo_5_n {W : World} {x r rd r1 r2 : Nat} {c : CSt} {imm : Int} (J : Din W x r c rd r1 r2 imm) (w : Int) (ht : takenB 5 (c.regs[r1]?.getD 0) (c.regs[r2]?.getD 0) = false) (t4 : (c.pc + 4) % 4294967296 % 4 = 0) : CDo W x r 5 rd r1 r2 imm w ({ c with pc := (c.pc + 4) % 4294967296 }) := by
  obtain ⟨HF0, HF, HAT, HL, HZ, A, ⟨hd, hd'⟩, h1, h2, ⟨i0, i1⟩, xa, xb, ⟨p0, p1⟩, ⟨m0, m3⟩, c1, f1⟩ := J.facts
  have T4 : Hid ((c.pc + 4) % 4294967296 % 4 = 0) := t4
  clear t4
  have HT : Hid (takenB 5 (c.regs[r1]?.getD 0) (c.regs[r2]?.getD 0) = false) := ht
  clear ht
  clear J
  unfold CDo
  go_enter Tryz.func81, Tryz.ntmps81
  go_wp2_with (first | (go_at_call 110; (first | (refine (reg_any _ x r c (HF0.out _) HZ.out _ (by omega)).mono ?_) | (refine (reg_any _ x r c (HF.out _ _) HZ.out _ (by omega)).mono ?_)); rintro e w' ⟨rfl, q, rfl⟩))
  generalize hw0 : World.drewN (W.alloc (Obj.cells #[.int .i64 5, .int .i64 rd, .int .i64 r1, .int .i64 r2, .int .u32 imm] 72)) _ = w0
  have A0 : Hid (At W w0.drew x r W.heap.size c 5 rd r1 r2 imm) := by rw [← hw0]; exact HAT.out _ _
  have hS := A0.out.b
  clear hw0 c1 f1
  refine wp_region_held (S := fun w' => Bx w' W.heap.size 5 rd r1 r2 imm) (by kernel_rfl) ?_
  change wpAnyH _ _ _ _ _ _ _ _ (w0.drew)
  refine yK 0 (.pointer (some ⟨x, 0, none⟩)) hS ?_
  refine yK 1 (.pointer (some ⟨W.heap.size, 0, none⟩)) hS ?_
  refine yI 2 (fun _ h => h.c0) hS ?_
  refine yK 3 (.int .u32 (c.regs[r1]?.getD 0)) hS ?_
  refine yK 4 (.int .u32 (c.regs[r2]?.getD 0)) hS ?_
  refine yK 6 (.int .u32 c.pc) hS ?_
  refine yK 7 (.pointer (some ⟨W.heap.size, 4, none⟩)) hS ?_
  refine yU 8 (fun _ h => h.c4) hS ?_
  refine yK 9 (.int .u32 (IntKind.u32.wrap (c.pc + imm))) hS ?_
  refine tA 5 (by kernel_rfl) (wpOp_step rfl fun K hK => ?_)
  go_simp
  refine (taken_any _ 5 _ _ (by decide) (by decide) xa.1 xa.2 xb.1 xb.2).mono ?_
  rw [HT.out]
  rintro e w' ⟨rfl, hw⟩
  rw [hw]
  clear hw w'
  refine hK _ _ ⟨hS, ?_⟩
  clear hK K
  refine tA 10 (by kernel_rfl) (wpOp_step rfl fun K hK => ?_)
  go_simp
  refine (branch_no _ x r c A0.out.c A _ T4.out).mono ?_
  rintro e w3 ⟨rfl, h3, o3⟩
  refine hK _ _ ⟨hS.offs o3 HL.out, wpAnyH_done (by kernel_rfl) ?_ _⟩
  clear hK K
  go_wp2_with fail
  go_end0
  exact ⟨rfl, h3, A0.out.o.trans o3⟩
set_option maxHeartbeats 4000000 in
set_option maxRecDepth 100000 in
theorem cdo_6_y {W : World} {x r rd r1 r2 : Nat} {c : CSt} {imm : Int} (J : Din W x r c rd r1 r2 imm) (w : Int) (ht : takenB 6 (c.regs[r1]?.getD 0) (c.regs[r2]?.getD 0) = true) : CDo W x r 6 rd r1 r2 imm w (goC c ((c.pc + imm) % 4294967296)) := by
  obtain ⟨HF0, HF, HAT, HL, HZ, A, ⟨hd, hd'⟩, h1, h2, ⟨i0, i1⟩, xa, xb, ⟨p0, p1⟩, ⟨m0, m3⟩, c1, f1⟩ := J.facts
  have HT : Hid (takenB 6 (c.regs[r1]?.getD 0) (c.regs[r2]?.getD 0) = true) := ht
  clear ht
  clear J
  unfold CDo
  go_enter Tryz.func81, Tryz.ntmps81
  go_wp2_with (first | (go_at_call 110; (first | (refine (reg_any _ x r c (HF0.out _) HZ.out _ (by omega)).mono ?_) | (refine (reg_any _ x r c (HF.out _ _) HZ.out _ (by omega)).mono ?_)); rintro e w' ⟨rfl, q, rfl⟩))
  generalize hw0 : World.drewN (W.alloc (Obj.cells #[.int .i64 6, .int .i64 rd, .int .i64 r1, .int .i64 r2, .int .u32 imm] 72)) _ = w0
  have A0 : Hid (At W w0.drew x r W.heap.size c 6 rd r1 r2 imm) := by rw [← hw0]; exact HAT.out _ _
  have hS := A0.out.b
  clear hw0 c1 f1
  refine wp_region_held (S := fun w' => Bx w' W.heap.size 6 rd r1 r2 imm) (by kernel_rfl) ?_
  change wpAnyH _ _ _ _ _ _ _ _ (w0.drew)
  refine yK 0 (.pointer (some ⟨x, 0, none⟩)) hS ?_
  refine yK 1 (.pointer (some ⟨W.heap.size, 0, none⟩)) hS ?_
  refine yI 2 (fun _ h => h.c0) hS ?_
  refine yK 3 (.int .u32 (c.regs[r1]?.getD 0)) hS ?_
  refine yK 4 (.int .u32 (c.regs[r2]?.getD 0)) hS ?_
  refine yK 6 (.int .u32 c.pc) hS ?_
  refine yK 7 (.pointer (some ⟨W.heap.size, 4, none⟩)) hS ?_
  refine yU 8 (fun _ h => h.c4) hS ?_
  refine yK 9 (.int .u32 (IntKind.u32.wrap (c.pc + imm))) hS ?_
  refine tA 5 (by kernel_rfl) (wpOp_step rfl fun K hK => ?_)
  go_simp
  refine (taken_any _ 6 _ _ (by decide) (by decide) xa.1 xa.2 xb.1 xb.2).mono ?_
  rw [HT.out]
  rintro e w' ⟨rfl, hw⟩
  rw [hw]
  clear hw w'
  refine hK _ _ ⟨hS, ?_⟩
  clear hK K
  refine tA 10 (by kernel_rfl) (wpOp_step rfl fun K hK => ?_)
  go_simp
  refine (branch_yes _ x r c A0.out.c A m0 m3 _ (by rw [IntKind.wrap_u32]; omega)).mono ?_
  rintro e w3 ⟨rfl, h3, o3⟩
  refine hK _ _ ⟨hS.offs o3 HL.out, wpAnyH_done (by kernel_rfl) ?_ _⟩
  clear hK K
  go_wp2_with fail
  go_end0
  exact ⟨rfl, by rw [← IntKind.wrap_u32]; exact h3, A0.out.o.trans o3⟩
set_option maxHeartbeats 4000000 in
set_option maxRecDepth 100000 in
theorem cdo_6_n {W : World} {x r rd r1 r2 : Nat} {c : CSt} {imm : Int} (J : Din W x r c rd r1 r2 imm) (w : Int) (ht : takenB 6 (c.regs[r1]?.getD 0) (c.regs[r2]?.getD 0) = false) (t4 : (c.pc + 4) % 4294967296 % 4 = 0) : CDo W x r 6 rd r1 r2 imm w ({ c with pc := (c.pc + 4) % 4294967296 }) := by
  obtain ⟨HF0, HF, HAT, HL, HZ, A, ⟨hd, hd'⟩, h1, h2, ⟨i0, i1⟩, xa, xb, ⟨p0, p1⟩, ⟨m0, m3⟩, c1, f1⟩ := J.facts
  have T4 : Hid ((c.pc + 4) % 4294967296 % 4 = 0) := t4
  clear t4
  have HT : Hid (takenB 6 (c.regs[r1]?.getD 0) (c.regs[r2]?.getD 0) = false) := ht
  clear ht
  clear J
  unfold CDo
  go_enter Tryz.func81, Tryz.ntmps81
  go_wp2_with (first | (go_at_call 110; (first | (refine (reg_any _ x r c (HF0.out _) HZ.out _ (by omega)).mono ?_) | (refine (reg_any _ x r c (HF.out _ _) HZ.out _ (by omega)).mono ?_)); rintro e w' ⟨rfl, q, rfl⟩))
  generalize hw0 : World.drewN (W.alloc (Obj.cells #[.int .i64 6, .int .i64 rd, .int .i64 r1, .int .i64 r2, .int .u32 imm] 72)) _ = w0
  have A0 : Hid (At W w0.drew x r W.heap.size c 6 rd r1 r2 imm) := by rw [← hw0]; exact HAT.out _ _
  have hS := A0.out.b
  clear hw0 c1 f1
  refine wp_region_held (S := fun w' => Bx w' W.heap.size 6 rd r1 r2 imm) (by kernel_rfl) ?_
  change wpAnyH _ _ _ _ _ _ _ _ (w0.drew)
  refine yK 0 (.pointer (some ⟨x, 0, none⟩)) hS ?_
  refine yK 1 (.pointer (some ⟨W.heap.size, 0, none⟩)) hS ?_
  refine yI 2 (fun _ h => h.c0) hS ?_
  refine yK 3 (.int .u32 (c.regs[r1]?.getD 0)) hS ?_
  refine yK 4 (.int .u32 (c.regs[r2]?.getD 0)) hS ?_
  refine yK 6 (.int .u32 c.pc) hS ?_
  refine yK 7 (.pointer (some ⟨W.heap.size, 4, none⟩)) hS ?_
  refine yU 8 (fun _ h => h.c4) hS ?_
  refine yK 9 (.int .u32 (IntKind.u32.wrap (c.pc + imm))) hS ?_
  refine tA 5 (by kernel_rfl) (wpOp_step rfl fun K hK => ?_)
  go_simp
  refine (taken_any _ 6 _ _ (by decide) (by decide) xa.1 xa.2 xb.1 xb.2).mono ?_
  rw [HT.out]
  rintro e w' ⟨rfl, hw⟩
  rw [hw]
  clear hw w'
  refine hK _ _ ⟨hS, ?_⟩
  clear hK K
  refine tA 10 (by kernel_rfl) (wpOp_step rfl fun K hK => ?_)
  go_simp
  refine (branch_no _ x r c A0.out.c A _ T4.out).mono ?_
  rintro e w3 ⟨rfl, h3, o3⟩
  refine hK _ _ ⟨hS.offs o3 HL.out, wpAnyH_done (by kernel_rfl) ?_ _⟩
  clear hK K
  go_wp2_with fail
  go_end0
  exact ⟨rfl, h3, A0.out.o.trans o3⟩
set_option maxHeartbeats 4000000 in
set_option maxRecDepth 100000 in
theorem cdo_7_y {W : World} {x r rd r1 r2 : Nat} {c : CSt} {imm : Int} (J : Din W x r c rd r1 r2 imm) (w : Int) (ht : takenB 7 (c.regs[r1]?.getD 0) (c.regs[r2]?.getD 0) = true) : CDo W x r 7 rd r1 r2 imm w (goC c ((c.pc + imm) % 4294967296)) := by
  obtain ⟨HF0, HF, HAT, HL, HZ, A, ⟨hd, hd'⟩, h1, h2, ⟨i0, i1⟩, xa, xb, ⟨p0, p1⟩, ⟨m0, m3⟩, c1, f1⟩ := J.facts
  have HT : Hid (takenB 7 (c.regs[r1]?.getD 0) (c.regs[r2]?.getD 0) = true) := ht
  clear ht
  clear J
  unfold CDo
  go_enter Tryz.func81, Tryz.ntmps81
  go_wp2_with (first | (go_at_call 110; (first | (refine (reg_any _ x r c (HF0.out _) HZ.out _ (by omega)).mono ?_) | (refine (reg_any _ x r c (HF.out _ _) HZ.out _ (by omega)).mono ?_)); rintro e w' ⟨rfl, q, rfl⟩))
  generalize hw0 : World.drewN (W.alloc (Obj.cells #[.int .i64 7, .int .i64 rd, .int .i64 r1, .int .i64 r2, .int .u32 imm] 72)) _ = w0
  have A0 : Hid (At W w0.drew x r W.heap.size c 7 rd r1 r2 imm) := by rw [← hw0]; exact HAT.out _ _
  have hS := A0.out.b
  clear hw0 c1 f1
  refine wp_region_held (S := fun w' => Bx w' W.heap.size 7 rd r1 r2 imm) (by kernel_rfl) ?_
  change wpAnyH _ _ _ _ _ _ _ _ (w0.drew)
  refine yK 0 (.pointer (some ⟨x, 0, none⟩)) hS ?_
  refine yK 1 (.pointer (some ⟨W.heap.size, 0, none⟩)) hS ?_
  refine yI 2 (fun _ h => h.c0) hS ?_
  refine yK 3 (.int .u32 (c.regs[r1]?.getD 0)) hS ?_
  refine yK 4 (.int .u32 (c.regs[r2]?.getD 0)) hS ?_
  refine yK 6 (.int .u32 c.pc) hS ?_
  refine yK 7 (.pointer (some ⟨W.heap.size, 4, none⟩)) hS ?_
  refine yU 8 (fun _ h => h.c4) hS ?_
  refine yK 9 (.int .u32 (IntKind.u32.wrap (c.pc + imm))) hS ?_
  refine tA 5 (by kernel_rfl) (wpOp_step rfl fun K hK => ?_)
  go_simp
  refine (taken_any _ 7 _ _ (by decide) (by decide) xa.1 xa.2 xb.1 xb.2).mono ?_
  rw [HT.out]
  rintro e w' ⟨rfl, hw⟩
  rw [hw]
  clear hw w'
  refine hK _ _ ⟨hS, ?_⟩
  clear hK K
  refine tA 10 (by kernel_rfl) (wpOp_step rfl fun K hK => ?_)
  go_simp
  refine (branch_yes _ x r c A0.out.c A m0 m3 _ (by rw [IntKind.wrap_u32]; omega)).mono ?_
  rintro e w3 ⟨rfl, h3, o3⟩
  refine hK _ _ ⟨hS.offs o3 HL.out, wpAnyH_done (by kernel_rfl) ?_ _⟩
  clear hK K
  go_wp2_with fail
  go_end0
  exact ⟨rfl, by rw [← IntKind.wrap_u32]; exact h3, A0.out.o.trans o3⟩
set_option maxHeartbeats 4000000 in
set_option maxRecDepth 100000 in
theorem cdo_7_n {W : World} {x r rd r1 r2 : Nat} {c : CSt} {imm : Int} (J : Din W x r c rd r1 r2 imm) (w : Int) (ht : takenB 7 (c.regs[r1]?.getD 0) (c.regs[r2]?.getD 0) = false) (t4 : (c.pc + 4) % 4294967296 % 4 = 0) : CDo W x r 7 rd r1 r2 imm w ({ c with pc := (c.pc + 4) % 4294967296 }) := by
  obtain ⟨HF0, HF, HAT, HL, HZ, A, ⟨hd, hd'⟩, h1, h2, ⟨i0, i1⟩, xa, xb, ⟨p0, p1⟩, ⟨m0, m3⟩, c1, f1⟩ := J.facts
  have T4 : Hid ((c.pc + 4) % 4294967296 % 4 = 0) := t4
  clear t4
  have HT : Hid (takenB 7 (c.regs[r1]?.getD 0) (c.regs[r2]?.getD 0) = false) := ht
  clear ht
  clear J
  unfold CDo
  go_enter Tryz.func81, Tryz.ntmps81
  go_wp2_with (first | (go_at_call 110; (first | (refine (reg_any _ x r c (HF0.out _) HZ.out _ (by omega)).mono ?_) | (refine (reg_any _ x r c (HF.out _ _) HZ.out _ (by omega)).mono ?_)); rintro e w' ⟨rfl, q, rfl⟩))
  generalize hw0 : World.drewN (W.alloc (Obj.cells #[.int .i64 7, .int .i64 rd, .int .i64 r1, .int .i64 r2, .int .u32 imm] 72)) _ = w0
  have A0 : Hid (At W w0.drew x r W.heap.size c 7 rd r1 r2 imm) := by rw [← hw0]; exact HAT.out _ _
  have hS := A0.out.b
  clear hw0 c1 f1
  refine wp_region_held (S := fun w' => Bx w' W.heap.size 7 rd r1 r2 imm) (by kernel_rfl) ?_
  change wpAnyH _ _ _ _ _ _ _ _ (w0.drew)
  refine yK 0 (.pointer (some ⟨x, 0, none⟩)) hS ?_
  refine yK 1 (.pointer (some ⟨W.heap.size, 0, none⟩)) hS ?_
  refine yI 2 (fun _ h => h.c0) hS ?_
  refine yK 3 (.int .u32 (c.regs[r1]?.getD 0)) hS ?_
  refine yK 4 (.int .u32 (c.regs[r2]?.getD 0)) hS ?_
  refine yK 6 (.int .u32 c.pc) hS ?_
  refine yK 7 (.pointer (some ⟨W.heap.size, 4, none⟩)) hS ?_
  refine yU 8 (fun _ h => h.c4) hS ?_
  refine yK 9 (.int .u32 (IntKind.u32.wrap (c.pc + imm))) hS ?_
  refine tA 5 (by kernel_rfl) (wpOp_step rfl fun K hK => ?_)
  go_simp
  refine (taken_any _ 7 _ _ (by decide) (by decide) xa.1 xa.2 xb.1 xb.2).mono ?_
  rw [HT.out]
  rintro e w' ⟨rfl, hw⟩
  rw [hw]
  clear hw w'
  refine hK _ _ ⟨hS, ?_⟩
  clear hK K
  refine tA 10 (by kernel_rfl) (wpOp_step rfl fun K hK => ?_)
  go_simp
  refine (branch_no _ x r c A0.out.c A _ T4.out).mono ?_
  rintro e w3 ⟨rfl, h3, o3⟩
  refine hK _ _ ⟨hS.offs o3 HL.out, wpAnyH_done (by kernel_rfl) ?_ _⟩
  clear hK K
  go_wp2_with fail
  go_end0
  exact ⟨rfl, h3, A0.out.o.trans o3⟩
set_option maxHeartbeats 4000000 in
set_option maxRecDepth 100000 in
theorem cdo_8_y {W : World} {x r rd r1 r2 : Nat} {c : CSt} {imm : Int} (J : Din W x r c rd r1 r2 imm) (w : Int) (ht : takenB 8 (c.regs[r1]?.getD 0) (c.regs[r2]?.getD 0) = true) : CDo W x r 8 rd r1 r2 imm w (goC c ((c.pc + imm) % 4294967296)) := by
  obtain ⟨HF0, HF, HAT, HL, HZ, A, ⟨hd, hd'⟩, h1, h2, ⟨i0, i1⟩, xa, xb, ⟨p0, p1⟩, ⟨m0, m3⟩, c1, f1⟩ := J.facts
  have HT : Hid (takenB 8 (c.regs[r1]?.getD 0) (c.regs[r2]?.getD 0) = true) := ht
  clear ht
  clear J
  unfold CDo
  go_enter Tryz.func81, Tryz.ntmps81
  go_wp2_with (first | (go_at_call 110; (first | (refine (reg_any _ x r c (HF0.out _) HZ.out _ (by omega)).mono ?_) | (refine (reg_any _ x r c (HF.out _ _) HZ.out _ (by omega)).mono ?_)); rintro e w' ⟨rfl, q, rfl⟩))
  generalize hw0 : World.drewN (W.alloc (Obj.cells #[.int .i64 8, .int .i64 rd, .int .i64 r1, .int .i64 r2, .int .u32 imm] 72)) _ = w0
  have A0 : Hid (At W w0.drew x r W.heap.size c 8 rd r1 r2 imm) := by rw [← hw0]; exact HAT.out _ _
  have hS := A0.out.b
  clear hw0 c1 f1
  refine wp_region_held (S := fun w' => Bx w' W.heap.size 8 rd r1 r2 imm) (by kernel_rfl) ?_
  change wpAnyH _ _ _ _ _ _ _ _ (w0.drew)
  refine yK 0 (.pointer (some ⟨x, 0, none⟩)) hS ?_
  refine yK 1 (.pointer (some ⟨W.heap.size, 0, none⟩)) hS ?_
  refine yI 2 (fun _ h => h.c0) hS ?_
  refine yK 3 (.int .u32 (c.regs[r1]?.getD 0)) hS ?_
  refine yK 4 (.int .u32 (c.regs[r2]?.getD 0)) hS ?_
  refine yK 6 (.int .u32 c.pc) hS ?_
  refine yK 7 (.pointer (some ⟨W.heap.size, 4, none⟩)) hS ?_
  refine yU 8 (fun _ h => h.c4) hS ?_
  refine yK 9 (.int .u32 (IntKind.u32.wrap (c.pc + imm))) hS ?_
  refine tA 5 (by kernel_rfl) (wpOp_step rfl fun K hK => ?_)
  go_simp
  refine (taken_any _ 8 _ _ (by decide) (by decide) xa.1 xa.2 xb.1 xb.2).mono ?_
  rw [HT.out]
  rintro e w' ⟨rfl, hw⟩
  rw [hw]
  clear hw w'
  refine hK _ _ ⟨hS, ?_⟩
  clear hK K
  refine tA 10 (by kernel_rfl) (wpOp_step rfl fun K hK => ?_)
  go_simp
  refine (branch_yes _ x r c A0.out.c A m0 m3 _ (by rw [IntKind.wrap_u32]; omega)).mono ?_
  rintro e w3 ⟨rfl, h3, o3⟩
  refine hK _ _ ⟨hS.offs o3 HL.out, wpAnyH_done (by kernel_rfl) ?_ _⟩
  clear hK K
  go_wp2_with fail
  go_end0
  exact ⟨rfl, by rw [← IntKind.wrap_u32]; exact h3, A0.out.o.trans o3⟩
set_option maxHeartbeats 4000000 in
set_option maxRecDepth 100000 in
theorem cdo_8_n {W : World} {x r rd r1 r2 : Nat} {c : CSt} {imm : Int} (J : Din W x r c rd r1 r2 imm) (w : Int) (ht : takenB 8 (c.regs[r1]?.getD 0) (c.regs[r2]?.getD 0) = false) (t4 : (c.pc + 4) % 4294967296 % 4 = 0) : CDo W x r 8 rd r1 r2 imm w ({ c with pc := (c.pc + 4) % 4294967296 }) := by
  obtain ⟨HF0, HF, HAT, HL, HZ, A, ⟨hd, hd'⟩, h1, h2, ⟨i0, i1⟩, xa, xb, ⟨p0, p1⟩, ⟨m0, m3⟩, c1, f1⟩ := J.facts
  have T4 : Hid ((c.pc + 4) % 4294967296 % 4 = 0) := t4
  clear t4
  have HT : Hid (takenB 8 (c.regs[r1]?.getD 0) (c.regs[r2]?.getD 0) = false) := ht
  clear ht
  clear J
  unfold CDo
  go_enter Tryz.func81, Tryz.ntmps81
  go_wp2_with (first | (go_at_call 110; (first | (refine (reg_any _ x r c (HF0.out _) HZ.out _ (by omega)).mono ?_) | (refine (reg_any _ x r c (HF.out _ _) HZ.out _ (by omega)).mono ?_)); rintro e w' ⟨rfl, q, rfl⟩))
  generalize hw0 : World.drewN (W.alloc (Obj.cells #[.int .i64 8, .int .i64 rd, .int .i64 r1, .int .i64 r2, .int .u32 imm] 72)) _ = w0
  have A0 : Hid (At W w0.drew x r W.heap.size c 8 rd r1 r2 imm) := by rw [← hw0]; exact HAT.out _ _
  have hS := A0.out.b
  clear hw0 c1 f1
  refine wp_region_held (S := fun w' => Bx w' W.heap.size 8 rd r1 r2 imm) (by kernel_rfl) ?_
  change wpAnyH _ _ _ _ _ _ _ _ (w0.drew)
  refine yK 0 (.pointer (some ⟨x, 0, none⟩)) hS ?_
  refine yK 1 (.pointer (some ⟨W.heap.size, 0, none⟩)) hS ?_
  refine yI 2 (fun _ h => h.c0) hS ?_
  refine yK 3 (.int .u32 (c.regs[r1]?.getD 0)) hS ?_
  refine yK 4 (.int .u32 (c.regs[r2]?.getD 0)) hS ?_
  refine yK 6 (.int .u32 c.pc) hS ?_
  refine yK 7 (.pointer (some ⟨W.heap.size, 4, none⟩)) hS ?_
  refine yU 8 (fun _ h => h.c4) hS ?_
  refine yK 9 (.int .u32 (IntKind.u32.wrap (c.pc + imm))) hS ?_
  refine tA 5 (by kernel_rfl) (wpOp_step rfl fun K hK => ?_)
  go_simp
  refine (taken_any _ 8 _ _ (by decide) (by decide) xa.1 xa.2 xb.1 xb.2).mono ?_
  rw [HT.out]
  rintro e w' ⟨rfl, hw⟩
  rw [hw]
  clear hw w'
  refine hK _ _ ⟨hS, ?_⟩
  clear hK K
  refine tA 10 (by kernel_rfl) (wpOp_step rfl fun K hK => ?_)
  go_simp
  refine (branch_no _ x r c A0.out.c A _ T4.out).mono ?_
  rintro e w3 ⟨rfl, h3, o3⟩
  refine hK _ _ ⟨hS.offs o3 HL.out, wpAnyH_done (by kernel_rfl) ?_ _⟩
  clear hK K
  go_wp2_with fail
  go_end0
  exact ⟨rfl, h3, A0.out.o.trans o3⟩
set_option maxHeartbeats 4000000 in
set_option maxRecDepth 100000 in
theorem cdo_9_y {W : World} {x r rd r1 r2 : Nat} {c : CSt} {imm : Int} (J : Din W x r c rd r1 r2 imm) (w : Int) (ht : takenB 9 (c.regs[r1]?.getD 0) (c.regs[r2]?.getD 0) = true) : CDo W x r 9 rd r1 r2 imm w (goC c ((c.pc + imm) % 4294967296)) := by
  obtain ⟨HF0, HF, HAT, HL, HZ, A, ⟨hd, hd'⟩, h1, h2, ⟨i0, i1⟩, xa, xb, ⟨p0, p1⟩, ⟨m0, m3⟩, c1, f1⟩ := J.facts
  have HT : Hid (takenB 9 (c.regs[r1]?.getD 0) (c.regs[r2]?.getD 0) = true) := ht
  clear ht
  clear J
  unfold CDo
  go_enter Tryz.func81, Tryz.ntmps81
  go_wp2_with (first | (go_at_call 110; (first | (refine (reg_any _ x r c (HF0.out _) HZ.out _ (by omega)).mono ?_) | (refine (reg_any _ x r c (HF.out _ _) HZ.out _ (by omega)).mono ?_)); rintro e w' ⟨rfl, q, rfl⟩))
  generalize hw0 : World.drewN (W.alloc (Obj.cells #[.int .i64 9, .int .i64 rd, .int .i64 r1, .int .i64 r2, .int .u32 imm] 72)) _ = w0
  have A0 : Hid (At W w0.drew x r W.heap.size c 9 rd r1 r2 imm) := by rw [← hw0]; exact HAT.out _ _
  have hS := A0.out.b
  clear hw0 c1 f1
  refine wp_region_held (S := fun w' => Bx w' W.heap.size 9 rd r1 r2 imm) (by kernel_rfl) ?_
  change wpAnyH _ _ _ _ _ _ _ _ (w0.drew)
  refine yK 0 (.pointer (some ⟨x, 0, none⟩)) hS ?_
  refine yK 1 (.pointer (some ⟨W.heap.size, 0, none⟩)) hS ?_
  refine yI 2 (fun _ h => h.c0) hS ?_
  refine yK 3 (.int .u32 (c.regs[r1]?.getD 0)) hS ?_
  refine yK 4 (.int .u32 (c.regs[r2]?.getD 0)) hS ?_
  refine yK 6 (.int .u32 c.pc) hS ?_
  refine yK 7 (.pointer (some ⟨W.heap.size, 4, none⟩)) hS ?_
  refine yU 8 (fun _ h => h.c4) hS ?_
  refine yK 9 (.int .u32 (IntKind.u32.wrap (c.pc + imm))) hS ?_
  refine tA 5 (by kernel_rfl) (wpOp_step rfl fun K hK => ?_)
  go_simp
  refine (taken_any _ 9 _ _ (by decide) (by decide) xa.1 xa.2 xb.1 xb.2).mono ?_
  rw [HT.out]
  rintro e w' ⟨rfl, hw⟩
  rw [hw]
  clear hw w'
  refine hK _ _ ⟨hS, ?_⟩
  clear hK K
  refine tA 10 (by kernel_rfl) (wpOp_step rfl fun K hK => ?_)
  go_simp
  refine (branch_yes _ x r c A0.out.c A m0 m3 _ (by rw [IntKind.wrap_u32]; omega)).mono ?_
  rintro e w3 ⟨rfl, h3, o3⟩
  refine hK _ _ ⟨hS.offs o3 HL.out, wpAnyH_done (by kernel_rfl) ?_ _⟩
  clear hK K
  go_wp2_with fail
  go_end0
  exact ⟨rfl, by rw [← IntKind.wrap_u32]; exact h3, A0.out.o.trans o3⟩
set_option maxHeartbeats 4000000 in
set_option maxRecDepth 100000 in
theorem cdo_9_n {W : World} {x r rd r1 r2 : Nat} {c : CSt} {imm : Int} (J : Din W x r c rd r1 r2 imm) (w : Int) (ht : takenB 9 (c.regs[r1]?.getD 0) (c.regs[r2]?.getD 0) = false) (t4 : (c.pc + 4) % 4294967296 % 4 = 0) : CDo W x r 9 rd r1 r2 imm w ({ c with pc := (c.pc + 4) % 4294967296 }) := by
  obtain ⟨HF0, HF, HAT, HL, HZ, A, ⟨hd, hd'⟩, h1, h2, ⟨i0, i1⟩, xa, xb, ⟨p0, p1⟩, ⟨m0, m3⟩, c1, f1⟩ := J.facts
  have T4 : Hid ((c.pc + 4) % 4294967296 % 4 = 0) := t4
  clear t4
  have HT : Hid (takenB 9 (c.regs[r1]?.getD 0) (c.regs[r2]?.getD 0) = false) := ht
  clear ht
  clear J
  unfold CDo
  go_enter Tryz.func81, Tryz.ntmps81
  go_wp2_with (first | (go_at_call 110; (first | (refine (reg_any _ x r c (HF0.out _) HZ.out _ (by omega)).mono ?_) | (refine (reg_any _ x r c (HF.out _ _) HZ.out _ (by omega)).mono ?_)); rintro e w' ⟨rfl, q, rfl⟩))
  generalize hw0 : World.drewN (W.alloc (Obj.cells #[.int .i64 9, .int .i64 rd, .int .i64 r1, .int .i64 r2, .int .u32 imm] 72)) _ = w0
  have A0 : Hid (At W w0.drew x r W.heap.size c 9 rd r1 r2 imm) := by rw [← hw0]; exact HAT.out _ _
  have hS := A0.out.b
  clear hw0 c1 f1
  refine wp_region_held (S := fun w' => Bx w' W.heap.size 9 rd r1 r2 imm) (by kernel_rfl) ?_
  change wpAnyH _ _ _ _ _ _ _ _ (w0.drew)
  refine yK 0 (.pointer (some ⟨x, 0, none⟩)) hS ?_
  refine yK 1 (.pointer (some ⟨W.heap.size, 0, none⟩)) hS ?_
  refine yI 2 (fun _ h => h.c0) hS ?_
  refine yK 3 (.int .u32 (c.regs[r1]?.getD 0)) hS ?_
  refine yK 4 (.int .u32 (c.regs[r2]?.getD 0)) hS ?_
  refine yK 6 (.int .u32 c.pc) hS ?_
  refine yK 7 (.pointer (some ⟨W.heap.size, 4, none⟩)) hS ?_
  refine yU 8 (fun _ h => h.c4) hS ?_
  refine yK 9 (.int .u32 (IntKind.u32.wrap (c.pc + imm))) hS ?_
  refine tA 5 (by kernel_rfl) (wpOp_step rfl fun K hK => ?_)
  go_simp
  refine (taken_any _ 9 _ _ (by decide) (by decide) xa.1 xa.2 xb.1 xb.2).mono ?_
  rw [HT.out]
  rintro e w' ⟨rfl, hw⟩
  rw [hw]
  clear hw w'
  refine hK _ _ ⟨hS, ?_⟩
  clear hK K
  refine tA 10 (by kernel_rfl) (wpOp_step rfl fun K hK => ?_)
  go_simp
  refine (branch_no _ x r c A0.out.c A _ T4.out).mono ?_
  rintro e w3 ⟨rfl, h3, o3⟩
  refine hK _ _ ⟨hS.offs o3 HL.out, wpAnyH_done (by kernel_rfl) ?_ _⟩
  clear hK K
  go_wp2_with fail
  go_end0
  exact ⟨rfl, h3, A0.out.o.trans o3⟩
set_option maxHeartbeats 4000000 in
set_option maxRecDepth 100000 in
theorem cdo_10_y {W : World} {x r rd r1 r2 : Nat} {c : CSt} {imm : Int} (J : Din W x r c rd r1 r2 imm) (w : Int) (ht : takenB 10 (c.regs[r1]?.getD 0) (c.regs[r2]?.getD 0) = true) : CDo W x r 10 rd r1 r2 imm w (goC c ((c.pc + imm) % 4294967296)) := by
  obtain ⟨HF0, HF, HAT, HL, HZ, A, ⟨hd, hd'⟩, h1, h2, ⟨i0, i1⟩, xa, xb, ⟨p0, p1⟩, ⟨m0, m3⟩, c1, f1⟩ := J.facts
  have HT : Hid (takenB 10 (c.regs[r1]?.getD 0) (c.regs[r2]?.getD 0) = true) := ht
  clear ht
  clear J
  unfold CDo
  go_enter Tryz.func81, Tryz.ntmps81
  go_wp2_with (first | (go_at_call 110; (first | (refine (reg_any _ x r c (HF0.out _) HZ.out _ (by omega)).mono ?_) | (refine (reg_any _ x r c (HF.out _ _) HZ.out _ (by omega)).mono ?_)); rintro e w' ⟨rfl, q, rfl⟩))
  generalize hw0 : World.drewN (W.alloc (Obj.cells #[.int .i64 10, .int .i64 rd, .int .i64 r1, .int .i64 r2, .int .u32 imm] 72)) _ = w0
  have A0 : Hid (At W w0.drew x r W.heap.size c 10 rd r1 r2 imm) := by rw [← hw0]; exact HAT.out _ _
  have hS := A0.out.b
  clear hw0 c1 f1
  refine wp_region_held (S := fun w' => Bx w' W.heap.size 10 rd r1 r2 imm) (by kernel_rfl) ?_
  change wpAnyH _ _ _ _ _ _ _ _ (w0.drew)
  refine yK 0 (.pointer (some ⟨x, 0, none⟩)) hS ?_
  refine yK 1 (.pointer (some ⟨W.heap.size, 0, none⟩)) hS ?_
  refine yI 2 (fun _ h => h.c0) hS ?_
  refine yK 3 (.int .u32 (c.regs[r1]?.getD 0)) hS ?_
  refine yK 4 (.int .u32 (c.regs[r2]?.getD 0)) hS ?_
  refine yK 6 (.int .u32 c.pc) hS ?_
  refine yK 7 (.pointer (some ⟨W.heap.size, 4, none⟩)) hS ?_
  refine yU 8 (fun _ h => h.c4) hS ?_
  refine yK 9 (.int .u32 (IntKind.u32.wrap (c.pc + imm))) hS ?_
  refine tA 5 (by kernel_rfl) (wpOp_step rfl fun K hK => ?_)
  go_simp
  refine (taken_any _ 10 _ _ (by decide) (by decide) xa.1 xa.2 xb.1 xb.2).mono ?_
  rw [HT.out]
  rintro e w' ⟨rfl, hw⟩
  rw [hw]
  clear hw w'
  refine hK _ _ ⟨hS, ?_⟩
  clear hK K
  refine tA 10 (by kernel_rfl) (wpOp_step rfl fun K hK => ?_)
  go_simp
  refine (branch_yes _ x r c A0.out.c A m0 m3 _ (by rw [IntKind.wrap_u32]; omega)).mono ?_
  rintro e w3 ⟨rfl, h3, o3⟩
  refine hK _ _ ⟨hS.offs o3 HL.out, wpAnyH_done (by kernel_rfl) ?_ _⟩
  clear hK K
  go_wp2_with fail
  go_end0
  exact ⟨rfl, by rw [← IntKind.wrap_u32]; exact h3, A0.out.o.trans o3⟩
set_option maxHeartbeats 4000000 in
set_option maxRecDepth 100000 in
theorem cdo_10_n {W : World} {x r rd r1 r2 : Nat} {c : CSt} {imm : Int} (J : Din W x r c rd r1 r2 imm) (w : Int) (ht : takenB 10 (c.regs[r1]?.getD 0) (c.regs[r2]?.getD 0) = false) (t4 : (c.pc + 4) % 4294967296 % 4 = 0) : CDo W x r 10 rd r1 r2 imm w ({ c with pc := (c.pc + 4) % 4294967296 }) := by
  obtain ⟨HF0, HF, HAT, HL, HZ, A, ⟨hd, hd'⟩, h1, h2, ⟨i0, i1⟩, xa, xb, ⟨p0, p1⟩, ⟨m0, m3⟩, c1, f1⟩ := J.facts
  have T4 : Hid ((c.pc + 4) % 4294967296 % 4 = 0) := t4
  clear t4
  have HT : Hid (takenB 10 (c.regs[r1]?.getD 0) (c.regs[r2]?.getD 0) = false) := ht
  clear ht
  clear J
  unfold CDo
  go_enter Tryz.func81, Tryz.ntmps81
  go_wp2_with (first | (go_at_call 110; (first | (refine (reg_any _ x r c (HF0.out _) HZ.out _ (by omega)).mono ?_) | (refine (reg_any _ x r c (HF.out _ _) HZ.out _ (by omega)).mono ?_)); rintro e w' ⟨rfl, q, rfl⟩))
  generalize hw0 : World.drewN (W.alloc (Obj.cells #[.int .i64 10, .int .i64 rd, .int .i64 r1, .int .i64 r2, .int .u32 imm] 72)) _ = w0
  have A0 : Hid (At W w0.drew x r W.heap.size c 10 rd r1 r2 imm) := by rw [← hw0]; exact HAT.out _ _
  have hS := A0.out.b
  clear hw0 c1 f1
  refine wp_region_held (S := fun w' => Bx w' W.heap.size 10 rd r1 r2 imm) (by kernel_rfl) ?_
  change wpAnyH _ _ _ _ _ _ _ _ (w0.drew)
  refine yK 0 (.pointer (some ⟨x, 0, none⟩)) hS ?_
  refine yK 1 (.pointer (some ⟨W.heap.size, 0, none⟩)) hS ?_
  refine yI 2 (fun _ h => h.c0) hS ?_
  refine yK 3 (.int .u32 (c.regs[r1]?.getD 0)) hS ?_
  refine yK 4 (.int .u32 (c.regs[r2]?.getD 0)) hS ?_
  refine yK 6 (.int .u32 c.pc) hS ?_
  refine yK 7 (.pointer (some ⟨W.heap.size, 4, none⟩)) hS ?_
  refine yU 8 (fun _ h => h.c4) hS ?_
  refine yK 9 (.int .u32 (IntKind.u32.wrap (c.pc + imm))) hS ?_
  refine tA 5 (by kernel_rfl) (wpOp_step rfl fun K hK => ?_)
  go_simp
  refine (taken_any _ 10 _ _ (by decide) (by decide) xa.1 xa.2 xb.1 xb.2).mono ?_
  rw [HT.out]
  rintro e w' ⟨rfl, hw⟩
  rw [hw]
  clear hw w'
  refine hK _ _ ⟨hS, ?_⟩
  clear hK K
  refine tA 10 (by kernel_rfl) (wpOp_step rfl fun K hK => ?_)
  go_simp
  refine (branch_no _ x r c A0.out.c A _ T4.out).mono ?_
  rintro e w3 ⟨rfl, h3, o3⟩
  refine hK _ _ ⟨hS.offs o3 HL.out, wpAnyH_done (by kernel_rfl) ?_ _⟩
  clear hK K
  go_wp2_with fail
  go_end0
  exact ⟨rfl, h3, A0.out.o.trans o3⟩
set_option maxHeartbeats 4000000 in
set_option maxRecDepth 100000 in
theorem cdo_11_lo {W : World} {x r rd r1 r2 : Nat} {c : CSt} {imm : Int} (J : Din W x r c rd r1 r2 imm) (w : Int) (a : Nat) (ea : (c.regs[r1]?.getD 0 + imm) % 4294967296 = a) (ha : a + 1 ≤ c.ram.length) (hc : leV c.ram a 1 < 128) : CDo W x r 11 rd r1 r2 imm w (resC c rd (leV c.ram a 1)) := by
  obtain ⟨HF0, HF, HAT, HL, HZ, A, ⟨hd, hd'⟩, h1, h2, ⟨i0, i1⟩, xa, xb, ⟨p0, p1⟩, ⟨m0, m3⟩, c1, f1⟩ := J.facts
  have HCC : Hid (leV c.ram a 1 < 128) := hc
  clear hc
  clear J
  unfold CDo
  go_enter Tryz.func81, Tryz.ntmps81
  go_wp2_with (first | (go_at_call 110; (first | (refine (reg_any _ x r c (HF0.out _) HZ.out _ (by omega)).mono ?_) | (refine (reg_any _ x r c (HF.out _ _) HZ.out _ (by omega)).mono ?_)); rintro e w' ⟨rfl, q, rfl⟩))
  refine (cload_11_lo _ x r c (HF.out _ _) A rd hd _ _ _ a ha (by have := HCC.out; omega)).mono ?_
  rintro e w3 ⟨rfl, h3, o3⟩
  go_wp2_with fail
  go_end0
  exact ⟨rfl, h3, (((Offs.refl _ _).new _).drawn _).trans o3⟩
set_option maxHeartbeats 4000000 in
set_option maxRecDepth 100000 in
theorem cdo_11_hi {W : World} {x r rd r1 r2 : Nat} {c : CSt} {imm : Int} (J : Din W x r c rd r1 r2 imm) (w : Int) (a : Nat) (ea : (c.regs[r1]?.getD 0 + imm) % 4294967296 = a) (ha : a + 1 ≤ c.ram.length) (hc : ¬ leV c.ram a 1 < 128) : CDo W x r 11 rd r1 r2 imm w (resC c rd (leV c.ram a 1 + 4294967040)) := by
  obtain ⟨HF0, HF, HAT, HL, HZ, A, ⟨hd, hd'⟩, h1, h2, ⟨i0, i1⟩, xa, xb, ⟨p0, p1⟩, ⟨m0, m3⟩, c1, f1⟩ := J.facts
  have HCC : Hid (¬ leV c.ram a 1 < 128) := hc
  clear hc
  clear J
  unfold CDo
  go_enter Tryz.func81, Tryz.ntmps81
  go_wp2_with (first | (go_at_call 110; (first | (refine (reg_any _ x r c (HF0.out _) HZ.out _ (by omega)).mono ?_) | (refine (reg_any _ x r c (HF.out _ _) HZ.out _ (by omega)).mono ?_)); rintro e w' ⟨rfl, q, rfl⟩))
  refine (cload_11_hi _ x r c (HF.out _ _) A rd hd _ _ _ a ha (by have := HCC.out; omega)).mono ?_
  rintro e w3 ⟨rfl, h3, o3⟩
  go_wp2_with fail
  go_end0
  exact ⟨rfl, h3, (((Offs.refl _ _).new _).drawn _).trans o3⟩
set_option maxHeartbeats 4000000 in
set_option maxRecDepth 100000 in
theorem cdo_12_lo {W : World} {x r rd r1 r2 : Nat} {c : CSt} {imm : Int} (J : Din W x r c rd r1 r2 imm) (w : Int) (a : Nat) (ea : (c.regs[r1]?.getD 0 + imm) % 4294967296 = a) (ha : a + 2 ≤ c.ram.length) (hc : leV c.ram a 2 < 32768) : CDo W x r 12 rd r1 r2 imm w (resC c rd (leV c.ram a 2)) := by
  obtain ⟨HF0, HF, HAT, HL, HZ, A, ⟨hd, hd'⟩, h1, h2, ⟨i0, i1⟩, xa, xb, ⟨p0, p1⟩, ⟨m0, m3⟩, c1, f1⟩ := J.facts
  have HCC : Hid (leV c.ram a 2 < 32768) := hc
  clear hc
  clear J
  unfold CDo
  go_enter Tryz.func81, Tryz.ntmps81
  go_wp2_with (first | (go_at_call 110; (first | (refine (reg_any _ x r c (HF0.out _) HZ.out _ (by omega)).mono ?_) | (refine (reg_any _ x r c (HF.out _ _) HZ.out _ (by omega)).mono ?_)); rintro e w' ⟨rfl, q, rfl⟩))
  refine (cload_12_lo _ x r c (HF.out _ _) A rd hd _ _ _ a ha (by have := HCC.out; omega)).mono ?_
  rintro e w3 ⟨rfl, h3, o3⟩
  go_wp2_with fail
  go_end0
  exact ⟨rfl, h3, (((Offs.refl _ _).new _).drawn _).trans o3⟩
set_option maxHeartbeats 4000000 in
set_option maxRecDepth 100000 in
theorem cdo_12_hi {W : World} {x r rd r1 r2 : Nat} {c : CSt} {imm : Int} (J : Din W x r c rd r1 r2 imm) (w : Int) (a : Nat) (ea : (c.regs[r1]?.getD 0 + imm) % 4294967296 = a) (ha : a + 2 ≤ c.ram.length) (hc : ¬ leV c.ram a 2 < 32768) : CDo W x r 12 rd r1 r2 imm w (resC c rd (leV c.ram a 2 + 4294901760)) := by
  obtain ⟨HF0, HF, HAT, HL, HZ, A, ⟨hd, hd'⟩, h1, h2, ⟨i0, i1⟩, xa, xb, ⟨p0, p1⟩, ⟨m0, m3⟩, c1, f1⟩ := J.facts
  have HCC : Hid (¬ leV c.ram a 2 < 32768) := hc
  clear hc
  clear J
  unfold CDo
  go_enter Tryz.func81, Tryz.ntmps81
  go_wp2_with (first | (go_at_call 110; (first | (refine (reg_any _ x r c (HF0.out _) HZ.out _ (by omega)).mono ?_) | (refine (reg_any _ x r c (HF.out _ _) HZ.out _ (by omega)).mono ?_)); rintro e w' ⟨rfl, q, rfl⟩))
  refine (cload_12_hi _ x r c (HF.out _ _) A rd hd _ _ _ a ha (by have := HCC.out; omega)).mono ?_
  rintro e w3 ⟨rfl, h3, o3⟩
  go_wp2_with fail
  go_end0
  exact ⟨rfl, h3, (((Offs.refl _ _).new _).drawn _).trans o3⟩
set_option maxHeartbeats 4000000 in
set_option maxRecDepth 100000 in
theorem cdo_13 {W : World} {x r rd r1 r2 : Nat} {c : CSt} {imm : Int} (J : Din W x r c rd r1 r2 imm) (w : Int) (a : Nat) (ea : (c.regs[r1]?.getD 0 + imm) % 4294967296 = a) (ha : a + 4 ≤ c.ram.length) : CDo W x r 13 rd r1 r2 imm w (resC c rd (leV c.ram a 4)) := by
  obtain ⟨HF0, HF, HAT, HL, HZ, A, ⟨hd, hd'⟩, h1, h2, ⟨i0, i1⟩, xa, xb, ⟨p0, p1⟩, ⟨m0, m3⟩, c1, f1⟩ := J.facts
  clear J
  unfold CDo
  go_enter Tryz.func81, Tryz.ntmps81
  go_wp2_with (first | (go_at_call 110; (first | (refine (reg_any _ x r c (HF0.out _) HZ.out _ (by omega)).mono ?_) | (refine (reg_any _ x r c (HF.out _ _) HZ.out _ (by omega)).mono ?_)); rintro e w' ⟨rfl, q, rfl⟩))
  refine (cload_13 _ x r c (HF.out _ _) A rd hd _ _ _ a ha).mono ?_
  rintro e w3 ⟨rfl, h3, o3⟩
  go_wp2_with fail
  go_end0
  exact ⟨rfl, h3, (((Offs.refl _ _).new _).drawn _).trans o3⟩
set_option maxHeartbeats 4000000 in
set_option maxRecDepth 100000 in
theorem cdo_14 {W : World} {x r rd r1 r2 : Nat} {c : CSt} {imm : Int} (J : Din W x r c rd r1 r2 imm) (w : Int) (a : Nat) (ea : (c.regs[r1]?.getD 0 + imm) % 4294967296 = a) (ha : a + 1 ≤ c.ram.length) : CDo W x r 14 rd r1 r2 imm w (resC c rd (leV c.ram a 1)) := by
  obtain ⟨HF0, HF, HAT, HL, HZ, A, ⟨hd, hd'⟩, h1, h2, ⟨i0, i1⟩, xa, xb, ⟨p0, p1⟩, ⟨m0, m3⟩, c1, f1⟩ := J.facts
  clear J
  unfold CDo
  go_enter Tryz.func81, Tryz.ntmps81
  go_wp2_with (first | (go_at_call 110; (first | (refine (reg_any _ x r c (HF0.out _) HZ.out _ (by omega)).mono ?_) | (refine (reg_any _ x r c (HF.out _ _) HZ.out _ (by omega)).mono ?_)); rintro e w' ⟨rfl, q, rfl⟩))
  refine (cload_14 _ x r c (HF.out _ _) A rd hd _ _ _ a ha).mono ?_
  rintro e w3 ⟨rfl, h3, o3⟩
  go_wp2_with fail
  go_end0
  exact ⟨rfl, h3, (((Offs.refl _ _).new _).drawn _).trans o3⟩
set_option maxHeartbeats 4000000 in
set_option maxRecDepth 100000 in
theorem cdo_15 {W : World} {x r rd r1 r2 : Nat} {c : CSt} {imm : Int} (J : Din W x r c rd r1 r2 imm) (w : Int) (a : Nat) (ea : (c.regs[r1]?.getD 0 + imm) % 4294967296 = a) (ha : a + 2 ≤ c.ram.length) : CDo W x r 15 rd r1 r2 imm w (resC c rd (leV c.ram a 2)) := by
  obtain ⟨HF0, HF, HAT, HL, HZ, A, ⟨hd, hd'⟩, h1, h2, ⟨i0, i1⟩, xa, xb, ⟨p0, p1⟩, ⟨m0, m3⟩, c1, f1⟩ := J.facts
  clear J
  unfold CDo
  go_enter Tryz.func81, Tryz.ntmps81
  go_wp2_with (first | (go_at_call 110; (first | (refine (reg_any _ x r c (HF0.out _) HZ.out _ (by omega)).mono ?_) | (refine (reg_any _ x r c (HF.out _ _) HZ.out _ (by omega)).mono ?_)); rintro e w' ⟨rfl, q, rfl⟩))
  refine (cload_15 _ x r c (HF.out _ _) A rd hd _ _ _ a ha).mono ?_
  rintro e w3 ⟨rfl, h3, o3⟩
  go_wp2_with fail
  go_end0
  exact ⟨rfl, h3, (((Offs.refl _ _).new _).drawn _).trans o3⟩
set_option maxHeartbeats 4000000 in
set_option maxRecDepth 100000 in
theorem cdo_16 {W : World} {x r rd r1 r2 : Nat} {c : CSt} {imm : Int} (J : Din W x r c rd r1 r2 imm) (w : Int) (a : Nat) (ea : (c.regs[r1]?.getD 0 + imm) % 4294967296 = a) (ha : a + 1 ≤ c.ram.length) : CDo W x r 16 rd r1 r2 imm w ({ c with ram := stV c.ram a (c.regs[r2]?.getD 0) 1, pc := (c.pc + 4) % 4294967296 }) := by
  obtain ⟨HF0, HF, HAT, HL, HZ, A, ⟨hd, hd'⟩, h1, h2, ⟨i0, i1⟩, xa, xb, ⟨p0, p1⟩, ⟨m0, m3⟩, c1, f1⟩ := J.facts
  clear J
  unfold CDo
  go_enter Tryz.func81, Tryz.ntmps81
  go_wp2_with (first | (go_at_call 110; (first | (refine (reg_any _ x r c (HF0.out _) HZ.out _ (by omega)).mono ?_) | (refine (reg_any _ x r c (HF.out _ _) HZ.out _ (by omega)).mono ?_)); rintro e w' ⟨rfl, q, rfl⟩))
  refine (cstore_16 _ x r c (HF.out _ _) A a _ xb.1 xb.2 ha).mono ?_
  rintro e w3 ⟨rfl, h3, o3⟩
  go_wp2_with fail
  go_end0
  exact ⟨rfl, h3, (((Offs.refl _ _).new _).drawn _).trans o3⟩
set_option maxHeartbeats 4000000 in
set_option maxRecDepth 100000 in
theorem cdo_17 {W : World} {x r rd r1 r2 : Nat} {c : CSt} {imm : Int} (J : Din W x r c rd r1 r2 imm) (w : Int) (a : Nat) (ea : (c.regs[r1]?.getD 0 + imm) % 4294967296 = a) (ha : a + 2 ≤ c.ram.length) : CDo W x r 17 rd r1 r2 imm w ({ c with ram := stV c.ram a (c.regs[r2]?.getD 0) 2, pc := (c.pc + 4) % 4294967296 }) := by
  obtain ⟨HF0, HF, HAT, HL, HZ, A, ⟨hd, hd'⟩, h1, h2, ⟨i0, i1⟩, xa, xb, ⟨p0, p1⟩, ⟨m0, m3⟩, c1, f1⟩ := J.facts
  clear J
  unfold CDo
  go_enter Tryz.func81, Tryz.ntmps81
  go_wp2_with (first | (go_at_call 110; (first | (refine (reg_any _ x r c (HF0.out _) HZ.out _ (by omega)).mono ?_) | (refine (reg_any _ x r c (HF.out _ _) HZ.out _ (by omega)).mono ?_)); rintro e w' ⟨rfl, q, rfl⟩))
  refine (cstore_17 _ x r c (HF.out _ _) A a _ xb.1 xb.2 ha).mono ?_
  rintro e w3 ⟨rfl, h3, o3⟩
  go_wp2_with fail
  go_end0
  exact ⟨rfl, h3, (((Offs.refl _ _).new _).drawn _).trans o3⟩
set_option maxHeartbeats 4000000 in
set_option maxRecDepth 100000 in
theorem cdo_18 {W : World} {x r rd r1 r2 : Nat} {c : CSt} {imm : Int} (J : Din W x r c rd r1 r2 imm) (w : Int) (a : Nat) (ea : (c.regs[r1]?.getD 0 + imm) % 4294967296 = a) (ha : a + 4 ≤ c.ram.length) : CDo W x r 18 rd r1 r2 imm w ({ c with ram := stV c.ram a (c.regs[r2]?.getD 0) 4, pc := (c.pc + 4) % 4294967296 }) := by
  obtain ⟨HF0, HF, HAT, HL, HZ, A, ⟨hd, hd'⟩, h1, h2, ⟨i0, i1⟩, xa, xb, ⟨p0, p1⟩, ⟨m0, m3⟩, c1, f1⟩ := J.facts
  clear J
  unfold CDo
  go_enter Tryz.func81, Tryz.ntmps81
  go_wp2_with (first | (go_at_call 110; (first | (refine (reg_any _ x r c (HF0.out _) HZ.out _ (by omega)).mono ?_) | (refine (reg_any _ x r c (HF.out _ _) HZ.out _ (by omega)).mono ?_)); rintro e w' ⟨rfl, q, rfl⟩))
  refine (cstore_18 _ x r c (HF.out _ _) A a _ xb.1 xb.2 ha).mono ?_
  rintro e w3 ⟨rfl, h3, o3⟩
  go_wp2_with fail
  go_end0
  exact ⟨rfl, h3, (((Offs.refl _ _).new _).drawn _).trans o3⟩
end Go.Proofs.YteiideeechnekaaGreatDoor
