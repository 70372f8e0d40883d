import Derived.Test.YteiideeechnekaaGreatDoorCodeSmall
import Derived.Test.YteiideeechnekaaGreatDoorCodeReck
import Derived.Test.YteiideeechnekaaGreatDoorCodeDo1
/-
  The code's do: sums with an immediate.
-/
namespace Go.Proofs.YteiideeechnekaaGreatDoor
open Go.RowKit

set_option maxHeartbeats 4000000 in
set_option maxRecDepth 100000 in
theorem cdo_19 {W : World} {x r rd r1 r2 : Nat} {c : CSt} {imm : Int} (J : Din W x r c rd r1 r2 imm) (w : Int) : CDo W x r 19 rd r1 r2 imm w (resC c rd (aluV 19 (c.regs[r1]?.getD 0) imm)) := by
  obtain ⟨HF0, HF, HAT, HL, HZ, A, ⟨hd, hd'⟩, h1, h2, ⟨i0, i1⟩, xa, xb, ⟨p0, p1⟩, ⟨m0, m3⟩, c1, f1⟩ := J.facts
  clear J
  unfold CDo
  go_enter Tryz.func81, Tryz.ntmps81
  go_wp2_with (first | (go_at_call 110; (first | (refine (reg_any _ x r c (HF0.out _) HZ.out _ (by omega)).mono ?_) | (refine (reg_any _ x r c (HF.out _ _) HZ.out _ (by omega)).mono ?_)); rintro e w' ⟨rfl, q, rfl⟩))
  generalize hw0 : World.drewN (W.alloc (Obj.cells #[.int .i64 19, .int .i64 rd, .int .i64 r1, .int .i64 r2, .int .u32 imm] 72)) _ = w0
  have A0 : Hid (At W w0.drew x r W.heap.size c 19 rd r1 r2 imm) := by rw [← hw0]; exact HAT.out _ _
  have hS := A0.out.b
  clear hw0 c1 f1
  refine wp_region_held (S := fun w' => Bx w' W.heap.size 19 rd r1 r2 imm) (by kernel_rfl) ?_
  change wpAnyH _ _ _ _ _ _ _ _ (w0.drew)
  refine yK 0 (.pointer (some ⟨x, 0, none⟩)) hS ?_
  refine yK 1 (.pointer (some ⟨W.heap.size, 1, none⟩)) hS ?_
  refine yI 2 (fun _ h => h.c1) hS ?_
  refine yK 3 (.pointer (some ⟨W.heap.size, 0, none⟩)) hS ?_
  refine yI 4 (fun _ h => h.c0) hS ?_
  refine yK 5 (.int .u32 (c.regs[r1]?.getD 0)) hS ?_
  refine yK 6 (.pointer (some ⟨W.heap.size, 4, none⟩)) hS ?_
  refine yU 7 (fun _ h => h.c4) hS ?_
  refine tA 8 (by kernel_rfl) (wpOp_step rfl fun K hK => ?_)
  go_simp
  refine (result_any _ 19 _ _ ⟨by decide, by decide⟩ xa.1 xa.2 i0 i1).mono ?_
  rintro e w' ⟨rfl, hw⟩
  rw [hw]
  clear hw w'
  refine hK _ _ ⟨hS, ?_⟩
  clear hK K
  refine tA 9 (by kernel_rfl) (wpOp_step rfl fun K hK => ?_)
  go_simp
  refine (result_c _ x r c A0.out.c A rd hd _).mono ?_
  rintro e w3 ⟨rfl, h3, o3⟩
  refine hK _ _ ⟨hS.offs o3 HL.out, wpAnyH_done (by kernel_rfl) ?_ _⟩
  clear hK K
  go_wp2_with fail
  go_end0
  exact ⟨rfl, h3, A0.out.o.trans o3⟩
set_option maxHeartbeats 4000000 in
set_option maxRecDepth 100000 in
theorem cdo_20 {W : World} {x r rd r1 r2 : Nat} {c : CSt} {imm : Int} (J : Din W x r c rd r1 r2 imm) (w : Int) : CDo W x r 20 rd r1 r2 imm w (resC c rd (aluV 20 (c.regs[r1]?.getD 0) imm)) := by
  obtain ⟨HF0, HF, HAT, HL, HZ, A, ⟨hd, hd'⟩, h1, h2, ⟨i0, i1⟩, xa, xb, ⟨p0, p1⟩, ⟨m0, m3⟩, c1, f1⟩ := J.facts
  clear J
  unfold CDo
  go_enter Tryz.func81, Tryz.ntmps81
  go_wp2_with (first | (go_at_call 110; (first | (refine (reg_any _ x r c (HF0.out _) HZ.out _ (by omega)).mono ?_) | (refine (reg_any _ x r c (HF.out _ _) HZ.out _ (by omega)).mono ?_)); rintro e w' ⟨rfl, q, rfl⟩))
  generalize hw0 : World.drewN (W.alloc (Obj.cells #[.int .i64 20, .int .i64 rd, .int .i64 r1, .int .i64 r2, .int .u32 imm] 72)) _ = w0
  have A0 : Hid (At W w0.drew x r W.heap.size c 20 rd r1 r2 imm) := by rw [← hw0]; exact HAT.out _ _
  have hS := A0.out.b
  clear hw0 c1 f1
  refine wp_region_held (S := fun w' => Bx w' W.heap.size 20 rd r1 r2 imm) (by kernel_rfl) ?_
  change wpAnyH _ _ _ _ _ _ _ _ (w0.drew)
  refine yK 0 (.pointer (some ⟨x, 0, none⟩)) hS ?_
  refine yK 1 (.pointer (some ⟨W.heap.size, 1, none⟩)) hS ?_
  refine yI 2 (fun _ h => h.c1) hS ?_
  refine yK 3 (.pointer (some ⟨W.heap.size, 0, none⟩)) hS ?_
  refine yI 4 (fun _ h => h.c0) hS ?_
  refine yK 5 (.int .u32 (c.regs[r1]?.getD 0)) hS ?_
  refine yK 6 (.pointer (some ⟨W.heap.size, 4, none⟩)) hS ?_
  refine yU 7 (fun _ h => h.c4) hS ?_
  refine tA 8 (by kernel_rfl) (wpOp_step rfl fun K hK => ?_)
  go_simp
  refine (result_any _ 20 _ _ ⟨by decide, by decide⟩ xa.1 xa.2 i0 i1).mono ?_
  rintro e w' ⟨rfl, hw⟩
  rw [hw]
  clear hw w'
  refine hK _ _ ⟨hS, ?_⟩
  clear hK K
  refine tA 9 (by kernel_rfl) (wpOp_step rfl fun K hK => ?_)
  go_simp
  refine (result_c _ x r c A0.out.c A rd hd _).mono ?_
  rintro e w3 ⟨rfl, h3, o3⟩
  refine hK _ _ ⟨hS.offs o3 HL.out, wpAnyH_done (by kernel_rfl) ?_ _⟩
  clear hK K
  go_wp2_with fail
  go_end0
  exact ⟨rfl, h3, A0.out.o.trans o3⟩
set_option maxHeartbeats 4000000 in
set_option maxRecDepth 100000 in
theorem cdo_21 {W : World} {x r rd r1 r2 : Nat} {c : CSt} {imm : Int} (J : Din W x r c rd r1 r2 imm) (w : Int) : CDo W x r 21 rd r1 r2 imm w (resC c rd (aluV 21 (c.regs[r1]?.getD 0) imm)) := by
  obtain ⟨HF0, HF, HAT, HL, HZ, A, ⟨hd, hd'⟩, h1, h2, ⟨i0, i1⟩, xa, xb, ⟨p0, p1⟩, ⟨m0, m3⟩, c1, f1⟩ := J.facts
  clear J
  unfold CDo
  go_enter Tryz.func81, Tryz.ntmps81
  go_wp2_with (first | (go_at_call 110; (first | (refine (reg_any _ x r c (HF0.out _) HZ.out _ (by omega)).mono ?_) | (refine (reg_any _ x r c (HF.out _ _) HZ.out _ (by omega)).mono ?_)); rintro e w' ⟨rfl, q, rfl⟩))
  generalize hw0 : World.drewN (W.alloc (Obj.cells #[.int .i64 21, .int .i64 rd, .int .i64 r1, .int .i64 r2, .int .u32 imm] 72)) _ = w0
  have A0 : Hid (At W w0.drew x r W.heap.size c 21 rd r1 r2 imm) := by rw [← hw0]; exact HAT.out _ _
  have hS := A0.out.b
  clear hw0 c1 f1
  refine wp_region_held (S := fun w' => Bx w' W.heap.size 21 rd r1 r2 imm) (by kernel_rfl) ?_
  change wpAnyH _ _ _ _ _ _ _ _ (w0.drew)
  refine yK 0 (.pointer (some ⟨x, 0, none⟩)) hS ?_
  refine yK 1 (.pointer (some ⟨W.heap.size, 1, none⟩)) hS ?_
  refine yI 2 (fun _ h => h.c1) hS ?_
  refine yK 3 (.pointer (some ⟨W.heap.size, 0, none⟩)) hS ?_
  refine yI 4 (fun _ h => h.c0) hS ?_
  refine yK 5 (.int .u32 (c.regs[r1]?.getD 0)) hS ?_
  refine yK 6 (.pointer (some ⟨W.heap.size, 4, none⟩)) hS ?_
  refine yU 7 (fun _ h => h.c4) hS ?_
  refine tA 8 (by kernel_rfl) (wpOp_step rfl fun K hK => ?_)
  go_simp
  refine (result_any _ 21 _ _ ⟨by decide, by decide⟩ xa.1 xa.2 i0 i1).mono ?_
  rintro e w' ⟨rfl, hw⟩
  rw [hw]
  clear hw w'
  refine hK _ _ ⟨hS, ?_⟩
  clear hK K
  refine tA 9 (by kernel_rfl) (wpOp_step rfl fun K hK => ?_)
  go_simp
  refine (result_c _ x r c A0.out.c A rd hd _).mono ?_
  rintro e w3 ⟨rfl, h3, o3⟩
  refine hK _ _ ⟨hS.offs o3 HL.out, wpAnyH_done (by kernel_rfl) ?_ _⟩
  clear hK K
  go_wp2_with fail
  go_end0
  exact ⟨rfl, h3, A0.out.o.trans o3⟩
set_option maxHeartbeats 4000000 in
set_option maxRecDepth 100000 in
theorem cdo_22 {W : World} {x r rd r1 r2 : Nat} {c : CSt} {imm : Int} (J : Din W x r c rd r1 r2 imm) (w : Int) : CDo W x r 22 rd r1 r2 imm w (resC c rd (aluV 22 (c.regs[r1]?.getD 0) imm)) := by
  obtain ⟨HF0, HF, HAT, HL, HZ, A, ⟨hd, hd'⟩, h1, h2, ⟨i0, i1⟩, xa, xb, ⟨p0, p1⟩, ⟨m0, m3⟩, c1, f1⟩ := J.facts
  clear J
  unfold CDo
  go_enter Tryz.func81, Tryz.ntmps81
  go_wp2_with (first | (go_at_call 110; (first | (refine (reg_any _ x r c (HF0.out _) HZ.out _ (by omega)).mono ?_) | (refine (reg_any _ x r c (HF.out _ _) HZ.out _ (by omega)).mono ?_)); rintro e w' ⟨rfl, q, rfl⟩))
  generalize hw0 : World.drewN (W.alloc (Obj.cells #[.int .i64 22, .int .i64 rd, .int .i64 r1, .int .i64 r2, .int .u32 imm] 72)) _ = w0
  have A0 : Hid (At W w0.drew x r W.heap.size c 22 rd r1 r2 imm) := by rw [← hw0]; exact HAT.out _ _
  have hS := A0.out.b
  clear hw0 c1 f1
  refine wp_region_held (S := fun w' => Bx w' W.heap.size 22 rd r1 r2 imm) (by kernel_rfl) ?_
  change wpAnyH _ _ _ _ _ _ _ _ (w0.drew)
  refine yK 0 (.pointer (some ⟨x, 0, none⟩)) hS ?_
  refine yK 1 (.pointer (some ⟨W.heap.size, 1, none⟩)) hS ?_
  refine yI 2 (fun _ h => h.c1) hS ?_
  refine yK 3 (.pointer (some ⟨W.heap.size, 0, none⟩)) hS ?_
  refine yI 4 (fun _ h => h.c0) hS ?_
  refine yK 5 (.int .u32 (c.regs[r1]?.getD 0)) hS ?_
  refine yK 6 (.pointer (some ⟨W.heap.size, 4, none⟩)) hS ?_
  refine yU 7 (fun _ h => h.c4) hS ?_
  refine tA 8 (by kernel_rfl) (wpOp_step rfl fun K hK => ?_)
  go_simp
  refine (result_any _ 22 _ _ ⟨by decide, by decide⟩ xa.1 xa.2 i0 i1).mono ?_
  rintro e w' ⟨rfl, hw⟩
  rw [hw]
  clear hw w'
  refine hK _ _ ⟨hS, ?_⟩
  clear hK K
  refine tA 9 (by kernel_rfl) (wpOp_step rfl fun K hK => ?_)
  go_simp
  refine (result_c _ x r c A0.out.c A rd hd _).mono ?_
  rintro e w3 ⟨rfl, h3, o3⟩
  refine hK _ _ ⟨hS.offs o3 HL.out, wpAnyH_done (by kernel_rfl) ?_ _⟩
  clear hK K
  go_wp2_with fail
  go_end0
  exact ⟨rfl, h3, A0.out.o.trans o3⟩
set_option maxHeartbeats 4000000 in
set_option maxRecDepth 100000 in
theorem cdo_23 {W : World} {x r rd r1 r2 : Nat} {c : CSt} {imm : Int} (J : Din W x r c rd r1 r2 imm) (w : Int) : CDo W x r 23 rd r1 r2 imm w (resC c rd (aluV 23 (c.regs[r1]?.getD 0) imm)) := by
  obtain ⟨HF0, HF, HAT, HL, HZ, A, ⟨hd, hd'⟩, h1, h2, ⟨i0, i1⟩, xa, xb, ⟨p0, p1⟩, ⟨m0, m3⟩, c1, f1⟩ := J.facts
  clear J
  unfold CDo
  go_enter Tryz.func81, Tryz.ntmps81
  go_wp2_with (first | (go_at_call 110; (first | (refine (reg_any _ x r c (HF0.out _) HZ.out _ (by omega)).mono ?_) | (refine (reg_any _ x r c (HF.out _ _) HZ.out _ (by omega)).mono ?_)); rintro e w' ⟨rfl, q, rfl⟩))
  generalize hw0 : World.drewN (W.alloc (Obj.cells #[.int .i64 23, .int .i64 rd, .int .i64 r1, .int .i64 r2, .int .u32 imm] 72)) _ = w0
  have A0 : Hid (At W w0.drew x r W.heap.size c 23 rd r1 r2 imm) := by rw [← hw0]; exact HAT.out _ _
  have hS := A0.out.b
  clear hw0 c1 f1
  refine wp_region_held (S := fun w' => Bx w' W.heap.size 23 rd r1 r2 imm) (by kernel_rfl) ?_
  change wpAnyH _ _ _ _ _ _ _ _ (w0.drew)
  refine yK 0 (.pointer (some ⟨x, 0, none⟩)) hS ?_
  refine yK 1 (.pointer (some ⟨W.heap.size, 1, none⟩)) hS ?_
  refine yI 2 (fun _ h => h.c1) hS ?_
  refine yK 3 (.pointer (some ⟨W.heap.size, 0, none⟩)) hS ?_
  refine yI 4 (fun _ h => h.c0) hS ?_
  refine yK 5 (.int .u32 (c.regs[r1]?.getD 0)) hS ?_
  refine yK 6 (.pointer (some ⟨W.heap.size, 4, none⟩)) hS ?_
  refine yU 7 (fun _ h => h.c4) hS ?_
  refine tA 8 (by kernel_rfl) (wpOp_step rfl fun K hK => ?_)
  go_simp
  refine (result_any _ 23 _ _ ⟨by decide, by decide⟩ xa.1 xa.2 i0 i1).mono ?_
  rintro e w' ⟨rfl, hw⟩
  rw [hw]
  clear hw w'
  refine hK _ _ ⟨hS, ?_⟩
  clear hK K
  refine tA 9 (by kernel_rfl) (wpOp_step rfl fun K hK => ?_)
  go_simp
  refine (result_c _ x r c A0.out.c A rd hd _).mono ?_
  rintro e w3 ⟨rfl, h3, o3⟩
  refine hK _ _ ⟨hS.offs o3 HL.out, wpAnyH_done (by kernel_rfl) ?_ _⟩
  clear hK K
  go_wp2_with fail
  go_end0
  exact ⟨rfl, h3, A0.out.o.trans o3⟩
set_option maxHeartbeats 4000000 in
set_option maxRecDepth 100000 in
theorem cdo_24 {W : World} {x r rd r1 r2 : Nat} {c : CSt} {imm : Int} (J : Din W x r c rd r1 r2 imm) (w : Int) : CDo W x r 24 rd r1 r2 imm w (resC c rd (aluV 24 (c.regs[r1]?.getD 0) imm)) := by
  obtain ⟨HF0, HF, HAT, HL, HZ, A, ⟨hd, hd'⟩, h1, h2, ⟨i0, i1⟩, xa, xb, ⟨p0, p1⟩, ⟨m0, m3⟩, c1, f1⟩ := J.facts
  clear J
  unfold CDo
  go_enter Tryz.func81, Tryz.ntmps81
  go_wp2_with (first | (go_at_call 110; (first | (refine (reg_any _ x r c (HF0.out _) HZ.out _ (by omega)).mono ?_) | (refine (reg_any _ x r c (HF.out _ _) HZ.out _ (by omega)).mono ?_)); rintro e w' ⟨rfl, q, rfl⟩))
  generalize hw0 : World.drewN (W.alloc (Obj.cells #[.int .i64 24, .int .i64 rd, .int .i64 r1, .int .i64 r2, .int .u32 imm] 72)) _ = w0
  have A0 : Hid (At W w0.drew x r W.heap.size c 24 rd r1 r2 imm) := by rw [← hw0]; exact HAT.out _ _
  have hS := A0.out.b
  clear hw0 c1 f1
  refine wp_region_held (S := fun w' => Bx w' W.heap.size 24 rd r1 r2 imm) (by kernel_rfl) ?_
  change wpAnyH _ _ _ _ _ _ _ _ (w0.drew)
  refine yK 0 (.pointer (some ⟨x, 0, none⟩)) hS ?_
  refine yK 1 (.pointer (some ⟨W.heap.size, 1, none⟩)) hS ?_
  refine yI 2 (fun _ h => h.c1) hS ?_
  refine yK 3 (.pointer (some ⟨W.heap.size, 0, none⟩)) hS ?_
  refine yI 4 (fun _ h => h.c0) hS ?_
  refine yK 5 (.int .u32 (c.regs[r1]?.getD 0)) hS ?_
  refine yK 6 (.pointer (some ⟨W.heap.size, 4, none⟩)) hS ?_
  refine yU 7 (fun _ h => h.c4) hS ?_
  refine tA 8 (by kernel_rfl) (wpOp_step rfl fun K hK => ?_)
  go_simp
  refine (result_any _ 24 _ _ ⟨by decide, by decide⟩ xa.1 xa.2 i0 i1).mono ?_
  rintro e w' ⟨rfl, hw⟩
  rw [hw]
  clear hw w'
  refine hK _ _ ⟨hS, ?_⟩
  clear hK K
  refine tA 9 (by kernel_rfl) (wpOp_step rfl fun K hK => ?_)
  go_simp
  refine (result_c _ x r c A0.out.c A rd hd _).mono ?_
  rintro e w3 ⟨rfl, h3, o3⟩
  refine hK _ _ ⟨hS.offs o3 HL.out, wpAnyH_done (by kernel_rfl) ?_ _⟩
  clear hK K
  go_wp2_with fail
  go_end0
  exact ⟨rfl, h3, A0.out.o.trans o3⟩
set_option maxHeartbeats 4000000 in
set_option maxRecDepth 100000 in
theorem cdo_25 {W : World} {x r rd r1 r2 : Nat} {c : CSt} {imm : Int} (J : Din W x r c rd r1 r2 imm) (w : Int) : CDo W x r 25 rd r1 r2 imm w (resC c rd (aluV 25 (c.regs[r1]?.getD 0) imm)) := by
  obtain ⟨HF0, HF, HAT, HL, HZ, A, ⟨hd, hd'⟩, h1, h2, ⟨i0, i1⟩, xa, xb, ⟨p0, p1⟩, ⟨m0, m3⟩, c1, f1⟩ := J.facts
  clear J
  unfold CDo
  go_enter Tryz.func81, Tryz.ntmps81
  go_wp2_with (first | (go_at_call 110; (first | (refine (reg_any _ x r c (HF0.out _) HZ.out _ (by omega)).mono ?_) | (refine (reg_any _ x r c (HF.out _ _) HZ.out _ (by omega)).mono ?_)); rintro e w' ⟨rfl, q, rfl⟩))
  generalize hw0 : World.drewN (W.alloc (Obj.cells #[.int .i64 25, .int .i64 rd, .int .i64 r1, .int .i64 r2, .int .u32 imm] 72)) _ = w0
  have A0 : Hid (At W w0.drew x r W.heap.size c 25 rd r1 r2 imm) := by rw [← hw0]; exact HAT.out _ _
  have hS := A0.out.b
  clear hw0 c1 f1
  refine wp_region_held (S := fun w' => Bx w' W.heap.size 25 rd r1 r2 imm) (by kernel_rfl) ?_
  change wpAnyH _ _ _ _ _ _ _ _ (w0.drew)
  refine yK 0 (.pointer (some ⟨x, 0, none⟩)) hS ?_
  refine yK 1 (.pointer (some ⟨W.heap.size, 1, none⟩)) hS ?_
  refine yI 2 (fun _ h => h.c1) hS ?_
  refine yK 3 (.pointer (some ⟨W.heap.size, 0, none⟩)) hS ?_
  refine yI 4 (fun _ h => h.c0) hS ?_
  refine yK 5 (.int .u32 (c.regs[r1]?.getD 0)) hS ?_
  refine yK 6 (.pointer (some ⟨W.heap.size, 4, none⟩)) hS ?_
  refine yU 7 (fun _ h => h.c4) hS ?_
  refine tA 8 (by kernel_rfl) (wpOp_step rfl fun K hK => ?_)
  go_simp
  refine (result_any _ 25 _ _ ⟨by decide, by decide⟩ xa.1 xa.2 i0 i1).mono ?_
  rintro e w' ⟨rfl, hw⟩
  rw [hw]
  clear hw w'
  refine hK _ _ ⟨hS, ?_⟩
  clear hK K
  refine tA 9 (by kernel_rfl) (wpOp_step rfl fun K hK => ?_)
  go_simp
  refine (result_c _ x r c A0.out.c A rd hd _).mono ?_
  rintro e w3 ⟨rfl, h3, o3⟩
  refine hK _ _ ⟨hS.offs o3 HL.out, wpAnyH_done (by kernel_rfl) ?_ _⟩
  clear hK K
  go_wp2_with fail
  go_end0
  exact ⟨rfl, h3, A0.out.o.trans o3⟩
set_option maxHeartbeats 4000000 in
set_option maxRecDepth 100000 in
theorem cdo_26 {W : World} {x r rd r1 r2 : Nat} {c : CSt} {imm : Int} (J : Din W x r c rd r1 r2 imm) (w : Int) : CDo W x r 26 rd r1 r2 imm w (resC c rd (aluV 26 (c.regs[r1]?.getD 0) imm)) := by
  obtain ⟨HF0, HF, HAT, HL, HZ, A, ⟨hd, hd'⟩, h1, h2, ⟨i0, i1⟩, xa, xb, ⟨p0, p1⟩, ⟨m0, m3⟩, c1, f1⟩ := J.facts
  clear J
  unfold CDo
  go_enter Tryz.func81, Tryz.ntmps81
  go_wp2_with (first | (go_at_call 110; (first | (refine (reg_any _ x r c (HF0.out _) HZ.out _ (by omega)).mono ?_) | (refine (reg_any _ x r c (HF.out _ _) HZ.out _ (by omega)).mono ?_)); rintro e w' ⟨rfl, q, rfl⟩))
  generalize hw0 : World.drewN (W.alloc (Obj.cells #[.int .i64 26, .int .i64 rd, .int .i64 r1, .int .i64 r2, .int .u32 imm] 72)) _ = w0
  have A0 : Hid (At W w0.drew x r W.heap.size c 26 rd r1 r2 imm) := by rw [← hw0]; exact HAT.out _ _
  have hS := A0.out.b
  clear hw0 c1 f1
  refine wp_region_held (S := fun w' => Bx w' W.heap.size 26 rd r1 r2 imm) (by kernel_rfl) ?_
  change wpAnyH _ _ _ _ _ _ _ _ (w0.drew)
  refine yK 0 (.pointer (some ⟨x, 0, none⟩)) hS ?_
  refine yK 1 (.pointer (some ⟨W.heap.size, 1, none⟩)) hS ?_
  refine yI 2 (fun _ h => h.c1) hS ?_
  refine yK 3 (.pointer (some ⟨W.heap.size, 0, none⟩)) hS ?_
  refine yI 4 (fun _ h => h.c0) hS ?_
  refine yK 5 (.int .u32 (c.regs[r1]?.getD 0)) hS ?_
  refine yK 6 (.pointer (some ⟨W.heap.size, 4, none⟩)) hS ?_
  refine yU 7 (fun _ h => h.c4) hS ?_
  refine tA 8 (by kernel_rfl) (wpOp_step rfl fun K hK => ?_)
  go_simp
  refine (result_any _ 26 _ _ ⟨by decide, by decide⟩ xa.1 xa.2 i0 i1).mono ?_
  rintro e w' ⟨rfl, hw⟩
  rw [hw]
  clear hw w'
  refine hK _ _ ⟨hS, ?_⟩
  clear hK K
  refine tA 9 (by kernel_rfl) (wpOp_step rfl fun K hK => ?_)
  go_simp
  refine (result_c _ x r c A0.out.c A rd hd _).mono ?_
  rintro e w3 ⟨rfl, h3, o3⟩
  refine hK _ _ ⟨hS.offs o3 HL.out, wpAnyH_done (by kernel_rfl) ?_ _⟩
  clear hK K
  go_wp2_with fail
  go_end0
  exact ⟨rfl, h3, A0.out.o.trans o3⟩
set_option maxHeartbeats 4000000 in
set_option maxRecDepth 100000 in
theorem cdo_27 {W : World} {x r rd r1 r2 : Nat} {c : CSt} {imm : Int} (J : Din W x r c rd r1 r2 imm) (w : Int) : CDo W x r 27 rd r1 r2 imm w (resC c rd (aluV 27 (c.regs[r1]?.getD 0) imm)) := by
  obtain ⟨HF0, HF, HAT, HL, HZ, A, ⟨hd, hd'⟩, h1, h2, ⟨i0, i1⟩, xa, xb, ⟨p0, p1⟩, ⟨m0, m3⟩, c1, f1⟩ := J.facts
  clear J
  unfold CDo
  go_enter Tryz.func81, Tryz.ntmps81
  go_wp2_with (first | (go_at_call 110; (first | (refine (reg_any _ x r c (HF0.out _) HZ.out _ (by omega)).mono ?_) | (refine (reg_any _ x r c (HF.out _ _) HZ.out _ (by omega)).mono ?_)); rintro e w' ⟨rfl, q, rfl⟩))
  generalize hw0 : World.drewN (W.alloc (Obj.cells #[.int .i64 27, .int .i64 rd, .int .i64 r1, .int .i64 r2, .int .u32 imm] 72)) _ = w0
  have A0 : Hid (At W w0.drew x r W.heap.size c 27 rd r1 r2 imm) := by rw [← hw0]; exact HAT.out _ _
  have hS := A0.out.b
  clear hw0 c1 f1
  refine wp_region_held (S := fun w' => Bx w' W.heap.size 27 rd r1 r2 imm) (by kernel_rfl) ?_
  change wpAnyH _ _ _ _ _ _ _ _ (w0.drew)
  refine yK 0 (.pointer (some ⟨x, 0, none⟩)) hS ?_
  refine yK 1 (.pointer (some ⟨W.heap.size, 1, none⟩)) hS ?_
  refine yI 2 (fun _ h => h.c1) hS ?_
  refine yK 3 (.pointer (some ⟨W.heap.size, 0, none⟩)) hS ?_
  refine yI 4 (fun _ h => h.c0) hS ?_
  refine yK 5 (.int .u32 (c.regs[r1]?.getD 0)) hS ?_
  refine yK 6 (.pointer (some ⟨W.heap.size, 4, none⟩)) hS ?_
  refine yU 7 (fun _ h => h.c4) hS ?_
  refine tA 8 (by kernel_rfl) (wpOp_step rfl fun K hK => ?_)
  go_simp
  refine (result_any _ 27 _ _ ⟨by decide, by decide⟩ xa.1 xa.2 i0 i1).mono ?_
  rintro e w' ⟨rfl, hw⟩
  rw [hw]
  clear hw w'
  refine hK _ _ ⟨hS, ?_⟩
  clear hK K
  refine tA 9 (by kernel_rfl) (wpOp_step rfl fun K hK => ?_)
  go_simp
  refine (result_c _ x r c A0.out.c A rd hd _).mono ?_
  rintro e w3 ⟨rfl, h3, o3⟩
  refine hK _ _ ⟨hS.offs o3 HL.out, wpAnyH_done (by kernel_rfl) ?_ _⟩
  clear hK K
  go_wp2_with fail
  go_end0
  exact ⟨rfl, h3, A0.out.o.trans o3⟩
end Go.Proofs.YteiideeechnekaaGreatDoor

/-
  The code's do: sums of two registers.
-/
namespace Go.Proofs.YteiideeechnekaaGreatDoor
open Go.RowKit

set_option maxHeartbeats 4000000 in
set_option maxRecDepth 100000 in
theorem cdo_28 {W : World} {x r rd r1 r2 : Nat} {c : CSt} {imm : Int} (J : Din W x r c rd r1 r2 imm) (w : Int) : CDo W x r 28 rd r1 r2 imm w (resC c rd (aluV 28 (c.regs[r1]?.getD 0) (c.regs[r2]?.getD 0))) := by
  obtain ⟨HF0, HF, HAT, HL, HZ, A, ⟨hd, hd'⟩, h1, h2, ⟨i0, i1⟩, xa, xb, ⟨p0, p1⟩, ⟨m0, m3⟩, c1, f1⟩ := J.facts
  clear J
  unfold CDo
  go_enter Tryz.func81, Tryz.ntmps81
  go_wp2_with (first | (go_at_call 110; (first | (refine (reg_any _ x r c (HF0.out _) HZ.out _ (by omega)).mono ?_) | (refine (reg_any _ x r c (HF.out _ _) HZ.out _ (by omega)).mono ?_)); rintro e w' ⟨rfl, q, rfl⟩))
  generalize hw0 : World.drewN (W.alloc (Obj.cells #[.int .i64 28, .int .i64 rd, .int .i64 r1, .int .i64 r2, .int .u32 imm] 72)) _ = w0
  have A0 : Hid (At W w0.drew x r W.heap.size c 28 rd r1 r2 imm) := by rw [← hw0]; exact HAT.out _ _
  have hS := A0.out.b
  clear hw0 c1 f1
  refine wp_region_held (S := fun w' => Bx w' W.heap.size 28 rd r1 r2 imm) (by kernel_rfl) ?_
  change wpAnyH _ _ _ _ _ _ _ _ (w0.drew)
  refine yK 0 (.pointer (some ⟨x, 0, none⟩)) hS ?_
  refine yK 1 (.pointer (some ⟨W.heap.size, 1, none⟩)) hS ?_
  refine yI 2 (fun _ h => h.c1) hS ?_
  refine yK 3 (.pointer (some ⟨W.heap.size, 0, none⟩)) hS ?_
  refine yI 4 (fun _ h => h.c0) hS ?_
  refine yK 5 (.int .u32 (c.regs[r1]?.getD 0)) hS ?_
  refine yK 6 (.int .u32 (c.regs[r2]?.getD 0)) hS ?_
  refine tA 7 (by kernel_rfl) (wpOp_step rfl fun K hK => ?_)
  go_simp
  refine (result_any _ 28 _ _ ⟨by decide, by decide⟩ xa.1 xa.2 xb.1 xb.2).mono ?_
  rintro e w' ⟨rfl, hw⟩
  rw [hw]
  clear hw w'
  refine hK _ _ ⟨hS, ?_⟩
  clear hK K
  refine tA 8 (by kernel_rfl) (wpOp_step rfl fun K hK => ?_)
  go_simp
  refine (result_c _ x r c A0.out.c A rd hd _).mono ?_
  rintro e w3 ⟨rfl, h3, o3⟩
  refine hK _ _ ⟨hS.offs o3 HL.out, wpAnyH_done (by kernel_rfl) ?_ _⟩
  clear hK K
  go_wp2_with fail
  go_end0
  exact ⟨rfl, h3, A0.out.o.trans o3⟩
set_option maxHeartbeats 4000000 in
set_option maxRecDepth 100000 in
theorem cdo_29 {W : World} {x r rd r1 r2 : Nat} {c : CSt} {imm : Int} (J : Din W x r c rd r1 r2 imm) (w : Int) : CDo W x r 29 rd r1 r2 imm w (resC c rd (aluV 29 (c.regs[r1]?.getD 0) (c.regs[r2]?.getD 0))) := by
  obtain ⟨HF0, HF, HAT, HL, HZ, A, ⟨hd, hd'⟩, h1, h2, ⟨i0, i1⟩, xa, xb, ⟨p0, p1⟩, ⟨m0, m3⟩, c1, f1⟩ := J.facts
  clear J
  unfold CDo
  go_enter Tryz.func81, Tryz.ntmps81
  go_wp2_with (first | (go_at_call 110; (first | (refine (reg_any _ x r c (HF0.out _) HZ.out _ (by omega)).mono ?_) | (refine (reg_any _ x r c (HF.out _ _) HZ.out _ (by omega)).mono ?_)); rintro e w' ⟨rfl, q, rfl⟩))
  generalize hw0 : World.drewN (W.alloc (Obj.cells #[.int .i64 29, .int .i64 rd, .int .i64 r1, .int .i64 r2, .int .u32 imm] 72)) _ = w0
  have A0 : Hid (At W w0.drew x r W.heap.size c 29 rd r1 r2 imm) := by rw [← hw0]; exact HAT.out _ _
  have hS := A0.out.b
  clear hw0 c1 f1
  refine wp_region_held (S := fun w' => Bx w' W.heap.size 29 rd r1 r2 imm) (by kernel_rfl) ?_
  change wpAnyH _ _ _ _ _ _ _ _ (w0.drew)
  refine yK 0 (.pointer (some ⟨x, 0, none⟩)) hS ?_
  refine yK 1 (.pointer (some ⟨W.heap.size, 1, none⟩)) hS ?_
  refine yI 2 (fun _ h => h.c1) hS ?_
  refine yK 3 (.pointer (some ⟨W.heap.size, 0, none⟩)) hS ?_
  refine yI 4 (fun _ h => h.c0) hS ?_
  refine yK 5 (.int .u32 (c.regs[r1]?.getD 0)) hS ?_
  refine yK 6 (.int .u32 (c.regs[r2]?.getD 0)) hS ?_
  refine tA 7 (by kernel_rfl) (wpOp_step rfl fun K hK => ?_)
  go_simp
  refine (result_any _ 29 _ _ ⟨by decide, by decide⟩ xa.1 xa.2 xb.1 xb.2).mono ?_
  rintro e w' ⟨rfl, hw⟩
  rw [hw]
  clear hw w'
  refine hK _ _ ⟨hS, ?_⟩
  clear hK K
  refine tA 8 (by kernel_rfl) (wpOp_step rfl fun K hK => ?_)
  go_simp
  refine (result_c _ x r c A0.out.c A rd hd _).mono ?_
  rintro e w3 ⟨rfl, h3, o3⟩
  refine hK _ _ ⟨hS.offs o3 HL.out, wpAnyH_done (by kernel_rfl) ?_ _⟩
  clear hK K
  go_wp2_with fail
  go_end0
  exact ⟨rfl, h3, A0.out.o.trans o3⟩
set_option maxHeartbeats 4000000 in
set_option maxRecDepth 100000 in
theorem cdo_30 {W : World} {x r rd r1 r2 : Nat} {c : CSt} {imm : Int} (J : Din W x r c rd r1 r2 imm) (w : Int) : CDo W x r 30 rd r1 r2 imm w (resC c rd (aluV 30 (c.regs[r1]?.getD 0) (c.regs[r2]?.getD 0))) := by
  obtain ⟨HF0, HF, HAT, HL, HZ, A, ⟨hd, hd'⟩, h1, h2, ⟨i0, i1⟩, xa, xb, ⟨p0, p1⟩, ⟨m0, m3⟩, c1, f1⟩ := J.facts
  clear J
  unfold CDo
  go_enter Tryz.func81, Tryz.ntmps81
  go_wp2_with (first | (go_at_call 110; (first | (refine (reg_any _ x r c (HF0.out _) HZ.out _ (by omega)).mono ?_) | (refine (reg_any _ x r c (HF.out _ _) HZ.out _ (by omega)).mono ?_)); rintro e w' ⟨rfl, q, rfl⟩))
  generalize hw0 : World.drewN (W.alloc (Obj.cells #[.int .i64 30, .int .i64 rd, .int .i64 r1, .int .i64 r2, .int .u32 imm] 72)) _ = w0
  have A0 : Hid (At W w0.drew x r W.heap.size c 30 rd r1 r2 imm) := by rw [← hw0]; exact HAT.out _ _
  have hS := A0.out.b
  clear hw0 c1 f1
  refine wp_region_held (S := fun w' => Bx w' W.heap.size 30 rd r1 r2 imm) (by kernel_rfl) ?_
  change wpAnyH _ _ _ _ _ _ _ _ (w0.drew)
  refine yK 0 (.pointer (some ⟨x, 0, none⟩)) hS ?_
  refine yK 1 (.pointer (some ⟨W.heap.size, 1, none⟩)) hS ?_
  refine yI 2 (fun _ h => h.c1) hS ?_
  refine yK 3 (.pointer (some ⟨W.heap.size, 0, none⟩)) hS ?_
  refine yI 4 (fun _ h => h.c0) hS ?_
  refine yK 5 (.int .u32 (c.regs[r1]?.getD 0)) hS ?_
  refine yK 6 (.int .u32 (c.regs[r2]?.getD 0)) hS ?_
  refine tA 7 (by kernel_rfl) (wpOp_step rfl fun K hK => ?_)
  go_simp
  refine (result_any _ 30 _ _ ⟨by decide, by decide⟩ xa.1 xa.2 xb.1 xb.2).mono ?_
  rintro e w' ⟨rfl, hw⟩
  rw [hw]
  clear hw w'
  refine hK _ _ ⟨hS, ?_⟩
  clear hK K
  refine tA 8 (by kernel_rfl) (wpOp_step rfl fun K hK => ?_)
  go_simp
  refine (result_c _ x r c A0.out.c A rd hd _).mono ?_
  rintro e w3 ⟨rfl, h3, o3⟩
  refine hK _ _ ⟨hS.offs o3 HL.out, wpAnyH_done (by kernel_rfl) ?_ _⟩
  clear hK K
  go_wp2_with fail
  go_end0
  exact ⟨rfl, h3, A0.out.o.trans o3⟩
set_option maxHeartbeats 4000000 in
set_option maxRecDepth 100000 in
theorem cdo_31 {W : World} {x r rd r1 r2 : Nat} {c : CSt} {imm : Int} (J : Din W x r c rd r1 r2 imm) (w : Int) : CDo W x r 31 rd r1 r2 imm w (resC c rd (aluV 31 (c.regs[r1]?.getD 0) (c.regs[r2]?.getD 0))) := by
  obtain ⟨HF0, HF, HAT, HL, HZ, A, ⟨hd, hd'⟩, h1, h2, ⟨i0, i1⟩, xa, xb, ⟨p0, p1⟩, ⟨m0, m3⟩, c1, f1⟩ := J.facts
  clear J
  unfold CDo
  go_enter Tryz.func81, Tryz.ntmps81
  go_wp2_with (first | (go_at_call 110; (first | (refine (reg_any _ x r c (HF0.out _) HZ.out _ (by omega)).mono ?_) | (refine (reg_any _ x r c (HF.out _ _) HZ.out _ (by omega)).mono ?_)); rintro e w' ⟨rfl, q, rfl⟩))
  generalize hw0 : World.drewN (W.alloc (Obj.cells #[.int .i64 31, .int .i64 rd, .int .i64 r1, .int .i64 r2, .int .u32 imm] 72)) _ = w0
  have A0 : Hid (At W w0.drew x r W.heap.size c 31 rd r1 r2 imm) := by rw [← hw0]; exact HAT.out _ _
  have hS := A0.out.b
  clear hw0 c1 f1
  refine wp_region_held (S := fun w' => Bx w' W.heap.size 31 rd r1 r2 imm) (by kernel_rfl) ?_
  change wpAnyH _ _ _ _ _ _ _ _ (w0.drew)
  refine yK 0 (.pointer (some ⟨x, 0, none⟩)) hS ?_
  refine yK 1 (.pointer (some ⟨W.heap.size, 1, none⟩)) hS ?_
  refine yI 2 (fun _ h => h.c1) hS ?_
  refine yK 3 (.pointer (some ⟨W.heap.size, 0, none⟩)) hS ?_
  refine yI 4 (fun _ h => h.c0) hS ?_
  refine yK 5 (.int .u32 (c.regs[r1]?.getD 0)) hS ?_
  refine yK 6 (.int .u32 (c.regs[r2]?.getD 0)) hS ?_
  refine tA 7 (by kernel_rfl) (wpOp_step rfl fun K hK => ?_)
  go_simp
  refine (result_any _ 31 _ _ ⟨by decide, by decide⟩ xa.1 xa.2 xb.1 xb.2).mono ?_
  rintro e w' ⟨rfl, hw⟩
  rw [hw]
  clear hw w'
  refine hK _ _ ⟨hS, ?_⟩
  clear hK K
  refine tA 8 (by kernel_rfl) (wpOp_step rfl fun K hK => ?_)
  go_simp
  refine (result_c _ x r c A0.out.c A rd hd _).mono ?_
  rintro e w3 ⟨rfl, h3, o3⟩
  refine hK _ _ ⟨hS.offs o3 HL.out, wpAnyH_done (by kernel_rfl) ?_ _⟩
  clear hK K
  go_wp2_with fail
  go_end0
  exact ⟨rfl, h3, A0.out.o.trans o3⟩
set_option maxHeartbeats 4000000 in
set_option maxRecDepth 100000 in
theorem cdo_32 {W : World} {x r rd r1 r2 : Nat} {c : CSt} {imm : Int} (J : Din W x r c rd r1 r2 imm) (w : Int) : CDo W x r 32 rd r1 r2 imm w (resC c rd (aluV 32 (c.regs[r1]?.getD 0) (c.regs[r2]?.getD 0))) := by
  obtain ⟨HF0, HF, HAT, HL, HZ, A, ⟨hd, hd'⟩, h1, h2, ⟨i0, i1⟩, xa, xb, ⟨p0, p1⟩, ⟨m0, m3⟩, c1, f1⟩ := J.facts
  clear J
  unfold CDo
  go_enter Tryz.func81, Tryz.ntmps81
  go_wp2_with (first | (go_at_call 110; (first | (refine (reg_any _ x r c (HF0.out _) HZ.out _ (by omega)).mono ?_) | (refine (reg_any _ x r c (HF.out _ _) HZ.out _ (by omega)).mono ?_)); rintro e w' ⟨rfl, q, rfl⟩))
  generalize hw0 : World.drewN (W.alloc (Obj.cells #[.int .i64 32, .int .i64 rd, .int .i64 r1, .int .i64 r2, .int .u32 imm] 72)) _ = w0
  have A0 : Hid (At W w0.drew x r W.heap.size c 32 rd r1 r2 imm) := by rw [← hw0]; exact HAT.out _ _
  have hS := A0.out.b
  clear hw0 c1 f1
  refine wp_region_held (S := fun w' => Bx w' W.heap.size 32 rd r1 r2 imm) (by kernel_rfl) ?_
  change wpAnyH _ _ _ _ _ _ _ _ (w0.drew)
  refine yK 0 (.pointer (some ⟨x, 0, none⟩)) hS ?_
  refine yK 1 (.pointer (some ⟨W.heap.size, 1, none⟩)) hS ?_
  refine yI 2 (fun _ h => h.c1) hS ?_
  refine yK 3 (.pointer (some ⟨W.heap.size, 0, none⟩)) hS ?_
  refine yI 4 (fun _ h => h.c0) hS ?_
  refine yK 5 (.int .u32 (c.regs[r1]?.getD 0)) hS ?_
  refine yK 6 (.int .u32 (c.regs[r2]?.getD 0)) hS ?_
  refine tA 7 (by kernel_rfl) (wpOp_step rfl fun K hK => ?_)
  go_simp
  refine (result_any _ 32 _ _ ⟨by decide, by decide⟩ xa.1 xa.2 xb.1 xb.2).mono ?_
  rintro e w' ⟨rfl, hw⟩
  rw [hw]
  clear hw w'
  refine hK _ _ ⟨hS, ?_⟩
  clear hK K
  refine tA 8 (by kernel_rfl) (wpOp_step rfl fun K hK => ?_)
  go_simp
  refine (result_c _ x r c A0.out.c A rd hd _).mono ?_
  rintro e w3 ⟨rfl, h3, o3⟩
  refine hK _ _ ⟨hS.offs o3 HL.out, wpAnyH_done (by kernel_rfl) ?_ _⟩
  clear hK K
  go_wp2_with fail
  go_end0
  exact ⟨rfl, h3, A0.out.o.trans o3⟩
set_option maxHeartbeats 4000000 in
set_option maxRecDepth 100000 in
theorem cdo_33 {W : World} {x r rd r1 r2 : Nat} {c : CSt} {imm : Int} (J : Din W x r c rd r1 r2 imm) (w : Int) : CDo W x r 33 rd r1 r2 imm w (resC c rd (aluV 33 (c.regs[r1]?.getD 0) (c.regs[r2]?.getD 0))) := by
  obtain ⟨HF0, HF, HAT, HL, HZ, A, ⟨hd, hd'⟩, h1, h2, ⟨i0, i1⟩, xa, xb, ⟨p0, p1⟩, ⟨m0, m3⟩, c1, f1⟩ := J.facts
  clear J
  unfold CDo
  go_enter Tryz.func81, Tryz.ntmps81
  go_wp2_with (first | (go_at_call 110; (first | (refine (reg_any _ x r c (HF0.out _) HZ.out _ (by omega)).mono ?_) | (refine (reg_any _ x r c (HF.out _ _) HZ.out _ (by omega)).mono ?_)); rintro e w' ⟨rfl, q, rfl⟩))
  generalize hw0 : World.drewN (W.alloc (Obj.cells #[.int .i64 33, .int .i64 rd, .int .i64 r1, .int .i64 r2, .int .u32 imm] 72)) _ = w0
  have A0 : Hid (At W w0.drew x r W.heap.size c 33 rd r1 r2 imm) := by rw [← hw0]; exact HAT.out _ _
  have hS := A0.out.b
  clear hw0 c1 f1
  refine wp_region_held (S := fun w' => Bx w' W.heap.size 33 rd r1 r2 imm) (by kernel_rfl) ?_
  change wpAnyH _ _ _ _ _ _ _ _ (w0.drew)
  refine yK 0 (.pointer (some ⟨x, 0, none⟩)) hS ?_
  refine yK 1 (.pointer (some ⟨W.heap.size, 1, none⟩)) hS ?_
  refine yI 2 (fun _ h => h.c1) hS ?_
  refine yK 3 (.pointer (some ⟨W.heap.size, 0, none⟩)) hS ?_
  refine yI 4 (fun _ h => h.c0) hS ?_
  refine yK 5 (.int .u32 (c.regs[r1]?.getD 0)) hS ?_
  refine yK 6 (.int .u32 (c.regs[r2]?.getD 0)) hS ?_
  refine tA 7 (by kernel_rfl) (wpOp_step rfl fun K hK => ?_)
  go_simp
  refine (result_any _ 33 _ _ ⟨by decide, by decide⟩ xa.1 xa.2 xb.1 xb.2).mono ?_
  rintro e w' ⟨rfl, hw⟩
  rw [hw]
  clear hw w'
  refine hK _ _ ⟨hS, ?_⟩
  clear hK K
  refine tA 8 (by kernel_rfl) (wpOp_step rfl fun K hK => ?_)
  go_simp
  refine (result_c _ x r c A0.out.c A rd hd _).mono ?_
  rintro e w3 ⟨rfl, h3, o3⟩
  refine hK _ _ ⟨hS.offs o3 HL.out, wpAnyH_done (by kernel_rfl) ?_ _⟩
  clear hK K
  go_wp2_with fail
  go_end0
  exact ⟨rfl, h3, A0.out.o.trans o3⟩
set_option maxHeartbeats 4000000 in
set_option maxRecDepth 100000 in
theorem cdo_34 {W : World} {x r rd r1 r2 : Nat} {c : CSt} {imm : Int} (J : Din W x r c rd r1 r2 imm) (w : Int) : CDo W x r 34 rd r1 r2 imm w (resC c rd (aluV 34 (c.regs[r1]?.getD 0) (c.regs[r2]?.getD 0))) := by
  obtain ⟨HF0, HF, HAT, HL, HZ, A, ⟨hd, hd'⟩, h1, h2, ⟨i0, i1⟩, xa, xb, ⟨p0, p1⟩, ⟨m0, m3⟩, c1, f1⟩ := J.facts
  clear J
  unfold CDo
  go_enter Tryz.func81, Tryz.ntmps81
  go_wp2_with (first | (go_at_call 110; (first | (refine (reg_any _ x r c (HF0.out _) HZ.out _ (by omega)).mono ?_) | (refine (reg_any _ x r c (HF.out _ _) HZ.out _ (by omega)).mono ?_)); rintro e w' ⟨rfl, q, rfl⟩))
  generalize hw0 : World.drewN (W.alloc (Obj.cells #[.int .i64 34, .int .i64 rd, .int .i64 r1, .int .i64 r2, .int .u32 imm] 72)) _ = w0
  have A0 : Hid (At W w0.drew x r W.heap.size c 34 rd r1 r2 imm) := by rw [← hw0]; exact HAT.out _ _
  have hS := A0.out.b
  clear hw0 c1 f1
  refine wp_region_held (S := fun w' => Bx w' W.heap.size 34 rd r1 r2 imm) (by kernel_rfl) ?_
  change wpAnyH _ _ _ _ _ _ _ _ (w0.drew)
  refine yK 0 (.pointer (some ⟨x, 0, none⟩)) hS ?_
  refine yK 1 (.pointer (some ⟨W.heap.size, 1, none⟩)) hS ?_
  refine yI 2 (fun _ h => h.c1) hS ?_
  refine yK 3 (.pointer (some ⟨W.heap.size, 0, none⟩)) hS ?_
  refine yI 4 (fun _ h => h.c0) hS ?_
  refine yK 5 (.int .u32 (c.regs[r1]?.getD 0)) hS ?_
  refine yK 6 (.int .u32 (c.regs[r2]?.getD 0)) hS ?_
  refine tA 7 (by kernel_rfl) (wpOp_step rfl fun K hK => ?_)
  go_simp
  refine (result_any _ 34 _ _ ⟨by decide, by decide⟩ xa.1 xa.2 xb.1 xb.2).mono ?_
  rintro e w' ⟨rfl, hw⟩
  rw [hw]
  clear hw w'
  refine hK _ _ ⟨hS, ?_⟩
  clear hK K
  refine tA 8 (by kernel_rfl) (wpOp_step rfl fun K hK => ?_)
  go_simp
  refine (result_c _ x r c A0.out.c A rd hd _).mono ?_
  rintro e w3 ⟨rfl, h3, o3⟩
  refine hK _ _ ⟨hS.offs o3 HL.out, wpAnyH_done (by kernel_rfl) ?_ _⟩
  clear hK K
  go_wp2_with fail
  go_end0
  exact ⟨rfl, h3, A0.out.o.trans o3⟩
set_option maxHeartbeats 4000000 in
set_option maxRecDepth 100000 in
theorem cdo_35 {W : World} {x r rd r1 r2 : Nat} {c : CSt} {imm : Int} (J : Din W x r c rd r1 r2 imm) (w : Int) : CDo W x r 35 rd r1 r2 imm w (resC c rd (aluV 35 (c.regs[r1]?.getD 0) (c.regs[r2]?.getD 0))) := by
  obtain ⟨HF0, HF, HAT, HL, HZ, A, ⟨hd, hd'⟩, h1, h2, ⟨i0, i1⟩, xa, xb, ⟨p0, p1⟩, ⟨m0, m3⟩, c1, f1⟩ := J.facts
  clear J
  unfold CDo
  go_enter Tryz.func81, Tryz.ntmps81
  go_wp2_with (first | (go_at_call 110; (first | (refine (reg_any _ x r c (HF0.out _) HZ.out _ (by omega)).mono ?_) | (refine (reg_any _ x r c (HF.out _ _) HZ.out _ (by omega)).mono ?_)); rintro e w' ⟨rfl, q, rfl⟩))
  generalize hw0 : World.drewN (W.alloc (Obj.cells #[.int .i64 35, .int .i64 rd, .int .i64 r1, .int .i64 r2, .int .u32 imm] 72)) _ = w0
  have A0 : Hid (At W w0.drew x r W.heap.size c 35 rd r1 r2 imm) := by rw [← hw0]; exact HAT.out _ _
  have hS := A0.out.b
  clear hw0 c1 f1
  refine wp_region_held (S := fun w' => Bx w' W.heap.size 35 rd r1 r2 imm) (by kernel_rfl) ?_
  change wpAnyH _ _ _ _ _ _ _ _ (w0.drew)
  refine yK 0 (.pointer (some ⟨x, 0, none⟩)) hS ?_
  refine yK 1 (.pointer (some ⟨W.heap.size, 1, none⟩)) hS ?_
  refine yI 2 (fun _ h => h.c1) hS ?_
  refine yK 3 (.pointer (some ⟨W.heap.size, 0, none⟩)) hS ?_
  refine yI 4 (fun _ h => h.c0) hS ?_
  refine yK 5 (.int .u32 (c.regs[r1]?.getD 0)) hS ?_
  refine yK 6 (.int .u32 (c.regs[r2]?.getD 0)) hS ?_
  refine tA 7 (by kernel_rfl) (wpOp_step rfl fun K hK => ?_)
  go_simp
  refine (result_any _ 35 _ _ ⟨by decide, by decide⟩ xa.1 xa.2 xb.1 xb.2).mono ?_
  rintro e w' ⟨rfl, hw⟩
  rw [hw]
  clear hw w'
  refine hK _ _ ⟨hS, ?_⟩
  clear hK K
  refine tA 8 (by kernel_rfl) (wpOp_step rfl fun K hK => ?_)
  go_simp
  refine (result_c _ x r c A0.out.c A rd hd _).mono ?_
  rintro e w3 ⟨rfl, h3, o3⟩
  refine hK _ _ ⟨hS.offs o3 HL.out, wpAnyH_done (by kernel_rfl) ?_ _⟩
  clear hK K
  go_wp2_with fail
  go_end0
  exact ⟨rfl, h3, A0.out.o.trans o3⟩
set_option maxHeartbeats 4000000 in
set_option maxRecDepth 100000 in
theorem cdo_36 {W : World} {x r rd r1 r2 : Nat} {c : CSt} {imm : Int} (J : Din W x r c rd r1 r2 imm) (w : Int) : CDo W x r 36 rd r1 r2 imm w (resC c rd (aluV 36 (c.regs[r1]?.getD 0) (c.regs[r2]?.getD 0))) := by
  obtain ⟨HF0, HF, HAT, HL, HZ, A, ⟨hd, hd'⟩, h1, h2, ⟨i0, i1⟩, xa, xb, ⟨p0, p1⟩, ⟨m0, m3⟩, c1, f1⟩ := J.facts
  clear J
  unfold CDo
  go_enter Tryz.func81, Tryz.ntmps81
  go_wp2_with (first | (go_at_call 110; (first | (refine (reg_any _ x r c (HF0.out _) HZ.out _ (by omega)).mono ?_) | (refine (reg_any _ x r c (HF.out _ _) HZ.out _ (by omega)).mono ?_)); rintro e w' ⟨rfl, q, rfl⟩))
  generalize hw0 : World.drewN (W.alloc (Obj.cells #[.int .i64 36, .int .i64 rd, .int .i64 r1, .int .i64 r2, .int .u32 imm] 72)) _ = w0
  have A0 : Hid (At W w0.drew x r W.heap.size c 36 rd r1 r2 imm) := by rw [← hw0]; exact HAT.out _ _
  have hS := A0.out.b
  clear hw0 c1 f1
  refine wp_region_held (S := fun w' => Bx w' W.heap.size 36 rd r1 r2 imm) (by kernel_rfl) ?_
  change wpAnyH _ _ _ _ _ _ _ _ (w0.drew)
  refine yK 0 (.pointer (some ⟨x, 0, none⟩)) hS ?_
  refine yK 1 (.pointer (some ⟨W.heap.size, 1, none⟩)) hS ?_
  refine yI 2 (fun _ h => h.c1) hS ?_
  refine yK 3 (.pointer (some ⟨W.heap.size, 0, none⟩)) hS ?_
  refine yI 4 (fun _ h => h.c0) hS ?_
  refine yK 5 (.int .u32 (c.regs[r1]?.getD 0)) hS ?_
  refine yK 6 (.int .u32 (c.regs[r2]?.getD 0)) hS ?_
  refine tA 7 (by kernel_rfl) (wpOp_step rfl fun K hK => ?_)
  go_simp
  refine (result_any _ 36 _ _ ⟨by decide, by decide⟩ xa.1 xa.2 xb.1 xb.2).mono ?_
  rintro e w' ⟨rfl, hw⟩
  rw [hw]
  clear hw w'
  refine hK _ _ ⟨hS, ?_⟩
  clear hK K
  refine tA 8 (by kernel_rfl) (wpOp_step rfl fun K hK => ?_)
  go_simp
  refine (result_c _ x r c A0.out.c A rd hd _).mono ?_
  rintro e w3 ⟨rfl, h3, o3⟩
  refine hK _ _ ⟨hS.offs o3 HL.out, wpAnyH_done (by kernel_rfl) ?_ _⟩
  clear hK K
  go_wp2_with fail
  go_end0
  exact ⟨rfl, h3, A0.out.o.trans o3⟩
set_option maxHeartbeats 4000000 in
set_option maxRecDepth 100000 in
theorem cdo_37 {W : World} {x r rd r1 r2 : Nat} {c : CSt} {imm : Int} (J : Din W x r c rd r1 r2 imm) (w : Int) : CDo W x r 37 rd r1 r2 imm w (resC c rd (aluV 37 (c.regs[r1]?.getD 0) (c.regs[r2]?.getD 0))) := by
  obtain ⟨HF0, HF, HAT, HL, HZ, A, ⟨hd, hd'⟩, h1, h2, ⟨i0, i1⟩, xa, xb, ⟨p0, p1⟩, ⟨m0, m3⟩, c1, f1⟩ := J.facts
  clear J
  unfold CDo
  go_enter Tryz.func81, Tryz.ntmps81
  go_wp2_with (first | (go_at_call 110; (first | (refine (reg_any _ x r c (HF0.out _) HZ.out _ (by omega)).mono ?_) | (refine (reg_any _ x r c (HF.out _ _) HZ.out _ (by omega)).mono ?_)); rintro e w' ⟨rfl, q, rfl⟩))
  generalize hw0 : World.drewN (W.alloc (Obj.cells #[.int .i64 37, .int .i64 rd, .int .i64 r1, .int .i64 r2, .int .u32 imm] 72)) _ = w0
  have A0 : Hid (At W w0.drew x r W.heap.size c 37 rd r1 r2 imm) := by rw [← hw0]; exact HAT.out _ _
  have hS := A0.out.b
  clear hw0 c1 f1
  refine wp_region_held (S := fun w' => Bx w' W.heap.size 37 rd r1 r2 imm) (by kernel_rfl) ?_
  change wpAnyH _ _ _ _ _ _ _ _ (w0.drew)
  refine yK 0 (.pointer (some ⟨x, 0, none⟩)) hS ?_
  refine yK 1 (.pointer (some ⟨W.heap.size, 1, none⟩)) hS ?_
  refine yI 2 (fun _ h => h.c1) hS ?_
  refine yK 3 (.pointer (some ⟨W.heap.size, 0, none⟩)) hS ?_
  refine yI 4 (fun _ h => h.c0) hS ?_
  refine yK 5 (.int .u32 (c.regs[r1]?.getD 0)) hS ?_
  refine yK 6 (.int .u32 (c.regs[r2]?.getD 0)) hS ?_
  refine tA 7 (by kernel_rfl) (wpOp_step rfl fun K hK => ?_)
  go_simp
  refine (result_any _ 37 _ _ ⟨by decide, by decide⟩ xa.1 xa.2 xb.1 xb.2).mono ?_
  rintro e w' ⟨rfl, hw⟩
  rw [hw]
  clear hw w'
  refine hK _ _ ⟨hS, ?_⟩
  clear hK K
  refine tA 8 (by kernel_rfl) (wpOp_step rfl fun K hK => ?_)
  go_simp
  refine (result_c _ x r c A0.out.c A rd hd _).mono ?_
  rintro e w3 ⟨rfl, h3, o3⟩
  refine hK _ _ ⟨hS.offs o3 HL.out, wpAnyH_done (by kernel_rfl) ?_ _⟩
  clear hK K
  go_wp2_with fail
  go_end0
  exact ⟨rfl, h3, A0.out.o.trans o3⟩
end Go.Proofs.YteiideeechnekaaGreatDoor
