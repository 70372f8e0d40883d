/-
  The code's do: sums of two registers.
-/
import Derived.Test.YtlilgcbgmebcdaaGreatDoorCodeSmall
import Derived.Test.YtlilgcbgmebcdaaGreatDoorCodeReck
import Derived.Test.YtlilgcbgmebcdaaGreatDoorCodeDo1
import Derived.OrdersHeld
namespace Go.Proofs.YtlilgcbgmebcdaaGreatDoor
open Go.RowKit

theorem y_lv {ops : Array Oper} {S : World → Prop} {o : Oper} {a : Act} {A : Addr} {t : TypeId} {X : Operand} {v : Value} (hop : o.op = .load t X) (hg : Region.wanted o (yielded ops a.tmps) = true) (he : a.eval X = .pointer (some A))
    (hrun : ∀ w : World, w.cell? A = some v → (Instr.loadAt t (.pointer (some A))).run Tryz.prog w = .ok v w) (hS : ∀ w, S w → w.cell? A = some v) : YieldsIf Tryz.prog ops S o v a :=
  Or.inl ⟨hg, fun w hw => by
    unfold execOp
    rw [hop]
    simp [he, hrun w (hS w hw), Result.andThen]⟩
theorem y_lvi {ops : Array Oper} {S : World → Prop} {o : Oper} {a : Act} {A : Addr} {X : Operand} {v : Value} (hop : o.op = .load 3 X) (hg : Region.wanted o (yielded ops a.tmps) = true) (he : a.eval X = .pointer (some A)) (hS : ∀ w, S w → w.cell? A = some v) : YieldsIf Tryz.prog ops S o v a :=
  y_lv hop hg he (fun w h => by simp [Instr.loadAt, go_sem, h]) hS
theorem y_lvu {ops : Array Oper} {S : World → Prop} {o : Oper} {a : Act} {A : Addr} {X : Operand} {v : Value} (hop : o.op = .load 29 X) (hg : Region.wanted o (yielded ops a.tmps) = true) (he : a.eval X = .pointer (some A)) (hS : ∀ w, S w → w.cell? A = some v) : YieldsIf Tryz.prog ops S o v a :=
  y_lv hop hg he (fun w h => by simp [Instr.loadAt, go_sem, h]) hS
set_option maxHeartbeats 4000000 in
set_option maxRecDepth 100000 in
theorem cdo_28 (W : World) (x r : Nat) (c : CSt) (h : CodeAt W x r c) (A : x ≠ r) (C : Cok c) (rd r1 r2 : Nat) (imm : Int) (K : Iok rd r1 r2 imm) :
    Calls Tryz.prog 27 #[.pointer (some ⟨x, 0, none⟩), .agg #[.int .i64 28, .int .i64 rd, .int .i64 r1, .int .i64 r2, .int .u32 imm]] W fun e W' => e = .returned (.tuple #[]) ∧ CodeAt W' x r (resC c rd (aluV 28 (c.regs[r1]?.getD 0) (c.regs[r2]?.getD 0))) ∧ Offs [x, r] W W' := by
  have HF0 : Hid (∀ o, CodeAt (W.alloc o) x r c) := fun o => h.below ((Below.refl W.heap.size W).alloc (Nat.le_refl _) o) h.lt.1 h.lt.2
  have HF : Hid (∀ o q, CodeAt ((W.alloc o).drewN q) x r c) := fun o q => (HF0.out o).drawn q
  have hd := K.d
  have h1 := K.s
  have h2 := K.t
  have i0 := K.i0
  have i1 := K.i1
  have z := C.z
  have xa := C.x r1
  have xb := C.x r2
  have p0 := C.p0
  have p1 := C.p1
  have hd' : (rd : Int) < 32 := by omega
  have c1 := fun o => (HF0.out o).pc
  have f1 := fun o => (HF0.out o).fx
  have HZ : Hid (c.regs[0]?.getD 0 = 0) := z
  have HL : Hid (W.heap.size ∉ [x, r]) := fun hk => by have := h.lt; simp at hk; omega
  clear h z C
  go_enter Tryz.func27, Tryz.ntmps27
  go_wp2_with (first | (go_at_call 52; (first | (refine (reg_any _ x r c (HF0.out _) HZ.out _ (by omega)).mono ?_) | (refine (reg_any _ x r c (HF.out _ _) HZ.out _ (by omega)).mono ?_)); rintro e w' ⟨rfl, q, rfl⟩))
  generalize hw0 : World.drewN (W.alloc (Obj.cells #[.int .i64 28, .int .i64 rd, .int .i64 r1, .int .i64 r2, .int .u32 imm] 66)) _ = w0
  have C0 : Hid (CodeAt w0.drew x r c) := by rw [← hw0]; exact (HF.out _ _).drawn 1
  have O0 : Hid (Offs [x, r] W w0.drew) := by rw [← hw0]; exact (((Offs.refl _ _).new _).drawn _).drawn 1
  have hS : w0.drew.cell? ⟨W.heap.size, 0, none⟩ = some (.int .i64 28) ∧ w0.drew.cell? ⟨W.heap.size, 1, none⟩ = some (.int .i64 rd) ∧ w0.drew.cell? ⟨W.heap.size, 4, none⟩ = some (.int .u32 imm) := by
    rw [← hw0]
    have e := fun j => cell_of_row (W.alloc (Obj.cells #[.int .i64 28, .int .i64 rd, .int .i64 r1, .int .i64 r2, .int .u32 imm] 66)) W.heap.size j _ _ (0, 0) (heap_alloc_new W _)
    exact ⟨(e 0).trans rfl, (e 1).trans rfl, (e 4).trans rfl⟩
  clear hw0 c1 f1
  refine wp_region_held (S := fun w' => w'.cell? ⟨W.heap.size, 0, none⟩ = some (.int .i64 28) ∧ w'.cell? ⟨W.heap.size, 1, none⟩ = some (.int .i64 rd) ∧ w'.cell? ⟨W.heap.size, 4, none⟩ = some (.int .u32 imm)) (by kernel_rfl) ?_
  change wpAnyH _ _ _ _ _ _ _ _ (w0.drew)
  refine wpAnyH_take (i := 0) (v := .pointer (some ⟨x, 0, none⟩)) rfl (by kernel_rfl) (by kernel_rfl) (by kernel_rfl) (fun _ _ _ h => h) (Or.inl ⟨by kernel_rfl, fun w _ => by kernel_rfl⟩) hS ?_
  refine wpAnyH_take (i := 1) (v := .pointer (some ⟨W.heap.size, 1, none⟩)) rfl (by kernel_rfl) (by kernel_rfl) (by kernel_rfl) (fun _ _ _ h => h) (Or.inl ⟨by kernel_rfl, fun w _ => by kernel_rfl⟩) hS ?_
  refine wpAnyH_take (i := 2) (v := .int .i64 rd) rfl (by kernel_rfl) (by kernel_rfl) (by kernel_rfl) (fun _ _ _ h => h) (y_lvi (A := ⟨W.heap.size, 1, none⟩) rfl (by kernel_rfl) (by kernel_rfl) (fun w h => h.2.1)) hS ?_
  refine wpAnyH_take (i := 3) (v := .pointer (some ⟨W.heap.size, 0, none⟩)) rfl (by kernel_rfl) (by kernel_rfl) (by kernel_rfl) (fun _ _ _ h => h) (Or.inl ⟨by kernel_rfl, fun w _ => by kernel_rfl⟩) hS ?_
  refine wpAnyH_take (i := 4) (v := .int .i64 28) rfl (by kernel_rfl) (by kernel_rfl) (by kernel_rfl) (fun _ _ _ h => h) (y_lvi (A := ⟨W.heap.size, 0, none⟩) rfl (by kernel_rfl) (by kernel_rfl) (fun w h => h.1)) hS ?_
  refine wpAnyH_take (i := 5) (v := .int .u32 (c.regs[r1]?.getD 0)) rfl (by kernel_rfl) (by kernel_rfl) (by kernel_rfl) (fun _ _ _ h => h) (Or.inl ⟨by kernel_rfl, fun w _ => by kernel_rfl⟩) hS ?_
  refine wpAnyH_take (i := 6) (v := .int .u32 (c.regs[r2]?.getD 0)) rfl (by kernel_rfl) (by kernel_rfl) (by kernel_rfl) (fun _ _ _ h => h) (Or.inl ⟨by kernel_rfl, fun w _ => by kernel_rfl⟩) hS ?_
  refine wpAnyH_all (rs := [7]) (by kernel_rfl) (by simp) fun i hi => ?_
  obtain rfl : i = 7 := by simpa using hi
  refine wpOp_step rfl (fun K hK => ?_)
  go_simp
  refine (result_any _ 28 _ _ ⟨by decide, by decide⟩ xa.1 xa.2 xb.1 xb.2).mono ?_
  rintro e w' ⟨rfl, hw⟩
  rw [hw]
  clear hw w'
  refine hK _ _ ⟨hS, ?_⟩
  clear hK K
  refine wpAnyH_all (rs := [8]) (by kernel_rfl) (by simp) fun i hi => ?_
  obtain rfl : i = 8 := by simpa using hi
  refine wpOp_step rfl (fun K hK => ?_)
  go_simp
  refine (result_c _ x r c C0.out A rd hd _).mono ?_
  rintro e w3 ⟨rfl, h3, o3⟩
  have hS3 : w3.cell? ⟨W.heap.size, 0, none⟩ = some (.int .i64 28) ∧ w3.cell? ⟨W.heap.size, 1, none⟩ = some (.int .i64 rd) ∧ w3.cell? ⟨W.heap.size, 4, none⟩ = some (.int .u32 imm) := by
    have bl : W.heap.size < w0.drew.heap.size := World.block_lt_of_cell? _ ⟨W.heap.size, 0, none⟩ hS.1
    have b3 := fun j => World.cell?_of_block (w := w0.drew) (a := ⟨W.heap.size, j, none⟩) (o3.block W.heap.size bl HL.out)
    exact ⟨(b3 0).trans hS.1, (b3 1).trans hS.2.1, (b3 4).trans hS.2.2⟩
  refine hK _ _ ⟨hS3, wpAnyH_done (by kernel_rfl) ?_ _⟩
  clear hK K
  go_wp2_with fail
  go_end0
  exact ⟨rfl, h3, O0.out.trans o3⟩
set_option maxHeartbeats 4000000 in
set_option maxRecDepth 100000 in
theorem cdo_29 (W : World) (x r : Nat) (c : CSt) (h : CodeAt W x r c) (A : x ≠ r) (C : Cok c) (rd r1 r2 : Nat) (imm : Int) (K : Iok rd r1 r2 imm) :
    Calls Tryz.prog 27 #[.pointer (some ⟨x, 0, none⟩), .agg #[.int .i64 29, .int .i64 rd, .int .i64 r1, .int .i64 r2, .int .u32 imm]] W fun e W' => e = .returned (.tuple #[]) ∧ CodeAt W' x r (resC c rd (aluV 29 (c.regs[r1]?.getD 0) (c.regs[r2]?.getD 0))) ∧ Offs [x, r] W W' := by
  have HF0 : Hid (∀ o, CodeAt (W.alloc o) x r c) := fun o => h.below ((Below.refl W.heap.size W).alloc (Nat.le_refl _) o) h.lt.1 h.lt.2
  have HF : Hid (∀ o q, CodeAt ((W.alloc o).drewN q) x r c) := fun o q => (HF0.out o).drawn q
  have hd := K.d
  have h1 := K.s
  have h2 := K.t
  have i0 := K.i0
  have i1 := K.i1
  have z := C.z
  have xa := C.x r1
  have xb := C.x r2
  have p0 := C.p0
  have p1 := C.p1
  have hd' : (rd : Int) < 32 := by omega
  have c1 := fun o => (HF0.out o).pc
  have f1 := fun o => (HF0.out o).fx
  have HZ : Hid (c.regs[0]?.getD 0 = 0) := z
  have HL : Hid (W.heap.size ∉ [x, r]) := fun hk => by have := h.lt; simp at hk; omega
  clear h z C
  go_enter Tryz.func27, Tryz.ntmps27
  go_wp2_with (first | (go_at_call 52; (first | (refine (reg_any _ x r c (HF0.out _) HZ.out _ (by omega)).mono ?_) | (refine (reg_any _ x r c (HF.out _ _) HZ.out _ (by omega)).mono ?_)); rintro e w' ⟨rfl, q, rfl⟩))
  generalize hw0 : World.drewN (W.alloc (Obj.cells #[.int .i64 29, .int .i64 rd, .int .i64 r1, .int .i64 r2, .int .u32 imm] 66)) _ = w0
  have C0 : Hid (CodeAt w0.drew x r c) := by rw [← hw0]; exact (HF.out _ _).drawn 1
  have O0 : Hid (Offs [x, r] W w0.drew) := by rw [← hw0]; exact (((Offs.refl _ _).new _).drawn _).drawn 1
  have hS : w0.drew.cell? ⟨W.heap.size, 0, none⟩ = some (.int .i64 29) ∧ w0.drew.cell? ⟨W.heap.size, 1, none⟩ = some (.int .i64 rd) ∧ w0.drew.cell? ⟨W.heap.size, 4, none⟩ = some (.int .u32 imm) := by
    rw [← hw0]
    have e := fun j => cell_of_row (W.alloc (Obj.cells #[.int .i64 29, .int .i64 rd, .int .i64 r1, .int .i64 r2, .int .u32 imm] 66)) W.heap.size j _ _ (0, 0) (heap_alloc_new W _)
    exact ⟨(e 0).trans rfl, (e 1).trans rfl, (e 4).trans rfl⟩
  clear hw0 c1 f1
  refine wp_region_held (S := fun w' => w'.cell? ⟨W.heap.size, 0, none⟩ = some (.int .i64 29) ∧ w'.cell? ⟨W.heap.size, 1, none⟩ = some (.int .i64 rd) ∧ w'.cell? ⟨W.heap.size, 4, none⟩ = some (.int .u32 imm)) (by kernel_rfl) ?_
  change wpAnyH _ _ _ _ _ _ _ _ (w0.drew)
  refine wpAnyH_take (i := 0) (v := .pointer (some ⟨x, 0, none⟩)) rfl (by kernel_rfl) (by kernel_rfl) (by kernel_rfl) (fun _ _ _ h => h) (Or.inl ⟨by kernel_rfl, fun w _ => by kernel_rfl⟩) hS ?_
  refine wpAnyH_take (i := 1) (v := .pointer (some ⟨W.heap.size, 1, none⟩)) rfl (by kernel_rfl) (by kernel_rfl) (by kernel_rfl) (fun _ _ _ h => h) (Or.inl ⟨by kernel_rfl, fun w _ => by kernel_rfl⟩) hS ?_
  refine wpAnyH_take (i := 2) (v := .int .i64 rd) rfl (by kernel_rfl) (by kernel_rfl) (by kernel_rfl) (fun _ _ _ h => h) (y_lvi (A := ⟨W.heap.size, 1, none⟩) rfl (by kernel_rfl) (by kernel_rfl) (fun w h => h.2.1)) hS ?_
  refine wpAnyH_take (i := 3) (v := .pointer (some ⟨W.heap.size, 0, none⟩)) rfl (by kernel_rfl) (by kernel_rfl) (by kernel_rfl) (fun _ _ _ h => h) (Or.inl ⟨by kernel_rfl, fun w _ => by kernel_rfl⟩) hS ?_
  refine wpAnyH_take (i := 4) (v := .int .i64 29) rfl (by kernel_rfl) (by kernel_rfl) (by kernel_rfl) (fun _ _ _ h => h) (y_lvi (A := ⟨W.heap.size, 0, none⟩) rfl (by kernel_rfl) (by kernel_rfl) (fun w h => h.1)) hS ?_
  refine wpAnyH_take (i := 5) (v := .int .u32 (c.regs[r1]?.getD 0)) rfl (by kernel_rfl) (by kernel_rfl) (by kernel_rfl) (fun _ _ _ h => h) (Or.inl ⟨by kernel_rfl, fun w _ => by kernel_rfl⟩) hS ?_
  refine wpAnyH_take (i := 6) (v := .int .u32 (c.regs[r2]?.getD 0)) rfl (by kernel_rfl) (by kernel_rfl) (by kernel_rfl) (fun _ _ _ h => h) (Or.inl ⟨by kernel_rfl, fun w _ => by kernel_rfl⟩) hS ?_
  refine wpAnyH_all (rs := [7]) (by kernel_rfl) (by simp) fun i hi => ?_
  obtain rfl : i = 7 := by simpa using hi
  refine wpOp_step rfl (fun K hK => ?_)
  go_simp
  refine (result_any _ 29 _ _ ⟨by decide, by decide⟩ xa.1 xa.2 xb.1 xb.2).mono ?_
  rintro e w' ⟨rfl, hw⟩
  rw [hw]
  clear hw w'
  refine hK _ _ ⟨hS, ?_⟩
  clear hK K
  refine wpAnyH_all (rs := [8]) (by kernel_rfl) (by simp) fun i hi => ?_
  obtain rfl : i = 8 := by simpa using hi
  refine wpOp_step rfl (fun K hK => ?_)
  go_simp
  refine (result_c _ x r c C0.out A rd hd _).mono ?_
  rintro e w3 ⟨rfl, h3, o3⟩
  have hS3 : w3.cell? ⟨W.heap.size, 0, none⟩ = some (.int .i64 29) ∧ w3.cell? ⟨W.heap.size, 1, none⟩ = some (.int .i64 rd) ∧ w3.cell? ⟨W.heap.size, 4, none⟩ = some (.int .u32 imm) := by
    have bl : W.heap.size < w0.drew.heap.size := World.block_lt_of_cell? _ ⟨W.heap.size, 0, none⟩ hS.1
    have b3 := fun j => World.cell?_of_block (w := w0.drew) (a := ⟨W.heap.size, j, none⟩) (o3.block W.heap.size bl HL.out)
    exact ⟨(b3 0).trans hS.1, (b3 1).trans hS.2.1, (b3 4).trans hS.2.2⟩
  refine hK _ _ ⟨hS3, wpAnyH_done (by kernel_rfl) ?_ _⟩
  clear hK K
  go_wp2_with fail
  go_end0
  exact ⟨rfl, h3, O0.out.trans o3⟩
set_option maxHeartbeats 4000000 in
set_option maxRecDepth 100000 in
theorem cdo_30 (W : World) (x r : Nat) (c : CSt) (h : CodeAt W x r c) (A : x ≠ r) (C : Cok c) (rd r1 r2 : Nat) (imm : Int) (K : Iok rd r1 r2 imm) :
    Calls Tryz.prog 27 #[.pointer (some ⟨x, 0, none⟩), .agg #[.int .i64 30, .int .i64 rd, .int .i64 r1, .int .i64 r2, .int .u32 imm]] W fun e W' => e = .returned (.tuple #[]) ∧ CodeAt W' x r (resC c rd (aluV 30 (c.regs[r1]?.getD 0) (c.regs[r2]?.getD 0))) ∧ Offs [x, r] W W' := by
  have HF0 : Hid (∀ o, CodeAt (W.alloc o) x r c) := fun o => h.below ((Below.refl W.heap.size W).alloc (Nat.le_refl _) o) h.lt.1 h.lt.2
  have HF : Hid (∀ o q, CodeAt ((W.alloc o).drewN q) x r c) := fun o q => (HF0.out o).drawn q
  have hd := K.d
  have h1 := K.s
  have h2 := K.t
  have i0 := K.i0
  have i1 := K.i1
  have z := C.z
  have xa := C.x r1
  have xb := C.x r2
  have p0 := C.p0
  have p1 := C.p1
  have hd' : (rd : Int) < 32 := by omega
  have c1 := fun o => (HF0.out o).pc
  have f1 := fun o => (HF0.out o).fx
  have HZ : Hid (c.regs[0]?.getD 0 = 0) := z
  have HL : Hid (W.heap.size ∉ [x, r]) := fun hk => by have := h.lt; simp at hk; omega
  clear h z C
  go_enter Tryz.func27, Tryz.ntmps27
  go_wp2_with (first | (go_at_call 52; (first | (refine (reg_any _ x r c (HF0.out _) HZ.out _ (by omega)).mono ?_) | (refine (reg_any _ x r c (HF.out _ _) HZ.out _ (by omega)).mono ?_)); rintro e w' ⟨rfl, q, rfl⟩))
  generalize hw0 : World.drewN (W.alloc (Obj.cells #[.int .i64 30, .int .i64 rd, .int .i64 r1, .int .i64 r2, .int .u32 imm] 66)) _ = w0
  have C0 : Hid (CodeAt w0.drew x r c) := by rw [← hw0]; exact (HF.out _ _).drawn 1
  have O0 : Hid (Offs [x, r] W w0.drew) := by rw [← hw0]; exact (((Offs.refl _ _).new _).drawn _).drawn 1
  have hS : w0.drew.cell? ⟨W.heap.size, 0, none⟩ = some (.int .i64 30) ∧ w0.drew.cell? ⟨W.heap.size, 1, none⟩ = some (.int .i64 rd) ∧ w0.drew.cell? ⟨W.heap.size, 4, none⟩ = some (.int .u32 imm) := by
    rw [← hw0]
    have e := fun j => cell_of_row (W.alloc (Obj.cells #[.int .i64 30, .int .i64 rd, .int .i64 r1, .int .i64 r2, .int .u32 imm] 66)) W.heap.size j _ _ (0, 0) (heap_alloc_new W _)
    exact ⟨(e 0).trans rfl, (e 1).trans rfl, (e 4).trans rfl⟩
  clear hw0 c1 f1
  refine wp_region_held (S := fun w' => w'.cell? ⟨W.heap.size, 0, none⟩ = some (.int .i64 30) ∧ w'.cell? ⟨W.heap.size, 1, none⟩ = some (.int .i64 rd) ∧ w'.cell? ⟨W.heap.size, 4, none⟩ = some (.int .u32 imm)) (by kernel_rfl) ?_
  change wpAnyH _ _ _ _ _ _ _ _ (w0.drew)
  refine wpAnyH_take (i := 0) (v := .pointer (some ⟨x, 0, none⟩)) rfl (by kernel_rfl) (by kernel_rfl) (by kernel_rfl) (fun _ _ _ h => h) (Or.inl ⟨by kernel_rfl, fun w _ => by kernel_rfl⟩) hS ?_
  refine wpAnyH_take (i := 1) (v := .pointer (some ⟨W.heap.size, 1, none⟩)) rfl (by kernel_rfl) (by kernel_rfl) (by kernel_rfl) (fun _ _ _ h => h) (Or.inl ⟨by kernel_rfl, fun w _ => by kernel_rfl⟩) hS ?_
  refine wpAnyH_take (i := 2) (v := .int .i64 rd) rfl (by kernel_rfl) (by kernel_rfl) (by kernel_rfl) (fun _ _ _ h => h) (y_lvi (A := ⟨W.heap.size, 1, none⟩) rfl (by kernel_rfl) (by kernel_rfl) (fun w h => h.2.1)) hS ?_
  refine wpAnyH_take (i := 3) (v := .pointer (some ⟨W.heap.size, 0, none⟩)) rfl (by kernel_rfl) (by kernel_rfl) (by kernel_rfl) (fun _ _ _ h => h) (Or.inl ⟨by kernel_rfl, fun w _ => by kernel_rfl⟩) hS ?_
  refine wpAnyH_take (i := 4) (v := .int .i64 30) rfl (by kernel_rfl) (by kernel_rfl) (by kernel_rfl) (fun _ _ _ h => h) (y_lvi (A := ⟨W.heap.size, 0, none⟩) rfl (by kernel_rfl) (by kernel_rfl) (fun w h => h.1)) hS ?_
  refine wpAnyH_take (i := 5) (v := .int .u32 (c.regs[r1]?.getD 0)) rfl (by kernel_rfl) (by kernel_rfl) (by kernel_rfl) (fun _ _ _ h => h) (Or.inl ⟨by kernel_rfl, fun w _ => by kernel_rfl⟩) hS ?_
  refine wpAnyH_take (i := 6) (v := .int .u32 (c.regs[r2]?.getD 0)) rfl (by kernel_rfl) (by kernel_rfl) (by kernel_rfl) (fun _ _ _ h => h) (Or.inl ⟨by kernel_rfl, fun w _ => by kernel_rfl⟩) hS ?_
  refine wpAnyH_all (rs := [7]) (by kernel_rfl) (by simp) fun i hi => ?_
  obtain rfl : i = 7 := by simpa using hi
  refine wpOp_step rfl (fun K hK => ?_)
  go_simp
  refine (result_any _ 30 _ _ ⟨by decide, by decide⟩ xa.1 xa.2 xb.1 xb.2).mono ?_
  rintro e w' ⟨rfl, hw⟩
  rw [hw]
  clear hw w'
  refine hK _ _ ⟨hS, ?_⟩
  clear hK K
  refine wpAnyH_all (rs := [8]) (by kernel_rfl) (by simp) fun i hi => ?_
  obtain rfl : i = 8 := by simpa using hi
  refine wpOp_step rfl (fun K hK => ?_)
  go_simp
  refine (result_c _ x r c C0.out A rd hd _).mono ?_
  rintro e w3 ⟨rfl, h3, o3⟩
  have hS3 : w3.cell? ⟨W.heap.size, 0, none⟩ = some (.int .i64 30) ∧ w3.cell? ⟨W.heap.size, 1, none⟩ = some (.int .i64 rd) ∧ w3.cell? ⟨W.heap.size, 4, none⟩ = some (.int .u32 imm) := by
    have bl : W.heap.size < w0.drew.heap.size := World.block_lt_of_cell? _ ⟨W.heap.size, 0, none⟩ hS.1
    have b3 := fun j => World.cell?_of_block (w := w0.drew) (a := ⟨W.heap.size, j, none⟩) (o3.block W.heap.size bl HL.out)
    exact ⟨(b3 0).trans hS.1, (b3 1).trans hS.2.1, (b3 4).trans hS.2.2⟩
  refine hK _ _ ⟨hS3, wpAnyH_done (by kernel_rfl) ?_ _⟩
  clear hK K
  go_wp2_with fail
  go_end0
  exact ⟨rfl, h3, O0.out.trans o3⟩
set_option maxHeartbeats 4000000 in
set_option maxRecDepth 100000 in
theorem cdo_31 (W : World) (x r : Nat) (c : CSt) (h : CodeAt W x r c) (A : x ≠ r) (C : Cok c) (rd r1 r2 : Nat) (imm : Int) (K : Iok rd r1 r2 imm) :
    Calls Tryz.prog 27 #[.pointer (some ⟨x, 0, none⟩), .agg #[.int .i64 31, .int .i64 rd, .int .i64 r1, .int .i64 r2, .int .u32 imm]] W fun e W' => e = .returned (.tuple #[]) ∧ CodeAt W' x r (resC c rd (aluV 31 (c.regs[r1]?.getD 0) (c.regs[r2]?.getD 0))) ∧ Offs [x, r] W W' := by
  have HF0 : Hid (∀ o, CodeAt (W.alloc o) x r c) := fun o => h.below ((Below.refl W.heap.size W).alloc (Nat.le_refl _) o) h.lt.1 h.lt.2
  have HF : Hid (∀ o q, CodeAt ((W.alloc o).drewN q) x r c) := fun o q => (HF0.out o).drawn q
  have hd := K.d
  have h1 := K.s
  have h2 := K.t
  have i0 := K.i0
  have i1 := K.i1
  have z := C.z
  have xa := C.x r1
  have xb := C.x r2
  have p0 := C.p0
  have p1 := C.p1
  have hd' : (rd : Int) < 32 := by omega
  have c1 := fun o => (HF0.out o).pc
  have f1 := fun o => (HF0.out o).fx
  have HZ : Hid (c.regs[0]?.getD 0 = 0) := z
  have HL : Hid (W.heap.size ∉ [x, r]) := fun hk => by have := h.lt; simp at hk; omega
  clear h z C
  go_enter Tryz.func27, Tryz.ntmps27
  go_wp2_with (first | (go_at_call 52; (first | (refine (reg_any _ x r c (HF0.out _) HZ.out _ (by omega)).mono ?_) | (refine (reg_any _ x r c (HF.out _ _) HZ.out _ (by omega)).mono ?_)); rintro e w' ⟨rfl, q, rfl⟩))
  generalize hw0 : World.drewN (W.alloc (Obj.cells #[.int .i64 31, .int .i64 rd, .int .i64 r1, .int .i64 r2, .int .u32 imm] 66)) _ = w0
  have C0 : Hid (CodeAt w0.drew x r c) := by rw [← hw0]; exact (HF.out _ _).drawn 1
  have O0 : Hid (Offs [x, r] W w0.drew) := by rw [← hw0]; exact (((Offs.refl _ _).new _).drawn _).drawn 1
  have hS : w0.drew.cell? ⟨W.heap.size, 0, none⟩ = some (.int .i64 31) ∧ w0.drew.cell? ⟨W.heap.size, 1, none⟩ = some (.int .i64 rd) ∧ w0.drew.cell? ⟨W.heap.size, 4, none⟩ = some (.int .u32 imm) := by
    rw [← hw0]
    have e := fun j => cell_of_row (W.alloc (Obj.cells #[.int .i64 31, .int .i64 rd, .int .i64 r1, .int .i64 r2, .int .u32 imm] 66)) W.heap.size j _ _ (0, 0) (heap_alloc_new W _)
    exact ⟨(e 0).trans rfl, (e 1).trans rfl, (e 4).trans rfl⟩
  clear hw0 c1 f1
  refine wp_region_held (S := fun w' => w'.cell? ⟨W.heap.size, 0, none⟩ = some (.int .i64 31) ∧ w'.cell? ⟨W.heap.size, 1, none⟩ = some (.int .i64 rd) ∧ w'.cell? ⟨W.heap.size, 4, none⟩ = some (.int .u32 imm)) (by kernel_rfl) ?_
  change wpAnyH _ _ _ _ _ _ _ _ (w0.drew)
  refine wpAnyH_take (i := 0) (v := .pointer (some ⟨x, 0, none⟩)) rfl (by kernel_rfl) (by kernel_rfl) (by kernel_rfl) (fun _ _ _ h => h) (Or.inl ⟨by kernel_rfl, fun w _ => by kernel_rfl⟩) hS ?_
  refine wpAnyH_take (i := 1) (v := .pointer (some ⟨W.heap.size, 1, none⟩)) rfl (by kernel_rfl) (by kernel_rfl) (by kernel_rfl) (fun _ _ _ h => h) (Or.inl ⟨by kernel_rfl, fun w _ => by kernel_rfl⟩) hS ?_
  refine wpAnyH_take (i := 2) (v := .int .i64 rd) rfl (by kernel_rfl) (by kernel_rfl) (by kernel_rfl) (fun _ _ _ h => h) (y_lvi (A := ⟨W.heap.size, 1, none⟩) rfl (by kernel_rfl) (by kernel_rfl) (fun w h => h.2.1)) hS ?_
  refine wpAnyH_take (i := 3) (v := .pointer (some ⟨W.heap.size, 0, none⟩)) rfl (by kernel_rfl) (by kernel_rfl) (by kernel_rfl) (fun _ _ _ h => h) (Or.inl ⟨by kernel_rfl, fun w _ => by kernel_rfl⟩) hS ?_
  refine wpAnyH_take (i := 4) (v := .int .i64 31) rfl (by kernel_rfl) (by kernel_rfl) (by kernel_rfl) (fun _ _ _ h => h) (y_lvi (A := ⟨W.heap.size, 0, none⟩) rfl (by kernel_rfl) (by kernel_rfl) (fun w h => h.1)) hS ?_
  refine wpAnyH_take (i := 5) (v := .int .u32 (c.regs[r1]?.getD 0)) rfl (by kernel_rfl) (by kernel_rfl) (by kernel_rfl) (fun _ _ _ h => h) (Or.inl ⟨by kernel_rfl, fun w _ => by kernel_rfl⟩) hS ?_
  refine wpAnyH_take (i := 6) (v := .int .u32 (c.regs[r2]?.getD 0)) rfl (by kernel_rfl) (by kernel_rfl) (by kernel_rfl) (fun _ _ _ h => h) (Or.inl ⟨by kernel_rfl, fun w _ => by kernel_rfl⟩) hS ?_
  refine wpAnyH_all (rs := [7]) (by kernel_rfl) (by simp) fun i hi => ?_
  obtain rfl : i = 7 := by simpa using hi
  refine wpOp_step rfl (fun K hK => ?_)
  go_simp
  refine (result_any _ 31 _ _ ⟨by decide, by decide⟩ xa.1 xa.2 xb.1 xb.2).mono ?_
  rintro e w' ⟨rfl, hw⟩
  rw [hw]
  clear hw w'
  refine hK _ _ ⟨hS, ?_⟩
  clear hK K
  refine wpAnyH_all (rs := [8]) (by kernel_rfl) (by simp) fun i hi => ?_
  obtain rfl : i = 8 := by simpa using hi
  refine wpOp_step rfl (fun K hK => ?_)
  go_simp
  refine (result_c _ x r c C0.out A rd hd _).mono ?_
  rintro e w3 ⟨rfl, h3, o3⟩
  have hS3 : w3.cell? ⟨W.heap.size, 0, none⟩ = some (.int .i64 31) ∧ w3.cell? ⟨W.heap.size, 1, none⟩ = some (.int .i64 rd) ∧ w3.cell? ⟨W.heap.size, 4, none⟩ = some (.int .u32 imm) := by
    have bl : W.heap.size < w0.drew.heap.size := World.block_lt_of_cell? _ ⟨W.heap.size, 0, none⟩ hS.1
    have b3 := fun j => World.cell?_of_block (w := w0.drew) (a := ⟨W.heap.size, j, none⟩) (o3.block W.heap.size bl HL.out)
    exact ⟨(b3 0).trans hS.1, (b3 1).trans hS.2.1, (b3 4).trans hS.2.2⟩
  refine hK _ _ ⟨hS3, wpAnyH_done (by kernel_rfl) ?_ _⟩
  clear hK K
  go_wp2_with fail
  go_end0
  exact ⟨rfl, h3, O0.out.trans o3⟩
set_option maxHeartbeats 4000000 in
set_option maxRecDepth 100000 in
theorem cdo_32 (W : World) (x r : Nat) (c : CSt) (h : CodeAt W x r c) (A : x ≠ r) (C : Cok c) (rd r1 r2 : Nat) (imm : Int) (K : Iok rd r1 r2 imm) :
    Calls Tryz.prog 27 #[.pointer (some ⟨x, 0, none⟩), .agg #[.int .i64 32, .int .i64 rd, .int .i64 r1, .int .i64 r2, .int .u32 imm]] W fun e W' => e = .returned (.tuple #[]) ∧ CodeAt W' x r (resC c rd (aluV 32 (c.regs[r1]?.getD 0) (c.regs[r2]?.getD 0))) ∧ Offs [x, r] W W' := by
  have HF0 : Hid (∀ o, CodeAt (W.alloc o) x r c) := fun o => h.below ((Below.refl W.heap.size W).alloc (Nat.le_refl _) o) h.lt.1 h.lt.2
  have HF : Hid (∀ o q, CodeAt ((W.alloc o).drewN q) x r c) := fun o q => (HF0.out o).drawn q
  have hd := K.d
  have h1 := K.s
  have h2 := K.t
  have i0 := K.i0
  have i1 := K.i1
  have z := C.z
  have xa := C.x r1
  have xb := C.x r2
  have p0 := C.p0
  have p1 := C.p1
  have hd' : (rd : Int) < 32 := by omega
  have c1 := fun o => (HF0.out o).pc
  have f1 := fun o => (HF0.out o).fx
  have HZ : Hid (c.regs[0]?.getD 0 = 0) := z
  have HL : Hid (W.heap.size ∉ [x, r]) := fun hk => by have := h.lt; simp at hk; omega
  clear h z C
  go_enter Tryz.func27, Tryz.ntmps27
  go_wp2_with (first | (go_at_call 52; (first | (refine (reg_any _ x r c (HF0.out _) HZ.out _ (by omega)).mono ?_) | (refine (reg_any _ x r c (HF.out _ _) HZ.out _ (by omega)).mono ?_)); rintro e w' ⟨rfl, q, rfl⟩))
  generalize hw0 : World.drewN (W.alloc (Obj.cells #[.int .i64 32, .int .i64 rd, .int .i64 r1, .int .i64 r2, .int .u32 imm] 66)) _ = w0
  have C0 : Hid (CodeAt w0.drew x r c) := by rw [← hw0]; exact (HF.out _ _).drawn 1
  have O0 : Hid (Offs [x, r] W w0.drew) := by rw [← hw0]; exact (((Offs.refl _ _).new _).drawn _).drawn 1
  have hS : w0.drew.cell? ⟨W.heap.size, 0, none⟩ = some (.int .i64 32) ∧ w0.drew.cell? ⟨W.heap.size, 1, none⟩ = some (.int .i64 rd) ∧ w0.drew.cell? ⟨W.heap.size, 4, none⟩ = some (.int .u32 imm) := by
    rw [← hw0]
    have e := fun j => cell_of_row (W.alloc (Obj.cells #[.int .i64 32, .int .i64 rd, .int .i64 r1, .int .i64 r2, .int .u32 imm] 66)) W.heap.size j _ _ (0, 0) (heap_alloc_new W _)
    exact ⟨(e 0).trans rfl, (e 1).trans rfl, (e 4).trans rfl⟩
  clear hw0 c1 f1
  refine wp_region_held (S := fun w' => w'.cell? ⟨W.heap.size, 0, none⟩ = some (.int .i64 32) ∧ w'.cell? ⟨W.heap.size, 1, none⟩ = some (.int .i64 rd) ∧ w'.cell? ⟨W.heap.size, 4, none⟩ = some (.int .u32 imm)) (by kernel_rfl) ?_
  change wpAnyH _ _ _ _ _ _ _ _ (w0.drew)
  refine wpAnyH_take (i := 0) (v := .pointer (some ⟨x, 0, none⟩)) rfl (by kernel_rfl) (by kernel_rfl) (by kernel_rfl) (fun _ _ _ h => h) (Or.inl ⟨by kernel_rfl, fun w _ => by kernel_rfl⟩) hS ?_
  refine wpAnyH_take (i := 1) (v := .pointer (some ⟨W.heap.size, 1, none⟩)) rfl (by kernel_rfl) (by kernel_rfl) (by kernel_rfl) (fun _ _ _ h => h) (Or.inl ⟨by kernel_rfl, fun w _ => by kernel_rfl⟩) hS ?_
  refine wpAnyH_take (i := 2) (v := .int .i64 rd) rfl (by kernel_rfl) (by kernel_rfl) (by kernel_rfl) (fun _ _ _ h => h) (y_lvi (A := ⟨W.heap.size, 1, none⟩) rfl (by kernel_rfl) (by kernel_rfl) (fun w h => h.2.1)) hS ?_
  refine wpAnyH_take (i := 3) (v := .pointer (some ⟨W.heap.size, 0, none⟩)) rfl (by kernel_rfl) (by kernel_rfl) (by kernel_rfl) (fun _ _ _ h => h) (Or.inl ⟨by kernel_rfl, fun w _ => by kernel_rfl⟩) hS ?_
  refine wpAnyH_take (i := 4) (v := .int .i64 32) rfl (by kernel_rfl) (by kernel_rfl) (by kernel_rfl) (fun _ _ _ h => h) (y_lvi (A := ⟨W.heap.size, 0, none⟩) rfl (by kernel_rfl) (by kernel_rfl) (fun w h => h.1)) hS ?_
  refine wpAnyH_take (i := 5) (v := .int .u32 (c.regs[r1]?.getD 0)) rfl (by kernel_rfl) (by kernel_rfl) (by kernel_rfl) (fun _ _ _ h => h) (Or.inl ⟨by kernel_rfl, fun w _ => by kernel_rfl⟩) hS ?_
  refine wpAnyH_take (i := 6) (v := .int .u32 (c.regs[r2]?.getD 0)) rfl (by kernel_rfl) (by kernel_rfl) (by kernel_rfl) (fun _ _ _ h => h) (Or.inl ⟨by kernel_rfl, fun w _ => by kernel_rfl⟩) hS ?_
  refine wpAnyH_all (rs := [7]) (by kernel_rfl) (by simp) fun i hi => ?_
  obtain rfl : i = 7 := by simpa using hi
  refine wpOp_step rfl (fun K hK => ?_)
  go_simp
  refine (result_any _ 32 _ _ ⟨by decide, by decide⟩ xa.1 xa.2 xb.1 xb.2).mono ?_
  rintro e w' ⟨rfl, hw⟩
  rw [hw]
  clear hw w'
  refine hK _ _ ⟨hS, ?_⟩
  clear hK K
  refine wpAnyH_all (rs := [8]) (by kernel_rfl) (by simp) fun i hi => ?_
  obtain rfl : i = 8 := by simpa using hi
  refine wpOp_step rfl (fun K hK => ?_)
  go_simp
  refine (result_c _ x r c C0.out A rd hd _).mono ?_
  rintro e w3 ⟨rfl, h3, o3⟩
  have hS3 : w3.cell? ⟨W.heap.size, 0, none⟩ = some (.int .i64 32) ∧ w3.cell? ⟨W.heap.size, 1, none⟩ = some (.int .i64 rd) ∧ w3.cell? ⟨W.heap.size, 4, none⟩ = some (.int .u32 imm) := by
    have bl : W.heap.size < w0.drew.heap.size := World.block_lt_of_cell? _ ⟨W.heap.size, 0, none⟩ hS.1
    have b3 := fun j => World.cell?_of_block (w := w0.drew) (a := ⟨W.heap.size, j, none⟩) (o3.block W.heap.size bl HL.out)
    exact ⟨(b3 0).trans hS.1, (b3 1).trans hS.2.1, (b3 4).trans hS.2.2⟩
  refine hK _ _ ⟨hS3, wpAnyH_done (by kernel_rfl) ?_ _⟩
  clear hK K
  go_wp2_with fail
  go_end0
  exact ⟨rfl, h3, O0.out.trans o3⟩
set_option maxHeartbeats 4000000 in
set_option maxRecDepth 100000 in
theorem cdo_33 (W : World) (x r : Nat) (c : CSt) (h : CodeAt W x r c) (A : x ≠ r) (C : Cok c) (rd r1 r2 : Nat) (imm : Int) (K : Iok rd r1 r2 imm) :
    Calls Tryz.prog 27 #[.pointer (some ⟨x, 0, none⟩), .agg #[.int .i64 33, .int .i64 rd, .int .i64 r1, .int .i64 r2, .int .u32 imm]] W fun e W' => e = .returned (.tuple #[]) ∧ CodeAt W' x r (resC c rd (aluV 33 (c.regs[r1]?.getD 0) (c.regs[r2]?.getD 0))) ∧ Offs [x, r] W W' := by
  have HF0 : Hid (∀ o, CodeAt (W.alloc o) x r c) := fun o => h.below ((Below.refl W.heap.size W).alloc (Nat.le_refl _) o) h.lt.1 h.lt.2
  have HF : Hid (∀ o q, CodeAt ((W.alloc o).drewN q) x r c) := fun o q => (HF0.out o).drawn q
  have hd := K.d
  have h1 := K.s
  have h2 := K.t
  have i0 := K.i0
  have i1 := K.i1
  have z := C.z
  have xa := C.x r1
  have xb := C.x r2
  have p0 := C.p0
  have p1 := C.p1
  have hd' : (rd : Int) < 32 := by omega
  have c1 := fun o => (HF0.out o).pc
  have f1 := fun o => (HF0.out o).fx
  have HZ : Hid (c.regs[0]?.getD 0 = 0) := z
  have HL : Hid (W.heap.size ∉ [x, r]) := fun hk => by have := h.lt; simp at hk; omega
  clear h z C
  go_enter Tryz.func27, Tryz.ntmps27
  go_wp2_with (first | (go_at_call 52; (first | (refine (reg_any _ x r c (HF0.out _) HZ.out _ (by omega)).mono ?_) | (refine (reg_any _ x r c (HF.out _ _) HZ.out _ (by omega)).mono ?_)); rintro e w' ⟨rfl, q, rfl⟩))
  generalize hw0 : World.drewN (W.alloc (Obj.cells #[.int .i64 33, .int .i64 rd, .int .i64 r1, .int .i64 r2, .int .u32 imm] 66)) _ = w0
  have C0 : Hid (CodeAt w0.drew x r c) := by rw [← hw0]; exact (HF.out _ _).drawn 1
  have O0 : Hid (Offs [x, r] W w0.drew) := by rw [← hw0]; exact (((Offs.refl _ _).new _).drawn _).drawn 1
  have hS : w0.drew.cell? ⟨W.heap.size, 0, none⟩ = some (.int .i64 33) ∧ w0.drew.cell? ⟨W.heap.size, 1, none⟩ = some (.int .i64 rd) ∧ w0.drew.cell? ⟨W.heap.size, 4, none⟩ = some (.int .u32 imm) := by
    rw [← hw0]
    have e := fun j => cell_of_row (W.alloc (Obj.cells #[.int .i64 33, .int .i64 rd, .int .i64 r1, .int .i64 r2, .int .u32 imm] 66)) W.heap.size j _ _ (0, 0) (heap_alloc_new W _)
    exact ⟨(e 0).trans rfl, (e 1).trans rfl, (e 4).trans rfl⟩
  clear hw0 c1 f1
  refine wp_region_held (S := fun w' => w'.cell? ⟨W.heap.size, 0, none⟩ = some (.int .i64 33) ∧ w'.cell? ⟨W.heap.size, 1, none⟩ = some (.int .i64 rd) ∧ w'.cell? ⟨W.heap.size, 4, none⟩ = some (.int .u32 imm)) (by kernel_rfl) ?_
  change wpAnyH _ _ _ _ _ _ _ _ (w0.drew)
  refine wpAnyH_take (i := 0) (v := .pointer (some ⟨x, 0, none⟩)) rfl (by kernel_rfl) (by kernel_rfl) (by kernel_rfl) (fun _ _ _ h => h) (Or.inl ⟨by kernel_rfl, fun w _ => by kernel_rfl⟩) hS ?_
  refine wpAnyH_take (i := 1) (v := .pointer (some ⟨W.heap.size, 1, none⟩)) rfl (by kernel_rfl) (by kernel_rfl) (by kernel_rfl) (fun _ _ _ h => h) (Or.inl ⟨by kernel_rfl, fun w _ => by kernel_rfl⟩) hS ?_
  refine wpAnyH_take (i := 2) (v := .int .i64 rd) rfl (by kernel_rfl) (by kernel_rfl) (by kernel_rfl) (fun _ _ _ h => h) (y_lvi (A := ⟨W.heap.size, 1, none⟩) rfl (by kernel_rfl) (by kernel_rfl) (fun w h => h.2.1)) hS ?_
  refine wpAnyH_take (i := 3) (v := .pointer (some ⟨W.heap.size, 0, none⟩)) rfl (by kernel_rfl) (by kernel_rfl) (by kernel_rfl) (fun _ _ _ h => h) (Or.inl ⟨by kernel_rfl, fun w _ => by kernel_rfl⟩) hS ?_
  refine wpAnyH_take (i := 4) (v := .int .i64 33) rfl (by kernel_rfl) (by kernel_rfl) (by kernel_rfl) (fun _ _ _ h => h) (y_lvi (A := ⟨W.heap.size, 0, none⟩) rfl (by kernel_rfl) (by kernel_rfl) (fun w h => h.1)) hS ?_
  refine wpAnyH_take (i := 5) (v := .int .u32 (c.regs[r1]?.getD 0)) rfl (by kernel_rfl) (by kernel_rfl) (by kernel_rfl) (fun _ _ _ h => h) (Or.inl ⟨by kernel_rfl, fun w _ => by kernel_rfl⟩) hS ?_
  refine wpAnyH_take (i := 6) (v := .int .u32 (c.regs[r2]?.getD 0)) rfl (by kernel_rfl) (by kernel_rfl) (by kernel_rfl) (fun _ _ _ h => h) (Or.inl ⟨by kernel_rfl, fun w _ => by kernel_rfl⟩) hS ?_
  refine wpAnyH_all (rs := [7]) (by kernel_rfl) (by simp) fun i hi => ?_
  obtain rfl : i = 7 := by simpa using hi
  refine wpOp_step rfl (fun K hK => ?_)
  go_simp
  refine (result_any _ 33 _ _ ⟨by decide, by decide⟩ xa.1 xa.2 xb.1 xb.2).mono ?_
  rintro e w' ⟨rfl, hw⟩
  rw [hw]
  clear hw w'
  refine hK _ _ ⟨hS, ?_⟩
  clear hK K
  refine wpAnyH_all (rs := [8]) (by kernel_rfl) (by simp) fun i hi => ?_
  obtain rfl : i = 8 := by simpa using hi
  refine wpOp_step rfl (fun K hK => ?_)
  go_simp
  refine (result_c _ x r c C0.out A rd hd _).mono ?_
  rintro e w3 ⟨rfl, h3, o3⟩
  have hS3 : w3.cell? ⟨W.heap.size, 0, none⟩ = some (.int .i64 33) ∧ w3.cell? ⟨W.heap.size, 1, none⟩ = some (.int .i64 rd) ∧ w3.cell? ⟨W.heap.size, 4, none⟩ = some (.int .u32 imm) := by
    have bl : W.heap.size < w0.drew.heap.size := World.block_lt_of_cell? _ ⟨W.heap.size, 0, none⟩ hS.1
    have b3 := fun j => World.cell?_of_block (w := w0.drew) (a := ⟨W.heap.size, j, none⟩) (o3.block W.heap.size bl HL.out)
    exact ⟨(b3 0).trans hS.1, (b3 1).trans hS.2.1, (b3 4).trans hS.2.2⟩
  refine hK _ _ ⟨hS3, wpAnyH_done (by kernel_rfl) ?_ _⟩
  clear hK K
  go_wp2_with fail
  go_end0
  exact ⟨rfl, h3, O0.out.trans o3⟩
set_option maxHeartbeats 4000000 in
set_option maxRecDepth 100000 in
theorem cdo_34 (W : World) (x r : Nat) (c : CSt) (h : CodeAt W x r c) (A : x ≠ r) (C : Cok c) (rd r1 r2 : Nat) (imm : Int) (K : Iok rd r1 r2 imm) :
    Calls Tryz.prog 27 #[.pointer (some ⟨x, 0, none⟩), .agg #[.int .i64 34, .int .i64 rd, .int .i64 r1, .int .i64 r2, .int .u32 imm]] W fun e W' => e = .returned (.tuple #[]) ∧ CodeAt W' x r (resC c rd (aluV 34 (c.regs[r1]?.getD 0) (c.regs[r2]?.getD 0))) ∧ Offs [x, r] W W' := by
  have HF0 : Hid (∀ o, CodeAt (W.alloc o) x r c) := fun o => h.below ((Below.refl W.heap.size W).alloc (Nat.le_refl _) o) h.lt.1 h.lt.2
  have HF : Hid (∀ o q, CodeAt ((W.alloc o).drewN q) x r c) := fun o q => (HF0.out o).drawn q
  have hd := K.d
  have h1 := K.s
  have h2 := K.t
  have i0 := K.i0
  have i1 := K.i1
  have z := C.z
  have xa := C.x r1
  have xb := C.x r2
  have p0 := C.p0
  have p1 := C.p1
  have hd' : (rd : Int) < 32 := by omega
  have c1 := fun o => (HF0.out o).pc
  have f1 := fun o => (HF0.out o).fx
  have HZ : Hid (c.regs[0]?.getD 0 = 0) := z
  have HL : Hid (W.heap.size ∉ [x, r]) := fun hk => by have := h.lt; simp at hk; omega
  clear h z C
  go_enter Tryz.func27, Tryz.ntmps27
  go_wp2_with (first | (go_at_call 52; (first | (refine (reg_any _ x r c (HF0.out _) HZ.out _ (by omega)).mono ?_) | (refine (reg_any _ x r c (HF.out _ _) HZ.out _ (by omega)).mono ?_)); rintro e w' ⟨rfl, q, rfl⟩))
  generalize hw0 : World.drewN (W.alloc (Obj.cells #[.int .i64 34, .int .i64 rd, .int .i64 r1, .int .i64 r2, .int .u32 imm] 66)) _ = w0
  have C0 : Hid (CodeAt w0.drew x r c) := by rw [← hw0]; exact (HF.out _ _).drawn 1
  have O0 : Hid (Offs [x, r] W w0.drew) := by rw [← hw0]; exact (((Offs.refl _ _).new _).drawn _).drawn 1
  have hS : w0.drew.cell? ⟨W.heap.size, 0, none⟩ = some (.int .i64 34) ∧ w0.drew.cell? ⟨W.heap.size, 1, none⟩ = some (.int .i64 rd) ∧ w0.drew.cell? ⟨W.heap.size, 4, none⟩ = some (.int .u32 imm) := by
    rw [← hw0]
    have e := fun j => cell_of_row (W.alloc (Obj.cells #[.int .i64 34, .int .i64 rd, .int .i64 r1, .int .i64 r2, .int .u32 imm] 66)) W.heap.size j _ _ (0, 0) (heap_alloc_new W _)
    exact ⟨(e 0).trans rfl, (e 1).trans rfl, (e 4).trans rfl⟩
  clear hw0 c1 f1
  refine wp_region_held (S := fun w' => w'.cell? ⟨W.heap.size, 0, none⟩ = some (.int .i64 34) ∧ w'.cell? ⟨W.heap.size, 1, none⟩ = some (.int .i64 rd) ∧ w'.cell? ⟨W.heap.size, 4, none⟩ = some (.int .u32 imm)) (by kernel_rfl) ?_
  change wpAnyH _ _ _ _ _ _ _ _ (w0.drew)
  refine wpAnyH_take (i := 0) (v := .pointer (some ⟨x, 0, none⟩)) rfl (by kernel_rfl) (by kernel_rfl) (by kernel_rfl) (fun _ _ _ h => h) (Or.inl ⟨by kernel_rfl, fun w _ => by kernel_rfl⟩) hS ?_
  refine wpAnyH_take (i := 1) (v := .pointer (some ⟨W.heap.size, 1, none⟩)) rfl (by kernel_rfl) (by kernel_rfl) (by kernel_rfl) (fun _ _ _ h => h) (Or.inl ⟨by kernel_rfl, fun w _ => by kernel_rfl⟩) hS ?_
  refine wpAnyH_take (i := 2) (v := .int .i64 rd) rfl (by kernel_rfl) (by kernel_rfl) (by kernel_rfl) (fun _ _ _ h => h) (y_lvi (A := ⟨W.heap.size, 1, none⟩) rfl (by kernel_rfl) (by kernel_rfl) (fun w h => h.2.1)) hS ?_
  refine wpAnyH_take (i := 3) (v := .pointer (some ⟨W.heap.size, 0, none⟩)) rfl (by kernel_rfl) (by kernel_rfl) (by kernel_rfl) (fun _ _ _ h => h) (Or.inl ⟨by kernel_rfl, fun w _ => by kernel_rfl⟩) hS ?_
  refine wpAnyH_take (i := 4) (v := .int .i64 34) rfl (by kernel_rfl) (by kernel_rfl) (by kernel_rfl) (fun _ _ _ h => h) (y_lvi (A := ⟨W.heap.size, 0, none⟩) rfl (by kernel_rfl) (by kernel_rfl) (fun w h => h.1)) hS ?_
  refine wpAnyH_take (i := 5) (v := .int .u32 (c.regs[r1]?.getD 0)) rfl (by kernel_rfl) (by kernel_rfl) (by kernel_rfl) (fun _ _ _ h => h) (Or.inl ⟨by kernel_rfl, fun w _ => by kernel_rfl⟩) hS ?_
  refine wpAnyH_take (i := 6) (v := .int .u32 (c.regs[r2]?.getD 0)) rfl (by kernel_rfl) (by kernel_rfl) (by kernel_rfl) (fun _ _ _ h => h) (Or.inl ⟨by kernel_rfl, fun w _ => by kernel_rfl⟩) hS ?_
  refine wpAnyH_all (rs := [7]) (by kernel_rfl) (by simp) fun i hi => ?_
  obtain rfl : i = 7 := by simpa using hi
  refine wpOp_step rfl (fun K hK => ?_)
  go_simp
  refine (result_any _ 34 _ _ ⟨by decide, by decide⟩ xa.1 xa.2 xb.1 xb.2).mono ?_
  rintro e w' ⟨rfl, hw⟩
  rw [hw]
  clear hw w'
  refine hK _ _ ⟨hS, ?_⟩
  clear hK K
  refine wpAnyH_all (rs := [8]) (by kernel_rfl) (by simp) fun i hi => ?_
  obtain rfl : i = 8 := by simpa using hi
  refine wpOp_step rfl (fun K hK => ?_)
  go_simp
  refine (result_c _ x r c C0.out A rd hd _).mono ?_
  rintro e w3 ⟨rfl, h3, o3⟩
  have hS3 : w3.cell? ⟨W.heap.size, 0, none⟩ = some (.int .i64 34) ∧ w3.cell? ⟨W.heap.size, 1, none⟩ = some (.int .i64 rd) ∧ w3.cell? ⟨W.heap.size, 4, none⟩ = some (.int .u32 imm) := by
    have bl : W.heap.size < w0.drew.heap.size := World.block_lt_of_cell? _ ⟨W.heap.size, 0, none⟩ hS.1
    have b3 := fun j => World.cell?_of_block (w := w0.drew) (a := ⟨W.heap.size, j, none⟩) (o3.block W.heap.size bl HL.out)
    exact ⟨(b3 0).trans hS.1, (b3 1).trans hS.2.1, (b3 4).trans hS.2.2⟩
  refine hK _ _ ⟨hS3, wpAnyH_done (by kernel_rfl) ?_ _⟩
  clear hK K
  go_wp2_with fail
  go_end0
  exact ⟨rfl, h3, O0.out.trans o3⟩
set_option maxHeartbeats 4000000 in
set_option maxRecDepth 100000 in
theorem cdo_35 (W : World) (x r : Nat) (c : CSt) (h : CodeAt W x r c) (A : x ≠ r) (C : Cok c) (rd r1 r2 : Nat) (imm : Int) (K : Iok rd r1 r2 imm) :
    Calls Tryz.prog 27 #[.pointer (some ⟨x, 0, none⟩), .agg #[.int .i64 35, .int .i64 rd, .int .i64 r1, .int .i64 r2, .int .u32 imm]] W fun e W' => e = .returned (.tuple #[]) ∧ CodeAt W' x r (resC c rd (aluV 35 (c.regs[r1]?.getD 0) (c.regs[r2]?.getD 0))) ∧ Offs [x, r] W W' := by
  have HF0 : Hid (∀ o, CodeAt (W.alloc o) x r c) := fun o => h.below ((Below.refl W.heap.size W).alloc (Nat.le_refl _) o) h.lt.1 h.lt.2
  have HF : Hid (∀ o q, CodeAt ((W.alloc o).drewN q) x r c) := fun o q => (HF0.out o).drawn q
  have hd := K.d
  have h1 := K.s
  have h2 := K.t
  have i0 := K.i0
  have i1 := K.i1
  have z := C.z
  have xa := C.x r1
  have xb := C.x r2
  have p0 := C.p0
  have p1 := C.p1
  have hd' : (rd : Int) < 32 := by omega
  have c1 := fun o => (HF0.out o).pc
  have f1 := fun o => (HF0.out o).fx
  have HZ : Hid (c.regs[0]?.getD 0 = 0) := z
  have HL : Hid (W.heap.size ∉ [x, r]) := fun hk => by have := h.lt; simp at hk; omega
  clear h z C
  go_enter Tryz.func27, Tryz.ntmps27
  go_wp2_with (first | (go_at_call 52; (first | (refine (reg_any _ x r c (HF0.out _) HZ.out _ (by omega)).mono ?_) | (refine (reg_any _ x r c (HF.out _ _) HZ.out _ (by omega)).mono ?_)); rintro e w' ⟨rfl, q, rfl⟩))
  generalize hw0 : World.drewN (W.alloc (Obj.cells #[.int .i64 35, .int .i64 rd, .int .i64 r1, .int .i64 r2, .int .u32 imm] 66)) _ = w0
  have C0 : Hid (CodeAt w0.drew x r c) := by rw [← hw0]; exact (HF.out _ _).drawn 1
  have O0 : Hid (Offs [x, r] W w0.drew) := by rw [← hw0]; exact (((Offs.refl _ _).new _).drawn _).drawn 1
  have hS : w0.drew.cell? ⟨W.heap.size, 0, none⟩ = some (.int .i64 35) ∧ w0.drew.cell? ⟨W.heap.size, 1, none⟩ = some (.int .i64 rd) ∧ w0.drew.cell? ⟨W.heap.size, 4, none⟩ = some (.int .u32 imm) := by
    rw [← hw0]
    have e := fun j => cell_of_row (W.alloc (Obj.cells #[.int .i64 35, .int .i64 rd, .int .i64 r1, .int .i64 r2, .int .u32 imm] 66)) W.heap.size j _ _ (0, 0) (heap_alloc_new W _)
    exact ⟨(e 0).trans rfl, (e 1).trans rfl, (e 4).trans rfl⟩
  clear hw0 c1 f1
  refine wp_region_held (S := fun w' => w'.cell? ⟨W.heap.size, 0, none⟩ = some (.int .i64 35) ∧ w'.cell? ⟨W.heap.size, 1, none⟩ = some (.int .i64 rd) ∧ w'.cell? ⟨W.heap.size, 4, none⟩ = some (.int .u32 imm)) (by kernel_rfl) ?_
  change wpAnyH _ _ _ _ _ _ _ _ (w0.drew)
  refine wpAnyH_take (i := 0) (v := .pointer (some ⟨x, 0, none⟩)) rfl (by kernel_rfl) (by kernel_rfl) (by kernel_rfl) (fun _ _ _ h => h) (Or.inl ⟨by kernel_rfl, fun w _ => by kernel_rfl⟩) hS ?_
  refine wpAnyH_take (i := 1) (v := .pointer (some ⟨W.heap.size, 1, none⟩)) rfl (by kernel_rfl) (by kernel_rfl) (by kernel_rfl) (fun _ _ _ h => h) (Or.inl ⟨by kernel_rfl, fun w _ => by kernel_rfl⟩) hS ?_
  refine wpAnyH_take (i := 2) (v := .int .i64 rd) rfl (by kernel_rfl) (by kernel_rfl) (by kernel_rfl) (fun _ _ _ h => h) (y_lvi (A := ⟨W.heap.size, 1, none⟩) rfl (by kernel_rfl) (by kernel_rfl) (fun w h => h.2.1)) hS ?_
  refine wpAnyH_take (i := 3) (v := .pointer (some ⟨W.heap.size, 0, none⟩)) rfl (by kernel_rfl) (by kernel_rfl) (by kernel_rfl) (fun _ _ _ h => h) (Or.inl ⟨by kernel_rfl, fun w _ => by kernel_rfl⟩) hS ?_
  refine wpAnyH_take (i := 4) (v := .int .i64 35) rfl (by kernel_rfl) (by kernel_rfl) (by kernel_rfl) (fun _ _ _ h => h) (y_lvi (A := ⟨W.heap.size, 0, none⟩) rfl (by kernel_rfl) (by kernel_rfl) (fun w h => h.1)) hS ?_
  refine wpAnyH_take (i := 5) (v := .int .u32 (c.regs[r1]?.getD 0)) rfl (by kernel_rfl) (by kernel_rfl) (by kernel_rfl) (fun _ _ _ h => h) (Or.inl ⟨by kernel_rfl, fun w _ => by kernel_rfl⟩) hS ?_
  refine wpAnyH_take (i := 6) (v := .int .u32 (c.regs[r2]?.getD 0)) rfl (by kernel_rfl) (by kernel_rfl) (by kernel_rfl) (fun _ _ _ h => h) (Or.inl ⟨by kernel_rfl, fun w _ => by kernel_rfl⟩) hS ?_
  refine wpAnyH_all (rs := [7]) (by kernel_rfl) (by simp) fun i hi => ?_
  obtain rfl : i = 7 := by simpa using hi
  refine wpOp_step rfl (fun K hK => ?_)
  go_simp
  refine (result_any _ 35 _ _ ⟨by decide, by decide⟩ xa.1 xa.2 xb.1 xb.2).mono ?_
  rintro e w' ⟨rfl, hw⟩
  rw [hw]
  clear hw w'
  refine hK _ _ ⟨hS, ?_⟩
  clear hK K
  refine wpAnyH_all (rs := [8]) (by kernel_rfl) (by simp) fun i hi => ?_
  obtain rfl : i = 8 := by simpa using hi
  refine wpOp_step rfl (fun K hK => ?_)
  go_simp
  refine (result_c _ x r c C0.out A rd hd _).mono ?_
  rintro e w3 ⟨rfl, h3, o3⟩
  have hS3 : w3.cell? ⟨W.heap.size, 0, none⟩ = some (.int .i64 35) ∧ w3.cell? ⟨W.heap.size, 1, none⟩ = some (.int .i64 rd) ∧ w3.cell? ⟨W.heap.size, 4, none⟩ = some (.int .u32 imm) := by
    have bl : W.heap.size < w0.drew.heap.size := World.block_lt_of_cell? _ ⟨W.heap.size, 0, none⟩ hS.1
    have b3 := fun j => World.cell?_of_block (w := w0.drew) (a := ⟨W.heap.size, j, none⟩) (o3.block W.heap.size bl HL.out)
    exact ⟨(b3 0).trans hS.1, (b3 1).trans hS.2.1, (b3 4).trans hS.2.2⟩
  refine hK _ _ ⟨hS3, wpAnyH_done (by kernel_rfl) ?_ _⟩
  clear hK K
  go_wp2_with fail
  go_end0
  exact ⟨rfl, h3, O0.out.trans o3⟩
set_option maxHeartbeats 4000000 in
set_option maxRecDepth 100000 in
theorem cdo_36 (W : World) (x r : Nat) (c : CSt) (h : CodeAt W x r c) (A : x ≠ r) (C : Cok c) (rd r1 r2 : Nat) (imm : Int) (K : Iok rd r1 r2 imm) :
    Calls Tryz.prog 27 #[.pointer (some ⟨x, 0, none⟩), .agg #[.int .i64 36, .int .i64 rd, .int .i64 r1, .int .i64 r2, .int .u32 imm]] W fun e W' => e = .returned (.tuple #[]) ∧ CodeAt W' x r (resC c rd (aluV 36 (c.regs[r1]?.getD 0) (c.regs[r2]?.getD 0))) ∧ Offs [x, r] W W' := by
  have HF0 : Hid (∀ o, CodeAt (W.alloc o) x r c) := fun o => h.below ((Below.refl W.heap.size W).alloc (Nat.le_refl _) o) h.lt.1 h.lt.2
  have HF : Hid (∀ o q, CodeAt ((W.alloc o).drewN q) x r c) := fun o q => (HF0.out o).drawn q
  have hd := K.d
  have h1 := K.s
  have h2 := K.t
  have i0 := K.i0
  have i1 := K.i1
  have z := C.z
  have xa := C.x r1
  have xb := C.x r2
  have p0 := C.p0
  have p1 := C.p1
  have hd' : (rd : Int) < 32 := by omega
  have c1 := fun o => (HF0.out o).pc
  have f1 := fun o => (HF0.out o).fx
  have HZ : Hid (c.regs[0]?.getD 0 = 0) := z
  have HL : Hid (W.heap.size ∉ [x, r]) := fun hk => by have := h.lt; simp at hk; omega
  clear h z C
  go_enter Tryz.func27, Tryz.ntmps27
  go_wp2_with (first | (go_at_call 52; (first | (refine (reg_any _ x r c (HF0.out _) HZ.out _ (by omega)).mono ?_) | (refine (reg_any _ x r c (HF.out _ _) HZ.out _ (by omega)).mono ?_)); rintro e w' ⟨rfl, q, rfl⟩))
  generalize hw0 : World.drewN (W.alloc (Obj.cells #[.int .i64 36, .int .i64 rd, .int .i64 r1, .int .i64 r2, .int .u32 imm] 66)) _ = w0
  have C0 : Hid (CodeAt w0.drew x r c) := by rw [← hw0]; exact (HF.out _ _).drawn 1
  have O0 : Hid (Offs [x, r] W w0.drew) := by rw [← hw0]; exact (((Offs.refl _ _).new _).drawn _).drawn 1
  have hS : w0.drew.cell? ⟨W.heap.size, 0, none⟩ = some (.int .i64 36) ∧ w0.drew.cell? ⟨W.heap.size, 1, none⟩ = some (.int .i64 rd) ∧ w0.drew.cell? ⟨W.heap.size, 4, none⟩ = some (.int .u32 imm) := by
    rw [← hw0]
    have e := fun j => cell_of_row (W.alloc (Obj.cells #[.int .i64 36, .int .i64 rd, .int .i64 r1, .int .i64 r2, .int .u32 imm] 66)) W.heap.size j _ _ (0, 0) (heap_alloc_new W _)
    exact ⟨(e 0).trans rfl, (e 1).trans rfl, (e 4).trans rfl⟩
  clear hw0 c1 f1
  refine wp_region_held (S := fun w' => w'.cell? ⟨W.heap.size, 0, none⟩ = some (.int .i64 36) ∧ w'.cell? ⟨W.heap.size, 1, none⟩ = some (.int .i64 rd) ∧ w'.cell? ⟨W.heap.size, 4, none⟩ = some (.int .u32 imm)) (by kernel_rfl) ?_
  change wpAnyH _ _ _ _ _ _ _ _ (w0.drew)
  refine wpAnyH_take (i := 0) (v := .pointer (some ⟨x, 0, none⟩)) rfl (by kernel_rfl) (by kernel_rfl) (by kernel_rfl) (fun _ _ _ h => h) (Or.inl ⟨by kernel_rfl, fun w _ => by kernel_rfl⟩) hS ?_
  refine wpAnyH_take (i := 1) (v := .pointer (some ⟨W.heap.size, 1, none⟩)) rfl (by kernel_rfl) (by kernel_rfl) (by kernel_rfl) (fun _ _ _ h => h) (Or.inl ⟨by kernel_rfl, fun w _ => by kernel_rfl⟩) hS ?_
  refine wpAnyH_take (i := 2) (v := .int .i64 rd) rfl (by kernel_rfl) (by kernel_rfl) (by kernel_rfl) (fun _ _ _ h => h) (y_lvi (A := ⟨W.heap.size, 1, none⟩) rfl (by kernel_rfl) (by kernel_rfl) (fun w h => h.2.1)) hS ?_
  refine wpAnyH_take (i := 3) (v := .pointer (some ⟨W.heap.size, 0, none⟩)) rfl (by kernel_rfl) (by kernel_rfl) (by kernel_rfl) (fun _ _ _ h => h) (Or.inl ⟨by kernel_rfl, fun w _ => by kernel_rfl⟩) hS ?_
  refine wpAnyH_take (i := 4) (v := .int .i64 36) rfl (by kernel_rfl) (by kernel_rfl) (by kernel_rfl) (fun _ _ _ h => h) (y_lvi (A := ⟨W.heap.size, 0, none⟩) rfl (by kernel_rfl) (by kernel_rfl) (fun w h => h.1)) hS ?_
  refine wpAnyH_take (i := 5) (v := .int .u32 (c.regs[r1]?.getD 0)) rfl (by kernel_rfl) (by kernel_rfl) (by kernel_rfl) (fun _ _ _ h => h) (Or.inl ⟨by kernel_rfl, fun w _ => by kernel_rfl⟩) hS ?_
  refine wpAnyH_take (i := 6) (v := .int .u32 (c.regs[r2]?.getD 0)) rfl (by kernel_rfl) (by kernel_rfl) (by kernel_rfl) (fun _ _ _ h => h) (Or.inl ⟨by kernel_rfl, fun w _ => by kernel_rfl⟩) hS ?_
  refine wpAnyH_all (rs := [7]) (by kernel_rfl) (by simp) fun i hi => ?_
  obtain rfl : i = 7 := by simpa using hi
  refine wpOp_step rfl (fun K hK => ?_)
  go_simp
  refine (result_any _ 36 _ _ ⟨by decide, by decide⟩ xa.1 xa.2 xb.1 xb.2).mono ?_
  rintro e w' ⟨rfl, hw⟩
  rw [hw]
  clear hw w'
  refine hK _ _ ⟨hS, ?_⟩
  clear hK K
  refine wpAnyH_all (rs := [8]) (by kernel_rfl) (by simp) fun i hi => ?_
  obtain rfl : i = 8 := by simpa using hi
  refine wpOp_step rfl (fun K hK => ?_)
  go_simp
  refine (result_c _ x r c C0.out A rd hd _).mono ?_
  rintro e w3 ⟨rfl, h3, o3⟩
  have hS3 : w3.cell? ⟨W.heap.size, 0, none⟩ = some (.int .i64 36) ∧ w3.cell? ⟨W.heap.size, 1, none⟩ = some (.int .i64 rd) ∧ w3.cell? ⟨W.heap.size, 4, none⟩ = some (.int .u32 imm) := by
    have bl : W.heap.size < w0.drew.heap.size := World.block_lt_of_cell? _ ⟨W.heap.size, 0, none⟩ hS.1
    have b3 := fun j => World.cell?_of_block (w := w0.drew) (a := ⟨W.heap.size, j, none⟩) (o3.block W.heap.size bl HL.out)
    exact ⟨(b3 0).trans hS.1, (b3 1).trans hS.2.1, (b3 4).trans hS.2.2⟩
  refine hK _ _ ⟨hS3, wpAnyH_done (by kernel_rfl) ?_ _⟩
  clear hK K
  go_wp2_with fail
  go_end0
  exact ⟨rfl, h3, O0.out.trans o3⟩
set_option maxHeartbeats 4000000 in
set_option maxRecDepth 100000 in
theorem cdo_37 (W : World) (x r : Nat) (c : CSt) (h : CodeAt W x r c) (A : x ≠ r) (C : Cok c) (rd r1 r2 : Nat) (imm : Int) (K : Iok rd r1 r2 imm) :
    Calls Tryz.prog 27 #[.pointer (some ⟨x, 0, none⟩), .agg #[.int .i64 37, .int .i64 rd, .int .i64 r1, .int .i64 r2, .int .u32 imm]] W fun e W' => e = .returned (.tuple #[]) ∧ CodeAt W' x r (resC c rd (aluV 37 (c.regs[r1]?.getD 0) (c.regs[r2]?.getD 0))) ∧ Offs [x, r] W W' := by
  have HF0 : Hid (∀ o, CodeAt (W.alloc o) x r c) := fun o => h.below ((Below.refl W.heap.size W).alloc (Nat.le_refl _) o) h.lt.1 h.lt.2
  have HF : Hid (∀ o q, CodeAt ((W.alloc o).drewN q) x r c) := fun o q => (HF0.out o).drawn q
  have hd := K.d
  have h1 := K.s
  have h2 := K.t
  have i0 := K.i0
  have i1 := K.i1
  have z := C.z
  have xa := C.x r1
  have xb := C.x r2
  have p0 := C.p0
  have p1 := C.p1
  have hd' : (rd : Int) < 32 := by omega
  have c1 := fun o => (HF0.out o).pc
  have f1 := fun o => (HF0.out o).fx
  have HZ : Hid (c.regs[0]?.getD 0 = 0) := z
  have HL : Hid (W.heap.size ∉ [x, r]) := fun hk => by have := h.lt; simp at hk; omega
  clear h z C
  go_enter Tryz.func27, Tryz.ntmps27
  go_wp2_with (first | (go_at_call 52; (first | (refine (reg_any _ x r c (HF0.out _) HZ.out _ (by omega)).mono ?_) | (refine (reg_any _ x r c (HF.out _ _) HZ.out _ (by omega)).mono ?_)); rintro e w' ⟨rfl, q, rfl⟩))
  generalize hw0 : World.drewN (W.alloc (Obj.cells #[.int .i64 37, .int .i64 rd, .int .i64 r1, .int .i64 r2, .int .u32 imm] 66)) _ = w0
  have C0 : Hid (CodeAt w0.drew x r c) := by rw [← hw0]; exact (HF.out _ _).drawn 1
  have O0 : Hid (Offs [x, r] W w0.drew) := by rw [← hw0]; exact (((Offs.refl _ _).new _).drawn _).drawn 1
  have hS : w0.drew.cell? ⟨W.heap.size, 0, none⟩ = some (.int .i64 37) ∧ w0.drew.cell? ⟨W.heap.size, 1, none⟩ = some (.int .i64 rd) ∧ w0.drew.cell? ⟨W.heap.size, 4, none⟩ = some (.int .u32 imm) := by
    rw [← hw0]
    have e := fun j => cell_of_row (W.alloc (Obj.cells #[.int .i64 37, .int .i64 rd, .int .i64 r1, .int .i64 r2, .int .u32 imm] 66)) W.heap.size j _ _ (0, 0) (heap_alloc_new W _)
    exact ⟨(e 0).trans rfl, (e 1).trans rfl, (e 4).trans rfl⟩
  clear hw0 c1 f1
  refine wp_region_held (S := fun w' => w'.cell? ⟨W.heap.size, 0, none⟩ = some (.int .i64 37) ∧ w'.cell? ⟨W.heap.size, 1, none⟩ = some (.int .i64 rd) ∧ w'.cell? ⟨W.heap.size, 4, none⟩ = some (.int .u32 imm)) (by kernel_rfl) ?_
  change wpAnyH _ _ _ _ _ _ _ _ (w0.drew)
  refine wpAnyH_take (i := 0) (v := .pointer (some ⟨x, 0, none⟩)) rfl (by kernel_rfl) (by kernel_rfl) (by kernel_rfl) (fun _ _ _ h => h) (Or.inl ⟨by kernel_rfl, fun w _ => by kernel_rfl⟩) hS ?_
  refine wpAnyH_take (i := 1) (v := .pointer (some ⟨W.heap.size, 1, none⟩)) rfl (by kernel_rfl) (by kernel_rfl) (by kernel_rfl) (fun _ _ _ h => h) (Or.inl ⟨by kernel_rfl, fun w _ => by kernel_rfl⟩) hS ?_
  refine wpAnyH_take (i := 2) (v := .int .i64 rd) rfl (by kernel_rfl) (by kernel_rfl) (by kernel_rfl) (fun _ _ _ h => h) (y_lvi (A := ⟨W.heap.size, 1, none⟩) rfl (by kernel_rfl) (by kernel_rfl) (fun w h => h.2.1)) hS ?_
  refine wpAnyH_take (i := 3) (v := .pointer (some ⟨W.heap.size, 0, none⟩)) rfl (by kernel_rfl) (by kernel_rfl) (by kernel_rfl) (fun _ _ _ h => h) (Or.inl ⟨by kernel_rfl, fun w _ => by kernel_rfl⟩) hS ?_
  refine wpAnyH_take (i := 4) (v := .int .i64 37) rfl (by kernel_rfl) (by kernel_rfl) (by kernel_rfl) (fun _ _ _ h => h) (y_lvi (A := ⟨W.heap.size, 0, none⟩) rfl (by kernel_rfl) (by kernel_rfl) (fun w h => h.1)) hS ?_
  refine wpAnyH_take (i := 5) (v := .int .u32 (c.regs[r1]?.getD 0)) rfl (by kernel_rfl) (by kernel_rfl) (by kernel_rfl) (fun _ _ _ h => h) (Or.inl ⟨by kernel_rfl, fun w _ => by kernel_rfl⟩) hS ?_
  refine wpAnyH_take (i := 6) (v := .int .u32 (c.regs[r2]?.getD 0)) rfl (by kernel_rfl) (by kernel_rfl) (by kernel_rfl) (fun _ _ _ h => h) (Or.inl ⟨by kernel_rfl, fun w _ => by kernel_rfl⟩) hS ?_
  refine wpAnyH_all (rs := [7]) (by kernel_rfl) (by simp) fun i hi => ?_
  obtain rfl : i = 7 := by simpa using hi
  refine wpOp_step rfl (fun K hK => ?_)
  go_simp
  refine (result_any _ 37 _ _ ⟨by decide, by decide⟩ xa.1 xa.2 xb.1 xb.2).mono ?_
  rintro e w' ⟨rfl, hw⟩
  rw [hw]
  clear hw w'
  refine hK _ _ ⟨hS, ?_⟩
  clear hK K
  refine wpAnyH_all (rs := [8]) (by kernel_rfl) (by simp) fun i hi => ?_
  obtain rfl : i = 8 := by simpa using hi
  refine wpOp_step rfl (fun K hK => ?_)
  go_simp
  refine (result_c _ x r c C0.out A rd hd _).mono ?_
  rintro e w3 ⟨rfl, h3, o3⟩
  have hS3 : w3.cell? ⟨W.heap.size, 0, none⟩ = some (.int .i64 37) ∧ w3.cell? ⟨W.heap.size, 1, none⟩ = some (.int .i64 rd) ∧ w3.cell? ⟨W.heap.size, 4, none⟩ = some (.int .u32 imm) := by
    have bl : W.heap.size < w0.drew.heap.size := World.block_lt_of_cell? _ ⟨W.heap.size, 0, none⟩ hS.1
    have b3 := fun j => World.cell?_of_block (w := w0.drew) (a := ⟨W.heap.size, j, none⟩) (o3.block W.heap.size bl HL.out)
    exact ⟨(b3 0).trans hS.1, (b3 1).trans hS.2.1, (b3 4).trans hS.2.2⟩
  refine hK _ _ ⟨hS3, wpAnyH_done (by kernel_rfl) ?_ _⟩
  clear hK K
  go_wp2_with fail
  go_end0
  exact ⟨rfl, h3, O0.out.trans o3⟩
end Go.Proofs.YtlilgcbgmebcdaaGreatDoor
