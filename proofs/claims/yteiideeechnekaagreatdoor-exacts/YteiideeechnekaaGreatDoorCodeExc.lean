/-
  The code's exceptions and returns: enter, exception, leave, withheld, call, machineReturn, superReturn, fallAsleep.
-/
import Derived.Test.YteiideeechnekaaGreatDoorCodeLay
import Derived.Deep.RegionWith
namespace Go.Proofs.YteiideeechnekaaGreatDoor
open Go.RowKit

set_option maxHeartbeats 1000000 in
theorem enter_1 (W : World) (x r : Nat) (c : CSt) (h : CodeAt W x r c) (A : x ≠ r) (m0 : 0 ≤ c.mode) (m3 : c.mode ≤ 3) (cause tval : Int) :
    Calls Tryz.prog 76 #[.pointer (some ⟨x, 0, none⟩), .int .i64 1, .int .u32 cause, .int .u32 tval] W (CP W x r (entS c cause tval)) := by
  have HF : Hid (CodeAt W x r c) := h
  have c0 := h.pc
  have c1 := h.sepc
  have c2 := h.scause
  have c3 := h.stval
  have f0 := h.fx
  clear h
  go_enter Tryz.func76, Tryz.ntmps76
  go_wp2_with (go_at_call 106; refine (sideOf_1 _ x).mono ?_; rintro e w' ⟨rfl, hw⟩; rw [hw]; clear hw w')
  have C0 : CodeAt (((W.setCell ⟨x, 42, none⟩ (.int .u32 c.pc)).setCell ⟨x, 43, none⟩ (.int .u32 cause)).setCell ⟨x, 44, none⟩ (.int .u32 tval)) x r { c with sepc := c.pc, scause := cause, stval := tval } := ((HF.out.put_sepc A _).put_scause A _).put_stval A _
  have O0 : Hid (Offs [x, r] W (((W.setCell ⟨x, 42, none⟩ (.int .u32 c.pc)).setCell ⟨x, 43, none⟩ (.int .u32 cause)).setCell ⟨x, 44, none⟩ (.int .u32 tval))) := (((Offs.refl _ _).put (by simp) _).put (by simp) _).put (by simp) _
  generalize ((W.setCell ⟨x, 42, none⟩ (.int .u32 c.pc)).setCell ⟨x, 43, none⟩ (.int .u32 cause)).setCell ⟨x, 44, none⟩ (.int .u32 tval) = w0 at C0 O0 ⊢
  have k0 : w0.cell? ⟨x, 33, none⟩ = some (.int .i64 c.mode) := C0.mode
  have H0 : Hid (CodeAt w0.drew x r { c with sepc := c.pc, scause := cause, stval := tval }) := C0.drawn 1
  have hS : True := trivial
  clear C0 c0 c1 c2 c3 f0
  refine wp_region_held (S := fun w' => True) (by kernel_rfl) ?_
  change wpAnyH _ _ _ _ _ _ _ _ (w0.drew)
  refine yK 0 (.pointer (some ⟨x, 0, none⟩)) hS ?_
  refine yK 1 (.pointer (some ⟨x, 0, none⟩)) hS ?_
  refine yK 2 (.pointer (some ⟨x, 35, none⟩)) hS ?_
  refine yK 3 (.int .i64 1) hS ?_
  refine yK 4 (.pointer (some ⟨x, 0, none⟩)) hS ?_
  refine yK 5 (.pointer (some ⟨x, 0, none⟩)) hS ?_
  refine yK 6 (.pointer (some ⟨x, 33, none⟩)) hS ?_
  refine tA 7 (by kernel_rfl) (wpOp_step rfl fun K hK => ?_)
  go_simp
  refine hK _ _ ⟨hS, ?_⟩
  clear hK K
  refine tA 8 (by kernel_rfl) (wpOp_step rfl fun K hK => ?_)
  go_simp
  refine (layBy_1 _ x r { c with sepc := c.pc, scause := cause, stval := tval } H0.out A m0 m3).mono ?_
  rintro e w1 ⟨rfl, h1, o1⟩
  refine hK _ _ ⟨trivial, wpAnyH_done (by kernel_rfl) ?_ _⟩
  clear hK K
  have H1 : Hid (CodeAt w1 x r { { c with sepc := c.pc, scause := cause, stval := tval } with mstatus := layV c.mstatus 2 32 256 8 c.mode }) := h1
  have d0 := h1.mode
  have d1 : w1.cell? ⟨x, 40, none⟩ = some (.int .u32 c.stvec) := h1.stvec
  have d2 := h1.pc
  have d3 := h1.fx
  clear h1 k0
  go_wp2_with fail
  go_end0
  exact ⟨rfl, (H1.out.put_mode A _).put_pc A _, (((O0.out.drawn 1).trans o1).put (by simp) _).put (by simp) _⟩
set_option maxHeartbeats 1000000 in
theorem enter_3 (W : World) (x r : Nat) (c : CSt) (h : CodeAt W x r c) (A : x ≠ r) (m0 : 0 ≤ c.mode) (m3 : c.mode ≤ 3) (cause tval : Int) :
    Calls Tryz.prog 76 #[.pointer (some ⟨x, 0, none⟩), .int .i64 3, .int .u32 cause, .int .u32 tval] W (CP W x r (entM c cause tval)) := by
  have HF : Hid (CodeAt W x r c) := h
  have c0 := h.pc
  have c1 := h.mepc
  have c2 := h.mcause
  have c3 := h.mtval
  have f0 := h.fx
  clear h
  go_enter Tryz.func76, Tryz.ntmps76
  go_wp2_with (go_at_call 106; refine (sideOf_3 _ x).mono ?_; rintro e w' ⟨rfl, hw⟩; rw [hw]; clear hw w')
  have C0 : CodeAt (((W.setCell ⟨x, 47, none⟩ (.int .u32 c.pc)).setCell ⟨x, 48, none⟩ (.int .u32 cause)).setCell ⟨x, 49, none⟩ (.int .u32 tval)) x r { c with mepc := c.pc, mcause := cause, mtval := tval } := ((HF.out.put_mepc A _).put_mcause A _).put_mtval A _
  have O0 : Hid (Offs [x, r] W (((W.setCell ⟨x, 47, none⟩ (.int .u32 c.pc)).setCell ⟨x, 48, none⟩ (.int .u32 cause)).setCell ⟨x, 49, none⟩ (.int .u32 tval))) := (((Offs.refl _ _).put (by simp) _).put (by simp) _).put (by simp) _
  generalize ((W.setCell ⟨x, 47, none⟩ (.int .u32 c.pc)).setCell ⟨x, 48, none⟩ (.int .u32 cause)).setCell ⟨x, 49, none⟩ (.int .u32 tval) = w0 at C0 O0 ⊢
  have k0 : w0.cell? ⟨x, 33, none⟩ = some (.int .i64 c.mode) := C0.mode
  have H0 : Hid (CodeAt w0.drew x r { c with mepc := c.pc, mcause := cause, mtval := tval }) := C0.drawn 1
  have hS : True := trivial
  clear C0 c0 c1 c2 c3 f0
  refine wp_region_held (S := fun w' => True) (by kernel_rfl) ?_
  change wpAnyH _ _ _ _ _ _ _ _ (w0.drew)
  refine yK 0 (.pointer (some ⟨x, 0, none⟩)) hS ?_
  refine yK 1 (.pointer (some ⟨x, 0, none⟩)) hS ?_
  refine yK 2 (.pointer (some ⟨x, 35, none⟩)) hS ?_
  refine yK 3 (.int .i64 3) hS ?_
  refine yK 4 (.pointer (some ⟨x, 0, none⟩)) hS ?_
  refine yK 5 (.pointer (some ⟨x, 0, none⟩)) hS ?_
  refine yK 6 (.pointer (some ⟨x, 33, none⟩)) hS ?_
  refine tA 7 (by kernel_rfl) (wpOp_step rfl fun K hK => ?_)
  go_simp
  refine hK _ _ ⟨hS, ?_⟩
  clear hK K
  refine tA 8 (by kernel_rfl) (wpOp_step rfl fun K hK => ?_)
  go_simp
  refine (layBy_3 _ x r { c with mepc := c.pc, mcause := cause, mtval := tval } H0.out A m0 m3).mono ?_
  rintro e w1 ⟨rfl, h1, o1⟩
  refine hK _ _ ⟨trivial, wpAnyH_done (by kernel_rfl) ?_ _⟩
  clear hK K
  have H1 : Hid (CodeAt w1 x r { { c with mepc := c.pc, mcause := cause, mtval := tval } with mstatus := layV c.mstatus 8 128 6144 11 c.mode }) := h1
  have d0 := h1.mode
  have d1 : w1.cell? ⟨x, 45, none⟩ = some (.int .u32 c.mtvec) := h1.mtvec
  have d2 := h1.pc
  have d3 := h1.fx
  clear h1 k0
  go_wp2_with fail
  go_end0
  exact ⟨rfl, (H1.out.put_mode A _).put_pc A _, (((O0.out.drawn 1).trans o1).put (by simp) _).put (by simp) _⟩
set_option maxHeartbeats 1000000 in
theorem exc_any (W : World) (x r : Nat) (c : CSt) (h : CodeAt W x r c) (A : x ≠ r) (m0 : 0 ≤ c.mode) (m3 : c.mode ≤ 3) (cause : Nat) (hc : cause < 32) (tval : Int) :
    Calls Tryz.prog 79 #[.pointer (some ⟨x, 0, none⟩), .int .u32 cause, .int .u32 tval] W (CP W x r (excC c cause tval)) := by
  have HF : Hid (CodeAt W x r c) := h
  have k1 := h.mode
  have k2 := h.medeleg
  have hc' : (cause : Int) < 32 := by omega
  clear h
  by_cases hm : c.mode = 3
  · have HE : Hid (excC c cause tval = entM c cause tval) := by unfold Hid excC supC; rw [if_pos hm]; rfl
    have hm' : (c.mode != 3) = false := by simpa using hm
    go_enter Tryz.func79, Tryz.ntmps79
    go_wp2_with (first | (go_at_call 76; refine (enter_3 _ x r c HF.out A m0 m3 _ _).mono ?_; rintro e w1 ⟨rfl, h1, o1⟩))
    go_end0
    exact ⟨rfl, by rw [HE.out]; exact h1, o1⟩
  · have hm' : (c.mode != 3) = true := by simpa using hm
    by_cases hb : isB c.medeleg cause = true
    · have HE : Hid (excC c cause tval = entS c cause tval) := by unfold Hid excC supC; rw [if_neg hm, if_pos hb]
      have hb' : (bits .and .u32 (c.medeleg / 2 ^ cause) 1 == 1) = true := hb
      clear hm hb
      go_enter Tryz.func79, Tryz.ntmps79
      go_wp2_with (first | (go_at_call 76; refine (enter_1 _ x r c HF.out A m0 m3 _ _).mono ?_; rintro e w1 ⟨rfl, h1, o1⟩))
      exact bodyPost_ret (v := .tuple #[]) (by simp [results, Tryz.results79, go_sem]) rfl ⟨rfl, by rw [HE.out]; exact h1, o1⟩
    · have HE : Hid (excC c cause tval = entM c cause tval) := by unfold Hid excC supC; rw [if_neg hm, if_neg hb]
      have hb' : (bits .and .u32 (c.medeleg / 2 ^ cause) 1 == 1) = false := by simpa [isB] using hb
      clear hm hb
      go_enter Tryz.func79, Tryz.ntmps79
      go_wp2_with (first | (go_at_call 76; refine (enter_3 _ x r c HF.out A m0 m3 _ _).mono ?_; rintro e w1 ⟨rfl, h1, o1⟩))
      go_end0
      exact ⟨rfl, by rw [HE.out]; exact h1, o1⟩
set_option maxHeartbeats 1000000 in
theorem leave_1 (W : World) (x r : Nat) (c : CSt) (h : CodeAt W x r c) (A : x ≠ r) (hm : W32 c.mstatus) :
    Calls Tryz.prog 161 #[.pointer (some ⟨x, 0, none⟩), .int .i64 1] W (CP W x r (leaS c)) := by
  have HF : Hid (CodeAt W x r c) := h
  have c0 := h.pc
  have c1 : W.cell? ⟨x, 42, none⟩ = some (.int .u32 c.sepc) := h.sepc
  have f0 := h.fx
  clear h
  go_enter Tryz.func161, Tryz.ntmps161
  go_wp2_with (first | (go_at_call 106; refine (sideOf_1 _ x).mono ?_; rintro e w' ⟨rfl, hw⟩; rw [hw]; clear hw w') | (go_at_call 169; refine (back_1 _ x r { c with pc := c.sepc } (HF.out.put_pc A _) A hm).mono ?_; rintro e w1 ⟨rfl, h1, o1⟩; have d0 := h1.mode; have d3 := h1.fx))
  go_end0
  exact ⟨rfl, h1.put_mode A _, ((((Offs.refl _ _).put (by simp) _)).trans o1).put (by simp) _⟩
set_option maxHeartbeats 1000000 in
theorem leave_3 (W : World) (x r : Nat) (c : CSt) (h : CodeAt W x r c) (A : x ≠ r) (hm : W32 c.mstatus) :
    Calls Tryz.prog 161 #[.pointer (some ⟨x, 0, none⟩), .int .i64 3] W (CP W x r (leaM c)) := by
  have HF : Hid (CodeAt W x r c) := h
  have c0 := h.pc
  have c1 : W.cell? ⟨x, 47, none⟩ = some (.int .u32 c.mepc) := h.mepc
  have f0 := h.fx
  clear h
  go_enter Tryz.func161, Tryz.ntmps161
  go_wp2_with (first | (go_at_call 106; refine (sideOf_3 _ x).mono ?_; rintro e w' ⟨rfl, hw⟩; rw [hw]; clear hw w') | (go_at_call 169; refine (back_3 _ x r { c with pc := c.mepc } (HF.out.put_pc A _) A hm).mono ?_; rintro e w1 ⟨rfl, h1, o1⟩; have d0 := h1.mode; have d3 := h1.fx))
  go_end0
  exact ⟨rfl, h1.put_mode A _, ((((Offs.refl _ _).put (by simp) _)).trans o1).put (by simp) _⟩
theorem withheld_3 (W : World) (x r : Nat) (c : CSt) (h : CodeAt W x r c) (gd : Int) (hm : c.mode = 3) : Calls Tryz.prog 162 #[.pointer (some ⟨x, 0, none⟩), .int .u32 gd] W fun e W' => e = .returned (.bool false) ∧ W' = W := by
  have c0 := h.mode
  rw [hm] at c0
  clear h hm
  go_enter Tryz.func162, Tryz.ntmps162
  go_wp2
  go_ret
  exact ⟨rfl, rfl⟩
theorem withheld_0 (W : World) (x r : Nat) (c : CSt) (h : CodeAt W x r c) (gd : Int) (hm : c.mode = 0) : Calls Tryz.prog 162 #[.pointer (some ⟨x, 0, none⟩), .int .u32 gd] W fun e W' => e = .returned (.bool true) ∧ W' = W := by
  have c0 := h.mode
  rw [hm] at c0
  clear h hm
  go_enter Tryz.func162, Tryz.ntmps162
  go_wp2
  go_ret
  exact ⟨rfl, rfl⟩
theorem withheld_1 (W : World) (x r : Nat) (c : CSt) (h : CodeAt W x r c) (gd : Int) (hm : c.mode = 1) : Calls Tryz.prog 162 #[.pointer (some ⟨x, 0, none⟩), .int .u32 gd] W fun e W' => e = .returned (.bool (bits .and .u32 c.mstatus gd != 0)) ∧ W' = W := by
  have c0 := h.mode
  have c1 := h.mstatus
  rw [hm] at c0
  clear h hm
  go_enter Tryz.func162, Tryz.ntmps162
  go_wp2
  go_ret
  exact ⟨rfl, rfl⟩
theorem call_0 (W : World) (x r : Nat) (c : CSt) (h : CodeAt W x r c) (A : x ≠ r) (hm : c.mode = 0) : Calls Tryz.prog 151 #[.pointer (some ⟨x, 0, none⟩)] W (CP W x r (excC c 8 0)) := by
  have HF : Hid (CodeAt W x r c) := h
  have c0 := h.mode
  rw [hm] at c0
  clear h
  go_enter Tryz.func151, Tryz.ntmps151
  go_wp2_with (go_at_call 79; refine (exc_any _ x r c HF.out A (by omega) (by omega) 8 (by decide) _).mono ?_; rintro e w1 ⟨rfl, h1, o1⟩)
  go_end0
  exact ⟨rfl, h1, o1⟩
theorem call_1 (W : World) (x r : Nat) (c : CSt) (h : CodeAt W x r c) (A : x ≠ r) (hm : c.mode = 1) : Calls Tryz.prog 151 #[.pointer (some ⟨x, 0, none⟩)] W (CP W x r (excC c 9 0)) := by
  have HF : Hid (CodeAt W x r c) := h
  have c0 := h.mode
  rw [hm] at c0
  clear h
  go_enter Tryz.func151, Tryz.ntmps151
  go_wp2_with (go_at_call 79; refine (exc_any _ x r c HF.out A (by omega) (by omega) 9 (by decide) _).mono ?_; rintro e w1 ⟨rfl, h1, o1⟩)
  go_end0
  exact ⟨rfl, h1, o1⟩
theorem call_3 (W : World) (x r : Nat) (c : CSt) (h : CodeAt W x r c) (A : x ≠ r) (hm : c.mode = 3) : Calls Tryz.prog 151 #[.pointer (some ⟨x, 0, none⟩)] W (CP W x r (excC c 11 0)) := by
  have HF : Hid (CodeAt W x r c) := h
  have c0 := h.mode
  rw [hm] at c0
  clear h
  go_enter Tryz.func151, Tryz.ntmps151
  go_wp2_with (go_at_call 79; refine (exc_any _ x r c HF.out A (by omega) (by omega) 11 (by decide) _).mono ?_; rintro e w1 ⟨rfl, h1, o1⟩)
  go_end0
  exact ⟨rfl, h1, o1⟩
theorem mret_3 (W : World) (x r : Nat) (c : CSt) (h : CodeAt W x r c) (A : x ≠ r) (hs : W32 c.mstatus) (w : Int) (hm : c.mode = 3) : Calls Tryz.prog 152 #[.pointer (some ⟨x, 0, none⟩), .int .u32 w] W (CP W x r (leaM c)) := by
  have HF : Hid (CodeAt W x r c) := h
  have c0 := h.mode
  rw [hm] at c0
  clear h
  go_enter Tryz.func152, Tryz.ntmps152
  go_wp2_with (go_at_call 161; refine (leave_3 _ x r c HF.out A hs).mono ?_; rintro e w1 ⟨rfl, h1, o1⟩)
  go_end0
  exact ⟨rfl, h1, o1⟩
theorem mret_n (W : World) (x r : Nat) (c : CSt) (h : CodeAt W x r c) (A : x ≠ r) (m0 : 0 ≤ c.mode) (m3 : c.mode ≤ 3) (w : Int) (hm : c.mode ≠ 3) : Calls Tryz.prog 152 #[.pointer (some ⟨x, 0, none⟩), .int .u32 w] W (CP W x r (excC c 2 w)) := by
  have HF : Hid (CodeAt W x r c) := h
  have c0 := h.mode
  have hm' : (c.mode != 3) = true := by simpa using hm
  clear h hm
  go_enter Tryz.func152, Tryz.ntmps152
  go_wp2_with (go_at_call 79; refine (exc_any _ x r c HF.out A (by omega) (by omega) 2 (by decide) _).mono ?_; rintro e w1 ⟨rfl, h1, o1⟩)
  exact bodyPost_ret (v := .tuple #[]) (by simp [results, Tryz.results152, go_sem]) rfl ⟨rfl, h1, o1⟩
theorem sret_3 (W : World) (x r : Nat) (c : CSt) (h : CodeAt W x r c) (A : x ≠ r) (hs : W32 c.mstatus) (w : Int) (hm : c.mode = 3) : Calls Tryz.prog 153 #[.pointer (some ⟨x, 0, none⟩), .int .u32 w] W (CP W x r (leaS c)) := by
  have HF : Hid (CodeAt W x r c) := h
  clear h
  go_enter Tryz.func153, Tryz.ntmps153
  go_wp2_with (first | (go_at_call 162; refine (withheld_3 _ x r c HF.out 4194304 hm).mono ?_; rintro e w' ⟨rfl, rfl⟩) | (go_at_call 161; refine (leave_1 _ x r c HF.out A hs).mono ?_; rintro e w1 ⟨rfl, h1, o1⟩))
  go_end0
  exact ⟨rfl, h1, o1⟩
theorem sret_0 (W : World) (x r : Nat) (c : CSt) (h : CodeAt W x r c) (A : x ≠ r) (w : Int) (hm : c.mode = 0) : Calls Tryz.prog 153 #[.pointer (some ⟨x, 0, none⟩), .int .u32 w] W (CP W x r (excC c 2 w)) := by
  have HF : Hid (CodeAt W x r c) := h
  clear h
  go_enter Tryz.func153, Tryz.ntmps153
  go_wp2_with (first | (go_at_call 162; refine (withheld_0 _ x r c HF.out 4194304 hm).mono ?_; rintro e w' ⟨rfl, rfl⟩) | (go_at_call 79; refine (exc_any _ x r c HF.out A (by omega) (by omega) 2 (by decide) _).mono ?_; rintro e w1 ⟨rfl, h1, o1⟩))
  exact bodyPost_ret (v := .tuple #[]) (by simp [results, Tryz.results153, go_sem]) rfl ⟨rfl, h1, o1⟩
theorem sret_1t (W : World) (x r : Nat) (c : CSt) (h : CodeAt W x r c) (A : x ≠ r) (w : Int) (hm : c.mode = 1) (hb : (bits .and .u32 c.mstatus 4194304 != 0) = true) : Calls Tryz.prog 153 #[.pointer (some ⟨x, 0, none⟩), .int .u32 w] W (CP W x r (excC c 2 w)) := by
  have HF : Hid (CodeAt W x r c) := h
  clear h
  go_enter Tryz.func153, Tryz.ntmps153
  go_wp2_with (first | (go_at_call 162; refine (withheld_1 _ x r c HF.out 4194304 hm).mono ?_; rw [hb]; rintro e w' ⟨rfl, rfl⟩) | (go_at_call 79; refine (exc_any _ x r c HF.out A (by omega) (by omega) 2 (by decide) _).mono ?_; rintro e w1 ⟨rfl, h1, o1⟩))
  exact bodyPost_ret (v := .tuple #[]) (by simp [results, Tryz.results153, go_sem]) rfl ⟨rfl, h1, o1⟩
theorem sret_1f (W : World) (x r : Nat) (c : CSt) (h : CodeAt W x r c) (A : x ≠ r) (hs : W32 c.mstatus) (w : Int) (hm : c.mode = 1) (hb : (bits .and .u32 c.mstatus 4194304 != 0) = false) : Calls Tryz.prog 153 #[.pointer (some ⟨x, 0, none⟩), .int .u32 w] W (CP W x r (leaS c)) := by
  have HF : Hid (CodeAt W x r c) := h
  clear h
  go_enter Tryz.func153, Tryz.ntmps153
  go_wp2_with (first | (go_at_call 162; refine (withheld_1 _ x r c HF.out 4194304 hm).mono ?_; rw [hb]; rintro e w' ⟨rfl, rfl⟩) | (go_at_call 161; refine (leave_1 _ x r c HF.out A hs).mono ?_; rintro e w1 ⟨rfl, h1, o1⟩))
  go_end0
  exact ⟨rfl, h1, o1⟩
theorem wfi_3 (W : World) (x r : Nat) (c : CSt) (h : CodeAt W x r c) (A : x ≠ r) (w : Int) (hm : c.mode = 3) : Calls Tryz.prog 154 #[.pointer (some ⟨x, 0, none⟩), .int .u32 w] W (CP W x r ({ c with pc := (c.pc + 4) % 4294967296, asleep := true })) := by
  have HF : Hid (CodeAt W x r c) := h
  have c1 := h.pc
  have c2 := h.asleep
  have f1 := h.fx
  clear h
  go_enter Tryz.func154, Tryz.ntmps154
  go_wp2_with (first | (go_at_call 162; refine (withheld_3 _ x r c HF.out 2097152 hm).mono ?_; rintro e w' ⟨rfl, rfl⟩))
  go_end0
  exact ⟨rfl, (HF.out.put_pc A _).put_asleep A _, ((Offs.refl _ _).put (by simp) _).put (by simp) _⟩
theorem wfi_0 (W : World) (x r : Nat) (c : CSt) (h : CodeAt W x r c) (A : x ≠ r) (w : Int) (hm : c.mode = 0) : Calls Tryz.prog 154 #[.pointer (some ⟨x, 0, none⟩), .int .u32 w] W (CP W x r (excC c 2 w)) := by
  have HF : Hid (CodeAt W x r c) := h
  clear h
  go_enter Tryz.func154, Tryz.ntmps154
  go_wp2_with (first | (go_at_call 162; refine (withheld_0 _ x r c HF.out 2097152 hm).mono ?_; rintro e w' ⟨rfl, rfl⟩) | (go_at_call 79; refine (exc_any _ x r c HF.out A (by omega) (by omega) 2 (by decide) _).mono ?_; rintro e w1 ⟨rfl, h1, o1⟩))
  exact bodyPost_ret (v := .tuple #[]) (by simp [results, Tryz.results154, go_sem]) rfl ⟨rfl, h1, o1⟩
theorem wfi_1t (W : World) (x r : Nat) (c : CSt) (h : CodeAt W x r c) (A : x ≠ r) (w : Int) (hm : c.mode = 1) (hb : (bits .and .u32 c.mstatus 2097152 != 0) = true) : Calls Tryz.prog 154 #[.pointer (some ⟨x, 0, none⟩), .int .u32 w] W (CP W x r (excC c 2 w)) := by
  have HF : Hid (CodeAt W x r c) := h
  clear h
  go_enter Tryz.func154, Tryz.ntmps154
  go_wp2_with (first | (go_at_call 162; refine (withheld_1 _ x r c HF.out 2097152 hm).mono ?_; rw [hb]; rintro e w' ⟨rfl, rfl⟩) | (go_at_call 79; refine (exc_any _ x r c HF.out A (by omega) (by omega) 2 (by decide) _).mono ?_; rintro e w1 ⟨rfl, h1, o1⟩))
  exact bodyPost_ret (v := .tuple #[]) (by simp [results, Tryz.results154, go_sem]) rfl ⟨rfl, h1, o1⟩
theorem wfi_1f (W : World) (x r : Nat) (c : CSt) (h : CodeAt W x r c) (A : x ≠ r) (w : Int) (hm : c.mode = 1) (hb : (bits .and .u32 c.mstatus 2097152 != 0) = false) : Calls Tryz.prog 154 #[.pointer (some ⟨x, 0, none⟩), .int .u32 w] W (CP W x r ({ c with pc := (c.pc + 4) % 4294967296, asleep := true })) := by
  have HF : Hid (CodeAt W x r c) := h
  have c1 := h.pc
  have c2 := h.asleep
  have f1 := h.fx
  clear h
  go_enter Tryz.func154, Tryz.ntmps154
  go_wp2_with (first | (go_at_call 162; refine (withheld_1 _ x r c HF.out 2097152 hm).mono ?_; rw [hb]; rintro e w' ⟨rfl, rfl⟩))
  go_end0
  exact ⟨rfl, (HF.out.put_pc A _).put_asleep A _, ((Offs.refl _ _).put (by simp) _).put (by simp) _⟩
end Go.Proofs.YteiideeechnekaaGreatDoor
