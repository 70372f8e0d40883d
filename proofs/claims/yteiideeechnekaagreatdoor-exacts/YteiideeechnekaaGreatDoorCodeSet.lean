/-
  The code's set.
-/
import Derived.Test.YteiideeechnekaaGreatDoorCodeLay
import Derived.Test.YteiideeechnekaaGreatDoorTrapPure
import Derived.Deep.RegionWith
namespace Go.Proofs.YteiideeechnekaaGreatDoor
open Go.RowKit

theorem setStatus_t (W : World) (x r : Nat) (c : CSt) (h : CodeAt W x r c) (A : x ≠ r) (v : Int) (hb : (bits .and .u32 v 6144 == 4096) = true) :
    Calls Tryz.prog 171 #[.pointer (some ⟨x, 35, none⟩), .int .u32 v] W (CP W x r { c with mstatus := mixV c.mstatus v (keptV v) }) := by
  have HF : Hid (CodeAt W x r c) := h
  have HE : Hid (keptV v = 6291882) := by unfold Hid keptV; rw [if_pos hb]
  have e9 : bits .andNot .u32 6298026 6144 = 6291882 := by decide
  have c1 := h.mstatus
  have f1 := h.fx
  clear h
  go_enter Tryz.func171, Tryz.ntmps171
  go_wp2_with (go_at_call 132; refine (mix_any _ _ _ _).mono ?_; rintro e w' ⟨rfl, hw⟩; rw [hw]; clear hw w')
  go_end0
  exact ⟨rfl, by rw [HE.out]; exact HF.out.put_mstatus A _, (Offs.refl _ _).put (by simp) _⟩
theorem setStatus_f (W : World) (x r : Nat) (c : CSt) (h : CodeAt W x r c) (A : x ≠ r) (v : Int) (hb : (bits .and .u32 v 6144 == 4096) = false) :
    Calls Tryz.prog 171 #[.pointer (some ⟨x, 35, none⟩), .int .u32 v] W (CP W x r { c with mstatus := mixV c.mstatus v (keptV v) }) := by
  have HF : Hid (CodeAt W x r c) := h
  have HE : Hid (keptV v = 6298026) := by unfold Hid keptV; rw [hb]; rfl
  have c1 := h.mstatus
  have f1 := h.fx
  clear h
  go_enter Tryz.func171, Tryz.ntmps171
  go_wp2_with (go_at_call 132; refine (mix_any _ _ _ _).mono ?_; rintro e w' ⟨rfl, hw⟩; rw [hw]; clear hw w')
  go_end0
  exact ⟨rfl, by rw [HE.out]; exact HF.out.put_mstatus A _, (Offs.refl _ _).put (by simp) _⟩
theorem setStatus_any (W : World) (x r : Nat) (c : CSt) (h : CodeAt W x r c) (A : x ≠ r) (v : Int) :
    Calls Tryz.prog 171 #[.pointer (some ⟨x, 35, none⟩), .int .u32 v] W (CP W x r { c with mstatus := mixV c.mstatus v (keptV v) }) := by
  by_cases hb : (bits .and .u32 v 6144 == 4096) = true
  · exact setStatus_t W x r c h A v hb
  · exact setStatus_f W x r c h A v (by simpa using hb)
theorem side_261 (W : World) (x r : Nat) (c : CSt) (h : CodeAt W x r c) (A : x ≠ r) (v : Int) :
    Calls Tryz.prog 170 #[.pointer (some ⟨x, 40, none⟩), .int .u32 261, .int .u32 v] W (CP W x r { c with stvec := bits .and .u32 v 4294967293 }) := by
  have HF : Hid (CodeAt W x r c) := h
  have c1 := h.stvec
  have f1 := h.fx
  clear h
  go_enter Tryz.func170, Tryz.ntmps170
  go_wp2
  go_end0
  exact ⟨rfl, HF.out.put_stvec A _, (Offs.refl _ _).put (by simp) _⟩
theorem side_320 (W : World) (x r : Nat) (c : CSt) (h : CodeAt W x r c) (A : x ≠ r) (v : Int) :
    Calls Tryz.prog 170 #[.pointer (some ⟨x, 40, none⟩), .int .u32 320, .int .u32 v] W (CP W x r { c with sscratch := v }) := by
  have HF : Hid (CodeAt W x r c) := h
  have c1 := h.sscratch
  have f1 := h.fx
  clear h
  go_enter Tryz.func170, Tryz.ntmps170
  go_wp2
  go_end0
  exact ⟨rfl, HF.out.put_sscratch A _, (Offs.refl _ _).put (by simp) _⟩
theorem side_321 (W : World) (x r : Nat) (c : CSt) (h : CodeAt W x r c) (A : x ≠ r) (v : Int) :
    Calls Tryz.prog 170 #[.pointer (some ⟨x, 40, none⟩), .int .u32 321, .int .u32 v] W (CP W x r { c with sepc := bits .and .u32 v 4294967292 }) := by
  have HF : Hid (CodeAt W x r c) := h
  have c1 := h.sepc
  have f1 := h.fx
  clear h
  go_enter Tryz.func170, Tryz.ntmps170
  go_wp2
  go_end0
  exact ⟨rfl, HF.out.put_sepc A _, (Offs.refl _ _).put (by simp) _⟩
theorem side_322 (W : World) (x r : Nat) (c : CSt) (h : CodeAt W x r c) (A : x ≠ r) (v : Int) :
    Calls Tryz.prog 170 #[.pointer (some ⟨x, 40, none⟩), .int .u32 322, .int .u32 v] W (CP W x r { c with scause := bits .and .u32 v 2147483663 }) := by
  have HF : Hid (CodeAt W x r c) := h
  have c1 := h.scause
  have f1 := h.fx
  clear h
  go_enter Tryz.func170, Tryz.ntmps170
  go_wp2
  go_end0
  exact ⟨rfl, HF.out.put_scause A _, (Offs.refl _ _).put (by simp) _⟩
theorem side_323 (W : World) (x r : Nat) (c : CSt) (h : CodeAt W x r c) (A : x ≠ r) (v : Int) :
    Calls Tryz.prog 170 #[.pointer (some ⟨x, 40, none⟩), .int .u32 323, .int .u32 v] W (CP W x r { c with stval := v }) := by
  have HF : Hid (CodeAt W x r c) := h
  have c1 := h.stval
  have f1 := h.fx
  clear h
  go_enter Tryz.func170, Tryz.ntmps170
  go_wp2
  go_end0
  exact ⟨rfl, HF.out.put_stval A _, (Offs.refl _ _).put (by simp) _⟩
theorem side_773 (W : World) (x r : Nat) (c : CSt) (h : CodeAt W x r c) (A : x ≠ r) (v : Int) :
    Calls Tryz.prog 170 #[.pointer (some ⟨x, 45, none⟩), .int .u32 773, .int .u32 v] W (CP W x r { c with mtvec := bits .and .u32 v 4294967293 }) := by
  have HF : Hid (CodeAt W x r c) := h
  have c1 := h.mtvec
  have f1 := h.fx
  clear h
  go_enter Tryz.func170, Tryz.ntmps170
  go_wp2
  go_end0
  exact ⟨rfl, HF.out.put_mtvec A _, (Offs.refl _ _).put (by simp) _⟩
theorem side_832 (W : World) (x r : Nat) (c : CSt) (h : CodeAt W x r c) (A : x ≠ r) (v : Int) :
    Calls Tryz.prog 170 #[.pointer (some ⟨x, 45, none⟩), .int .u32 832, .int .u32 v] W (CP W x r { c with mscratch := v }) := by
  have HF : Hid (CodeAt W x r c) := h
  have c1 := h.mscratch
  have f1 := h.fx
  clear h
  go_enter Tryz.func170, Tryz.ntmps170
  go_wp2
  go_end0
  exact ⟨rfl, HF.out.put_mscratch A _, (Offs.refl _ _).put (by simp) _⟩
theorem side_833 (W : World) (x r : Nat) (c : CSt) (h : CodeAt W x r c) (A : x ≠ r) (v : Int) :
    Calls Tryz.prog 170 #[.pointer (some ⟨x, 45, none⟩), .int .u32 833, .int .u32 v] W (CP W x r { c with mepc := bits .and .u32 v 4294967292 }) := by
  have HF : Hid (CodeAt W x r c) := h
  have c1 := h.mepc
  have f1 := h.fx
  clear h
  go_enter Tryz.func170, Tryz.ntmps170
  go_wp2
  go_end0
  exact ⟨rfl, HF.out.put_mepc A _, (Offs.refl _ _).put (by simp) _⟩
theorem side_834 (W : World) (x r : Nat) (c : CSt) (h : CodeAt W x r c) (A : x ≠ r) (v : Int) :
    Calls Tryz.prog 170 #[.pointer (some ⟨x, 45, none⟩), .int .u32 834, .int .u32 v] W (CP W x r { c with mcause := bits .and .u32 v 2147483663 }) := by
  have HF : Hid (CodeAt W x r c) := h
  have c1 := h.mcause
  have f1 := h.fx
  clear h
  go_enter Tryz.func170, Tryz.ntmps170
  go_wp2
  go_end0
  exact ⟨rfl, HF.out.put_mcause A _, (Offs.refl _ _).put (by simp) _⟩
theorem side_835 (W : World) (x r : Nat) (c : CSt) (h : CodeAt W x r c) (A : x ≠ r) (v : Int) :
    Calls Tryz.prog 170 #[.pointer (some ⟨x, 45, none⟩), .int .u32 835, .int .u32 v] W (CP W x r { c with mtval := v }) := by
  have HF : Hid (CodeAt W x r c) := h
  have c1 := h.mtval
  have f1 := h.fx
  clear h
  go_enter Tryz.func170, Tryz.ntmps170
  go_wp2
  go_end0
  exact ⟨rfl, HF.out.put_mtval A _, (Offs.refl _ _).put (by simp) _⟩
set_option maxHeartbeats 1000000 in
set_option maxRecDepth 100000 in
theorem cset_256 (W : World) (x r : Nat) (c : CSt) (h : CodeAt W x r c) (A : x ≠ r) (v : Int) :
    Calls Tryz.prog 167 #[.pointer (some ⟨x, 35, none⟩), .int .u32 256, .int .u32 v] W (CP W x r (setC c 256 v)) := by
  rw [setC_256]
  have HF : Hid (CodeAt W x r c) := h
  have c1 := h.mstatus
  have f1 := h.fx
  clear h
  go_enter Tryz.func167, Tryz.ntmps167
  go_wp2_with (go_at_call 132; refine (mix_any _ _ _ _).mono ?_; rintro e w' ⟨rfl, hw⟩; rw [hw]; clear hw w')
  go_end0
  exact ⟨rfl, HF.out.put_mstatus A _, (Offs.refl _ _).put (by simp) _⟩
set_option maxHeartbeats 1000000 in
set_option maxRecDepth 100000 in
theorem cset_260 (W : World) (x r : Nat) (c : CSt) (h : CodeAt W x r c) (A : x ≠ r) (v : Int) :
    Calls Tryz.prog 167 #[.pointer (some ⟨x, 35, none⟩), .int .u32 260, .int .u32 v] W (CP W x r (setC c 260 v)) := by
  rw [setC_260]
  have HF : Hid (CodeAt W x r c) := h
  have c1 := h.mie
  have f1 := h.fx
  have hS : W.drew.cell? ⟨x, 37, none⟩ = some (.int .u32 c.mideleg) := h.mideleg
  clear h
  go_enter Tryz.func167, Tryz.ntmps167
  go_wp2_with fail
  refine wp_region_held (S := fun w' => w'.cell? ⟨x, 37, none⟩ = some (.int .u32 c.mideleg)) (by kernel_rfl) ?_
  change wpAnyH _ _ _ _ _ _ _ _ (W.drew)
  refine yK 0 (.pointer (some ⟨x, 35, none⟩)) hS ?_
  refine yK 1 (.pointer (some ⟨x, 35, none⟩)) hS ?_
  refine yK 2 (.pointer (some ⟨x, 35, none⟩)) hS ?_
  refine yK 3 (.pointer (some ⟨x, 38, none⟩)) hS ?_
  refine yK 5 (.int .u32 v) hS ?_
  refine yK 6 (.pointer (some ⟨x, 35, none⟩)) hS ?_
  refine yK 7 (.pointer (some ⟨x, 35, none⟩)) hS ?_
  refine yK 8 (.pointer (some ⟨x, 37, none⟩)) hS ?_
  refine yU 9 (fun _ h => h) hS ?_
  refine tA 4 (by kernel_rfl) (wpOp_step rfl fun K hK => ?_)
  go_simp
  refine hK _ _ ⟨hS, ?_⟩
  clear hK K
  refine tA 10 (by kernel_rfl) (wpOp_step rfl fun K hK => ?_)
  go_simp
  refine (mix_any _ _ _ _).mono ?_
  rintro e w' ⟨rfl, hw⟩
  rw [hw]
  clear hw w'
  refine hK _ _ ⟨hS, ?_⟩
  clear hK K
  refine yK 11 (.pointer (some ⟨x, 35, none⟩)) hS ?_
  refine yK 12 (.pointer (some ⟨x, 38, none⟩)) hS ?_
  refine tA 13 (by kernel_rfl) (wpOp_step rfl fun K hK => ?_)
  go_simp
  have P1 := (HF.out.put_mie A (mixV c.mie v c.mideleg)).drawn 1
  refine hK _ _ ⟨P1.mideleg, wpAnyH_done (by kernel_rfl) ?_ _⟩
  clear hK K
  go_wp2_with fail
  go_end0
  exact ⟨rfl, P1, ((Offs.refl _ _).put (by simp) _).drawn 1⟩
set_option maxHeartbeats 1000000 in
set_option maxRecDepth 100000 in
theorem cset_261 (W : World) (x r : Nat) (c : CSt) (h : CodeAt W x r c) (A : x ≠ r) (v : Int) :
    Calls Tryz.prog 167 #[.pointer (some ⟨x, 35, none⟩), .int .u32 261, .int .u32 v] W (CP W x r (setC c 261 v)) := by
  rw [setC_261]
  have HF : Hid (CodeAt W x r c) := h
  clear h
  go_enter Tryz.func167, Tryz.ntmps167
  go_wp2_with (go_at_call 170; refine (side_261 _ x r c HF.out A v).mono ?_; rintro e w1 ⟨rfl, h1, o1⟩)
  go_end0
  exact ⟨rfl, h1, o1⟩
set_option maxHeartbeats 1000000 in
set_option maxRecDepth 100000 in
theorem cset_320 (W : World) (x r : Nat) (c : CSt) (h : CodeAt W x r c) (A : x ≠ r) (v : Int) :
    Calls Tryz.prog 167 #[.pointer (some ⟨x, 35, none⟩), .int .u32 320, .int .u32 v] W (CP W x r (setC c 320 v)) := by
  rw [setC_320]
  have HF : Hid (CodeAt W x r c) := h
  clear h
  go_enter Tryz.func167, Tryz.ntmps167
  go_wp2_with (go_at_call 170; refine (side_320 _ x r c HF.out A v).mono ?_; rintro e w1 ⟨rfl, h1, o1⟩)
  go_end0
  exact ⟨rfl, h1, o1⟩
set_option maxHeartbeats 1000000 in
set_option maxRecDepth 100000 in
theorem cset_321 (W : World) (x r : Nat) (c : CSt) (h : CodeAt W x r c) (A : x ≠ r) (v : Int) :
    Calls Tryz.prog 167 #[.pointer (some ⟨x, 35, none⟩), .int .u32 321, .int .u32 v] W (CP W x r (setC c 321 v)) := by
  rw [setC_321]
  have HF : Hid (CodeAt W x r c) := h
  clear h
  go_enter Tryz.func167, Tryz.ntmps167
  go_wp2_with (go_at_call 170; refine (side_321 _ x r c HF.out A v).mono ?_; rintro e w1 ⟨rfl, h1, o1⟩)
  go_end0
  exact ⟨rfl, h1, o1⟩
set_option maxHeartbeats 1000000 in
set_option maxRecDepth 100000 in
theorem cset_322 (W : World) (x r : Nat) (c : CSt) (h : CodeAt W x r c) (A : x ≠ r) (v : Int) :
    Calls Tryz.prog 167 #[.pointer (some ⟨x, 35, none⟩), .int .u32 322, .int .u32 v] W (CP W x r (setC c 322 v)) := by
  rw [setC_322]
  have HF : Hid (CodeAt W x r c) := h
  clear h
  go_enter Tryz.func167, Tryz.ntmps167
  go_wp2_with (go_at_call 170; refine (side_322 _ x r c HF.out A v).mono ?_; rintro e w1 ⟨rfl, h1, o1⟩)
  go_end0
  exact ⟨rfl, h1, o1⟩
set_option maxHeartbeats 1000000 in
set_option maxRecDepth 100000 in
theorem cset_323 (W : World) (x r : Nat) (c : CSt) (h : CodeAt W x r c) (A : x ≠ r) (v : Int) :
    Calls Tryz.prog 167 #[.pointer (some ⟨x, 35, none⟩), .int .u32 323, .int .u32 v] W (CP W x r (setC c 323 v)) := by
  rw [setC_323]
  have HF : Hid (CodeAt W x r c) := h
  clear h
  go_enter Tryz.func167, Tryz.ntmps167
  go_wp2_with (go_at_call 170; refine (side_323 _ x r c HF.out A v).mono ?_; rintro e w1 ⟨rfl, h1, o1⟩)
  go_end0
  exact ⟨rfl, h1, o1⟩
set_option maxHeartbeats 1000000 in
set_option maxRecDepth 100000 in
theorem cset_324 (W : World) (x r : Nat) (c : CSt) (h : CodeAt W x r c) (A : x ≠ r) (v : Int) :
    Calls Tryz.prog 167 #[.pointer (some ⟨x, 35, none⟩), .int .u32 324, .int .u32 v] W (CP W x r (setC c 324 v)) := by
  rw [setC_324]
  have HF : Hid (CodeAt W x r c) := h
  have c1 := h.written
  have f1 := h.fx
  have hS : W.drew.cell? ⟨x, 37, none⟩ = some (.int .u32 c.mideleg) := h.mideleg
  clear h
  go_enter Tryz.func167, Tryz.ntmps167
  go_wp2_with fail
  refine wp_region_held (S := fun w' => w'.cell? ⟨x, 37, none⟩ = some (.int .u32 c.mideleg)) (by kernel_rfl) ?_
  change wpAnyH _ _ _ _ _ _ _ _ (W.drew)
  refine yK 0 (.pointer (some ⟨x, 35, none⟩)) hS ?_
  refine yK 1 (.pointer (some ⟨x, 35, none⟩)) hS ?_
  refine yK 2 (.pointer (some ⟨x, 35, none⟩)) hS ?_
  refine yK 3 (.pointer (some ⟨x, 39, none⟩)) hS ?_
  refine yK 5 (.int .u32 v) hS ?_
  refine yK 6 (.pointer (some ⟨x, 35, none⟩)) hS ?_
  refine yK 7 (.pointer (some ⟨x, 35, none⟩)) hS ?_
  refine yK 8 (.pointer (some ⟨x, 37, none⟩)) hS ?_
  refine yU 9 (fun _ h => h) hS ?_
  refine yK 10 (.int .u32 (bits .and .u32 c.mideleg 2)) hS ?_
  refine tA 4 (by kernel_rfl) (wpOp_step rfl fun K hK => ?_)
  go_simp
  refine hK _ _ ⟨hS, ?_⟩
  clear hK K
  refine tA 11 (by kernel_rfl) (wpOp_step rfl fun K hK => ?_)
  go_simp
  refine (mix_any _ _ _ _).mono ?_
  rintro e w' ⟨rfl, hw⟩
  rw [hw]
  clear hw w'
  refine hK _ _ ⟨hS, ?_⟩
  clear hK K
  refine yK 12 (.pointer (some ⟨x, 35, none⟩)) hS ?_
  refine yK 13 (.pointer (some ⟨x, 39, none⟩)) hS ?_
  refine tA 14 (by kernel_rfl) (wpOp_step rfl fun K hK => ?_)
  go_simp
  have P1 := (HF.out.put_written A (mixV c.written v (bits .and .u32 c.mideleg 2))).drawn 1
  refine hK _ _ ⟨P1.mideleg, wpAnyH_done (by kernel_rfl) ?_ _⟩
  clear hK K
  go_wp2_with fail
  go_end0
  exact ⟨rfl, P1, ((Offs.refl _ _).put (by simp) _).drawn 1⟩
set_option maxHeartbeats 1000000 in
set_option maxRecDepth 100000 in
theorem cset_768 (W : World) (x r : Nat) (c : CSt) (h : CodeAt W x r c) (A : x ≠ r) (v : Int) :
    Calls Tryz.prog 167 #[.pointer (some ⟨x, 35, none⟩), .int .u32 768, .int .u32 v] W (CP W x r (setC c 768 v)) := by
  rw [setC_768]
  have HF : Hid (CodeAt W x r c) := h
  clear h
  go_enter Tryz.func167, Tryz.ntmps167
  go_wp2_with (go_at_call 171; refine (setStatus_any _ x r c HF.out A v).mono ?_; rintro e w1 ⟨rfl, h1, o1⟩)
  go_end0
  exact ⟨rfl, h1, o1⟩
set_option maxHeartbeats 1000000 in
set_option maxRecDepth 100000 in
theorem cset_770 (W : World) (x r : Nat) (c : CSt) (h : CodeAt W x r c) (A : x ≠ r) (v : Int) :
    Calls Tryz.prog 167 #[.pointer (some ⟨x, 35, none⟩), .int .u32 770, .int .u32 v] W (CP W x r (setC c 770 v)) := by
  rw [setC_770]
  have HF : Hid (CodeAt W x r c) := h
  have c1 := h.medeleg
  have f1 := h.fx
  clear h
  go_enter Tryz.func167, Tryz.ntmps167
  go_wp2_with (go_at_call 132; refine (mix_any _ _ _ _).mono ?_; rintro e w' ⟨rfl, hw⟩; rw [hw]; clear hw w')
  go_end0
  exact ⟨rfl, HF.out.put_medeleg A _, (Offs.refl _ _).put (by simp) _⟩
set_option maxHeartbeats 1000000 in
set_option maxRecDepth 100000 in
theorem cset_771 (W : World) (x r : Nat) (c : CSt) (h : CodeAt W x r c) (A : x ≠ r) (v : Int) :
    Calls Tryz.prog 167 #[.pointer (some ⟨x, 35, none⟩), .int .u32 771, .int .u32 v] W (CP W x r (setC c 771 v)) := by
  rw [setC_771]
  have HF : Hid (CodeAt W x r c) := h
  have c1 := h.mideleg
  have f1 := h.fx
  clear h
  go_enter Tryz.func167, Tryz.ntmps167
  go_wp2_with (go_at_call 132; refine (mix_any _ _ _ _).mono ?_; rintro e w' ⟨rfl, hw⟩; rw [hw]; clear hw w')
  go_end0
  exact ⟨rfl, HF.out.put_mideleg A _, (Offs.refl _ _).put (by simp) _⟩
set_option maxHeartbeats 1000000 in
set_option maxRecDepth 100000 in
theorem cset_772 (W : World) (x r : Nat) (c : CSt) (h : CodeAt W x r c) (A : x ≠ r) (v : Int) :
    Calls Tryz.prog 167 #[.pointer (some ⟨x, 35, none⟩), .int .u32 772, .int .u32 v] W (CP W x r (setC c 772 v)) := by
  rw [setC_772]
  have HF : Hid (CodeAt W x r c) := h
  have c1 := h.mie
  have f1 := h.fx
  clear h
  go_enter Tryz.func167, Tryz.ntmps167
  go_wp2_with (go_at_call 132; refine (mix_any _ _ _ _).mono ?_; rintro e w' ⟨rfl, hw⟩; rw [hw]; clear hw w')
  go_end0
  exact ⟨rfl, HF.out.put_mie A _, (Offs.refl _ _).put (by simp) _⟩
set_option maxHeartbeats 1000000 in
set_option maxRecDepth 100000 in
theorem cset_773 (W : World) (x r : Nat) (c : CSt) (h : CodeAt W x r c) (A : x ≠ r) (v : Int) :
    Calls Tryz.prog 167 #[.pointer (some ⟨x, 35, none⟩), .int .u32 773, .int .u32 v] W (CP W x r (setC c 773 v)) := by
  rw [setC_773]
  have HF : Hid (CodeAt W x r c) := h
  clear h
  go_enter Tryz.func167, Tryz.ntmps167
  go_wp2_with (go_at_call 170; refine (side_773 _ x r c HF.out A v).mono ?_; rintro e w1 ⟨rfl, h1, o1⟩)
  go_end0
  exact ⟨rfl, h1, o1⟩
set_option maxHeartbeats 1000000 in
set_option maxRecDepth 100000 in
theorem cset_832 (W : World) (x r : Nat) (c : CSt) (h : CodeAt W x r c) (A : x ≠ r) (v : Int) :
    Calls Tryz.prog 167 #[.pointer (some ⟨x, 35, none⟩), .int .u32 832, .int .u32 v] W (CP W x r (setC c 832 v)) := by
  rw [setC_832]
  have HF : Hid (CodeAt W x r c) := h
  clear h
  go_enter Tryz.func167, Tryz.ntmps167
  go_wp2_with (go_at_call 170; refine (side_832 _ x r c HF.out A v).mono ?_; rintro e w1 ⟨rfl, h1, o1⟩)
  go_end0
  exact ⟨rfl, h1, o1⟩
set_option maxHeartbeats 1000000 in
set_option maxRecDepth 100000 in
theorem cset_833 (W : World) (x r : Nat) (c : CSt) (h : CodeAt W x r c) (A : x ≠ r) (v : Int) :
    Calls Tryz.prog 167 #[.pointer (some ⟨x, 35, none⟩), .int .u32 833, .int .u32 v] W (CP W x r (setC c 833 v)) := by
  rw [setC_833]
  have HF : Hid (CodeAt W x r c) := h
  clear h
  go_enter Tryz.func167, Tryz.ntmps167
  go_wp2_with (go_at_call 170; refine (side_833 _ x r c HF.out A v).mono ?_; rintro e w1 ⟨rfl, h1, o1⟩)
  go_end0
  exact ⟨rfl, h1, o1⟩
set_option maxHeartbeats 1000000 in
set_option maxRecDepth 100000 in
theorem cset_834 (W : World) (x r : Nat) (c : CSt) (h : CodeAt W x r c) (A : x ≠ r) (v : Int) :
    Calls Tryz.prog 167 #[.pointer (some ⟨x, 35, none⟩), .int .u32 834, .int .u32 v] W (CP W x r (setC c 834 v)) := by
  rw [setC_834]
  have HF : Hid (CodeAt W x r c) := h
  clear h
  go_enter Tryz.func167, Tryz.ntmps167
  go_wp2_with (go_at_call 170; refine (side_834 _ x r c HF.out A v).mono ?_; rintro e w1 ⟨rfl, h1, o1⟩)
  go_end0
  exact ⟨rfl, h1, o1⟩
set_option maxHeartbeats 1000000 in
set_option maxRecDepth 100000 in
theorem cset_835 (W : World) (x r : Nat) (c : CSt) (h : CodeAt W x r c) (A : x ≠ r) (v : Int) :
    Calls Tryz.prog 167 #[.pointer (some ⟨x, 35, none⟩), .int .u32 835, .int .u32 v] W (CP W x r (setC c 835 v)) := by
  rw [setC_835]
  have HF : Hid (CodeAt W x r c) := h
  clear h
  go_enter Tryz.func167, Tryz.ntmps167
  go_wp2_with (go_at_call 170; refine (side_835 _ x r c HF.out A v).mono ?_; rintro e w1 ⟨rfl, h1, o1⟩)
  go_end0
  exact ⟨rfl, h1, o1⟩
set_option maxHeartbeats 1000000 in
set_option maxRecDepth 100000 in
theorem cset_836 (W : World) (x r : Nat) (c : CSt) (h : CodeAt W x r c) (A : x ≠ r) (v : Int) :
    Calls Tryz.prog 167 #[.pointer (some ⟨x, 35, none⟩), .int .u32 836, .int .u32 v] W (CP W x r (setC c 836 v)) := by
  rw [setC_836]
  have HF : Hid (CodeAt W x r c) := h
  have c1 := h.written
  have f1 := h.fx
  clear h
  go_enter Tryz.func167, Tryz.ntmps167
  go_wp2_with (go_at_call 132; refine (mix_any _ _ _ _).mono ?_; rintro e w' ⟨rfl, hw⟩; rw [hw]; clear hw w')
  go_end0
  exact ⟨rfl, HF.out.put_written A _, (Offs.refl _ _).put (by simp) _⟩
set_option maxHeartbeats 1000000 in
set_option maxRecDepth 100000 in
theorem cset_3860 (W : World) (x r : Nat) (c : CSt) (h : CodeAt W x r c) (_A : x ≠ r) (v : Int) :
    Calls Tryz.prog 167 #[.pointer (some ⟨x, 35, none⟩), .int .u32 3860, .int .u32 v] W (CP W x r (setC c 3860 v)) := by
  rw [setC_3860]
  have HF : Hid (CodeAt W x r c) := h
  clear h
  go_enter Tryz.func167, Tryz.ntmps167
  go_wp2
  go_end0
  exact ⟨rfl, HF.out, Offs.refl _ _⟩
theorem cset_any (W : World) (x r : Nat) (c : CSt) (h : CodeAt W x r c) (A : x ≠ r) (n : Nat) (hn : n ∈ [256, 260, 261, 320, 321, 322, 323, 324, 768, 770, 771, 772, 773, 832, 833, 834, 835, 836, 3860]) (v : Int) :
    Calls Tryz.prog 167 #[.pointer (some ⟨x, 35, none⟩), .int .u32 n, .int .u32 v] W (CP W x r (setC c n v)) := by
  simp only [List.mem_cons, List.not_mem_nil, or_false] at hn
  rcases hn with rfl | rfl | rfl | rfl | rfl | rfl | rfl | rfl | rfl | rfl | rfl | rfl | rfl | rfl | rfl | rfl | rfl | rfl | rfl
  · exact cset_256 W x r c h A v
  · exact cset_260 W x r c h A v
  · exact cset_261 W x r c h A v
  · exact cset_320 W x r c h A v
  · exact cset_321 W x r c h A v
  · exact cset_322 W x r c h A v
  · exact cset_323 W x r c h A v
  · exact cset_324 W x r c h A v
  · exact cset_768 W x r c h A v
  · exact cset_770 W x r c h A v
  · exact cset_771 W x r c h A v
  · exact cset_772 W x r c h A v
  · exact cset_773 W x r c h A v
  · exact cset_832 W x r c h A v
  · exact cset_833 W x r c h A v
  · exact cset_834 W x r c h A v
  · exact cset_835 W x r c h A v
  · exact cset_836 W x r c h A v
  · exact cset_3860 W x r c h A v
end Go.Proofs.YteiideeechnekaaGreatDoor
