import Derived.Test.YteiideeechnekaaGreatDoorRefMask
import Derived.Test.YteiideeechnekaaGreatDoorRefTrap
import Derived.Test.YteiideeechnekaaGreatDoorDLeaf
/-
  The document's Csr at a number that there is not, and setCsr.
-/
namespace Go.Proofs.YteiideeechnekaaGreatDoor
open Go.RowKit

theorem mcsr_none (W : World) (p n : Nat) (h768 : ((n : Int) == 768) = false) (h770 : ((n : Int) == 770) = false) (h771 : ((n : Int) == 771) = false) (h772 : ((n : Int) == 772) = false) (h773 : ((n : Int) == 773) = false) (h832 : ((n : Int) == 832) = false) (h833 : ((n : Int) == 833) = false) (h834 : ((n : Int) == 834) = false) (h835 : ((n : Int) == 835) = false) (h836 : ((n : Int) == 836) = false) (h3860 : ((n : Int) == 3860) = false) : Calls Tryz.prog 102 #[.pointer (some ⟨p, 0, none⟩), .int .u32 n] W fun e W' => e = .returned (.tuple #[.int .u32 0, .bool false]) ∧ W' = W := by
  go_enter Tryz.func102, Tryz.ntmps102
  go_wp2
  go_ret2
  exact ⟨rfl, rfl⟩
theorem csr_none (W : World) (p n : Nat) (h256 : ((n : Int) == 256) = false) (h260 : ((n : Int) == 260) = false) (h261 : ((n : Int) == 261) = false) (h320 : ((n : Int) == 320) = false) (h321 : ((n : Int) == 321) = false) (h322 : ((n : Int) == 322) = false) (h323 : ((n : Int) == 323) = false) (h324 : ((n : Int) == 324) = false) (h768 : ((n : Int) == 768) = false) (h770 : ((n : Int) == 770) = false) (h771 : ((n : Int) == 771) = false) (h772 : ((n : Int) == 772) = false) (h773 : ((n : Int) == 773) = false) (h832 : ((n : Int) == 832) = false) (h833 : ((n : Int) == 833) = false) (h834 : ((n : Int) == 834) = false) (h835 : ((n : Int) == 835) = false) (h836 : ((n : Int) == 836) = false) (h3860 : ((n : Int) == 3860) = false) : Calls Tryz.prog 68 #[.pointer (some ⟨p, 0, none⟩), .int .u32 n] W fun e W' => e = .returned (.tuple #[.int .u32 0, .bool false]) ∧ W' = W := by
  go_enter Tryz.func68, Tryz.ntmps68
  go_wp2_with (go_at_call 102; refine (mcsr_none _ p n h768 h770 h771 h772 h773 h832 h833 h834 h835 h836 h3860).mono ?_; rintro e w' ⟨rfl, rfl⟩)
  go_ret2
  exact ⟨rfl, rfl⟩

set_option maxHeartbeats 1000000 in
theorem smcsr_770 (W : World) (p : Nat) (b : RBl) (s : RSt) (h : RefAt W p b s) (A : b.Apart p) (v : Int) : Calls Tryz.prog 129 #[.pointer (some ⟨p, 0, none⟩), .int .u32 770, .int .u32 v] W (RP W p b { s with medeleg := bits .and .u32 v 943 }) := by
  have HF : Hid (RefAt W p b s) := h
  have c_medeleg := h.medeleg
  have fz := h.fp
  clear h
  go_enter Tryz.func129, Tryz.ntmps129
  go_wp2
  go_end0
  exact ⟨rfl, (HF.out.put_medeleg A _), ((Offs.refl _ _).put (by simp [RBl.l]) _)⟩
set_option maxHeartbeats 1000000 in
theorem smcsr_771 (W : World) (p : Nat) (b : RBl) (s : RSt) (h : RefAt W p b s) (A : b.Apart p) (v : Int) : Calls Tryz.prog 129 #[.pointer (some ⟨p, 0, none⟩), .int .u32 771, .int .u32 v] W (RP W p b { s with mideleg := bits .and .u32 v 546 }) := by
  have HF : Hid (RefAt W p b s) := h
  have c_mideleg := h.mideleg
  have fz := h.fp
  clear h
  go_enter Tryz.func129, Tryz.ntmps129
  go_wp2
  go_end0
  exact ⟨rfl, (HF.out.put_mideleg A _), ((Offs.refl _ _).put (by simp [RBl.l]) _)⟩
set_option maxHeartbeats 1000000 in
theorem smcsr_772 (W : World) (p : Nat) (b : RBl) (s : RSt) (h : RefAt W p b s) (A : b.Apart p) (v : Int) : Calls Tryz.prog 129 #[.pointer (some ⟨p, 0, none⟩), .int .u32 772, .int .u32 v] W (RP W p b { s with mie := bits .and .u32 v 2730 }) := by
  have HF : Hid (RefAt W p b s) := h
  have c_mie := h.mie
  have fz := h.fp
  clear h
  go_enter Tryz.func129, Tryz.ntmps129
  go_wp2
  go_end0
  exact ⟨rfl, (HF.out.put_mie A _), ((Offs.refl _ _).put (by simp [RBl.l]) _)⟩
set_option maxHeartbeats 1000000 in
theorem smcsr_773 (W : World) (p : Nat) (b : RBl) (s : RSt) (h : RefAt W p b s) (A : b.Apart p) (v : Int) : Calls Tryz.prog 129 #[.pointer (some ⟨p, 0, none⟩), .int .u32 773, .int .u32 v] W (RP W p b { s with mtvec := bits .and .u32 v 4294967293 }) := by
  have HF : Hid (RefAt W p b s) := h
  have c_mtvec := h.mtvec
  have fz := h.fp
  clear h
  go_enter Tryz.func129, Tryz.ntmps129
  go_wp2
  go_end0
  exact ⟨rfl, (HF.out.put_mtvec A _), ((Offs.refl _ _).put (by simp [RBl.l]) _)⟩
set_option maxHeartbeats 1000000 in
theorem smcsr_832 (W : World) (p : Nat) (b : RBl) (s : RSt) (h : RefAt W p b s) (A : b.Apart p) (v : Int) : Calls Tryz.prog 129 #[.pointer (some ⟨p, 0, none⟩), .int .u32 832, .int .u32 v] W (RP W p b { s with mscratch := v }) := by
  have HF : Hid (RefAt W p b s) := h
  have c_mscratch := h.mscratch
  have fz := h.fp
  clear h
  go_enter Tryz.func129, Tryz.ntmps129
  go_wp2
  go_end0
  exact ⟨rfl, (HF.out.put_mscratch A _), ((Offs.refl _ _).put (by simp [RBl.l]) _)⟩
set_option maxHeartbeats 1000000 in
theorem smcsr_833 (W : World) (p : Nat) (b : RBl) (s : RSt) (h : RefAt W p b s) (A : b.Apart p) (v : Int) : Calls Tryz.prog 129 #[.pointer (some ⟨p, 0, none⟩), .int .u32 833, .int .u32 v] W (RP W p b { s with mepc := bits .and .u32 v 4294967292 }) := by
  have HF : Hid (RefAt W p b s) := h
  have c_mepc := h.mepc
  have fz := h.fp
  clear h
  go_enter Tryz.func129, Tryz.ntmps129
  go_wp2
  go_end0
  exact ⟨rfl, (HF.out.put_mepc A _), ((Offs.refl _ _).put (by simp [RBl.l]) _)⟩
set_option maxHeartbeats 1000000 in
theorem smcsr_834 (W : World) (p : Nat) (b : RBl) (s : RSt) (h : RefAt W p b s) (A : b.Apart p) (v : Int) : Calls Tryz.prog 129 #[.pointer (some ⟨p, 0, none⟩), .int .u32 834, .int .u32 v] W (RP W p b { s with mcause := bits .and .u32 v 2147483663 }) := by
  have HF : Hid (RefAt W p b s) := h
  have c_mcause := h.mcause
  have fz := h.fp
  clear h
  go_enter Tryz.func129, Tryz.ntmps129
  go_wp2
  go_end0
  exact ⟨rfl, (HF.out.put_mcause A _), ((Offs.refl _ _).put (by simp [RBl.l]) _)⟩
set_option maxHeartbeats 1000000 in
theorem smcsr_835 (W : World) (p : Nat) (b : RBl) (s : RSt) (h : RefAt W p b s) (A : b.Apart p) (v : Int) : Calls Tryz.prog 129 #[.pointer (some ⟨p, 0, none⟩), .int .u32 835, .int .u32 v] W (RP W p b { s with mtval := v }) := by
  have HF : Hid (RefAt W p b s) := h
  have c_mtval := h.mtval
  have fz := h.fp
  clear h
  go_enter Tryz.func129, Tryz.ntmps129
  go_wp2
  go_end0
  exact ⟨rfl, (HF.out.put_mtval A _), ((Offs.refl _ _).put (by simp [RBl.l]) _)⟩
set_option maxHeartbeats 1000000 in
theorem smcsr_836 (W : World) (p : Nat) (b : RBl) (s : RSt) (h : RefAt W p b s) (A : b.Apart p) (v : Int) : Calls Tryz.prog 129 #[.pointer (some ⟨p, 0, none⟩), .int .u32 836, .int .u32 v] W (RP W p b { s with soft := bits .and .u32 v 34 }) := by
  have HF : Hid (RefAt W p b s) := h
  have c_soft := h.soft
  have fz := h.fp
  clear h
  go_enter Tryz.func129, Tryz.ntmps129
  go_wp2
  go_end0
  exact ⟨rfl, (HF.out.put_soft A _), ((Offs.refl _ _).put (by simp [RBl.l]) _)⟩
set_option maxHeartbeats 1000000 in
theorem smcsr_768a (W : World) (p : Nat) (b : RBl) (s : RSt) (h : RefAt W p b s) (A : b.Apart p) (v : Int) (v0 : 0 ≤ v) (v1 : v < 4294967296) (h2 : (v / 2048 % 4 != 2) = true) : Calls Tryz.prog 129 #[.pointer (some ⟨p, 0, none⟩), .int .u32 768, .int .u32 v] W (RP W p b { s with sie := isB v 1, mieb := isB v 3, spie := isB v 5, mpie := isB v 7, spp := v / 256 % 2, mpp := v / 2048 % 4, tw := isB v 21, tsr := isB v 22 }) := by
  have HF : Hid (RefAt W p b s) := h
  have c_sie := h.sie
  have c_mieb := h.mieb
  have c_spie := h.spie
  have c_mpie := h.mpie
  have c_spp := h.spp
  have c_mpp := h.mpp
  have c_tw := h.tw
  have c_tsr := h.tsr
  have fz := h.fp
  clear h
  have m9 : bits .and .u32 (v / 256) 1 = v / 256 % 2 := by have := D.mask_u32 1 (by decide) (v / 256) (by omega) (by omega); simpa using this
  have m8 : bits .and .u32 (v / 2048) 3 = v / 2048 % 4 := by have := D.mask_u32 2 (by decide) (v / 2048) (by omega) (by omega); simpa using this
  go_enter Tryz.func129, Tryz.ntmps129
  go_wp2_with (first | (go_at_call_of 27 (Value.int IntKind.i64 1); refine (is_any _ _ 1 (by decide)).mono ?_; rintro e w' ⟨rfl, rfl⟩) | (go_at_call_of 27 (Value.int IntKind.i64 3); refine (is_any _ _ 3 (by decide)).mono ?_; rintro e w' ⟨rfl, rfl⟩) | (go_at_call_of 27 (Value.int IntKind.i64 5); refine (is_any _ _ 5 (by decide)).mono ?_; rintro e w' ⟨rfl, rfl⟩) | (go_at_call_of 27 (Value.int IntKind.i64 7); refine (is_any _ _ 7 (by decide)).mono ?_; rintro e w' ⟨rfl, rfl⟩) | (go_at_call_of 27 (Value.int IntKind.i64 21); refine (is_any _ _ 21 (by decide)).mono ?_; rintro e w' ⟨rfl, rfl⟩) | (go_at_call_of 27 (Value.int IntKind.i64 22); refine (is_any _ _ 22 (by decide)).mono ?_; rintro e w' ⟨rfl, rfl⟩))
  go_end0
  exact ⟨rfl, ((((((((HF.out.put_sie A _).put_mieb A _).put_spie A _).put_mpie A _).put_spp A _).put_mpp A _).put_tw A _).put_tsr A _), (((((((((Offs.refl _ _).put (by simp [RBl.l]) _).put (by simp [RBl.l]) _).put (by simp [RBl.l]) _).put (by simp [RBl.l]) _).put (by simp [RBl.l]) _).put (by simp [RBl.l]) _).put (by simp [RBl.l]) _).put (by simp [RBl.l]) _)⟩
set_option maxHeartbeats 1000000 in
theorem smcsr_768b (W : World) (p : Nat) (b : RBl) (s : RSt) (h : RefAt W p b s) (A : b.Apart p) (v : Int) (v0 : 0 ≤ v) (v1 : v < 4294967296) (h2 : (v / 2048 % 4 != 2) = false) : Calls Tryz.prog 129 #[.pointer (some ⟨p, 0, none⟩), .int .u32 768, .int .u32 v] W (RP W p b { s with sie := isB v 1, mieb := isB v 3, spie := isB v 5, mpie := isB v 7, spp := v / 256 % 2, tw := isB v 21, tsr := isB v 22 }) := by
  have HF : Hid (RefAt W p b s) := h
  have c_sie := h.sie
  have c_mieb := h.mieb
  have c_spie := h.spie
  have c_mpie := h.mpie
  have c_spp := h.spp
  have c_tw := h.tw
  have c_tsr := h.tsr
  have fz := h.fp
  clear h
  have m9 : bits .and .u32 (v / 256) 1 = v / 256 % 2 := by have := D.mask_u32 1 (by decide) (v / 256) (by omega) (by omega); simpa using this
  have m8 : bits .and .u32 (v / 2048) 3 = v / 2048 % 4 := by have := D.mask_u32 2 (by decide) (v / 2048) (by omega) (by omega); simpa using this
  go_enter Tryz.func129, Tryz.ntmps129
  go_wp2_with (first | (go_at_call_of 27 (Value.int IntKind.i64 1); refine (is_any _ _ 1 (by decide)).mono ?_; rintro e w' ⟨rfl, rfl⟩) | (go_at_call_of 27 (Value.int IntKind.i64 3); refine (is_any _ _ 3 (by decide)).mono ?_; rintro e w' ⟨rfl, rfl⟩) | (go_at_call_of 27 (Value.int IntKind.i64 5); refine (is_any _ _ 5 (by decide)).mono ?_; rintro e w' ⟨rfl, rfl⟩) | (go_at_call_of 27 (Value.int IntKind.i64 7); refine (is_any _ _ 7 (by decide)).mono ?_; rintro e w' ⟨rfl, rfl⟩) | (go_at_call_of 27 (Value.int IntKind.i64 21); refine (is_any _ _ 21 (by decide)).mono ?_; rintro e w' ⟨rfl, rfl⟩) | (go_at_call_of 27 (Value.int IntKind.i64 22); refine (is_any _ _ 22 (by decide)).mono ?_; rintro e w' ⟨rfl, rfl⟩))
  go_end0
  exact ⟨rfl, (((((((HF.out.put_sie A _).put_mieb A _).put_spie A _).put_mpie A _).put_spp A _).put_tw A _).put_tsr A _), ((((((((Offs.refl _ _).put (by simp [RBl.l]) _).put (by simp [RBl.l]) _).put (by simp [RBl.l]) _).put (by simp [RBl.l]) _).put (by simp [RBl.l]) _).put (by simp [RBl.l]) _).put (by simp [RBl.l]) _)⟩
set_option maxHeartbeats 1000000 in
theorem scsr_256 (W : World) (p : Nat) (b : RBl) (s : RSt) (h : RefAt W p b s) (A : b.Apart p) (v : Int) (v0 : 0 ≤ v) (v1 : v < 4294967296) : Calls Tryz.prog 99 #[.pointer (some ⟨p, 0, none⟩), .int .u32 256, .int .u32 v] W (RP W p b { s with sie := isB v 1, spie := isB v 5, spp := v / 256 % 2 }) := by
  have HF : Hid (RefAt W p b s) := h
  have c_sie := h.sie
  have c_spie := h.spie
  have c_spp := h.spp
  have fz := h.fp
  clear h
  have m9 : bits .and .u32 (v / 256) 1 = v / 256 % 2 := by have := D.mask_u32 1 (by decide) (v / 256) (by omega) (by omega); simpa using this
  go_enter Tryz.func99, Tryz.ntmps99
  go_wp2_with (first | (go_at_call_of 27 (Value.int IntKind.i64 1); refine (is_any _ _ 1 (by decide)).mono ?_; rintro e w' ⟨rfl, rfl⟩) | (go_at_call_of 27 (Value.int IntKind.i64 5); refine (is_any _ _ 5 (by decide)).mono ?_; rintro e w' ⟨rfl, rfl⟩))
  go_end0
  exact ⟨rfl, (((HF.out.put_sie A _).put_spie A _).put_spp A _), ((((Offs.refl _ _).put (by simp [RBl.l]) _).put (by simp [RBl.l]) _).put (by simp [RBl.l]) _)⟩
set_option maxHeartbeats 1000000 in
theorem scsr_260 (W : World) (p : Nat) (b : RBl) (s : RSt) (h : RefAt W p b s) (A : b.Apart p) (v : Int) : Calls Tryz.prog 99 #[.pointer (some ⟨p, 0, none⟩), .int .u32 260, .int .u32 v] W (RP W p b { s with mie := bits .or .u32 (bits .andNot .u32 s.mie s.mideleg) (bits .and .u32 v s.mideleg) }) := by
  have HF : Hid (RefAt W p b s) := h
  have c_mie := h.mie
  have c_mideleg := h.mideleg
  have fz := h.fp
  clear h
  go_enter Tryz.func99, Tryz.ntmps99
  go_wp2_with fail
  go_region_with fail
  all_goals go_wp2
  all_goals go_end0
  all_goals exact ⟨rfl, (HF.out.put_mie A _).drawn 1, ((Offs.refl _ _).put (by simp [RBl.l]) _).drawn 1⟩
set_option maxHeartbeats 1000000 in
theorem scsr_261 (W : World) (p : Nat) (b : RBl) (s : RSt) (h : RefAt W p b s) (A : b.Apart p) (v : Int) : Calls Tryz.prog 99 #[.pointer (some ⟨p, 0, none⟩), .int .u32 261, .int .u32 v] W (RP W p b { s with stvec := bits .and .u32 v 4294967293 }) := by
  have HF : Hid (RefAt W p b s) := h
  have c_stvec := h.stvec
  have fz := h.fp
  clear h
  go_enter Tryz.func99, Tryz.ntmps99
  go_wp2
  go_end0
  exact ⟨rfl, (HF.out.put_stvec A _), ((Offs.refl _ _).put (by simp [RBl.l]) _)⟩
set_option maxHeartbeats 1000000 in
theorem scsr_320 (W : World) (p : Nat) (b : RBl) (s : RSt) (h : RefAt W p b s) (A : b.Apart p) (v : Int) : Calls Tryz.prog 99 #[.pointer (some ⟨p, 0, none⟩), .int .u32 320, .int .u32 v] W (RP W p b { s with sscratch := v }) := by
  have HF : Hid (RefAt W p b s) := h
  have c_sscratch := h.sscratch
  have fz := h.fp
  clear h
  go_enter Tryz.func99, Tryz.ntmps99
  go_wp2
  go_end0
  exact ⟨rfl, (HF.out.put_sscratch A _), ((Offs.refl _ _).put (by simp [RBl.l]) _)⟩
set_option maxHeartbeats 1000000 in
theorem scsr_321 (W : World) (p : Nat) (b : RBl) (s : RSt) (h : RefAt W p b s) (A : b.Apart p) (v : Int) : Calls Tryz.prog 99 #[.pointer (some ⟨p, 0, none⟩), .int .u32 321, .int .u32 v] W (RP W p b { s with sepc := bits .and .u32 v 4294967292 }) := by
  have HF : Hid (RefAt W p b s) := h
  have c_sepc := h.sepc
  have fz := h.fp
  clear h
  go_enter Tryz.func99, Tryz.ntmps99
  go_wp2
  go_end0
  exact ⟨rfl, (HF.out.put_sepc A _), ((Offs.refl _ _).put (by simp [RBl.l]) _)⟩
set_option maxHeartbeats 1000000 in
theorem scsr_322 (W : World) (p : Nat) (b : RBl) (s : RSt) (h : RefAt W p b s) (A : b.Apart p) (v : Int) : Calls Tryz.prog 99 #[.pointer (some ⟨p, 0, none⟩), .int .u32 322, .int .u32 v] W (RP W p b { s with scause := bits .and .u32 v 2147483663 }) := by
  have HF : Hid (RefAt W p b s) := h
  have c_scause := h.scause
  have fz := h.fp
  clear h
  go_enter Tryz.func99, Tryz.ntmps99
  go_wp2
  go_end0
  exact ⟨rfl, (HF.out.put_scause A _), ((Offs.refl _ _).put (by simp [RBl.l]) _)⟩
set_option maxHeartbeats 1000000 in
theorem scsr_323 (W : World) (p : Nat) (b : RBl) (s : RSt) (h : RefAt W p b s) (A : b.Apart p) (v : Int) : Calls Tryz.prog 99 #[.pointer (some ⟨p, 0, none⟩), .int .u32 323, .int .u32 v] W (RP W p b { s with stval := v }) := by
  have HF : Hid (RefAt W p b s) := h
  have c_stval := h.stval
  have fz := h.fp
  clear h
  go_enter Tryz.func99, Tryz.ntmps99
  go_wp2
  go_end0
  exact ⟨rfl, (HF.out.put_stval A _), ((Offs.refl _ _).put (by simp [RBl.l]) _)⟩
set_option maxHeartbeats 1000000 in
theorem scsr_324 (W : World) (p : Nat) (b : RBl) (s : RSt) (h : RefAt W p b s) (A : b.Apart p) (v : Int) : Calls Tryz.prog 99 #[.pointer (some ⟨p, 0, none⟩), .int .u32 324, .int .u32 v] W (RP W p b { s with soft := bits .or .u32 (bits .andNot .u32 s.soft (bits .and .u32 s.mideleg 2)) (bits .and .u32 v (bits .and .u32 s.mideleg 2)) }) := by
  have HF : Hid (RefAt W p b s) := h
  have c_soft := h.soft
  have c_mideleg := h.mideleg
  have fz := h.fp
  clear h
  go_enter Tryz.func99, Tryz.ntmps99
  go_wp2
  go_end0
  exact ⟨rfl, (HF.out.put_soft A _), ((Offs.refl _ _).put (by simp [RBl.l]) _)⟩
end Go.Proofs.YteiideeechnekaaGreatDoor

/-
  The document's setCsr, whole; what it leaves alone.
-/
namespace Go.Proofs.YteiideeechnekaaGreatDoor
open Go.RowKit

def stR (s : RSt) (n : Nat) (v : Int) : RSt :=
  if n = 256 then { s with sie := isB v 1, spie := isB v 5, spp := v / 256 % 2 }
  else if n = 260 then { s with mie := bits .or .u32 (bits .andNot .u32 s.mie s.mideleg) (bits .and .u32 v s.mideleg) }
  else if n = 261 then { s with stvec := bits .and .u32 v 4294967293 }
  else if n = 320 then { s with sscratch := v }
  else if n = 321 then { s with sepc := bits .and .u32 v 4294967292 }
  else if n = 322 then { s with scause := bits .and .u32 v 2147483663 }
  else if n = 323 then { s with stval := v }
  else if n = 324 then { s with soft := bits .or .u32 (bits .andNot .u32 s.soft (bits .and .u32 s.mideleg 2)) (bits .and .u32 v (bits .and .u32 s.mideleg 2)) }
  else if n = 768 then (if (v / 2048 % 4 != 2) = true then { s with sie := isB v 1, mieb := isB v 3, spie := isB v 5, mpie := isB v 7, spp := v / 256 % 2, mpp := v / 2048 % 4, tw := isB v 21, tsr := isB v 22 } else { s with sie := isB v 1, mieb := isB v 3, spie := isB v 5, mpie := isB v 7, spp := v / 256 % 2, tw := isB v 21, tsr := isB v 22 })
  else if n = 770 then { s with medeleg := bits .and .u32 v 943 }
  else if n = 771 then { s with mideleg := bits .and .u32 v 546 }
  else if n = 772 then { s with mie := bits .and .u32 v 2730 }
  else if n = 773 then { s with mtvec := bits .and .u32 v 4294967293 }
  else if n = 832 then { s with mscratch := v }
  else if n = 833 then { s with mepc := bits .and .u32 v 4294967292 }
  else if n = 834 then { s with mcause := bits .and .u32 v 2147483663 }
  else if n = 835 then { s with mtval := v }
  else if n = 836 then { s with soft := bits .and .u32 v 34 }
  else if n = 3860 then s
  else s
theorem stR_cnt (s : RSt) (n : Nat) (v : Int) : (stR s n v).traps = s.traps ∧ (stR s n v).system = s.system ∧ (stR s n v).device = s.device := by
  by_cases h256 : n = 256
  · subst h256; exact ⟨rfl, rfl, rfl⟩
  by_cases h260 : n = 260
  · subst h260; exact ⟨rfl, rfl, rfl⟩
  by_cases h261 : n = 261
  · subst h261; exact ⟨rfl, rfl, rfl⟩
  by_cases h320 : n = 320
  · subst h320; exact ⟨rfl, rfl, rfl⟩
  by_cases h321 : n = 321
  · subst h321; exact ⟨rfl, rfl, rfl⟩
  by_cases h322 : n = 322
  · subst h322; exact ⟨rfl, rfl, rfl⟩
  by_cases h323 : n = 323
  · subst h323; exact ⟨rfl, rfl, rfl⟩
  by_cases h324 : n = 324
  · subst h324; exact ⟨rfl, rfl, rfl⟩
  by_cases h768 : n = 768
  · subst h768
    by_cases hm : (v / 2048 % 4 != 2) = true
    · rw [show stR s 768 v = { s with sie := isB v 1, mieb := isB v 3, spie := isB v 5, mpie := isB v 7, spp := v / 256 % 2, mpp := v / 2048 % 4, tw := isB v 21, tsr := isB v 22 } by unfold stR; simp only [if_neg (show ¬ (768 : Nat) = 256 by decide), if_neg (show ¬ (768 : Nat) = 260 by decide), if_neg (show ¬ (768 : Nat) = 261 by decide), if_neg (show ¬ (768 : Nat) = 320 by decide), if_neg (show ¬ (768 : Nat) = 321 by decide), if_neg (show ¬ (768 : Nat) = 322 by decide), if_neg (show ¬ (768 : Nat) = 323 by decide), if_neg (show ¬ (768 : Nat) = 324 by decide), if_true, if_pos hm]]; exact ⟨rfl, rfl, rfl⟩
    · rw [show stR s 768 v = { s with sie := isB v 1, mieb := isB v 3, spie := isB v 5, mpie := isB v 7, spp := v / 256 % 2, tw := isB v 21, tsr := isB v 22 } by unfold stR; simp only [if_neg (show ¬ (768 : Nat) = 256 by decide), if_neg (show ¬ (768 : Nat) = 260 by decide), if_neg (show ¬ (768 : Nat) = 261 by decide), if_neg (show ¬ (768 : Nat) = 320 by decide), if_neg (show ¬ (768 : Nat) = 321 by decide), if_neg (show ¬ (768 : Nat) = 322 by decide), if_neg (show ¬ (768 : Nat) = 323 by decide), if_neg (show ¬ (768 : Nat) = 324 by decide), if_true, if_neg hm]]; exact ⟨rfl, rfl, rfl⟩
  by_cases h770 : n = 770
  · subst h770; exact ⟨rfl, rfl, rfl⟩
  by_cases h771 : n = 771
  · subst h771; exact ⟨rfl, rfl, rfl⟩
  by_cases h772 : n = 772
  · subst h772; exact ⟨rfl, rfl, rfl⟩
  by_cases h773 : n = 773
  · subst h773; exact ⟨rfl, rfl, rfl⟩
  by_cases h832 : n = 832
  · subst h832; exact ⟨rfl, rfl, rfl⟩
  by_cases h833 : n = 833
  · subst h833; exact ⟨rfl, rfl, rfl⟩
  by_cases h834 : n = 834
  · subst h834; exact ⟨rfl, rfl, rfl⟩
  by_cases h835 : n = 835
  · subst h835; exact ⟨rfl, rfl, rfl⟩
  by_cases h836 : n = 836
  · subst h836; exact ⟨rfl, rfl, rfl⟩
  by_cases h3860 : n = 3860
  · subst h3860; exact ⟨rfl, rfl, rfl⟩
  rw [show stR s n v = s by unfold stR; rw [if_neg h256, if_neg h260, if_neg h261, if_neg h320, if_neg h321, if_neg h322, if_neg h323, if_neg h324, if_neg h768, if_neg h770, if_neg h771, if_neg h772, if_neg h773, if_neg h832, if_neg h833, if_neg h834, if_neg h835, if_neg h836, if_neg h3860]]
  exact ⟨rfl, rfl, rfl⟩

theorem smcsr_3860 (W : World) (p : Nat) (b : RBl) (s : RSt) (h : RefAt W p b s) (_A : b.Apart p) (v : Int) : Calls Tryz.prog 129 #[.pointer (some ⟨p, 0, none⟩), .int .u32 3860, .int .u32 v] W (RP W p b (s)) := by
  have HF : Hid (RefAt W p b s) := h
  clear h
  go_enter Tryz.func129, Tryz.ntmps129
  go_wp2
  go_end0
  exact ⟨rfl, HF.out, Offs.refl _ _⟩
theorem scsr_768a (W : World) (p : Nat) (b : RBl) (s : RSt) (h : RefAt W p b s) (A : b.Apart p) (v : Int) (v0 : 0 ≤ v) (v1 : v < 4294967296) (h2 : (v / 2048 % 4 != 2) = true) : Calls Tryz.prog 99 #[.pointer (some ⟨p, 0, none⟩), .int .u32 768, .int .u32 v] W (RP W p b ({ s with sie := isB v 1, mieb := isB v 3, spie := isB v 5, mpie := isB v 7, spp := v / 256 % 2, mpp := v / 2048 % 4, tw := isB v 21, tsr := isB v 22 })) := by
  have HF : Hid (RefAt W p b s) := h
  have H2 : Hid ((v / 2048 % 4 != 2) = true) := h2
  clear h2
  clear h
  go_enter Tryz.func99, Tryz.ntmps99
  go_wp2_with (go_at_call 129; refine (smcsr_768a _ p b s HF.out A v v0 v1 H2.out).mono ?_; rintro e w1 ⟨rfl, h1, o1⟩)
  go_end0
  exact ⟨rfl, h1, o1⟩
theorem scsr_768b (W : World) (p : Nat) (b : RBl) (s : RSt) (h : RefAt W p b s) (A : b.Apart p) (v : Int) (v0 : 0 ≤ v) (v1 : v < 4294967296) (h2 : (v / 2048 % 4 != 2) = false) : Calls Tryz.prog 99 #[.pointer (some ⟨p, 0, none⟩), .int .u32 768, .int .u32 v] W (RP W p b ({ s with sie := isB v 1, mieb := isB v 3, spie := isB v 5, mpie := isB v 7, spp := v / 256 % 2, tw := isB v 21, tsr := isB v 22 })) := by
  have HF : Hid (RefAt W p b s) := h
  have H2 : Hid ((v / 2048 % 4 != 2) = false) := h2
  clear h2
  clear h
  go_enter Tryz.func99, Tryz.ntmps99
  go_wp2_with (go_at_call 129; refine (smcsr_768b _ p b s HF.out A v v0 v1 H2.out).mono ?_; rintro e w1 ⟨rfl, h1, o1⟩)
  go_end0
  exact ⟨rfl, h1, o1⟩
theorem scsr_770 (W : World) (p : Nat) (b : RBl) (s : RSt) (h : RefAt W p b s) (A : b.Apart p) (v : Int) : Calls Tryz.prog 99 #[.pointer (some ⟨p, 0, none⟩), .int .u32 770, .int .u32 v] W (RP W p b ({ s with medeleg := bits .and .u32 v 943 })) := by
  have HF : Hid (RefAt W p b s) := h
  clear h
  go_enter Tryz.func99, Tryz.ntmps99
  go_wp2_with (go_at_call 129; refine (smcsr_770 _ p b s HF.out A v).mono ?_; rintro e w1 ⟨rfl, h1, o1⟩)
  go_end0
  exact ⟨rfl, h1, o1⟩
theorem scsr_771 (W : World) (p : Nat) (b : RBl) (s : RSt) (h : RefAt W p b s) (A : b.Apart p) (v : Int) : Calls Tryz.prog 99 #[.pointer (some ⟨p, 0, none⟩), .int .u32 771, .int .u32 v] W (RP W p b ({ s with mideleg := bits .and .u32 v 546 })) := by
  have HF : Hid (RefAt W p b s) := h
  clear h
  go_enter Tryz.func99, Tryz.ntmps99
  go_wp2_with (go_at_call 129; refine (smcsr_771 _ p b s HF.out A v).mono ?_; rintro e w1 ⟨rfl, h1, o1⟩)
  go_end0
  exact ⟨rfl, h1, o1⟩
theorem scsr_772 (W : World) (p : Nat) (b : RBl) (s : RSt) (h : RefAt W p b s) (A : b.Apart p) (v : Int) : Calls Tryz.prog 99 #[.pointer (some ⟨p, 0, none⟩), .int .u32 772, .int .u32 v] W (RP W p b ({ s with mie := bits .and .u32 v 2730 })) := by
  have HF : Hid (RefAt W p b s) := h
  clear h
  go_enter Tryz.func99, Tryz.ntmps99
  go_wp2_with (go_at_call 129; refine (smcsr_772 _ p b s HF.out A v).mono ?_; rintro e w1 ⟨rfl, h1, o1⟩)
  go_end0
  exact ⟨rfl, h1, o1⟩
theorem scsr_773 (W : World) (p : Nat) (b : RBl) (s : RSt) (h : RefAt W p b s) (A : b.Apart p) (v : Int) : Calls Tryz.prog 99 #[.pointer (some ⟨p, 0, none⟩), .int .u32 773, .int .u32 v] W (RP W p b ({ s with mtvec := bits .and .u32 v 4294967293 })) := by
  have HF : Hid (RefAt W p b s) := h
  clear h
  go_enter Tryz.func99, Tryz.ntmps99
  go_wp2_with (go_at_call 129; refine (smcsr_773 _ p b s HF.out A v).mono ?_; rintro e w1 ⟨rfl, h1, o1⟩)
  go_end0
  exact ⟨rfl, h1, o1⟩
theorem scsr_832 (W : World) (p : Nat) (b : RBl) (s : RSt) (h : RefAt W p b s) (A : b.Apart p) (v : Int) : Calls Tryz.prog 99 #[.pointer (some ⟨p, 0, none⟩), .int .u32 832, .int .u32 v] W (RP W p b ({ s with mscratch := v })) := by
  have HF : Hid (RefAt W p b s) := h
  clear h
  go_enter Tryz.func99, Tryz.ntmps99
  go_wp2_with (go_at_call 129; refine (smcsr_832 _ p b s HF.out A v).mono ?_; rintro e w1 ⟨rfl, h1, o1⟩)
  go_end0
  exact ⟨rfl, h1, o1⟩
theorem scsr_833 (W : World) (p : Nat) (b : RBl) (s : RSt) (h : RefAt W p b s) (A : b.Apart p) (v : Int) : Calls Tryz.prog 99 #[.pointer (some ⟨p, 0, none⟩), .int .u32 833, .int .u32 v] W (RP W p b ({ s with mepc := bits .and .u32 v 4294967292 })) := by
  have HF : Hid (RefAt W p b s) := h
  clear h
  go_enter Tryz.func99, Tryz.ntmps99
  go_wp2_with (go_at_call 129; refine (smcsr_833 _ p b s HF.out A v).mono ?_; rintro e w1 ⟨rfl, h1, o1⟩)
  go_end0
  exact ⟨rfl, h1, o1⟩
theorem scsr_834 (W : World) (p : Nat) (b : RBl) (s : RSt) (h : RefAt W p b s) (A : b.Apart p) (v : Int) : Calls Tryz.prog 99 #[.pointer (some ⟨p, 0, none⟩), .int .u32 834, .int .u32 v] W (RP W p b ({ s with mcause := bits .and .u32 v 2147483663 })) := by
  have HF : Hid (RefAt W p b s) := h
  clear h
  go_enter Tryz.func99, Tryz.ntmps99
  go_wp2_with (go_at_call 129; refine (smcsr_834 _ p b s HF.out A v).mono ?_; rintro e w1 ⟨rfl, h1, o1⟩)
  go_end0
  exact ⟨rfl, h1, o1⟩
theorem scsr_835 (W : World) (p : Nat) (b : RBl) (s : RSt) (h : RefAt W p b s) (A : b.Apart p) (v : Int) : Calls Tryz.prog 99 #[.pointer (some ⟨p, 0, none⟩), .int .u32 835, .int .u32 v] W (RP W p b ({ s with mtval := v })) := by
  have HF : Hid (RefAt W p b s) := h
  clear h
  go_enter Tryz.func99, Tryz.ntmps99
  go_wp2_with (go_at_call 129; refine (smcsr_835 _ p b s HF.out A v).mono ?_; rintro e w1 ⟨rfl, h1, o1⟩)
  go_end0
  exact ⟨rfl, h1, o1⟩
theorem scsr_836 (W : World) (p : Nat) (b : RBl) (s : RSt) (h : RefAt W p b s) (A : b.Apart p) (v : Int) : Calls Tryz.prog 99 #[.pointer (some ⟨p, 0, none⟩), .int .u32 836, .int .u32 v] W (RP W p b ({ s with soft := bits .and .u32 v 34 })) := by
  have HF : Hid (RefAt W p b s) := h
  clear h
  go_enter Tryz.func99, Tryz.ntmps99
  go_wp2_with (go_at_call 129; refine (smcsr_836 _ p b s HF.out A v).mono ?_; rintro e w1 ⟨rfl, h1, o1⟩)
  go_end0
  exact ⟨rfl, h1, o1⟩
theorem scsr_3860 (W : World) (p : Nat) (b : RBl) (s : RSt) (h : RefAt W p b s) (A : b.Apart p) (v : Int) : Calls Tryz.prog 99 #[.pointer (some ⟨p, 0, none⟩), .int .u32 3860, .int .u32 v] W (RP W p b (s)) := by
  have HF : Hid (RefAt W p b s) := h
  clear h
  go_enter Tryz.func99, Tryz.ntmps99
  go_wp2_with (go_at_call 129; refine (smcsr_3860 _ p b s HF.out A v).mono ?_; rintro e w1 ⟨rfl, h1, o1⟩)
  go_end0
  exact ⟨rfl, h1, o1⟩
theorem setCsr_any (W : World) (p : Nat) (b : RBl) (s : RSt) (h : RefAt W p b s) (A : b.Apart p) (n : Nat) (hn : n ∈ [256, 260, 261, 320, 321, 322, 323, 324, 768, 770, 771, 772, 773, 832, 833, 834, 835, 836, 3860]) (v : Int) (v0 : 0 ≤ v) (v1 : v < 4294967296) :
    Calls Tryz.prog 99 #[.pointer (some ⟨p, 0, none⟩), .int .u32 n, .int .u32 v] W (RP W p b (stR s n v)) := by
  simp only [List.mem_cons, List.not_mem_nil, or_false] at hn
  rcases hn with rfl | rfl | rfl | rfl | rfl | rfl | rfl | rfl | rfl | rfl | rfl | rfl | rfl | rfl | rfl | rfl | rfl | rfl | rfl
  · exact scsr_256 W p b s h A v v0 v1
  · exact scsr_260 W p b s h A v
  · exact scsr_261 W p b s h A v
  · exact scsr_320 W p b s h A v
  · exact scsr_321 W p b s h A v
  · exact scsr_322 W p b s h A v
  · exact scsr_323 W p b s h A v
  · exact scsr_324 W p b s h A v
  · by_cases hm : (v / 2048 % 4 != 2) = true
    · rw [show stR s 768 v = { s with sie := isB v 1, mieb := isB v 3, spie := isB v 5, mpie := isB v 7, spp := v / 256 % 2, mpp := v / 2048 % 4, tw := isB v 21, tsr := isB v 22 } by unfold stR; simp only [if_neg (show ¬ (768 : Nat) = 256 by decide), if_neg (show ¬ (768 : Nat) = 260 by decide), if_neg (show ¬ (768 : Nat) = 261 by decide), if_neg (show ¬ (768 : Nat) = 320 by decide), if_neg (show ¬ (768 : Nat) = 321 by decide), if_neg (show ¬ (768 : Nat) = 322 by decide), if_neg (show ¬ (768 : Nat) = 323 by decide), if_neg (show ¬ (768 : Nat) = 324 by decide), if_true, if_pos hm]]
      exact scsr_768a W p b s h A v v0 v1 hm
    · rw [show stR s 768 v = { s with sie := isB v 1, mieb := isB v 3, spie := isB v 5, mpie := isB v 7, spp := v / 256 % 2, tw := isB v 21, tsr := isB v 22 } by unfold stR; simp only [if_neg (show ¬ (768 : Nat) = 256 by decide), if_neg (show ¬ (768 : Nat) = 260 by decide), if_neg (show ¬ (768 : Nat) = 261 by decide), if_neg (show ¬ (768 : Nat) = 320 by decide), if_neg (show ¬ (768 : Nat) = 321 by decide), if_neg (show ¬ (768 : Nat) = 322 by decide), if_neg (show ¬ (768 : Nat) = 323 by decide), if_neg (show ¬ (768 : Nat) = 324 by decide), if_true, if_neg hm]]
      exact scsr_768b W p b s h A v v0 v1 (by simpa using hm)
  · exact scsr_770 W p b s h A v
  · exact scsr_771 W p b s h A v
  · exact scsr_772 W p b s h A v
  · exact scsr_773 W p b s h A v
  · exact scsr_832 W p b s h A v
  · exact scsr_833 W p b s h A v
  · exact scsr_834 W p b s h A v
  · exact scsr_835 W p b s h A v
  · exact scsr_836 W p b s h A v
  · exact scsr_3860 W p b s h A v
end Go.Proofs.YteiideeechnekaaGreatDoor
