import Derived.Test.YteiideeechnekaaGreatDoorRefAt
/-
  The document's Csr, for each number; numbers.
-/
namespace Go.Proofs.YteiideeechnekaaGreatDoor
open Go.RowKit

structure Fine (s : RSt) : Prop where
  p0 : 0 ≤ s.spp
  p1 : s.spp ≤ 3
  m0 : 0 ≤ s.mpp
  m1 : s.mpp ≤ 3

theorem mcsr_770 (W : World) (p : Nat) (b : RBl) (s : RSt) (h : RefAt W p b s) : Calls Tryz.prog 102 #[.pointer (some ⟨p, 0, none⟩), .int .u32 770] W fun e W' => e = .returned (.tuple #[.int .u32 (s.medeleg), .bool true]) ∧ ∃ q, W' = W.drewN q := by
  have c1 := h.medeleg
  clear h
  go_enter Tryz.func102, Tryz.ntmps102
  go_wp2
  go_ret2
  exact ⟨rfl, 0, rfl⟩
theorem mcsr_771 (W : World) (p : Nat) (b : RBl) (s : RSt) (h : RefAt W p b s) : Calls Tryz.prog 102 #[.pointer (some ⟨p, 0, none⟩), .int .u32 771] W fun e W' => e = .returned (.tuple #[.int .u32 (s.mideleg), .bool true]) ∧ ∃ q, W' = W.drewN q := by
  have c1 := h.mideleg
  clear h
  go_enter Tryz.func102, Tryz.ntmps102
  go_wp2
  go_ret2
  exact ⟨rfl, 0, rfl⟩
theorem mcsr_772 (W : World) (p : Nat) (b : RBl) (s : RSt) (h : RefAt W p b s) : Calls Tryz.prog 102 #[.pointer (some ⟨p, 0, none⟩), .int .u32 772] W fun e W' => e = .returned (.tuple #[.int .u32 (s.mie), .bool true]) ∧ ∃ q, W' = W.drewN q := by
  have c1 := h.mie
  clear h
  go_enter Tryz.func102, Tryz.ntmps102
  go_wp2
  go_ret2
  exact ⟨rfl, 0, rfl⟩
theorem mcsr_773 (W : World) (p : Nat) (b : RBl) (s : RSt) (h : RefAt W p b s) : Calls Tryz.prog 102 #[.pointer (some ⟨p, 0, none⟩), .int .u32 773] W fun e W' => e = .returned (.tuple #[.int .u32 (s.mtvec), .bool true]) ∧ ∃ q, W' = W.drewN q := by
  have c1 := h.mtvec
  clear h
  go_enter Tryz.func102, Tryz.ntmps102
  go_wp2
  go_ret2
  exact ⟨rfl, 0, rfl⟩
theorem mcsr_832 (W : World) (p : Nat) (b : RBl) (s : RSt) (h : RefAt W p b s) : Calls Tryz.prog 102 #[.pointer (some ⟨p, 0, none⟩), .int .u32 832] W fun e W' => e = .returned (.tuple #[.int .u32 (s.mscratch), .bool true]) ∧ ∃ q, W' = W.drewN q := by
  have c1 := h.mscratch
  clear h
  go_enter Tryz.func102, Tryz.ntmps102
  go_wp2
  go_ret2
  exact ⟨rfl, 0, rfl⟩
theorem mcsr_833 (W : World) (p : Nat) (b : RBl) (s : RSt) (h : RefAt W p b s) : Calls Tryz.prog 102 #[.pointer (some ⟨p, 0, none⟩), .int .u32 833] W fun e W' => e = .returned (.tuple #[.int .u32 (s.mepc), .bool true]) ∧ ∃ q, W' = W.drewN q := by
  have c1 := h.mepc
  clear h
  go_enter Tryz.func102, Tryz.ntmps102
  go_wp2
  go_ret2
  exact ⟨rfl, 0, rfl⟩
theorem mcsr_834 (W : World) (p : Nat) (b : RBl) (s : RSt) (h : RefAt W p b s) : Calls Tryz.prog 102 #[.pointer (some ⟨p, 0, none⟩), .int .u32 834] W fun e W' => e = .returned (.tuple #[.int .u32 (s.mcause), .bool true]) ∧ ∃ q, W' = W.drewN q := by
  have c1 := h.mcause
  clear h
  go_enter Tryz.func102, Tryz.ntmps102
  go_wp2
  go_ret2
  exact ⟨rfl, 0, rfl⟩
theorem mcsr_835 (W : World) (p : Nat) (b : RBl) (s : RSt) (h : RefAt W p b s) : Calls Tryz.prog 102 #[.pointer (some ⟨p, 0, none⟩), .int .u32 835] W fun e W' => e = .returned (.tuple #[.int .u32 (s.mtval), .bool true]) ∧ ∃ q, W' = W.drewN q := by
  have c1 := h.mtval
  clear h
  go_enter Tryz.func102, Tryz.ntmps102
  go_wp2
  go_ret2
  exact ⟨rfl, 0, rfl⟩
theorem mcsr_768 (W : World) (p : Nat) (b : RBl) (s : RSt) (h : RefAt W p b s) (F : Fine s) : Calls Tryz.prog 102 #[.pointer (some ⟨p, 0, none⟩), .int .u32 768] W fun e W' => e = .returned (.tuple #[.int .u32 (msV s), .bool true]) ∧ ∃ q, W' = W.drewN q := by
  have HF : Hid (RefAt W p b s) := h
  clear h
  go_enter Tryz.func102, Tryz.ntmps102
  go_wp2_with (go_at_call 101; refine (mstatus_any _ p b s HF.out F.p0 F.p1 F.m0 F.m1).mono ?_; rintro e w' ⟨rfl, q, rfl⟩)
  go_ret2
  exact ⟨rfl, _, rfl⟩
theorem mcsr_836 (W : World) (p : Nat) (b : RBl) (s : RSt) (h : RefAt W p b s) : Calls Tryz.prog 102 #[.pointer (some ⟨p, 0, none⟩), .int .u32 836] W fun e W' => e = .returned (.tuple #[.int .u32 (mipR s), .bool true]) ∧ ∃ q, W' = W.drewN q := by
  have HF : Hid (RefAt W p b s) := h
  clear h
  go_enter Tryz.func102, Tryz.ntmps102
  go_wp2_with (go_at_call 15; refine (rmip_any _ p b s HF.out).mono ?_; rintro e w' ⟨rfl, q, rfl⟩)
  go_ret2
  exact ⟨rfl, _, rfl⟩
theorem mcsr_3860 (W : World) (p : Nat) (b : RBl) (s : RSt) (_h : RefAt W p b s) : Calls Tryz.prog 102 #[.pointer (some ⟨p, 0, none⟩), .int .u32 3860] W fun e W' => e = .returned (.tuple #[.int .u32 (0), .bool true]) ∧ ∃ q, W' = W.drewN q := by
  go_enter Tryz.func102, Tryz.ntmps102
  go_wp2
  go_ret2
  exact ⟨rfl, 0, rfl⟩
theorem csr_261 (W : World) (p : Nat) (b : RBl) (s : RSt) (h : RefAt W p b s) : Calls Tryz.prog 68 #[.pointer (some ⟨p, 0, none⟩), .int .u32 261] W fun e W' => e = .returned (.tuple #[.int .u32 (s.stvec), .bool true]) ∧ ∃ q, W' = W.drewN q := by
  have c1 := h.stvec
  clear h
  go_enter Tryz.func68, Tryz.ntmps68
  go_wp2
  go_ret2
  exact ⟨rfl, 0, rfl⟩
theorem csr_320 (W : World) (p : Nat) (b : RBl) (s : RSt) (h : RefAt W p b s) : Calls Tryz.prog 68 #[.pointer (some ⟨p, 0, none⟩), .int .u32 320] W fun e W' => e = .returned (.tuple #[.int .u32 (s.sscratch), .bool true]) ∧ ∃ q, W' = W.drewN q := by
  have c1 := h.sscratch
  clear h
  go_enter Tryz.func68, Tryz.ntmps68
  go_wp2
  go_ret2
  exact ⟨rfl, 0, rfl⟩
theorem csr_321 (W : World) (p : Nat) (b : RBl) (s : RSt) (h : RefAt W p b s) : Calls Tryz.prog 68 #[.pointer (some ⟨p, 0, none⟩), .int .u32 321] W fun e W' => e = .returned (.tuple #[.int .u32 (s.sepc), .bool true]) ∧ ∃ q, W' = W.drewN q := by
  have c1 := h.sepc
  clear h
  go_enter Tryz.func68, Tryz.ntmps68
  go_wp2
  go_ret2
  exact ⟨rfl, 0, rfl⟩
theorem csr_322 (W : World) (p : Nat) (b : RBl) (s : RSt) (h : RefAt W p b s) : Calls Tryz.prog 68 #[.pointer (some ⟨p, 0, none⟩), .int .u32 322] W fun e W' => e = .returned (.tuple #[.int .u32 (s.scause), .bool true]) ∧ ∃ q, W' = W.drewN q := by
  have c1 := h.scause
  clear h
  go_enter Tryz.func68, Tryz.ntmps68
  go_wp2
  go_ret2
  exact ⟨rfl, 0, rfl⟩
theorem csr_323 (W : World) (p : Nat) (b : RBl) (s : RSt) (h : RefAt W p b s) : Calls Tryz.prog 68 #[.pointer (some ⟨p, 0, none⟩), .int .u32 323] W fun e W' => e = .returned (.tuple #[.int .u32 (s.stval), .bool true]) ∧ ∃ q, W' = W.drewN q := by
  have c1 := h.stval
  clear h
  go_enter Tryz.func68, Tryz.ntmps68
  go_wp2
  go_ret2
  exact ⟨rfl, 0, rfl⟩
theorem csr_256 (W : World) (p : Nat) (b : RBl) (s : RSt) (h : RefAt W p b s) (F : Fine s) : Calls Tryz.prog 68 #[.pointer (some ⟨p, 0, none⟩), .int .u32 256] W fun e W' => e = .returned (.tuple #[.int .u32 (bits .and .u32 (msV s) 290), .bool true]) ∧ ∃ q, W' = W.drewN q := by
  have HF : Hid (RefAt W p b s) := h
  clear h
  go_enter Tryz.func68, Tryz.ntmps68
  go_wp2_with (go_at_call 101; refine (mstatus_any _ p b s HF.out F.p0 F.p1 F.m0 F.m1).mono ?_; rintro e w' ⟨rfl, q, rfl⟩)
  go_ret2
  exact ⟨rfl, _, rfl⟩
theorem csr_260 (W : World) (p : Nat) (b : RBl) (s : RSt) (h : RefAt W p b s) : Calls Tryz.prog 68 #[.pointer (some ⟨p, 0, none⟩), .int .u32 260] W fun e W' => e = .returned (.tuple #[.int .u32 (bits .and .u32 s.mie s.mideleg), .bool true]) ∧ ∃ q, W' = W.drewN q := by
  have c1 := h.mie
  have c2 := h.mideleg
  clear h
  go_enter Tryz.func68, Tryz.ntmps68
  go_wp2_with fail
  go_quiet (fail)
  go_wp2
  go_ret2
  exact ⟨rfl, _, rfl⟩
theorem csr_324 (W : World) (p : Nat) (b : RBl) (s : RSt) (h : RefAt W p b s) : Calls Tryz.prog 68 #[.pointer (some ⟨p, 0, none⟩), .int .u32 324] W fun e W' => e = .returned (.tuple #[.int .u32 (bits .and .u32 (mipR s) s.mideleg), .bool true]) ∧ ∃ q, W' = W.drewN q := by
  have HF : Hid (RefAt W p b s) := h
  have c1 := h.mideleg
  clear h
  go_enter Tryz.func68, Tryz.ntmps68
  go_wp2_with (go_at_call 15; refine (rmip_any _ p b s HF.out).mono ?_; rintro e w' ⟨rfl, q, rfl⟩)
  go_ret2
  exact ⟨rfl, _, rfl⟩
theorem csr_770 (W : World) (p : Nat) (b : RBl) (s : RSt) (h : RefAt W p b s) : Calls Tryz.prog 68 #[.pointer (some ⟨p, 0, none⟩), .int .u32 770] W fun e W' => e = .returned (.tuple #[.int .u32 (s.medeleg), .bool true]) ∧ ∃ q, W' = W.drewN q := by
  have HF : Hid (RefAt W p b s) := h
  clear h
  go_enter Tryz.func68, Tryz.ntmps68
  go_wp2_with (go_at_call 102; refine (mcsr_770 _ p b s HF.out).mono ?_; rintro e w' ⟨rfl, q, rfl⟩)
  go_ret2
  exact ⟨rfl, _, rfl⟩
theorem csr_771 (W : World) (p : Nat) (b : RBl) (s : RSt) (h : RefAt W p b s) : Calls Tryz.prog 68 #[.pointer (some ⟨p, 0, none⟩), .int .u32 771] W fun e W' => e = .returned (.tuple #[.int .u32 (s.mideleg), .bool true]) ∧ ∃ q, W' = W.drewN q := by
  have HF : Hid (RefAt W p b s) := h
  clear h
  go_enter Tryz.func68, Tryz.ntmps68
  go_wp2_with (go_at_call 102; refine (mcsr_771 _ p b s HF.out).mono ?_; rintro e w' ⟨rfl, q, rfl⟩)
  go_ret2
  exact ⟨rfl, _, rfl⟩
theorem csr_772 (W : World) (p : Nat) (b : RBl) (s : RSt) (h : RefAt W p b s) : Calls Tryz.prog 68 #[.pointer (some ⟨p, 0, none⟩), .int .u32 772] W fun e W' => e = .returned (.tuple #[.int .u32 (s.mie), .bool true]) ∧ ∃ q, W' = W.drewN q := by
  have HF : Hid (RefAt W p b s) := h
  clear h
  go_enter Tryz.func68, Tryz.ntmps68
  go_wp2_with (go_at_call 102; refine (mcsr_772 _ p b s HF.out).mono ?_; rintro e w' ⟨rfl, q, rfl⟩)
  go_ret2
  exact ⟨rfl, _, rfl⟩
theorem csr_773 (W : World) (p : Nat) (b : RBl) (s : RSt) (h : RefAt W p b s) : Calls Tryz.prog 68 #[.pointer (some ⟨p, 0, none⟩), .int .u32 773] W fun e W' => e = .returned (.tuple #[.int .u32 (s.mtvec), .bool true]) ∧ ∃ q, W' = W.drewN q := by
  have HF : Hid (RefAt W p b s) := h
  clear h
  go_enter Tryz.func68, Tryz.ntmps68
  go_wp2_with (go_at_call 102; refine (mcsr_773 _ p b s HF.out).mono ?_; rintro e w' ⟨rfl, q, rfl⟩)
  go_ret2
  exact ⟨rfl, _, rfl⟩
theorem csr_832 (W : World) (p : Nat) (b : RBl) (s : RSt) (h : RefAt W p b s) : Calls Tryz.prog 68 #[.pointer (some ⟨p, 0, none⟩), .int .u32 832] W fun e W' => e = .returned (.tuple #[.int .u32 (s.mscratch), .bool true]) ∧ ∃ q, W' = W.drewN q := by
  have HF : Hid (RefAt W p b s) := h
  clear h
  go_enter Tryz.func68, Tryz.ntmps68
  go_wp2_with (go_at_call 102; refine (mcsr_832 _ p b s HF.out).mono ?_; rintro e w' ⟨rfl, q, rfl⟩)
  go_ret2
  exact ⟨rfl, _, rfl⟩
theorem csr_833 (W : World) (p : Nat) (b : RBl) (s : RSt) (h : RefAt W p b s) : Calls Tryz.prog 68 #[.pointer (some ⟨p, 0, none⟩), .int .u32 833] W fun e W' => e = .returned (.tuple #[.int .u32 (s.mepc), .bool true]) ∧ ∃ q, W' = W.drewN q := by
  have HF : Hid (RefAt W p b s) := h
  clear h
  go_enter Tryz.func68, Tryz.ntmps68
  go_wp2_with (go_at_call 102; refine (mcsr_833 _ p b s HF.out).mono ?_; rintro e w' ⟨rfl, q, rfl⟩)
  go_ret2
  exact ⟨rfl, _, rfl⟩
theorem csr_834 (W : World) (p : Nat) (b : RBl) (s : RSt) (h : RefAt W p b s) : Calls Tryz.prog 68 #[.pointer (some ⟨p, 0, none⟩), .int .u32 834] W fun e W' => e = .returned (.tuple #[.int .u32 (s.mcause), .bool true]) ∧ ∃ q, W' = W.drewN q := by
  have HF : Hid (RefAt W p b s) := h
  clear h
  go_enter Tryz.func68, Tryz.ntmps68
  go_wp2_with (go_at_call 102; refine (mcsr_834 _ p b s HF.out).mono ?_; rintro e w' ⟨rfl, q, rfl⟩)
  go_ret2
  exact ⟨rfl, _, rfl⟩
theorem csr_835 (W : World) (p : Nat) (b : RBl) (s : RSt) (h : RefAt W p b s) : Calls Tryz.prog 68 #[.pointer (some ⟨p, 0, none⟩), .int .u32 835] W fun e W' => e = .returned (.tuple #[.int .u32 (s.mtval), .bool true]) ∧ ∃ q, W' = W.drewN q := by
  have HF : Hid (RefAt W p b s) := h
  clear h
  go_enter Tryz.func68, Tryz.ntmps68
  go_wp2_with (go_at_call 102; refine (mcsr_835 _ p b s HF.out).mono ?_; rintro e w' ⟨rfl, q, rfl⟩)
  go_ret2
  exact ⟨rfl, _, rfl⟩
theorem csr_768 (W : World) (p : Nat) (b : RBl) (s : RSt) (h : RefAt W p b s) (F : Fine s) : Calls Tryz.prog 68 #[.pointer (some ⟨p, 0, none⟩), .int .u32 768] W fun e W' => e = .returned (.tuple #[.int .u32 (msV s), .bool true]) ∧ ∃ q, W' = W.drewN q := by
  have HF : Hid (RefAt W p b s) := h
  clear h
  go_enter Tryz.func68, Tryz.ntmps68
  go_wp2_with (go_at_call 102; refine (mcsr_768 _ p b s HF.out F).mono ?_; rintro e w' ⟨rfl, q, rfl⟩)
  go_ret2
  exact ⟨rfl, _, rfl⟩
theorem csr_836 (W : World) (p : Nat) (b : RBl) (s : RSt) (h : RefAt W p b s) : Calls Tryz.prog 68 #[.pointer (some ⟨p, 0, none⟩), .int .u32 836] W fun e W' => e = .returned (.tuple #[.int .u32 (mipR s), .bool true]) ∧ ∃ q, W' = W.drewN q := by
  have HF : Hid (RefAt W p b s) := h
  clear h
  go_enter Tryz.func68, Tryz.ntmps68
  go_wp2_with (go_at_call 102; refine (mcsr_836 _ p b s HF.out).mono ?_; rintro e w' ⟨rfl, q, rfl⟩)
  go_ret2
  exact ⟨rfl, _, rfl⟩
theorem csr_3860 (W : World) (p : Nat) (b : RBl) (s : RSt) (h : RefAt W p b s) : Calls Tryz.prog 68 #[.pointer (some ⟨p, 0, none⟩), .int .u32 3860] W fun e W' => e = .returned (.tuple #[.int .u32 (0), .bool true]) ∧ ∃ q, W' = W.drewN q := by
  have HF : Hid (RefAt W p b s) := h
  clear h
  go_enter Tryz.func68, Tryz.ntmps68
  go_wp2_with (go_at_call 102; refine (mcsr_3860 _ p b s HF.out).mono ?_; rintro e w' ⟨rfl, q, rfl⟩)
  go_ret2
  exact ⟨rfl, _, rfl⟩

def numsR : List Int := [256, 260, 261, 320, 321, 322, 323, 324, 768, 770, 771, 772, 773, 832, 833, 834, 835, 836, 3860]
def csrsR (s : RSt) : List Int :=
  [bits .and .u32 (msV s) 290, bits .and .u32 s.mie s.mideleg, s.stvec, s.sscratch, s.sepc, s.scause, s.stval, bits .and .u32 (mipR s) s.mideleg, msV s, s.medeleg, s.mideleg, s.mie, s.mtvec, s.mscratch, s.mepc, s.mcause, s.mtval, mipR s, 0]
theorem csr_any (W : World) (p : Nat) (b : RBl) (s : RSt) (h : RefAt W p b s) (F : Fine s) (k : Nat) (hk : k < 19) :
    Calls Tryz.prog 68 #[.pointer (some ⟨p, 0, none⟩), .int .u32 (numsR.getD k 0)] W fun e W' => e = .returned (.tuple #[.int .u32 ((csrsR s).getD k 0), .bool true]) ∧ ∃ q, W' = W.drewN q := by
  match k, hk with
  | 0, _ => exact csr_256 W p b s h F
  | 1, _ => exact csr_260 W p b s h
  | 2, _ => exact csr_261 W p b s h
  | 3, _ => exact csr_320 W p b s h
  | 4, _ => exact csr_321 W p b s h
  | 5, _ => exact csr_322 W p b s h
  | 6, _ => exact csr_323 W p b s h
  | 7, _ => exact csr_324 W p b s h
  | 8, _ => exact csr_768 W p b s h F
  | 9, _ => exact csr_770 W p b s h
  | 10, _ => exact csr_771 W p b s h
  | 11, _ => exact csr_772 W p b s h
  | 12, _ => exact csr_773 W p b s h
  | 13, _ => exact csr_832 W p b s h
  | 14, _ => exact csr_833 W p b s h
  | 15, _ => exact csr_834 W p b s h
  | 16, _ => exact csr_835 W p b s h
  | 17, _ => exact csr_836 W p b s h
  | 18, _ => exact csr_3860 W p b s h
  | k + 19, hk => exact absurd hk (by omega)

theorem numbers_any (W : World) : Calls Tryz.prog 67 #[] W fun e W' => e = .returned (.slice (some ⟨W.heap.size, 0, none⟩) 19 19) ∧ RowAt W' W.heap.size 19 numsR ∧ Below W.heap.size W W' := by
  go_enter Tryz.func67, Tryz.ntmps67
  go_wp2
  go_ret
  refine ⟨rfl, ⟨_, heap_alloc_new W _, rfl, by decide, by decide, rfl⟩, (Below.refl _ _).alloc (Nat.le_refl _) _⟩
end Go.Proofs.YteiideeechnekaaGreatDoor

/-
  The document's mask.
-/
namespace Go.Proofs.YteiideeechnekaaGreatDoor
open Go.RowKit

def mk (f : Nat → Bool) : Nat → Int
  | 0 => 0
  | n + 1 => if f (n + 1) then bits .or .u32 (mk f n) (2 ^ (n + 1) % 4294967296) else mk f n
theorem mk_yes {f : Nat → Bool} {k : Nat} (h1 : 1 ≤ k) (h : f k = true) : mk f k = bits .or .u32 (mk f (k - 1)) (2 ^ k % 4294967296) := by
  obtain ⟨n, rfl⟩ : ∃ n, k = n + 1 := ⟨k - 1, by omega⟩
  simp [mk, h]
theorem mk_no {f : Nat → Bool} {k : Nat} (h1 : 1 ≤ k) (h : f k = false) : mk f k = mk f (k - 1) := by
  obtain ⟨n, rfl⟩ : ∃ n, k = n + 1 := ⟨k - 1, by omega⟩
  simp [mk, h]

set_option maxHeartbeats 1000000 in
theorem mask_0 (W : World) (p : Nat) (b : RBl) (s : RSt) (h : RefAt W p b s) :
    Calls Tryz.prog 69 #[.pointer (some ⟨p, 0, none⟩), .int .i64 0] W fun e W' => e = .returned (.int .u32 (mk (fun i => (srcAt s i).waits) 7)) ∧ ∃ q, W' = W.drewN q := by
  have k1 := h.csrc
  have HW : Hid (∀ i, i < 8 → W.cell? ⟨b.src, i * 4 + 1, none⟩ = some (.bool (srcAt s i).waits)) := h.waits
  obtain ⟨f, hf⟩ : ∃ f : Nat → Bool, f = fun i => (srcAt s i).waits := ⟨_, rfl⟩
  have HF : Hid (∀ i, i < 8 → W.cell? ⟨b.src, i * 4 + 1, none⟩ = some (.bool (f i))) := by rw [hf]; exact HW.out
  rw [← hf]
  clear h HW hf
  go_enter Tryz.func69, Tryz.ntmps69
  go_wp2
  go_loopw [5, 6] (fun v i wr => ∃ k q : Nat, 1 ≤ k ∧ k ≤ 8 ∧ i = .int .i64 k ∧ v = .int .u32 (mk f (k - 1)) ∧ wr = W.drewN q) (fun _ i _ => 8 - (intOf i).toNat)
  case atStart => exact ⟨1, 0, Nat.le_refl _, by decide, rfl, rfl, rfl⟩
  case round =>
    obtain ⟨k, q, hk1, hk8, rfl, rfl, rfl⟩ := hrel
    by_cases hlt : k < 8
    · have c1 := HF.out k hlt
      have hi : (k : Int) < 8 := by omega
      by_cases hw : f k = true
      · have HM : Hid (mk f (k + 1 - 1) = bits .or .u32 (mk f (k - 1)) (2 ^ k % 4294967296)) := mk_yes hk1 hw
        go_wp2
        go_roundw
        case rel => exact ⟨k + 1, _, by omega, by omega, by go_num, by rw [HM.out], rfl⟩
        case measure => simp [intOf]; omega
      · have hw' : f k = false := by simpa using hw
        have HM : Hid (mk f (k + 1 - 1) = mk f (k - 1)) := mk_no hk1 hw'
        clear hw
        go_wp2
        go_roundw
        case rel => exact ⟨k + 1, _, by omega, by omega, by go_num, by rw [HM.out], rfl⟩
        case measure => simp [intOf]; omega
    · obtain rfl : k = 8 := by omega
      go_wp2
      go_ret
      exact ⟨rfl, _, rfl⟩
set_option maxHeartbeats 1000000 in
theorem mask_1 (W : World) (p : Nat) (b : RBl) (s : RSt) (h : RefAt W p b s) :
    Calls Tryz.prog 69 #[.pointer (some ⟨p, 0, none⟩), .int .i64 1] W fun e W' => e = .returned (.int .u32 (mk (fun i => (srcAt s i).served) 7)) ∧ ∃ q, W' = W.drewN q := by
  have k1 := h.csrc
  have HW : Hid (∀ i, i < 8 → W.cell? ⟨b.src, i * 4 + 2, none⟩ = some (.bool (srcAt s i).served)) := h.served
  obtain ⟨f, hf⟩ : ∃ f : Nat → Bool, f = fun i => (srcAt s i).served := ⟨_, rfl⟩
  have HF : Hid (∀ i, i < 8 → W.cell? ⟨b.src, i * 4 + 2, none⟩ = some (.bool (f i))) := by rw [hf]; exact HW.out
  rw [← hf]
  clear h HW hf
  go_enter Tryz.func69, Tryz.ntmps69
  go_wp2
  go_loopw [5, 6] (fun v i wr => ∃ k q : Nat, 1 ≤ k ∧ k ≤ 8 ∧ i = .int .i64 k ∧ v = .int .u32 (mk f (k - 1)) ∧ wr = W.drewN q) (fun _ i _ => 8 - (intOf i).toNat)
  case atStart => exact ⟨1, 0, Nat.le_refl _, by decide, rfl, rfl, rfl⟩
  case round =>
    obtain ⟨k, q, hk1, hk8, rfl, rfl, rfl⟩ := hrel
    by_cases hlt : k < 8
    · have c1 := HF.out k hlt
      have hi : (k : Int) < 8 := by omega
      by_cases hw : f k = true
      · have HM : Hid (mk f (k + 1 - 1) = bits .or .u32 (mk f (k - 1)) (2 ^ k % 4294967296)) := mk_yes hk1 hw
        go_wp2
        go_roundw
        case rel => exact ⟨k + 1, _, by omega, by omega, by go_num, by rw [HM.out], rfl⟩
        case measure => simp [intOf]; omega
      · have hw' : f k = false := by simpa using hw
        have HM : Hid (mk f (k + 1 - 1) = mk f (k - 1)) := mk_no hk1 hw'
        clear hw
        go_wp2
        go_roundw
        case rel => exact ⟨k + 1, _, by omega, by omega, by go_num, by rw [HM.out], rfl⟩
        case measure => simp [intOf]; omega
    · obtain rfl : k = 8 := by omega
      go_wp2
      go_ret
      exact ⟨rfl, _, rfl⟩
set_option maxHeartbeats 1000000 in
theorem mask_2 (W : World) (p : Nat) (b : RBl) (s : RSt) (h : RefAt W p b s) :
    Calls Tryz.prog 69 #[.pointer (some ⟨p, 0, none⟩), .int .i64 2] W fun e W' => e = .returned (.int .u32 (mk (fun i => (srcAt s i).high) 7)) ∧ ∃ q, W' = W.drewN q := by
  have k1 := h.csrc
  have HW : Hid (∀ i, i < 8 → W.cell? ⟨b.src, i * 4, none⟩ = some (.bool (srcAt s i).high)) := h.high
  obtain ⟨f, hf⟩ : ∃ f : Nat → Bool, f = fun i => (srcAt s i).high := ⟨_, rfl⟩
  have HF : Hid (∀ i, i < 8 → W.cell? ⟨b.src, i * 4, none⟩ = some (.bool (f i))) := by rw [hf]; exact HW.out
  rw [← hf]
  clear h HW hf
  go_enter Tryz.func69, Tryz.ntmps69
  go_wp2
  go_loopw [5, 6] (fun v i wr => ∃ k q : Nat, 1 ≤ k ∧ k ≤ 8 ∧ i = .int .i64 k ∧ v = .int .u32 (mk f (k - 1)) ∧ wr = W.drewN q) (fun _ i _ => 8 - (intOf i).toNat)
  case atStart => exact ⟨1, 0, Nat.le_refl _, by decide, rfl, rfl, rfl⟩
  case round =>
    obtain ⟨k, q, hk1, hk8, rfl, rfl, rfl⟩ := hrel
    by_cases hlt : k < 8
    · have c1 := HF.out k hlt
      have hi : (k : Int) < 8 := by omega
      by_cases hw : f k = true
      · have HM : Hid (mk f (k + 1 - 1) = bits .or .u32 (mk f (k - 1)) (2 ^ k % 4294967296)) := mk_yes hk1 hw
        go_wp2
        go_roundw
        case rel => exact ⟨k + 1, _, by omega, by omega, by go_num, by rw [HM.out], rfl⟩
        case measure => simp [intOf]; omega
      · have hw' : f k = false := by simpa using hw
        have HM : Hid (mk f (k + 1 - 1) = mk f (k - 1)) := mk_no hk1 hw'
        clear hw
        go_wp2
        go_roundw
        case rel => exact ⟨k + 1, _, by omega, by omega, by go_num, by rw [HM.out], rfl⟩
        case measure => simp [intOf]; omega
    · obtain rfl : k = 8 := by omega
      go_wp2
      go_ret
      exact ⟨rfl, _, rfl⟩
end Go.Proofs.YteiideeechnekaaGreatDoor
