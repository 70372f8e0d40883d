/-
  The code's control registers: control, forbidden, writes, operand, altered, set.
-/
import Derived.Test.YteiideeechnekaaGreatDoorCodeExc
import Derived.Test.YteiideeechnekaaGreatDoorCodeLook
import Derived.Test.YteiideeechnekaaGreatDoorTrapPure
import Derived.Test.YteiideeechnekaaGreatDoorCodeSmall
import Derived.Deep.MidRow
namespace Go.Proofs.YteiideeechnekaaGreatDoor
open Go.RowKit

/-- The table of the numbers. -/
def precR : List Int := [11, 3, 7, 9, 1, 5]
structure T19 (W : World) : Prop where
  s : 12 < W.heap.size
  n : ∀ j, j < 19 → W.cell? ⟨12, j, none⟩ = some (.int .u32 (numsR.getD j 0))
  p : ∀ j, j < 6 → W.cell? ⟨0, j, none⟩ = some (.int .u32 (precR.getD j 0))
theorem T19.lt {W : World} (h : T19 W) : 12 < W.heap.size := h.s
theorem T19.of {W W' : World} (h : T19 W) (s : 12 < W'.heap.size) (e : ∀ k, k < 13 → W'.heap[k]? = W.heap[k]?) : T19 W' := ⟨s, fun j hj => (World.cell?_of_block (w := W) (e 12 (by decide))).trans (h.n j hj), fun j hj => (World.cell?_of_block (w := W) (e 0 (by decide))).trans (h.p j hj)⟩
theorem T19.below {W W' : World} (h : T19 W) (hb : Below W.heap.size W W') : T19 W' := h.of (Nat.lt_of_lt_of_le h.s hb.size) fun k hk => hb.block k (by have := h.lt; omega)

def AG (op : Int) (rd r1 r2 : Nat) (imm : Int) : Value := .agg #[.int .i64 op, .int .i64 rd, .int .i64 r1, .int .i64 r2, .int .u32 imm]
theorem writes_a (W : World) (op : Int) (rd r1 r2 : Nat) (imm : Int) (h : op = 44) : Calls Tryz.prog 166 #[.agg #[.int .i64 op, .int .i64 rd, .int .i64 r1, .int .i64 r2, .int .u32 imm]] W fun e W' => e = .returned (.bool true) ∧ Below W.heap.size W W' := by
  subst h
  go_enter Tryz.func166, Tryz.ntmps166
  go_wp2
  go_ret
  exact ⟨rfl, (Below.refl _ _).alloc (Nat.le_refl _) _⟩
theorem writes_b (W : World) (op : Int) (rd r1 r2 : Nat) (imm : Int) (h : op = 47) : Calls Tryz.prog 166 #[.agg #[.int .i64 op, .int .i64 rd, .int .i64 r1, .int .i64 r2, .int .u32 imm]] W fun e W' => e = .returned (.bool true) ∧ Below W.heap.size W W' := by
  subst h
  go_enter Tryz.func166, Tryz.ntmps166
  go_wp2
  go_ret
  exact ⟨rfl, (Below.refl _ _).alloc (Nat.le_refl _) _⟩
theorem writes_c (W : World) (op : Int) (rd r1 r2 : Nat) (imm : Int) (h1 : (op == 44) = false) (h2 : (op == 47) = false) (h3 : ((r1 : Int) != 0) = true) : Calls Tryz.prog 166 #[.agg #[.int .i64 op, .int .i64 rd, .int .i64 r1, .int .i64 r2, .int .u32 imm]] W fun e W' => e = .returned (.bool true) ∧ Below W.heap.size W W' := by
  go_enter Tryz.func166, Tryz.ntmps166
  go_wp2
  go_ret
  exact ⟨rfl, (Below.refl _ _).alloc (Nat.le_refl _) _⟩
theorem writes_d (W : World) (op : Int) (rd r1 r2 : Nat) (imm : Int) (h1 : (op == 44) = false) (h2 : (op == 47) = false) (h3 : ((r1 : Int) != 0) = false) : Calls Tryz.prog 166 #[.agg #[.int .i64 op, .int .i64 rd, .int .i64 r1, .int .i64 r2, .int .u32 imm]] W fun e W' => e = .returned (.bool false) ∧ Below W.heap.size W W' := by
  go_enter Tryz.func166, Tryz.ntmps166
  go_wp2
  go_ret
  exact ⟨rfl, (Below.refl _ _).alloc (Nat.le_refl _) _⟩
theorem writes_any (W : World) (op : Int) (rd r1 r2 : Nat) (imm : Int) : Calls Tryz.prog 166 #[.agg #[.int .i64 op, .int .i64 rd, .int .i64 r1, .int .i64 r2, .int .u32 imm]] W fun e W' => e = .returned (.bool (wrB op r1)) ∧ Below W.heap.size W W' := by
  unfold wrB
  by_cases h1 : op = 44
  · rw [if_pos h1]; exact writes_a W op rd r1 r2 imm h1
  · rw [if_neg h1]
    by_cases h2 : op = 47
    · rw [if_pos h2]; exact writes_b W op rd r1 r2 imm h2
    · rw [if_neg h2]
      by_cases h3 : r1 = 0
      · rw [if_pos h3]; exact writes_d W op rd r1 r2 imm (by simpa using h1) (by simpa using h2) (by simpa using h3)
      · rw [if_neg h3]; exact writes_c W op rd r1 r2 imm (by simpa using h1) (by simpa using h2) (by simpa using h3)
theorem alt_44 (W : World) (old v : Int) : Calls Tryz.prog 168 #[.int .i64 44, .int .u32 old, .int .u32 v] W fun e W' => e = .returned (.int .u32 (v)) ∧ W' = W := by
  go_enter Tryz.func168, Tryz.ntmps168
  go_wp2
  go_ret
  exact ⟨rfl, rfl⟩
theorem alt_45 (W : World) (old v : Int) : Calls Tryz.prog 168 #[.int .i64 45, .int .u32 old, .int .u32 v] W fun e W' => e = .returned (.int .u32 (bits .or .u32 old v)) ∧ W' = W := by
  go_enter Tryz.func168, Tryz.ntmps168
  go_wp2
  go_ret
  exact ⟨rfl, rfl⟩
theorem alt_46 (W : World) (old v : Int) : Calls Tryz.prog 168 #[.int .i64 46, .int .u32 old, .int .u32 v] W fun e W' => e = .returned (.int .u32 (bits .andNot .u32 old v)) ∧ W' = W := by
  go_enter Tryz.func168, Tryz.ntmps168
  go_wp2
  go_ret
  exact ⟨rfl, rfl⟩
theorem alt_47 (W : World) (old v : Int) : Calls Tryz.prog 168 #[.int .i64 47, .int .u32 old, .int .u32 v] W fun e W' => e = .returned (.int .u32 (v)) ∧ W' = W := by
  go_enter Tryz.func168, Tryz.ntmps168
  go_wp2
  go_ret
  exact ⟨rfl, rfl⟩
theorem alt_48 (W : World) (old v : Int) : Calls Tryz.prog 168 #[.int .i64 48, .int .u32 old, .int .u32 v] W fun e W' => e = .returned (.int .u32 (bits .or .u32 old v)) ∧ W' = W := by
  go_enter Tryz.func168, Tryz.ntmps168
  go_wp2
  go_ret
  exact ⟨rfl, rfl⟩
theorem alt_49 (W : World) (old v : Int) : Calls Tryz.prog 168 #[.int .i64 49, .int .u32 old, .int .u32 v] W fun e W' => e = .returned (.int .u32 (bits .andNot .u32 old v)) ∧ W' = W := by
  go_enter Tryz.func168, Tryz.ntmps168
  go_wp2
  go_ret
  exact ⟨rfl, rfl⟩
theorem operand_44 (W : World) (x r : Nat) (c : CSt) (h : CodeAt W x r c) (z : c.regs[0]?.getD 0 = 0) (rd r1 r2 : Nat) (h1 : r1 < 32) (imm : Int) :
    Calls Tryz.prog 165 #[.pointer (some ⟨x, 0, none⟩), .agg #[.int .i64 44, .int .i64 rd, .int .i64 r1, .int .i64 r2, .int .u32 imm]] W fun e W' => e = .returned (.int .u32 (c.regs[r1]?.getD 0)) ∧ Below W.heap.size W W' := by
  have HF0 : Hid (∀ o, CodeAt (W.alloc o) x r c) := fun o => h.below ((Below.refl W.heap.size W).alloc (Nat.le_refl _) o) h.lt.1 h.lt.2
  have HZ : Hid (c.regs[0]?.getD 0 = 0) := z
  clear h z
  have h1' : (r1 : Int) < 32 := by omega
  go_enter Tryz.func165, Tryz.ntmps165
  go_wp2_with (go_at_call 110; refine (reg_any _ x r c (HF0.out _) HZ.out _ (by omega)).mono ?_; rintro e w' ⟨rfl, q, rfl⟩)
  go_ret
  exact ⟨rfl, below_drawn ((Below.refl _ _).alloc (Nat.le_refl _) _) _⟩
theorem operand_45 (W : World) (x r : Nat) (c : CSt) (h : CodeAt W x r c) (z : c.regs[0]?.getD 0 = 0) (rd r1 r2 : Nat) (h1 : r1 < 32) (imm : Int) :
    Calls Tryz.prog 165 #[.pointer (some ⟨x, 0, none⟩), .agg #[.int .i64 45, .int .i64 rd, .int .i64 r1, .int .i64 r2, .int .u32 imm]] W fun e W' => e = .returned (.int .u32 (c.regs[r1]?.getD 0)) ∧ Below W.heap.size W W' := by
  have HF0 : Hid (∀ o, CodeAt (W.alloc o) x r c) := fun o => h.below ((Below.refl W.heap.size W).alloc (Nat.le_refl _) o) h.lt.1 h.lt.2
  have HZ : Hid (c.regs[0]?.getD 0 = 0) := z
  clear h z
  have h1' : (r1 : Int) < 32 := by omega
  go_enter Tryz.func165, Tryz.ntmps165
  go_wp2_with (go_at_call 110; refine (reg_any _ x r c (HF0.out _) HZ.out _ (by omega)).mono ?_; rintro e w' ⟨rfl, q, rfl⟩)
  go_ret
  exact ⟨rfl, below_drawn ((Below.refl _ _).alloc (Nat.le_refl _) _) _⟩
theorem operand_46 (W : World) (x r : Nat) (c : CSt) (h : CodeAt W x r c) (z : c.regs[0]?.getD 0 = 0) (rd r1 r2 : Nat) (h1 : r1 < 32) (imm : Int) :
    Calls Tryz.prog 165 #[.pointer (some ⟨x, 0, none⟩), .agg #[.int .i64 46, .int .i64 rd, .int .i64 r1, .int .i64 r2, .int .u32 imm]] W fun e W' => e = .returned (.int .u32 (c.regs[r1]?.getD 0)) ∧ Below W.heap.size W W' := by
  have HF0 : Hid (∀ o, CodeAt (W.alloc o) x r c) := fun o => h.below ((Below.refl W.heap.size W).alloc (Nat.le_refl _) o) h.lt.1 h.lt.2
  have HZ : Hid (c.regs[0]?.getD 0 = 0) := z
  clear h z
  have h1' : (r1 : Int) < 32 := by omega
  go_enter Tryz.func165, Tryz.ntmps165
  go_wp2_with (go_at_call 110; refine (reg_any _ x r c (HF0.out _) HZ.out _ (by omega)).mono ?_; rintro e w' ⟨rfl, q, rfl⟩)
  go_ret
  exact ⟨rfl, below_drawn ((Below.refl _ _).alloc (Nat.le_refl _) _) _⟩
theorem operand_47 (W : World) (x r : Nat) (c : CSt) (_h : CodeAt W x r c) (rd r1 r2 : Nat) (h1 : r1 < 32) (imm : Int) :
    Calls Tryz.prog 165 #[.pointer (some ⟨x, 0, none⟩), .agg #[.int .i64 47, .int .i64 rd, .int .i64 r1, .int .i64 r2, .int .u32 imm]] W fun e W' => e = .returned (.int .u32 r1) ∧ Below W.heap.size W W' := by
  have h1' : (r1 : Int) < 32 := by omega
  go_enter Tryz.func165, Tryz.ntmps165
  go_wp2
  go_ret
  exact ⟨rfl, (Below.refl _ _).alloc (Nat.le_refl _) _⟩
theorem operand_48 (W : World) (x r : Nat) (c : CSt) (_h : CodeAt W x r c) (rd r1 r2 : Nat) (h1 : r1 < 32) (imm : Int) :
    Calls Tryz.prog 165 #[.pointer (some ⟨x, 0, none⟩), .agg #[.int .i64 48, .int .i64 rd, .int .i64 r1, .int .i64 r2, .int .u32 imm]] W fun e W' => e = .returned (.int .u32 r1) ∧ Below W.heap.size W W' := by
  have h1' : (r1 : Int) < 32 := by omega
  go_enter Tryz.func165, Tryz.ntmps165
  go_wp2
  go_ret
  exact ⟨rfl, (Below.refl _ _).alloc (Nat.le_refl _) _⟩
theorem operand_49 (W : World) (x r : Nat) (c : CSt) (_h : CodeAt W x r c) (rd r1 r2 : Nat) (h1 : r1 < 32) (imm : Int) :
    Calls Tryz.prog 165 #[.pointer (some ⟨x, 0, none⟩), .agg #[.int .i64 49, .int .i64 rd, .int .i64 r1, .int .i64 r2, .int .u32 imm]] W fun e W' => e = .returned (.int .u32 r1) ∧ Below W.heap.size W W' := by
  have h1' : (r1 : Int) < 32 := by omega
  go_enter Tryz.func165, Tryz.ntmps165
  go_wp2
  go_ret
  exact ⟨rfl, (Below.refl _ _).alloc (Nat.le_refl _) _⟩
def mayC (c : CSt) (n : Nat) (wr : Bool) : Bool := if c.mode < (n : Int) / 256 % 4 then false else if wr then (if (n : Int) / 1024 = 3 then false else true) else true
set_option maxHeartbeats 1000000 in
theorem forb_a (W : World) (x r : Nat) (c : CSt) (h : CodeAt W x r c) (m0 : 0 ≤ c.mode) (m3 : c.mode ≤ 3) (op : Int) (rd r1 r2 n : Nat) (hn : n < 4096) (hl : c.mode < (n : Int) / 256 % 4) :
    Calls Tryz.prog 164 #[.pointer (some ⟨x, 0, none⟩), .agg #[.int .i64 op, .int .i64 rd, .int .i64 r1, .int .i64 r2, .int .u32 n]] W fun e W' => e = .returned (.bool true) ∧ Below W.heap.size W W' := by
  have k0 := fun o => (h.below ((Below.refl W.heap.size W).alloc (Nat.le_refl _) o) h.lt.1 h.lt.2).mode
  have hn' : (n : Int) < 4096 := by omega
  have e8 : bits .and .u32 ((n : Int) / 256) 3 = (n : Int) / 256 % 4 := by have := D.mask_u32 2 (by decide) ((n : Int) / 256) (by omega) (by omega); simpa using this
  have e10 : bits .and .u32 ((n : Int) / 1024) 3 = (n : Int) / 1024 := by have := D.mask_u32 2 (by decide) ((n : Int) / 1024) (by omega) (by omega); simp at this; omega
  clear h
  go_enter Tryz.func164, Tryz.ntmps164
  go_wp2_with fail
  go_quiet (fail)
  go_wp2_with fail
  go_ret
  exact ⟨rfl, below_drawn ((Below.refl _ _).alloc (Nat.le_refl _) _) _⟩
set_option maxHeartbeats 1000000 in
theorem forb_b (W : World) (x r : Nat) (c : CSt) (h : CodeAt W x r c) (m0 : 0 ≤ c.mode) (m3 : c.mode ≤ 3) (op : Int) (rd r1 r2 n : Nat) (hn : n < 4096) (hl : decide (c.mode < (n : Int) / 256 % 4) = false) (hw : wrB op r1 = false) :
    Calls Tryz.prog 164 #[.pointer (some ⟨x, 0, none⟩), .agg #[.int .i64 op, .int .i64 rd, .int .i64 r1, .int .i64 r2, .int .u32 n]] W fun e W' => e = .returned (.bool false) ∧ Below W.heap.size W W' := by
  have k0 := fun o => (h.below ((Below.refl W.heap.size W).alloc (Nat.le_refl _) o) h.lt.1 h.lt.2).mode
  have hn' : (n : Int) < 4096 := by omega
  have e8 : bits .and .u32 ((n : Int) / 256) 3 = (n : Int) / 256 % 4 := by have := D.mask_u32 2 (by decide) ((n : Int) / 256) (by omega) (by omega); simpa using this
  have e10 : bits .and .u32 ((n : Int) / 1024) 3 = (n : Int) / 1024 := by have := D.mask_u32 2 (by decide) ((n : Int) / 1024) (by omega) (by omega); simp at this; omega
  clear h
  go_enter Tryz.func164, Tryz.ntmps164
  go_wp2_with fail
  go_quiet (fail)
  go_wp2_with fail
  refine (writes_any _ op rd r1 r2 n).mono ?_
  rw [hw]
  rintro e w1 ⟨rfl, hb⟩
  have dc := (hb.cell (p := ⟨W.heap.size, 4, none⟩) (by show _ < (W.alloc _).heap.size; simp)).trans (show World.cell? (World.drewN (W.alloc _) _) _ = _ from (cell_of_row (W.alloc _) W.heap.size 4 _ _ (0, 0) (heap_alloc_new W _)))
  simp at dc
  have HB : Hid (Below W.heap.size W w1) := (below_drawn ((Below.refl _ _).alloc (Nat.le_refl _) _) _).trans (hb.mono (by show _ ≤ (W.alloc _).heap.size; simp))
  clear hb
  go_wp2_with fail
  go_ret
  exact ⟨rfl, HB.out⟩
set_option maxHeartbeats 1000000 in
theorem forb_c (W : World) (x r : Nat) (c : CSt) (h : CodeAt W x r c) (m0 : 0 ≤ c.mode) (m3 : c.mode ≤ 3) (op : Int) (rd r1 r2 n : Nat) (hn : n < 4096) (hl : decide (c.mode < (n : Int) / 256 % 4) = false) (hw : wrB op r1 = true) (h3 : ((n : Int) / 1024 == 3) = true) :
    Calls Tryz.prog 164 #[.pointer (some ⟨x, 0, none⟩), .agg #[.int .i64 op, .int .i64 rd, .int .i64 r1, .int .i64 r2, .int .u32 n]] W fun e W' => e = .returned (.bool true) ∧ Below W.heap.size W W' := by
  have k0 := fun o => (h.below ((Below.refl W.heap.size W).alloc (Nat.le_refl _) o) h.lt.1 h.lt.2).mode
  have hn' : (n : Int) < 4096 := by omega
  have e8 : bits .and .u32 ((n : Int) / 256) 3 = (n : Int) / 256 % 4 := by have := D.mask_u32 2 (by decide) ((n : Int) / 256) (by omega) (by omega); simpa using this
  have e10 : bits .and .u32 ((n : Int) / 1024) 3 = (n : Int) / 1024 := by have := D.mask_u32 2 (by decide) ((n : Int) / 1024) (by omega) (by omega); simp at this; omega
  clear h
  go_enter Tryz.func164, Tryz.ntmps164
  go_wp2_with fail
  go_quiet (fail)
  go_wp2_with fail
  refine (writes_any _ op rd r1 r2 n).mono ?_
  rw [hw]
  rintro e w1 ⟨rfl, hb⟩
  have dc := (hb.cell (p := ⟨W.heap.size, 4, none⟩) (by show _ < (W.alloc _).heap.size; simp)).trans (show World.cell? (World.drewN (W.alloc _) _) _ = _ from (cell_of_row (W.alloc _) W.heap.size 4 _ _ (0, 0) (heap_alloc_new W _)))
  simp at dc
  have HB : Hid (Below W.heap.size W w1) := (below_drawn ((Below.refl _ _).alloc (Nat.le_refl _) _) _).trans (hb.mono (by show _ ≤ (W.alloc _).heap.size; simp))
  clear hb
  go_wp2_with fail
  go_ret
  exact ⟨rfl, HB.out⟩
set_option maxHeartbeats 1000000 in
theorem forb_d (W : World) (x r : Nat) (c : CSt) (h : CodeAt W x r c) (m0 : 0 ≤ c.mode) (m3 : c.mode ≤ 3) (op : Int) (rd r1 r2 n : Nat) (hn : n < 4096) (hl : decide (c.mode < (n : Int) / 256 % 4) = false) (hw : wrB op r1 = true) (h3 : ((n : Int) / 1024 == 3) = false) :
    Calls Tryz.prog 164 #[.pointer (some ⟨x, 0, none⟩), .agg #[.int .i64 op, .int .i64 rd, .int .i64 r1, .int .i64 r2, .int .u32 n]] W fun e W' => e = .returned (.bool false) ∧ Below W.heap.size W W' := by
  have k0 := fun o => (h.below ((Below.refl W.heap.size W).alloc (Nat.le_refl _) o) h.lt.1 h.lt.2).mode
  have hn' : (n : Int) < 4096 := by omega
  have e8 : bits .and .u32 ((n : Int) / 256) 3 = (n : Int) / 256 % 4 := by have := D.mask_u32 2 (by decide) ((n : Int) / 256) (by omega) (by omega); simpa using this
  have e10 : bits .and .u32 ((n : Int) / 1024) 3 = (n : Int) / 1024 := by have := D.mask_u32 2 (by decide) ((n : Int) / 1024) (by omega) (by omega); simp at this; omega
  clear h
  go_enter Tryz.func164, Tryz.ntmps164
  go_wp2_with fail
  go_quiet (fail)
  go_wp2_with fail
  refine (writes_any _ op rd r1 r2 n).mono ?_
  rw [hw]
  rintro e w1 ⟨rfl, hb⟩
  have dc := (hb.cell (p := ⟨W.heap.size, 4, none⟩) (by show _ < (W.alloc _).heap.size; simp)).trans (show World.cell? (World.drewN (W.alloc _) _) _ = _ from (cell_of_row (W.alloc _) W.heap.size 4 _ _ (0, 0) (heap_alloc_new W _)))
  simp at dc
  have HB : Hid (Below W.heap.size W w1) := (below_drawn ((Below.refl _ _).alloc (Nat.le_refl _) _) _).trans (hb.mono (by show _ ≤ (W.alloc _).heap.size; simp))
  clear hb
  go_wp2_with fail
  go_ret
  exact ⟨rfl, HB.out⟩
theorem forb_any (W : World) (x r : Nat) (c : CSt) (h : CodeAt W x r c) (m0 : 0 ≤ c.mode) (m3 : c.mode ≤ 3) (op : Int) (rd r1 r2 n : Nat) (hn : n < 4096) :
    Calls Tryz.prog 164 #[.pointer (some ⟨x, 0, none⟩), .agg #[.int .i64 op, .int .i64 rd, .int .i64 r1, .int .i64 r2, .int .u32 n]] W fun e W' => e = .returned (.bool (!mayC c n (wrB op r1))) ∧ Below W.heap.size W W' := by
  unfold mayC
  by_cases hl : c.mode < (n : Int) / 256 % 4
  · rw [if_pos hl]; exact forb_a W x r c h m0 m3 op rd r1 r2 n hn hl
  · rw [if_neg hl]
    by_cases hw : wrB op r1 = true
    · rw [if_pos hw]
      by_cases h3 : (n : Int) / 1024 = 3
      · rw [if_pos h3]; exact forb_c W x r c h m0 m3 op rd r1 r2 n hn (decide_eq_false hl) hw (by simpa using h3)
      · rw [if_neg h3]; exact forb_d W x r c h m0 m3 op rd r1 r2 n hn (decide_eq_false hl) hw (by simpa using h3)
    · rw [if_neg hw]; exact forb_b W x r c h m0 m3 op rd r1 r2 n hn (decide_eq_false hl) (by simpa using hw)
def numCells : List Value := numsR.map (Value.int .u32)
set_option maxHeartbeats 8000000 in
set_option maxRecDepth 100000 in
theorem control_core (W : World) (x r : Nat) (c : CSt) (h : CodeAt W x r c) (T : T19 W) (n v : Int) (ok : Bool) (HM : ∀ k, k < 19 → numsR.getD k 0 = n → v = (csrsC c).getD k 0 ∧ ok = true) (HN : (∀ k, k < 19 → numsR.getD k 0 ≠ n) → v = 0 ∧ ok = false) :
    Calls Tryz.prog 163 #[.pointer (some ⟨x, 0, none⟩), .int .u32 n] W fun e W' => e = .returned (.tuple #[.int .u32 v, .bool ok]) ∧ Below W.heap.size W W' := by
  have HC := controls_any W x r c h
  have HT : Hid (T19 W) := T
  have H1 : Hid (∀ k, k < 19 → numsR.getD k 0 = n → v = (csrsC c).getD k 0 ∧ ok = true) := HM
  have H2 : Hid ((∀ k, k < 19 → numsR.getD k 0 ≠ n) → v = 0 ∧ ok = false) := HN
  have hl := T.lt
  clear h T HM HN
  go_enter Tryz.func163, Tryz.ntmps163
  go_wp2_with fail
  refine HC.mono ?_
  rintro e w1 ⟨b, rfl, hb0, hrow, hb⟩
  have t := fun j hj => (hb.cell (p := ⟨12, j, none⟩) (by show 12 < _; omega)).trans (HT.out.n j hj)
  have HR : Hid (∀ k, k < 19 → w1.cell? ⟨b, k, none⟩ = some (.int .u32 ((csrsC c).getD k 0))) := fun k hk => hrow.cell k hk
  have HG : Hid (w1.rangeAt 12 0 numCells) := fun j v hv => by
    have hj : j < 19 := (List.getElem?_eq_some_iff.1 hv).1
    have e : v = .int .u32 (numsR.getD j 0) := by
      have h2 := hv
      unfold numCells at h2
      rw [List.getElem?_map] at h2
      obtain ⟨y, hy, rfl⟩ := Option.map_eq_some_iff.1 h2
      rw [List.getD_eq_getElem?_getD, hy]
      rfl
    rw [Nat.zero_add, e]
    exact t j hj
  obtain ⟨d, hu, hd⟩ : ∃ d, Tryz.prog.underlying 148 = some d ∧ d.isRow = true := ⟨_, Tryz.underlying148, rfl⟩
  clear t hrow HC
  go_wp2_with (refine wpList_load_mid rfl 148 _ rfl 12 0 rfl numCells d HG.out hu hd (by kernel_rfl) ?_)
  generalize hTV : Value.agg numCells.toArray = TV
  have HX : Hid (∀ k : Nat, k < 19 → ∀ w, (Instr.index 148 TV (.int .i64 k)).run Tryz.prog w = .ok (.int .u32 (numsR.getD k 0)) w) := by
    intro k hk
    subst hTV
    match k, hk with
    | 0, _ => exact fun _ => by kernel_rfl
    | 1, _ => exact fun _ => by kernel_rfl
    | 2, _ => exact fun _ => by kernel_rfl
    | 3, _ => exact fun _ => by kernel_rfl
    | 4, _ => exact fun _ => by kernel_rfl
    | 5, _ => exact fun _ => by kernel_rfl
    | 6, _ => exact fun _ => by kernel_rfl
    | 7, _ => exact fun _ => by kernel_rfl
    | 8, _ => exact fun _ => by kernel_rfl
    | 9, _ => exact fun _ => by kernel_rfl
    | 10, _ => exact fun _ => by kernel_rfl
    | 11, _ => exact fun _ => by kernel_rfl
    | 12, _ => exact fun _ => by kernel_rfl
    | 13, _ => exact fun _ => by kernel_rfl
    | 14, _ => exact fun _ => by kernel_rfl
    | 15, _ => exact fun _ => by kernel_rfl
    | 16, _ => exact fun _ => by kernel_rfl
    | 17, _ => exact fun _ => by kernel_rfl
    | 18, _ => exact fun _ => by kernel_rfl
    | k + 19, hk => exact absurd hk (by omega)
  clear hTV
  go_loopw [12] (fun i wr => ∃ k : Nat, k ≤ 19 ∧ i = .int .i64 k ∧ wr = w1 ∧ Hid (∀ j, j < k → numsR.getD j 0 ≠ n)) (fun i _ => 19 - (intOf i).toNat)
  case atStart => exact ⟨0, by decide, rfl, rfl, fun j hj => absurd hj (by omega)⟩
  case round =>
    obtain ⟨k, hk, rfl, rfl, hno⟩ := hrel
    by_cases hlt : k < 19
    · have hi : (k : Int) < 19 := by omega
      have ix := HX.out k hlt
      obtain ⟨z, hz⟩ : ∃ z, z = numsR.getD k 0 := ⟨_, rfl⟩
      rw [← hz] at ix
      by_cases he : z = n
      · have e1 := H1.out k hlt (hz.symm.trans he)
        have c1 := HR.out k hlt
        rw [← e1.1] at c1
        obtain ⟨_, rfl⟩ := e1
        subst he
        clear hz
        go_wp2_with fail
        go_ret2
        exact ⟨rfl, hb⟩
      · have he' : (z == n) = false := by simpa using he
        have HN : Hid (∀ j, j < k + 1 → numsR.getD j 0 ≠ n) := fun j hj => by
          by_cases e : j = k
          · subst e; rw [← hz]; exact he
          · exact hno.out j (by omega)
        clear he hz
        go_wp2_with fail
        go_roundw
        case rel => exact ⟨k + 1, by omega, by go_num, by simp, HN⟩
        case measure => simp [intOf]; omega
    · obtain rfl : k = 19 := by omega
      obtain ⟨rfl, rfl⟩ := H2.out hno.out
      go_wp2_with fail
      go_ret2
      exact ⟨rfl, hb⟩
theorem control_yes (W : World) (x r : Nat) (c : CSt) (h : CodeAt W x r c) (T : T19 W) (k : Nat) (hk : k < 19) :
    Calls Tryz.prog 163 #[.pointer (some ⟨x, 0, none⟩), .int .u32 (numsR.getD k 0)] W fun e W' => e = .returned (.tuple #[.int .u32 ((csrsC c).getD k 0), .bool true]) ∧ Below W.heap.size W W' :=
  control_core W x r c h T _ _ _ (fun j hj e => by
    have : ∀ j : Fin 19, ∀ k : Fin 19, numsR.getD j.val 0 = numsR.getD k.val 0 → j = k := by decide
    have e' := congrArg Fin.val (this ⟨j, hj⟩ ⟨k, hk⟩ e)
    have e'' : j = k := e'
    rw [e'']
    exact ⟨rfl, rfl⟩) (fun hn => absurd rfl (hn k hk))
theorem control_no (W : World) (x r : Nat) (c : CSt) (h : CodeAt W x r c) (T : T19 W) (n : Int) (hn : ∀ k, k < 19 → numsR.getD k 0 ≠ n) :
    Calls Tryz.prog 163 #[.pointer (some ⟨x, 0, none⟩), .int .u32 n] W fun e W' => e = .returned (.tuple #[.int .u32 0, .bool false]) ∧ Below W.heap.size W W' :=
  control_core W x r c h T _ _ _ (fun j hj e => absurd e (hn j hj)) (fun _ => ⟨rfl, rfl⟩)
end Go.Proofs.YteiideeechnekaaGreatDoor
