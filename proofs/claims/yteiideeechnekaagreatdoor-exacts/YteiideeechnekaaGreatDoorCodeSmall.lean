/-
  The code's small steps: register, setRegister, result, goTo, jump, branch, width, widen, load, store.
-/
import Derived.Test.YteiideeechnekaaGreatDoorCodeOut
import Derived.Test.YteiideeechnekaaGreatDoorRefTrap
import Derived.Test.YteiideeechnekaaGreatDoorCodeExc
import Derived.Test.YteiideeechnekaaGreatDoorDLeaf
namespace Go.Proofs.YteiideeechnekaaGreatDoor
open Go.RowKit

theorem reg_any (W : World) (x r : Nat) (c : CSt) (h : CodeAt W x r c) (z : c.regs[0]?.getD 0 = 0) (k : Nat) (hk : k < 32) :
    Calls Tryz.prog 110 #[.pointer (some ⟨x, 0, none⟩), .int .i64 k] W fun e W' => e = .returned (.int .u32 (c.regs[k]?.getD 0)) ∧ ∃ q, W' = W.drewN q := by
  have hk' : (k : Int) < 32 := by omega
  have c1 : W.cell? ⟨x, k, none⟩ = some (.int .u32 (c.regs[k]?.getD 0)) := by have := h.regs k hk; rw [Nat.zero_add] at this; rw [this]; simp [List.getD]
  clear h
  by_cases h0 : k = 0
  · subst h0
    rw [z]
    clear c1 z
    go_enter Tryz.func110, Tryz.ntmps110
    go_wp2
    go_ret
    exact ⟨rfl, 0, rfl⟩
  · have h0' : (0 : Int) < k := by omega
    clear z h0
    go_enter Tryz.func110, Tryz.ntmps110
    go_wp2
    go_ret
    exact ⟨rfl, 0, rfl⟩

theorem setReg_any (W : World) (x r : Nat) (c : CSt) (h : CodeAt W x r c) (A : x ≠ r) (k : Nat) (hk : k < 32) (v : Int) :
    Calls Tryz.prog 145 #[.pointer (some ⟨x, 0, none⟩), .int .i64 k, .int .u32 v] W (CP W x r { c with regs := putX c.regs k v }) := by
  have HF : Hid (CodeAt W x r c) := h
  have hk' : (k : Int) < 32 := by omega
  have c1 : W.cell? ⟨x, k, none⟩ = some (.int .u32 (c.regs[k]?.getD 0)) := by have := h.regs k hk; rw [Nat.zero_add] at this; rw [this]; simp [List.getD]
  have f1 := h.fx
  clear h
  by_cases h0 : k = 0
  · subst h0
    go_enter Tryz.func145, Tryz.ntmps145
    go_wp2
    exact bodyPost_ret (v := .tuple #[]) (by simp [results, Tryz.results145, go_sem]) rfl ⟨rfl, HF.out, Offs.refl _ _⟩
  · have h0' : (0 : Int) < k := by omega
    have HE : Hid (putX c.regs k v = c.regs.set k v) := by unfold Hid putX; rw [if_neg h0]
    clear h0
    go_enter Tryz.func145, Tryz.ntmps145
    go_wp2
    go_end0
    exact ⟨rfl, by rw [HE.out]; exact HF.out.put_reg A k hk v, (Offs.refl _ _).put (by simp) _⟩

def resC (c : CSt) (rd : Nat) (v : Int) : CSt := { c with regs := putX c.regs rd v, pc := (c.pc + 4) % 4294967296 }
theorem result_c (W : World) (x r : Nat) (c : CSt) (h : CodeAt W x r c) (A : x ≠ r) (k : Nat) (hk : k < 32) (v : Int) :
    Calls Tryz.prog 111 #[.pointer (some ⟨x, 0, none⟩), .int .i64 k, .int .u32 v] W (CP W x r (resC c k v)) := by
  have HF : Hid (CodeAt W x r c) := h
  clear h
  go_enter Tryz.func111, Tryz.ntmps111
  go_wp2_with (go_at_call 145; refine (setReg_any _ x r c HF.out A k hk v).mono ?_; rintro e w1 ⟨rfl, h1, o1⟩; have c9 := h1.pc; have f9 := h1.fx)
  go_end0
  exact ⟨rfl, h1.put_pc A _, o1.put (by simp) _⟩

theorem goTo_c (W : World) (x r : Nat) (c : CSt) (h : CodeAt W x r c) (A : x ≠ r) (to : Int) (t0 : 0 ≤ to) (t4 : to % 4 = 0) :
    Calls Tryz.prog 146 #[.pointer (some ⟨x, 0, none⟩), .int .u32 to] W fun e W' => e = .returned (.bool true) ∧ CodeAt W' x r { c with pc := to } ∧ Offs [x, r] W W' := by
  have HF : Hid (CodeAt W x r c) := h
  have c1 := h.pc
  have f1 := h.fx
  clear h
  go_enter Tryz.func146, Tryz.ntmps146
  go_wp2
  go_ret
  exact ⟨rfl, HF.out.put_pc A _, (Offs.refl _ _).put (by simp) _⟩

def jmpC (c : CSt) (rd : Nat) (to : Int) : CSt := { c with pc := to, regs := putX c.regs rd ((c.pc + 4) % 4294967296) }
theorem jump_c (W : World) (x r : Nat) (c : CSt) (h : CodeAt W x r c) (A : x ≠ r) (k : Nat) (hk : k < 32) (to : Int) (t0 : 0 ≤ to) (t4 : to % 4 = 0) :
    Calls Tryz.prog 112 #[.pointer (some ⟨x, 0, none⟩), .int .i64 k, .int .u32 to] W (CP W x r (jmpC c k to)) := by
  have HF : Hid (CodeAt W x r c) := h
  have c1 := h.pc
  have T4 : Hid (to % 4 = 0) := t4
  clear h t4
  go_enter Tryz.func112, Tryz.ntmps112
  go_wp2_with (first | (go_at_call 146; refine (goTo_c _ x r c HF.out A to t0 T4.out).mono ?_; rintro e w1 ⟨rfl, h1, o1⟩) | (go_at_call 145; refine (setReg_any _ x r _ h1 A k hk _).mono ?_; rintro e w2 ⟨rfl, h2, o2⟩))
  go_end0
  exact ⟨rfl, h2, o1.trans o2⟩

theorem goTo_f (W : World) (x r : Nat) (c : CSt) (h : CodeAt W x r c) (A : x ≠ r) (m0 : 0 ≤ c.mode) (m3 : c.mode ≤ 3) (to : Int) (t0 : 0 ≤ to) (t4 : (to % 4 != 0) = true) :
    Calls Tryz.prog 146 #[.pointer (some ⟨x, 0, none⟩), .int .u32 to] W fun e W' => e = .returned (.bool false) ∧ CodeAt W' x r (excC c 0 to) ∧ Offs [x, r] W W' := by
  have HF : Hid (CodeAt W x r c) := h
  clear h
  go_enter Tryz.func146, Tryz.ntmps146
  go_wp2_with (go_at_call 79; refine (exc_any _ x r c HF.out A m0 m3 0 (by decide) _).mono ?_; rintro e w1 ⟨rfl, h1, o1⟩)
  go_ret
  exact ⟨rfl, h1, o1⟩
def jumpC (c : CSt) (rd : Nat) (to : Int) : CSt := if to % 4 = 0 then jmpC c rd to else excC c 0 to
theorem jumpC_any (W : World) (x r : Nat) (c : CSt) (h : CodeAt W x r c) (A : x ≠ r) (m0 : 0 ≤ c.mode) (m3 : c.mode ≤ 3) (k : Nat) (hk : k < 32) (to : Int) (t0 : 0 ≤ to) :
    Calls Tryz.prog 112 #[.pointer (some ⟨x, 0, none⟩), .int .i64 k, .int .u32 to] W (CP W x r (jumpC c k to)) := by
  by_cases t4 : to % 4 = 0
  · unfold jumpC
    rw [if_pos t4]
    exact jump_c W x r c h A k hk to t0 t4
  · have HE : Hid (jumpC c k to = excC c 0 to) := by unfold Hid jumpC; rw [if_neg t4]
    have t4' : Hid ((to % 4 != 0) = true) := by unfold Hid; simpa using t4
    have HF : Hid (CodeAt W x r c) := h
    have c1 := h.pc
    clear h t4
    go_enter Tryz.func112, Tryz.ntmps112
    go_wp2_with (go_at_call 146; refine (goTo_f _ x r c HF.out A m0 m3 to t0 t4'.out).mono ?_; rintro e w1 ⟨rfl, h1, o1⟩)
    go_end0
    exact ⟨rfl, by rw [HE.out]; exact h1, o1⟩
def goC (c : CSt) (to : Int) : CSt := if to % 4 = 0 then { c with pc := to } else excC c 0 to
theorem branch_yes (W : World) (x r : Nat) (c : CSt) (h : CodeAt W x r c) (A : x ≠ r) (m0 : 0 ≤ c.mode) (m3 : c.mode ≤ 3) (to : Int) (t0 : 0 ≤ to) :
    Calls Tryz.prog 113 #[.pointer (some ⟨x, 0, none⟩), .bool true, .int .u32 to] W (CP W x r (goC c to)) := by
  have HF : Hid (CodeAt W x r c) := h
  by_cases t4 : to % 4 = 0
  · have HE : Hid (goC c to = { c with pc := to }) := by unfold Hid goC; rw [if_pos t4]
    have T4 : Hid (to % 4 = 0) := t4
    clear h t4
    go_enter Tryz.func113, Tryz.ntmps113
    go_wp2_with (go_at_call 146; refine (goTo_c _ x r c HF.out A to t0 T4.out).mono ?_; rintro e w1 ⟨rfl, h1, o1⟩)
    go_end0
    exact ⟨rfl, by rw [HE.out]; exact h1, o1⟩
  · have HE : Hid (goC c to = excC c 0 to) := by unfold Hid goC; rw [if_neg t4]
    have t4' : Hid ((to % 4 != 0) = true) := by unfold Hid; simpa using t4
    clear h t4
    go_enter Tryz.func113, Tryz.ntmps113
    go_wp2_with (go_at_call 146; refine (goTo_f _ x r c HF.out A m0 m3 to t0 t4'.out).mono ?_; rintro e w1 ⟨rfl, h1, o1⟩)
    go_end0
    exact ⟨rfl, by rw [HE.out]; exact h1, o1⟩
theorem branch_no (W : World) (x r : Nat) (c : CSt) (h : CodeAt W x r c) (A : x ≠ r) (to : Int) (p4 : (c.pc + 4) % 4294967296 % 4 = 0) :
    Calls Tryz.prog 113 #[.pointer (some ⟨x, 0, none⟩), .bool false, .int .u32 to] W (CP W x r { c with pc := (c.pc + 4) % 4294967296 }) := by
  have HF : Hid (CodeAt W x r c) := h
  have c1 := h.pc
  have T4 : Hid ((c.pc + 4) % 4294967296 % 4 = 0) := p4
  clear h p4
  go_enter Tryz.func113, Tryz.ntmps113
  go_wp2_with (go_at_call 146; refine (goTo_c _ x r c HF.out A _ (by omega) T4.out).mono ?_; rintro e w1 ⟨rfl, h1, o1⟩)
  go_end0
  exact ⟨rfl, h1, o1⟩
theorem width_11 (W : World) : Calls Tryz.prog 148 #[.int .i64 11] W fun e W' => e = .returned (.int .i64 1) ∧ W' = W := by
  go_enter Tryz.func148, Tryz.ntmps148
  go_wp2
  go_ret
  exact ⟨rfl, rfl⟩
theorem width_12 (W : World) : Calls Tryz.prog 148 #[.int .i64 12] W fun e W' => e = .returned (.int .i64 2) ∧ W' = W := by
  go_enter Tryz.func148, Tryz.ntmps148
  go_wp2
  go_ret
  exact ⟨rfl, rfl⟩
theorem width_13 (W : World) : Calls Tryz.prog 148 #[.int .i64 13] W fun e W' => e = .returned (.int .i64 4) ∧ W' = W := by
  go_enter Tryz.func148, Tryz.ntmps148
  go_wp2
  go_ret
  exact ⟨rfl, rfl⟩
theorem width_14 (W : World) : Calls Tryz.prog 148 #[.int .i64 14] W fun e W' => e = .returned (.int .i64 1) ∧ W' = W := by
  go_enter Tryz.func148, Tryz.ntmps148
  go_wp2
  go_ret
  exact ⟨rfl, rfl⟩
theorem width_15 (W : World) : Calls Tryz.prog 148 #[.int .i64 15] W fun e W' => e = .returned (.int .i64 2) ∧ W' = W := by
  go_enter Tryz.func148, Tryz.ntmps148
  go_wp2
  go_ret
  exact ⟨rfl, rfl⟩
theorem width_16 (W : World) : Calls Tryz.prog 148 #[.int .i64 16] W fun e W' => e = .returned (.int .i64 1) ∧ W' = W := by
  go_enter Tryz.func148, Tryz.ntmps148
  go_wp2
  go_ret
  exact ⟨rfl, rfl⟩
theorem width_17 (W : World) : Calls Tryz.prog 148 #[.int .i64 17] W fun e W' => e = .returned (.int .i64 2) ∧ W' = W := by
  go_enter Tryz.func148, Tryz.ntmps148
  go_wp2
  go_ret
  exact ⟨rfl, rfl⟩
theorem width_18 (W : World) : Calls Tryz.prog 148 #[.int .i64 18] W fun e W' => e = .returned (.int .i64 4) ∧ W' = W := by
  go_enter Tryz.func148, Tryz.ntmps148
  go_wp2
  go_ret
  exact ⟨rfl, rfl⟩
theorem widen_other (W : World) (op v : Int) (h1 : (op == 11) = false) (h2 : (op == 12) = false) : Calls Tryz.prog 149 #[.int .i64 op, .int .u32 v] W fun e W' => e = .returned (.int .u32 v) ∧ W' = W := by
  go_enter Tryz.func149, Tryz.ntmps149
  go_wp2
  go_ret
  exact ⟨rfl, rfl⟩
theorem widen_11_lo (W : World) (v : Int) (h0 : 0 ≤ v) (h1 : v < 128) : Calls Tryz.prog 149 #[.int .i64 11, .int .u32 v] W fun e W' => e = .returned (.int .u32 v) ∧ W' = W := by
  have w8 : IntKind.i8.wrap v % 4294967296 = v := by simp [IntKind.wrap, IntKind.bits, IntKind.signed]; omega
  go_enter Tryz.func149, Tryz.ntmps149
  go_wp2
  go_ret
  exact ⟨rfl, rfl⟩
theorem widen_11_hi (W : World) (v : Int) (h0 : 128 ≤ v) (h1 : v < 256) : Calls Tryz.prog 149 #[.int .i64 11, .int .u32 v] W fun e W' => e = .returned (.int .u32 (v + 4294967040)) ∧ W' = W := by
  have w8 : IntKind.i8.wrap v % 4294967296 = v + 4294967040 := by simp [IntKind.wrap, IntKind.bits, IntKind.signed]; omega
  have HW : Hid (IntKind.i8.wrap v % 4294967296 = v + 4294967040) := w8
  clear w8
  go_enter Tryz.func149, Tryz.ntmps149
  go_wp2
  go_ret
  exact ⟨D.ret_int HW.out, rfl⟩
theorem widen_12_lo (W : World) (v : Int) (h0 : 0 ≤ v) (h1 : v < 32768) : Calls Tryz.prog 149 #[.int .i64 12, .int .u32 v] W fun e W' => e = .returned (.int .u32 v) ∧ W' = W := by
  have w8 : IntKind.i16.wrap v % 4294967296 = v := by simp [IntKind.wrap, IntKind.bits, IntKind.signed]; omega
  go_enter Tryz.func149, Tryz.ntmps149
  go_wp2
  go_ret
  exact ⟨rfl, rfl⟩
theorem widen_12_hi (W : World) (v : Int) (h0 : 32768 ≤ v) (h1 : v < 65536) : Calls Tryz.prog 149 #[.int .i64 12, .int .u32 v] W fun e W' => e = .returned (.int .u32 (v + 4294901760)) ∧ W' = W := by
  have w8 : IntKind.i16.wrap v % 4294967296 = v + 4294901760 := by simp [IntKind.wrap, IntKind.bits, IntKind.signed]; omega
  have HW : Hid (IntKind.i16.wrap v % 4294967296 = v + 4294901760) := w8
  clear w8
  go_enter Tryz.func149, Tryz.ntmps149
  go_wp2
  go_ret
  exact ⟨D.ret_int HW.out, rfl⟩
set_option maxHeartbeats 1000000 in
theorem cload_11_lo (W : World) (x r : Nat) (c : CSt) (h : CodeAt W x r c) (A : x ≠ r) (rd : Nat) (hrd : rd < 32) (r1 r2 imm : Int) (a : Nat) (ha : a + 1 ≤ c.ram.length) (hc : leV c.ram a 1 < 128) :
    Calls Tryz.prog 115 #[.pointer (some ⟨x, 0, none⟩), .agg #[.int .i64 11, .int .i64 rd, .int .i64 r1, .int .i64 r2, .int .u32 imm], .int .u32 a] W (CP W x r (resC c rd (leV c.ram a 1))) := by
  have HF : Hid (∀ o q, CodeAt ((W.alloc o).drewN q) x r c) := fun o q => (h.below ((Below.refl W.heap.size W).alloc (Nat.le_refl _) o) h.lt.1 h.lt.2).drawn q
  have HF0 : Hid (∀ o, CodeAt (W.alloc o) x r c) := fun o => h.below ((Below.refl W.heap.size W).alloc (Nat.le_refl _) o) h.lt.1 h.lt.2
  have lv := leV_bd (show Byt c.ram from h.bytes.2.2) a
  have HL : Hid (W.heap.size ∉ [x, r]) := fun hk => by have := h.lt; simp at hk; omega
  clear h
  go_enter Tryz.func115, Tryz.ntmps115
  go_wp2_with (first | (go_at_call 148; refine (width_11 _).mono ?_; rintro e w' ⟨rfl, rfl⟩) | (go_at_call 46; refine (cread_in _ x a 1 _ (loadRam_1 _ x r c (HF0.out _) a ha)).mono ?_; rintro e w1 ⟨rfl, q, rfl⟩))
  generalize hw0 : World.drewN (W.alloc (.cells #[.int .i64 11, .int .i64 rd, .int .i64 r1, .int .i64 r2, .int .u32 imm] 72)) q = w0
  have C0 : Hid (CodeAt w0.drew x r c) := by rw [← hw0]; exact (HF.out _ _).drawn 1
  have O0 : Hid (Offs [x, r] W w0.drew) := by rw [← hw0]; exact (((Offs.refl _ _).new _).drawn _).drawn 1
  have hS : w0.drew.cell? ⟨W.heap.size, 0, none⟩ = some (.int .i64 11) ∧ w0.drew.cell? ⟨W.heap.size, 1, none⟩ = some (.int .i64 rd) := by
    rw [← hw0]
    have e := fun j => cell_of_row (W.alloc (.cells #[.int .i64 11, .int .i64 rd, .int .i64 r1, .int .i64 r2, .int .u32 imm] 72)) W.heap.size j _ _ (0, 0) (heap_alloc_new W _)
    exact ⟨(e 0).trans rfl, (e 1).trans rfl⟩
  have HG : Hid (W.heap.size < w0.drew.heap.size ∧ W.heap.size ∉ [x, r]) := ⟨by rw [← hw0]; show _ < (W.alloc _).heap.size; simp, HL.out⟩
  generalize W.heap.size = g at hS HG ⊢
  clear hw0
  refine wp_region_held (S := fun w' => w'.cell? ⟨g, 0, none⟩ = some (.int .i64 11) ∧ w'.cell? ⟨g, 1, none⟩ = some (.int .i64 rd)) (by kernel_rfl) ?_
  change wpAnyH _ _ _ _ _ _ _ _ (w0.drew)
  refine yK 0 (.pointer (some ⟨x, 0, none⟩)) hS ?_
  refine yK 1 (.pointer (some ⟨g, 1, none⟩)) hS ?_
  refine yI 2 (fun _ h => h.2) hS ?_
  refine yK 3 (.pointer (some ⟨g, 0, none⟩)) hS ?_
  refine yI 4 (fun _ h => h.1) hS ?_
  refine yK 5 (.int .u32 (leV c.ram a 1)) hS ?_
  refine tA 6 (by kernel_rfl) (wpOp_step rfl fun K hK => ?_)
  go_simp
  refine (widen_11_lo _ _ (by omega) (by omega)).mono ?_
  rintro e w' ⟨rfl, hw⟩
  rw [hw]
  clear hw w'
  refine hK _ _ ⟨hS, ?_⟩
  clear hK K
  refine tA 7 (by kernel_rfl) (wpOp_step rfl fun K hK => ?_)
  go_simp
  refine (result_c _ x r c C0.out A rd hrd _).mono ?_
  rintro e w2 ⟨rfl, h2, o2⟩
  have hS3 : w2.cell? ⟨g, 0, none⟩ = some (.int .i64 11) ∧ w2.cell? ⟨g, 1, none⟩ = some (.int .i64 rd) := by
    have b3 := fun j => World.cell?_of_block (w := w0.drew) (a := ⟨g, j, none⟩) (o2.block g HG.out.1 HG.out.2)
    exact ⟨(b3 0).trans hS.1, (b3 1).trans hS.2⟩
  refine hK _ _ ⟨hS3, wpAnyH_done (by kernel_rfl) ?_ _⟩
  clear hK K
  go_wp2_with fail
  go_end0
  exact ⟨rfl, h2, O0.out.trans o2⟩
set_option maxHeartbeats 1000000 in
theorem cload_11_hi (W : World) (x r : Nat) (c : CSt) (h : CodeAt W x r c) (A : x ≠ r) (rd : Nat) (hrd : rd < 32) (r1 r2 imm : Int) (a : Nat) (ha : a + 1 ≤ c.ram.length) (hc : ¬ leV c.ram a 1 < 128) :
    Calls Tryz.prog 115 #[.pointer (some ⟨x, 0, none⟩), .agg #[.int .i64 11, .int .i64 rd, .int .i64 r1, .int .i64 r2, .int .u32 imm], .int .u32 a] W (CP W x r (resC c rd (leV c.ram a 1 + 4294967040))) := by
  have HF : Hid (∀ o q, CodeAt ((W.alloc o).drewN q) x r c) := fun o q => (h.below ((Below.refl W.heap.size W).alloc (Nat.le_refl _) o) h.lt.1 h.lt.2).drawn q
  have HF0 : Hid (∀ o, CodeAt (W.alloc o) x r c) := fun o => h.below ((Below.refl W.heap.size W).alloc (Nat.le_refl _) o) h.lt.1 h.lt.2
  have lv := leV_bd (show Byt c.ram from h.bytes.2.2) a
  have HL : Hid (W.heap.size ∉ [x, r]) := fun hk => by have := h.lt; simp at hk; omega
  clear h
  go_enter Tryz.func115, Tryz.ntmps115
  go_wp2_with (first | (go_at_call 148; refine (width_11 _).mono ?_; rintro e w' ⟨rfl, rfl⟩) | (go_at_call 46; refine (cread_in _ x a 1 _ (loadRam_1 _ x r c (HF0.out _) a ha)).mono ?_; rintro e w1 ⟨rfl, q, rfl⟩))
  generalize hw0 : World.drewN (W.alloc (.cells #[.int .i64 11, .int .i64 rd, .int .i64 r1, .int .i64 r2, .int .u32 imm] 72)) q = w0
  have C0 : Hid (CodeAt w0.drew x r c) := by rw [← hw0]; exact (HF.out _ _).drawn 1
  have O0 : Hid (Offs [x, r] W w0.drew) := by rw [← hw0]; exact (((Offs.refl _ _).new _).drawn _).drawn 1
  have hS : w0.drew.cell? ⟨W.heap.size, 0, none⟩ = some (.int .i64 11) ∧ w0.drew.cell? ⟨W.heap.size, 1, none⟩ = some (.int .i64 rd) := by
    rw [← hw0]
    have e := fun j => cell_of_row (W.alloc (.cells #[.int .i64 11, .int .i64 rd, .int .i64 r1, .int .i64 r2, .int .u32 imm] 72)) W.heap.size j _ _ (0, 0) (heap_alloc_new W _)
    exact ⟨(e 0).trans rfl, (e 1).trans rfl⟩
  have HG : Hid (W.heap.size < w0.drew.heap.size ∧ W.heap.size ∉ [x, r]) := ⟨by rw [← hw0]; show _ < (W.alloc _).heap.size; simp, HL.out⟩
  generalize W.heap.size = g at hS HG ⊢
  clear hw0
  refine wp_region_held (S := fun w' => w'.cell? ⟨g, 0, none⟩ = some (.int .i64 11) ∧ w'.cell? ⟨g, 1, none⟩ = some (.int .i64 rd)) (by kernel_rfl) ?_
  change wpAnyH _ _ _ _ _ _ _ _ (w0.drew)
  refine yK 0 (.pointer (some ⟨x, 0, none⟩)) hS ?_
  refine yK 1 (.pointer (some ⟨g, 1, none⟩)) hS ?_
  refine yI 2 (fun _ h => h.2) hS ?_
  refine yK 3 (.pointer (some ⟨g, 0, none⟩)) hS ?_
  refine yI 4 (fun _ h => h.1) hS ?_
  refine yK 5 (.int .u32 (leV c.ram a 1)) hS ?_
  refine tA 6 (by kernel_rfl) (wpOp_step rfl fun K hK => ?_)
  go_simp
  refine (widen_11_hi _ _ (by omega) (by omega)).mono ?_
  rintro e w' ⟨rfl, hw⟩
  rw [hw]
  clear hw w'
  refine hK _ _ ⟨hS, ?_⟩
  clear hK K
  refine tA 7 (by kernel_rfl) (wpOp_step rfl fun K hK => ?_)
  go_simp
  refine (result_c _ x r c C0.out A rd hrd _).mono ?_
  rintro e w2 ⟨rfl, h2, o2⟩
  have hS3 : w2.cell? ⟨g, 0, none⟩ = some (.int .i64 11) ∧ w2.cell? ⟨g, 1, none⟩ = some (.int .i64 rd) := by
    have b3 := fun j => World.cell?_of_block (w := w0.drew) (a := ⟨g, j, none⟩) (o2.block g HG.out.1 HG.out.2)
    exact ⟨(b3 0).trans hS.1, (b3 1).trans hS.2⟩
  refine hK _ _ ⟨hS3, wpAnyH_done (by kernel_rfl) ?_ _⟩
  clear hK K
  go_wp2_with fail
  go_end0
  exact ⟨rfl, h2, O0.out.trans o2⟩
set_option maxHeartbeats 1000000 in
theorem cload_12_lo (W : World) (x r : Nat) (c : CSt) (h : CodeAt W x r c) (A : x ≠ r) (rd : Nat) (hrd : rd < 32) (r1 r2 imm : Int) (a : Nat) (ha : a + 2 ≤ c.ram.length) (hc : leV c.ram a 2 < 32768) :
    Calls Tryz.prog 115 #[.pointer (some ⟨x, 0, none⟩), .agg #[.int .i64 12, .int .i64 rd, .int .i64 r1, .int .i64 r2, .int .u32 imm], .int .u32 a] W (CP W x r (resC c rd (leV c.ram a 2))) := by
  have HF : Hid (∀ o q, CodeAt ((W.alloc o).drewN q) x r c) := fun o q => (h.below ((Below.refl W.heap.size W).alloc (Nat.le_refl _) o) h.lt.1 h.lt.2).drawn q
  have HF0 : Hid (∀ o, CodeAt (W.alloc o) x r c) := fun o => h.below ((Below.refl W.heap.size W).alloc (Nat.le_refl _) o) h.lt.1 h.lt.2
  have lv := leV_bd (show Byt c.ram from h.bytes.2.2) a
  have HL : Hid (W.heap.size ∉ [x, r]) := fun hk => by have := h.lt; simp at hk; omega
  clear h
  go_enter Tryz.func115, Tryz.ntmps115
  go_wp2_with (first | (go_at_call 148; refine (width_12 _).mono ?_; rintro e w' ⟨rfl, rfl⟩) | (go_at_call 46; refine (cread_in _ x a 2 _ (loadRam_2 _ x r c (HF0.out _) a ha)).mono ?_; rintro e w1 ⟨rfl, q, rfl⟩))
  generalize hw0 : World.drewN (W.alloc (.cells #[.int .i64 12, .int .i64 rd, .int .i64 r1, .int .i64 r2, .int .u32 imm] 72)) q = w0
  have C0 : Hid (CodeAt w0.drew x r c) := by rw [← hw0]; exact (HF.out _ _).drawn 1
  have O0 : Hid (Offs [x, r] W w0.drew) := by rw [← hw0]; exact (((Offs.refl _ _).new _).drawn _).drawn 1
  have hS : w0.drew.cell? ⟨W.heap.size, 0, none⟩ = some (.int .i64 12) ∧ w0.drew.cell? ⟨W.heap.size, 1, none⟩ = some (.int .i64 rd) := by
    rw [← hw0]
    have e := fun j => cell_of_row (W.alloc (.cells #[.int .i64 12, .int .i64 rd, .int .i64 r1, .int .i64 r2, .int .u32 imm] 72)) W.heap.size j _ _ (0, 0) (heap_alloc_new W _)
    exact ⟨(e 0).trans rfl, (e 1).trans rfl⟩
  have HG : Hid (W.heap.size < w0.drew.heap.size ∧ W.heap.size ∉ [x, r]) := ⟨by rw [← hw0]; show _ < (W.alloc _).heap.size; simp, HL.out⟩
  generalize W.heap.size = g at hS HG ⊢
  clear hw0
  refine wp_region_held (S := fun w' => w'.cell? ⟨g, 0, none⟩ = some (.int .i64 12) ∧ w'.cell? ⟨g, 1, none⟩ = some (.int .i64 rd)) (by kernel_rfl) ?_
  change wpAnyH _ _ _ _ _ _ _ _ (w0.drew)
  refine yK 0 (.pointer (some ⟨x, 0, none⟩)) hS ?_
  refine yK 1 (.pointer (some ⟨g, 1, none⟩)) hS ?_
  refine yI 2 (fun _ h => h.2) hS ?_
  refine yK 3 (.pointer (some ⟨g, 0, none⟩)) hS ?_
  refine yI 4 (fun _ h => h.1) hS ?_
  refine yK 5 (.int .u32 (leV c.ram a 2)) hS ?_
  refine tA 6 (by kernel_rfl) (wpOp_step rfl fun K hK => ?_)
  go_simp
  refine (widen_12_lo _ _ (by omega) (by omega)).mono ?_
  rintro e w' ⟨rfl, hw⟩
  rw [hw]
  clear hw w'
  refine hK _ _ ⟨hS, ?_⟩
  clear hK K
  refine tA 7 (by kernel_rfl) (wpOp_step rfl fun K hK => ?_)
  go_simp
  refine (result_c _ x r c C0.out A rd hrd _).mono ?_
  rintro e w2 ⟨rfl, h2, o2⟩
  have hS3 : w2.cell? ⟨g, 0, none⟩ = some (.int .i64 12) ∧ w2.cell? ⟨g, 1, none⟩ = some (.int .i64 rd) := by
    have b3 := fun j => World.cell?_of_block (w := w0.drew) (a := ⟨g, j, none⟩) (o2.block g HG.out.1 HG.out.2)
    exact ⟨(b3 0).trans hS.1, (b3 1).trans hS.2⟩
  refine hK _ _ ⟨hS3, wpAnyH_done (by kernel_rfl) ?_ _⟩
  clear hK K
  go_wp2_with fail
  go_end0
  exact ⟨rfl, h2, O0.out.trans o2⟩
set_option maxHeartbeats 1000000 in
theorem cload_12_hi (W : World) (x r : Nat) (c : CSt) (h : CodeAt W x r c) (A : x ≠ r) (rd : Nat) (hrd : rd < 32) (r1 r2 imm : Int) (a : Nat) (ha : a + 2 ≤ c.ram.length) (hc : ¬ leV c.ram a 2 < 32768) :
    Calls Tryz.prog 115 #[.pointer (some ⟨x, 0, none⟩), .agg #[.int .i64 12, .int .i64 rd, .int .i64 r1, .int .i64 r2, .int .u32 imm], .int .u32 a] W (CP W x r (resC c rd (leV c.ram a 2 + 4294901760))) := by
  have HF : Hid (∀ o q, CodeAt ((W.alloc o).drewN q) x r c) := fun o q => (h.below ((Below.refl W.heap.size W).alloc (Nat.le_refl _) o) h.lt.1 h.lt.2).drawn q
  have HF0 : Hid (∀ o, CodeAt (W.alloc o) x r c) := fun o => h.below ((Below.refl W.heap.size W).alloc (Nat.le_refl _) o) h.lt.1 h.lt.2
  have lv := leV_bd (show Byt c.ram from h.bytes.2.2) a
  have HL : Hid (W.heap.size ∉ [x, r]) := fun hk => by have := h.lt; simp at hk; omega
  clear h
  go_enter Tryz.func115, Tryz.ntmps115
  go_wp2_with (first | (go_at_call 148; refine (width_12 _).mono ?_; rintro e w' ⟨rfl, rfl⟩) | (go_at_call 46; refine (cread_in _ x a 2 _ (loadRam_2 _ x r c (HF0.out _) a ha)).mono ?_; rintro e w1 ⟨rfl, q, rfl⟩))
  generalize hw0 : World.drewN (W.alloc (.cells #[.int .i64 12, .int .i64 rd, .int .i64 r1, .int .i64 r2, .int .u32 imm] 72)) q = w0
  have C0 : Hid (CodeAt w0.drew x r c) := by rw [← hw0]; exact (HF.out _ _).drawn 1
  have O0 : Hid (Offs [x, r] W w0.drew) := by rw [← hw0]; exact (((Offs.refl _ _).new _).drawn _).drawn 1
  have hS : w0.drew.cell? ⟨W.heap.size, 0, none⟩ = some (.int .i64 12) ∧ w0.drew.cell? ⟨W.heap.size, 1, none⟩ = some (.int .i64 rd) := by
    rw [← hw0]
    have e := fun j => cell_of_row (W.alloc (.cells #[.int .i64 12, .int .i64 rd, .int .i64 r1, .int .i64 r2, .int .u32 imm] 72)) W.heap.size j _ _ (0, 0) (heap_alloc_new W _)
    exact ⟨(e 0).trans rfl, (e 1).trans rfl⟩
  have HG : Hid (W.heap.size < w0.drew.heap.size ∧ W.heap.size ∉ [x, r]) := ⟨by rw [← hw0]; show _ < (W.alloc _).heap.size; simp, HL.out⟩
  generalize W.heap.size = g at hS HG ⊢
  clear hw0
  refine wp_region_held (S := fun w' => w'.cell? ⟨g, 0, none⟩ = some (.int .i64 12) ∧ w'.cell? ⟨g, 1, none⟩ = some (.int .i64 rd)) (by kernel_rfl) ?_
  change wpAnyH _ _ _ _ _ _ _ _ (w0.drew)
  refine yK 0 (.pointer (some ⟨x, 0, none⟩)) hS ?_
  refine yK 1 (.pointer (some ⟨g, 1, none⟩)) hS ?_
  refine yI 2 (fun _ h => h.2) hS ?_
  refine yK 3 (.pointer (some ⟨g, 0, none⟩)) hS ?_
  refine yI 4 (fun _ h => h.1) hS ?_
  refine yK 5 (.int .u32 (leV c.ram a 2)) hS ?_
  refine tA 6 (by kernel_rfl) (wpOp_step rfl fun K hK => ?_)
  go_simp
  refine (widen_12_hi _ _ (by omega) (by omega)).mono ?_
  rintro e w' ⟨rfl, hw⟩
  rw [hw]
  clear hw w'
  refine hK _ _ ⟨hS, ?_⟩
  clear hK K
  refine tA 7 (by kernel_rfl) (wpOp_step rfl fun K hK => ?_)
  go_simp
  refine (result_c _ x r c C0.out A rd hrd _).mono ?_
  rintro e w2 ⟨rfl, h2, o2⟩
  have hS3 : w2.cell? ⟨g, 0, none⟩ = some (.int .i64 12) ∧ w2.cell? ⟨g, 1, none⟩ = some (.int .i64 rd) := by
    have b3 := fun j => World.cell?_of_block (w := w0.drew) (a := ⟨g, j, none⟩) (o2.block g HG.out.1 HG.out.2)
    exact ⟨(b3 0).trans hS.1, (b3 1).trans hS.2⟩
  refine hK _ _ ⟨hS3, wpAnyH_done (by kernel_rfl) ?_ _⟩
  clear hK K
  go_wp2_with fail
  go_end0
  exact ⟨rfl, h2, O0.out.trans o2⟩
set_option maxHeartbeats 1000000 in
theorem cload_13 (W : World) (x r : Nat) (c : CSt) (h : CodeAt W x r c) (A : x ≠ r) (rd : Nat) (hrd : rd < 32) (r1 r2 imm : Int) (a : Nat) (ha : a + 4 ≤ c.ram.length) :
    Calls Tryz.prog 115 #[.pointer (some ⟨x, 0, none⟩), .agg #[.int .i64 13, .int .i64 rd, .int .i64 r1, .int .i64 r2, .int .u32 imm], .int .u32 a] W (CP W x r (resC c rd (leV c.ram a 4))) := by
  have HF : Hid (∀ o q, CodeAt ((W.alloc o).drewN q) x r c) := fun o q => (h.below ((Below.refl W.heap.size W).alloc (Nat.le_refl _) o) h.lt.1 h.lt.2).drawn q
  have HF0 : Hid (∀ o, CodeAt (W.alloc o) x r c) := fun o => h.below ((Below.refl W.heap.size W).alloc (Nat.le_refl _) o) h.lt.1 h.lt.2
  have lv := leV_bd (show Byt c.ram from h.bytes.2.2) a
  have HL : Hid (W.heap.size ∉ [x, r]) := fun hk => by have := h.lt; simp at hk; omega
  clear h
  go_enter Tryz.func115, Tryz.ntmps115
  go_wp2_with (first | (go_at_call 148; refine (width_13 _).mono ?_; rintro e w' ⟨rfl, rfl⟩) | (go_at_call 46; refine (cread_in _ x a 4 _ (loadRam_4 _ x r c (HF0.out _) a ha)).mono ?_; rintro e w1 ⟨rfl, q, rfl⟩))
  generalize hw0 : World.drewN (W.alloc (.cells #[.int .i64 13, .int .i64 rd, .int .i64 r1, .int .i64 r2, .int .u32 imm] 72)) q = w0
  have C0 : Hid (CodeAt w0.drew x r c) := by rw [← hw0]; exact (HF.out _ _).drawn 1
  have O0 : Hid (Offs [x, r] W w0.drew) := by rw [← hw0]; exact (((Offs.refl _ _).new _).drawn _).drawn 1
  have hS : w0.drew.cell? ⟨W.heap.size, 0, none⟩ = some (.int .i64 13) ∧ w0.drew.cell? ⟨W.heap.size, 1, none⟩ = some (.int .i64 rd) := by
    rw [← hw0]
    have e := fun j => cell_of_row (W.alloc (.cells #[.int .i64 13, .int .i64 rd, .int .i64 r1, .int .i64 r2, .int .u32 imm] 72)) W.heap.size j _ _ (0, 0) (heap_alloc_new W _)
    exact ⟨(e 0).trans rfl, (e 1).trans rfl⟩
  have HG : Hid (W.heap.size < w0.drew.heap.size ∧ W.heap.size ∉ [x, r]) := ⟨by rw [← hw0]; show _ < (W.alloc _).heap.size; simp, HL.out⟩
  generalize W.heap.size = g at hS HG ⊢
  clear hw0
  refine wp_region_held (S := fun w' => w'.cell? ⟨g, 0, none⟩ = some (.int .i64 13) ∧ w'.cell? ⟨g, 1, none⟩ = some (.int .i64 rd)) (by kernel_rfl) ?_
  change wpAnyH _ _ _ _ _ _ _ _ (w0.drew)
  refine yK 0 (.pointer (some ⟨x, 0, none⟩)) hS ?_
  refine yK 1 (.pointer (some ⟨g, 1, none⟩)) hS ?_
  refine yI 2 (fun _ h => h.2) hS ?_
  refine yK 3 (.pointer (some ⟨g, 0, none⟩)) hS ?_
  refine yI 4 (fun _ h => h.1) hS ?_
  refine yK 5 (.int .u32 (leV c.ram a 4)) hS ?_
  refine tA 6 (by kernel_rfl) (wpOp_step rfl fun K hK => ?_)
  go_simp
  refine (widen_other _ 13 _ rfl rfl).mono ?_
  rintro e w' ⟨rfl, hw⟩
  rw [hw]
  clear hw w'
  refine hK _ _ ⟨hS, ?_⟩
  clear hK K
  refine tA 7 (by kernel_rfl) (wpOp_step rfl fun K hK => ?_)
  go_simp
  refine (result_c _ x r c C0.out A rd hrd _).mono ?_
  rintro e w2 ⟨rfl, h2, o2⟩
  have hS3 : w2.cell? ⟨g, 0, none⟩ = some (.int .i64 13) ∧ w2.cell? ⟨g, 1, none⟩ = some (.int .i64 rd) := by
    have b3 := fun j => World.cell?_of_block (w := w0.drew) (a := ⟨g, j, none⟩) (o2.block g HG.out.1 HG.out.2)
    exact ⟨(b3 0).trans hS.1, (b3 1).trans hS.2⟩
  refine hK _ _ ⟨hS3, wpAnyH_done (by kernel_rfl) ?_ _⟩
  clear hK K
  go_wp2_with fail
  go_end0
  exact ⟨rfl, h2, O0.out.trans o2⟩
set_option maxHeartbeats 1000000 in
theorem cload_14 (W : World) (x r : Nat) (c : CSt) (h : CodeAt W x r c) (A : x ≠ r) (rd : Nat) (hrd : rd < 32) (r1 r2 imm : Int) (a : Nat) (ha : a + 1 ≤ c.ram.length) :
    Calls Tryz.prog 115 #[.pointer (some ⟨x, 0, none⟩), .agg #[.int .i64 14, .int .i64 rd, .int .i64 r1, .int .i64 r2, .int .u32 imm], .int .u32 a] W (CP W x r (resC c rd (leV c.ram a 1))) := by
  have HF : Hid (∀ o q, CodeAt ((W.alloc o).drewN q) x r c) := fun o q => (h.below ((Below.refl W.heap.size W).alloc (Nat.le_refl _) o) h.lt.1 h.lt.2).drawn q
  have HF0 : Hid (∀ o, CodeAt (W.alloc o) x r c) := fun o => h.below ((Below.refl W.heap.size W).alloc (Nat.le_refl _) o) h.lt.1 h.lt.2
  have lv := leV_bd (show Byt c.ram from h.bytes.2.2) a
  have HL : Hid (W.heap.size ∉ [x, r]) := fun hk => by have := h.lt; simp at hk; omega
  clear h
  go_enter Tryz.func115, Tryz.ntmps115
  go_wp2_with (first | (go_at_call 148; refine (width_14 _).mono ?_; rintro e w' ⟨rfl, rfl⟩) | (go_at_call 46; refine (cread_in _ x a 1 _ (loadRam_1 _ x r c (HF0.out _) a ha)).mono ?_; rintro e w1 ⟨rfl, q, rfl⟩))
  generalize hw0 : World.drewN (W.alloc (.cells #[.int .i64 14, .int .i64 rd, .int .i64 r1, .int .i64 r2, .int .u32 imm] 72)) q = w0
  have C0 : Hid (CodeAt w0.drew x r c) := by rw [← hw0]; exact (HF.out _ _).drawn 1
  have O0 : Hid (Offs [x, r] W w0.drew) := by rw [← hw0]; exact (((Offs.refl _ _).new _).drawn _).drawn 1
  have hS : w0.drew.cell? ⟨W.heap.size, 0, none⟩ = some (.int .i64 14) ∧ w0.drew.cell? ⟨W.heap.size, 1, none⟩ = some (.int .i64 rd) := by
    rw [← hw0]
    have e := fun j => cell_of_row (W.alloc (.cells #[.int .i64 14, .int .i64 rd, .int .i64 r1, .int .i64 r2, .int .u32 imm] 72)) W.heap.size j _ _ (0, 0) (heap_alloc_new W _)
    exact ⟨(e 0).trans rfl, (e 1).trans rfl⟩
  have HG : Hid (W.heap.size < w0.drew.heap.size ∧ W.heap.size ∉ [x, r]) := ⟨by rw [← hw0]; show _ < (W.alloc _).heap.size; simp, HL.out⟩
  generalize W.heap.size = g at hS HG ⊢
  clear hw0
  refine wp_region_held (S := fun w' => w'.cell? ⟨g, 0, none⟩ = some (.int .i64 14) ∧ w'.cell? ⟨g, 1, none⟩ = some (.int .i64 rd)) (by kernel_rfl) ?_
  change wpAnyH _ _ _ _ _ _ _ _ (w0.drew)
  refine yK 0 (.pointer (some ⟨x, 0, none⟩)) hS ?_
  refine yK 1 (.pointer (some ⟨g, 1, none⟩)) hS ?_
  refine yI 2 (fun _ h => h.2) hS ?_
  refine yK 3 (.pointer (some ⟨g, 0, none⟩)) hS ?_
  refine yI 4 (fun _ h => h.1) hS ?_
  refine yK 5 (.int .u32 (leV c.ram a 1)) hS ?_
  refine tA 6 (by kernel_rfl) (wpOp_step rfl fun K hK => ?_)
  go_simp
  refine (widen_other _ 14 _ rfl rfl).mono ?_
  rintro e w' ⟨rfl, hw⟩
  rw [hw]
  clear hw w'
  refine hK _ _ ⟨hS, ?_⟩
  clear hK K
  refine tA 7 (by kernel_rfl) (wpOp_step rfl fun K hK => ?_)
  go_simp
  refine (result_c _ x r c C0.out A rd hrd _).mono ?_
  rintro e w2 ⟨rfl, h2, o2⟩
  have hS3 : w2.cell? ⟨g, 0, none⟩ = some (.int .i64 14) ∧ w2.cell? ⟨g, 1, none⟩ = some (.int .i64 rd) := by
    have b3 := fun j => World.cell?_of_block (w := w0.drew) (a := ⟨g, j, none⟩) (o2.block g HG.out.1 HG.out.2)
    exact ⟨(b3 0).trans hS.1, (b3 1).trans hS.2⟩
  refine hK _ _ ⟨hS3, wpAnyH_done (by kernel_rfl) ?_ _⟩
  clear hK K
  go_wp2_with fail
  go_end0
  exact ⟨rfl, h2, O0.out.trans o2⟩
set_option maxHeartbeats 1000000 in
theorem cload_15 (W : World) (x r : Nat) (c : CSt) (h : CodeAt W x r c) (A : x ≠ r) (rd : Nat) (hrd : rd < 32) (r1 r2 imm : Int) (a : Nat) (ha : a + 2 ≤ c.ram.length) :
    Calls Tryz.prog 115 #[.pointer (some ⟨x, 0, none⟩), .agg #[.int .i64 15, .int .i64 rd, .int .i64 r1, .int .i64 r2, .int .u32 imm], .int .u32 a] W (CP W x r (resC c rd (leV c.ram a 2))) := by
  have HF : Hid (∀ o q, CodeAt ((W.alloc o).drewN q) x r c) := fun o q => (h.below ((Below.refl W.heap.size W).alloc (Nat.le_refl _) o) h.lt.1 h.lt.2).drawn q
  have HF0 : Hid (∀ o, CodeAt (W.alloc o) x r c) := fun o => h.below ((Below.refl W.heap.size W).alloc (Nat.le_refl _) o) h.lt.1 h.lt.2
  have lv := leV_bd (show Byt c.ram from h.bytes.2.2) a
  have HL : Hid (W.heap.size ∉ [x, r]) := fun hk => by have := h.lt; simp at hk; omega
  clear h
  go_enter Tryz.func115, Tryz.ntmps115
  go_wp2_with (first | (go_at_call 148; refine (width_15 _).mono ?_; rintro e w' ⟨rfl, rfl⟩) | (go_at_call 46; refine (cread_in _ x a 2 _ (loadRam_2 _ x r c (HF0.out _) a ha)).mono ?_; rintro e w1 ⟨rfl, q, rfl⟩))
  generalize hw0 : World.drewN (W.alloc (.cells #[.int .i64 15, .int .i64 rd, .int .i64 r1, .int .i64 r2, .int .u32 imm] 72)) q = w0
  have C0 : Hid (CodeAt w0.drew x r c) := by rw [← hw0]; exact (HF.out _ _).drawn 1
  have O0 : Hid (Offs [x, r] W w0.drew) := by rw [← hw0]; exact (((Offs.refl _ _).new _).drawn _).drawn 1
  have hS : w0.drew.cell? ⟨W.heap.size, 0, none⟩ = some (.int .i64 15) ∧ w0.drew.cell? ⟨W.heap.size, 1, none⟩ = some (.int .i64 rd) := by
    rw [← hw0]
    have e := fun j => cell_of_row (W.alloc (.cells #[.int .i64 15, .int .i64 rd, .int .i64 r1, .int .i64 r2, .int .u32 imm] 72)) W.heap.size j _ _ (0, 0) (heap_alloc_new W _)
    exact ⟨(e 0).trans rfl, (e 1).trans rfl⟩
  have HG : Hid (W.heap.size < w0.drew.heap.size ∧ W.heap.size ∉ [x, r]) := ⟨by rw [← hw0]; show _ < (W.alloc _).heap.size; simp, HL.out⟩
  generalize W.heap.size = g at hS HG ⊢
  clear hw0
  refine wp_region_held (S := fun w' => w'.cell? ⟨g, 0, none⟩ = some (.int .i64 15) ∧ w'.cell? ⟨g, 1, none⟩ = some (.int .i64 rd)) (by kernel_rfl) ?_
  change wpAnyH _ _ _ _ _ _ _ _ (w0.drew)
  refine yK 0 (.pointer (some ⟨x, 0, none⟩)) hS ?_
  refine yK 1 (.pointer (some ⟨g, 1, none⟩)) hS ?_
  refine yI 2 (fun _ h => h.2) hS ?_
  refine yK 3 (.pointer (some ⟨g, 0, none⟩)) hS ?_
  refine yI 4 (fun _ h => h.1) hS ?_
  refine yK 5 (.int .u32 (leV c.ram a 2)) hS ?_
  refine tA 6 (by kernel_rfl) (wpOp_step rfl fun K hK => ?_)
  go_simp
  refine (widen_other _ 15 _ rfl rfl).mono ?_
  rintro e w' ⟨rfl, hw⟩
  rw [hw]
  clear hw w'
  refine hK _ _ ⟨hS, ?_⟩
  clear hK K
  refine tA 7 (by kernel_rfl) (wpOp_step rfl fun K hK => ?_)
  go_simp
  refine (result_c _ x r c C0.out A rd hrd _).mono ?_
  rintro e w2 ⟨rfl, h2, o2⟩
  have hS3 : w2.cell? ⟨g, 0, none⟩ = some (.int .i64 15) ∧ w2.cell? ⟨g, 1, none⟩ = some (.int .i64 rd) := by
    have b3 := fun j => World.cell?_of_block (w := w0.drew) (a := ⟨g, j, none⟩) (o2.block g HG.out.1 HG.out.2)
    exact ⟨(b3 0).trans hS.1, (b3 1).trans hS.2⟩
  refine hK _ _ ⟨hS3, wpAnyH_done (by kernel_rfl) ?_ _⟩
  clear hK K
  go_wp2_with fail
  go_end0
  exact ⟨rfl, h2, O0.out.trans o2⟩
set_option maxHeartbeats 1000000 in
theorem cstore_16 (W : World) (x r : Nat) (c : CSt) (h : CodeAt W x r c) (A : x ≠ r) (a : Nat) (v : Int) (v0 : 0 ≤ v) (v1 : v < 4294967296) (ha : a + 1 ≤ c.ram.length) :
    Calls Tryz.prog 116 #[.pointer (some ⟨x, 0, none⟩), .int .i64 16, .int .u32 a, .int .u32 v] W (CP W x r { c with ram := stV c.ram a v 1, pc := (c.pc + 4) % 4294967296 }) := by
  have HF : Hid (CodeAt W x r c) := h
  clear h
  go_enter Tryz.func116, Tryz.ntmps116
  go_wp2_with (first | (go_at_call 148; refine (width_16 _).mono ?_; rintro e w' ⟨rfl, rfl⟩) | (go_at_call 47; refine (cwrite_in _ x a 1 v _ (storeRam_1 _ x r c HF.out A a v v0 v1 ha)).mono ?_; rintro e w1 ⟨rfl, h1, o1⟩; have c9 := h1.pc; have f9 := h1.fx))
  go_end0
  exact ⟨rfl, h1.put_pc A _, o1.put (by simp) _⟩
set_option maxHeartbeats 1000000 in
theorem cstore_17 (W : World) (x r : Nat) (c : CSt) (h : CodeAt W x r c) (A : x ≠ r) (a : Nat) (v : Int) (v0 : 0 ≤ v) (v1 : v < 4294967296) (ha : a + 2 ≤ c.ram.length) :
    Calls Tryz.prog 116 #[.pointer (some ⟨x, 0, none⟩), .int .i64 17, .int .u32 a, .int .u32 v] W (CP W x r { c with ram := stV c.ram a v 2, pc := (c.pc + 4) % 4294967296 }) := by
  have HF : Hid (CodeAt W x r c) := h
  clear h
  go_enter Tryz.func116, Tryz.ntmps116
  go_wp2_with (first | (go_at_call 148; refine (width_17 _).mono ?_; rintro e w' ⟨rfl, rfl⟩) | (go_at_call 47; refine (cwrite_in _ x a 2 v _ (storeRam_2 _ x r c HF.out A a v v0 v1 ha)).mono ?_; rintro e w1 ⟨rfl, h1, o1⟩; have c9 := h1.pc; have f9 := h1.fx))
  go_end0
  exact ⟨rfl, h1.put_pc A _, o1.put (by simp) _⟩
set_option maxHeartbeats 1000000 in
theorem cstore_18 (W : World) (x r : Nat) (c : CSt) (h : CodeAt W x r c) (A : x ≠ r) (a : Nat) (v : Int) (v0 : 0 ≤ v) (v1 : v < 4294967296) (ha : a + 4 ≤ c.ram.length) :
    Calls Tryz.prog 116 #[.pointer (some ⟨x, 0, none⟩), .int .i64 18, .int .u32 a, .int .u32 v] W (CP W x r { c with ram := stV c.ram a v 4, pc := (c.pc + 4) % 4294967296 }) := by
  have HF : Hid (CodeAt W x r c) := h
  clear h
  go_enter Tryz.func116, Tryz.ntmps116
  go_wp2_with (first | (go_at_call 148; refine (width_18 _).mono ?_; rintro e w' ⟨rfl, rfl⟩) | (go_at_call 47; refine (cwrite_in _ x a 4 v _ (storeRam_4 _ x r c HF.out A a v v0 v1 ha)).mono ?_; rintro e w1 ⟨rfl, h1, o1⟩; have c9 := h1.pc; have f9 := h1.fx))
  go_end0
  exact ⟨rfl, h1.put_pc A _, o1.put (by simp) _⟩
end Go.Proofs.YteiideeechnekaaGreatDoor
