import Derived.Test.YteiideeechnekaaGreatDoorRefMem
import Derived.Test.YteiideeechnekaaGreatDoorRefSet
import Derived.Test.YteiideeechnekaaGreatDoorRefSum
/-
  The document's Read and Write outside the memory; load and store.
-/
namespace Go.Proofs.YteiideeechnekaaGreatDoor
open Go.RowKit

def dvR (s : RSt) : RSt := { s with device := wrap64 (s.device + 1) }
def next1 (s : RSt) : RSt := { s with pc := (s.pc + 4) % 4294967296 }
theorem rread_out_1 (W : World) (p : Nat) (b : RBl) (s : RSt) (h : RefAt W p b s) (A : b.Apart p) (a : Nat) (ha : a < 4294967296) (ho : ¬ a + 1 ≤ s.ram.length) :
    Calls Tryz.prog 31 #[.pointer (some ⟨p, 0, none⟩), .int .u32 a, .int .i64 1] W fun e W' => e = .returned (.tuple #[.int .u32 0, .bool false]) ∧ RefAt W' p b (dvR s) ∧ Offs (b.l p) W W' := by
  have HF : Hid (RefAt W p b s) := h
  have c1 := h.device
  have f1 := h.fp
  clear h
  go_enter Tryz.func31, Tryz.ntmps31
  go_wp2_with (go_at_call 29; refine (rram_any _ p b s HF.out a 1 ha (by decide)).mono ?_; rw [decide_eq_false ho]; rintro e w' ⟨rfl, q0, rfl⟩)
  go_ret2
  exact ⟨rfl, (HF.out.drawn q0).put_device A _, ((Offs.refl _ _).drawn q0).put (by simp [RBl.l]) _⟩
theorem rwrite_out_1 (W : World) (p : Nat) (b : RBl) (s : RSt) (h : RefAt W p b s) (A : b.Apart p) (a : Nat) (ha : a < 4294967296) (ho : ¬ a + 1 ≤ s.ram.length) (v : Int) :
    Calls Tryz.prog 84 #[.pointer (some ⟨p, 0, none⟩), .int .u32 a, .int .i64 1, .int .u32 v] W fun e W' => e = .returned (.bool false) ∧ RefAt W' p b (dvR s) ∧ Offs (b.l p) W W' := by
  have HF : Hid (RefAt W p b s) := h
  have c1 := h.device
  have f1 := h.fp
  clear h
  go_enter Tryz.func84, Tryz.ntmps84
  go_wp2_with (go_at_call 29; refine (rram_any _ p b s HF.out a 1 ha (by decide)).mono ?_; rw [decide_eq_false ho]; rintro e w' ⟨rfl, q0, rfl⟩)
  go_ret
  exact ⟨rfl, (HF.out.drawn q0).put_device A _, ((Offs.refl _ _).drawn q0).put (by simp [RBl.l]) _⟩
theorem rread_out_2 (W : World) (p : Nat) (b : RBl) (s : RSt) (h : RefAt W p b s) (A : b.Apart p) (a : Nat) (ha : a < 4294967296) (ho : ¬ a + 2 ≤ s.ram.length) :
    Calls Tryz.prog 31 #[.pointer (some ⟨p, 0, none⟩), .int .u32 a, .int .i64 2] W fun e W' => e = .returned (.tuple #[.int .u32 0, .bool false]) ∧ RefAt W' p b (dvR s) ∧ Offs (b.l p) W W' := by
  have HF : Hid (RefAt W p b s) := h
  have c1 := h.device
  have f1 := h.fp
  clear h
  go_enter Tryz.func31, Tryz.ntmps31
  go_wp2_with (go_at_call 29; refine (rram_any _ p b s HF.out a 2 ha (by decide)).mono ?_; rw [decide_eq_false ho]; rintro e w' ⟨rfl, q0, rfl⟩)
  go_ret2
  exact ⟨rfl, (HF.out.drawn q0).put_device A _, ((Offs.refl _ _).drawn q0).put (by simp [RBl.l]) _⟩
theorem rwrite_out_2 (W : World) (p : Nat) (b : RBl) (s : RSt) (h : RefAt W p b s) (A : b.Apart p) (a : Nat) (ha : a < 4294967296) (ho : ¬ a + 2 ≤ s.ram.length) (v : Int) :
    Calls Tryz.prog 84 #[.pointer (some ⟨p, 0, none⟩), .int .u32 a, .int .i64 2, .int .u32 v] W fun e W' => e = .returned (.bool false) ∧ RefAt W' p b (dvR s) ∧ Offs (b.l p) W W' := by
  have HF : Hid (RefAt W p b s) := h
  have c1 := h.device
  have f1 := h.fp
  clear h
  go_enter Tryz.func84, Tryz.ntmps84
  go_wp2_with (go_at_call 29; refine (rram_any _ p b s HF.out a 2 ha (by decide)).mono ?_; rw [decide_eq_false ho]; rintro e w' ⟨rfl, q0, rfl⟩)
  go_ret
  exact ⟨rfl, (HF.out.drawn q0).put_device A _, ((Offs.refl _ _).drawn q0).put (by simp [RBl.l]) _⟩
theorem rread_out_4 (W : World) (p : Nat) (b : RBl) (s : RSt) (h : RefAt W p b s) (A : b.Apart p) (a : Nat) (ha : a < 4294967296) (ho : ¬ a + 4 ≤ s.ram.length) :
    Calls Tryz.prog 31 #[.pointer (some ⟨p, 0, none⟩), .int .u32 a, .int .i64 4] W fun e W' => e = .returned (.tuple #[.int .u32 (devR (dvR s) a).2.1, .bool (devR (dvR s) a).2.2]) ∧ RefAt W' p b (devR (dvR s) a).1 ∧ Offs (b.l p) W W' := by
  have HF : Hid (RefAt W p b s) := h
  have c1 := h.device
  have f1 := h.fp
  clear h
  go_enter Tryz.func31, Tryz.ntmps31
  go_wp2_with (first | (go_at_call 29; refine (rram_any _ p b s HF.out a 4 ha (by decide)).mono ?_; rw [decide_eq_false ho]; rintro e w' ⟨rfl, q0, rfl⟩) | (go_at_call 58; refine (device_any _ p b (dvR s) ((HF.out.drawn _).put_device A _) A a ha).mono ?_; rintro e w2 ⟨rfl, h2, o2⟩))
  go_ret2
  exact ⟨rfl, h2, (((Offs.refl _ _).drawn _).put (by simp [RBl.l]) _).trans o2⟩
theorem rwrite_out_4 (W : World) (p : Nat) (b : RBl) (s : RSt) (h : RefAt W p b s) (A : b.Apart p) (a : Nat) (ha : a < 4294967296) (ho : ¬ a + 4 ≤ s.ram.length) (v : Int)
    (CO : ∀ W', RefAt W' p b (dvR s) → ∀ c : Nat, c < 2 → Calls Tryz.prog 156 #[.pointer (some ⟨p, 0, none⟩), .int .i64 c, .int .u32 v] W' (RP W' p b (complR (dvR s) c v))) :
    Calls Tryz.prog 84 #[.pointer (some ⟨p, 0, none⟩), .int .u32 a, .int .i64 4, .int .u32 v] W fun e W' => e = .returned (.bool (setR (dvR s) a v).2) ∧ RefAt W' p b (setR (dvR s) a v).1 ∧ Offs (b.l p) W W' := by
  have HF : Hid (RefAt W p b s) := h
  have c1 := h.device
  have f1 := h.fp
  have HK := CO
  clear h CO
  go_enter Tryz.func84, Tryz.ntmps84
  go_wp2_with (first | (go_at_call 29; refine (rram_any _ p b s HF.out a 4 ha (by decide)).mono ?_; rw [decide_eq_false ho]; rintro e w' ⟨rfl, q0, rfl⟩) | (go_at_call 119; refine (set_any _ p b (dvR s) ((HF.out.drawn _).put_device A _) A a ha v (HK _ ((HF.out.drawn _).put_device A _))).mono ?_; rintro e w2 ⟨rfl, h2, o2⟩))
  go_ret
  exact ⟨rfl, h2, (((Offs.refl _ _).drawn _).put (by simp [RBl.l]) _).trans o2⟩

set_option maxHeartbeats 1000000 in
theorem load_in_11_lo (W : World) (p : Nat) (b : RBl) (s : RSt) (h : RefAt W p b s) (A : b.Apart p) (rd : Nat) (hrd : rd < 32) (r1 r2 imm : Int) (a : Nat) (ha : a + 1 ≤ s.ram.length) (hc : leV s.ram a 1 < 128) :
    Calls Tryz.prog 61 #[.pointer (some ⟨p, 0, none⟩), .agg #[.int .i64 11, .int .i64 rd, .int .i64 r1, .int .i64 r2, .int .u32 imm], .int .u32 a] W (RP W p b (next1 (putR s rd (leV s.ram a 1)))) := by
  have HF : Hid (RefAt W p b s) := h
  have bp := h.lt
  have hW : p ≠ W.heap.size := by omega
  have HL : Hid (W.heap.size ∉ b.l p) := fun hk => by simp [RBl.l] at hk; omega
  have hd' : (rd : Int) < 32 := by omega
  obtain ⟨hl, hby⟩ : s.ram.length ≤ 512 ∧ Byt s.ram := by obtain ⟨_, _, _, _, _, _, h6, h7⟩ := h.ram; exact ⟨h6, h7⟩
  have bd := leV_bd hby a
  have lv := bd.1
  clear h bp bd hby
  go_enter Tryz.func61, Tryz.ntmps61
  go_wp2_with (first | (go_at_call 31; refine (rread_1 _ p b s (HF.out.below ((Below.refl _ _).alloc (Nat.le_refl _) _) (Nat.le_refl _)) a ha).mono ?_; rintro e w1 ⟨rfl, q, rfl⟩) | (go_at_call 66; refine (put_any _ p b s ((HF.out.below ((Below.refl _ _).alloc (Nat.le_refl _) _) (Nat.le_refl _)).drawn _) A rd hrd _).mono ?_; rintro e w2 ⟨rfl, h2, o2⟩; have c9 := h2.pc; have f9 := h2.fp))
  go_end0
  exact ⟨rfl, h2.put_pc A _, ((((Offs.refl _ _).new _).drawn _).trans o2).put (by simp [RBl.l]) _⟩
set_option maxHeartbeats 1000000 in
theorem load_in_11_hi (W : World) (p : Nat) (b : RBl) (s : RSt) (h : RefAt W p b s) (A : b.Apart p) (rd : Nat) (hrd : rd < 32) (r1 r2 imm : Int) (a : Nat) (ha : a + 1 ≤ s.ram.length) (hc : ¬ leV s.ram a 1 < 128) :
    Calls Tryz.prog 61 #[.pointer (some ⟨p, 0, none⟩), .agg #[.int .i64 11, .int .i64 rd, .int .i64 r1, .int .i64 r2, .int .u32 imm], .int .u32 a] W (RP W p b (next1 (putR s rd (leV s.ram a 1 + 4294967040)))) := by
  have HF : Hid (RefAt W p b s) := h
  have bp := h.lt
  have hW : p ≠ W.heap.size := by omega
  have HL : Hid (W.heap.size ∉ b.l p) := fun hk => by simp [RBl.l] at hk; omega
  have hd' : (rd : Int) < 32 := by omega
  obtain ⟨hl, hby⟩ : s.ram.length ≤ 512 ∧ Byt s.ram := by obtain ⟨_, _, _, _, _, _, h6, h7⟩ := h.ram; exact ⟨h6, h7⟩
  have bd := leV_bd hby a
  have lv := bd.1
  clear h bp bd hby
  go_enter Tryz.func61, Tryz.ntmps61
  go_wp2_with (first | (go_at_call 31; refine (rread_1 _ p b s (HF.out.below ((Below.refl _ _).alloc (Nat.le_refl _) _) (Nat.le_refl _)) a ha).mono ?_; rintro e w1 ⟨rfl, q, rfl⟩) | (go_at_call 66; refine (put_any _ p b s ((HF.out.below ((Below.refl _ _).alloc (Nat.le_refl _) _) (Nat.le_refl _)).drawn _) A rd hrd _).mono ?_; rintro e w2 ⟨rfl, h2, o2⟩; have c9 := h2.pc; have f9 := h2.fp))
  go_end0
  exact ⟨rfl, h2.put_pc A _, ((((Offs.refl _ _).new _).drawn _).trans o2).put (by simp [RBl.l]) _⟩
set_option maxHeartbeats 1000000 in
theorem load_out_11 (W : World) (p : Nat) (b : RBl) (s : RSt) (h : RefAt W p b s) (A : b.Apart p) (rd : Nat) (hrd : rd < 32) (r1 r2 imm : Int) (a : Nat) (ha : a < 4294967296) (ho : ¬ a + 1 ≤ s.ram.length) :
    Calls Tryz.prog 61 #[.pointer (some ⟨p, 0, none⟩), .agg #[.int .i64 11, .int .i64 rd, .int .i64 r1, .int .i64 r2, .int .u32 imm], .int .u32 a] W (RP W p b (failR (dvR s) 5 a)) := by
  have HF : Hid (RefAt W p b s) := h
  have bp := h.lt
  have hW : p ≠ W.heap.size := by omega
  have HL : Hid (W.heap.size ∉ b.l p) := fun hk => by simp [RBl.l] at hk; omega
  have hd' : (rd : Int) < 32 := by omega
  clear h bp hd' hW HL
  go_enter Tryz.func61, Tryz.ntmps61
  go_wp2_with (first | (go_at_call 31; refine (rread_out_1 _ p b s (HF.out.below ((Below.refl _ _).alloc (Nat.le_refl _) _) (Nat.le_refl _)) A a ha ho).mono ?_; rintro e w1 ⟨rfl, h1, o1⟩) | (go_at_call 30; refine (fails_any _ p b (dvR s) h1 A 5 (by decide) _).mono ?_; rintro e w2 ⟨rfl, h2, o2⟩))
  exact bodyPost_ret (v := .tuple #[]) (by simp [results, Tryz.results61, go_sem]) rfl ⟨rfl, h2, (((Offs.refl _ _).new _).trans o1).trans o2⟩
set_option maxHeartbeats 1000000 in
theorem load_in_12_lo (W : World) (p : Nat) (b : RBl) (s : RSt) (h : RefAt W p b s) (A : b.Apart p) (rd : Nat) (hrd : rd < 32) (r1 r2 imm : Int) (a : Nat) (ha : a + 2 ≤ s.ram.length) (hc : leV s.ram a 2 < 32768) :
    Calls Tryz.prog 61 #[.pointer (some ⟨p, 0, none⟩), .agg #[.int .i64 12, .int .i64 rd, .int .i64 r1, .int .i64 r2, .int .u32 imm], .int .u32 a] W (RP W p b (next1 (putR s rd (leV s.ram a 2)))) := by
  have HF : Hid (RefAt W p b s) := h
  have bp := h.lt
  have hW : p ≠ W.heap.size := by omega
  have HL : Hid (W.heap.size ∉ b.l p) := fun hk => by simp [RBl.l] at hk; omega
  have hd' : (rd : Int) < 32 := by omega
  obtain ⟨hl, hby⟩ : s.ram.length ≤ 512 ∧ Byt s.ram := by obtain ⟨_, _, _, _, _, _, h6, h7⟩ := h.ram; exact ⟨h6, h7⟩
  have bd := leV_bd hby a
  have lv := bd.2.1
  clear h bp bd hby
  go_enter Tryz.func61, Tryz.ntmps61
  go_wp2_with (first | (go_at_call 31; refine (rread_2 _ p b s (HF.out.below ((Below.refl _ _).alloc (Nat.le_refl _) _) (Nat.le_refl _)) a ha).mono ?_; rintro e w1 ⟨rfl, q, rfl⟩) | (go_at_call 66; refine (put_any _ p b s ((HF.out.below ((Below.refl _ _).alloc (Nat.le_refl _) _) (Nat.le_refl _)).drawn _) A rd hrd _).mono ?_; rintro e w2 ⟨rfl, h2, o2⟩; have c9 := h2.pc; have f9 := h2.fp))
  go_end0
  exact ⟨rfl, h2.put_pc A _, ((((Offs.refl _ _).new _).drawn _).trans o2).put (by simp [RBl.l]) _⟩
set_option maxHeartbeats 1000000 in
theorem load_in_12_hi (W : World) (p : Nat) (b : RBl) (s : RSt) (h : RefAt W p b s) (A : b.Apart p) (rd : Nat) (hrd : rd < 32) (r1 r2 imm : Int) (a : Nat) (ha : a + 2 ≤ s.ram.length) (hc : ¬ leV s.ram a 2 < 32768) :
    Calls Tryz.prog 61 #[.pointer (some ⟨p, 0, none⟩), .agg #[.int .i64 12, .int .i64 rd, .int .i64 r1, .int .i64 r2, .int .u32 imm], .int .u32 a] W (RP W p b (next1 (putR s rd (leV s.ram a 2 + 4294901760)))) := by
  have HF : Hid (RefAt W p b s) := h
  have bp := h.lt
  have hW : p ≠ W.heap.size := by omega
  have HL : Hid (W.heap.size ∉ b.l p) := fun hk => by simp [RBl.l] at hk; omega
  have hd' : (rd : Int) < 32 := by omega
  obtain ⟨hl, hby⟩ : s.ram.length ≤ 512 ∧ Byt s.ram := by obtain ⟨_, _, _, _, _, _, h6, h7⟩ := h.ram; exact ⟨h6, h7⟩
  have bd := leV_bd hby a
  have lv := bd.2.1
  clear h bp bd hby
  go_enter Tryz.func61, Tryz.ntmps61
  go_wp2_with (first | (go_at_call 31; refine (rread_2 _ p b s (HF.out.below ((Below.refl _ _).alloc (Nat.le_refl _) _) (Nat.le_refl _)) a ha).mono ?_; rintro e w1 ⟨rfl, q, rfl⟩) | (go_at_call 66; refine (put_any _ p b s ((HF.out.below ((Below.refl _ _).alloc (Nat.le_refl _) _) (Nat.le_refl _)).drawn _) A rd hrd _).mono ?_; rintro e w2 ⟨rfl, h2, o2⟩; have c9 := h2.pc; have f9 := h2.fp))
  go_end0
  exact ⟨rfl, h2.put_pc A _, ((((Offs.refl _ _).new _).drawn _).trans o2).put (by simp [RBl.l]) _⟩
set_option maxHeartbeats 1000000 in
theorem load_out_12 (W : World) (p : Nat) (b : RBl) (s : RSt) (h : RefAt W p b s) (A : b.Apart p) (rd : Nat) (hrd : rd < 32) (r1 r2 imm : Int) (a : Nat) (ha : a < 4294967296) (ho : ¬ a + 2 ≤ s.ram.length) :
    Calls Tryz.prog 61 #[.pointer (some ⟨p, 0, none⟩), .agg #[.int .i64 12, .int .i64 rd, .int .i64 r1, .int .i64 r2, .int .u32 imm], .int .u32 a] W (RP W p b (failR (dvR s) 5 a)) := by
  have HF : Hid (RefAt W p b s) := h
  have bp := h.lt
  have hW : p ≠ W.heap.size := by omega
  have HL : Hid (W.heap.size ∉ b.l p) := fun hk => by simp [RBl.l] at hk; omega
  have hd' : (rd : Int) < 32 := by omega
  clear h bp hd' hW HL
  go_enter Tryz.func61, Tryz.ntmps61
  go_wp2_with (first | (go_at_call 31; refine (rread_out_2 _ p b s (HF.out.below ((Below.refl _ _).alloc (Nat.le_refl _) _) (Nat.le_refl _)) A a ha ho).mono ?_; rintro e w1 ⟨rfl, h1, o1⟩) | (go_at_call 30; refine (fails_any _ p b (dvR s) h1 A 5 (by decide) _).mono ?_; rintro e w2 ⟨rfl, h2, o2⟩))
  exact bodyPost_ret (v := .tuple #[]) (by simp [results, Tryz.results61, go_sem]) rfl ⟨rfl, h2, (((Offs.refl _ _).new _).trans o1).trans o2⟩
set_option maxHeartbeats 1000000 in
theorem load_in_13 (W : World) (p : Nat) (b : RBl) (s : RSt) (h : RefAt W p b s) (A : b.Apart p) (rd : Nat) (hrd : rd < 32) (r1 r2 imm : Int) (a : Nat) (ha : a + 4 ≤ s.ram.length) :
    Calls Tryz.prog 61 #[.pointer (some ⟨p, 0, none⟩), .agg #[.int .i64 13, .int .i64 rd, .int .i64 r1, .int .i64 r2, .int .u32 imm], .int .u32 a] W (RP W p b (next1 (putR s rd (leV s.ram a 4)))) := by
  have HF : Hid (RefAt W p b s) := h
  have bp := h.lt
  have hW : p ≠ W.heap.size := by omega
  have HL : Hid (W.heap.size ∉ b.l p) := fun hk => by simp [RBl.l] at hk; omega
  have hd' : (rd : Int) < 32 := by omega
  obtain ⟨hl, hby⟩ : s.ram.length ≤ 512 ∧ Byt s.ram := by obtain ⟨_, _, _, _, _, _, h6, h7⟩ := h.ram; exact ⟨h6, h7⟩
  have bd := leV_bd hby a
  have lv := bd.2.2
  clear h bp bd hby
  go_enter Tryz.func61, Tryz.ntmps61
  go_wp2_with (first | (go_at_call 31; refine (rread_4 _ p b s (HF.out.below ((Below.refl _ _).alloc (Nat.le_refl _) _) (Nat.le_refl _)) a ha).mono ?_; rintro e w1 ⟨rfl, q, rfl⟩) | (go_at_call 66; refine (put_any _ p b s ((HF.out.below ((Below.refl _ _).alloc (Nat.le_refl _) _) (Nat.le_refl _)).drawn _) A rd hrd _).mono ?_; rintro e w2 ⟨rfl, h2, o2⟩; have c9 := h2.pc; have f9 := h2.fp))
  go_end0
  exact ⟨rfl, h2.put_pc A _, ((((Offs.refl _ _).new _).drawn _).trans o2).put (by simp [RBl.l]) _⟩
set_option maxHeartbeats 1000000 in
theorem load_in_14 (W : World) (p : Nat) (b : RBl) (s : RSt) (h : RefAt W p b s) (A : b.Apart p) (rd : Nat) (hrd : rd < 32) (r1 r2 imm : Int) (a : Nat) (ha : a + 1 ≤ s.ram.length) :
    Calls Tryz.prog 61 #[.pointer (some ⟨p, 0, none⟩), .agg #[.int .i64 14, .int .i64 rd, .int .i64 r1, .int .i64 r2, .int .u32 imm], .int .u32 a] W (RP W p b (next1 (putR s rd (leV s.ram a 1)))) := by
  have HF : Hid (RefAt W p b s) := h
  have bp := h.lt
  have hW : p ≠ W.heap.size := by omega
  have HL : Hid (W.heap.size ∉ b.l p) := fun hk => by simp [RBl.l] at hk; omega
  have hd' : (rd : Int) < 32 := by omega
  obtain ⟨hl, hby⟩ : s.ram.length ≤ 512 ∧ Byt s.ram := by obtain ⟨_, _, _, _, _, _, h6, h7⟩ := h.ram; exact ⟨h6, h7⟩
  have bd := leV_bd hby a
  have lv := bd.1
  clear h bp bd hby
  go_enter Tryz.func61, Tryz.ntmps61
  go_wp2_with (first | (go_at_call 31; refine (rread_1 _ p b s (HF.out.below ((Below.refl _ _).alloc (Nat.le_refl _) _) (Nat.le_refl _)) a ha).mono ?_; rintro e w1 ⟨rfl, q, rfl⟩) | (go_at_call 66; refine (put_any _ p b s ((HF.out.below ((Below.refl _ _).alloc (Nat.le_refl _) _) (Nat.le_refl _)).drawn _) A rd hrd _).mono ?_; rintro e w2 ⟨rfl, h2, o2⟩; have c9 := h2.pc; have f9 := h2.fp))
  go_end0
  exact ⟨rfl, h2.put_pc A _, ((((Offs.refl _ _).new _).drawn _).trans o2).put (by simp [RBl.l]) _⟩
set_option maxHeartbeats 1000000 in
theorem load_out_14 (W : World) (p : Nat) (b : RBl) (s : RSt) (h : RefAt W p b s) (A : b.Apart p) (rd : Nat) (hrd : rd < 32) (r1 r2 imm : Int) (a : Nat) (ha : a < 4294967296) (ho : ¬ a + 1 ≤ s.ram.length) :
    Calls Tryz.prog 61 #[.pointer (some ⟨p, 0, none⟩), .agg #[.int .i64 14, .int .i64 rd, .int .i64 r1, .int .i64 r2, .int .u32 imm], .int .u32 a] W (RP W p b (failR (dvR s) 5 a)) := by
  have HF : Hid (RefAt W p b s) := h
  have bp := h.lt
  have hW : p ≠ W.heap.size := by omega
  have HL : Hid (W.heap.size ∉ b.l p) := fun hk => by simp [RBl.l] at hk; omega
  have hd' : (rd : Int) < 32 := by omega
  clear h bp hd' hW HL
  go_enter Tryz.func61, Tryz.ntmps61
  go_wp2_with (first | (go_at_call 31; refine (rread_out_1 _ p b s (HF.out.below ((Below.refl _ _).alloc (Nat.le_refl _) _) (Nat.le_refl _)) A a ha ho).mono ?_; rintro e w1 ⟨rfl, h1, o1⟩) | (go_at_call 30; refine (fails_any _ p b (dvR s) h1 A 5 (by decide) _).mono ?_; rintro e w2 ⟨rfl, h2, o2⟩))
  exact bodyPost_ret (v := .tuple #[]) (by simp [results, Tryz.results61, go_sem]) rfl ⟨rfl, h2, (((Offs.refl _ _).new _).trans o1).trans o2⟩
set_option maxHeartbeats 1000000 in
theorem load_in_15 (W : World) (p : Nat) (b : RBl) (s : RSt) (h : RefAt W p b s) (A : b.Apart p) (rd : Nat) (hrd : rd < 32) (r1 r2 imm : Int) (a : Nat) (ha : a + 2 ≤ s.ram.length) :
    Calls Tryz.prog 61 #[.pointer (some ⟨p, 0, none⟩), .agg #[.int .i64 15, .int .i64 rd, .int .i64 r1, .int .i64 r2, .int .u32 imm], .int .u32 a] W (RP W p b (next1 (putR s rd (leV s.ram a 2)))) := by
  have HF : Hid (RefAt W p b s) := h
  have bp := h.lt
  have hW : p ≠ W.heap.size := by omega
  have HL : Hid (W.heap.size ∉ b.l p) := fun hk => by simp [RBl.l] at hk; omega
  have hd' : (rd : Int) < 32 := by omega
  obtain ⟨hl, hby⟩ : s.ram.length ≤ 512 ∧ Byt s.ram := by obtain ⟨_, _, _, _, _, _, h6, h7⟩ := h.ram; exact ⟨h6, h7⟩
  have bd := leV_bd hby a
  have lv := bd.2.1
  clear h bp bd hby
  go_enter Tryz.func61, Tryz.ntmps61
  go_wp2_with (first | (go_at_call 31; refine (rread_2 _ p b s (HF.out.below ((Below.refl _ _).alloc (Nat.le_refl _) _) (Nat.le_refl _)) a ha).mono ?_; rintro e w1 ⟨rfl, q, rfl⟩) | (go_at_call 66; refine (put_any _ p b s ((HF.out.below ((Below.refl _ _).alloc (Nat.le_refl _) _) (Nat.le_refl _)).drawn _) A rd hrd _).mono ?_; rintro e w2 ⟨rfl, h2, o2⟩; have c9 := h2.pc; have f9 := h2.fp))
  go_end0
  exact ⟨rfl, h2.put_pc A _, ((((Offs.refl _ _).new _).drawn _).trans o2).put (by simp [RBl.l]) _⟩
set_option maxHeartbeats 1000000 in
theorem load_out_15 (W : World) (p : Nat) (b : RBl) (s : RSt) (h : RefAt W p b s) (A : b.Apart p) (rd : Nat) (hrd : rd < 32) (r1 r2 imm : Int) (a : Nat) (ha : a < 4294967296) (ho : ¬ a + 2 ≤ s.ram.length) :
    Calls Tryz.prog 61 #[.pointer (some ⟨p, 0, none⟩), .agg #[.int .i64 15, .int .i64 rd, .int .i64 r1, .int .i64 r2, .int .u32 imm], .int .u32 a] W (RP W p b (failR (dvR s) 5 a)) := by
  have HF : Hid (RefAt W p b s) := h
  have bp := h.lt
  have hW : p ≠ W.heap.size := by omega
  have HL : Hid (W.heap.size ∉ b.l p) := fun hk => by simp [RBl.l] at hk; omega
  have hd' : (rd : Int) < 32 := by omega
  clear h bp hd' hW HL
  go_enter Tryz.func61, Tryz.ntmps61
  go_wp2_with (first | (go_at_call 31; refine (rread_out_2 _ p b s (HF.out.below ((Below.refl _ _).alloc (Nat.le_refl _) _) (Nat.le_refl _)) A a ha ho).mono ?_; rintro e w1 ⟨rfl, h1, o1⟩) | (go_at_call 30; refine (fails_any _ p b (dvR s) h1 A 5 (by decide) _).mono ?_; rintro e w2 ⟨rfl, h2, o2⟩))
  exact bodyPost_ret (v := .tuple #[]) (by simp [results, Tryz.results61, go_sem]) rfl ⟨rfl, h2, (((Offs.refl _ _).new _).trans o1).trans o2⟩
theorem box_kept0 {W w2 : World} {L : List Nat} {c : Array Value} {t : TypeId} (hL : W.heap.size ∉ L) (o2 : Offs L (W.alloc (.cells c t)) w2) (j : Nat) : w2.cell? ⟨W.heap.size, j, none⟩ = c[j]? := by
  have e : w2.heap[W.heap.size]? = some (.cells c t (0, 0)) := (o2.block _ (by simp) hL).trans (heap_alloc_new W _)
  exact cell_of_row w2 _ j c _ (0, 0) e
def ldOut (s : RSt) (rd a : Nat) : RSt := if (devR (dvR s) a).2.2 then next1 (putR (devR (dvR s) a).1 rd (devR (dvR s) a).2.1) else failR (devR (dvR s) a).1 5 a
set_option maxHeartbeats 1000000 in
theorem load_out_13 (W : World) (p : Nat) (b : RBl) (s : RSt) (h : RefAt W p b s) (A : b.Apart p) (rd : Nat) (hrd : rd < 32) (r1 r2 imm : Int) (a : Nat) (ha : a < 4294967296) (ho : ¬ a + 4 ≤ s.ram.length) :
    Calls Tryz.prog 61 #[.pointer (some ⟨p, 0, none⟩), .agg #[.int .i64 13, .int .i64 rd, .int .i64 r1, .int .i64 r2, .int .u32 imm], .int .u32 a] W (RP W p b (ldOut s rd a)) := by
  have HF : Hid (RefAt W p b s) := h
  have bp := h.lt
  have hW : p ≠ W.heap.size := by omega
  have HL : Hid (W.heap.size ∉ b.l p) := fun hk => by simp [RBl.l] at hk; omega
  have hd' : (rd : Int) < 32 := by omega
  clear h bp
  obtain ⟨s', v, ok, hD⟩ : ∃ s' v ok, devR (dvR s) a = (s', v, ok) := ⟨_, _, _, rfl⟩
  have HR : Hid (∀ W, RefAt W p b s → Calls Tryz.prog 31 #[.pointer (some ⟨p, 0, none⟩), .int .u32 a, .int .i64 4] W fun e W' => e = .returned (.tuple #[.int .u32 v, .bool ok]) ∧ RefAt W' p b s' ∧ Offs (b.l p) W W') := fun W h => by
    have := rread_out_4 W p b s h A a ha ho
    rw [hD] at this
    exact this
  have HE : Hid (ldOut s rd a = if ok then next1 (putR s' rd v) else failR s' 5 a) := by unfold Hid ldOut; rw [hD]
  clear hD
  cases ok
  · go_enter Tryz.func61, Tryz.ntmps61
    go_wp2_with (first | (go_at_call 31; refine (HR.out _ (HF.out.below ((Below.refl _ _).alloc (Nat.le_refl _) _) (Nat.le_refl _))).mono ?_; rintro e w1 ⟨rfl, h1, o1⟩) | (go_at_call 30; refine (fails_any _ p b s' h1 A 5 (by decide) _).mono ?_; rintro e w2 ⟨rfl, h2, o2⟩))
    exact bodyPost_ret (v := .tuple #[]) (by simp [results, Tryz.results61, go_sem]) rfl ⟨rfl, by rw [HE.out]; exact h2, (((Offs.refl _ _).new _).trans o1).trans o2⟩
  · go_enter Tryz.func61, Tryz.ntmps61
    go_wp2_with fail
    refine (HR.out _ (HF.out.below ((Below.refl _ _).alloc (Nat.le_refl _) _) (Nat.le_refl _))).mono ?_
    rintro e w1 ⟨rfl, h1, o1⟩
    have d0 := box_kept0 HL.out o1 0
    have d1 := box_kept0 HL.out o1 1
    simp at d0 d1
    have H1 : Hid (RefAt w1 p b s') := h1
    have O1 : Hid (Offs (b.l p) W w1) := ((Offs.refl _ _).new _).trans o1
    clear h1 o1
    go_wp2_with (go_at_call 66; refine (put_any _ p b s' H1.out A rd hrd _).mono ?_; rintro e w2 ⟨rfl, h2, o2⟩; have c9 := h2.pc; have f9 := h2.fp)
    go_end0
    exact ⟨rfl, by rw [HE.out]; exact h2.put_pc A _, (O1.out.trans o2).put (by simp [RBl.l]) _⟩
set_option maxHeartbeats 1000000 in
theorem store_in_16 (W : World) (p : Nat) (b : RBl) (s : RSt) (h : RefAt W p b s) (A : b.Apart p) (a : Nat) (v : Int) (v0 : 0 ≤ v) (v1 : v < 4294967296) (ha : a + 1 ≤ s.ram.length) :
    Calls Tryz.prog 62 #[.pointer (some ⟨p, 0, none⟩), .int .i64 16, .int .u32 a, .int .u32 v] W (RP W p b (next1 { s with ram := stV s.ram a v 1 })) := by
  have HF : Hid (RefAt W p b s) := h
  clear h
  go_enter Tryz.func62, Tryz.ntmps62
  go_wp2_with (go_at_call 84; refine (rwrite_1 _ p b s HF.out A a v v0 v1 ha).mono ?_; rintro e w1 ⟨rfl, h1, o1⟩; have c9 := h1.pc; have f9 := h1.fp)
  go_end0
  exact ⟨rfl, h1.put_pc A _, o1.put (by simp [RBl.l]) _⟩
set_option maxHeartbeats 1000000 in
theorem store_out_16 (W : World) (p : Nat) (b : RBl) (s : RSt) (h : RefAt W p b s) (A : b.Apart p) (a : Nat) (v : Int) (ha : a < 4294967296) (ho : ¬ a + 1 ≤ s.ram.length) :
    Calls Tryz.prog 62 #[.pointer (some ⟨p, 0, none⟩), .int .i64 16, .int .u32 a, .int .u32 v] W (RP W p b (failR (dvR s) 7 a)) := by
  have HF : Hid (RefAt W p b s) := h
  clear h
  go_enter Tryz.func62, Tryz.ntmps62
  go_wp2_with (first | (go_at_call 84; refine (rwrite_out_1 _ p b s HF.out A a ha ho v).mono ?_; rintro e w1 ⟨rfl, h1, o1⟩) | (go_at_call 30; refine (fails_any _ p b (dvR s) h1 A 7 (by decide) _).mono ?_; rintro e w2 ⟨rfl, h2, o2⟩))
  exact bodyPost_ret (v := .tuple #[]) (by simp [results, Tryz.results62, go_sem]) rfl ⟨rfl, h2, o1.trans o2⟩
set_option maxHeartbeats 1000000 in
theorem store_in_17 (W : World) (p : Nat) (b : RBl) (s : RSt) (h : RefAt W p b s) (A : b.Apart p) (a : Nat) (v : Int) (v0 : 0 ≤ v) (v1 : v < 4294967296) (ha : a + 2 ≤ s.ram.length) :
    Calls Tryz.prog 62 #[.pointer (some ⟨p, 0, none⟩), .int .i64 17, .int .u32 a, .int .u32 v] W (RP W p b (next1 { s with ram := stV s.ram a v 2 })) := by
  have HF : Hid (RefAt W p b s) := h
  clear h
  go_enter Tryz.func62, Tryz.ntmps62
  go_wp2_with (go_at_call 84; refine (rwrite_2 _ p b s HF.out A a v v0 v1 ha).mono ?_; rintro e w1 ⟨rfl, h1, o1⟩; have c9 := h1.pc; have f9 := h1.fp)
  go_end0
  exact ⟨rfl, h1.put_pc A _, o1.put (by simp [RBl.l]) _⟩
set_option maxHeartbeats 1000000 in
theorem store_out_17 (W : World) (p : Nat) (b : RBl) (s : RSt) (h : RefAt W p b s) (A : b.Apart p) (a : Nat) (v : Int) (ha : a < 4294967296) (ho : ¬ a + 2 ≤ s.ram.length) :
    Calls Tryz.prog 62 #[.pointer (some ⟨p, 0, none⟩), .int .i64 17, .int .u32 a, .int .u32 v] W (RP W p b (failR (dvR s) 7 a)) := by
  have HF : Hid (RefAt W p b s) := h
  clear h
  go_enter Tryz.func62, Tryz.ntmps62
  go_wp2_with (first | (go_at_call 84; refine (rwrite_out_2 _ p b s HF.out A a ha ho v).mono ?_; rintro e w1 ⟨rfl, h1, o1⟩) | (go_at_call 30; refine (fails_any _ p b (dvR s) h1 A 7 (by decide) _).mono ?_; rintro e w2 ⟨rfl, h2, o2⟩))
  exact bodyPost_ret (v := .tuple #[]) (by simp [results, Tryz.results62, go_sem]) rfl ⟨rfl, h2, o1.trans o2⟩
set_option maxHeartbeats 1000000 in
theorem store_in_18 (W : World) (p : Nat) (b : RBl) (s : RSt) (h : RefAt W p b s) (A : b.Apart p) (a : Nat) (v : Int) (v0 : 0 ≤ v) (v1 : v < 4294967296) (ha : a + 4 ≤ s.ram.length) :
    Calls Tryz.prog 62 #[.pointer (some ⟨p, 0, none⟩), .int .i64 18, .int .u32 a, .int .u32 v] W (RP W p b (next1 { s with ram := stV s.ram a v 4 })) := by
  have HF : Hid (RefAt W p b s) := h
  clear h
  go_enter Tryz.func62, Tryz.ntmps62
  go_wp2_with (go_at_call 84; refine (rwrite_4 _ p b s HF.out A a v v0 v1 ha).mono ?_; rintro e w1 ⟨rfl, h1, o1⟩; have c9 := h1.pc; have f9 := h1.fp)
  go_end0
  exact ⟨rfl, h1.put_pc A _, o1.put (by simp [RBl.l]) _⟩
def stOut (s : RSt) (a : Nat) (v : Int) : RSt := if (setR (dvR s) a v).2 then next1 (setR (dvR s) a v).1 else failR (setR (dvR s) a v).1 7 a
set_option maxHeartbeats 1000000 in
theorem store_out_18 (W : World) (p : Nat) (b : RBl) (s : RSt) (h : RefAt W p b s) (A : b.Apart p) (a : Nat) (v : Int) (ha : a < 4294967296) (ho : ¬ a + 4 ≤ s.ram.length)
    (CO : ∀ W', RefAt W' p b (dvR s) → ∀ c : Nat, c < 2 → Calls Tryz.prog 156 #[.pointer (some ⟨p, 0, none⟩), .int .i64 c, .int .u32 v] W' (RP W' p b (complR (dvR s) c v))) :
    Calls Tryz.prog 62 #[.pointer (some ⟨p, 0, none⟩), .int .i64 18, .int .u32 a, .int .u32 v] W (RP W p b (stOut s a v)) := by
  have HR0 := rwrite_out_4 W p b s h A a ha ho v CO
  clear CO h ho ha
  obtain ⟨s', ok, hD⟩ : ∃ s' ok, setR (dvR s) a v = (s', ok) := ⟨_, _, rfl⟩
  rw [hD] at HR0
  have HE : Hid (stOut s a v = if ok then next1 s' else failR s' 7 a) := by unfold Hid stOut; rw [hD]
  clear hD
  cases ok
  · go_enter Tryz.func62, Tryz.ntmps62
    go_wp2_with (first | (go_at_call 84; refine HR0.mono ?_; rintro e w1 ⟨rfl, h1, o1⟩) | (go_at_call 30; refine (fails_any _ p b s' h1 A 7 (by decide) _).mono ?_; rintro e w2 ⟨rfl, h2, o2⟩))
    exact bodyPost_ret (v := .tuple #[]) (by simp [results, Tryz.results62, go_sem]) rfl ⟨rfl, by rw [HE.out]; exact h2, o1.trans o2⟩
  · go_enter Tryz.func62, Tryz.ntmps62
    go_wp2_with (go_at_call 84; refine HR0.mono ?_; rintro e w1 ⟨rfl, h1, o1⟩; have c9 := h1.pc; have f9 := h1.fp)
    go_end0
    exact ⟨rfl, by rw [HE.out]; exact h1.put_pc A _, o1.put (by simp [RBl.l]) _⟩
end Go.Proofs.YteiideeechnekaaGreatDoor

/-
  The document's calls from outside: Line, Tick, Read and Write at every width.
-/
namespace Go.Proofs.YteiideeechnekaaGreatDoor
open Go.RowKit

def tickR (s : RSt) : RSt := { s with mtime := (s.mtime + 1) % 4294967296 }
theorem tick_any (W : World) (p : Nat) (b : RBl) (s : RSt) (h : RefAt W p b s) (A : b.Apart p) :
    Calls Tryz.prog 83 #[.pointer (some ⟨p, 0, none⟩)] W (RP W p b (tickR s)) := by
  have HF : Hid (RefAt W p b s) := h
  have c1 := h.mtime
  have f1 := h.fp
  clear h
  go_enter Tryz.func83, Tryz.ntmps83
  go_wp2
  go_end0
  exact ⟨rfl, HF.out.put_mtime A _, (Offs.refl _ _).put (by simp [RBl.l]) _⟩

def setH (s : RSt) (k : Nat) (v : Bool) : RSt := { s with src := s.src.set k { srcAt s k with high := v } }
/-- A line that there is. -/
def lineR (s : RSt) (k : Nat) (hi : Bool) : RSt := if hi then (if (srcAt s k).served then setH s k true else setW (setH s k true) k true) else setH s k false
theorem line_no (W : World) (p : Nat) (k : Int) (hi : Bool) (hk : k < 1 ∨ 7 < k) :
    Calls Tryz.prog 82 #[.pointer (some ⟨p, 0, none⟩), .int .i64 k, .bool hi] W fun e W' => e = .returned (.tuple #[]) ∧ W' = W := by
  by_cases h1 : k < 1
  · clear hk
    go_enter Tryz.func82, Tryz.ntmps82
    go_wp2
    exact bodyPost_ret (v := .tuple #[]) (by simp [results, Tryz.results82, go_sem]) rfl ⟨rfl, rfl⟩
  · have h7 : 7 < k := by omega
    clear hk
    go_enter Tryz.func82, Tryz.ntmps82
    go_wp2
    exact bodyPost_ret (v := .tuple #[]) (by simp [results, Tryz.results82, go_sem]) rfl ⟨rfl, rfl⟩
set_option maxHeartbeats 1000000 in
theorem line_any (W : World) (p : Nat) (b : RBl) (s : RSt) (h : RefAt W p b s) (A : b.Apart p) (k : Nat) (h1 : 1 ≤ k) (h7 : k ≤ 7) (hi : Bool) :
    Calls Tryz.prog 82 #[.pointer (some ⟨p, 0, none⟩), .int .i64 k, .bool hi] W (RP W p b (lineR s k hi)) := by
  have HF : Hid (RefAt W p b s) := h
  have k1 := h.csrc
  have f1 := h.fs
  have c2 := h.high k (by omega)
  have h1' : ¬ ((k : Int) < 1) := by omega
  have h7' : ¬ (7 < (k : Int)) := by omega
  have hk8 : (k : Int) < 8 := by omega
  have R1 := h.put_high A k (by omega) hi
  have HR : Hid (RefAt (W.setCell ⟨b.src, k * 4, none⟩ (.bool hi)) p b (setH s k hi)) := R1
  have d1 : (W.setCell ⟨b.src, k * 4, none⟩ (.bool hi)).cell? ⟨p, 30, none⟩ = some (.slice (some ⟨b.src, 0, none⟩) 8 b.ksrc) := R1.csrc
  have d2 : (W.setCell ⟨b.src, k * 4, none⟩ (.bool hi)).cell? ⟨b.src, k * 4 + 2, none⟩ = some (.bool (srcAt s k).served) := (World.cell?_setCell_other _ _ _ _ (by intro e; injection e with e1 e2; omega)).trans (h.served k (by omega))
  have d3 : (W.setCell ⟨b.src, k * 4, none⟩ (.bool hi)).cell? ⟨b.src, k * 4 + 1, none⟩ = some (.bool (srcAt s k).waits) := (World.cell?_setCell_other _ _ _ _ (by intro e; injection e with e1 e2; omega)).trans (h.waits k (by omega))
  have f2 := R1.fs
  clear h R1
  cases hi
  · go_enter Tryz.func82, Tryz.ntmps82
    go_wp2
    go_end0
    exact ⟨rfl, HR.out, (Offs.refl _ _).put (by simp [RBl.l]) _⟩
  · by_cases hs : (srcAt s k).served = true
    · have HE : Hid (lineR s k true = setH s k true) := by unfold Hid lineR; rw [if_pos rfl, if_pos hs]
      rw [hs] at d2
      clear hs
      go_enter Tryz.func82, Tryz.ntmps82
      go_wp2
      go_end0
      exact ⟨rfl, by rw [HE.out]; exact HR.out, (Offs.refl _ _).put (by simp [RBl.l]) _⟩
    · have HE : Hid (lineR s k true = setW (setH s k true) k true) := by unfold Hid lineR; rw [if_pos rfl, if_neg hs]
      have hs' : (srcAt s k).served = false := by simpa using hs
      rw [hs'] at d2
      clear hs hs'
      go_enter Tryz.func82, Tryz.ntmps82
      go_wp2
      go_end0
      exact ⟨rfl, by rw [HE.out]; exact HR.out.put_waits A k (by omega) true, ((Offs.refl _ _).put (by simp [RBl.l]) _).put (by simp [RBl.l]) _⟩

theorem rread_odd (W : World) (p a : Nat) (w : Int) (h1 : (w != 1) = true) (h2 : (w != 2) = true) (h4 : (w != 4) = true) :
    Calls Tryz.prog 31 #[.pointer (some ⟨p, 0, none⟩), .int .u32 a, .int .i64 w] W fun e W' => e = .returned (.tuple #[.int .u32 0, .bool false]) ∧ W' = W := by
  go_enter Tryz.func31, Tryz.ntmps31
  go_wp2
  go_ret2
  exact ⟨rfl, rfl⟩
theorem rwrite_odd (W : World) (p a : Nat) (w v : Int) (h1 : (w != 1) = true) (h2 : (w != 2) = true) (h4 : (w != 4) = true) :
    Calls Tryz.prog 84 #[.pointer (some ⟨p, 0, none⟩), .int .u32 a, .int .i64 w, .int .u32 v] W fun e W' => e = .returned (.bool false) ∧ W' = W := by
  go_enter Tryz.func84, Tryz.ntmps84
  go_wp2
  go_ret
  exact ⟨rfl, rfl⟩
/-- A read from outside. -/
def readR (s : RSt) (a : Nat) (w : Int) : RSt × Int × Bool :=
  if w = 1 then (if a + 1 ≤ s.ram.length then (s, leV s.ram a 1, true) else (dvR s, 0, false))
  else if w = 2 then (if a + 2 ≤ s.ram.length then (s, leV s.ram a 2, true) else (dvR s, 0, false))
  else if w = 4 then (if a + 4 ≤ s.ram.length then (s, leV s.ram a 4, true) else devR (dvR s) a)
  else (s, 0, false)
theorem read_any (W : World) (p : Nat) (b : RBl) (s : RSt) (h : RefAt W p b s) (A : b.Apart p) (a : Nat) (ha : a < 4294967296) (w : Int) :
    Calls Tryz.prog 31 #[.pointer (some ⟨p, 0, none⟩), .int .u32 a, .int .i64 w] W fun e W' => e = .returned (.tuple #[.int .u32 (readR s a w).2.1, .bool (readR s a w).2.2]) ∧ RefAt W' p b (readR s a w).1 ∧ Offs (b.l p) W W' := by
  unfold readR
  by_cases w1 : w = 1
  · rw [if_pos w1]
    subst w1
    by_cases ho : a + 1 ≤ s.ram.length
    · rw [if_pos ho]
      refine (rread_1 W p b s h a ho).mono ?_
      rintro e w' ⟨rfl, q, rfl⟩
      exact ⟨rfl, h.drawn q, (Offs.refl _ _).drawn q⟩
    · rw [if_neg ho]
      exact rread_out_1 W p b s h A a ha ho
  by_cases w2 : w = 2
  · rw [if_neg w1, if_pos w2]
    subst w2
    by_cases ho : a + 2 ≤ s.ram.length
    · rw [if_pos ho]
      refine (rread_2 W p b s h a ho).mono ?_
      rintro e w' ⟨rfl, q, rfl⟩
      exact ⟨rfl, h.drawn q, (Offs.refl _ _).drawn q⟩
    · rw [if_neg ho]
      exact rread_out_2 W p b s h A a ha ho
  by_cases w4 : w = 4
  · rw [if_neg w1, if_neg w2, if_pos w4]
    subst w4
    by_cases ho : a + 4 ≤ s.ram.length
    · rw [if_pos ho]
      refine (rread_4 W p b s h a ho).mono ?_
      rintro e w' ⟨rfl, q, rfl⟩
      exact ⟨rfl, h.drawn q, (Offs.refl _ _).drawn q⟩
    · rw [if_neg ho]
      exact rread_out_4 W p b s h A a ha ho
  · rw [if_neg w1, if_neg w2, if_neg w4]
    refine (rread_odd W p a w (by simpa using w1) (by simpa using w2) (by simpa using w4)).mono ?_
    rintro e w' ⟨rfl, rfl⟩
    exact ⟨rfl, h, Offs.refl _ _⟩
/-- A write from outside. -/
def writeR (s : RSt) (a : Nat) (w v : Int) : RSt × Bool :=
  if w = 1 then (if a + 1 ≤ s.ram.length then ({ s with ram := stV s.ram a v 1 }, true) else (dvR s, false))
  else if w = 2 then (if a + 2 ≤ s.ram.length then ({ s with ram := stV s.ram a v 2 }, true) else (dvR s, false))
  else if w = 4 then (if a + 4 ≤ s.ram.length then ({ s with ram := stV s.ram a v 4 }, true) else setR (dvR s) a v)
  else (s, false)
theorem write_any (W : World) (p : Nat) (b : RBl) (s : RSt) (h : RefAt W p b s) (A : b.Apart p) (a : Nat) (ha : a < 4294967296) (w v : Int) (v0 : 0 ≤ v) (v1 : v < 4294967296)
    (CO : ∀ W', RefAt W' p b (dvR s) → ∀ c : Nat, c < 2 → Calls Tryz.prog 156 #[.pointer (some ⟨p, 0, none⟩), .int .i64 c, .int .u32 v] W' (RP W' p b (complR (dvR s) c v))) :
    Calls Tryz.prog 84 #[.pointer (some ⟨p, 0, none⟩), .int .u32 a, .int .i64 w, .int .u32 v] W fun e W' => e = .returned (.bool (writeR s a w v).2) ∧ RefAt W' p b (writeR s a w v).1 ∧ Offs (b.l p) W W' := by
  unfold writeR
  by_cases w1 : w = 1
  · rw [if_pos w1]
    subst w1
    by_cases ho : a + 1 ≤ s.ram.length
    · rw [if_pos ho]
      exact rwrite_1 W p b s h A a v v0 v1 ho
    · rw [if_neg ho]
      exact rwrite_out_1 W p b s h A a ha ho v
  by_cases w2 : w = 2
  · rw [if_neg w1, if_pos w2]
    subst w2
    by_cases ho : a + 2 ≤ s.ram.length
    · rw [if_pos ho]
      exact rwrite_2 W p b s h A a v v0 v1 ho
    · rw [if_neg ho]
      exact rwrite_out_2 W p b s h A a ha ho v
  by_cases w4 : w = 4
  · rw [if_neg w1, if_neg w2, if_pos w4]
    subst w4
    by_cases ho : a + 4 ≤ s.ram.length
    · rw [if_pos ho]
      exact rwrite_4 W p b s h A a v v0 v1 ho
    · rw [if_neg ho]
      exact rwrite_out_4 W p b s h A a ha ho v CO
  · rw [if_neg w1, if_neg w2, if_neg w4]
    refine (rwrite_odd W p a w v (by simpa using w1) (by simpa using w2) (by simpa using w4)).mono ?_
    rintro e w' ⟨rfl, rfl⟩
    exact ⟨rfl, h, Offs.refl _ _⟩
end Go.Proofs.YteiideeechnekaaGreatDoor
