/-
  The document's Read and Write outside the memory; load and store.
-/
import Derived.Test.YtfdokajjlkcdgaaGreatDoorRefMem
import Derived.Test.YtfdokajjlkcdgaaGreatDoorRefSet
import Derived.Test.YtfdokajjlkcdgaaGreatDoorRefSum
namespace Go.Proofs.YtfdokajjlkcdgaaGreatDoor
open Go.RowKit

def dvR (s : RSt) : RSt := { s with device := wrap64 (s.device + 1) }
def next1 (s : RSt) : RSt := { s with pc := (s.pc + 4) % 4294967296 }
def extV (op v : Int) : Int := if op = 11 then (if v < 128 then v else v + 4294967040) else if op = 12 then (if v < 32768 then v else v + 4294901760) else v
theorem rread_out_1 (W : World) (p : Nat) (b : RBl) (s : RSt) (h : RefAt W p b s) (A : b.Apart p) (a : Nat) (ha : a < 4294967296) (ho : ¬ a + 1 ≤ s.ram.length) :
    Calls Tryz.prog 24 #[.pointer (some ⟨p, 0, none⟩), .int .u32 a, .int .i64 1] W fun e W' => e = .returned (.tuple #[.int .u32 0, .bool false]) ∧ RefAt W' p b (dvR s) ∧ Offs (b.l p) W W' := by
  have HF : Hid (RefAt W p b s) := h
  have c1 := h.device
  have f1 := h.fp
  clear h
  go_enter Tryz.func24, Tryz.ntmps24
  go_wp2_with (go_at_call 22; refine (rram_any _ p b s HF.out a 1 ha (by decide)).mono ?_; rw [decide_eq_false ho]; rintro e w' ⟨rfl, q0, rfl⟩)
  go_ret2
  exact ⟨rfl, (HF.out.drawn q0).put_device A _, ((Offs.refl _ _).drawn q0).put (by simp [RBl.l]) _⟩
theorem rwrite_out_1 (W : World) (p : Nat) (b : RBl) (s : RSt) (h : RefAt W p b s) (A : b.Apart p) (a : Nat) (ha : a < 4294967296) (ho : ¬ a + 1 ≤ s.ram.length) (v : Int) :
    Calls Tryz.prog 78 #[.pointer (some ⟨p, 0, none⟩), .int .u32 a, .int .i64 1, .int .u32 v] W fun e W' => e = .returned (.bool false) ∧ RefAt W' p b (dvR s) ∧ Offs (b.l p) W W' := by
  have HF : Hid (RefAt W p b s) := h
  have c1 := h.device
  have f1 := h.fp
  clear h
  go_enter Tryz.func78, Tryz.ntmps78
  go_wp2_with (go_at_call 22; refine (rram_any _ p b s HF.out a 1 ha (by decide)).mono ?_; rw [decide_eq_false ho]; rintro e w' ⟨rfl, q0, rfl⟩)
  go_ret
  exact ⟨rfl, (HF.out.drawn q0).put_device A _, ((Offs.refl _ _).drawn q0).put (by simp [RBl.l]) _⟩
theorem rread_out_2 (W : World) (p : Nat) (b : RBl) (s : RSt) (h : RefAt W p b s) (A : b.Apart p) (a : Nat) (ha : a < 4294967296) (ho : ¬ a + 2 ≤ s.ram.length) :
    Calls Tryz.prog 24 #[.pointer (some ⟨p, 0, none⟩), .int .u32 a, .int .i64 2] W fun e W' => e = .returned (.tuple #[.int .u32 0, .bool false]) ∧ RefAt W' p b (dvR s) ∧ Offs (b.l p) W W' := by
  have HF : Hid (RefAt W p b s) := h
  have c1 := h.device
  have f1 := h.fp
  clear h
  go_enter Tryz.func24, Tryz.ntmps24
  go_wp2_with (go_at_call 22; refine (rram_any _ p b s HF.out a 2 ha (by decide)).mono ?_; rw [decide_eq_false ho]; rintro e w' ⟨rfl, q0, rfl⟩)
  go_ret2
  exact ⟨rfl, (HF.out.drawn q0).put_device A _, ((Offs.refl _ _).drawn q0).put (by simp [RBl.l]) _⟩
theorem rwrite_out_2 (W : World) (p : Nat) (b : RBl) (s : RSt) (h : RefAt W p b s) (A : b.Apart p) (a : Nat) (ha : a < 4294967296) (ho : ¬ a + 2 ≤ s.ram.length) (v : Int) :
    Calls Tryz.prog 78 #[.pointer (some ⟨p, 0, none⟩), .int .u32 a, .int .i64 2, .int .u32 v] W fun e W' => e = .returned (.bool false) ∧ RefAt W' p b (dvR s) ∧ Offs (b.l p) W W' := by
  have HF : Hid (RefAt W p b s) := h
  have c1 := h.device
  have f1 := h.fp
  clear h
  go_enter Tryz.func78, Tryz.ntmps78
  go_wp2_with (go_at_call 22; refine (rram_any _ p b s HF.out a 2 ha (by decide)).mono ?_; rw [decide_eq_false ho]; rintro e w' ⟨rfl, q0, rfl⟩)
  go_ret
  exact ⟨rfl, (HF.out.drawn q0).put_device A _, ((Offs.refl _ _).drawn q0).put (by simp [RBl.l]) _⟩
theorem rread_out_4 (W : World) (p : Nat) (b : RBl) (s : RSt) (h : RefAt W p b s) (A : b.Apart p) (a : Nat) (ha : a < 4294967296) (ho : ¬ a + 4 ≤ s.ram.length) :
    Calls Tryz.prog 24 #[.pointer (some ⟨p, 0, none⟩), .int .u32 a, .int .i64 4] W fun e W' => e = .returned (.tuple #[.int .u32 (devR (dvR s) a).2.1, .bool (devR (dvR s) a).2.2]) ∧ RefAt W' p b (devR (dvR s) a).1 ∧ Offs (b.l p) W W' := by
  have HF : Hid (RefAt W p b s) := h
  have c1 := h.device
  have f1 := h.fp
  clear h
  go_enter Tryz.func24, Tryz.ntmps24
  go_wp2_with (first | (go_at_call 22; refine (rram_any _ p b s HF.out a 4 ha (by decide)).mono ?_; rw [decide_eq_false ho]; rintro e w' ⟨rfl, q0, rfl⟩) | (go_at_call 42; refine (device_any _ p b (dvR s) ((HF.out.drawn _).put_device A _) A a ha).mono ?_; rintro e w2 ⟨rfl, h2, o2⟩))
  go_ret2
  exact ⟨rfl, h2, (((Offs.refl _ _).drawn _).put (by simp [RBl.l]) _).trans o2⟩
theorem rwrite_out_4 (W : World) (p : Nat) (b : RBl) (s : RSt) (h : RefAt W p b s) (A : b.Apart p) (a : Nat) (ha : a < 4294967296) (ho : ¬ a + 4 ≤ s.ram.length) (v : Int)
    (CO : ∀ W', RefAt W' p b (dvR s) → ∀ c : Nat, c < 2 → Calls Tryz.prog 150 #[.pointer (some ⟨p, 0, none⟩), .int .i64 c, .int .u32 v] W' fun e W'' => e = .returned (.tuple #[]) ∧ RefAt W'' p b (complR (dvR s) c v) ∧ Offs (b.l p) W' W'') :
    Calls Tryz.prog 78 #[.pointer (some ⟨p, 0, none⟩), .int .u32 a, .int .i64 4, .int .u32 v] W fun e W' => e = .returned (.bool (setR (dvR s) a v).2) ∧ RefAt W' p b (setR (dvR s) a v).1 ∧ Offs (b.l p) W W' := by
  have HF : Hid (RefAt W p b s) := h
  have c1 := h.device
  have f1 := h.fp
  have HK := CO
  clear h CO
  go_enter Tryz.func78, Tryz.ntmps78
  go_wp2_with (first | (go_at_call 22; refine (rram_any _ p b s HF.out a 4 ha (by decide)).mono ?_; rw [decide_eq_false ho]; rintro e w' ⟨rfl, q0, rfl⟩) | (go_at_call 124; refine (set_any _ p b (dvR s) ((HF.out.drawn _).put_device A _) A a ha v (HK _ ((HF.out.drawn _).put_device A _))).mono ?_; rintro e w2 ⟨rfl, h2, o2⟩))
  go_ret
  exact ⟨rfl, h2, (((Offs.refl _ _).drawn _).put (by simp [RBl.l]) _).trans o2⟩

set_option maxHeartbeats 1000000 in
theorem load_in_11_lo (W : World) (p : Nat) (b : RBl) (s : RSt) (h : RefAt W p b s) (A : b.Apart p) (rd : Nat) (hrd : rd < 32) (r1 r2 imm : Int) (a : Nat) (ha : a + 1 ≤ s.ram.length) (hc : leV s.ram a 1 < 128) :
    Calls Tryz.prog 45 #[.pointer (some ⟨p, 0, none⟩), .agg #[.int .i64 11, .int .i64 rd, .int .i64 r1, .int .i64 r2, .int .u32 imm], .int .u32 a] W fun e W' => e = .returned (.tuple #[]) ∧ RefAt W' p b (next1 (putR s rd (leV s.ram a 1))) ∧ Offs (b.l p) W W' := by
  have HF : Hid (RefAt W p b s) := h
  have bp := h.lt
  have hW : p ≠ W.heap.size := by omega
  have HL : Hid (W.heap.size ∉ b.l p) := fun hk => by simp [RBl.l] at hk; omega
  have hd' : (rd : Int) < 32 := by omega
  obtain ⟨hl, hby⟩ : s.ram.length ≤ 512 ∧ Byt s.ram := by obtain ⟨_, _, _, _, _, _, h6, h7⟩ := h.ram; exact ⟨h6, h7⟩
  have bd := leV_bd hby a
  have lv := bd.1
  clear h bp bd hby
  go_enter Tryz.func45, Tryz.ntmps45
  go_wp2_with (first | (go_at_call 24; refine (rread_1 _ p b s (HF.out.below ((Below.refl _ _).alloc (Nat.le_refl _) _) (Nat.le_refl _)) a ha).mono ?_; rintro e w1 ⟨rfl, q, rfl⟩) | (go_at_call 50; refine (put_any _ p b s ((HF.out.below ((Below.refl _ _).alloc (Nat.le_refl _) _) (Nat.le_refl _)).drawn _) A rd hrd _).mono ?_; rintro e w2 ⟨rfl, h2, o2⟩; have c9 := h2.pc; have f9 := h2.fp))
  go_end0
  exact ⟨rfl, h2.put_pc A _, ((((Offs.refl _ _).new _).drawn _).trans o2).put (by simp [RBl.l]) _⟩
set_option maxHeartbeats 1000000 in
theorem load_in_11_hi (W : World) (p : Nat) (b : RBl) (s : RSt) (h : RefAt W p b s) (A : b.Apart p) (rd : Nat) (hrd : rd < 32) (r1 r2 imm : Int) (a : Nat) (ha : a + 1 ≤ s.ram.length) (hc : ¬ leV s.ram a 1 < 128) :
    Calls Tryz.prog 45 #[.pointer (some ⟨p, 0, none⟩), .agg #[.int .i64 11, .int .i64 rd, .int .i64 r1, .int .i64 r2, .int .u32 imm], .int .u32 a] W fun e W' => e = .returned (.tuple #[]) ∧ RefAt W' p b (next1 (putR s rd (leV s.ram a 1 + 4294967040))) ∧ Offs (b.l p) W W' := by
  have HF : Hid (RefAt W p b s) := h
  have bp := h.lt
  have hW : p ≠ W.heap.size := by omega
  have HL : Hid (W.heap.size ∉ b.l p) := fun hk => by simp [RBl.l] at hk; omega
  have hd' : (rd : Int) < 32 := by omega
  obtain ⟨hl, hby⟩ : s.ram.length ≤ 512 ∧ Byt s.ram := by obtain ⟨_, _, _, _, _, _, h6, h7⟩ := h.ram; exact ⟨h6, h7⟩
  have bd := leV_bd hby a
  have lv := bd.1
  clear h bp bd hby
  go_enter Tryz.func45, Tryz.ntmps45
  go_wp2_with (first | (go_at_call 24; refine (rread_1 _ p b s (HF.out.below ((Below.refl _ _).alloc (Nat.le_refl _) _) (Nat.le_refl _)) a ha).mono ?_; rintro e w1 ⟨rfl, q, rfl⟩) | (go_at_call 50; refine (put_any _ p b s ((HF.out.below ((Below.refl _ _).alloc (Nat.le_refl _) _) (Nat.le_refl _)).drawn _) A rd hrd _).mono ?_; rintro e w2 ⟨rfl, h2, o2⟩; have c9 := h2.pc; have f9 := h2.fp))
  go_end0
  exact ⟨rfl, h2.put_pc A _, ((((Offs.refl _ _).new _).drawn _).trans o2).put (by simp [RBl.l]) _⟩
set_option maxHeartbeats 1000000 in
theorem load_out_11 (W : World) (p : Nat) (b : RBl) (s : RSt) (h : RefAt W p b s) (A : b.Apart p) (rd : Nat) (hrd : rd < 32) (r1 r2 imm : Int) (a : Nat) (ha : a < 4294967296) (ho : ¬ a + 1 ≤ s.ram.length) :
    Calls Tryz.prog 45 #[.pointer (some ⟨p, 0, none⟩), .agg #[.int .i64 11, .int .i64 rd, .int .i64 r1, .int .i64 r2, .int .u32 imm], .int .u32 a] W fun e W' => e = .returned (.tuple #[]) ∧ RefAt W' p b (failR (dvR s) 5 a) ∧ Offs (b.l p) W W' := by
  have HF : Hid (RefAt W p b s) := h
  have bp := h.lt
  have hW : p ≠ W.heap.size := by omega
  have HL : Hid (W.heap.size ∉ b.l p) := fun hk => by simp [RBl.l] at hk; omega
  have hd' : (rd : Int) < 32 := by omega
  clear h bp hd' hW HL
  go_enter Tryz.func45, Tryz.ntmps45
  go_wp2_with (first | (go_at_call 24; refine (rread_out_1 _ p b s (HF.out.below ((Below.refl _ _).alloc (Nat.le_refl _) _) (Nat.le_refl _)) A a ha ho).mono ?_; rintro e w1 ⟨rfl, h1, o1⟩) | (go_at_call 23; refine (fails_any _ p b (dvR s) h1 A 5 (by decide) _).mono ?_; rintro e w2 ⟨rfl, h2, o2⟩))
  exact bodyPost_ret (v := .tuple #[]) (by simp [results, Tryz.results45, go_sem]) rfl ⟨rfl, h2, (((Offs.refl _ _).new _).trans o1).trans o2⟩
set_option maxHeartbeats 1000000 in
theorem load_in_12_lo (W : World) (p : Nat) (b : RBl) (s : RSt) (h : RefAt W p b s) (A : b.Apart p) (rd : Nat) (hrd : rd < 32) (r1 r2 imm : Int) (a : Nat) (ha : a + 2 ≤ s.ram.length) (hc : leV s.ram a 2 < 32768) :
    Calls Tryz.prog 45 #[.pointer (some ⟨p, 0, none⟩), .agg #[.int .i64 12, .int .i64 rd, .int .i64 r1, .int .i64 r2, .int .u32 imm], .int .u32 a] W fun e W' => e = .returned (.tuple #[]) ∧ RefAt W' p b (next1 (putR s rd (leV s.ram a 2))) ∧ Offs (b.l p) W W' := by
  have HF : Hid (RefAt W p b s) := h
  have bp := h.lt
  have hW : p ≠ W.heap.size := by omega
  have HL : Hid (W.heap.size ∉ b.l p) := fun hk => by simp [RBl.l] at hk; omega
  have hd' : (rd : Int) < 32 := by omega
  obtain ⟨hl, hby⟩ : s.ram.length ≤ 512 ∧ Byt s.ram := by obtain ⟨_, _, _, _, _, _, h6, h7⟩ := h.ram; exact ⟨h6, h7⟩
  have bd := leV_bd hby a
  have lv := bd.2.1
  clear h bp bd hby
  go_enter Tryz.func45, Tryz.ntmps45
  go_wp2_with (first | (go_at_call 24; refine (rread_2 _ p b s (HF.out.below ((Below.refl _ _).alloc (Nat.le_refl _) _) (Nat.le_refl _)) a ha).mono ?_; rintro e w1 ⟨rfl, q, rfl⟩) | (go_at_call 50; refine (put_any _ p b s ((HF.out.below ((Below.refl _ _).alloc (Nat.le_refl _) _) (Nat.le_refl _)).drawn _) A rd hrd _).mono ?_; rintro e w2 ⟨rfl, h2, o2⟩; have c9 := h2.pc; have f9 := h2.fp))
  go_end0
  exact ⟨rfl, h2.put_pc A _, ((((Offs.refl _ _).new _).drawn _).trans o2).put (by simp [RBl.l]) _⟩
set_option maxHeartbeats 1000000 in
theorem load_in_12_hi (W : World) (p : Nat) (b : RBl) (s : RSt) (h : RefAt W p b s) (A : b.Apart p) (rd : Nat) (hrd : rd < 32) (r1 r2 imm : Int) (a : Nat) (ha : a + 2 ≤ s.ram.length) (hc : ¬ leV s.ram a 2 < 32768) :
    Calls Tryz.prog 45 #[.pointer (some ⟨p, 0, none⟩), .agg #[.int .i64 12, .int .i64 rd, .int .i64 r1, .int .i64 r2, .int .u32 imm], .int .u32 a] W fun e W' => e = .returned (.tuple #[]) ∧ RefAt W' p b (next1 (putR s rd (leV s.ram a 2 + 4294901760))) ∧ Offs (b.l p) W W' := by
  have HF : Hid (RefAt W p b s) := h
  have bp := h.lt
  have hW : p ≠ W.heap.size := by omega
  have HL : Hid (W.heap.size ∉ b.l p) := fun hk => by simp [RBl.l] at hk; omega
  have hd' : (rd : Int) < 32 := by omega
  obtain ⟨hl, hby⟩ : s.ram.length ≤ 512 ∧ Byt s.ram := by obtain ⟨_, _, _, _, _, _, h6, h7⟩ := h.ram; exact ⟨h6, h7⟩
  have bd := leV_bd hby a
  have lv := bd.2.1
  clear h bp bd hby
  go_enter Tryz.func45, Tryz.ntmps45
  go_wp2_with (first | (go_at_call 24; refine (rread_2 _ p b s (HF.out.below ((Below.refl _ _).alloc (Nat.le_refl _) _) (Nat.le_refl _)) a ha).mono ?_; rintro e w1 ⟨rfl, q, rfl⟩) | (go_at_call 50; refine (put_any _ p b s ((HF.out.below ((Below.refl _ _).alloc (Nat.le_refl _) _) (Nat.le_refl _)).drawn _) A rd hrd _).mono ?_; rintro e w2 ⟨rfl, h2, o2⟩; have c9 := h2.pc; have f9 := h2.fp))
  go_end0
  exact ⟨rfl, h2.put_pc A _, ((((Offs.refl _ _).new _).drawn _).trans o2).put (by simp [RBl.l]) _⟩
set_option maxHeartbeats 1000000 in
theorem load_out_12 (W : World) (p : Nat) (b : RBl) (s : RSt) (h : RefAt W p b s) (A : b.Apart p) (rd : Nat) (hrd : rd < 32) (r1 r2 imm : Int) (a : Nat) (ha : a < 4294967296) (ho : ¬ a + 2 ≤ s.ram.length) :
    Calls Tryz.prog 45 #[.pointer (some ⟨p, 0, none⟩), .agg #[.int .i64 12, .int .i64 rd, .int .i64 r1, .int .i64 r2, .int .u32 imm], .int .u32 a] W fun e W' => e = .returned (.tuple #[]) ∧ RefAt W' p b (failR (dvR s) 5 a) ∧ Offs (b.l p) W W' := by
  have HF : Hid (RefAt W p b s) := h
  have bp := h.lt
  have hW : p ≠ W.heap.size := by omega
  have HL : Hid (W.heap.size ∉ b.l p) := fun hk => by simp [RBl.l] at hk; omega
  have hd' : (rd : Int) < 32 := by omega
  clear h bp hd' hW HL
  go_enter Tryz.func45, Tryz.ntmps45
  go_wp2_with (first | (go_at_call 24; refine (rread_out_2 _ p b s (HF.out.below ((Below.refl _ _).alloc (Nat.le_refl _) _) (Nat.le_refl _)) A a ha ho).mono ?_; rintro e w1 ⟨rfl, h1, o1⟩) | (go_at_call 23; refine (fails_any _ p b (dvR s) h1 A 5 (by decide) _).mono ?_; rintro e w2 ⟨rfl, h2, o2⟩))
  exact bodyPost_ret (v := .tuple #[]) (by simp [results, Tryz.results45, go_sem]) rfl ⟨rfl, h2, (((Offs.refl _ _).new _).trans o1).trans o2⟩
set_option maxHeartbeats 1000000 in
theorem load_in_13 (W : World) (p : Nat) (b : RBl) (s : RSt) (h : RefAt W p b s) (A : b.Apart p) (rd : Nat) (hrd : rd < 32) (r1 r2 imm : Int) (a : Nat) (ha : a + 4 ≤ s.ram.length) :
    Calls Tryz.prog 45 #[.pointer (some ⟨p, 0, none⟩), .agg #[.int .i64 13, .int .i64 rd, .int .i64 r1, .int .i64 r2, .int .u32 imm], .int .u32 a] W fun e W' => e = .returned (.tuple #[]) ∧ RefAt W' p b (next1 (putR s rd (leV s.ram a 4))) ∧ Offs (b.l p) W W' := by
  have HF : Hid (RefAt W p b s) := h
  have bp := h.lt
  have hW : p ≠ W.heap.size := by omega
  have HL : Hid (W.heap.size ∉ b.l p) := fun hk => by simp [RBl.l] at hk; omega
  have hd' : (rd : Int) < 32 := by omega
  obtain ⟨hl, hby⟩ : s.ram.length ≤ 512 ∧ Byt s.ram := by obtain ⟨_, _, _, _, _, _, h6, h7⟩ := h.ram; exact ⟨h6, h7⟩
  have bd := leV_bd hby a
  have lv := bd.2.2
  clear h bp bd hby
  go_enter Tryz.func45, Tryz.ntmps45
  go_wp2_with (first | (go_at_call 24; refine (rread_4 _ p b s (HF.out.below ((Below.refl _ _).alloc (Nat.le_refl _) _) (Nat.le_refl _)) a ha).mono ?_; rintro e w1 ⟨rfl, q, rfl⟩) | (go_at_call 50; refine (put_any _ p b s ((HF.out.below ((Below.refl _ _).alloc (Nat.le_refl _) _) (Nat.le_refl _)).drawn _) A rd hrd _).mono ?_; rintro e w2 ⟨rfl, h2, o2⟩; have c9 := h2.pc; have f9 := h2.fp))
  go_end0
  exact ⟨rfl, h2.put_pc A _, ((((Offs.refl _ _).new _).drawn _).trans o2).put (by simp [RBl.l]) _⟩
set_option maxHeartbeats 1000000 in
theorem load_in_14 (W : World) (p : Nat) (b : RBl) (s : RSt) (h : RefAt W p b s) (A : b.Apart p) (rd : Nat) (hrd : rd < 32) (r1 r2 imm : Int) (a : Nat) (ha : a + 1 ≤ s.ram.length) :
    Calls Tryz.prog 45 #[.pointer (some ⟨p, 0, none⟩), .agg #[.int .i64 14, .int .i64 rd, .int .i64 r1, .int .i64 r2, .int .u32 imm], .int .u32 a] W fun e W' => e = .returned (.tuple #[]) ∧ RefAt W' p b (next1 (putR s rd (leV s.ram a 1))) ∧ Offs (b.l p) W W' := by
  have HF : Hid (RefAt W p b s) := h
  have bp := h.lt
  have hW : p ≠ W.heap.size := by omega
  have HL : Hid (W.heap.size ∉ b.l p) := fun hk => by simp [RBl.l] at hk; omega
  have hd' : (rd : Int) < 32 := by omega
  obtain ⟨hl, hby⟩ : s.ram.length ≤ 512 ∧ Byt s.ram := by obtain ⟨_, _, _, _, _, _, h6, h7⟩ := h.ram; exact ⟨h6, h7⟩
  have bd := leV_bd hby a
  have lv := bd.1
  clear h bp bd hby
  go_enter Tryz.func45, Tryz.ntmps45
  go_wp2_with (first | (go_at_call 24; refine (rread_1 _ p b s (HF.out.below ((Below.refl _ _).alloc (Nat.le_refl _) _) (Nat.le_refl _)) a ha).mono ?_; rintro e w1 ⟨rfl, q, rfl⟩) | (go_at_call 50; refine (put_any _ p b s ((HF.out.below ((Below.refl _ _).alloc (Nat.le_refl _) _) (Nat.le_refl _)).drawn _) A rd hrd _).mono ?_; rintro e w2 ⟨rfl, h2, o2⟩; have c9 := h2.pc; have f9 := h2.fp))
  go_end0
  exact ⟨rfl, h2.put_pc A _, ((((Offs.refl _ _).new _).drawn _).trans o2).put (by simp [RBl.l]) _⟩
set_option maxHeartbeats 1000000 in
theorem load_out_14 (W : World) (p : Nat) (b : RBl) (s : RSt) (h : RefAt W p b s) (A : b.Apart p) (rd : Nat) (hrd : rd < 32) (r1 r2 imm : Int) (a : Nat) (ha : a < 4294967296) (ho : ¬ a + 1 ≤ s.ram.length) :
    Calls Tryz.prog 45 #[.pointer (some ⟨p, 0, none⟩), .agg #[.int .i64 14, .int .i64 rd, .int .i64 r1, .int .i64 r2, .int .u32 imm], .int .u32 a] W fun e W' => e = .returned (.tuple #[]) ∧ RefAt W' p b (failR (dvR s) 5 a) ∧ Offs (b.l p) W W' := by
  have HF : Hid (RefAt W p b s) := h
  have bp := h.lt
  have hW : p ≠ W.heap.size := by omega
  have HL : Hid (W.heap.size ∉ b.l p) := fun hk => by simp [RBl.l] at hk; omega
  have hd' : (rd : Int) < 32 := by omega
  clear h bp hd' hW HL
  go_enter Tryz.func45, Tryz.ntmps45
  go_wp2_with (first | (go_at_call 24; refine (rread_out_1 _ p b s (HF.out.below ((Below.refl _ _).alloc (Nat.le_refl _) _) (Nat.le_refl _)) A a ha ho).mono ?_; rintro e w1 ⟨rfl, h1, o1⟩) | (go_at_call 23; refine (fails_any _ p b (dvR s) h1 A 5 (by decide) _).mono ?_; rintro e w2 ⟨rfl, h2, o2⟩))
  exact bodyPost_ret (v := .tuple #[]) (by simp [results, Tryz.results45, go_sem]) rfl ⟨rfl, h2, (((Offs.refl _ _).new _).trans o1).trans o2⟩
set_option maxHeartbeats 1000000 in
theorem load_in_15 (W : World) (p : Nat) (b : RBl) (s : RSt) (h : RefAt W p b s) (A : b.Apart p) (rd : Nat) (hrd : rd < 32) (r1 r2 imm : Int) (a : Nat) (ha : a + 2 ≤ s.ram.length) :
    Calls Tryz.prog 45 #[.pointer (some ⟨p, 0, none⟩), .agg #[.int .i64 15, .int .i64 rd, .int .i64 r1, .int .i64 r2, .int .u32 imm], .int .u32 a] W fun e W' => e = .returned (.tuple #[]) ∧ RefAt W' p b (next1 (putR s rd (leV s.ram a 2))) ∧ Offs (b.l p) W W' := by
  have HF : Hid (RefAt W p b s) := h
  have bp := h.lt
  have hW : p ≠ W.heap.size := by omega
  have HL : Hid (W.heap.size ∉ b.l p) := fun hk => by simp [RBl.l] at hk; omega
  have hd' : (rd : Int) < 32 := by omega
  obtain ⟨hl, hby⟩ : s.ram.length ≤ 512 ∧ Byt s.ram := by obtain ⟨_, _, _, _, _, _, h6, h7⟩ := h.ram; exact ⟨h6, h7⟩
  have bd := leV_bd hby a
  have lv := bd.2.1
  clear h bp bd hby
  go_enter Tryz.func45, Tryz.ntmps45
  go_wp2_with (first | (go_at_call 24; refine (rread_2 _ p b s (HF.out.below ((Below.refl _ _).alloc (Nat.le_refl _) _) (Nat.le_refl _)) a ha).mono ?_; rintro e w1 ⟨rfl, q, rfl⟩) | (go_at_call 50; refine (put_any _ p b s ((HF.out.below ((Below.refl _ _).alloc (Nat.le_refl _) _) (Nat.le_refl _)).drawn _) A rd hrd _).mono ?_; rintro e w2 ⟨rfl, h2, o2⟩; have c9 := h2.pc; have f9 := h2.fp))
  go_end0
  exact ⟨rfl, h2.put_pc A _, ((((Offs.refl _ _).new _).drawn _).trans o2).put (by simp [RBl.l]) _⟩
set_option maxHeartbeats 1000000 in
theorem load_out_15 (W : World) (p : Nat) (b : RBl) (s : RSt) (h : RefAt W p b s) (A : b.Apart p) (rd : Nat) (hrd : rd < 32) (r1 r2 imm : Int) (a : Nat) (ha : a < 4294967296) (ho : ¬ a + 2 ≤ s.ram.length) :
    Calls Tryz.prog 45 #[.pointer (some ⟨p, 0, none⟩), .agg #[.int .i64 15, .int .i64 rd, .int .i64 r1, .int .i64 r2, .int .u32 imm], .int .u32 a] W fun e W' => e = .returned (.tuple #[]) ∧ RefAt W' p b (failR (dvR s) 5 a) ∧ Offs (b.l p) W W' := by
  have HF : Hid (RefAt W p b s) := h
  have bp := h.lt
  have hW : p ≠ W.heap.size := by omega
  have HL : Hid (W.heap.size ∉ b.l p) := fun hk => by simp [RBl.l] at hk; omega
  have hd' : (rd : Int) < 32 := by omega
  clear h bp hd' hW HL
  go_enter Tryz.func45, Tryz.ntmps45
  go_wp2_with (first | (go_at_call 24; refine (rread_out_2 _ p b s (HF.out.below ((Below.refl _ _).alloc (Nat.le_refl _) _) (Nat.le_refl _)) A a ha ho).mono ?_; rintro e w1 ⟨rfl, h1, o1⟩) | (go_at_call 23; refine (fails_any _ p b (dvR s) h1 A 5 (by decide) _).mono ?_; rintro e w2 ⟨rfl, h2, o2⟩))
  exact bodyPost_ret (v := .tuple #[]) (by simp [results, Tryz.results45, go_sem]) rfl ⟨rfl, h2, (((Offs.refl _ _).new _).trans o1).trans o2⟩
theorem box_kept0 {W w2 : World} {L : List Nat} {c : Array Value} {t : TypeId} (hL : W.heap.size ∉ L) (o2 : Offs L (W.alloc (.cells c t)) w2) (j : Nat) : w2.cell? ⟨W.heap.size, j, none⟩ = c[j]? := by
  have e : w2.heap[W.heap.size]? = some (.cells c t (0, 0)) := (o2.block _ (by simp) hL).trans (heap_alloc_new W _)
  exact cell_of_row w2 _ j c _ (0, 0) e
def ldOut (s : RSt) (rd a : Nat) : RSt := if (devR (dvR s) a).2.2 then next1 (putR (devR (dvR s) a).1 rd (devR (dvR s) a).2.1) else failR (devR (dvR s) a).1 5 a
set_option maxHeartbeats 1000000 in
theorem load_out_13 (W : World) (p : Nat) (b : RBl) (s : RSt) (h : RefAt W p b s) (A : b.Apart p) (rd : Nat) (hrd : rd < 32) (r1 r2 imm : Int) (a : Nat) (ha : a < 4294967296) (ho : ¬ a + 4 ≤ s.ram.length) :
    Calls Tryz.prog 45 #[.pointer (some ⟨p, 0, none⟩), .agg #[.int .i64 13, .int .i64 rd, .int .i64 r1, .int .i64 r2, .int .u32 imm], .int .u32 a] W fun e W' => e = .returned (.tuple #[]) ∧ RefAt W' p b (ldOut s rd a) ∧ Offs (b.l p) W W' := by
  have HF : Hid (RefAt W p b s) := h
  have bp := h.lt
  have hW : p ≠ W.heap.size := by omega
  have HL : Hid (W.heap.size ∉ b.l p) := fun hk => by simp [RBl.l] at hk; omega
  have hd' : (rd : Int) < 32 := by omega
  clear h bp
  obtain ⟨s', v, ok, hD⟩ : ∃ s' v ok, devR (dvR s) a = (s', v, ok) := ⟨_, _, _, rfl⟩
  have HR : Hid (∀ W, RefAt W p b s → Calls Tryz.prog 24 #[.pointer (some ⟨p, 0, none⟩), .int .u32 a, .int .i64 4] W fun e W' => e = .returned (.tuple #[.int .u32 v, .bool ok]) ∧ RefAt W' p b s' ∧ Offs (b.l p) W W') := fun W h => by
    have := rread_out_4 W p b s h A a ha ho
    rw [hD] at this
    exact this
  have HE : Hid (ldOut s rd a = if ok then next1 (putR s' rd v) else failR s' 5 a) := by unfold Hid ldOut; rw [hD]
  clear hD
  cases ok
  · go_enter Tryz.func45, Tryz.ntmps45
    go_wp2_with (first | (go_at_call 24; refine (HR.out _ (HF.out.below ((Below.refl _ _).alloc (Nat.le_refl _) _) (Nat.le_refl _))).mono ?_; rintro e w1 ⟨rfl, h1, o1⟩) | (go_at_call 23; refine (fails_any _ p b s' h1 A 5 (by decide) _).mono ?_; rintro e w2 ⟨rfl, h2, o2⟩))
    exact bodyPost_ret (v := .tuple #[]) (by simp [results, Tryz.results45, go_sem]) rfl ⟨rfl, by rw [HE.out]; exact h2, (((Offs.refl _ _).new _).trans o1).trans o2⟩
  · go_enter Tryz.func45, Tryz.ntmps45
    go_wp2_with fail
    refine (HR.out _ (HF.out.below ((Below.refl _ _).alloc (Nat.le_refl _) _) (Nat.le_refl _))).mono ?_
    rintro e w1 ⟨rfl, h1, o1⟩
    have d0 := box_kept0 HL.out o1 0
    have d1 := box_kept0 HL.out o1 1
    simp at d0 d1
    have H1 : Hid (RefAt w1 p b s') := h1
    have O1 : Hid (Offs (b.l p) W w1) := ((Offs.refl _ _).new _).trans o1
    clear h1 o1
    go_wp2_with (go_at_call 50; refine (put_any _ p b s' H1.out A rd hrd _).mono ?_; rintro e w2 ⟨rfl, h2, o2⟩; have c9 := h2.pc; have f9 := h2.fp)
    go_end0
    exact ⟨rfl, by rw [HE.out]; exact h2.put_pc A _, (O1.out.trans o2).put (by simp [RBl.l]) _⟩
set_option maxHeartbeats 1000000 in
theorem store_in_16 (W : World) (p : Nat) (b : RBl) (s : RSt) (h : RefAt W p b s) (A : b.Apart p) (a : Nat) (v : Int) (v0 : 0 ≤ v) (v1 : v < 4294967296) (ha : a + 1 ≤ s.ram.length) :
    Calls Tryz.prog 46 #[.pointer (some ⟨p, 0, none⟩), .int .i64 16, .int .u32 a, .int .u32 v] W fun e W' => e = .returned (.tuple #[]) ∧ RefAt W' p b (next1 { s with ram := stV s.ram a v 1 }) ∧ Offs (b.l p) W W' := by
  have HF : Hid (RefAt W p b s) := h
  clear h
  go_enter Tryz.func46, Tryz.ntmps46
  go_wp2_with (go_at_call 78; refine (rwrite_1 _ p b s HF.out A a v v0 v1 ha).mono ?_; rintro e w1 ⟨rfl, h1, o1⟩; have c9 := h1.pc; have f9 := h1.fp)
  go_end0
  exact ⟨rfl, h1.put_pc A _, o1.put (by simp [RBl.l]) _⟩
set_option maxHeartbeats 1000000 in
theorem store_out_16 (W : World) (p : Nat) (b : RBl) (s : RSt) (h : RefAt W p b s) (A : b.Apart p) (a : Nat) (v : Int) (ha : a < 4294967296) (ho : ¬ a + 1 ≤ s.ram.length) :
    Calls Tryz.prog 46 #[.pointer (some ⟨p, 0, none⟩), .int .i64 16, .int .u32 a, .int .u32 v] W fun e W' => e = .returned (.tuple #[]) ∧ RefAt W' p b (failR (dvR s) 7 a) ∧ Offs (b.l p) W W' := by
  have HF : Hid (RefAt W p b s) := h
  clear h
  go_enter Tryz.func46, Tryz.ntmps46
  go_wp2_with (first | (go_at_call 78; refine (rwrite_out_1 _ p b s HF.out A a ha ho v).mono ?_; rintro e w1 ⟨rfl, h1, o1⟩) | (go_at_call 23; refine (fails_any _ p b (dvR s) h1 A 7 (by decide) _).mono ?_; rintro e w2 ⟨rfl, h2, o2⟩))
  exact bodyPost_ret (v := .tuple #[]) (by simp [results, Tryz.results46, go_sem]) rfl ⟨rfl, h2, o1.trans o2⟩
set_option maxHeartbeats 1000000 in
theorem store_in_17 (W : World) (p : Nat) (b : RBl) (s : RSt) (h : RefAt W p b s) (A : b.Apart p) (a : Nat) (v : Int) (v0 : 0 ≤ v) (v1 : v < 4294967296) (ha : a + 2 ≤ s.ram.length) :
    Calls Tryz.prog 46 #[.pointer (some ⟨p, 0, none⟩), .int .i64 17, .int .u32 a, .int .u32 v] W fun e W' => e = .returned (.tuple #[]) ∧ RefAt W' p b (next1 { s with ram := stV s.ram a v 2 }) ∧ Offs (b.l p) W W' := by
  have HF : Hid (RefAt W p b s) := h
  clear h
  go_enter Tryz.func46, Tryz.ntmps46
  go_wp2_with (go_at_call 78; refine (rwrite_2 _ p b s HF.out A a v v0 v1 ha).mono ?_; rintro e w1 ⟨rfl, h1, o1⟩; have c9 := h1.pc; have f9 := h1.fp)
  go_end0
  exact ⟨rfl, h1.put_pc A _, o1.put (by simp [RBl.l]) _⟩
set_option maxHeartbeats 1000000 in
theorem store_out_17 (W : World) (p : Nat) (b : RBl) (s : RSt) (h : RefAt W p b s) (A : b.Apart p) (a : Nat) (v : Int) (ha : a < 4294967296) (ho : ¬ a + 2 ≤ s.ram.length) :
    Calls Tryz.prog 46 #[.pointer (some ⟨p, 0, none⟩), .int .i64 17, .int .u32 a, .int .u32 v] W fun e W' => e = .returned (.tuple #[]) ∧ RefAt W' p b (failR (dvR s) 7 a) ∧ Offs (b.l p) W W' := by
  have HF : Hid (RefAt W p b s) := h
  clear h
  go_enter Tryz.func46, Tryz.ntmps46
  go_wp2_with (first | (go_at_call 78; refine (rwrite_out_2 _ p b s HF.out A a ha ho v).mono ?_; rintro e w1 ⟨rfl, h1, o1⟩) | (go_at_call 23; refine (fails_any _ p b (dvR s) h1 A 7 (by decide) _).mono ?_; rintro e w2 ⟨rfl, h2, o2⟩))
  exact bodyPost_ret (v := .tuple #[]) (by simp [results, Tryz.results46, go_sem]) rfl ⟨rfl, h2, o1.trans o2⟩
set_option maxHeartbeats 1000000 in
theorem store_in_18 (W : World) (p : Nat) (b : RBl) (s : RSt) (h : RefAt W p b s) (A : b.Apart p) (a : Nat) (v : Int) (v0 : 0 ≤ v) (v1 : v < 4294967296) (ha : a + 4 ≤ s.ram.length) :
    Calls Tryz.prog 46 #[.pointer (some ⟨p, 0, none⟩), .int .i64 18, .int .u32 a, .int .u32 v] W fun e W' => e = .returned (.tuple #[]) ∧ RefAt W' p b (next1 { s with ram := stV s.ram a v 4 }) ∧ Offs (b.l p) W W' := by
  have HF : Hid (RefAt W p b s) := h
  clear h
  go_enter Tryz.func46, Tryz.ntmps46
  go_wp2_with (go_at_call 78; refine (rwrite_4 _ p b s HF.out A a v v0 v1 ha).mono ?_; rintro e w1 ⟨rfl, h1, o1⟩; have c9 := h1.pc; have f9 := h1.fp)
  go_end0
  exact ⟨rfl, h1.put_pc A _, o1.put (by simp [RBl.l]) _⟩
def stOut (s : RSt) (a : Nat) (v : Int) : RSt := if (setR (dvR s) a v).2 then next1 (setR (dvR s) a v).1 else failR (setR (dvR s) a v).1 7 a
set_option maxHeartbeats 1000000 in
theorem store_out_18 (W : World) (p : Nat) (b : RBl) (s : RSt) (h : RefAt W p b s) (A : b.Apart p) (a : Nat) (v : Int) (ha : a < 4294967296) (ho : ¬ a + 4 ≤ s.ram.length)
    (CO : ∀ W', RefAt W' p b (dvR s) → ∀ c : Nat, c < 2 → Calls Tryz.prog 150 #[.pointer (some ⟨p, 0, none⟩), .int .i64 c, .int .u32 v] W' fun e W'' => e = .returned (.tuple #[]) ∧ RefAt W'' p b (complR (dvR s) c v) ∧ Offs (b.l p) W' W'') :
    Calls Tryz.prog 46 #[.pointer (some ⟨p, 0, none⟩), .int .i64 18, .int .u32 a, .int .u32 v] W fun e W' => e = .returned (.tuple #[]) ∧ RefAt W' p b (stOut s a v) ∧ Offs (b.l p) W W' := by
  have HR0 := rwrite_out_4 W p b s h A a ha ho v CO
  clear CO h ho ha
  obtain ⟨s', ok, hD⟩ : ∃ s' ok, setR (dvR s) a v = (s', ok) := ⟨_, _, rfl⟩
  rw [hD] at HR0
  have HE : Hid (stOut s a v = if ok then next1 s' else failR s' 7 a) := by unfold Hid stOut; rw [hD]
  clear hD
  cases ok
  · go_enter Tryz.func46, Tryz.ntmps46
    go_wp2_with (first | (go_at_call 78; refine HR0.mono ?_; rintro e w1 ⟨rfl, h1, o1⟩) | (go_at_call 23; refine (fails_any _ p b s' h1 A 7 (by decide) _).mono ?_; rintro e w2 ⟨rfl, h2, o2⟩))
    exact bodyPost_ret (v := .tuple #[]) (by simp [results, Tryz.results46, go_sem]) rfl ⟨rfl, by rw [HE.out]; exact h2, o1.trans o2⟩
  · go_enter Tryz.func46, Tryz.ntmps46
    go_wp2_with (go_at_call 78; refine HR0.mono ?_; rintro e w1 ⟨rfl, h1, o1⟩; have c9 := h1.pc; have f9 := h1.fp)
    go_end0
    exact ⟨rfl, by rw [HE.out]; exact h1.put_pc A _, o1.put (by simp [RBl.l]) _⟩
end Go.Proofs.YtfdokajjlkcdgaaGreatDoor
