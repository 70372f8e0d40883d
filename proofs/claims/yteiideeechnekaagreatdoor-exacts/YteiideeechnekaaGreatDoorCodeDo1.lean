/-
  The code's do: Lui, Auipc, jumps, Fence; what belongs to levels and control registers.
-/
import Derived.Test.YteiideeechnekaaGreatDoorCodeSmall
import Derived.Test.YteiideeechnekaaGreatDoorCodeReck
namespace Go.Proofs.YteiideeechnekaaGreatDoor
open Go.RowKit

theorem an_bd' (x : Int) (h0 : 0 ≤ x) (h1 : x < 4294967296) : 0 ≤ bits .andNot .u32 x 1 ∧ bits .andNot .u32 x 1 < 4294967296 := by
  rw [u32_andNot x 1 h0 h1 (by decide) (by decide)]
  have : x.toNat &&& (4294967295 - (1 : Int).toNat) ≤ x.toNat := Nat.and_le_left
  omega
structure Iok (rd r1 r2 : Nat) (imm : Int) : Prop where
  d : rd < 32
  s : r1 < 32
  t : r2 < 32
  i0 : 0 ≤ imm
  i1 : imm < 4294967296
structure Cok (c : CSt) : Prop where
  z : c.regs[0]?.getD 0 = 0
  x : ∀ i : Nat, 0 ≤ c.regs[i]?.getD 0 ∧ c.regs[i]?.getD 0 < 4294967296
  p0 : 0 ≤ c.pc
  p1 : c.pc < 4294967296
  m0 : 0 ≤ c.mode
  m3 : c.mode ≤ 3
/-- What a walk of do begins with. -/
structure Din (W : World) (x r : Nat) (c : CSt) (rd r1 r2 : Nat) (imm : Int) : Prop where
  h : CodeAt W x r c
  A : x ≠ r
  C : Cok c
  K : Iok rd r1 r2 imm
def CDo (W : World) (x r : Nat) (k : Int) (rd r1 r2 : Nat) (imm w : Int) (st : CSt) : Prop :=
  Calls Tryz.prog 81 #[.pointer (some ⟨x, 0, none⟩), .agg #[.int .i64 k, .int .i64 rd, .int .i64 r1, .int .i64 r2, .int .u32 imm], .int .u32 w] W fun e W' => e = .returned (.tuple #[]) ∧ CodeAt W' x r st ∧ Offs [x, r] W W'
def CSys (W : World) (x r : Nat) (c : CSt) (k : Int) (rd r1 r2 : Nat) (imm w : Int) (st : CSt) : Prop :=
  ∀ W', CodeAt W' x r c → Below W.heap.size W W' → Calls Tryz.prog 118 #[.pointer (some ⟨x, 0, none⟩), .agg #[.int .i64 k, .int .i64 rd, .int .i64 r1, .int .i64 r2, .int .u32 imm], .int .u32 w] W' fun e W'' => e = .returned (.tuple #[]) ∧ CodeAt W'' x r st ∧ Offs [x, r] W' W''
theorem Din.facts {W : World} {x r rd r1 r2 : Nat} {c : CSt} {imm : Int} (J : Din W x r c rd r1 r2 imm) : Hid (∀ o, CodeAt (W.alloc o) x r c) ∧ Hid (∀ o q, CodeAt ((W.alloc o).drewN q) x r c) ∧ Hid (∀ k q, At W ((W.alloc (.cells #[.int .i64 k, .int .i64 rd, .int .i64 r1, .int .i64 r2, .int .u32 imm] 72)).drewN q).drew x r W.heap.size c k rd r1 r2 imm) ∧ Hid (W.heap.size ∉ [x, r]) ∧ Hid (c.regs[0]?.getD 0 = 0) ∧ x ≠ r ∧ (rd < 32 ∧ (rd : Int) < 32) ∧ r1 < 32 ∧ r2 < 32 ∧ (0 ≤ imm ∧ imm < 4294967296) ∧ (0 ≤ c.regs[r1]?.getD 0 ∧ c.regs[r1]?.getD 0 < 4294967296) ∧ (0 ≤ c.regs[r2]?.getD 0 ∧ c.regs[r2]?.getD 0 < 4294967296) ∧ (0 ≤ c.pc ∧ c.pc < 4294967296) ∧ (0 ≤ c.mode ∧ c.mode ≤ 3) ∧
    (∀ o, (W.alloc o).cell? ⟨x, 32, none⟩ = some (.int .u32 c.pc)) ∧ (∀ o j, (W.alloc o).frozen? ⟨x, j, none⟩ = false) := by
  obtain ⟨h, A, C, K⟩ := J
  have HF0 : ∀ o, CodeAt (W.alloc o) x r c := fun o => h.below ((Below.refl W.heap.size W).alloc (Nat.le_refl _) o) h.lt.1 h.lt.2
  exact ⟨HF0, fun o q => (HF0 o).drawn q, fun k q => ⟨((HF0 _).drawn q).drawn 1, (Bx.new W k rd r1 r2 imm _).of rfl, (((Offs.refl _ _).new _).drawn q).drawn 1⟩, fun hk => by have := h.lt; simp at hk; omega, C.z, A, ⟨K.d, by have := K.d; omega⟩, K.s, K.t, ⟨K.i0, K.i1⟩, C.x r1, C.x r2, ⟨C.p0, C.p1⟩, ⟨C.m0, C.m3⟩, fun o => (HF0 o).pc, fun o => (HF0 o).fx⟩
set_option maxHeartbeats 4000000 in
set_option maxRecDepth 100000 in
theorem cdo_1 {W : World} {x r rd r1 r2 : Nat} {c : CSt} {imm : Int} (J : Din W x r c rd r1 r2 imm) (w : Int) : CDo W x r 1 rd r1 r2 imm w (resC c rd imm) := by
  obtain ⟨HF0, HF, HAT, HL, HZ, A, ⟨hd, hd'⟩, h1, h2, ⟨i0, i1⟩, xa, xb, ⟨p0, p1⟩, ⟨m0, m3⟩, c1, f1⟩ := J.facts
  clear J
  unfold CDo
  go_enter Tryz.func81, Tryz.ntmps81
  go_wp2_with (first | (go_at_call 110; (first | (refine (reg_any _ x r c (HF0.out _) HZ.out _ (by omega)).mono ?_) | (refine (reg_any _ x r c (HF.out _ _) HZ.out _ (by omega)).mono ?_)); rintro e w' ⟨rfl, q, rfl⟩))
  refine (result_c _ x r c (HF.out _ _) A rd hd _).mono ?_
  rintro e w3 ⟨rfl, h3, o3⟩
  go_wp2_with fail
  go_end0
  exact ⟨rfl, h3, (((Offs.refl _ _).new _).drawn _).trans o3⟩
set_option maxHeartbeats 4000000 in
set_option maxRecDepth 100000 in
theorem cdo_2 {W : World} {x r rd r1 r2 : Nat} {c : CSt} {imm : Int} (J : Din W x r c rd r1 r2 imm) (w : Int) : CDo W x r 2 rd r1 r2 imm w (resC c rd ((c.pc + imm) % 4294967296)) := by
  obtain ⟨HF0, HF, HAT, HL, HZ, A, ⟨hd, hd'⟩, h1, h2, ⟨i0, i1⟩, xa, xb, ⟨p0, p1⟩, ⟨m0, m3⟩, c1, f1⟩ := J.facts
  clear J
  unfold CDo
  go_enter Tryz.func81, Tryz.ntmps81
  go_wp2_with (first | (go_at_call 110; (first | (refine (reg_any _ x r c (HF0.out _) HZ.out _ (by omega)).mono ?_) | (refine (reg_any _ x r c (HF.out _ _) HZ.out _ (by omega)).mono ?_)); rintro e w' ⟨rfl, q, rfl⟩))
  refine (result_c _ x r c (HF.out _ _) A rd hd _).mono ?_
  rintro e w3 ⟨rfl, h3, o3⟩
  go_wp2_with fail
  go_end0
  exact ⟨rfl, h3, (((Offs.refl _ _).new _).drawn _).trans o3⟩
set_option maxHeartbeats 4000000 in
set_option maxRecDepth 100000 in
theorem cdo_3 {W : World} {x r rd r1 r2 : Nat} {c : CSt} {imm : Int} (J : Din W x r c rd r1 r2 imm) (w : Int) : CDo W x r 3 rd r1 r2 imm w (jumpC c rd ((c.pc + imm) % 4294967296)) := by
  obtain ⟨HF0, HF, HAT, HL, HZ, A, ⟨hd, hd'⟩, h1, h2, ⟨i0, i1⟩, xa, xb, ⟨p0, p1⟩, ⟨m0, m3⟩, c1, f1⟩ := J.facts
  clear J
  unfold CDo
  go_enter Tryz.func81, Tryz.ntmps81
  go_wp2_with (first | (go_at_call 110; (first | (refine (reg_any _ x r c (HF0.out _) HZ.out _ (by omega)).mono ?_) | (refine (reg_any _ x r c (HF.out _ _) HZ.out _ (by omega)).mono ?_)); rintro e w' ⟨rfl, q, rfl⟩))
  refine (jumpC_any _ x r c (HF.out _ _) A m0 m3 rd hd _ (by omega)).mono ?_
  rintro e w3 ⟨rfl, h3, o3⟩
  go_wp2_with fail
  go_end0
  exact ⟨rfl, h3, (((Offs.refl _ _).new _).drawn _).trans o3⟩
set_option maxHeartbeats 4000000 in
set_option maxRecDepth 100000 in
theorem cdo_4 {W : World} {x r rd r1 r2 : Nat} {c : CSt} {imm : Int} (J : Din W x r c rd r1 r2 imm) (w : Int) : CDo W x r 4 rd r1 r2 imm w (jumpC c rd (bits .andNot .u32 ((c.regs[r1]?.getD 0 + imm) % 4294967296) 1)) := by
  obtain ⟨HF0, HF, HAT, HL, HZ, A, ⟨hd, hd'⟩, h1, h2, ⟨i0, i1⟩, xa, xb, ⟨p0, p1⟩, ⟨m0, m3⟩, c1, f1⟩ := J.facts
  clear J
  unfold CDo
  go_enter Tryz.func81, Tryz.ntmps81
  go_wp2_with (first | (go_at_call 110; (first | (refine (reg_any _ x r c (HF0.out _) HZ.out _ (by omega)).mono ?_) | (refine (reg_any _ x r c (HF.out _ _) HZ.out _ (by omega)).mono ?_)); rintro e w' ⟨rfl, q, rfl⟩))
  refine (jumpC_any _ x r c (HF.out _ _) A m0 m3 rd hd _ (an_bd' _ (by omega) (by omega)).1).mono ?_
  rintro e w3 ⟨rfl, h3, o3⟩
  go_wp2_with fail
  go_end0
  exact ⟨rfl, h3, (((Offs.refl _ _).new _).drawn _).trans o3⟩
set_option maxHeartbeats 4000000 in
set_option maxRecDepth 100000 in
theorem cdo_38 {W : World} {x r rd r1 r2 : Nat} {c : CSt} {imm : Int} (J : Din W x r c rd r1 r2 imm) (w : Int) : CDo W x r 38 rd r1 r2 imm w ({ c with pc := (c.pc + 4) % 4294967296 }) := by
  obtain ⟨HF0, HF, HAT, HL, HZ, A, ⟨hd, hd'⟩, h1, h2, ⟨i0, i1⟩, xa, xb, ⟨p0, p1⟩, ⟨m0, m3⟩, c1, f1⟩ := J.facts
  clear J
  unfold CDo
  go_enter Tryz.func81, Tryz.ntmps81
  go_wp2_with (first | (go_at_call 110; (first | (refine (reg_any _ x r c (HF0.out _) HZ.out _ (by omega)).mono ?_) | (refine (reg_any _ x r c (HF.out _ _) HZ.out _ (by omega)).mono ?_)); rintro e w' ⟨rfl, q, rfl⟩))
  go_end0
  exact ⟨rfl, ((HF.out _ _)).put_pc A _, (((Offs.refl _ _).new _).drawn _).put (by simp) _⟩
set_option maxHeartbeats 4000000 in
set_option maxRecDepth 100000 in
theorem cdo_39 {W : World} {x r rd r1 r2 : Nat} {c : CSt} {imm : Int} (J : Din W x r c rd r1 r2 imm) (w : Int) (st : CSt) (SY : CSys W x r c 39 rd r1 r2 imm w st) : CDo W x r 39 rd r1 r2 imm w (st) := by
  obtain ⟨HF0, HF, HAT, HL, HZ, A, ⟨hd, hd'⟩, h1, h2, ⟨i0, i1⟩, xa, xb, ⟨p0, p1⟩, ⟨m0, m3⟩, c1, f1⟩ := J.facts
  have HSY : Hid (CSys W x r c 39 rd r1 r2 imm w st) := SY
  clear SY
  clear J
  unfold CDo
  go_enter Tryz.func81, Tryz.ntmps81
  go_wp2_with (first | (go_at_call 110; (first | (refine (reg_any _ x r c (HF0.out _) HZ.out _ (by omega)).mono ?_) | (refine (reg_any _ x r c (HF.out _ _) HZ.out _ (by omega)).mono ?_)); rintro e w' ⟨rfl, q, rfl⟩))
  refine (HSY.out _ (HF.out _ _) (below_drawn ((Below.refl _ _).alloc (Nat.le_refl _) _) _)).mono ?_
  rintro e w3 ⟨rfl, h3, o3⟩
  go_wp2_with fail
  go_end0
  exact ⟨rfl, h3, (((Offs.refl _ _).new _).drawn _).trans o3⟩
set_option maxHeartbeats 4000000 in
set_option maxRecDepth 100000 in
theorem cdo_40 {W : World} {x r rd r1 r2 : Nat} {c : CSt} {imm : Int} (J : Din W x r c rd r1 r2 imm) (w : Int) (st : CSt) (SY : CSys W x r c 40 rd r1 r2 imm w st) : CDo W x r 40 rd r1 r2 imm w (st) := by
  obtain ⟨HF0, HF, HAT, HL, HZ, A, ⟨hd, hd'⟩, h1, h2, ⟨i0, i1⟩, xa, xb, ⟨p0, p1⟩, ⟨m0, m3⟩, c1, f1⟩ := J.facts
  have HSY : Hid (CSys W x r c 40 rd r1 r2 imm w st) := SY
  clear SY
  clear J
  unfold CDo
  go_enter Tryz.func81, Tryz.ntmps81
  go_wp2_with (first | (go_at_call 110; (first | (refine (reg_any _ x r c (HF0.out _) HZ.out _ (by omega)).mono ?_) | (refine (reg_any _ x r c (HF.out _ _) HZ.out _ (by omega)).mono ?_)); rintro e w' ⟨rfl, q, rfl⟩))
  refine (HSY.out _ (HF.out _ _) (below_drawn ((Below.refl _ _).alloc (Nat.le_refl _) _) _)).mono ?_
  rintro e w3 ⟨rfl, h3, o3⟩
  go_wp2_with fail
  go_end0
  exact ⟨rfl, h3, (((Offs.refl _ _).new _).drawn _).trans o3⟩
set_option maxHeartbeats 4000000 in
set_option maxRecDepth 100000 in
theorem cdo_41 {W : World} {x r rd r1 r2 : Nat} {c : CSt} {imm : Int} (J : Din W x r c rd r1 r2 imm) (w : Int) (st : CSt) (SY : CSys W x r c 41 rd r1 r2 imm w st) : CDo W x r 41 rd r1 r2 imm w (st) := by
  obtain ⟨HF0, HF, HAT, HL, HZ, A, ⟨hd, hd'⟩, h1, h2, ⟨i0, i1⟩, xa, xb, ⟨p0, p1⟩, ⟨m0, m3⟩, c1, f1⟩ := J.facts
  have HSY : Hid (CSys W x r c 41 rd r1 r2 imm w st) := SY
  clear SY
  clear J
  unfold CDo
  go_enter Tryz.func81, Tryz.ntmps81
  go_wp2_with (first | (go_at_call 110; (first | (refine (reg_any _ x r c (HF0.out _) HZ.out _ (by omega)).mono ?_) | (refine (reg_any _ x r c (HF.out _ _) HZ.out _ (by omega)).mono ?_)); rintro e w' ⟨rfl, q, rfl⟩))
  refine (HSY.out _ (HF.out _ _) (below_drawn ((Below.refl _ _).alloc (Nat.le_refl _) _) _)).mono ?_
  rintro e w3 ⟨rfl, h3, o3⟩
  go_wp2_with fail
  go_end0
  exact ⟨rfl, h3, (((Offs.refl _ _).new _).drawn _).trans o3⟩
set_option maxHeartbeats 4000000 in
set_option maxRecDepth 100000 in
theorem cdo_42 {W : World} {x r rd r1 r2 : Nat} {c : CSt} {imm : Int} (J : Din W x r c rd r1 r2 imm) (w : Int) (st : CSt) (SY : CSys W x r c 42 rd r1 r2 imm w st) : CDo W x r 42 rd r1 r2 imm w (st) := by
  obtain ⟨HF0, HF, HAT, HL, HZ, A, ⟨hd, hd'⟩, h1, h2, ⟨i0, i1⟩, xa, xb, ⟨p0, p1⟩, ⟨m0, m3⟩, c1, f1⟩ := J.facts
  have HSY : Hid (CSys W x r c 42 rd r1 r2 imm w st) := SY
  clear SY
  clear J
  unfold CDo
  go_enter Tryz.func81, Tryz.ntmps81
  go_wp2_with (first | (go_at_call 110; (first | (refine (reg_any _ x r c (HF0.out _) HZ.out _ (by omega)).mono ?_) | (refine (reg_any _ x r c (HF.out _ _) HZ.out _ (by omega)).mono ?_)); rintro e w' ⟨rfl, q, rfl⟩))
  refine (HSY.out _ (HF.out _ _) (below_drawn ((Below.refl _ _).alloc (Nat.le_refl _) _) _)).mono ?_
  rintro e w3 ⟨rfl, h3, o3⟩
  go_wp2_with fail
  go_end0
  exact ⟨rfl, h3, (((Offs.refl _ _).new _).drawn _).trans o3⟩
set_option maxHeartbeats 4000000 in
set_option maxRecDepth 100000 in
theorem cdo_43 {W : World} {x r rd r1 r2 : Nat} {c : CSt} {imm : Int} (J : Din W x r c rd r1 r2 imm) (w : Int) (st : CSt) (SY : CSys W x r c 43 rd r1 r2 imm w st) : CDo W x r 43 rd r1 r2 imm w (st) := by
  obtain ⟨HF0, HF, HAT, HL, HZ, A, ⟨hd, hd'⟩, h1, h2, ⟨i0, i1⟩, xa, xb, ⟨p0, p1⟩, ⟨m0, m3⟩, c1, f1⟩ := J.facts
  have HSY : Hid (CSys W x r c 43 rd r1 r2 imm w st) := SY
  clear SY
  clear J
  unfold CDo
  go_enter Tryz.func81, Tryz.ntmps81
  go_wp2_with (first | (go_at_call 110; (first | (refine (reg_any _ x r c (HF0.out _) HZ.out _ (by omega)).mono ?_) | (refine (reg_any _ x r c (HF.out _ _) HZ.out _ (by omega)).mono ?_)); rintro e w' ⟨rfl, q, rfl⟩))
  refine (HSY.out _ (HF.out _ _) (below_drawn ((Below.refl _ _).alloc (Nat.le_refl _) _) _)).mono ?_
  rintro e w3 ⟨rfl, h3, o3⟩
  go_wp2_with fail
  go_end0
  exact ⟨rfl, h3, (((Offs.refl _ _).new _).drawn _).trans o3⟩
set_option maxHeartbeats 4000000 in
set_option maxRecDepth 100000 in
theorem cdo_44 {W : World} {x r rd r1 r2 : Nat} {c : CSt} {imm : Int} (J : Din W x r c rd r1 r2 imm) (w : Int) (st : CSt) (SY : CSys W x r c 44 rd r1 r2 imm w st) : CDo W x r 44 rd r1 r2 imm w (st) := by
  obtain ⟨HF0, HF, HAT, HL, HZ, A, ⟨hd, hd'⟩, h1, h2, ⟨i0, i1⟩, xa, xb, ⟨p0, p1⟩, ⟨m0, m3⟩, c1, f1⟩ := J.facts
  have HSY : Hid (CSys W x r c 44 rd r1 r2 imm w st) := SY
  clear SY
  clear J
  unfold CDo
  go_enter Tryz.func81, Tryz.ntmps81
  go_wp2_with (first | (go_at_call 110; (first | (refine (reg_any _ x r c (HF0.out _) HZ.out _ (by omega)).mono ?_) | (refine (reg_any _ x r c (HF.out _ _) HZ.out _ (by omega)).mono ?_)); rintro e w' ⟨rfl, q, rfl⟩))
  refine (HSY.out _ (HF.out _ _) (below_drawn ((Below.refl _ _).alloc (Nat.le_refl _) _) _)).mono ?_
  rintro e w3 ⟨rfl, h3, o3⟩
  go_wp2_with fail
  go_end0
  exact ⟨rfl, h3, (((Offs.refl _ _).new _).drawn _).trans o3⟩
set_option maxHeartbeats 4000000 in
set_option maxRecDepth 100000 in
theorem cdo_45 {W : World} {x r rd r1 r2 : Nat} {c : CSt} {imm : Int} (J : Din W x r c rd r1 r2 imm) (w : Int) (st : CSt) (SY : CSys W x r c 45 rd r1 r2 imm w st) : CDo W x r 45 rd r1 r2 imm w (st) := by
  obtain ⟨HF0, HF, HAT, HL, HZ, A, ⟨hd, hd'⟩, h1, h2, ⟨i0, i1⟩, xa, xb, ⟨p0, p1⟩, ⟨m0, m3⟩, c1, f1⟩ := J.facts
  have HSY : Hid (CSys W x r c 45 rd r1 r2 imm w st) := SY
  clear SY
  clear J
  unfold CDo
  go_enter Tryz.func81, Tryz.ntmps81
  go_wp2_with (first | (go_at_call 110; (first | (refine (reg_any _ x r c (HF0.out _) HZ.out _ (by omega)).mono ?_) | (refine (reg_any _ x r c (HF.out _ _) HZ.out _ (by omega)).mono ?_)); rintro e w' ⟨rfl, q, rfl⟩))
  refine (HSY.out _ (HF.out _ _) (below_drawn ((Below.refl _ _).alloc (Nat.le_refl _) _) _)).mono ?_
  rintro e w3 ⟨rfl, h3, o3⟩
  go_wp2_with fail
  go_end0
  exact ⟨rfl, h3, (((Offs.refl _ _).new _).drawn _).trans o3⟩
set_option maxHeartbeats 4000000 in
set_option maxRecDepth 100000 in
theorem cdo_46 {W : World} {x r rd r1 r2 : Nat} {c : CSt} {imm : Int} (J : Din W x r c rd r1 r2 imm) (w : Int) (st : CSt) (SY : CSys W x r c 46 rd r1 r2 imm w st) : CDo W x r 46 rd r1 r2 imm w (st) := by
  obtain ⟨HF0, HF, HAT, HL, HZ, A, ⟨hd, hd'⟩, h1, h2, ⟨i0, i1⟩, xa, xb, ⟨p0, p1⟩, ⟨m0, m3⟩, c1, f1⟩ := J.facts
  have HSY : Hid (CSys W x r c 46 rd r1 r2 imm w st) := SY
  clear SY
  clear J
  unfold CDo
  go_enter Tryz.func81, Tryz.ntmps81
  go_wp2_with (first | (go_at_call 110; (first | (refine (reg_any _ x r c (HF0.out _) HZ.out _ (by omega)).mono ?_) | (refine (reg_any _ x r c (HF.out _ _) HZ.out _ (by omega)).mono ?_)); rintro e w' ⟨rfl, q, rfl⟩))
  refine (HSY.out _ (HF.out _ _) (below_drawn ((Below.refl _ _).alloc (Nat.le_refl _) _) _)).mono ?_
  rintro e w3 ⟨rfl, h3, o3⟩
  go_wp2_with fail
  go_end0
  exact ⟨rfl, h3, (((Offs.refl _ _).new _).drawn _).trans o3⟩
set_option maxHeartbeats 4000000 in
set_option maxRecDepth 100000 in
theorem cdo_47 {W : World} {x r rd r1 r2 : Nat} {c : CSt} {imm : Int} (J : Din W x r c rd r1 r2 imm) (w : Int) (st : CSt) (SY : CSys W x r c 47 rd r1 r2 imm w st) : CDo W x r 47 rd r1 r2 imm w (st) := by
  obtain ⟨HF0, HF, HAT, HL, HZ, A, ⟨hd, hd'⟩, h1, h2, ⟨i0, i1⟩, xa, xb, ⟨p0, p1⟩, ⟨m0, m3⟩, c1, f1⟩ := J.facts
  have HSY : Hid (CSys W x r c 47 rd r1 r2 imm w st) := SY
  clear SY
  clear J
  unfold CDo
  go_enter Tryz.func81, Tryz.ntmps81
  go_wp2_with (first | (go_at_call 110; (first | (refine (reg_any _ x r c (HF0.out _) HZ.out _ (by omega)).mono ?_) | (refine (reg_any _ x r c (HF.out _ _) HZ.out _ (by omega)).mono ?_)); rintro e w' ⟨rfl, q, rfl⟩))
  refine (HSY.out _ (HF.out _ _) (below_drawn ((Below.refl _ _).alloc (Nat.le_refl _) _) _)).mono ?_
  rintro e w3 ⟨rfl, h3, o3⟩
  go_wp2_with fail
  go_end0
  exact ⟨rfl, h3, (((Offs.refl _ _).new _).drawn _).trans o3⟩
set_option maxHeartbeats 4000000 in
set_option maxRecDepth 100000 in
theorem cdo_48 {W : World} {x r rd r1 r2 : Nat} {c : CSt} {imm : Int} (J : Din W x r c rd r1 r2 imm) (w : Int) (st : CSt) (SY : CSys W x r c 48 rd r1 r2 imm w st) : CDo W x r 48 rd r1 r2 imm w (st) := by
  obtain ⟨HF0, HF, HAT, HL, HZ, A, ⟨hd, hd'⟩, h1, h2, ⟨i0, i1⟩, xa, xb, ⟨p0, p1⟩, ⟨m0, m3⟩, c1, f1⟩ := J.facts
  have HSY : Hid (CSys W x r c 48 rd r1 r2 imm w st) := SY
  clear SY
  clear J
  unfold CDo
  go_enter Tryz.func81, Tryz.ntmps81
  go_wp2_with (first | (go_at_call 110; (first | (refine (reg_any _ x r c (HF0.out _) HZ.out _ (by omega)).mono ?_) | (refine (reg_any _ x r c (HF.out _ _) HZ.out _ (by omega)).mono ?_)); rintro e w' ⟨rfl, q, rfl⟩))
  refine (HSY.out _ (HF.out _ _) (below_drawn ((Below.refl _ _).alloc (Nat.le_refl _) _) _)).mono ?_
  rintro e w3 ⟨rfl, h3, o3⟩
  go_wp2_with fail
  go_end0
  exact ⟨rfl, h3, (((Offs.refl _ _).new _).drawn _).trans o3⟩
set_option maxHeartbeats 4000000 in
set_option maxRecDepth 100000 in
theorem cdo_49 {W : World} {x r rd r1 r2 : Nat} {c : CSt} {imm : Int} (J : Din W x r c rd r1 r2 imm) (w : Int) (st : CSt) (SY : CSys W x r c 49 rd r1 r2 imm w st) : CDo W x r 49 rd r1 r2 imm w (st) := by
  obtain ⟨HF0, HF, HAT, HL, HZ, A, ⟨hd, hd'⟩, h1, h2, ⟨i0, i1⟩, xa, xb, ⟨p0, p1⟩, ⟨m0, m3⟩, c1, f1⟩ := J.facts
  have HSY : Hid (CSys W x r c 49 rd r1 r2 imm w st) := SY
  clear SY
  clear J
  unfold CDo
  go_enter Tryz.func81, Tryz.ntmps81
  go_wp2_with (first | (go_at_call 110; (first | (refine (reg_any _ x r c (HF0.out _) HZ.out _ (by omega)).mono ?_) | (refine (reg_any _ x r c (HF.out _ _) HZ.out _ (by omega)).mono ?_)); rintro e w' ⟨rfl, q, rfl⟩))
  refine (HSY.out _ (HF.out _ _) (below_drawn ((Below.refl _ _).alloc (Nat.le_refl _) _) _)).mono ?_
  rintro e w3 ⟨rfl, h3, o3⟩
  go_wp2_with fail
  go_end0
  exact ⟨rfl, h3, (((Offs.refl _ _).new _).drawn _).trans o3⟩
end Go.Proofs.YteiideeechnekaaGreatDoor
