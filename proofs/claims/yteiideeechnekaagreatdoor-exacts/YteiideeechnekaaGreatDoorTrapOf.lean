/-
  The code's computer out of the document's; what holds of every state on the way; what both tell.
-/
import Derived.Test.YteiideeechnekaaGreatDoorTrapBits
import Derived.Test.YteiideeechnekaaGreatDoorCodeLook
import Derived.Test.YteiideeechnekaaGreatDoorRefLook
import Derived.Test.YteiideeechnekaaGreatDoorMach
namespace Go.Proofs.YteiideeechnekaaGreatDoor
open Go.RowKit

def cOf (s : RSt) : CSt :=
  { regs := s.x, pc := s.pc, mode := s.mode, asleep := s.asleep, mstatus := msV s, medeleg := s.medeleg, mideleg := s.mideleg, mie := s.mie, written := s.soft, stvec := s.stvec, sscratch := s.sscratch, sepc := s.sepc, scause := s.scause, stval := s.stval, mtvec := s.mtvec, mscratch := s.mscratch, mepc := s.mepc, mcause := s.mcause, mtval := s.mtval, ram := s.ram, msip := s.msip, mtimecmp := s.mtimecmp, mtime := s.mtime, prio := s.src.map (·.prio), pend := mk (fun i => (srcAt s i).waits) 7, served := mk (fun i => (srcAt s i).served) 7, level := mk (fun i => (srcAt s i).high) 7, en0 := enAt s 0, en1 := enAt s 1, li0 := liAt s 0, li1 := liAt s 1 }

theorem and_four {v : Int} (h : W32 v) : bits .and .u32 v 4294967292 % 4 = 0 := by
  rw [u32_and v 4294967292 h.1 h.2 (by decide) (by decide)]
  have e : (v.toNat &&& (4294967292 : Int).toNat) % 2 ^ 2 = 0 := by
    rw [← Nat.and_two_pow_sub_one_eq_mod, Nat.and_assoc, show ((4294967292 : Int).toNat &&& (2 ^ 2 - 1)) = 0 from rfl, Nat.and_zero]
  omega

/-- What holds of the devices. -/
structure Dvs (s : RSt) : Prop where
  nsrc : s.src.length = 8
  nen : s.enable.length = 2
  nli : s.limit.length = 2
  msip : s.msip = 0 ∨ s.msip = 1
  en0 : W32 (enAt s 0)
  en1 : W32 (enAt s 1)
  li0 : W32 (liAt s 0)
  li1 : W32 (liAt s 1)
  mtc : W32 s.mtimecmp
  mtm : W32 s.mtime
  pr : ∀ i, W32 (srcAt s i).prio
  p0 : (srcAt s 0).prio = 0
/-- The devices as New leaves them, and none was asked for. -/
structure Nw (s : RSt) : Prop where
  msip : s.msip = 0
  mtimecmp : s.mtimecmp = 4294967295
  mtime : s.mtime = 0
  src : s.src = List.replicate 8 ⟨false, false, false, 0⟩
  enable : s.enable = [0, 0]
  limit : s.limit = [0, 0]
  device : s.device = 0
/-- The devices are not touched. -/
def Still (s s' : RSt) : Prop := s'.msip = s.msip ∧ s'.mtimecmp = s.mtimecmp ∧ s'.mtime = s.mtime ∧ s'.src = s.src ∧ s'.enable = s.enable ∧ s'.limit = s.limit ∧ s'.device = s.device
theorem Nw.still {s s' : RSt} (h : Nw s) (e : Still s s') : Nw s' := by
  obtain ⟨a, b, c, d, f, g, i⟩ := e
  exact ⟨a.trans h.msip, b.trans h.mtimecmp, c.trans h.mtime, d.trans h.src, f.trans h.enable, g.trans h.limit, i.trans h.device⟩
theorem Still.refl (s : RSt) : Still s s := ⟨rfl, rfl, rfl, rfl, rfl, rfl, rfl⟩
theorem Still.trans {a b c : RSt} (h : Still a b) (k : Still b c) : Still a c :=
  ⟨k.1.trans h.1, k.2.1.trans h.2.1, k.2.2.1.trans h.2.2.1, k.2.2.2.1.trans h.2.2.2.1, k.2.2.2.2.1.trans h.2.2.2.2.1, k.2.2.2.2.2.1.trans h.2.2.2.2.2.1, k.2.2.2.2.2.2.trans h.2.2.2.2.2.2⟩
structure Gd (s : RSt) : Prop where
  z : s.x[0]?.getD 0 = 0
  x : ∀ i : Nat, 0 ≤ s.x[i]?.getD 0 ∧ s.x[i]?.getD 0 < 4294967296
  pc : W32 s.pc
  p4 : s.pc % 4 = 0
  n4 : 4 ≤ s.ram.length
  b : Byt s.ram
  mode : s.mode = 0 ∨ s.mode = 1 ∨ s.mode = 3
  spp : s.spp = 0 ∨ s.spp = 1
  mpp : s.mpp = 0 ∨ s.mpp = 1 ∨ s.mpp = 3
  medeleg : W32 s.medeleg
  mideleg : W32 s.mideleg
  mie : W32 s.mie
  soft : W32 s.soft
  stvec : W32 s.stvec
  sscratch : W32 s.sscratch
  sepc : W32 s.sepc
  scause : W32 s.scause
  stval : W32 s.stval
  mtvec : W32 s.mtvec
  mscratch : W32 s.mscratch
  mepc : W32 s.mepc
  mcause : W32 s.mcause
  mtval : W32 s.mtval
  s4 : s.sepc % 4 = 0
  m4 : s.mepc % 4 = 0
  mb : ∀ i, isB s.mie i = true → i = 1 ∨ i = 3 ∨ i = 5 ∨ i = 7 ∨ i = 9 ∨ i = 11
  db : ∀ i, isB s.mideleg i = true → i = 1 ∨ i = 5 ∨ i = 9
  dv : Dvs s

theorem Gd.fine {s : RSt} (h : Gd s) : Fine s := by
  have := h.spp
  have := h.mpp
  exact ⟨by omega, by omega, by omega, by omega⟩
theorem Gd.ms {s : RSt} (h : Gd s) : W32 (msV s) := by
  have o : ∀ (b : Bool) (n : Nat), n < 4294967296 → W32 (oneV b n) := fun b n hn => by unfold oneV; split; exact W32.lit hn; exact W32.lit (n := 0) (by decide)
  have h1 : W32 (s.spp * 256) := by have := h.spp; unfold W32; omega
  have h2 : W32 (s.mpp * 2048) := by have := h.mpp; unfold W32; omega
  exact (((((((o s.sie 2 (by decide)).or (o s.mieb 8 (by decide))).or (o s.spie 32 (by decide))).or (o s.mpie 128 (by decide))).or (o s.tw 2097152 (by decide))).or (o s.tsr 4194304 (by decide))).or h1).or h2

theorem or_zero (a : Int) (h : W32 a) : bits .or .u32 a 0 = a := by
  rw [u32_or a 0 h.1 h.2 (by decide) (by decide)]
  simp
  have := h.1
  omega
def mk7 (a b c d e f g : Bool) : Int :=
  let s (y : Bool) (p m : Int) : Int := if y then bits .or .u32 p m else p
  s g (s f (s e (s d (s c (s b (s a 0 2) 4) 8) 16) 32) 64) 128
theorem mk_eq (f : Nat → Bool) : mk f 7 = mk7 (f 1) (f 2) (f 3) (f 4) (f 5) (f 6) (f 7) := rfl
theorem mk7_bits : ∀ a b c d e f g : Bool, (0 ≤ mk7 a b c d e f g ∧ mk7 a b c d e f g < 256) ∧ isB (mk7 a b c d e f g) 1 = a ∧ isB (mk7 a b c d e f g) 2 = b ∧ isB (mk7 a b c d e f g) 3 = c ∧ isB (mk7 a b c d e f g) 4 = d ∧ isB (mk7 a b c d e f g) 5 = e ∧ isB (mk7 a b c d e f g) 6 = f ∧ isB (mk7 a b c d e f g) 7 = g := by decide +kernel
theorem mk_w (f : Nat → Bool) : W32 (mk f 7) := by
  rw [mk_eq]
  have := (mk7_bits (f 1) (f 2) (f 3) (f 4) (f 5) (f 6) (f 7)).1
  unfold W32
  omega
theorem mk_bit (f : Nat → Bool) (j : Nat) (h1 : 1 ≤ j) (h8 : j < 8) : isB (mk f 7) j = f j := by
  rw [mk_eq]
  obtain ⟨_, b1, b2, b3, b4, b5, b6, b7⟩ := mk7_bits (f 1) (f 2) (f 3) (f 4) (f 5) (f 6) (f 7)
  have : j = 1 ∨ j = 2 ∨ j = 3 ∨ j = 4 ∨ j = 5 ∨ j = 6 ∨ j = 7 := by omega
  rcases this with rfl | rfl | rfl | rfl | rfl | rfl | rfl <;> assumption
theorem isB_and (a b : Int) (ha : W32 a) (hb : W32 b) (j : Nat) : isB (bits .and .u32 a b) j = (isB a j && isB b j) := by
  obtain ⟨m, rfl⟩ : ∃ n : Nat, a = n := ⟨a.toNat, by have := ha.1; omega⟩
  obtain ⟨n, rfl⟩ : ∃ n : Nat, b = n := ⟨b.toNat, by have := hb.1; omega⟩
  have h1 : m < 4294967296 := by have := ha.2; omega
  have h2 : n < 4294967296 := by have := hb.2; omega
  rw [u32_and_nat m n h1 h2, isB_tb _ j (Nat.lt_of_le_of_lt Nat.and_le_left h1), isB_tb m j h1, isB_tb n j h2, Nat.testBit_and]
theorem isB_or (a b : Int) (ha : W32 a) (hb : W32 b) (j : Nat) : isB (bits .or .u32 a b) j = (isB a j || isB b j) := by
  obtain ⟨m, rfl⟩ : ∃ n : Nat, a = n := ⟨a.toNat, by have := ha.1; omega⟩
  obtain ⟨n, rfl⟩ : ∃ n : Nat, b = n := ⟨b.toNat, by have := hb.1; omega⟩
  have h1 : m < 4294967296 := by have := ha.2; omega
  have h2 : n < 4294967296 := by have := hb.2; omega
  rw [u32_or_nat m n h1 h2, isB_tb _ j (Nat.or_lt_two_pow (n := 32) h1 h2), isB_tb m j h1, isB_tb n j h2, Nat.testBit_or]
theorem isB_andNot (a b : Int) (ha : W32 a) (hb : W32 b) (j : Nat) : isB (bits .andNot .u32 a b) j = (isB a j && !isB b j) := by
  obtain ⟨m, rfl⟩ : ∃ n : Nat, a = n := ⟨a.toNat, by have := ha.1; omega⟩
  obtain ⟨n, rfl⟩ : ∃ n : Nat, b = n := ⟨b.toNat, by have := hb.1; omega⟩
  have h1 : m < 4294967296 := by have := ha.2; omega
  have h2 : n < 4294967296 := by have := hb.2; omega
  rw [u32_andNot (m : Int) (n : Int) (by omega) (by omega) (by omega) (by omega)]
  simp only [Int.toNat_natCast]
  rw [isB_tb _ j (Nat.lt_of_le_of_lt Nat.and_le_left h1), isB_tb m j h1, isB_tb n j h2, Nat.testBit_and]
  by_cases hj : j < 32
  · rw [show 4294967295 - n = 2 ^ 32 - (n + 1) by omega, Nat.testBit_two_pow_sub_succ h2]
    simp [hj]
  · have : m.testBit j = false := Nat.testBit_lt_two_pow (Nat.lt_of_lt_of_le h1 (Nat.pow_le_pow_right (n := 2) (i := 32) (by decide) (by omega)))
    rw [this, Bool.false_and, Bool.false_and]
theorem isB_zero (j : Nat) : isB 0 j = false := by
  rw [show (0 : Int) = ((0 : Nat) : Int) from rfl, isB_tb 0 j (by decide), Nat.zero_testBit]
theorem isB_big {n : Nat} (hn : n < 4096) (i : Nat) (h : isB (n : Int) i = true) : i < 12 := by
  rw [isB_tb n i (by omega)] at h
  apply Classical.byContradiction
  intro hi
  rw [Nat.testBit_lt_two_pow (Nat.lt_of_lt_of_le hn (Nat.pow_le_pow_right (n := 2) (i := 12) (by decide) (by omega)))] at h
  cases h
theorem in_2730 : ∀ i : Fin 12, isB 2730 i.val = true → i.val = 1 ∨ i.val = 3 ∨ i.val = 5 ∨ i.val = 7 ∨ i.val = 9 ∨ i.val = 11 := by decide
theorem in_546 : ∀ i : Fin 12, isB 546 i.val = true → i.val = 1 ∨ i.val = 5 ∨ i.val = 9 := by decide
theorem and_in {v : Int} (hv : W32 v) (i : Nat) (h : isB (bits .and .u32 v 2730) i = true) : i = 1 ∨ i = 3 ∨ i = 5 ∨ i = 7 ∨ i = 9 ∨ i = 11 := by
  rw [isB_and v 2730 hv (W32.lit (n := 2730) (by decide)), Bool.and_eq_true] at h
  exact in_2730 ⟨i, isB_big (n := 2730) (by decide) i h.2⟩ h.2
theorem and_in2 {v : Int} (hv : W32 v) (i : Nat) (h : isB (bits .and .u32 v 546) i = true) : i = 1 ∨ i = 5 ∨ i = 9 := by
  rw [isB_and v 546 hv (W32.lit (n := 546) (by decide)), Bool.and_eq_true] at h
  exact in_546 ⟨i, isB_big (n := 546) (by decide) i h.2⟩ h.2
theorem mix_in {a v m : Int} (ha : W32 a) (hv : W32 v) (hm : W32 m) (hb : ∀ i, isB a i = true → i = 1 ∨ i = 3 ∨ i = 5 ∨ i = 7 ∨ i = 9 ∨ i = 11) (hd : ∀ i, isB m i = true → i = 1 ∨ i = 5 ∨ i = 9) (i : Nat) (h : isB (bits .or .u32 (bits .andNot .u32 a m) (bits .and .u32 v m)) i = true) : i = 1 ∨ i = 3 ∨ i = 5 ∨ i = 7 ∨ i = 9 ∨ i = 11 := by
  rw [isB_or _ _ (ha.andNot hm) (hv.and hm), isB_andNot a m ha hm, isB_and v m hv hm] at h
  simp only [Bool.or_eq_true, Bool.and_eq_true] at h
  rcases h with h | h
  · exact hb i h.1
  · have := hd i h.2
    omega
theorem or_rc (a b c : Int) (ha : W32 a) (hb : W32 b) (hc : W32 c) : bits .or .u32 (bits .or .u32 a b) c = bits .or .u32 (bits .or .u32 a c) b := by
  obtain ⟨l, rfl⟩ : ∃ n : Nat, a = n := ⟨a.toNat, by have := ha.1; omega⟩
  obtain ⟨m, rfl⟩ : ∃ n : Nat, b = n := ⟨b.toNat, by have := hb.1; omega⟩
  obtain ⟨n, rfl⟩ : ∃ n : Nat, c = n := ⟨c.toNat, by have := hc.1; omega⟩
  have h1 : l < 2 ^ 32 := by have := ha.2; omega
  have h2 : m < 2 ^ 32 := by have := hb.2; omega
  have h3 : n < 2 ^ 32 := by have := hc.2; omega
  rw [u32_or_nat l m h1 h2, u32_or_nat l n h1 h3, u32_or_nat _ n (Nat.or_lt_two_pow h1 h2) h3, u32_or_nat _ m (Nat.or_lt_two_pow h1 h3) h2, Nat.or_assoc, Nat.or_comm m n, ← Nat.or_assoc]
theorem orIf_eq (b : Bool) (p m : Int) (hp : W32 p) : orIf b p m = bits .or .u32 p (oneV b m) := by
  unfold orIf oneV
  cases b
  · exact (or_zero p hp).symm
  · rfl
theorem one_w (b : Bool) (n : Nat) (hn : n < 4294967296) : W32 (oneV b n) := by unfold oneV; split; exact W32.lit hn; exact W32.lit (n := 0) (by decide)
theorem ask_eq (s : RSt) (c : Nat) (hn : s.src.length = 8) (he : W32 (enAt s c)) : askC (mk (fun i => (srcAt s i).waits) 7) (enAt s c) (liAt s c) (s.src.map (·.prio)) = askR s c := by
  have e : ∀ j, 1 ≤ j → j < 8 → askB (mk (fun i => (srcAt s i).waits) 7) (enAt s c) (liAt s c) (s.src.map (·.prio)) j = askRB s c j := fun j h1 h8 => by
    unfold askB askRB
    have p : (s.src.map (·.prio))[j]?.getD 0 = (srcAt s j).prio := by
      unfold srcAt
      rw [List.getElem?_map]
      have : j < s.src.length := by omega
      simp [this]
    have b := isB_and _ _ (mk_w (fun i => (srcAt s i).waits)) he j
    rw [mk_bit _ j h1 h8] at b
    rw [p, show (bits .and .u32 (bits .and .u32 (mk (fun i => (srcAt s i).waits) 7) (enAt s c) / 2 ^ j) 1 == 1) = ((srcAt s j).waits && isB (enAt s c) j) from b]
    rfl
  unfold askC askR
  rw [Bool.eq_iff_iff, List.any_eq_true, List.any_eq_true]
  constructor
  · rintro ⟨i, hi, h⟩
    have hi' : i < 7 := by simpa using hi
    exact ⟨i, hi, by rw [← e (i + 1) (by omega) (by omega)]; exact h⟩
  · rintro ⟨i, hi, h⟩
    have hi' : i < 7 := by simpa using hi
    exact ⟨i, hi, by rw [e (i + 1) (by omega) (by omega)]; exact h⟩
theorem mip_dok {s : RSt} (h : Dvs s) (hs : W32 s.soft) : mipC (cOf s) = mipR s := by
  have m : (bits .and .u32 s.msip 1 == 1) = (s.msip == 1) := by rcases h.msip with e | e <;> rw [e] <;> rfl
  unfold mipC
  show orIf (askC (mk (fun i => (srcAt s i).waits) 7) (enAt s 1) (liAt s 1) (s.src.map (·.prio))) (orIf (askC (mk (fun i => (srcAt s i).waits) 7) (enAt s 0) (liAt s 0) (s.src.map (·.prio))) (orIf (decide (s.mtimecmp ≤ s.mtime)) (orIf (bits .and .u32 s.msip 1 == 1) s.soft 8) 128) 2048) 512 = mipR s
  rw [ask_eq s 0 h.nsrc h.en0, ask_eq s 1 h.nsrc h.en1, m]
  unfold mipR
  have o1 : W32 (oneV (s.msip == 1) 8) := one_w _ 8 (by decide)
  have o2 : W32 (oneV (decide (s.mtimecmp ≤ s.mtime)) 128) := one_w _ 128 (by decide)
  have o3 : W32 (oneV (askR s 0) 2048) := one_w _ 2048 (by decide)
  have o4 : W32 (oneV (askR s 1) 512) := one_w _ 512 (by decide)
  have a1 := hs.or o1
  have a2 := a1.or o2
  have a3 := a2.or o3
  have x3 := hs.or o3
  have x4 := x3.or o4
  rw [orIf_eq _ _ 8 hs, orIf_eq _ _ 128 a1, orIf_eq _ _ 2048 a2, orIf_eq _ _ 512 a3]
  rw [or_rc _ _ _ a1 o2 o3, or_rc _ _ _ hs o1 o3, or_rc _ _ _ (x3.or o1) o2 o4, or_rc _ _ _ x3 o1 o4]
theorem look_dok {s : RSt} (h : Dvs s) (hs : W32 s.soft) : lookC (cOf s) = lookR s := by
  have e2 := mip_dok h hs
  have c : csrsC (cOf s) = csrsR s := by
    unfold csrsC csrsR
    rw [e2]
    rfl
  unfold lookC lookR
  rw [c]
  show (⟨s.x, s.pc, s.mode, s.asleep, csrsR s, bytesOf s.ram, [s.msip, s.mtimecmp, s.mtime], s.src.map (·.prio), mk (fun i => (srcAt s i).waits) 7, mk (fun i => (srcAt s i).served) 7, mk (fun i => (srcAt s i).high) 7, [enAt s 0, enAt s 1], [liAt s 0, liAt s 1]⟩ : LSt) = _
  rw [show [enAt s 0, enAt s 1] = s.enable from (two_of s.enable h.nen).symm, show [liAt s 0, liAt s 1] = s.limit from (two_of s.limit h.nli).symm]
theorem Gd.mip {s : RSt} (h : Gd s) : W32 (mipR s) := by
  have o : ∀ (b : Bool) (n : Nat), n < 4294967296 → W32 (oneV b n) := fun b n hn => one_w b n hn
  exact (((h.soft.or (o _ 2048 (by decide))).or (o _ 512 (by decide))).or (o _ 8 (by decide))).or (o _ 128 (by decide))
theorem Gd.csrs {s : RSt} (h : Gd s) : csrsC (cOf s) = csrsR s := by
  have e2 := mip_dok h.dv h.soft
  unfold csrsC csrsR
  rw [e2]
  rfl
theorem Gd.look {s : RSt} (h : Gd s) : lookC (cOf s) = lookR s := look_dok h.dv h.soft
end Go.Proofs.YteiideeechnekaaGreatDoor
