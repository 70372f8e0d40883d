/-
  The devices in plain numbers, source by source.
-/
import Derived.Test.YteiideeechnekaaCodeOut
import Derived.Test.YteiideeechnekaaCodeNew
namespace Go.Proofs.Yteiideeechnekaa
open Go.RowKit

structure Srce where
  high : Bool
  waits : Bool
  served : Bool
  prio : Int
structure RSt where
  x : List Int
  ram : List Int
  src : List Srce
  enable : List Int
  limit : List Int
  pc : Int
  mode : Int
  asleep : Bool
  sie : Bool
  mieb : Bool
  spie : Bool
  mpie : Bool
  spp : Int
  mpp : Int
  tw : Bool
  tsr : Bool
  medeleg : Int
  mideleg : Int
  mie : Int
  soft : Int
  mtvec : Int
  stvec : Int
  mscratch : Int
  sscratch : Int
  mepc : Int
  sepc : Int
  mcause : Int
  scause : Int
  mtval : Int
  stval : Int
  msip : Int
  mtimecmp : Int
  mtime : Int
  traps : Int
  system : Int
  device : Int
def srcAt (s : RSt) (i : Nat) : Srce := (s.src[i]?).getD ⟨false, false, false, 0⟩
def oneV (y : Bool) (n : Int) : Int := if y then n else 0
def msV (s : RSt) : Int :=
  bits .or .u32 (bits .or .u32 (bits .or .u32 (bits .or .u32 (bits .or .u32 (bits .or .u32 (bits .or .u32 (oneV s.sie 2) (oneV s.mieb 8)) (oneV s.spie 32)) (oneV s.mpie 128)) (oneV s.tw 2097152)) (oneV s.tsr 4194304)) (s.spp * 256)) (s.mpp * 2048)

def enAt (s : RSt) (c : Nat) : Int := s.enable[c]?.getD 0
def liAt (s : RSt) (c : Nat) : Int := s.limit[c]?.getD 0
def isB (v : Int) (i : Nat) : Bool := bits .and .u32 (v / 2 ^ i) 1 == 1
def mk (f : Nat → Bool) : Nat → Int
  | 0 => 0
  | n + 1 => if f (n + 1) then bits .or .u32 (mk f n) (2 ^ (n + 1) % 4294967296) else mk f n
theorem isB_tb (n i : Nat) (h : n < 4294967296) : isB (n : Int) i = n.testBit i := by
  have e : ((n : Int) / 2 ^ i) = ((n / 2 ^ i : Nat) : Int) := by simp
  unfold isB
  rw [e, show (1 : Int) = ((1 : Nat) : Int) from rfl, u32_and_nat _ 1 (Nat.lt_of_le_of_lt (Nat.div_le_self _ _) h) (by decide)]
  rw [Nat.testBit, Nat.shiftRight_eq_div_pow, Nat.and_comm (n / 2 ^ i) 1]
  have : 1 &&& n / 2 ^ i = 0 ∨ 1 &&& n / 2 ^ i = 1 := by
    rw [Nat.and_comm, Nat.and_one_is_mod]; omega
  rcases this with h | h <;> rw [h] <;> rfl
theorem bit_div (n i : Nat) : n / 2 ^ i % 2 = (n.testBit i).toNat := by
  rw [Nat.testBit_eq_decide_div_mod_eq]
  have : n / 2 ^ i % 2 = 0 ∨ n / 2 ^ i % 2 = 1 := by omega
  rcases this with h | h <;> rw [h] <;> rfl
theorem and_2pow (n i : Nat) : n &&& 2 ^ i = (n.testBit i).toNat * 2 ^ i := by
  apply Nat.eq_of_testBit_eq
  intro k
  rw [Nat.testBit_and, Nat.testBit_two_pow]
  by_cases e : i = k
  · subst e
    cases h : n.testBit i <;> simp
  · cases h : n.testBit i <;> simp [e]
def mixV (old v mask : Int) : Int := bits .or .u32 (bits .andNot .u32 old mask) (bits .and .u32 v mask)
def W32 (v : Int) : Prop := 0 ≤ v ∧ v < 4294967296
theorem W32.and {a b : Int} (ha : W32 a) (hb : W32 b) : W32 (bits .and .u32 a b) := by
  unfold W32
  rw [u32_and a b ha.1 ha.2 hb.1 hb.2]
  have : a.toNat &&& b.toNat ≤ a.toNat := Nat.and_le_left
  have := ha.1
  have := ha.2
  omega
theorem W32.or {a b : Int} (ha : W32 a) (hb : W32 b) : W32 (bits .or .u32 a b) := by
  unfold W32
  rw [u32_or a b ha.1 ha.2 hb.1 hb.2]
  have := Nat.or_lt_two_pow (n := 32) (x := a.toNat) (y := b.toNat) (by have := ha.1; have := ha.2; omega) (by have := hb.1; have := hb.2; omega)
  omega
theorem W32.andNot {a b : Int} (ha : W32 a) (hb : W32 b) : W32 (bits .andNot .u32 a b) := by
  unfold W32
  rw [u32_andNot a b ha.1 ha.2 hb.1 hb.2]
  have : a.toNat &&& (4294967295 - b.toNat) ≤ a.toNat := Nat.and_le_left
  have := ha.1
  have := ha.2
  omega
theorem W32.mix {a b c : Int} (ha : W32 a) (hb : W32 b) (hc : W32 c) : W32 (mixV a b c) := (ha.andNot hc).or (hb.and hc)
theorem W32.lit {n : Nat} (h : n < 4294967296) : W32 (n : Int) := ⟨by omega, by omega⟩
def cOf (s : RSt) : CSt :=
  { regs := s.x, pc := s.pc, mode := s.mode, asleep := s.asleep, mstatus := msV s, medeleg := s.medeleg, mideleg := s.mideleg, mie := s.mie, written := s.soft, stvec := s.stvec, sscratch := s.sscratch, sepc := s.sepc, scause := s.scause, stval := s.stval, mtvec := s.mtvec, mscratch := s.mscratch, mepc := s.mepc, mcause := s.mcause, mtval := s.mtval, ram := s.ram, msip := s.msip, mtimecmp := s.mtimecmp, mtime := s.mtime, prio := s.src.map (·.prio), pend := mk (fun i => (srcAt s i).waits) 7, served := mk (fun i => (srcAt s i).served) 7, level := mk (fun i => (srcAt s i).high) 7, en0 := enAt s 0, en1 := enAt s 1, li0 := liAt s 0, li1 := liAt s 1 }

/-- What holds of the devices. -/
structure Dvs (s : RSt) : Prop where
  nsrc : s.src.length = 8
  nen : s.enable.length = 2
  nli : s.limit.length = 2
  msip : s.msip = 0 ∨ s.msip = 1
  en0 : W32 (enAt s 0)
  en1 : W32 (enAt s 1)
  li0 : W32 (liAt s 0)
  li1 : W32 (liAt s 1)
  mtc : W32 s.mtimecmp
  mtm : W32 s.mtime
  pr : ∀ i, W32 (srcAt s i).prio
  p0 : (srcAt s 0).prio = 0
theorem or_zero (a : Int) (h : W32 a) : bits .or .u32 a 0 = a := by
  rw [u32_or a 0 h.1 h.2 (by decide) (by decide)]
  simp
  have := h.1
  omega
def mk7 (a b c d e f g : Bool) : Int :=
  let s (y : Bool) (p m : Int) : Int := if y then bits .or .u32 p m else p
  s g (s f (s e (s d (s c (s b (s a 0 2) 4) 8) 16) 32) 64) 128
theorem mk_eq (f : Nat → Bool) : mk f 7 = mk7 (f 1) (f 2) (f 3) (f 4) (f 5) (f 6) (f 7) := rfl
theorem mk7_bits : ∀ a b c d e f g : Bool, (0 ≤ mk7 a b c d e f g ∧ mk7 a b c d e f g < 256) ∧ isB (mk7 a b c d e f g) 1 = a ∧ isB (mk7 a b c d e f g) 2 = b ∧ isB (mk7 a b c d e f g) 3 = c ∧ isB (mk7 a b c d e f g) 4 = d ∧ isB (mk7 a b c d e f g) 5 = e ∧ isB (mk7 a b c d e f g) 6 = f ∧ isB (mk7 a b c d e f g) 7 = g := by decide +kernel
theorem mk_w (f : Nat → Bool) : W32 (mk f 7) := by
  rw [mk_eq]
  have := (mk7_bits (f 1) (f 2) (f 3) (f 4) (f 5) (f 6) (f 7)).1
  unfold W32
  omega
theorem mk_bit (f : Nat → Bool) (j : Nat) (h1 : 1 ≤ j) (h8 : j < 8) : isB (mk f 7) j = f j := by
  rw [mk_eq]
  obtain ⟨_, b1, b2, b3, b4, b5, b6, b7⟩ := mk7_bits (f 1) (f 2) (f 3) (f 4) (f 5) (f 6) (f 7)
  have : j = 1 ∨ j = 2 ∨ j = 3 ∨ j = 4 ∨ j = 5 ∨ j = 6 ∨ j = 7 := by omega
  rcases this with rfl | rfl | rfl | rfl | rfl | rfl | rfl <;> assumption
theorem isB_and (a b : Int) (ha : W32 a) (hb : W32 b) (j : Nat) : isB (bits .and .u32 a b) j = (isB a j && isB b j) := by
  obtain ⟨m, rfl⟩ : ∃ n : Nat, a = n := ⟨a.toNat, by have := ha.1; omega⟩
  obtain ⟨n, rfl⟩ : ∃ n : Nat, b = n := ⟨b.toNat, by have := hb.1; omega⟩
  have h1 : m < 4294967296 := by have := ha.2; omega
  have h2 : n < 4294967296 := by have := hb.2; omega
  rw [u32_and_nat m n h1 h2, isB_tb _ j (Nat.lt_of_le_of_lt Nat.and_le_left h1), isB_tb m j h1, isB_tb n j h2, Nat.testBit_and]
theorem isB_or (a b : Int) (ha : W32 a) (hb : W32 b) (j : Nat) : isB (bits .or .u32 a b) j = (isB a j || isB b j) := by
  obtain ⟨m, rfl⟩ : ∃ n : Nat, a = n := ⟨a.toNat, by have := ha.1; omega⟩
  obtain ⟨n, rfl⟩ : ∃ n : Nat, b = n := ⟨b.toNat, by have := hb.1; omega⟩
  have h1 : m < 4294967296 := by have := ha.2; omega
  have h2 : n < 4294967296 := by have := hb.2; omega
  rw [u32_or_nat m n h1 h2, isB_tb _ j (Nat.or_lt_two_pow (n := 32) h1 h2), isB_tb m j h1, isB_tb n j h2, Nat.testBit_or]
theorem isB_andNot (a b : Int) (ha : W32 a) (hb : W32 b) (j : Nat) : isB (bits .andNot .u32 a b) j = (isB a j && !isB b j) := by
  obtain ⟨m, rfl⟩ : ∃ n : Nat, a = n := ⟨a.toNat, by have := ha.1; omega⟩
  obtain ⟨n, rfl⟩ : ∃ n : Nat, b = n := ⟨b.toNat, by have := hb.1; omega⟩
  have h1 : m < 4294967296 := by have := ha.2; omega
  have h2 : n < 4294967296 := by have := hb.2; omega
  rw [u32_andNot (m : Int) (n : Int) (by omega) (by omega) (by omega) (by omega)]
  simp only [Int.toNat_natCast]
  rw [isB_tb _ j (Nat.lt_of_le_of_lt Nat.and_le_left h1), isB_tb m j h1, isB_tb n j h2, Nat.testBit_and]
  by_cases hj : j < 32
  · rw [show 4294967295 - n = 2 ^ 32 - (n + 1) by omega, Nat.testBit_two_pow_sub_succ h2]
    simp [hj]
  · have : m.testBit j = false := Nat.testBit_lt_two_pow (Nat.lt_of_lt_of_le h1 (Nat.pow_le_pow_right (n := 2) (i := 32) (by decide) (by omega)))
    rw [this, Bool.false_and, Bool.false_and]
theorem isB_zero (j : Nat) : isB 0 j = false := by
  rw [show (0 : Int) = ((0 : Nat) : Int) from rfl, isB_tb 0 j (by decide), Nat.zero_testBit]
theorem isB_big {n : Nat} (hn : n < 4096) (i : Nat) (h : isB (n : Int) i = true) : i < 12 := by
  rw [isB_tb n i (by omega)] at h
  apply Classical.byContradiction
  intro hi
  rw [Nat.testBit_lt_two_pow (Nat.lt_of_lt_of_le hn (Nat.pow_le_pow_right (n := 2) (i := 12) (by decide) (by omega)))] at h
  cases h
theorem in_2730 : ∀ i : Fin 12, isB 2730 i.val = true → i.val = 1 ∨ i.val = 3 ∨ i.val = 5 ∨ i.val = 7 ∨ i.val = 9 ∨ i.val = 11 := by decide
theorem in_546 : ∀ i : Fin 12, isB 546 i.val = true → i.val = 1 ∨ i.val = 5 ∨ i.val = 9 := by decide
theorem and_in {v : Int} (hv : W32 v) (i : Nat) (h : isB (bits .and .u32 v 2730) i = true) : i = 1 ∨ i = 3 ∨ i = 5 ∨ i = 7 ∨ i = 9 ∨ i = 11 := by
  rw [isB_and v 2730 hv (W32.lit (n := 2730) (by decide)), Bool.and_eq_true] at h
  exact in_2730 ⟨i, isB_big (n := 2730) (by decide) i h.2⟩ h.2
theorem and_in2 {v : Int} (hv : W32 v) (i : Nat) (h : isB (bits .and .u32 v 546) i = true) : i = 1 ∨ i = 5 ∨ i = 9 := by
  rw [isB_and v 546 hv (W32.lit (n := 546) (by decide)), Bool.and_eq_true] at h
  exact in_546 ⟨i, isB_big (n := 546) (by decide) i h.2⟩ h.2
theorem mix_in {a v m : Int} (ha : W32 a) (hv : W32 v) (hm : W32 m) (hb : ∀ i, isB a i = true → i = 1 ∨ i = 3 ∨ i = 5 ∨ i = 7 ∨ i = 9 ∨ i = 11) (hd : ∀ i, isB m i = true → i = 1 ∨ i = 5 ∨ i = 9) (i : Nat) (h : isB (bits .or .u32 (bits .andNot .u32 a m) (bits .and .u32 v m)) i = true) : i = 1 ∨ i = 3 ∨ i = 5 ∨ i = 7 ∨ i = 9 ∨ i = 11 := by
  rw [isB_or _ _ (ha.andNot hm) (hv.and hm), isB_andNot a m ha hm, isB_and v m hv hm] at h
  simp only [Bool.or_eq_true, Bool.and_eq_true] at h
  rcases h with h | h
  · exact hb i h.1
  · have := hd i h.2
    omega
def pickB (s : RSt) (c j m : Nat) : Bool := (srcAt s j).waits && (bits .and .u32 (enAt s c / 2 ^ j) 1 == 1) && decide ((srcAt s m).prio < (srcAt s j).prio)
def bestR (s : RSt) (c : Nat) : Nat → Nat
  | 0 => 0
  | k + 1 => if pickB s c (k + 1) (bestR s c k) then k + 1 else bestR s c k
theorem bestR_le (s : RSt) (c k : Nat) : bestR s c k ≤ k := by
  induction k with
  | zero => exact Nat.le_refl _
  | succ k ih => unfold bestR; split <;> omega
theorem best_yes {s : RSt} {c k : Nat} (h1 : 1 ≤ k) (h : pickB s c k (bestR s c (k - 1)) = true) : bestR s c k = k := by
  obtain ⟨n, rfl⟩ : ∃ n, k = n + 1 := ⟨k - 1, by omega⟩
  rw [show n + 1 - 1 = n from rfl] at h
  unfold bestR; rw [if_pos h]
theorem best_no {s : RSt} {c k : Nat} (h1 : 1 ≤ k) (h : pickB s c k (bestR s c (k - 1)) = false) : bestR s c k = bestR s c (k - 1) := by
  obtain ⟨n, rfl⟩ : ∃ n, k = n + 1 := ⟨k - 1, by omega⟩
  conv => lhs; unfold bestR
  rw [if_neg (by rw [show n + 1 - 1 = n from rfl] at h; rw [h]; decide)]; rfl
def setW (s : RSt) (m : Nat) (v : Bool) : RSt := { s with src := s.src.set m { srcAt s m with waits := v } }
def setV (s : RSt) (m : Nat) (v : Bool) : RSt := { s with src := s.src.set m { srcAt s m with served := v } }
def claimS (s : RSt) (m : Nat) : RSt := if m = 0 then s else setV (setW s m false) m true

def complR (s : RSt) (c : Nat) (v : Int) : RSt :=
  if v < 1 ∨ 7 < v then s else if (bits .and .u32 (enAt s c / 2 ^ v.toNat) 1 == 0) = true then s
  else if (srcAt s v.toNat).served then setW (setV s v.toNat false) v.toNat ((srcAt s v.toNat).high || (srcAt s v.toNat).waits) else s
def setH (s : RSt) (k : Nat) (v : Bool) : RSt := { s with src := s.src.set k { srcAt s k with high := v } }
/-- A line that there is. -/
def lineR (s : RSt) (k : Nat) (hi : Bool) : RSt := if hi then (if (srcAt s k).served then setH s k true else setW (setH s k true) k true) else setH s k false
def setP (s : RSt) (m : Nat) (v : Int) : RSt := { s with src := s.src.set m { srcAt s m with prio := v } }
def setR (s : RSt) (a : Nat) (v : Int) : RSt × Bool :=
  if a = 4096 then ({ s with msip := bits .and .u32 v 1 }, true) else if a = 4100 then ({ s with mtimecmp := v }, true) else if a = 4104 then ({ s with mtime := v }, true)
  else if a = 8224 then (s, true) else if a = 8192 then (s, true)
  else if 8192 < a ∧ a < 8224 ∧ a % 4 = 0 then (setP s ((a - 8192) / 4) (bits .and .u32 v 7), true)
  else if a = 8228 then ({ s with enable := s.enable.set 0 (bits .and .u32 v 254) }, true) else if a = 8240 then ({ s with limit := s.limit.set 0 (bits .and .u32 v 7) }, true) else if a = 8244 then (complR s 0 v, true)
  else if a = 8232 then ({ s with enable := s.enable.set 1 (bits .and .u32 v 254) }, true) else if a = 8248 then ({ s with limit := s.limit.set 1 (bits .and .u32 v 7) }, true) else if a = 8252 then (complR s 1 v, true)
  else (s, false)
def devR (s : RSt) (a : Nat) : RSt × Int × Bool :=
  if a = 4096 then (s, s.msip, true) else if a = 4100 then (s, s.mtimecmp, true) else if a = 4104 then (s, s.mtime, true)
  else if a = 8224 then (s, mk (fun i => (srcAt s i).waits) 7, true)
  else if 8192 ≤ a ∧ a < 8224 ∧ a % 4 = 0 then (s, (srcAt s ((a - 8192) / 4)).prio, true)
  else if a = 8228 then (s, enAt s 0, true) else if a = 8240 then (s, liAt s 0, true) else if a = 8244 then (claimS s (bestR s 0 7), (bestR s 0 7 : Nat), true)
  else if a = 8232 then (s, enAt s 1, true) else if a = 8248 then (s, liAt s 1, true) else if a = 8252 then (claimS s (bestR s 1 7), (bestR s 1 7 : Nat), true)
  else (s, 0, false)
def tickR (s : RSt) : RSt := { s with mtime := (s.mtime + 1) % 4294967296 }
-- sources, one at a time
theorem src_set (s : RSt) (m : Nat) (f : Srce) (i : Nat) (hm : m < s.src.length) : srcAt { s with src := s.src.set m f } i = if i = m then f else srcAt s i := by
  unfold srcAt
  rw [List.getElem?_set]
  by_cases e : m = i
  · subst e; simp [hm]
  · rw [if_neg e, if_neg (fun h => e h.symm)]
theorem mk_congr {f g : Nat → Bool} (h : ∀ i, 1 ≤ i → i ≤ 7 → f i = g i) : mk f 7 = mk g 7 := by
  rw [mk_eq, mk_eq, h 1 (by decide) (by decide), h 2 (by decide) (by decide), h 3 (by decide) (by decide), h 4 (by decide) (by decide), h 5 (by decide) (by decide), h 6 (by decide) (by decide), h 7 (by decide) (by decide)]
def up (m i : Nat) (v y : Bool) : Bool := if i = m then v else y
theorem mk7_on : ∀ (m : Fin 8) (a b c d e f g : Bool), m.val ≠ 0 → bits .or .u32 (mk7 a b c d e f g) ((2 ^ m.val : Nat) : Int) = mk7 (up m.val 1 true a) (up m.val 2 true b) (up m.val 3 true c) (up m.val 4 true d) (up m.val 5 true e) (up m.val 6 true f) (up m.val 7 true g) := by decide +kernel
theorem mk7_off : ∀ (m : Fin 8) (a b c d e f g : Bool), m.val ≠ 0 → bits .andNot .u32 (mk7 a b c d e f g) ((2 ^ m.val : Nat) : Int) = mk7 (up m.val 1 false a) (up m.val 2 false b) (up m.val 3 false c) (up m.val 4 false d) (up m.val 5 false e) (up m.val 6 false f) (up m.val 7 false g) := by decide +kernel
theorem mk_on (f : Nat → Bool) (m : Nat) (h1 : 1 ≤ m) (h7 : m ≤ 7) : bits .or .u32 (mk f 7) ((2 ^ m : Nat) : Int) = mk (fun i => up m i true (f i)) 7 := by
  rw [mk_eq, mk_eq]; exact mk7_on ⟨m, by omega⟩ _ _ _ _ _ _ _ (by show m ≠ 0; omega)
theorem mk_off (f : Nat → Bool) (m : Nat) (h1 : 1 ≤ m) (h7 : m ≤ 7) : bits .andNot .u32 (mk f 7) ((2 ^ m : Nat) : Int) = mk (fun i => up m i false (f i)) 7 := by
  rw [mk_eq, mk_eq]; exact mk7_off ⟨m, by omega⟩ _ _ _ _ _ _ _ (by show m ≠ 0; omega)
theorem p2_lt {m : Nat} (h : m ≤ 7) : 2 ^ m < 4294967296 := Nat.lt_of_le_of_lt (Nat.pow_le_pow_right (by decide) h) (by decide)
theorem p2_w {m : Nat} (h : m ≤ 7) : W32 ((2 ^ m : Nat) : Int) := W32.lit (p2_lt h)
/-- A number and one bit. -/
theorem and_one {a : Int} (ha : W32 a) (m : Nat) (h : m ≤ 7) : bits .and .u32 a ((2 ^ m : Nat) : Int) = if isB a m then ((2 ^ m : Nat) : Int) else 0 := by
  obtain ⟨n, rfl⟩ : ∃ n : Nat, a = n := ⟨a.toNat, by have := ha.1; omega⟩
  have h1 : n < 4294967296 := by have := ha.2; omega
  rw [u32_and_nat n _ h1 (p2_lt h), and_2pow, isB_tb n m h1]
  cases n.testBit m <;> simp
theorem one_and {a : Int} (ha : W32 a) (m : Nat) (h : m ≤ 7) : bits .and .u32 ((2 ^ m : Nat) : Int) a = if isB a m then ((2 ^ m : Nat) : Int) else 0 := by
  rw [← and_one ha m h]
  obtain ⟨n, rfl⟩ : ∃ n : Nat, a = n := ⟨a.toNat, by have := ha.1; omega⟩
  have h1 : n < 4294967296 := by have := ha.2; omega
  rw [u32_and_nat n _ h1 (p2_lt h), u32_and_nat _ n (p2_lt h) h1, Nat.and_comm]
theorem one_andNot {a : Int} (ha : W32 a) (m : Nat) (h : m ≤ 7) : bits .andNot .u32 ((2 ^ m : Nat) : Int) a = if isB a m then 0 else ((2 ^ m : Nat) : Int) := by
  obtain ⟨n, rfl⟩ : ∃ n : Nat, a = n := ⟨a.toNat, by have := ha.1; omega⟩
  have h1 : n < 4294967296 := by have := ha.2; omega
  rw [u32_andNot _ _ (p2_w h).1 (p2_w h).2 ha.1 ha.2, isB_tb n m h1]
  have e1 : (((2 ^ m : Nat) : Int)).toNat = 2 ^ m := rfl
  have e2 : ((n : Nat) : Int).toNat = n := rfl
  rw [e1, e2, Nat.and_comm, and_2pow, show 4294967295 - n = 2 ^ 32 - (n + 1) by omega, Nat.testBit_two_pow_sub_succ (by omega)]
  have : m < 32 := by omega
  cases n.testBit m <;> simp [this]
theorem zero_or {a : Int} (ha : W32 a) : bits .or .u32 a 0 = a := or_zero a ha
theorem andNot_zero {a : Int} (ha : W32 a) : bits .andNot .u32 a 0 = a := by
  rw [u32_andNot a 0 ha.1 ha.2 (by decide) (by decide)]
  have e : a.toNat &&& (4294967295 - (0 : Int).toNat) = a.toNat := by
    show a.toNat &&& (2 ^ 32 - 1) = a.toNat
    rw [Nat.and_two_pow_sub_one_eq_mod]
    have := ha.1; have := ha.2; omega
  rw [e]; have := ha.1; omega

theorem prio_at (s : RSt) (i : Nat) : (s.src.map (·.prio))[i]?.getD 0 = (srcAt s i).prio := by
  unfold srcAt
  rw [List.getElem?_map]
  cases s.src[i]? <;> rfl
theorem best_of {s : RSt} (h : Dvs s) (c : Nat) (he : W32 (enAt s c)) : ∀ k, k ≤ 7 → bestC (cOf s).pend (enAt s c) 0 (cOf s).prio k = (bestR s c k, (srcAt s (bestR s c k)).prio) := by
  intro k
  induction k with
  | zero => intro _; show ((0 : Nat), (0 : Int)) = (0, (srcAt s 0).prio); rw [h.p0]
  | succ k ih =>
    intro hk
    have ih := ih (by omega)
    have b := isB_and _ _ (mk_w (fun i => (srcAt s i).waits)) he (k + 1)
    rw [mk_bit _ (k + 1) (by omega) (by omega)] at b
    have e : askB (cOf s).pend (enAt s c) (srcAt s (bestR s c k)).prio (cOf s).prio (k + 1) = pickB s c (k + 1) (bestR s c k) := by
      unfold askB pickB
      rw [show (cOf s).prio[k + 1]?.getD 0 = (srcAt s (k + 1)).prio from prio_at s (k + 1), show (bits .and .u32 (bits .and .u32 (cOf s).pend (enAt s c) / 2 ^ (k + 1)) 1 == 1) = ((srcAt s (k + 1)).waits && isB (enAt s c) (k + 1)) from b]
      rfl
    show (if askB (cOf s).pend (enAt s c) (bestC (cOf s).pend (enAt s c) 0 (cOf s).prio k).2 (cOf s).prio (k + 1) then (k + 1, (cOf s).prio[k + 1]?.getD 0) else bestC (cOf s).pend (enAt s c) 0 (cOf s).prio k) = _
    rw [ih, e]
    by_cases y : pickB s c (k + 1) (bestR s c k) = true
    · rw [if_pos y, best_yes (by omega) (show pickB s c (k + 1) (bestR s c (k + 1 - 1)) = true from y), show (cOf s).prio[k + 1]?.getD 0 = (srcAt s (k + 1)).prio from prio_at s (k + 1)]
    · rw [if_neg y, best_no (by omega) (show pickB s c (k + 1) (bestR s c (k + 1 - 1)) = false by simpa using y)]
      rfl
theorem cst_src (s : RSt) (l : List Srce) (p q r : Int) (pr : List Int) (h0 : l.map (·.prio) = pr) (h1 : mk (fun i => (srcAt { s with src := l } i).waits) 7 = p) (h2 : mk (fun i => (srcAt { s with src := l } i).served) 7 = q) (h3 : mk (fun i => (srcAt { s with src := l } i).high) 7 = r) :
    cOf { s with src := l } = { cOf s with prio := pr, pend := p, served := q, level := r } := by subst h0 h1 h2 h3; rfl
theorem map_same (l : List Srce) (m : Nat) (f : Srce) (hf : f.prio = ((l[m]?).getD ⟨false, false, false, 0⟩).prio) : (l.set m f).map (·.prio) = l.map (·.prio) := by
  rw [List.map_set, hf]
  apply List.ext_getElem?
  intro i
  rw [List.getElem?_set]
  by_cases e : m = i
  · subst e
    by_cases hl : m < l.length
    · simp [hl]
    · simp [hl]
  · simp [e]
/-- One source's three marks are set anew. -/
theorem cOf_marks {s : RSt} (h : Dvs s) (m : Nat) (hm : m < 8) (w v g : Bool) : cOf { s with src := s.src.set m { srcAt s m with waits := w, served := v, high := g } } = { cOf s with pend := mk (fun i => up m i w (srcAt s i).waits) 7, served := mk (fun i => up m i v (srcAt s i).served) 7, level := mk (fun i => up m i g (srcAt s i).high) 7 } := by
  have hl : m < s.src.length := by rw [h.nsrc]; exact hm
  refine cst_src s _ _ _ _ _ (map_same _ _ _ rfl) ?_ ?_ ?_
  all_goals
    refine mk_congr fun i _ _ => ?_
    rw [src_set s m _ i hl]
    unfold up
    split <;> rfl
theorem up_self (f : Nat → Bool) (m : Nat) : (fun i => up m i (f m) (f i)) = f := by
  funext i
  unfold up
  split
  · rename_i e; rw [e]
  · rfl
theorem claim_marks {s : RSt} (h : Dvs s) (m : Nat) (h8 : m < 8) (w v : Bool) : setV (setW s m w) m v = { s with src := s.src.set m { srcAt s m with waits := w, served := v } } := by
  have hl : m < s.src.length := by rw [h.nsrc]; exact h8
  unfold setV setW
  simp only [List.set_set]
  rw [src_set s m _ m hl, if_pos rfl]
theorem cOf_claim {s : RSt} (h : Dvs s) (m : Nat) (h7 : m ≤ 7) : cOf (claimS s m) = claimC (cOf s) m := by
  unfold claimS claimC
  by_cases e : m = 0
  · rw [if_pos e, if_pos e]
  · rw [if_neg e, if_neg e, claim_marks h m (by omega)]
    have := cOf_marks h m (by omega) false true (srcAt s m).high
    rw [show ({ srcAt s m with waits := false, served := true } : Srce) = { srcAt s m with waits := false, served := true, high := (srcAt s m).high } from rfl, this, up_self (fun i => (srcAt s i).high), ← mk_off (fun i => (srcAt s i).waits) m (by omega) h7, ← mk_on (fun i => (srcAt s i).served) m (by omega) h7]
    rfl
theorem compl_marks {s : RSt} (h : Dvs s) (m : Nat) (h8 : m < 8) (w v : Bool) : setW (setV s m v) m w = { s with src := s.src.set m { srcAt s m with waits := w, served := v } } := by
  have hl : m < s.src.length := by rw [h.nsrc]; exact h8
  unfold setV setW
  simp only [List.set_set]
  rw [src_set s m _ m hl, if_pos rfl]
theorem cOf_compl {s : RSt} (h : Dvs s) (c : Nat) (he : W32 (enAt s c)) (v : Int) : cOf (complR s c v) = complC (cOf s) (enAt s c) v := by
  unfold complR complC
  by_cases o : v < 1 ∨ 7 < v
  · rw [if_pos o, if_pos o]
  · rw [if_neg o, if_neg o]
    obtain ⟨m, rfl⟩ : ∃ m : Nat, v = m := ⟨v.toNat, by omega⟩
    have h1 : 1 ≤ m := by omega
    have h7 : m ≤ 7 := by omega
    rw [show ((m : Int)).toNat = m from rfl]
    have wp : W32 (cOf s).pend := mk_w (fun i => (srcAt s i).waits)
    have ws : W32 (cOf s).served := mk_w (fun i => (srcAt s i).served)
    have wl : W32 (cOf s).level := mk_w (fun i => (srcAt s i).high)
    have eb : bits .and .u32 (bits .and .u32 (cOf s).served (enAt s c)) ((2 ^ m : Nat) : Int) = if ((srcAt s m).served && isB (enAt s c) m) = true then ((2 ^ m : Nat) : Int) else 0 := by
      rw [and_one (W32.and ws he) m h7, isB_and _ _ ws he, show isB (cOf s).served m = (srcAt s m).served from mk_bit (fun i => (srcAt s i).served) m h1 (by omega)]
    simp only [eb]
    have en : (bits .and .u32 (enAt s c / 2 ^ m) 1 == 0) = !isB (enAt s c) m := by
      obtain ⟨n, hn⟩ : ∃ n : Nat, enAt s c = n := ⟨(enAt s c).toNat, by have := he.1; omega⟩
      rw [hn]
      have h32 : n < 4294967296 := by have := he.2; omega
      unfold isB
      have e : ((n : Int) / 2 ^ m) = ((n / 2 ^ m : Nat) : Int) := by simp
      rw [e, show (1 : Int) = ((1 : Nat) : Int) from rfl, u32_and_nat _ 1 (Nat.lt_of_le_of_lt (Nat.div_le_self _ _) h32) (by decide)]
      have : n / 2 ^ m &&& 1 = 0 ∨ n / 2 ^ m &&& 1 = 1 := by rw [Nat.and_one_is_mod]; omega
      rcases this with h | h <;> rw [h] <;> rfl
    rw [en]
    by_cases y : isB (enAt s c) m = true
    · rw [y, if_neg (by decide)]
      by_cases z : (srcAt s m).served = true
      · rw [if_pos z, if_pos (by rw [z]; rfl), one_and wl m h7, compl_marks h m (by omega)]
        have := cOf_marks h m (by omega) ((srcAt s m).high || (srcAt s m).waits) false (srcAt s m).high
        rw [show ({ srcAt s m with waits := (srcAt s m).high || (srcAt s m).waits, served := false } : Srce) = { srcAt s m with waits := (srcAt s m).high || (srcAt s m).waits, served := false, high := (srcAt s m).high } from rfl, this, up_self (fun i => (srcAt s i).high), ← mk_off (fun i => (srcAt s i).served) m h1 h7,
          show isB (cOf s).level m = (srcAt s m).high from mk_bit (fun i => (srcAt s i).high) m h1 (by omega)]
        cases hh : (srcAt s m).high
        · rw [Bool.false_or, up_self (fun i => (srcAt s i).waits), if_neg (by decide), show bits .or .u32 (cOf s).pend 0 = (cOf s).pend from zero_or wp]
          rfl
        · rw [Bool.true_or, if_pos rfl, ← mk_on (fun i => (srcAt s i).waits) m h1 h7]
          rfl
      · rw [if_neg z, if_neg (by simpa using z), show bits .andNot .u32 (cOf s).served 0 = (cOf s).served from andNot_zero ws, show bits .and .u32 0 (cOf s).level = 0 by rw [u32_and 0 _ (by decide) (by decide) wl.1 wl.2]; simp, show bits .or .u32 (cOf s).pend 0 = (cOf s).pend from zero_or wp]
    · have y' : isB (enAt s c) m = false := by simpa using y
      rw [y', if_pos (show (!false) = true from rfl), Bool.and_false, if_neg (by decide), show bits .andNot .u32 (cOf s).served 0 = (cOf s).served from andNot_zero ws, show bits .and .u32 0 (cOf s).level = 0 by rw [u32_and 0 _ (by decide) (by decide) wl.1 wl.2]; simp, show bits .or .u32 (cOf s).pend 0 = (cOf s).pend from zero_or wp]
theorem cOf_line {s : RSt} (h : Dvs s) (k : Nat) (h1 : 1 ≤ k) (h7 : k ≤ 7) (hi : Bool) : cOf (lineR s k hi) = lineC (cOf s) k hi := by
  have wp : W32 (cOf s).pend := mk_w (fun i => (srcAt s i).waits)
  have ws : W32 (cOf s).served := mk_w (fun i => (srcAt s i).served)
  have hl : k < s.src.length := by rw [h.nsrc]; omega
  have E : ∀ y w : Bool, cOf { s with src := s.src.set k { srcAt s k with waits := w, high := y } } = { cOf s with pend := mk (fun i => up k i w (srcAt s i).waits) 7, level := mk (fun i => up k i y (srcAt s i).high) 7 } := fun y w => by
    have := cOf_marks h k (by omega) w (srcAt s k).served y
    rw [up_self (fun i => (srcAt s i).served)] at this
    exact this
  have E1 : ∀ y : Bool, cOf (setH s k y) = { cOf s with level := mk (fun i => up k i y (srcAt s i).high) 7 } := fun y => by
    have := E y (srcAt s k).waits
    rw [up_self (fun i => (srcAt s i).waits)] at this
    exact this
  have E2 : setW (setH s k true) k true = { s with src := s.src.set k { srcAt s k with waits := true, high := true } } := by
    unfold setW setH
    simp only [List.set_set]
    rw [src_set s k _ k hl, if_pos rfl]
  unfold lineR lineC
  cases hi
  · rw [if_neg (by decide), if_neg (by decide), E1, ← mk_off (fun i => (srcAt s i).high) k h1 h7]
    rfl
  · rw [if_pos rfl, if_pos rfl, one_andNot ws k h7, show isB (cOf s).served k = (srcAt s k).served from mk_bit (fun i => (srcAt s i).served) k h1 (by omega)]
    by_cases z : (srcAt s k).served = true
    · rw [if_pos z, if_pos z, E1, ← mk_on (fun i => (srcAt s i).high) k h1 h7, show bits .or .u32 (cOf s).pend 0 = (cOf s).pend from zero_or wp]
      rfl
    · rw [if_neg z, if_neg z, E2, E, ← mk_on (fun i => (srcAt s i).high) k h1 h7, ← mk_on (fun i => (srcAt s i).waits) k h1 h7]
      rfl
theorem cOf_prio {s : RSt} (h : Dvs s) (m : Nat) (h8 : m < 8) (v : Int) : cOf (setP s m v) = { cOf s with prio := (cOf s).prio.set m v } := by
  have hl : m < s.src.length := by rw [h.nsrc]; exact h8
  have e : ∀ g : Srce → Bool, (∀ q : Srce, g { q with prio := v } = g q) → mk (fun i => g (srcAt (setP s m v) i)) 7 = mk (fun i => g (srcAt s i)) 7 := fun g hg => mk_congr fun i _ _ => by
    unfold setP
    rw [src_set s m _ i hl]
    split
    · rename_i e; rw [e]; exact hg _
    · rfl
  exact cst_src s _ (cOf s).pend (cOf s).served (cOf s).level _ (by rw [List.map_set]; rfl) (e (·.waits) fun _ => rfl) (e (·.served) fun _ => rfl) (e (·.high) fun _ => rfl)

-- the devices' words
theorem dev_of {s : RSt} (h : Dvs s) (a : Nat) : devC (cOf s) a = (cOf (devR s a).1, (devR s a).2) := by
  have b0 := best_of h 0 h.en0 7 (Nat.le_refl _)
  have b1 := best_of h 1 h.en1 7 (Nat.le_refl _)
  have r0 := bestR_le s 0 7
  have r1 := bestR_le s 1 7
  unfold devC clkV devR
  by_cases c1 : a = 4096
  · subst c1; rfl
  by_cases c2 : a = 4100
  · subst c2; rfl
  by_cases c3 : a = 4104
  · subst c3; rfl
  rw [if_neg c1, if_neg c2, if_neg c3, if_neg c1, if_neg c2, if_neg c3, if_neg (by decide)]
  unfold linV
  by_cases c4 : a = 8224
  · subst c4; rfl
  rw [if_neg c4, if_neg c4]
  by_cases c5 : 8192 ≤ a ∧ a < 8224 ∧ a % 4 = 0
  · rw [if_pos c5, if_neg (by omega), if_neg (by omega), if_neg (by omega), if_neg (by omega), if_neg (by omega), if_neg (by omega), if_pos (show prC a from c5)]
    rw [show (cOf s).prio[(a - 8192) / 4]?.getD 0 = _ from prio_at s _]
  rw [if_neg c5]
  by_cases d1 : a = 8228
  · subst d1; rfl
  by_cases d2 : a = 8232
  · subst d2; rfl
  by_cases d3 : a = 8240
  · subst d3; rfl
  by_cases d4 : a = 8248
  · subst d4; rfl
  by_cases d5 : a = 8244
  · subst d5
    rw [if_neg (by decide), if_neg (by decide), if_neg (by decide), if_neg (by decide), if_pos rfl, if_neg (by decide), if_neg (by decide), if_pos rfl]
    rw [show bestC (cOf s).pend (cOf s).en0 0 (cOf s).prio 7 = _ from b0, cOf_claim h _ r0]
  by_cases d6 : a = 8252
  · subst d6
    rw [if_neg (by decide), if_neg (by decide), if_neg (by decide), if_neg (by decide), if_neg (by decide), if_pos rfl, if_neg (by decide), if_neg (by decide), if_neg (by decide), if_neg (by decide), if_neg (by decide), if_pos rfl]
    rw [show bestC (cOf s).pend (cOf s).en1 0 (cOf s).prio 7 = _ from b1, cOf_claim h _ r1]
  rw [if_neg d1, if_neg d2, if_neg d3, if_neg d4, if_neg d5, if_neg d6, if_neg (show ¬ prC a from c5), if_neg d1, if_neg d3, if_neg d5, if_neg d2, if_neg d4, if_neg d6]
theorem two_set (l : List Int) (h : l.length = 2) (v : Int) : (l.set 0 v)[0]?.getD 0 = v ∧ (l.set 0 v)[1]?.getD 0 = l[1]?.getD 0 ∧ (l.set 1 v)[0]?.getD 0 = l[0]?.getD 0 ∧ (l.set 1 v)[1]?.getD 0 = v := by
  match l, h with
  | [a, b], _ => exact ⟨rfl, rfl, rfl, rfl⟩
theorem cOf_two (s : RSt) (l k : List Int) : cOf { s with enable := l, limit := k } = { cOf s with en0 := l[0]?.getD 0, en1 := l[1]?.getD 0, li0 := k[0]?.getD 0, li1 := k[1]?.getD 0 } := rfl
theorem set_of {s : RSt} (h : Dvs s) (a : Nat) (v : Int) : setD (cOf s) a v = (cOf (setR s a v).1, (setR s a v).2) := by
  have E := fun v => two_set s.enable h.nen v
  have L := fun v => two_set s.limit h.nli v
  unfold setD clkW setR
  by_cases c1 : a = 4096
  · subst c1; rfl
  by_cases c2 : a = 4100
  · subst c2; rfl
  by_cases c3 : a = 4104
  · subst c3; rfl
  rw [if_neg c1, if_neg c2, if_neg c3, if_neg c1, if_neg c2, if_neg c3, if_neg (fun e => by cases e)]
  unfold linW
  by_cases c4 : a = 8224
  · subst c4; rfl
  rw [if_neg c4, if_neg c4]
  by_cases c0 : a = 8192
  · subst c0; rfl
  rw [if_neg c0, if_neg c0]
  by_cases c5 : 8192 < a ∧ a < 8224 ∧ a % 4 = 0
  · rw [if_pos c5, if_neg (by omega), if_neg (by omega), if_neg (by omega), if_neg (by omega), if_neg (by omega), if_neg (by omega), if_pos (show prC a from ⟨by omega, c5.2⟩), cOf_prio h _ (by omega)]
  rw [if_neg c5]
  by_cases d1 : a = 8228
  · subst d1
    rw [if_pos rfl, if_pos rfl]
    have := cOf_two s (s.enable.set 0 (bits .and .u32 v 254)) s.limit
    rw [(E _).1, (E _).2.1] at this
    rw [this]
    rfl
  by_cases d2 : a = 8232
  · subst d2
    rw [if_neg (by decide), if_pos rfl, if_neg (by decide), if_neg (by decide), if_neg (by decide), if_pos rfl]
    have := cOf_two s (s.enable.set 1 (bits .and .u32 v 254)) s.limit
    rw [(E _).2.2.1, (E _).2.2.2] at this
    rw [this]
    rfl
  by_cases d3 : a = 8240
  · subst d3
    rw [if_neg (by decide), if_neg (by decide), if_pos rfl, if_neg (by decide), if_pos rfl]
    have := cOf_two s s.enable (s.limit.set 0 (bits .and .u32 v 7))
    rw [(L _).1, (L _).2.1] at this
    rw [this]
    rfl
  by_cases d4 : a = 8248
  · subst d4
    rw [if_neg (by decide), if_neg (by decide), if_neg (by decide), if_pos rfl, if_neg (by decide), if_neg (by decide), if_neg (by decide), if_neg (by decide), if_pos rfl]
    have := cOf_two s s.enable (s.limit.set 1 (bits .and .u32 v 7))
    rw [(L _).2.2.1, (L _).2.2.2] at this
    rw [this]
    rfl
  by_cases d5 : a = 8244
  · subst d5
    rw [if_neg (by decide), if_neg (by decide), if_neg (by decide), if_neg (by decide), if_pos rfl, if_neg (by decide), if_neg (by decide), if_pos rfl, cOf_compl h 0 h.en0 v]
    rfl
  by_cases d6 : a = 8252
  · subst d6
    rw [if_neg (by decide), if_neg (by decide), if_neg (by decide), if_neg (by decide), if_neg (by decide), if_pos rfl, if_neg (by decide), if_neg (by decide), if_neg (by decide), if_neg (by decide), if_neg (by decide), if_pos rfl, cOf_compl h 1 h.en1 v]
    rfl
  rw [if_neg d1, if_neg d2, if_neg d3, if_neg d4, if_neg d5, if_neg d6, if_neg (show ¬ prC a by unfold prC; omega), if_neg d1, if_neg d3, if_neg d5, if_neg d2, if_neg d4, if_neg d6]

-- what holds of the devices stays
theorem Dvs.marks {s : RSt} (h : Dvs s) (m : Nat) (hm : m < 8) (f : Srce) (hf : f.prio = (srcAt s m).prio) : Dvs { s with src := s.src.set m f } := by
  have hl : m < s.src.length := by rw [h.nsrc]; exact hm
  have e : ∀ i, (srcAt { s with src := s.src.set m f } i).prio = (srcAt s i).prio := fun i => by
    rw [src_set s m f i hl]
    split
    · rename_i e; rw [hf, e]
    · rfl
  exact { h with nsrc := (List.length_set ..).trans h.nsrc, pr := fun i => by rw [e]; exact h.pr i, p0 := by rw [e]; exact h.p0 }
theorem Dvs.setW {s : RSt} (h : Dvs s) (m : Nat) (hm : m < 8) (v : Bool) : Dvs (setW s m v) := h.marks m hm _ rfl
theorem Dvs.setV {s : RSt} (h : Dvs s) (m : Nat) (hm : m < 8) (v : Bool) : Dvs (setV s m v) := h.marks m hm _ rfl
theorem Dvs.setH {s : RSt} (h : Dvs s) (m : Nat) (hm : m < 8) (v : Bool) : Dvs (setH s m v) := h.marks m hm _ rfl
theorem Dvs.claim {s : RSt} (h : Dvs s) (m : Nat) (hm : m ≤ 7) : Dvs (claimS s m) := by
  unfold claimS
  split
  · exact h
  · exact (h.setW m (by omega) _).setV m (by omega) _
theorem Dvs.compl {s : RSt} (h : Dvs s) (c : Nat) (v : Int) : Dvs (complR s c v) := by
  unfold complR
  split
  · exact h
  · split
    · exact h
    · split
      · exact (h.setV _ (by omega) _).setW _ (by omega) _
      · exact h
theorem Dvs.line {s : RSt} (h : Dvs s) (k : Nat) (h7 : k ≤ 7) (hi : Bool) : Dvs (lineR s k hi) := by
  unfold lineR
  split
  · split
    · exact h.setH k (by omega) _
    · exact (h.setH k (by omega) _).setW k (by omega) _
  · exact h.setH k (by omega) _
theorem Dvs.prio {s : RSt} (h : Dvs s) (m : Nat) (h1 : 1 ≤ m) (hm : m < 8) (v : Int) (hv : W32 v) : Dvs (setP s m v) := by
  have hl : m < s.src.length := by rw [h.nsrc]; exact hm
  refine { h with nsrc := (List.length_set ..).trans h.nsrc, pr := fun i => ?_, p0 := ?_ }
  · unfold setP
    rw [src_set s m _ i hl]
    split
    · exact hv
    · exact h.pr i
  · unfold setP
    rw [src_set s m _ 0 hl, if_neg (by omega)]
    exact h.p0
theorem Dvs.tick {s : RSt} (h : Dvs s) : Dvs (tickR s) := { h with mtm := ⟨by show 0 ≤ (s.mtime + 1) % 4294967296; omega, by show (s.mtime + 1) % 4294967296 < 4294967296; omega⟩ }
theorem Dvs.dev {s : RSt} (h : Dvs s) (a : Nat) : Dvs (devR s a).1 := by
  have r0 := bestR_le s 0 7
  have r1 := bestR_le s 1 7
  unfold devR
  split; exact h
  split; exact h
  split; exact h
  split; exact h
  split; exact h
  split; exact h
  split; exact h
  split; exact h.claim _ r0
  split; exact h
  split; exact h
  split; exact h.claim _ r1
  exact h
theorem and1 {v : Int} (hv : W32 v) : bits .and .u32 v 1 = 0 ∨ bits .and .u32 v 1 = 1 := by
  rw [u32_and v 1 hv.1 hv.2 (by decide) (by decide)]
  show ((v.toNat &&& 1 : Nat) : Int) = 0 ∨ ((v.toNat &&& 1 : Nat) : Int) = 1
  rw [Nat.and_one_is_mod]
  omega
theorem Dvs.set {s : RSt} (h : Dvs s) (a : Nat) (v : Int) (hv : W32 v) : Dvs (setR s a v).1 := by
  have E := fun v => two_set s.enable h.nen v
  have L := fun v => two_set s.limit h.nli v
  have v7 : W32 (bits .and .u32 v 7) := hv.and (W32.lit (n := 7) (by decide))
  have v2 : W32 (bits .and .u32 v 254) := hv.and (W32.lit (n := 254) (by decide))
  unfold setR
  by_cases c0 : a = 4096
  · rw [if_pos c0]; exact { h with msip := and1 hv }
  rw [if_neg c0]
  by_cases c1 : a = 4100
  · rw [if_pos c1]; exact { h with mtc := hv }
  rw [if_neg c1]
  by_cases c2 : a = 4104
  · rw [if_pos c2]; exact { h with mtm := hv }
  rw [if_neg c2]
  by_cases c3 : a = 8224
  · rw [if_pos c3]; exact h
  rw [if_neg c3]
  by_cases c4 : a = 8192
  · rw [if_pos c4]; exact h
  rw [if_neg c4]
  by_cases c5 : 8192 < a ∧ a < 8224 ∧ a % 4 = 0
  · rw [if_pos c5]; exact h.prio _ (by omega) (by omega) _ v7
  rw [if_neg c5]
  by_cases c6 : a = 8228
  · rw [if_pos c6]; exact { h with nen := (List.length_set ..).trans h.nen, en0 := (by show W32 _; unfold enAt; rw [(E _).1]; exact v2), en1 := (by show W32 _; unfold enAt; rw [(E _).2.1]; exact h.en1) }
  rw [if_neg c6]
  by_cases c7 : a = 8240
  · rw [if_pos c7]; exact { h with nli := (List.length_set ..).trans h.nli, li0 := (by show W32 _; unfold liAt; rw [(L _).1]; exact v7), li1 := (by show W32 _; unfold liAt; rw [(L _).2.1]; exact h.li1) }
  rw [if_neg c7]
  by_cases c8 : a = 8244
  · rw [if_pos c8]; exact h.compl _ _
  rw [if_neg c8]
  by_cases c9 : a = 8232
  · rw [if_pos c9]; exact { h with nen := (List.length_set ..).trans h.nen, en0 := (by show W32 _; unfold enAt; rw [(E _).2.2.1]; exact h.en0), en1 := (by show W32 _; unfold enAt; rw [(E _).2.2.2]; exact v2) }
  rw [if_neg c9]
  by_cases c10 : a = 8248
  · rw [if_pos c10]; exact { h with nli := (List.length_set ..).trans h.nli, li0 := (by show W32 _; unfold liAt; rw [(L _).2.2.1]; exact h.li0), li1 := (by show W32 _; unfold liAt; rw [(L _).2.2.2]; exact v7) }
  rw [if_neg c10]
  by_cases c11 : a = 8252
  · rw [if_pos c11]; exact h.compl _ _
  rw [if_neg c11]
  exact h

-- what matters most
def cand (s : RSt) (c k : Nat) : Prop := (srcAt s k).waits = true ∧ isB (enAt s c) k = true ∧ 0 < (srcAt s k).prio
/-- m is what matters most of the sources from lo to hi. -/
def Most (s : RSt) (c lo hi m : Nat) : Prop :=
  (m = 0 ∧ ∀ k, lo ≤ k → k ≤ hi → ¬ cand s c k) ∨ (lo ≤ m ∧ m ≤ hi ∧ cand s c m ∧ ∀ k, lo ≤ k → k ≤ hi → cand s c k → (srcAt s k).prio < (srcAt s m).prio ∨ ((srcAt s k).prio = (srcAt s m).prio ∧ m ≤ k))
theorem Most.eq {s : RSt} {c lo hi m n : Nat} (h : Most s c lo hi m) (k : Most s c lo hi n) : m = n := by
  rcases h with ⟨rfl, h⟩ | ⟨a, b, d, h⟩
  · rcases k with ⟨rfl, _⟩ | ⟨a', b', d', _⟩
    · rfl
    · exact absurd d' (h n a' b')
  · rcases k with ⟨rfl, k⟩ | ⟨a', b', d', k⟩
    · exact absurd d (k m a b)
    · have := h n a' b' d'
      have := k m a b d
      omega
theorem best_most {s : RSt} (h : Dvs s) (c : Nat) : ∀ n, Most s c 1 n (bestR s c n) := by
  intro n
  induction n with
  | zero => exact .inl ⟨rfl, fun k h1 h2 => absurd h2 (by omega)⟩
  | succ n ih =>
    have nn : ∀ i, 0 ≤ (srcAt s i).prio := fun i => (h.pr i).1
    cases hb : pickB s c (n + 1) (bestR s c n)
    · rw [best_no (by omega) (show pickB s c (n + 1) (bestR s c (n + 1 - 1)) = false from hb), show n + 1 - 1 = n from rfl]
      have np : cand s c (n + 1) → (srcAt s (n + 1)).prio ≤ (srcAt s (bestR s c n)).prio := fun hc => by
        unfold pickB at hb
        rw [hc.1, show (bits .and .u32 (enAt s c / 2 ^ (n + 1)) 1 == 1) = true from hc.2.1, Bool.true_and, Bool.true_and, decide_eq_false_iff_not] at hb
        omega
      rcases ih with ⟨e, ih⟩ | ⟨a, b, d, ih⟩
      · rw [e] at np ⊢
        refine .inl ⟨rfl, fun k h1 h2 hc => ?_⟩
        by_cases ek : k = n + 1
        · subst ek
          have := np hc
          rw [h.p0] at this
          have := hc.2.2
          omega
        · exact ih k h1 (by omega) hc
      · refine .inr ⟨a, by omega, d, fun k h1 h2 hc => ?_⟩
        by_cases ek : k = n + 1
        · subst ek
          have := np hc
          omega
        · exact ih k h1 (by omega) hc
    · rw [best_yes (by omega) (show pickB s c (n + 1) (bestR s c (n + 1 - 1)) = true from hb)]
      unfold pickB at hb
      simp only [Bool.and_eq_true, decide_eq_true_eq] at hb
      obtain ⟨⟨w1, w2⟩, w3⟩ := hb
      have := nn (bestR s c n)
      refine .inr ⟨by omega, Nat.le_refl _, ⟨w1, w2, by omega⟩, fun k h1 h2 hc => ?_⟩
      by_cases ek : k = n + 1
      · subst ek; exact .inr ⟨rfl, Nat.le_refl _⟩
      · rcases ih with ⟨e, ih⟩ | ⟨a, b, d, ih⟩
        · exact absurd hc (ih k h1 (by omega))
        · have := ih k h1 (by omega) hc
          omega
/-- What top has found behind 7, .., k + 1. -/
def pickT (s : RSt) (c k m : Nat) : Bool := ((srcAt s k).waits && isB (enAt s c) k && decide (0 < (srcAt s k).prio)) && decide ((srcAt s m).prio ≤ (srcAt s k).prio)
def topT (s : RSt) (c : Nat) : Nat → Nat
  | 0 => 0
  | j + 1 => if pickT s c (7 - j) (topT s c j) then 7 - j else topT s c j
theorem top_most {s : RSt} (h : Dvs s) (c : Nat) : ∀ j, j ≤ 7 → Most s c (8 - j) 7 (topT s c j) := by
  intro j
  induction j with
  | zero => intro _; exact .inl ⟨rfl, fun k h1 h2 => absurd h1 (by omega)⟩
  | succ j ih =>
    intro hj
    have ih := ih (by omega)
    have nn : ∀ i, 0 ≤ (srcAt s i).prio := fun i => (h.pr i).1
    unfold topT
    cases hb : pickT s c (7 - j) (topT s c j)
    · rw [if_neg (by decide)]
      have np : cand s c (7 - j) → (srcAt s (7 - j)).prio < (srcAt s (topT s c j)).prio := fun hc => by
        unfold pickT at hb
        rw [hc.1, hc.2.1, decide_eq_true hc.2.2, Bool.true_and, Bool.true_and, Bool.true_and, decide_eq_false_iff_not] at hb
        omega
      rcases ih with ⟨e, ih⟩ | ⟨a, b, d, ih⟩
      · rw [e] at np ⊢
        refine .inl ⟨rfl, fun k h1 h2 hc => ?_⟩
        by_cases ek : k = 7 - j
        · subst ek
          have := np hc
          rw [h.p0] at this
          have := hc.2.2
          omega
        · exact ih k (by omega) h2 hc
      · refine .inr ⟨by omega, b, d, fun k h1 h2 hc => ?_⟩
        by_cases ek : k = 7 - j
        · subst ek
          exact .inl (np hc)
        · exact ih k (by omega) h2 hc
    · rw [if_pos rfl]
      unfold pickT at hb
      simp only [Bool.and_eq_true, decide_eq_true_eq] at hb
      obtain ⟨⟨⟨w1, w2⟩, w3⟩, w4⟩ := hb
      refine .inr ⟨by omega, by omega, ⟨w1, w2, w3⟩, fun k h1 h2 hc => ?_⟩
      by_cases ek : k = 7 - j
      · subst ek; exact .inr ⟨rfl, Nat.le_refl _⟩
      · rcases ih with ⟨e, ih⟩ | ⟨a, b, d, ih⟩
        · exact absurd hc (ih k (by omega) h2)
        · have := ih k (by omega) h2 hc
          omega
theorem top_best {s : RSt} (h : Dvs s) (c : Nat) : topT s c 7 = bestR s c 7 := (top_most h c 7 (Nat.le_refl _)).eq (best_most h c 7)
theorem topT_le (s : RSt) (c : Nat) : ∀ j, topT s c j ≤ 7 := by
  intro j
  induction j with
  | zero => exact Nat.zero_le _
  | succ j ih =>
    unfold topT
    split
    · omega
    · exact ih

-- pending or in service
/-- None is pending and in service; a line that is high is one of the two. -/
structure Ex (s : RSt) : Prop where
  n : ∀ i, ¬ ((srcAt s i).waits = true ∧ (srcAt s i).served = true)
  h : ∀ i, (srcAt s i).high = true → (srcAt s i).waits = true ∨ (srcAt s i).served = true
theorem Ex.marks {s : RSt} (D : Dvs s) (h : Ex s) (m : Nat) (hm : m < 8) (f : Srce) (h1 : ¬ (f.waits = true ∧ f.served = true)) (h2 : f.high = true → f.waits = true ∨ f.served = true) : Ex { s with src := s.src.set m f } := by
  have hl : m < s.src.length := by rw [D.nsrc]; exact hm
  constructor
  · intro i
    rw [src_set s m f i hl]
    split
    · exact h1
    · exact h.n i
  · intro i
    rw [src_set s m f i hl]
    split
    · exact h2
    · exact h.h i
theorem Ex.claim {s : RSt} (D : Dvs s) (h : Ex s) (m : Nat) (hm : m ≤ 7) : Ex (claimS s m) := by
  unfold claimS
  split
  · exact h
  · rw [claim_marks D m (by omega)]
    exact h.marks D m (by omega) _ (fun e => by cases e.1) (fun _ => .inr rfl)
theorem Ex.compl {s : RSt} (D : Dvs s) (h : Ex s) (c : Nat) (v : Int) : Ex (complR s c v) := by
  unfold complR
  split
  · exact h
  · split
    · exact h
    · split
      · rw [compl_marks D _ (by omega)]
        refine h.marks D _ (by omega) _ (fun e => by cases e.2) (fun e => .inl ?_)
        show ((srcAt s v.toNat).high || (srcAt s v.toNat).waits) = true
        rw [show (srcAt s v.toNat).high = true from e]
        rfl
      · exact h
theorem Ex.line {s : RSt} (D : Dvs s) (h : Ex s) (k : Nat) (h7 : k ≤ 7) (hi : Bool) : Ex (lineR s k hi) := by
  have hl : k < s.src.length := by rw [D.nsrc]; omega
  unfold lineR
  split
  · split
    · rename_i z
      exact h.marks D k (by omega) _ (h.n k) (fun _ => .inr z)
    · rename_i z
      have e : setW (setH s k true) k true = { s with src := s.src.set k { srcAt s k with waits := true, high := true } } := by
        unfold setW setH
        simp only [List.set_set]
        rw [src_set s k _ k hl, if_pos rfl]
      rw [e]
      exact h.marks D k (by omega) _ (fun e => z e.2) (fun _ => .inl rfl)
  · exact h.marks D k (by omega) _ (h.n k) (fun e => by cases e)
theorem Ex.prio {s : RSt} (D : Dvs s) (h : Ex s) (m : Nat) (hm : m < 8) (v : Int) : Ex (setP s m v) := h.marks D m hm _ (h.n m) (h.h m)
theorem Ex.same {s s' : RSt} (h : Ex s) (e : s'.src = s.src) : Ex s' := by
  have k : ∀ i, srcAt s' i = srcAt s i := fun i => by unfold srcAt; rw [e]
  exact ⟨fun i => by rw [k]; exact h.n i, fun i => by rw [k]; exact h.h i⟩
theorem Ex.dev {s : RSt} (D : Dvs s) (h : Ex s) (a : Nat) : Ex (devR s a).1 := by
  have r0 := bestR_le s 0 7
  have r1 := bestR_le s 1 7
  unfold devR
  by_cases c0 : a = 4096
  · rw [if_pos c0]; exact h
  rw [if_neg c0]
  by_cases c1 : a = 4100
  · rw [if_pos c1]; exact h
  rw [if_neg c1]
  by_cases c2 : a = 4104
  · rw [if_pos c2]; exact h
  rw [if_neg c2]
  by_cases c3 : a = 8224
  · rw [if_pos c3]; exact h
  rw [if_neg c3]
  by_cases c4 : 8192 ≤ a ∧ a < 8224 ∧ a % 4 = 0
  · rw [if_pos c4]; exact h
  rw [if_neg c4]
  by_cases c5 : a = 8228
  · rw [if_pos c5]; exact h
  rw [if_neg c5]
  by_cases c6 : a = 8240
  · rw [if_pos c6]; exact h
  rw [if_neg c6]
  by_cases c7 : a = 8244
  · rw [if_pos c7]; exact h.claim D _ r0
  rw [if_neg c7]
  by_cases c8 : a = 8232
  · rw [if_pos c8]; exact h
  rw [if_neg c8]
  by_cases c9 : a = 8248
  · rw [if_pos c9]; exact h
  rw [if_neg c9]
  by_cases c10 : a = 8252
  · rw [if_pos c10]; exact h.claim D _ r1
  rw [if_neg c10]
  exact h
theorem Ex.set {s : RSt} (D : Dvs s) (h : Ex s) (a : Nat) (v : Int) : Ex (setR s a v).1 := by
  unfold setR
  by_cases c0 : a = 4096
  · rw [if_pos c0]; exact h.same rfl
  rw [if_neg c0]
  by_cases c1 : a = 4100
  · rw [if_pos c1]; exact h.same rfl
  rw [if_neg c1]
  by_cases c2 : a = 4104
  · rw [if_pos c2]; exact h.same rfl
  rw [if_neg c2]
  by_cases c3 : a = 8224
  · rw [if_pos c3]; exact h.same rfl
  rw [if_neg c3]
  by_cases c4 : a = 8192
  · rw [if_pos c4]; exact h.same rfl
  rw [if_neg c4]
  by_cases c5 : 8192 < a ∧ a < 8224 ∧ a % 4 = 0
  · rw [if_pos c5]; exact h.prio D _ (by omega) _
  rw [if_neg c5]
  by_cases c6 : a = 8228
  · rw [if_pos c6]; exact h.same rfl
  rw [if_neg c6]
  by_cases c7 : a = 8240
  · rw [if_pos c7]; exact h.same rfl
  rw [if_neg c7]
  by_cases c8 : a = 8244
  · rw [if_pos c8]; exact h.compl D _ _
  rw [if_neg c8]
  by_cases c9 : a = 8232
  · rw [if_pos c9]; exact h.same rfl
  rw [if_neg c9]
  by_cases c10 : a = 8248
  · rw [if_pos c10]; exact h.same rfl
  rw [if_neg c10]
  by_cases c11 : a = 8252
  · rw [if_pos c11]; exact h.compl D _ _
  rw [if_neg c11]
  exact h

-- bits of the masks
theorem mk7_even : ∀ a b c d e f g : Bool, mk7 a b c d e f g % 2 = 0 := by decide +kernel
theorem mk_tb (f : Nat → Bool) (j : Nat) : (mk f 7).toNat.testBit j = (decide (1 ≤ j ∧ j ≤ 7) && f j) := by
  have r := (mk7_bits (f 1) (f 2) (f 3) (f 4) (f 5) (f 6) (f 7)).1
  rw [← mk_eq] at r
  have e : ((mk f 7).toNat : Int) = mk f 7 := by omega
  by_cases h : 1 ≤ j ∧ j ≤ 7
  · rw [decide_eq_true h, Bool.true_and, ← mk_bit f j h.1 (by omega), ← isB_tb _ j (by omega), e]
  · rw [decide_eq_false h, Bool.false_and]
    by_cases h0 : j = 0
    · subst h0
      rw [Nat.testBit_zero]
      have := mk7_even (f 1) (f 2) (f 3) (f 4) (f 5) (f 6) (f 7)
      rw [← mk_eq] at this
      simp
      omega
    · exact Nat.testBit_lt_two_pow (Nat.lt_of_lt_of_le (show (mk f 7).toNat < 2 ^ 8 by omega) (Nat.pow_le_pow_right (by decide) (by omega)))
theorem Ex.and {s : RSt} (h : Ex s) : bits .and .u32 (cOf s).pend (cOf s).served = 0 := by
  have wp : W32 (cOf s).pend := mk_w (fun i => (srcAt s i).waits)
  have ws : W32 (cOf s).served := mk_w (fun i => (srcAt s i).served)
  rw [u32_and _ _ wp.1 wp.2 ws.1 ws.2]
  have e : (cOf s).pend.toNat &&& (cOf s).served.toNat = 0 := by
    apply Nat.eq_of_testBit_eq
    intro j
    rw [Nat.testBit_and, show (cOf s).pend.toNat.testBit j = (decide (1 ≤ j ∧ j ≤ 7) && (srcAt s j).waits) from mk_tb (fun i => (srcAt s i).waits) j, show (cOf s).served.toNat.testBit j = (decide (1 ≤ j ∧ j ≤ 7) && (srcAt s j).served) from mk_tb (fun i => (srcAt s i).served) j, Nat.zero_testBit]
    have := h.n j
    cases hw : (srcAt s j).waits <;> cases hv : (srcAt s j).served <;> simp_all
  rw [e]
  rfl
theorem Ex.level {s : RSt} (h : Ex s) : bits .andNot .u32 (bits .andNot .u32 (cOf s).level (cOf s).served) (cOf s).pend = 0 := by
  have wp : W32 (cOf s).pend := mk_w (fun i => (srcAt s i).waits)
  have ws : W32 (cOf s).served := mk_w (fun i => (srcAt s i).served)
  have wl : W32 (cOf s).level := mk_w (fun i => (srcAt s i).high)
  have w2 := wl.andNot ws
  rw [u32_andNot _ _ w2.1 w2.2 wp.1 wp.2, u32_andNot _ _ wl.1 wl.2 ws.1 ws.2]
  have nb : ∀ (m j : Nat), m < 4294967296 → (4294967295 - m).testBit j = (decide (j < 32) && !m.testBit j) := fun m j hm => by
    rw [show 4294967295 - m = 2 ^ 32 - (m + 1) by omega, Nat.testBit_two_pow_sub_succ (by omega)]
  have e : ((((cOf s).level.toNat &&& (4294967295 - (cOf s).served.toNat) : Nat) : Int)).toNat &&& (4294967295 - (cOf s).pend.toNat) = 0 := by
    apply Nat.eq_of_testBit_eq
    intro j
    rw [Int.toNat_natCast, Nat.testBit_and, Nat.testBit_and, nb _ _ (by have := ws.2; omega), nb _ _ (by have := wp.2; omega), show (cOf s).pend.toNat.testBit j = (decide (1 ≤ j ∧ j ≤ 7) && (srcAt s j).waits) from mk_tb (fun i => (srcAt s i).waits) j, show (cOf s).served.toNat.testBit j = (decide (1 ≤ j ∧ j ≤ 7) && (srcAt s j).served) from mk_tb (fun i => (srcAt s i).served) j, show (cOf s).level.toNat.testBit j = (decide (1 ≤ j ∧ j ≤ 7) && (srcAt s j).high) from mk_tb (fun i => (srcAt s i).high) j, Nat.zero_testBit]
    have := h.h j
    cases hw : (srcAt s j).waits <;> cases hv : (srcAt s j).served <;> cases hh : (srcAt s j).high <;> cases hd : decide (1 ≤ j ∧ j ≤ 7) <;> simp_all
  rw [e]
  rfl
theorem mip_bits : ∀ b1 b2 b3 b4 : Bool, isB (orIf b4 (orIf b3 (orIf b2 (orIf b1 0 8) 128) 2048) 512) 11 = b3 ∧ isB (orIf b4 (orIf b3 (orIf b2 (orIf b1 0 8) 128) 2048) 512) 9 = b4 := by decide +kernel
theorem mip_asks {c : CSt} (h : c.written = 0) : isB (mipC c) 11 = askC c.pend c.en0 c.li0 c.prio ∧ isB (mipC c) 9 = askC c.pend c.en1 c.li1 c.prio := by
  unfold mipC
  rw [h]
  exact mip_bits _ _ _ _
/-- What the law's own loop has found behind 1, .., k. -/
def askT (pend en lim : Int) (prio : List Int) : Nat → Bool
  | 0 => false
  | k + 1 => askT pend en lim prio k || (isB pend (k + 1) && isB en (k + 1) && decide (lim < prio[k + 1]?.getD 0))
theorem askT_eq {pend en lim : Int} {prio : List Int} (hp : W32 pend) (he : W32 en) : askT pend en lim prio 7 = askC pend en lim prio := by
  have e : ∀ k, askB pend en lim prio k = (isB pend k && isB en k && decide (lim < prio[k]?.getD 0)) := fun k => by
    unfold askB
    rw [show (bits .and .u32 (bits .and .u32 pend en / 2 ^ k) 1 == 1) = (isB pend k && isB en k) from isB_and _ _ hp he k]
  unfold askC
  simp only [e]
  simp [askT, List.range, List.range.loop, Bool.or_assoc]
end Go.Proofs.Yteiideeechnekaa
