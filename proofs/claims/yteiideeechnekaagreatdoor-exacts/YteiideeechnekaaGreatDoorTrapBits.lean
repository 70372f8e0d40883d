/-
  Bits of mstatus, in plain numbers; what the code's functions make of its computer.
-/
import Derived.Test.YteiideeechnekaaGreatDoorRefTrap
namespace Go.Proofs.YteiideeechnekaaGreatDoor
open Go.RowKit

def msF (sie mieb spie mpie tw tsr : Bool) (spp mpp : Int) : Int :=
  bits .or .u32 (bits .or .u32 (bits .or .u32 (bits .or .u32 (bits .or .u32 (bits .or .u32 (bits .or .u32 (oneV sie 2) (oneV mieb 8)) (oneV spie 32)) (oneV mpie 128)) (oneV tw 2097152)) (oneV tsr 4194304)) (spp * 256)) (mpp * 2048)
def mixV (old v mask : Int) : Int := bits .or .u32 (bits .andNot .u32 old mask) (bits .and .u32 v mask)
def layV (m en er wm pl : Int) (was : Int) : Int :=
  mixV (if (bits .and .u32 m en != 0) = true then bits .or .u32 (bits .andNot .u32 m (bits .or .u32 en er)) er else bits .andNot .u32 m (bits .or .u32 en er)) (was * 2 ^ pl.toNat % 4294967296) wm
def backV (m en er wm : Int) : Int :=
  bits .or .u32 (if (bits .and .u32 m er != 0) = true then bits .or .u32 (bits .andNot .u32 m (bits .or .u32 en wm)) en else bits .andNot .u32 m (bits .or .u32 en wm)) er

theorem lay_s : ∀ (a b c d e f : Bool) (i : Fin 2) (j : Fin 4) (k : Fin 2), layV (msF a b c d e f (i.val : Int) (j.val : Int)) 2 32 256 8 (k.val : Int) = msF false b a d e f (k.val : Int) (j.val : Int) := by decide +kernel
theorem lay_m : ∀ (a b c d e f : Bool) (i : Fin 2) (j : Fin 4) (k : Fin 4), layV (msF a b c d e f (i.val : Int) (j.val : Int)) 8 128 6144 11 (k.val : Int) = msF a false c b e f (i.val : Int) (k.val : Int) := by decide +kernel
theorem back_s : ∀ (a b c d e f : Bool) (i : Fin 2) (j : Fin 4), backV (msF a b c d e f (i.val : Int) (j.val : Int)) 2 32 256 = msF c b true d e f 0 (j.val : Int) ∧ bits .and .u32 (msF a b c d e f (i.val : Int) (j.val : Int)) 256 / 256 = (i.val : Int) := by decide +kernel
theorem back_m : ∀ (a b c d e f : Bool) (i : Fin 2) (j : Fin 4), backV (msF a b c d e f (i.val : Int) (j.val : Int)) 8 128 6144 = msF a d c true e f (i.val : Int) 0 ∧ bits .and .u32 (msF a b c d e f (i.val : Int) (j.val : Int)) 6144 / 2048 = (j.val : Int) := by decide +kernel
theorem isB_tb (n i : Nat) (h : n < 4294967296) : isB (n : Int) i = n.testBit i := by
  have e : ((n : Int) / 2 ^ i) = ((n / 2 ^ i : Nat) : Int) := by simp
  unfold isB
  rw [e, show (1 : Int) = ((1 : Nat) : Int) from rfl, u32_and_nat _ 1 (Nat.lt_of_le_of_lt (Nat.div_le_self _ _) h) (by decide)]
  rw [Nat.testBit, Nat.shiftRight_eq_div_pow, Nat.and_comm (n / 2 ^ i) 1]
  have : 1 &&& n / 2 ^ i = 0 ∨ 1 &&& n / 2 ^ i = 1 := by
    rw [Nat.and_comm, Nat.and_one_is_mod]; omega
  rcases this with h | h <;> rw [h] <;> rfl
theorem bit_div (n i : Nat) : n / 2 ^ i % 2 = (n.testBit i).toNat := by
  rw [Nat.testBit_eq_decide_div_mod_eq]
  have : n / 2 ^ i % 2 = 0 ∨ n / 2 ^ i % 2 = 1 := by omega
  rcases this with h | h <;> rw [h] <;> rfl
theorem and_2pow (n i : Nat) : n &&& 2 ^ i = (n.testBit i).toNat * 2 ^ i := by
  apply Nat.eq_of_testBit_eq
  intro k
  rw [Nat.testBit_and, Nat.testBit_two_pow]
  by_cases e : i = k
  · subst e
    cases h : n.testBit i <;> simp
  · cases h : n.testBit i <;> simp [e]
def tb (n i : Nat) : Nat := (n.testBit i).toNat * 2 ^ i
theorem and_ss (n : Nat) : n &&& 290 = tb n 1 ||| tb n 5 ||| tb n 8 := by
  rw [show (290 : Nat) = 2 ^ 1 ||| 2 ^ 5 ||| 2 ^ 8 from rfl]
  simp only [Nat.and_or_distrib_left, and_2pow, tb]
theorem and_ms (n : Nat) : n &&& 6298026 = tb n 1 ||| tb n 3 ||| tb n 5 ||| tb n 7 ||| tb n 8 ||| tb n 11 ||| tb n 12 ||| tb n 21 ||| tb n 22 := by
  rw [show (6298026 : Nat) = 2 ^ 1 ||| 2 ^ 3 ||| 2 ^ 5 ||| 2 ^ 7 ||| 2 ^ 8 ||| 2 ^ 11 ||| 2 ^ 12 ||| 2 ^ 21 ||| 2 ^ 22 from rfl]
  simp only [Nat.and_or_distrib_left, and_2pow, tb]
theorem and_mt (n : Nat) : n &&& 6291882 = tb n 1 ||| tb n 3 ||| tb n 5 ||| tb n 7 ||| tb n 8 ||| tb n 21 ||| tb n 22 := by
  rw [show (6291882 : Nat) = 2 ^ 1 ||| 2 ^ 3 ||| 2 ^ 5 ||| 2 ^ 7 ||| 2 ^ 8 ||| 2 ^ 21 ||| 2 ^ 22 from rfl]
  simp only [Nat.and_or_distrib_left, and_2pow, tb]
theorem and_mp (n : Nat) : n &&& 6144 = tb n 11 ||| tb n 12 := by
  rw [show (6144 : Nat) = 2 ^ 11 ||| 2 ^ 12 from rfl]
  simp only [Nat.and_or_distrib_left, and_2pow, tb]
def tB (b : Bool) (i : Nat) : Nat := b.toNat * 2 ^ i
theorem ss_fin : ∀ (a b c d e f : Bool) (i : Fin 2) (j : Fin 4) (x y z : Bool), bits .or .u32 (bits .andNot .u32 (msF a b c d e f (i.val : Int) (j.val : Int)) 290) ((tB x 1 ||| tB y 5 ||| tB z 8 : Nat) : Int) = msF x b y d e f (z.toNat : Int) (j.val : Int) := by decide +kernel
theorem ms_zero : ∀ (a b c d e f : Bool) (i : Fin 2) (j : Fin 4), bits .andNot .u32 (msF a b c d e f (i.val : Int) (j.val : Int)) 6298026 = 0 ∧ bits .andNot .u32 (msF a b c d e f (i.val : Int) (j.val : Int)) 6291882 = (j.val : Int) * 2048 := by decide +kernel
theorem ms_fin : ∀ (a b c d z l m e f : Bool), bits .or .u32 0 ((tB a 1 ||| tB b 3 ||| tB c 5 ||| tB d 7 ||| tB z 8 ||| tB l 11 ||| tB m 12 ||| tB e 21 ||| tB f 22 : Nat) : Int) = msF a b c d e f (z.toNat : Int) ((l.toNat + 2 * m.toNat : Nat) : Int) := by decide +kernel
theorem mt_fin : ∀ (j : Fin 4) (a b c d z e f : Bool), bits .or .u32 ((j.val : Int) * 2048) ((tB a 1 ||| tB b 3 ||| tB c 5 ||| tB d 7 ||| tB z 8 ||| tB e 21 ||| tB f 22 : Nat) : Int) = msF a b c d e f (z.toNat : Int) (j.val : Int) := by decide +kernel
theorem mp_fin : ∀ (l m : Bool), ((((tB l 11 ||| tB m 12 : Nat) : Int) == 4096) = (((l.toNat + 2 * m.toNat : Nat) : Int) == 2)) := by decide
theorem set_ss (a b c d e f : Bool) (spp mpp v : Int) (hs : spp = 0 ∨ spp = 1) (hm : mpp = 0 ∨ mpp = 1 ∨ mpp = 3) (v0 : 0 ≤ v) (v1 : v < 4294967296) :
    mixV (msF a b c d e f spp mpp) v 290 = msF (isB v 1) b (isB v 5) d e f (v / 256 % 2) mpp := by
  obtain ⟨n, rfl⟩ : ∃ n : Nat, v = n := ⟨v.toNat, by omega⟩
  have h : n < 4294967296 := by omega
  obtain ⟨i, rfl⟩ : ∃ i : Fin 2, spp = (i.val : Int) := by rcases hs with rfl | rfl; exact ⟨0, rfl⟩; exact ⟨1, rfl⟩
  obtain ⟨j, rfl⟩ : ∃ j : Fin 4, mpp = (j.val : Int) := by rcases hm with rfl | rfl | rfl; exact ⟨0, rfl⟩; exact ⟨1, rfl⟩; exact ⟨3, rfl⟩
  have e8 : (n : Int) / 256 % 2 = ((n.testBit 8).toNat : Int) := by rw [← bit_div n 8]; simp
  unfold mixV
  rw [show (290 : Int) = ((290 : Nat) : Int) from rfl, u32_and_nat n 290 h (by decide), and_ss, isB_tb n 1 h, isB_tb n 5 h, e8]
  exact ss_fin a b c d e f i j (n.testBit 1) (n.testBit 5) (n.testBit 8)
theorem mp_eq (n : Nat) (h : n < 4294967296) : (bits .and .u32 (n : Int) 6144 == 4096) = ((n : Int) / 2048 % 4 == 2) := by
  have e : (n : Int) / 2048 % 4 = (((n.testBit 11).toNat + 2 * (n.testBit 12).toNat : Nat) : Int) := by
    rw [← bit_div n 11, ← bit_div n 12]; simp; omega
  rw [show (6144 : Int) = ((6144 : Nat) : Int) from rfl, u32_and_nat n 6144 h (by decide), and_mp, e]
  exact mp_fin (n.testBit 11) (n.testBit 12)
def keptV (v : Int) : Int := if (bits .and .u32 v 6144 == 4096) = true then 6291882 else 6298026
theorem set_ms (a b c d e f : Bool) (spp mpp v : Int) (hs : spp = 0 ∨ spp = 1) (hm : mpp = 0 ∨ mpp = 1 ∨ mpp = 3) (v0 : 0 ≤ v) (v1 : v < 4294967296) :
    mixV (msF a b c d e f spp mpp) v (keptV v) = msF (isB v 1) (isB v 3) (isB v 5) (isB v 7) (isB v 21) (isB v 22) (v / 256 % 2) (if (v / 2048 % 4 != 2) = true then v / 2048 % 4 else mpp) := by
  obtain ⟨n, rfl⟩ : ∃ n : Nat, v = n := ⟨v.toNat, by omega⟩
  have h : n < 4294967296 := by omega
  obtain ⟨i, rfl⟩ : ∃ i : Fin 2, spp = (i.val : Int) := by rcases hs with rfl | rfl; exact ⟨0, rfl⟩; exact ⟨1, rfl⟩
  obtain ⟨j, rfl⟩ : ∃ j : Fin 4, mpp = (j.val : Int) := by rcases hm with rfl | rfl | rfl; exact ⟨0, rfl⟩; exact ⟨1, rfl⟩; exact ⟨3, rfl⟩
  have e8 : (n : Int) / 256 % 2 = ((n.testBit 8).toNat : Int) := by rw [← bit_div n 8]; simp
  have e11 : (n : Int) / 2048 % 4 = (((n.testBit 11).toNat + 2 * (n.testBit 12).toNat : Nat) : Int) := by
    rw [← bit_div n 11, ← bit_div n 12]; simp; omega
  have z := ms_zero a b c d e f i j
  unfold mixV keptV
  rw [mp_eq n h]
  by_cases h2 : (n : Int) / 2048 % 4 = 2
  · rw [if_pos (by simpa using h2), if_neg (by simpa using h2), z.2, show (6291882 : Int) = ((6291882 : Nat) : Int) from rfl, u32_and_nat n _ h (by decide), and_mt, isB_tb n 1 h, isB_tb n 3 h, isB_tb n 5 h, isB_tb n 7 h, isB_tb n 21 h, isB_tb n 22 h, e8]
    exact mt_fin j _ _ _ _ _ _ _
  · rw [if_neg (by simpa using h2), if_pos (by simpa using h2), z.1, show (6298026 : Int) = ((6298026 : Nat) : Int) from rfl, u32_and_nat n _ h (by decide), and_ms, isB_tb n 1 h, isB_tb n 3 h, isB_tb n 5 h, isB_tb n 7 h, isB_tb n 21 h, isB_tb n 22 h, e8, e11]
    exact ms_fin _ _ _ _ _ _ _ _ _
theorem none_en (p m : Int) (p0 : 0 ≤ p) (p1 : p < 4294967296) (m0 : 0 ≤ m) (m1 : m < 4294967296) (h : bits .and .u32 p m = 0) (i : Nat) : isB p i = false ∨ isB m i = false := by
  obtain ⟨a, rfl⟩ : ∃ n : Nat, p = n := ⟨p.toNat, by omega⟩
  obtain ⟨b, rfl⟩ : ∃ n : Nat, m = n := ⟨m.toNat, by omega⟩
  rw [u32_and_nat a b (by omega) (by omega)] at h
  have h' : a &&& b = 0 := by omega
  rw [isB_tb a i (by omega), isB_tb b i (by omega)]
  have := congrArg (fun z => z.testBit i) h'
  simp [Nat.testBit_and] at this
  by_cases ha : a.testBit i = true
  · exact .inr (this ha)
  · exact .inl (by simpa using ha)
theorem tw_tsr : ∀ (a b c d e f : Bool) (i : Fin 2) (j : Fin 4), (bits .and .u32 (msF a b c d e f (i.val : Int) (j.val : Int)) 2097152 != 0) = e ∧ (bits .and .u32 (msF a b c d e f (i.val : Int) (j.val : Int)) 4194304 != 0) = f := by decide +kernel
def W32 (v : Int) : Prop := 0 ≤ v ∧ v < 4294967296
theorem W32.and {a b : Int} (ha : W32 a) (hb : W32 b) : W32 (bits .and .u32 a b) := by
  unfold W32
  rw [u32_and a b ha.1 ha.2 hb.1 hb.2]
  have : a.toNat &&& b.toNat ≤ a.toNat := Nat.and_le_left
  have := ha.1
  have := ha.2
  omega
theorem W32.or {a b : Int} (ha : W32 a) (hb : W32 b) : W32 (bits .or .u32 a b) := by
  unfold W32
  rw [u32_or a b ha.1 ha.2 hb.1 hb.2]
  have := Nat.or_lt_two_pow (n := 32) (x := a.toNat) (y := b.toNat) (by have := ha.1; have := ha.2; omega) (by have := hb.1; have := hb.2; omega)
  omega
theorem W32.andNot {a b : Int} (ha : W32 a) (hb : W32 b) : W32 (bits .andNot .u32 a b) := by
  unfold W32
  rw [u32_andNot a b ha.1 ha.2 hb.1 hb.2]
  have : a.toNat &&& (4294967295 - b.toNat) ≤ a.toNat := Nat.and_le_left
  have := ha.1
  have := ha.2
  omega
theorem W32.mix {a b c : Int} (ha : W32 a) (hb : W32 b) (hc : W32 c) : W32 (mixV a b c) := (ha.andNot hc).or (hb.and hc)
theorem W32.lit {n : Nat} (h : n < 4294967296) : W32 (n : Int) := ⟨by omega, by omega⟩
def entS (c : CSt) (cause tval : Int) : CSt := { c with sepc := c.pc, scause := cause, stval := tval, mstatus := layV c.mstatus 2 32 256 8 c.mode, mode := 1, pc := bits .and .u32 c.stvec 4294967292 }
def entM (c : CSt) (cause tval : Int) : CSt := { c with mepc := c.pc, mcause := cause, mtval := tval, mstatus := layV c.mstatus 8 128 6144 11 c.mode, mode := 3, pc := bits .and .u32 c.mtvec 4294967292 }
def supC (c : CSt) (cause : Nat) : Bool := if c.mode = 3 then false else isB c.medeleg cause
def excC (c : CSt) (cause : Nat) (tval : Int) : CSt := if supC c cause then entS c cause tval else entM c cause tval
def leaM (c : CSt) : CSt := { c with pc := c.mepc, mode := bits .and .u32 c.mstatus 6144 / 2048, mstatus := backV c.mstatus 8 128 6144 }
def leaS (c : CSt) : CSt := { c with pc := c.sepc, mode := bits .and .u32 c.mstatus 256 / 256, mstatus := backV c.mstatus 2 32 256 }
def setC (c : CSt) (n : Nat) (v : Int) : CSt :=
  if n = 256 then { c with mstatus := mixV c.mstatus v 290 }
  else if n = 260 then { c with mie := mixV c.mie v c.mideleg }
  else if n = 261 then { c with stvec := bits .and .u32 v 4294967293 }
  else if n = 320 then { c with sscratch := v }
  else if n = 321 then { c with sepc := bits .and .u32 v 4294967292 }
  else if n = 322 then { c with scause := bits .and .u32 v 2147483663 }
  else if n = 323 then { c with stval := v }
  else if n = 324 then { c with written := mixV c.written v (bits .and .u32 c.mideleg 2) }
  else if n = 768 then { c with mstatus := mixV c.mstatus v (keptV v) }
  else if n = 770 then { c with medeleg := bits .and .u32 v 943 }
  else if n = 771 then { c with mideleg := bits .and .u32 v 546 }
  else if n = 772 then { c with mie := bits .and .u32 v 2730 }
  else if n = 773 then { c with mtvec := bits .and .u32 v 4294967293 }
  else if n = 832 then { c with mscratch := v }
  else if n = 833 then { c with mepc := bits .and .u32 v 4294967292 }
  else if n = 834 then { c with mcause := bits .and .u32 v 2147483663 }
  else if n = 835 then { c with mtval := v }
  else if n = 836 then { c with written := bits .and .u32 v 34 }
  else if n = 3860 then c
  else c
end Go.Proofs.YteiideeechnekaaGreatDoor
