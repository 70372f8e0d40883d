/-
  Decode in plain arithmetic: what the word's fields are, the rows of the table, and that a row that fits is what is told.
-/
import GoSem.Claim
import Derived.Laws.BitsAllLaws
namespace Go.Proofs.YteiideeechnekaaGreatDoor.D

structure Ins where
  op : Int
  rd : Int
  r1 : Int
  r2 : Int
  imm : Int

def Ins.zero : Ins := ⟨0, 0, 0, 0, 0⟩
def Ins.val (d : Ins) : Value := .agg #[.int .i64 d.op, .int .i64 d.rd, .int .i64 d.r1, .int .i64 d.r2, .int .u32 d.imm]

def tJ (f : Nat) : Int := [4, 0, 0, 0, 0, 0, 0, 0].getD f 0
def tB (f : Nat) : Int := [5, 6, 0, 0, 7, 8, 9, 10].getD f 0
def tL (f : Nat) : Int := [11, 12, 13, 0, 14, 15, 0, 0].getD f 0
def tS (f : Nat) : Int := [16, 17, 18, 0, 0, 0, 0, 0].getD f 0
def tF (f : Nat) : Int := [38, 0, 0, 0, 0, 0, 0, 0].getD f 0
def tI (f : Nat) : Int := [19, 0, 20, 21, 22, 0, 23, 24].getD f 0
def tH0 (f : Nat) : Int := [0, 25, 0, 0, 0, 26, 0, 0].getD f 0
def tH2 (f : Nat) : Int := [0, 0, 0, 0, 0, 27, 0, 0].getD f 0
def tR0 (f : Nat) : Int := [28, 30, 31, 32, 33, 34, 36, 37].getD f 0
def tR2 (f : Nat) : Int := [29, 0, 0, 0, 0, 35, 0, 0].getD f 0
def tC (f : Nat) : Int := [0, 44, 45, 46, 0, 47, 48, 49].getD f 0

def immI (w : Int) : Int := w / 2147483648 * 4294963200 + w / 1048576
def immS (w : Int) : Int := w / 2147483648 * 4294963200 + w / 33554432 * 32 + w / 128 % 32
def immB (w : Int) : Int := w / 2147483648 * 4294963200 + w / 128 % 2 * 2048 + w / 33554432 % 64 * 32 + w / 256 % 16 * 2
def immJ (w : Int) : Int := w / 2147483648 * 4293918720 + w / 4096 % 256 * 4096 + w / 1048576 % 2 * 2048 + w / 2097152 % 1024 * 2
def pick7 (w a b : Int) : Int := if w / 33554432 = 0 then a else if w / 33554432 = 32 then b else 0
def f3 (w : Int) : Nat := (w / 4096 % 8).toNat

def apartI (w : Int) : Ins :=
  if w % 128 = 55 then ⟨1, w / 128 % 32, 0, 0, w / 4096 * 4096⟩
  else if w % 128 = 23 then ⟨2, w / 128 % 32, 0, 0, w / 4096 * 4096⟩
  else if w % 128 = 111 then ⟨3, w / 128 % 32, 0, 0, immJ w⟩
  else if w % 128 = 103 then ⟨tJ (f3 w), w / 128 % 32, w / 32768 % 32, 0, immI w⟩
  else if w % 128 = 99 then ⟨tB (f3 w), 0, w / 32768 % 32, w / 1048576 % 32, immB w⟩
  else if w % 128 = 3 then ⟨tL (f3 w), w / 128 % 32, w / 32768 % 32, 0, immI w⟩
  else if w % 128 = 35 then ⟨tS (f3 w), 0, w / 32768 % 32, w / 1048576 % 32, immS w⟩
  else if w % 128 = 19 then
    if tI (f3 w) = 0 then ⟨pick7 w (tH0 (f3 w)) (tH2 (f3 w)), w / 128 % 32, w / 32768 % 32, 0, w / 1048576 % 32⟩
    else ⟨tI (f3 w), w / 128 % 32, w / 32768 % 32, 0, immI w⟩
  else if w % 128 = 51 then ⟨pick7 w (tR0 (f3 w)) (tR2 (f3 w)), w / 128 % 32, w / 32768 % 32, w / 1048576 % 32, 0⟩
  else if w % 128 = 15 then ⟨tF (f3 w), 0, 0, 0, 0⟩
  else if w % 128 = 115 then
    if w = 115 then ⟨39, 0, 0, 0, 0⟩ else if w = 1048691 then ⟨40, 0, 0, 0, 0⟩ else if w = 270532723 then ⟨42, 0, 0, 0, 0⟩
    else if w = 273678451 then ⟨43, 0, 0, 0, 0⟩ else if w = 807403635 then ⟨41, 0, 0, 0, 0⟩
    else ⟨tC (f3 w), w / 128 % 32, w / 32768 % 32, 0, w / 1048576⟩
  else Ins.zero

def dec (w : Int) : Ins := if (apartI w).op = 0 then Ins.zero else apartI w

def rop (k : Nat) : Int := [1, 2, 3, 4, 5, 6, 7, 8, 9, 10, 11, 12, 13, 14, 15, 16, 17, 18, 19, 20, 21, 22, 23, 24, 25, 26, 27, 28, 29, 30, 31, 32, 33, 34, 35, 36, 37, 38, 44, 45, 46, 47, 48, 49, 39, 40, 42, 43, 41].getD k 0
def rmask (k : Nat) : Int := [127, 127, 127, 28799, 28799, 28799, 28799, 28799, 28799, 28799, 28799, 28799, 28799, 28799, 28799, 28799, 28799, 28799, 28799, 28799, 28799, 28799, 28799, 28799, 4261441663, 4261441663, 4261441663, 4261441663, 4261441663, 4261441663, 4261441663, 4261441663, 4261441663, 4261441663, 4261441663, 4261441663, 4261441663, 28799, 28799, 28799, 28799, 28799, 28799, 28799, 4294967295, 4294967295, 4294967295, 4294967295, 4294967295].getD k 0
def rmatch (k : Nat) : Int := [55, 23, 111, 103, 99, 4195, 16483, 20579, 24675, 28771, 3, 4099, 8195, 16387, 20483, 35, 4131, 8227, 19, 8211, 12307, 16403, 24595, 28691, 4115, 20499, 1073762323, 51, 1073741875, 4147, 8243, 12339, 16435, 20531, 1073762355, 24627, 28723, 15, 4211, 8307, 12403, 20595, 24691, 28787, 115, 1048691, 270532723, 273678451, 807403635].getD k 0
def rform (k : Nat) : Int := [85, 85, 74, 73, 66, 66, 66, 66, 66, 66, 73, 73, 73, 73, 73, 83, 83, 83, 73, 73, 73, 73, 73, 73, 72, 72, 72, 82, 82, 82, 82, 82, 82, 82, 82, 82, 82, 78, 67, 67, 67, 67, 67, 67, 78, 78, 78, 78, 78].getD k 0
def immF (w form : Int) : Int :=
  if form = 73 then immI w else if form = 83 then immS w else if form = 66 then immB w else if form = 85 then w / 4096 * 4096
  else if form = 74 then immJ w else if form = 72 then w / 1048576 % 32 else if form = 67 then w / 1048576 else 0
def mkI (w : Int) (k : Nat) : Ins :=
  ⟨rop k, if rform k ≠ 83 ∧ rform k ≠ 66 ∧ rform k ≠ 78 then w / 128 % 32 else 0, if rform k ≠ 85 ∧ rform k ≠ 74 ∧ rform k ≠ 78 then w / 32768 % 32 else 0,
    if rform k = 82 ∨ rform k = 83 ∨ rform k = 66 then w / 1048576 % 32 else 0, immF w (rform k)⟩
def hit (w : Int) (k : Nat) : Prop := bits .and .u32 w (rmask k) = rmatch k

theorem and_split (x i : Nat) (m : Nat) : x &&& (m <<< i) = (x / 2 ^ i &&& m) * 2 ^ i := by
  rw [← Nat.shiftRight_eq_div_pow, ← Nat.shiftLeft_eq]
  apply Nat.eq_of_testBit_eq
  intro j
  simp only [Nat.testBit_and, Nat.testBit_shiftLeft, Nat.testBit_shiftRight]
  by_cases h : i ≤ j
  · simp [h, show i + (j - i) = j by omega]
  · simp [h]
theorem and_A (x : Nat) : x &&& 127 = x % 128 := Nat.and_two_pow_sub_one_eq_mod x 7
theorem and_B (x : Nat) : x &&& 28799 = x % 128 + x / 4096 % 8 * 4096 := by
  rw [show (28799 : Nat) = (7 <<< 12) ||| 127 by decide, Nat.and_or_distrib_left, and_split, and_A, show x / 2 ^ 12 &&& 7 = x / 4096 % 8 from Nat.and_two_pow_sub_one_eq_mod (x / 4096) 3]
  rw [nat_join 12 _ _ (by omega) (by omega)]
  omega
theorem and_C (x : Nat) (hx : x < 4294967296) : x &&& 4261441663 = x % 128 + x / 4096 % 8 * 4096 + x / 33554432 * 33554432 := by
  rw [show (4261441663 : Nat) = (127 <<< 25) ||| 28799 by decide, Nat.and_or_distrib_left, and_split, and_B, show x / 2 ^ 25 &&& 127 = x / 33554432 % 128 from Nat.and_two_pow_sub_one_eq_mod (x / 33554432) 7]
  rw [nat_join 25 _ _ (by omega) (by omega)]
  omega
theorem and_D (x : Nat) (hx : x < 4294967296) : x &&& 4294967295 = x := by
  rw [show (4294967295 : Nat) = 2 ^ 32 - 1 by decide, Nat.and_two_pow_sub_one_eq_mod]; omega

theorem band (w : Int) (m : Nat) (h0 : 0 ≤ w) (h1 : w < 4294967296) (hm : m < 4294967296) : bits .and .u32 w (m : Int) = ((w.toNat &&& m : Nat) : Int) := by
  rw [u32_and w m h0 h1 (by omega) (by omega)]; simp
theorem band_A (w : Int) (h0 : 0 ≤ w) (h1 : w < 4294967296) : bits .and .u32 w 127 = w % 128 := by
  have := band w 127 h0 h1 (by decide); rw [and_A] at this; rw [show (127 : Int) = ((127 : Nat) : Int) from rfl, this]; omega
theorem band_B (w : Int) (h0 : 0 ≤ w) (h1 : w < 4294967296) : bits .and .u32 w 28799 = w % 128 + w / 4096 % 8 * 4096 := by
  have := band w 28799 h0 h1 (by decide); rw [and_B] at this; rw [show (28799 : Int) = ((28799 : Nat) : Int) from rfl, this]; omega
theorem band_C (w : Int) (h0 : 0 ≤ w) (h1 : w < 4294967296) : bits .and .u32 w 4261441663 = w % 128 + w / 4096 % 8 * 4096 + w / 33554432 * 33554432 := by
  have := band w 4261441663 h0 h1 (by decide); rw [and_C _ (by omega)] at this; rw [show (4261441663 : Int) = ((4261441663 : Nat) : Int) from rfl, this]; omega
theorem band_D (w : Int) (h0 : 0 ≤ w) (h1 : w < 4294967296) : bits .and .u32 w 4294967295 = w := by
  have := band w 4294967295 h0 h1 (by decide); rw [and_D _ (by omega)] at this; rw [show (4294967295 : Int) = ((4294967295 : Nat) : Int) from rfl, this]; omega
theorem hit_0 (w : Int) (h0 : 0 ≤ w) (h1 : w < 4294967296) : hit w 0 ↔ w % 128 = 55 := by
  have := band_A w h0 h1
  show bits .and .u32 w 127 = 55 ↔ _
  rw [this]
theorem hit_1 (w : Int) (h0 : 0 ≤ w) (h1 : w < 4294967296) : hit w 1 ↔ w % 128 = 23 := by
  have := band_A w h0 h1
  show bits .and .u32 w 127 = 23 ↔ _
  rw [this]
theorem hit_2 (w : Int) (h0 : 0 ≤ w) (h1 : w < 4294967296) : hit w 2 ↔ w % 128 = 111 := by
  have := band_A w h0 h1
  show bits .and .u32 w 127 = 111 ↔ _
  rw [this]
theorem hit_3 (w : Int) (h0 : 0 ≤ w) (h1 : w < 4294967296) : hit w 3 ↔ w % 128 = 103 ∧ w / 4096 % 8 = 0 := by
  have := band_B w h0 h1
  show bits .and .u32 w 28799 = 103 ↔ _
  rw [this]; omega
theorem hit_4 (w : Int) (h0 : 0 ≤ w) (h1 : w < 4294967296) : hit w 4 ↔ w % 128 = 99 ∧ w / 4096 % 8 = 0 := by
  have := band_B w h0 h1
  show bits .and .u32 w 28799 = 99 ↔ _
  rw [this]; omega
theorem hit_5 (w : Int) (h0 : 0 ≤ w) (h1 : w < 4294967296) : hit w 5 ↔ w % 128 = 99 ∧ w / 4096 % 8 = 1 := by
  have := band_B w h0 h1
  show bits .and .u32 w 28799 = 4195 ↔ _
  rw [this]; omega
theorem hit_6 (w : Int) (h0 : 0 ≤ w) (h1 : w < 4294967296) : hit w 6 ↔ w % 128 = 99 ∧ w / 4096 % 8 = 4 := by
  have := band_B w h0 h1
  show bits .and .u32 w 28799 = 16483 ↔ _
  rw [this]; omega
theorem hit_7 (w : Int) (h0 : 0 ≤ w) (h1 : w < 4294967296) : hit w 7 ↔ w % 128 = 99 ∧ w / 4096 % 8 = 5 := by
  have := band_B w h0 h1
  show bits .and .u32 w 28799 = 20579 ↔ _
  rw [this]; omega
theorem hit_8 (w : Int) (h0 : 0 ≤ w) (h1 : w < 4294967296) : hit w 8 ↔ w % 128 = 99 ∧ w / 4096 % 8 = 6 := by
  have := band_B w h0 h1
  show bits .and .u32 w 28799 = 24675 ↔ _
  rw [this]; omega
theorem hit_9 (w : Int) (h0 : 0 ≤ w) (h1 : w < 4294967296) : hit w 9 ↔ w % 128 = 99 ∧ w / 4096 % 8 = 7 := by
  have := band_B w h0 h1
  show bits .and .u32 w 28799 = 28771 ↔ _
  rw [this]; omega
theorem hit_10 (w : Int) (h0 : 0 ≤ w) (h1 : w < 4294967296) : hit w 10 ↔ w % 128 = 3 ∧ w / 4096 % 8 = 0 := by
  have := band_B w h0 h1
  show bits .and .u32 w 28799 = 3 ↔ _
  rw [this]; omega
theorem hit_11 (w : Int) (h0 : 0 ≤ w) (h1 : w < 4294967296) : hit w 11 ↔ w % 128 = 3 ∧ w / 4096 % 8 = 1 := by
  have := band_B w h0 h1
  show bits .and .u32 w 28799 = 4099 ↔ _
  rw [this]; omega
theorem hit_12 (w : Int) (h0 : 0 ≤ w) (h1 : w < 4294967296) : hit w 12 ↔ w % 128 = 3 ∧ w / 4096 % 8 = 2 := by
  have := band_B w h0 h1
  show bits .and .u32 w 28799 = 8195 ↔ _
  rw [this]; omega
theorem hit_13 (w : Int) (h0 : 0 ≤ w) (h1 : w < 4294967296) : hit w 13 ↔ w % 128 = 3 ∧ w / 4096 % 8 = 4 := by
  have := band_B w h0 h1
  show bits .and .u32 w 28799 = 16387 ↔ _
  rw [this]; omega
theorem hit_14 (w : Int) (h0 : 0 ≤ w) (h1 : w < 4294967296) : hit w 14 ↔ w % 128 = 3 ∧ w / 4096 % 8 = 5 := by
  have := band_B w h0 h1
  show bits .and .u32 w 28799 = 20483 ↔ _
  rw [this]; omega
theorem hit_15 (w : Int) (h0 : 0 ≤ w) (h1 : w < 4294967296) : hit w 15 ↔ w % 128 = 35 ∧ w / 4096 % 8 = 0 := by
  have := band_B w h0 h1
  show bits .and .u32 w 28799 = 35 ↔ _
  rw [this]; omega
theorem hit_16 (w : Int) (h0 : 0 ≤ w) (h1 : w < 4294967296) : hit w 16 ↔ w % 128 = 35 ∧ w / 4096 % 8 = 1 := by
  have := band_B w h0 h1
  show bits .and .u32 w 28799 = 4131 ↔ _
  rw [this]; omega
theorem hit_17 (w : Int) (h0 : 0 ≤ w) (h1 : w < 4294967296) : hit w 17 ↔ w % 128 = 35 ∧ w / 4096 % 8 = 2 := by
  have := band_B w h0 h1
  show bits .and .u32 w 28799 = 8227 ↔ _
  rw [this]; omega
theorem hit_18 (w : Int) (h0 : 0 ≤ w) (h1 : w < 4294967296) : hit w 18 ↔ w % 128 = 19 ∧ w / 4096 % 8 = 0 := by
  have := band_B w h0 h1
  show bits .and .u32 w 28799 = 19 ↔ _
  rw [this]; omega
theorem hit_19 (w : Int) (h0 : 0 ≤ w) (h1 : w < 4294967296) : hit w 19 ↔ w % 128 = 19 ∧ w / 4096 % 8 = 2 := by
  have := band_B w h0 h1
  show bits .and .u32 w 28799 = 8211 ↔ _
  rw [this]; omega
theorem hit_20 (w : Int) (h0 : 0 ≤ w) (h1 : w < 4294967296) : hit w 20 ↔ w % 128 = 19 ∧ w / 4096 % 8 = 3 := by
  have := band_B w h0 h1
  show bits .and .u32 w 28799 = 12307 ↔ _
  rw [this]; omega
theorem hit_21 (w : Int) (h0 : 0 ≤ w) (h1 : w < 4294967296) : hit w 21 ↔ w % 128 = 19 ∧ w / 4096 % 8 = 4 := by
  have := band_B w h0 h1
  show bits .and .u32 w 28799 = 16403 ↔ _
  rw [this]; omega
theorem hit_22 (w : Int) (h0 : 0 ≤ w) (h1 : w < 4294967296) : hit w 22 ↔ w % 128 = 19 ∧ w / 4096 % 8 = 6 := by
  have := band_B w h0 h1
  show bits .and .u32 w 28799 = 24595 ↔ _
  rw [this]; omega
theorem hit_23 (w : Int) (h0 : 0 ≤ w) (h1 : w < 4294967296) : hit w 23 ↔ w % 128 = 19 ∧ w / 4096 % 8 = 7 := by
  have := band_B w h0 h1
  show bits .and .u32 w 28799 = 28691 ↔ _
  rw [this]; omega
theorem hit_24 (w : Int) (h0 : 0 ≤ w) (h1 : w < 4294967296) : hit w 24 ↔ w % 128 = 19 ∧ w / 4096 % 8 = 1 ∧ w / 33554432 = 0 := by
  have := band_C w h0 h1
  show bits .and .u32 w 4261441663 = 4115 ↔ _
  rw [this]; omega
theorem hit_25 (w : Int) (h0 : 0 ≤ w) (h1 : w < 4294967296) : hit w 25 ↔ w % 128 = 19 ∧ w / 4096 % 8 = 5 ∧ w / 33554432 = 0 := by
  have := band_C w h0 h1
  show bits .and .u32 w 4261441663 = 20499 ↔ _
  rw [this]; omega
theorem hit_26 (w : Int) (h0 : 0 ≤ w) (h1 : w < 4294967296) : hit w 26 ↔ w % 128 = 19 ∧ w / 4096 % 8 = 5 ∧ w / 33554432 = 32 := by
  have := band_C w h0 h1
  show bits .and .u32 w 4261441663 = 1073762323 ↔ _
  rw [this]; omega
theorem hit_27 (w : Int) (h0 : 0 ≤ w) (h1 : w < 4294967296) : hit w 27 ↔ w % 128 = 51 ∧ w / 4096 % 8 = 0 ∧ w / 33554432 = 0 := by
  have := band_C w h0 h1
  show bits .and .u32 w 4261441663 = 51 ↔ _
  rw [this]; omega
theorem hit_28 (w : Int) (h0 : 0 ≤ w) (h1 : w < 4294967296) : hit w 28 ↔ w % 128 = 51 ∧ w / 4096 % 8 = 0 ∧ w / 33554432 = 32 := by
  have := band_C w h0 h1
  show bits .and .u32 w 4261441663 = 1073741875 ↔ _
  rw [this]; omega
theorem hit_29 (w : Int) (h0 : 0 ≤ w) (h1 : w < 4294967296) : hit w 29 ↔ w % 128 = 51 ∧ w / 4096 % 8 = 1 ∧ w / 33554432 = 0 := by
  have := band_C w h0 h1
  show bits .and .u32 w 4261441663 = 4147 ↔ _
  rw [this]; omega
theorem hit_30 (w : Int) (h0 : 0 ≤ w) (h1 : w < 4294967296) : hit w 30 ↔ w % 128 = 51 ∧ w / 4096 % 8 = 2 ∧ w / 33554432 = 0 := by
  have := band_C w h0 h1
  show bits .and .u32 w 4261441663 = 8243 ↔ _
  rw [this]; omega
theorem hit_31 (w : Int) (h0 : 0 ≤ w) (h1 : w < 4294967296) : hit w 31 ↔ w % 128 = 51 ∧ w / 4096 % 8 = 3 ∧ w / 33554432 = 0 := by
  have := band_C w h0 h1
  show bits .and .u32 w 4261441663 = 12339 ↔ _
  rw [this]; omega
theorem hit_32 (w : Int) (h0 : 0 ≤ w) (h1 : w < 4294967296) : hit w 32 ↔ w % 128 = 51 ∧ w / 4096 % 8 = 4 ∧ w / 33554432 = 0 := by
  have := band_C w h0 h1
  show bits .and .u32 w 4261441663 = 16435 ↔ _
  rw [this]; omega
theorem hit_33 (w : Int) (h0 : 0 ≤ w) (h1 : w < 4294967296) : hit w 33 ↔ w % 128 = 51 ∧ w / 4096 % 8 = 5 ∧ w / 33554432 = 0 := by
  have := band_C w h0 h1
  show bits .and .u32 w 4261441663 = 20531 ↔ _
  rw [this]; omega
theorem hit_34 (w : Int) (h0 : 0 ≤ w) (h1 : w < 4294967296) : hit w 34 ↔ w % 128 = 51 ∧ w / 4096 % 8 = 5 ∧ w / 33554432 = 32 := by
  have := band_C w h0 h1
  show bits .and .u32 w 4261441663 = 1073762355 ↔ _
  rw [this]; omega
theorem hit_35 (w : Int) (h0 : 0 ≤ w) (h1 : w < 4294967296) : hit w 35 ↔ w % 128 = 51 ∧ w / 4096 % 8 = 6 ∧ w / 33554432 = 0 := by
  have := band_C w h0 h1
  show bits .and .u32 w 4261441663 = 24627 ↔ _
  rw [this]; omega
theorem hit_36 (w : Int) (h0 : 0 ≤ w) (h1 : w < 4294967296) : hit w 36 ↔ w % 128 = 51 ∧ w / 4096 % 8 = 7 ∧ w / 33554432 = 0 := by
  have := band_C w h0 h1
  show bits .and .u32 w 4261441663 = 28723 ↔ _
  rw [this]; omega
theorem hit_37 (w : Int) (h0 : 0 ≤ w) (h1 : w < 4294967296) : hit w 37 ↔ w % 128 = 15 ∧ w / 4096 % 8 = 0 := by
  have := band_B w h0 h1
  show bits .and .u32 w 28799 = 15 ↔ _
  rw [this]; omega
theorem hit_38 (w : Int) (h0 : 0 ≤ w) (h1 : w < 4294967296) : hit w 38 ↔ w % 128 = 115 ∧ w / 4096 % 8 = 1 := by
  have := band_B w h0 h1
  show bits .and .u32 w 28799 = 4211 ↔ _
  rw [this]; omega
theorem hit_39 (w : Int) (h0 : 0 ≤ w) (h1 : w < 4294967296) : hit w 39 ↔ w % 128 = 115 ∧ w / 4096 % 8 = 2 := by
  have := band_B w h0 h1
  show bits .and .u32 w 28799 = 8307 ↔ _
  rw [this]; omega
theorem hit_40 (w : Int) (h0 : 0 ≤ w) (h1 : w < 4294967296) : hit w 40 ↔ w % 128 = 115 ∧ w / 4096 % 8 = 3 := by
  have := band_B w h0 h1
  show bits .and .u32 w 28799 = 12403 ↔ _
  rw [this]; omega
theorem hit_41 (w : Int) (h0 : 0 ≤ w) (h1 : w < 4294967296) : hit w 41 ↔ w % 128 = 115 ∧ w / 4096 % 8 = 5 := by
  have := band_B w h0 h1
  show bits .and .u32 w 28799 = 20595 ↔ _
  rw [this]; omega
theorem hit_42 (w : Int) (h0 : 0 ≤ w) (h1 : w < 4294967296) : hit w 42 ↔ w % 128 = 115 ∧ w / 4096 % 8 = 6 := by
  have := band_B w h0 h1
  show bits .and .u32 w 28799 = 24691 ↔ _
  rw [this]; omega
theorem hit_43 (w : Int) (h0 : 0 ≤ w) (h1 : w < 4294967296) : hit w 43 ↔ w % 128 = 115 ∧ w / 4096 % 8 = 7 := by
  have := band_B w h0 h1
  show bits .and .u32 w 28799 = 28787 ↔ _
  rw [this]; omega
theorem hit_44 (w : Int) (h0 : 0 ≤ w) (h1 : w < 4294967296) : hit w 44 ↔ w = 115 := by
  have := band_D w h0 h1
  show bits .and .u32 w 4294967295 = 115 ↔ _
  rw [this]
theorem hit_45 (w : Int) (h0 : 0 ≤ w) (h1 : w < 4294967296) : hit w 45 ↔ w = 1048691 := by
  have := band_D w h0 h1
  show bits .and .u32 w 4294967295 = 1048691 ↔ _
  rw [this]
theorem hit_46 (w : Int) (h0 : 0 ≤ w) (h1 : w < 4294967296) : hit w 46 ↔ w = 270532723 := by
  have := band_D w h0 h1
  show bits .and .u32 w 4294967295 = 270532723 ↔ _
  rw [this]
theorem hit_47 (w : Int) (h0 : 0 ≤ w) (h1 : w < 4294967296) : hit w 47 ↔ w = 273678451 := by
  have := band_D w h0 h1
  show bits .and .u32 w 4294967295 = 273678451 ↔ _
  rw [this]
theorem hit_48 (w : Int) (h0 : 0 ≤ w) (h1 : w < 4294967296) : hit w 48 ↔ w = 807403635 := by
  have := band_D w h0 h1
  show bits .and .u32 w 4294967295 = 807403635 ↔ _
  rw [this]
theorem tells_0 (w : Int) (h0 : 0 ≤ w) (h1 : w < 4294967296) (h : hit w 0) : dec w = mkI w 0 := by
  obtain hc := (hit_0 w h0 h1).1 h
  simp [dec, apartI, mkI, rop, rform, immF, hc]
theorem tells_1 (w : Int) (h0 : 0 ≤ w) (h1 : w < 4294967296) (h : hit w 1) : dec w = mkI w 1 := by
  obtain hc := (hit_1 w h0 h1).1 h
  simp [dec, apartI, mkI, rop, rform, immF, hc]
theorem tells_2 (w : Int) (h0 : 0 ≤ w) (h1 : w < 4294967296) (h : hit w 2) : dec w = mkI w 2 := by
  obtain hc := (hit_2 w h0 h1).1 h
  simp [dec, apartI, mkI, rop, rform, immF, hc]
theorem tells_3 (w : Int) (h0 : 0 ≤ w) (h1 : w < 4294967296) (h : hit w 3) : dec w = mkI w 3 := by
  obtain ⟨hc, hf⟩ := (hit_3 w h0 h1).1 h
  have e3 : f3 w = 0 := by unfold f3; rw [hf]; rfl
  simp [dec, apartI, mkI, rop, rform, immF, hc, e3, tJ]
theorem tells_4 (w : Int) (h0 : 0 ≤ w) (h1 : w < 4294967296) (h : hit w 4) : dec w = mkI w 4 := by
  obtain ⟨hc, hf⟩ := (hit_4 w h0 h1).1 h
  have e3 : f3 w = 0 := by unfold f3; rw [hf]; rfl
  simp [dec, apartI, mkI, rop, rform, immF, hc, e3, tB]
theorem tells_5 (w : Int) (h0 : 0 ≤ w) (h1 : w < 4294967296) (h : hit w 5) : dec w = mkI w 5 := by
  obtain ⟨hc, hf⟩ := (hit_5 w h0 h1).1 h
  have e3 : f3 w = 1 := by unfold f3; rw [hf]; rfl
  simp [dec, apartI, mkI, rop, rform, immF, hc, e3, tB]
theorem tells_6 (w : Int) (h0 : 0 ≤ w) (h1 : w < 4294967296) (h : hit w 6) : dec w = mkI w 6 := by
  obtain ⟨hc, hf⟩ := (hit_6 w h0 h1).1 h
  have e3 : f3 w = 4 := by unfold f3; rw [hf]; rfl
  simp [dec, apartI, mkI, rop, rform, immF, hc, e3, tB]
theorem tells_7 (w : Int) (h0 : 0 ≤ w) (h1 : w < 4294967296) (h : hit w 7) : dec w = mkI w 7 := by
  obtain ⟨hc, hf⟩ := (hit_7 w h0 h1).1 h
  have e3 : f3 w = 5 := by unfold f3; rw [hf]; rfl
  simp [dec, apartI, mkI, rop, rform, immF, hc, e3, tB]
theorem tells_8 (w : Int) (h0 : 0 ≤ w) (h1 : w < 4294967296) (h : hit w 8) : dec w = mkI w 8 := by
  obtain ⟨hc, hf⟩ := (hit_8 w h0 h1).1 h
  have e3 : f3 w = 6 := by unfold f3; rw [hf]; rfl
  simp [dec, apartI, mkI, rop, rform, immF, hc, e3, tB]
theorem tells_9 (w : Int) (h0 : 0 ≤ w) (h1 : w < 4294967296) (h : hit w 9) : dec w = mkI w 9 := by
  obtain ⟨hc, hf⟩ := (hit_9 w h0 h1).1 h
  have e3 : f3 w = 7 := by unfold f3; rw [hf]; rfl
  simp [dec, apartI, mkI, rop, rform, immF, hc, e3, tB]
theorem tells_10 (w : Int) (h0 : 0 ≤ w) (h1 : w < 4294967296) (h : hit w 10) : dec w = mkI w 10 := by
  obtain ⟨hc, hf⟩ := (hit_10 w h0 h1).1 h
  have e3 : f3 w = 0 := by unfold f3; rw [hf]; rfl
  simp [dec, apartI, mkI, rop, rform, immF, hc, e3, tL]
theorem tells_11 (w : Int) (h0 : 0 ≤ w) (h1 : w < 4294967296) (h : hit w 11) : dec w = mkI w 11 := by
  obtain ⟨hc, hf⟩ := (hit_11 w h0 h1).1 h
  have e3 : f3 w = 1 := by unfold f3; rw [hf]; rfl
  simp [dec, apartI, mkI, rop, rform, immF, hc, e3, tL]
theorem tells_12 (w : Int) (h0 : 0 ≤ w) (h1 : w < 4294967296) (h : hit w 12) : dec w = mkI w 12 := by
  obtain ⟨hc, hf⟩ := (hit_12 w h0 h1).1 h
  have e3 : f3 w = 2 := by unfold f3; rw [hf]; rfl
  simp [dec, apartI, mkI, rop, rform, immF, hc, e3, tL]
theorem tells_13 (w : Int) (h0 : 0 ≤ w) (h1 : w < 4294967296) (h : hit w 13) : dec w = mkI w 13 := by
  obtain ⟨hc, hf⟩ := (hit_13 w h0 h1).1 h
  have e3 : f3 w = 4 := by unfold f3; rw [hf]; rfl
  simp [dec, apartI, mkI, rop, rform, immF, hc, e3, tL]
theorem tells_14 (w : Int) (h0 : 0 ≤ w) (h1 : w < 4294967296) (h : hit w 14) : dec w = mkI w 14 := by
  obtain ⟨hc, hf⟩ := (hit_14 w h0 h1).1 h
  have e3 : f3 w = 5 := by unfold f3; rw [hf]; rfl
  simp [dec, apartI, mkI, rop, rform, immF, hc, e3, tL]
theorem tells_15 (w : Int) (h0 : 0 ≤ w) (h1 : w < 4294967296) (h : hit w 15) : dec w = mkI w 15 := by
  obtain ⟨hc, hf⟩ := (hit_15 w h0 h1).1 h
  have e3 : f3 w = 0 := by unfold f3; rw [hf]; rfl
  simp [dec, apartI, mkI, rop, rform, immF, hc, e3, tS]
theorem tells_16 (w : Int) (h0 : 0 ≤ w) (h1 : w < 4294967296) (h : hit w 16) : dec w = mkI w 16 := by
  obtain ⟨hc, hf⟩ := (hit_16 w h0 h1).1 h
  have e3 : f3 w = 1 := by unfold f3; rw [hf]; rfl
  simp [dec, apartI, mkI, rop, rform, immF, hc, e3, tS]
theorem tells_17 (w : Int) (h0 : 0 ≤ w) (h1 : w < 4294967296) (h : hit w 17) : dec w = mkI w 17 := by
  obtain ⟨hc, hf⟩ := (hit_17 w h0 h1).1 h
  have e3 : f3 w = 2 := by unfold f3; rw [hf]; rfl
  simp [dec, apartI, mkI, rop, rform, immF, hc, e3, tS]
theorem tells_18 (w : Int) (h0 : 0 ≤ w) (h1 : w < 4294967296) (h : hit w 18) : dec w = mkI w 18 := by
  obtain ⟨hc, hf⟩ := (hit_18 w h0 h1).1 h
  have e3 : f3 w = 0 := by unfold f3; rw [hf]; rfl
  simp [dec, apartI, mkI, rop, rform, immF, hc, e3, tI]
theorem tells_19 (w : Int) (h0 : 0 ≤ w) (h1 : w < 4294967296) (h : hit w 19) : dec w = mkI w 19 := by
  obtain ⟨hc, hf⟩ := (hit_19 w h0 h1).1 h
  have e3 : f3 w = 2 := by unfold f3; rw [hf]; rfl
  simp [dec, apartI, mkI, rop, rform, immF, hc, e3, tI]
theorem tells_20 (w : Int) (h0 : 0 ≤ w) (h1 : w < 4294967296) (h : hit w 20) : dec w = mkI w 20 := by
  obtain ⟨hc, hf⟩ := (hit_20 w h0 h1).1 h
  have e3 : f3 w = 3 := by unfold f3; rw [hf]; rfl
  simp [dec, apartI, mkI, rop, rform, immF, hc, e3, tI]
theorem tells_21 (w : Int) (h0 : 0 ≤ w) (h1 : w < 4294967296) (h : hit w 21) : dec w = mkI w 21 := by
  obtain ⟨hc, hf⟩ := (hit_21 w h0 h1).1 h
  have e3 : f3 w = 4 := by unfold f3; rw [hf]; rfl
  simp [dec, apartI, mkI, rop, rform, immF, hc, e3, tI]
theorem tells_22 (w : Int) (h0 : 0 ≤ w) (h1 : w < 4294967296) (h : hit w 22) : dec w = mkI w 22 := by
  obtain ⟨hc, hf⟩ := (hit_22 w h0 h1).1 h
  have e3 : f3 w = 6 := by unfold f3; rw [hf]; rfl
  simp [dec, apartI, mkI, rop, rform, immF, hc, e3, tI]
theorem tells_23 (w : Int) (h0 : 0 ≤ w) (h1 : w < 4294967296) (h : hit w 23) : dec w = mkI w 23 := by
  obtain ⟨hc, hf⟩ := (hit_23 w h0 h1).1 h
  have e3 : f3 w = 7 := by unfold f3; rw [hf]; rfl
  simp [dec, apartI, mkI, rop, rform, immF, hc, e3, tI]
theorem tells_24 (w : Int) (h0 : 0 ≤ w) (h1 : w < 4294967296) (h : hit w 24) : dec w = mkI w 24 := by
  obtain ⟨hc, hf, hg⟩ := (hit_24 w h0 h1).1 h
  have e3 : f3 w = 1 := by unfold f3; rw [hf]; rfl
  simp [dec, apartI, mkI, rop, rform, immF, hc, e3, hg, tI, pick7, tH0]
theorem tells_25 (w : Int) (h0 : 0 ≤ w) (h1 : w < 4294967296) (h : hit w 25) : dec w = mkI w 25 := by
  obtain ⟨hc, hf, hg⟩ := (hit_25 w h0 h1).1 h
  have e3 : f3 w = 5 := by unfold f3; rw [hf]; rfl
  simp [dec, apartI, mkI, rop, rform, immF, hc, e3, hg, tI, pick7, tH0]
theorem tells_26 (w : Int) (h0 : 0 ≤ w) (h1 : w < 4294967296) (h : hit w 26) : dec w = mkI w 26 := by
  obtain ⟨hc, hf, hg⟩ := (hit_26 w h0 h1).1 h
  have e3 : f3 w = 5 := by unfold f3; rw [hf]; rfl
  simp [dec, apartI, mkI, rop, rform, immF, hc, e3, hg, tI, pick7, tH2]
theorem tells_27 (w : Int) (h0 : 0 ≤ w) (h1 : w < 4294967296) (h : hit w 27) : dec w = mkI w 27 := by
  obtain ⟨hc, hf, hg⟩ := (hit_27 w h0 h1).1 h
  have e3 : f3 w = 0 := by unfold f3; rw [hf]; rfl
  simp [dec, apartI, mkI, rop, rform, immF, hc, e3, hg, pick7, tR0]
theorem tells_28 (w : Int) (h0 : 0 ≤ w) (h1 : w < 4294967296) (h : hit w 28) : dec w = mkI w 28 := by
  obtain ⟨hc, hf, hg⟩ := (hit_28 w h0 h1).1 h
  have e3 : f3 w = 0 := by unfold f3; rw [hf]; rfl
  simp [dec, apartI, mkI, rop, rform, immF, hc, e3, hg, pick7, tR2]
theorem tells_29 (w : Int) (h0 : 0 ≤ w) (h1 : w < 4294967296) (h : hit w 29) : dec w = mkI w 29 := by
  obtain ⟨hc, hf, hg⟩ := (hit_29 w h0 h1).1 h
  have e3 : f3 w = 1 := by unfold f3; rw [hf]; rfl
  simp [dec, apartI, mkI, rop, rform, immF, hc, e3, hg, pick7, tR0]
theorem tells_30 (w : Int) (h0 : 0 ≤ w) (h1 : w < 4294967296) (h : hit w 30) : dec w = mkI w 30 := by
  obtain ⟨hc, hf, hg⟩ := (hit_30 w h0 h1).1 h
  have e3 : f3 w = 2 := by unfold f3; rw [hf]; rfl
  simp [dec, apartI, mkI, rop, rform, immF, hc, e3, hg, pick7, tR0]
theorem tells_31 (w : Int) (h0 : 0 ≤ w) (h1 : w < 4294967296) (h : hit w 31) : dec w = mkI w 31 := by
  obtain ⟨hc, hf, hg⟩ := (hit_31 w h0 h1).1 h
  have e3 : f3 w = 3 := by unfold f3; rw [hf]; rfl
  simp [dec, apartI, mkI, rop, rform, immF, hc, e3, hg, pick7, tR0]
theorem tells_32 (w : Int) (h0 : 0 ≤ w) (h1 : w < 4294967296) (h : hit w 32) : dec w = mkI w 32 := by
  obtain ⟨hc, hf, hg⟩ := (hit_32 w h0 h1).1 h
  have e3 : f3 w = 4 := by unfold f3; rw [hf]; rfl
  simp [dec, apartI, mkI, rop, rform, immF, hc, e3, hg, pick7, tR0]
theorem tells_33 (w : Int) (h0 : 0 ≤ w) (h1 : w < 4294967296) (h : hit w 33) : dec w = mkI w 33 := by
  obtain ⟨hc, hf, hg⟩ := (hit_33 w h0 h1).1 h
  have e3 : f3 w = 5 := by unfold f3; rw [hf]; rfl
  simp [dec, apartI, mkI, rop, rform, immF, hc, e3, hg, pick7, tR0]
theorem tells_34 (w : Int) (h0 : 0 ≤ w) (h1 : w < 4294967296) (h : hit w 34) : dec w = mkI w 34 := by
  obtain ⟨hc, hf, hg⟩ := (hit_34 w h0 h1).1 h
  have e3 : f3 w = 5 := by unfold f3; rw [hf]; rfl
  simp [dec, apartI, mkI, rop, rform, immF, hc, e3, hg, pick7, tR2]
theorem tells_35 (w : Int) (h0 : 0 ≤ w) (h1 : w < 4294967296) (h : hit w 35) : dec w = mkI w 35 := by
  obtain ⟨hc, hf, hg⟩ := (hit_35 w h0 h1).1 h
  have e3 : f3 w = 6 := by unfold f3; rw [hf]; rfl
  simp [dec, apartI, mkI, rop, rform, immF, hc, e3, hg, pick7, tR0]
theorem tells_36 (w : Int) (h0 : 0 ≤ w) (h1 : w < 4294967296) (h : hit w 36) : dec w = mkI w 36 := by
  obtain ⟨hc, hf, hg⟩ := (hit_36 w h0 h1).1 h
  have e3 : f3 w = 7 := by unfold f3; rw [hf]; rfl
  simp [dec, apartI, mkI, rop, rform, immF, hc, e3, hg, pick7, tR0]
theorem tells_37 (w : Int) (h0 : 0 ≤ w) (h1 : w < 4294967296) (h : hit w 37) : dec w = mkI w 37 := by
  obtain ⟨hc, hf⟩ := (hit_37 w h0 h1).1 h
  have e3 : f3 w = 0 := by unfold f3; rw [hf]; rfl
  simp [dec, apartI, mkI, rop, rform, immF, hc, e3, tF]
theorem tells_38 (w : Int) (h0 : 0 ≤ w) (h1 : w < 4294967296) (h : hit w 38) : dec w = mkI w 38 := by
  obtain ⟨hc, hf⟩ := (hit_38 w h0 h1).1 h
  have e3 : f3 w = 1 := by unfold f3; rw [hf]; rfl
  have n1 : w ≠ 115 := by omega
  have n2 : w ≠ 1048691 := by omega
  have n3 : w ≠ 270532723 := by omega
  have n4 : w ≠ 273678451 := by omega
  have n5 : w ≠ 807403635 := by omega
  simp [dec, apartI, mkI, rop, rform, immF, hc, e3, n1, n2, n3, n4, n5, tC]
theorem tells_39 (w : Int) (h0 : 0 ≤ w) (h1 : w < 4294967296) (h : hit w 39) : dec w = mkI w 39 := by
  obtain ⟨hc, hf⟩ := (hit_39 w h0 h1).1 h
  have e3 : f3 w = 2 := by unfold f3; rw [hf]; rfl
  have n1 : w ≠ 115 := by omega
  have n2 : w ≠ 1048691 := by omega
  have n3 : w ≠ 270532723 := by omega
  have n4 : w ≠ 273678451 := by omega
  have n5 : w ≠ 807403635 := by omega
  simp [dec, apartI, mkI, rop, rform, immF, hc, e3, n1, n2, n3, n4, n5, tC]
theorem tells_40 (w : Int) (h0 : 0 ≤ w) (h1 : w < 4294967296) (h : hit w 40) : dec w = mkI w 40 := by
  obtain ⟨hc, hf⟩ := (hit_40 w h0 h1).1 h
  have e3 : f3 w = 3 := by unfold f3; rw [hf]; rfl
  have n1 : w ≠ 115 := by omega
  have n2 : w ≠ 1048691 := by omega
  have n3 : w ≠ 270532723 := by omega
  have n4 : w ≠ 273678451 := by omega
  have n5 : w ≠ 807403635 := by omega
  simp [dec, apartI, mkI, rop, rform, immF, hc, e3, n1, n2, n3, n4, n5, tC]
theorem tells_41 (w : Int) (h0 : 0 ≤ w) (h1 : w < 4294967296) (h : hit w 41) : dec w = mkI w 41 := by
  obtain ⟨hc, hf⟩ := (hit_41 w h0 h1).1 h
  have e3 : f3 w = 5 := by unfold f3; rw [hf]; rfl
  have n1 : w ≠ 115 := by omega
  have n2 : w ≠ 1048691 := by omega
  have n3 : w ≠ 270532723 := by omega
  have n4 : w ≠ 273678451 := by omega
  have n5 : w ≠ 807403635 := by omega
  simp [dec, apartI, mkI, rop, rform, immF, hc, e3, n1, n2, n3, n4, n5, tC]
theorem tells_42 (w : Int) (h0 : 0 ≤ w) (h1 : w < 4294967296) (h : hit w 42) : dec w = mkI w 42 := by
  obtain ⟨hc, hf⟩ := (hit_42 w h0 h1).1 h
  have e3 : f3 w = 6 := by unfold f3; rw [hf]; rfl
  have n1 : w ≠ 115 := by omega
  have n2 : w ≠ 1048691 := by omega
  have n3 : w ≠ 270532723 := by omega
  have n4 : w ≠ 273678451 := by omega
  have n5 : w ≠ 807403635 := by omega
  simp [dec, apartI, mkI, rop, rform, immF, hc, e3, n1, n2, n3, n4, n5, tC]
theorem tells_43 (w : Int) (h0 : 0 ≤ w) (h1 : w < 4294967296) (h : hit w 43) : dec w = mkI w 43 := by
  obtain ⟨hc, hf⟩ := (hit_43 w h0 h1).1 h
  have e3 : f3 w = 7 := by unfold f3; rw [hf]; rfl
  have n1 : w ≠ 115 := by omega
  have n2 : w ≠ 1048691 := by omega
  have n3 : w ≠ 270532723 := by omega
  have n4 : w ≠ 273678451 := by omega
  have n5 : w ≠ 807403635 := by omega
  simp [dec, apartI, mkI, rop, rform, immF, hc, e3, n1, n2, n3, n4, n5, tC]
theorem tells_44 (w : Int) (h0 : 0 ≤ w) (h1 : w < 4294967296) (h : hit w 44) : dec w = mkI w 44 := by
  have e := (hit_44 w h0 h1).1 h; subst e; rfl
theorem tells_45 (w : Int) (h0 : 0 ≤ w) (h1 : w < 4294967296) (h : hit w 45) : dec w = mkI w 45 := by
  have e := (hit_45 w h0 h1).1 h; subst e; rfl
theorem tells_46 (w : Int) (h0 : 0 ≤ w) (h1 : w < 4294967296) (h : hit w 46) : dec w = mkI w 46 := by
  have e := (hit_46 w h0 h1).1 h; subst e; rfl
theorem tells_47 (w : Int) (h0 : 0 ≤ w) (h1 : w < 4294967296) (h : hit w 47) : dec w = mkI w 47 := by
  have e := (hit_47 w h0 h1).1 h; subst e; rfl
theorem tells_48 (w : Int) (h0 : 0 ≤ w) (h1 : w < 4294967296) (h : hit w 48) : dec w = mkI w 48 := by
  have e := (hit_48 w h0 h1).1 h; subst e; rfl
theorem tells (w : Int) (h0 : 0 ≤ w) (h1 : w < 4294967296) (k : Nat) (hk : k < 49) (h : hit w k) : dec w = mkI w k := by
  match k, hk, h with
  | 0, _, h => exact tells_0 w h0 h1 h
  | 1, _, h => exact tells_1 w h0 h1 h
  | 2, _, h => exact tells_2 w h0 h1 h
  | 3, _, h => exact tells_3 w h0 h1 h
  | 4, _, h => exact tells_4 w h0 h1 h
  | 5, _, h => exact tells_5 w h0 h1 h
  | 6, _, h => exact tells_6 w h0 h1 h
  | 7, _, h => exact tells_7 w h0 h1 h
  | 8, _, h => exact tells_8 w h0 h1 h
  | 9, _, h => exact tells_9 w h0 h1 h
  | 10, _, h => exact tells_10 w h0 h1 h
  | 11, _, h => exact tells_11 w h0 h1 h
  | 12, _, h => exact tells_12 w h0 h1 h
  | 13, _, h => exact tells_13 w h0 h1 h
  | 14, _, h => exact tells_14 w h0 h1 h
  | 15, _, h => exact tells_15 w h0 h1 h
  | 16, _, h => exact tells_16 w h0 h1 h
  | 17, _, h => exact tells_17 w h0 h1 h
  | 18, _, h => exact tells_18 w h0 h1 h
  | 19, _, h => exact tells_19 w h0 h1 h
  | 20, _, h => exact tells_20 w h0 h1 h
  | 21, _, h => exact tells_21 w h0 h1 h
  | 22, _, h => exact tells_22 w h0 h1 h
  | 23, _, h => exact tells_23 w h0 h1 h
  | 24, _, h => exact tells_24 w h0 h1 h
  | 25, _, h => exact tells_25 w h0 h1 h
  | 26, _, h => exact tells_26 w h0 h1 h
  | 27, _, h => exact tells_27 w h0 h1 h
  | 28, _, h => exact tells_28 w h0 h1 h
  | 29, _, h => exact tells_29 w h0 h1 h
  | 30, _, h => exact tells_30 w h0 h1 h
  | 31, _, h => exact tells_31 w h0 h1 h
  | 32, _, h => exact tells_32 w h0 h1 h
  | 33, _, h => exact tells_33 w h0 h1 h
  | 34, _, h => exact tells_34 w h0 h1 h
  | 35, _, h => exact tells_35 w h0 h1 h
  | 36, _, h => exact tells_36 w h0 h1 h
  | 37, _, h => exact tells_37 w h0 h1 h
  | 38, _, h => exact tells_38 w h0 h1 h
  | 39, _, h => exact tells_39 w h0 h1 h
  | 40, _, h => exact tells_40 w h0 h1 h
  | 41, _, h => exact tells_41 w h0 h1 h
  | 42, _, h => exact tells_42 w h0 h1 h
  | 43, _, h => exact tells_43 w h0 h1 h
  | 44, _, h => exact tells_44 w h0 h1 h
  | 45, _, h => exact tells_45 w h0 h1 h
  | 46, _, h => exact tells_46 w h0 h1 h
  | 47, _, h => exact tells_47 w h0 h1 h
  | 48, _, h => exact tells_48 w h0 h1 h
  | k + 49, hk, _ => exact absurd hk (by omega)
theorem none_103 (w : Int) (hc : w % 128 = 103) (n3 : ¬(w % 128 = 103 ∧ w / 4096 % 8 = 0)) : dec w = Ins.zero := by
  have hf : w / 4096 % 8 = 1 ∨ w / 4096 % 8 = 2 ∨ w / 4096 % 8 = 3 ∨ w / 4096 % 8 = 4 ∨ w / 4096 % 8 = 5 ∨ w / 4096 % 8 = 6 ∨ w / 4096 % 8 = 7 := by omega
  rcases hf with hf | hf | hf | hf | hf | hf | hf
  · have e3 : f3 w = 1 := by unfold f3; rw [hf]; rfl
    simp [dec, apartI, hc, e3, Ins.zero, tJ]
  · have e3 : f3 w = 2 := by unfold f3; rw [hf]; rfl
    simp [dec, apartI, hc, e3, Ins.zero, tJ]
  · have e3 : f3 w = 3 := by unfold f3; rw [hf]; rfl
    simp [dec, apartI, hc, e3, Ins.zero, tJ]
  · have e3 : f3 w = 4 := by unfold f3; rw [hf]; rfl
    simp [dec, apartI, hc, e3, Ins.zero, tJ]
  · have e3 : f3 w = 5 := by unfold f3; rw [hf]; rfl
    simp [dec, apartI, hc, e3, Ins.zero, tJ]
  · have e3 : f3 w = 6 := by unfold f3; rw [hf]; rfl
    simp [dec, apartI, hc, e3, Ins.zero, tJ]
  · have e3 : f3 w = 7 := by unfold f3; rw [hf]; rfl
    simp [dec, apartI, hc, e3, Ins.zero, tJ]
theorem none_99 (w : Int) (hc : w % 128 = 99) (n4 : ¬(w % 128 = 99 ∧ w / 4096 % 8 = 0)) (n5 : ¬(w % 128 = 99 ∧ w / 4096 % 8 = 1)) (n6 : ¬(w % 128 = 99 ∧ w / 4096 % 8 = 4)) (n7 : ¬(w % 128 = 99 ∧ w / 4096 % 8 = 5)) (n8 : ¬(w % 128 = 99 ∧ w / 4096 % 8 = 6)) (n9 : ¬(w % 128 = 99 ∧ w / 4096 % 8 = 7)) : dec w = Ins.zero := by
  have hf : w / 4096 % 8 = 2 ∨ w / 4096 % 8 = 3 := by omega
  rcases hf with hf | hf
  · have e3 : f3 w = 2 := by unfold f3; rw [hf]; rfl
    simp [dec, apartI, hc, e3, Ins.zero, tB]
  · have e3 : f3 w = 3 := by unfold f3; rw [hf]; rfl
    simp [dec, apartI, hc, e3, Ins.zero, tB]
theorem none_3 (w : Int) (hc : w % 128 = 3) (n10 : ¬(w % 128 = 3 ∧ w / 4096 % 8 = 0)) (n11 : ¬(w % 128 = 3 ∧ w / 4096 % 8 = 1)) (n12 : ¬(w % 128 = 3 ∧ w / 4096 % 8 = 2)) (n13 : ¬(w % 128 = 3 ∧ w / 4096 % 8 = 4)) (n14 : ¬(w % 128 = 3 ∧ w / 4096 % 8 = 5)) : dec w = Ins.zero := by
  have hf : w / 4096 % 8 = 3 ∨ w / 4096 % 8 = 6 ∨ w / 4096 % 8 = 7 := by omega
  rcases hf with hf | hf | hf
  · have e3 : f3 w = 3 := by unfold f3; rw [hf]; rfl
    simp [dec, apartI, hc, e3, Ins.zero, tL]
  · have e3 : f3 w = 6 := by unfold f3; rw [hf]; rfl
    simp [dec, apartI, hc, e3, Ins.zero, tL]
  · have e3 : f3 w = 7 := by unfold f3; rw [hf]; rfl
    simp [dec, apartI, hc, e3, Ins.zero, tL]
theorem none_35 (w : Int) (hc : w % 128 = 35) (n15 : ¬(w % 128 = 35 ∧ w / 4096 % 8 = 0)) (n16 : ¬(w % 128 = 35 ∧ w / 4096 % 8 = 1)) (n17 : ¬(w % 128 = 35 ∧ w / 4096 % 8 = 2)) : dec w = Ins.zero := by
  have hf : w / 4096 % 8 = 3 ∨ w / 4096 % 8 = 4 ∨ w / 4096 % 8 = 5 ∨ w / 4096 % 8 = 6 ∨ w / 4096 % 8 = 7 := by omega
  rcases hf with hf | hf | hf | hf | hf
  · have e3 : f3 w = 3 := by unfold f3; rw [hf]; rfl
    simp [dec, apartI, hc, e3, Ins.zero, tS]
  · have e3 : f3 w = 4 := by unfold f3; rw [hf]; rfl
    simp [dec, apartI, hc, e3, Ins.zero, tS]
  · have e3 : f3 w = 5 := by unfold f3; rw [hf]; rfl
    simp [dec, apartI, hc, e3, Ins.zero, tS]
  · have e3 : f3 w = 6 := by unfold f3; rw [hf]; rfl
    simp [dec, apartI, hc, e3, Ins.zero, tS]
  · have e3 : f3 w = 7 := by unfold f3; rw [hf]; rfl
    simp [dec, apartI, hc, e3, Ins.zero, tS]
theorem none_19 (w : Int) (hc : w % 128 = 19) (n18 : ¬(w % 128 = 19 ∧ w / 4096 % 8 = 0)) (n19 : ¬(w % 128 = 19 ∧ w / 4096 % 8 = 2)) (n20 : ¬(w % 128 = 19 ∧ w / 4096 % 8 = 3)) (n21 : ¬(w % 128 = 19 ∧ w / 4096 % 8 = 4)) (n22 : ¬(w % 128 = 19 ∧ w / 4096 % 8 = 6)) (n23 : ¬(w % 128 = 19 ∧ w / 4096 % 8 = 7)) (n24 : ¬(w % 128 = 19 ∧ w / 4096 % 8 = 1 ∧ w / 33554432 = 0)) (n25 : ¬(w % 128 = 19 ∧ w / 4096 % 8 = 5 ∧ w / 33554432 = 0)) (n26 : ¬(w % 128 = 19 ∧ w / 4096 % 8 = 5 ∧ w / 33554432 = 32)) : dec w = Ins.zero := by
  have hf : w / 4096 % 8 = 1 ∨ w / 4096 % 8 = 5 := by omega
  rcases hf with hf | hf
  · have e3 : f3 w = 1 := by unfold f3; rw [hf]; rfl
    have g0 : ¬ w / 33554432 = 0 := by omega
    simp [dec, apartI, hc, e3, Ins.zero, g0, tI, pick7, tH2]
  · have e3 : f3 w = 5 := by unfold f3; rw [hf]; rfl
    have g0 : ¬ w / 33554432 = 0 := by omega
    have g32 : ¬ w / 33554432 = 32 := by omega
    simp [dec, apartI, hc, e3, Ins.zero, g0, g32, tI, pick7]
theorem none_51 (w : Int) (hc : w % 128 = 51) (n27 : ¬(w % 128 = 51 ∧ w / 4096 % 8 = 0 ∧ w / 33554432 = 0)) (n28 : ¬(w % 128 = 51 ∧ w / 4096 % 8 = 0 ∧ w / 33554432 = 32)) (n29 : ¬(w % 128 = 51 ∧ w / 4096 % 8 = 1 ∧ w / 33554432 = 0)) (n30 : ¬(w % 128 = 51 ∧ w / 4096 % 8 = 2 ∧ w / 33554432 = 0)) (n31 : ¬(w % 128 = 51 ∧ w / 4096 % 8 = 3 ∧ w / 33554432 = 0)) (n32 : ¬(w % 128 = 51 ∧ w / 4096 % 8 = 4 ∧ w / 33554432 = 0)) (n33 : ¬(w % 128 = 51 ∧ w / 4096 % 8 = 5 ∧ w / 33554432 = 0)) (n34 : ¬(w % 128 = 51 ∧ w / 4096 % 8 = 5 ∧ w / 33554432 = 32)) (n35 : ¬(w % 128 = 51 ∧ w / 4096 % 8 = 6 ∧ w / 33554432 = 0)) (n36 : ¬(w % 128 = 51 ∧ w / 4096 % 8 = 7 ∧ w / 33554432 = 0)) : dec w = Ins.zero := by
  have hf : w / 4096 % 8 = 0 ∨ w / 4096 % 8 = 1 ∨ w / 4096 % 8 = 2 ∨ w / 4096 % 8 = 3 ∨ w / 4096 % 8 = 4 ∨ w / 4096 % 8 = 5 ∨ w / 4096 % 8 = 6 ∨ w / 4096 % 8 = 7 := by omega
  rcases hf with hf | hf | hf | hf | hf | hf | hf | hf
  · have g0 : ¬ w / 33554432 = 0 := by omega
    have g32 : ¬ w / 33554432 = 32 := by omega
    simp [dec, apartI, hc, Ins.zero, g0, g32, pick7]
  · have e3 : f3 w = 1 := by unfold f3; rw [hf]; rfl
    have g0 : ¬ w / 33554432 = 0 := by omega
    simp [dec, apartI, hc, e3, Ins.zero, g0, pick7, tR2]
  · have e3 : f3 w = 2 := by unfold f3; rw [hf]; rfl
    have g0 : ¬ w / 33554432 = 0 := by omega
    simp [dec, apartI, hc, e3, Ins.zero, g0, pick7, tR2]
  · have e3 : f3 w = 3 := by unfold f3; rw [hf]; rfl
    have g0 : ¬ w / 33554432 = 0 := by omega
    simp [dec, apartI, hc, e3, Ins.zero, g0, pick7, tR2]
  · have e3 : f3 w = 4 := by unfold f3; rw [hf]; rfl
    have g0 : ¬ w / 33554432 = 0 := by omega
    simp [dec, apartI, hc, e3, Ins.zero, g0, pick7, tR2]
  · have g0 : ¬ w / 33554432 = 0 := by omega
    have g32 : ¬ w / 33554432 = 32 := by omega
    simp [dec, apartI, hc, Ins.zero, g0, g32, pick7]
  · have e3 : f3 w = 6 := by unfold f3; rw [hf]; rfl
    have g0 : ¬ w / 33554432 = 0 := by omega
    simp [dec, apartI, hc, e3, Ins.zero, g0, pick7, tR2]
  · have e3 : f3 w = 7 := by unfold f3; rw [hf]; rfl
    have g0 : ¬ w / 33554432 = 0 := by omega
    simp [dec, apartI, hc, e3, Ins.zero, g0, pick7, tR2]
theorem none_15 (w : Int) (hc : w % 128 = 15) (n37 : ¬(w % 128 = 15 ∧ w / 4096 % 8 = 0)) : dec w = Ins.zero := by
  have hf : w / 4096 % 8 = 1 ∨ w / 4096 % 8 = 2 ∨ w / 4096 % 8 = 3 ∨ w / 4096 % 8 = 4 ∨ w / 4096 % 8 = 5 ∨ w / 4096 % 8 = 6 ∨ w / 4096 % 8 = 7 := by omega
  rcases hf with hf | hf | hf | hf | hf | hf | hf
  · have e3 : f3 w = 1 := by unfold f3; rw [hf]; rfl
    simp [dec, apartI, hc, e3, Ins.zero, tF]
  · have e3 : f3 w = 2 := by unfold f3; rw [hf]; rfl
    simp [dec, apartI, hc, e3, Ins.zero, tF]
  · have e3 : f3 w = 3 := by unfold f3; rw [hf]; rfl
    simp [dec, apartI, hc, e3, Ins.zero, tF]
  · have e3 : f3 w = 4 := by unfold f3; rw [hf]; rfl
    simp [dec, apartI, hc, e3, Ins.zero, tF]
  · have e3 : f3 w = 5 := by unfold f3; rw [hf]; rfl
    simp [dec, apartI, hc, e3, Ins.zero, tF]
  · have e3 : f3 w = 6 := by unfold f3; rw [hf]; rfl
    simp [dec, apartI, hc, e3, Ins.zero, tF]
  · have e3 : f3 w = 7 := by unfold f3; rw [hf]; rfl
    simp [dec, apartI, hc, e3, Ins.zero, tF]
theorem none_115 (w : Int) (hc : w % 128 = 115) (n38 : ¬(w % 128 = 115 ∧ w / 4096 % 8 = 1)) (n39 : ¬(w % 128 = 115 ∧ w / 4096 % 8 = 2)) (n40 : ¬(w % 128 = 115 ∧ w / 4096 % 8 = 3)) (n41 : ¬(w % 128 = 115 ∧ w / 4096 % 8 = 5)) (n42 : ¬(w % 128 = 115 ∧ w / 4096 % 8 = 6)) (n43 : ¬(w % 128 = 115 ∧ w / 4096 % 8 = 7)) (n44 : ¬(w = 115)) (n45 : ¬(w = 1048691)) (n46 : ¬(w = 270532723)) (n47 : ¬(w = 273678451)) (n48 : ¬(w = 807403635)) : dec w = Ins.zero := by
  have hf : w / 4096 % 8 = 0 ∨ w / 4096 % 8 = 4 := by omega
  rcases hf with hf | hf
  · have e3 : f3 w = 0 := by unfold f3; rw [hf]; rfl
    simp [dec, apartI, hc, e3, Ins.zero, n44, n45, n46, n47, n48, tC]
  · have e3 : f3 w = 4 := by unfold f3; rw [hf]; rfl
    simp [dec, apartI, hc, e3, Ins.zero, n44, n45, n46, n47, n48, tC]
theorem tells_none (w : Int) (h0 : 0 ≤ w) (h1 : w < 4294967296) (h : ∀ k, k < 49 → ¬ hit w k) : dec w = Ins.zero := by
  have n0 : ¬(w % 128 = 55) := fun c => h 0 (by decide) ((hit_0 w h0 h1).2 c)
  have n1 : ¬(w % 128 = 23) := fun c => h 1 (by decide) ((hit_1 w h0 h1).2 c)
  have n2 : ¬(w % 128 = 111) := fun c => h 2 (by decide) ((hit_2 w h0 h1).2 c)
  have n3 : ¬(w % 128 = 103 ∧ w / 4096 % 8 = 0) := fun c => h 3 (by decide) ((hit_3 w h0 h1).2 c)
  have n4 : ¬(w % 128 = 99 ∧ w / 4096 % 8 = 0) := fun c => h 4 (by decide) ((hit_4 w h0 h1).2 c)
  have n5 : ¬(w % 128 = 99 ∧ w / 4096 % 8 = 1) := fun c => h 5 (by decide) ((hit_5 w h0 h1).2 c)
  have n6 : ¬(w % 128 = 99 ∧ w / 4096 % 8 = 4) := fun c => h 6 (by decide) ((hit_6 w h0 h1).2 c)
  have n7 : ¬(w % 128 = 99 ∧ w / 4096 % 8 = 5) := fun c => h 7 (by decide) ((hit_7 w h0 h1).2 c)
  have n8 : ¬(w % 128 = 99 ∧ w / 4096 % 8 = 6) := fun c => h 8 (by decide) ((hit_8 w h0 h1).2 c)
  have n9 : ¬(w % 128 = 99 ∧ w / 4096 % 8 = 7) := fun c => h 9 (by decide) ((hit_9 w h0 h1).2 c)
  have n10 : ¬(w % 128 = 3 ∧ w / 4096 % 8 = 0) := fun c => h 10 (by decide) ((hit_10 w h0 h1).2 c)
  have n11 : ¬(w % 128 = 3 ∧ w / 4096 % 8 = 1) := fun c => h 11 (by decide) ((hit_11 w h0 h1).2 c)
  have n12 : ¬(w % 128 = 3 ∧ w / 4096 % 8 = 2) := fun c => h 12 (by decide) ((hit_12 w h0 h1).2 c)
  have n13 : ¬(w % 128 = 3 ∧ w / 4096 % 8 = 4) := fun c => h 13 (by decide) ((hit_13 w h0 h1).2 c)
  have n14 : ¬(w % 128 = 3 ∧ w / 4096 % 8 = 5) := fun c => h 14 (by decide) ((hit_14 w h0 h1).2 c)
  have n15 : ¬(w % 128 = 35 ∧ w / 4096 % 8 = 0) := fun c => h 15 (by decide) ((hit_15 w h0 h1).2 c)
  have n16 : ¬(w % 128 = 35 ∧ w / 4096 % 8 = 1) := fun c => h 16 (by decide) ((hit_16 w h0 h1).2 c)
  have n17 : ¬(w % 128 = 35 ∧ w / 4096 % 8 = 2) := fun c => h 17 (by decide) ((hit_17 w h0 h1).2 c)
  have n18 : ¬(w % 128 = 19 ∧ w / 4096 % 8 = 0) := fun c => h 18 (by decide) ((hit_18 w h0 h1).2 c)
  have n19 : ¬(w % 128 = 19 ∧ w / 4096 % 8 = 2) := fun c => h 19 (by decide) ((hit_19 w h0 h1).2 c)
  have n20 : ¬(w % 128 = 19 ∧ w / 4096 % 8 = 3) := fun c => h 20 (by decide) ((hit_20 w h0 h1).2 c)
  have n21 : ¬(w % 128 = 19 ∧ w / 4096 % 8 = 4) := fun c => h 21 (by decide) ((hit_21 w h0 h1).2 c)
  have n22 : ¬(w % 128 = 19 ∧ w / 4096 % 8 = 6) := fun c => h 22 (by decide) ((hit_22 w h0 h1).2 c)
  have n23 : ¬(w % 128 = 19 ∧ w / 4096 % 8 = 7) := fun c => h 23 (by decide) ((hit_23 w h0 h1).2 c)
  have n24 : ¬(w % 128 = 19 ∧ w / 4096 % 8 = 1 ∧ w / 33554432 = 0) := fun c => h 24 (by decide) ((hit_24 w h0 h1).2 c)
  have n25 : ¬(w % 128 = 19 ∧ w / 4096 % 8 = 5 ∧ w / 33554432 = 0) := fun c => h 25 (by decide) ((hit_25 w h0 h1).2 c)
  have n26 : ¬(w % 128 = 19 ∧ w / 4096 % 8 = 5 ∧ w / 33554432 = 32) := fun c => h 26 (by decide) ((hit_26 w h0 h1).2 c)
  have n27 : ¬(w % 128 = 51 ∧ w / 4096 % 8 = 0 ∧ w / 33554432 = 0) := fun c => h 27 (by decide) ((hit_27 w h0 h1).2 c)
  have n28 : ¬(w % 128 = 51 ∧ w / 4096 % 8 = 0 ∧ w / 33554432 = 32) := fun c => h 28 (by decide) ((hit_28 w h0 h1).2 c)
  have n29 : ¬(w % 128 = 51 ∧ w / 4096 % 8 = 1 ∧ w / 33554432 = 0) := fun c => h 29 (by decide) ((hit_29 w h0 h1).2 c)
  have n30 : ¬(w % 128 = 51 ∧ w / 4096 % 8 = 2 ∧ w / 33554432 = 0) := fun c => h 30 (by decide) ((hit_30 w h0 h1).2 c)
  have n31 : ¬(w % 128 = 51 ∧ w / 4096 % 8 = 3 ∧ w / 33554432 = 0) := fun c => h 31 (by decide) ((hit_31 w h0 h1).2 c)
  have n32 : ¬(w % 128 = 51 ∧ w / 4096 % 8 = 4 ∧ w / 33554432 = 0) := fun c => h 32 (by decide) ((hit_32 w h0 h1).2 c)
  have n33 : ¬(w % 128 = 51 ∧ w / 4096 % 8 = 5 ∧ w / 33554432 = 0) := fun c => h 33 (by decide) ((hit_33 w h0 h1).2 c)
  have n34 : ¬(w % 128 = 51 ∧ w / 4096 % 8 = 5 ∧ w / 33554432 = 32) := fun c => h 34 (by decide) ((hit_34 w h0 h1).2 c)
  have n35 : ¬(w % 128 = 51 ∧ w / 4096 % 8 = 6 ∧ w / 33554432 = 0) := fun c => h 35 (by decide) ((hit_35 w h0 h1).2 c)
  have n36 : ¬(w % 128 = 51 ∧ w / 4096 % 8 = 7 ∧ w / 33554432 = 0) := fun c => h 36 (by decide) ((hit_36 w h0 h1).2 c)
  have n37 : ¬(w % 128 = 15 ∧ w / 4096 % 8 = 0) := fun c => h 37 (by decide) ((hit_37 w h0 h1).2 c)
  have n38 : ¬(w % 128 = 115 ∧ w / 4096 % 8 = 1) := fun c => h 38 (by decide) ((hit_38 w h0 h1).2 c)
  have n39 : ¬(w % 128 = 115 ∧ w / 4096 % 8 = 2) := fun c => h 39 (by decide) ((hit_39 w h0 h1).2 c)
  have n40 : ¬(w % 128 = 115 ∧ w / 4096 % 8 = 3) := fun c => h 40 (by decide) ((hit_40 w h0 h1).2 c)
  have n41 : ¬(w % 128 = 115 ∧ w / 4096 % 8 = 5) := fun c => h 41 (by decide) ((hit_41 w h0 h1).2 c)
  have n42 : ¬(w % 128 = 115 ∧ w / 4096 % 8 = 6) := fun c => h 42 (by decide) ((hit_42 w h0 h1).2 c)
  have n43 : ¬(w % 128 = 115 ∧ w / 4096 % 8 = 7) := fun c => h 43 (by decide) ((hit_43 w h0 h1).2 c)
  have n44 : ¬(w = 115) := fun c => h 44 (by decide) ((hit_44 w h0 h1).2 c)
  have n45 : ¬(w = 1048691) := fun c => h 45 (by decide) ((hit_45 w h0 h1).2 c)
  have n46 : ¬(w = 270532723) := fun c => h 46 (by decide) ((hit_46 w h0 h1).2 c)
  have n47 : ¬(w = 273678451) := fun c => h 47 (by decide) ((hit_47 w h0 h1).2 c)
  have n48 : ¬(w = 807403635) := fun c => h 48 (by decide) ((hit_48 w h0 h1).2 c)
  by_cases c103 : w % 128 = 103
  · exact none_103 w c103 n3
  by_cases c99 : w % 128 = 99
  · exact none_99 w c99 n4 n5 n6 n7 n8 n9
  by_cases c3 : w % 128 = 3
  · exact none_3 w c3 n10 n11 n12 n13 n14
  by_cases c35 : w % 128 = 35
  · exact none_35 w c35 n15 n16 n17
  by_cases c19 : w % 128 = 19
  · exact none_19 w c19 n18 n19 n20 n21 n22 n23 n24 n25 n26
  by_cases c51 : w % 128 = 51
  · exact none_51 w c51 n27 n28 n29 n30 n31 n32 n33 n34 n35 n36
  by_cases c15 : w % 128 = 15
  · exact none_15 w c15 n37
  by_cases c115 : w % 128 = 115
  · exact none_115 w c115 n38 n39 n40 n41 n42 n43 n44 n45 n46 n47 n48
  simp [dec, apartI, n0, n1, n2, c103, c99, c3, c35, c19, c51, c15, c115, Ins.zero]
end Go.Proofs.YteiideeechnekaaGreatDoor.D
