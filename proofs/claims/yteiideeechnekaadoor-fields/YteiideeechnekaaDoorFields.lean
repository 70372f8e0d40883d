/-
  hartkeep.Fields: the four decodings, and the law's own walk.
-/
import Derived.Test.YteiideeechnekaaDoorCode
import Derived.Laws.StructEq
namespace Go.Proofs.YteiideeechnekaaDoor
open Go.RowKit

theorem dec_add (d a b : Int) (hd : 0 ≤ d) (hd' : d < 32) (ha : 0 ≤ a) (ha' : a < 32) (hb : 0 ≤ b) (hb' : b < 32) :
    dec (51 + d * 128 + a * 32768 + b * 1048576) = ⟨28, d, a, b, 0⟩ := by
  rw [tells _ (by omega) (by omega) 27 (by decide) ((hit_27 _ (by omega) (by omega)).2 (by omega))]
  simp [mkI, rop, rform, immF]
  omega
theorem dec_addi (d a m : Int) (hd : 0 ≤ d) (hd' : d < 32) (ha : 0 ≤ a) (ha' : a < 32) (hm : 0 ≤ m) (hm' : m < 4096) :
    dec (19 + d * 128 + a * 32768 + m * 1048576) = ⟨19, d, a, 0, if m < 2048 then m else m + 4294963200⟩ := by
  rw [tells _ (by omega) (by omega) 18 (by decide) ((hit_18 _ (by omega) (by omega)).2 (by omega))]
  simp [mkI, rop, rform, immF, immI]
  refine ⟨by omega, by omega, ?_⟩
  split <;> omega
theorem dec_sw (a b m : Int) (ha : 0 ≤ a) (ha' : a < 32) (hb : 0 ≤ b) (hb' : b < 32) (hm : 0 ≤ m) (hm' : m < 4096) :
    dec (8227 + m % 32 * 128 + a * 32768 + b * 1048576 + m / 32 * 33554432) = ⟨18, 0, a, b, if m < 2048 then m else m + 4294963200⟩ := by
  obtain ⟨q, s, hq, hs, q0, q1, s0, s1⟩ : ∃ q s : Int, m / 32 = q ∧ m % 32 = s ∧ 0 ≤ q ∧ q < 128 ∧ 0 ≤ s ∧ s < 32 := ⟨m / 32, m % 32, rfl, rfl, by omega, by omega, by omega, by omega⟩
  have em : m = q * 32 + s := by omega
  rw [hq, hs]
  obtain ⟨x, hx⟩ : ∃ x : Int, x = 8227 + s * 128 + a * 32768 + b * 1048576 + q * 33554432 := ⟨_, rfl⟩
  rw [← hx]
  have x7 : x / 128 = 64 + s + a * 256 + b * 8192 + q * 262144 := by omega
  have x12 : x / 4096 = 2 + a * 8 + b * 256 + q * 8192 := by omega
  have x15 : x / 32768 = a + b * 32 + q * 1024 := by omega
  have x20 : x / 1048576 = b + q * 32 := by omega
  have x25 : x / 33554432 = q := by omega
  have x31 : x / 2147483648 = q / 64 := by omega
  rw [tells x (by omega) (by omega) 17 (by decide) ((hit_17 x (by omega) (by omega)).2 (by omega))]
  simp only [mkI, rop, rform, immF, immS, x7, x15, x20, x25, x31]
  simp
  refine ⟨by omega, by omega, ?_⟩
  subst em
  split <;> omega
theorem dec_lui (d u : Int) (hd : 0 ≤ d) (hd' : d < 32) (hu : 0 ≤ u) (hu' : u < 4294967296) (hm : u % 4096 = 0) :
    dec (55 + d * 128 + u) = ⟨1, d, 0, 0, u⟩ := by
  rw [tells _ (by omega) (by omega) 0 (by decide) ((hit_0 _ (by omega) (by omega)).2 (by omega))]
  simp [mkI, rop, rform, immF]
  omega
theorem and31 (x : Int) : bits .and .i64 x 31 = x % 32 := by
  have e : (BitVec.ofInt 64 x &&& BitVec.ofInt 64 31).toNat = (x % 32).toNat := by
    rw [BitVec.toNat_and, show (BitVec.ofInt 64 31).toNat = 2 ^ 5 - 1 by decide, Nat.and_two_pow_sub_one_eq_mod, BitVec.toNat_ofInt]
    omega
  show IntKind.i64.wrap ((BitVec.ofInt 64 x &&& BitVec.ofInt 64 31).toNat : Int) = _
  rw [e, IntKind.wrap_i64]
  omega
theorem and4095 (v : Int) (h0 : 0 ≤ v) (h1 : v < 4294967296) : bits .and .u32 v 4095 = v % 4096 := mask_u32 12 (by decide) v h0 (by omega)
theorem and31u (v : Int) (h0 : 0 ≤ v) (h1 : v < 4294967296) : bits .and .u32 v 31 = v % 32 := mask_u32 5 (by decide) v h0 (by omega)
theorem andNot4095 (v : Int) (h0 : 0 ≤ v) (h1 : v < 4294967296) : bits .andNot .u32 v 4095 = v / 4096 * 4096 := by
  rw [u32_andNot v 4095 h0 h1 (by decide) (by decide)]
  have : v.toNat &&& (4294967295 - (4095 : Int).toNat) = v.toNat / 4096 * 4096 := by
    rw [show 4294967295 - (4095 : Int).toNat = 1048575 <<< 12 by decide, and_split, show v.toNat / 2 ^ 12 &&& 1048575 = v.toNat / 4096 % 1048576 from Nat.and_two_pow_sub_one_eq_mod (v.toNat / 4096) 20]
    omega
  rw [this]; omega

theorem decode_is (w : Int) (W : World) (op rd r1 r2 imm : Int) (e : dec w = ⟨op, rd, r1, r2, imm⟩) (h0 : 0 ≤ w) (h1 : w < 4294967296) (T : Tabs W) :
    Calls Tryd.prog 5 #[.int .u32 w] W fun e W' => e = .returned (.agg #[.int .i64 op, .int .i64 rd, .int .i64 r1, .int .i64 r2, .int .u32 imm]) ∧ Below W.heap.size W W' := by
  have := decode_any w W h0 h1 T
  rw [e] at this
  exact this

theorem fields_lo (r1 r2 r3 v d a b m u : Int) (W : World) (T : Tabs W) (hd : bits .and .i64 r1 31 = d) (ha : bits .and .i64 r2 31 = a) (hb : bits .and .i64 r3 31 = b) (hm : bits .and .u32 v 4095 = m) (hu : bits .andNot .u32 v 4095 = u) (hm5 : bits .and .u32 m 31 = m % 32)
    (d0 : 0 ≤ d) (d1 : d < 32) (a0 : 0 ≤ a) (a1 : a < 32) (b0 : 0 ≤ b) (b1 : b < 32) (m0 : 0 ≤ m) (m1 : m < 2048) (u0 : 0 ≤ u) (u1 : u < 4294963201) (u2 : u % 4096 = 0) :
    Calls Tryd.prog 4 #[.int .i64 r1, .int .i64 r2, .int .i64 r3, .int .u32 v] W fun e W' => e = .returned (.bool true) ∧ Below W.heap.size W W' := by
  have e1 := dec_add d a b d0 d1 a0 a1 b0 b1
  have e2 := dec_addi d a m d0 d1 a0 a1 m0 (by omega)
  have e3 := dec_sw a b m a0 a1 b0 b1 m0 (by omega)
  have e4 := dec_lui d u d0 d1 u0 (by omega) u2
  rw [if_pos (by omega)] at e2 e3
  go_enter Tryd.func4, Tryd.ntmps4
  go_wp2_with fail
  refine (decode_is _ _ _ _ _ _ _ e1 (by omega) (by omega) T).mono ?_
  rintro e w1 ⟨rfl, hb1⟩
  have T1 := T.below T.size hb1
  go_wp2_with fail
  refine (decode_is _ _ _ _ _ _ _ e2 (by omega) (by omega) (T1.below T1.size ((Below.refl _ _).alloc (Nat.le_refl _) _))).mono ?_
  rintro e w2 ⟨rfl, hb2⟩
  have T2 := (T1.below T1.size ((Below.refl _ _).alloc (Nat.le_refl _) _)).below (by simp; have := T1.size; omega) hb2
  have s2 := hb2.size
  simp at s2
  have x2 := fun j => (bcell hb2).1 w1.heap.size j (by simp)
  have x2a := (alloc_cell w2 w1.heap.size (by omega)).1
  go_wp2_with fail
  refine (decode_is _ _ _ _ _ _ _ e3 (by omega) (by omega) (T2.below T2.size ((Below.refl _ _).alloc (Nat.le_refl _) _))).mono ?_
  rintro e w3 ⟨rfl, hb3⟩
  have T3 := (T2.below T2.size ((Below.refl _ _).alloc (Nat.le_refl _) _)).below (by simp; have := T2.size; omega) hb3
  have s3 := hb3.size
  simp at s3
  have x3 := fun j => (bcell hb3).1 w1.heap.size j (by simp; omega)
  have x3a := (alloc_cell w3 w1.heap.size (by omega)).1
  have y3 := fun j => (bcell hb3).1 w2.heap.size j (by simp)
  have y3a := (alloc_cell w3 w2.heap.size (by omega)).1
  go_wp2_with fail
  refine (decode_is _ _ _ _ _ _ _ e4 (by omega) (by omega) (T3.below T3.size ((Below.refl _ _).alloc (Nat.le_refl _) _))).mono ?_
  rintro e w4 ⟨rfl, hb4⟩
  have s4 := hb4.size
  simp at s4
  have x4 := fun j => (bcell hb4).1 w1.heap.size j (by simp; omega)
  have x4a := (alloc_cell w4 w1.heap.size (by omega)).1
  have y4 := fun j => (bcell hb4).1 w2.heap.size j (by simp; omega)
  have y4a := (alloc_cell w4 w2.heap.size (by omega)).1
  have z4 := fun j => (bcell hb4).1 w3.heap.size j (by simp)
  have z4a := (alloc_cell w4 w3.heap.size (by omega)).1
  go_wp2_with fail
  go_ret
  exact ⟨rfl, (((((((hb1.alloc hb1.size _).trans (hb2.mono (by have := hb1.size; simp; omega))).alloc (by have := hb1.size; omega) _).trans (hb3.mono (by have := hb1.size; simp; omega))).alloc (by have := hb1.size; omega) _).trans (hb4.mono (by have := hb1.size; simp; omega)))).alloc (by have := hb1.size; omega) _⟩
theorem fields_hi (r1 r2 r3 v d a b m u : Int) (W : World) (T : Tabs W) (hd : bits .and .i64 r1 31 = d) (ha : bits .and .i64 r2 31 = a) (hb : bits .and .i64 r3 31 = b) (hm : bits .and .u32 v 4095 = m) (hu : bits .andNot .u32 v 4095 = u) (hm5 : bits .and .u32 m 31 = m % 32)
    (d0 : 0 ≤ d) (d1 : d < 32) (a0 : 0 ≤ a) (a1 : a < 32) (b0 : 0 ≤ b) (b1 : b < 32) (m0 : 2048 ≤ m) (m1 : m < 4096) (u0 : 0 ≤ u) (u1 : u < 4294963201) (u2 : u % 4096 = 0) :
    Calls Tryd.prog 4 #[.int .i64 r1, .int .i64 r2, .int .i64 r3, .int .u32 v] W fun e W' => e = .returned (.bool true) ∧ Below W.heap.size W W' := by
  have e1 := dec_add d a b d0 d1 a0 a1 b0 b1
  have e2 := dec_addi d a m d0 d1 a0 a1 (by omega) m1
  have e3 := dec_sw a b m a0 a1 b0 b1 (by omega) m1
  have e4 := dec_lui d u d0 d1 u0 (by omega) u2
  rw [if_neg (by omega)] at e2 e3
  go_enter Tryd.func4, Tryd.ntmps4
  go_wp2_with fail
  refine (decode_is _ _ _ _ _ _ _ e1 (by omega) (by omega) T).mono ?_
  rintro e w1 ⟨rfl, hb1⟩
  have T1 := T.below T.size hb1
  go_wp2_with fail
  refine (decode_is _ _ _ _ _ _ _ e2 (by omega) (by omega) (T1.below T1.size ((Below.refl _ _).alloc (Nat.le_refl _) _))).mono ?_
  rintro e w2 ⟨rfl, hb2⟩
  have T2 := (T1.below T1.size ((Below.refl _ _).alloc (Nat.le_refl _) _)).below (by simp; have := T1.size; omega) hb2
  have s2 := hb2.size
  simp at s2
  have x2 := fun j => (bcell hb2).1 w1.heap.size j (by simp)
  have x2a := (alloc_cell w2 w1.heap.size (by omega)).1
  go_wp2_with fail
  refine (decode_is _ _ _ _ _ _ _ e3 (by omega) (by omega) (T2.below T2.size ((Below.refl _ _).alloc (Nat.le_refl _) _))).mono ?_
  rintro e w3 ⟨rfl, hb3⟩
  have T3 := (T2.below T2.size ((Below.refl _ _).alloc (Nat.le_refl _) _)).below (by simp; have := T2.size; omega) hb3
  have s3 := hb3.size
  simp at s3
  have x3 := fun j => (bcell hb3).1 w1.heap.size j (by simp; omega)
  have x3a := (alloc_cell w3 w1.heap.size (by omega)).1
  have y3 := fun j => (bcell hb3).1 w2.heap.size j (by simp)
  have y3a := (alloc_cell w3 w2.heap.size (by omega)).1
  go_wp2_with fail
  refine (decode_is _ _ _ _ _ _ _ e4 (by omega) (by omega) (T3.below T3.size ((Below.refl _ _).alloc (Nat.le_refl _) _))).mono ?_
  rintro e w4 ⟨rfl, hb4⟩
  have s4 := hb4.size
  simp at s4
  have x4 := fun j => (bcell hb4).1 w1.heap.size j (by simp; omega)
  have x4a := (alloc_cell w4 w1.heap.size (by omega)).1
  have y4 := fun j => (bcell hb4).1 w2.heap.size j (by simp; omega)
  have y4a := (alloc_cell w4 w2.heap.size (by omega)).1
  have z4 := fun j => (bcell hb4).1 w3.heap.size j (by simp)
  have z4a := (alloc_cell w4 w3.heap.size (by omega)).1
  go_wp2_with fail
  go_ret
  exact ⟨rfl, (((((((hb1.alloc hb1.size _).trans (hb2.mono (by have := hb1.size; simp; omega))).alloc (by have := hb1.size; omega) _).trans (hb3.mono (by have := hb1.size; simp; omega))).alloc (by have := hb1.size; omega) _).trans (hb4.mono (by have := hb1.size; simp; omega)))).alloc (by have := hb1.size; omega) _⟩

theorem fields_any (r1 r2 r3 v : Int) (v0 : 0 ≤ v) (v1 : v < 4294967296) (W : World) (T : Tabs W) :
    Calls Tryd.prog 4 #[.int .i64 r1, .int .i64 r2, .int .i64 r3, .int .u32 v] W fun e W' => e = .returned (.bool true) ∧ Below W.heap.size W W' := by
  by_cases hm : v % 4096 < 2048
  · exact fields_lo r1 r2 r3 v (r1 % 32) (r2 % 32) (r3 % 32) (v % 4096) (v / 4096 * 4096) W T (and31 _) (and31 _) (and31 _) (and4095 v v0 v1) (andNot4095 v v0 v1) (and31u _ (by omega) (by omega))
      (by omega) (by omega) (by omega) (by omega) (by omega) (by omega) (by omega) hm (by omega) (by omega) (by omega)
  · exact fields_hi r1 r2 r3 v (r1 % 32) (r2 % 32) (r3 % 32) (v % 4096) (v / 4096 * 4096) W T (and31 _) (and31 _) (and31 _) (and4095 v v0 v1) (andNot4095 v v0 v1) (and31u _ (by omega) (by omega))
      (by omega) (by omega) (by omega) (by omega) (by omega) (by omega) (by omega) (by omega) (by omega) (by omega) (by omega)
end Go.Proofs.YteiideeechnekaaDoor
