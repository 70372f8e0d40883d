/-
  hartref: bits, above, imm.
-/
import Derived.Test.YteiideeechnekaaDoorLeaf
namespace Go.Proofs.YteiideeechnekaaDoor
open Go.RowKit

theorem rbits_any (w a n t : Int) (W : World) (a0 : 0 ≤ a) (a1 : a ≤ 31) (n0 : 0 ≤ n) (n1 : n ≤ 20) (t0 : 0 ≤ t) (t1 : t ≤ 20) :
    Calls Tryd.prog 11 #[.int .u32 w, .int .i64 a, .int .i64 n, .int .i64 t] W fun e W' => e = .returned (.int .u32 (bits .and .u32 (w / 2 ^ a.toNat) ((2 ^ n.toNat - 1) % 4294967296) * 2 ^ t.toNat % 4294967296)) ∧ ∃ q, W' = W.drewN q := by
  go_enter Tryd.func11, Tryd.ntmps11
  go_wp2_with fail
  go_quiet (fail)
  go_wp2
  go_ret
  exact ⟨rfl, _, rfl⟩
theorem rb_7_5_0 (w : Int) (W : World) (_h0 : 0 ≤ w) (_h1 : w < 4294967296) :
    Calls Tryd.prog 11 #[.int .u32 w, .int .i64 7, .int .i64 5, .int .i64 0] W fun e W' => e = .returned (.int .u32 (w / 128 % 32)) ∧ ∃ q, W' = W.drewN q := by
  refine (rbits_any w 7 5 0 W (by decide) (by decide) (by decide) (by decide) (by decide) (by decide)).mono ?_
  rintro e W' ⟨rfl, hq⟩
  refine ⟨ret_int ?_, hq⟩
  have m : bits .and .u32 (w / 128) 31 = w / 128 % 32 := mask_u32 5 (by decide) (w / 128) (by omega) (by omega)
  simp
  rw [m]
  omega
theorem rb_15_5_0 (w : Int) (W : World) (_h0 : 0 ≤ w) (_h1 : w < 4294967296) :
    Calls Tryd.prog 11 #[.int .u32 w, .int .i64 15, .int .i64 5, .int .i64 0] W fun e W' => e = .returned (.int .u32 (w / 32768 % 32)) ∧ ∃ q, W' = W.drewN q := by
  refine (rbits_any w 15 5 0 W (by decide) (by decide) (by decide) (by decide) (by decide) (by decide)).mono ?_
  rintro e W' ⟨rfl, hq⟩
  refine ⟨ret_int ?_, hq⟩
  have m : bits .and .u32 (w / 32768) 31 = w / 32768 % 32 := mask_u32 5 (by decide) (w / 32768) (by omega) (by omega)
  simp
  rw [m]
  omega
theorem rb_20_5_0 (w : Int) (W : World) (_h0 : 0 ≤ w) (_h1 : w < 4294967296) :
    Calls Tryd.prog 11 #[.int .u32 w, .int .i64 20, .int .i64 5, .int .i64 0] W fun e W' => e = .returned (.int .u32 (w / 1048576 % 32)) ∧ ∃ q, W' = W.drewN q := by
  refine (rbits_any w 20 5 0 W (by decide) (by decide) (by decide) (by decide) (by decide) (by decide)).mono ?_
  rintro e W' ⟨rfl, hq⟩
  refine ⟨ret_int ?_, hq⟩
  have m : bits .and .u32 (w / 1048576) 31 = w / 1048576 % 32 := mask_u32 5 (by decide) (w / 1048576) (by omega) (by omega)
  simp
  rw [m]
  omega
theorem rb_20_11_0 (w : Int) (W : World) (_h0 : 0 ≤ w) (_h1 : w < 4294967296) :
    Calls Tryd.prog 11 #[.int .u32 w, .int .i64 20, .int .i64 11, .int .i64 0] W fun e W' => e = .returned (.int .u32 (w / 1048576 % 2048)) ∧ ∃ q, W' = W.drewN q := by
  refine (rbits_any w 20 11 0 W (by decide) (by decide) (by decide) (by decide) (by decide) (by decide)).mono ?_
  rintro e W' ⟨rfl, hq⟩
  refine ⟨ret_int ?_, hq⟩
  have m : bits .and .u32 (w / 1048576) 2047 = w / 1048576 % 2048 := mask_u32 11 (by decide) (w / 1048576) (by omega) (by omega)
  simp
  rw [m]
  omega
theorem rb_25_6_5 (w : Int) (W : World) (_h0 : 0 ≤ w) (_h1 : w < 4294967296) :
    Calls Tryd.prog 11 #[.int .u32 w, .int .i64 25, .int .i64 6, .int .i64 5] W fun e W' => e = .returned (.int .u32 (w / 33554432 % 64 * 32)) ∧ ∃ q, W' = W.drewN q := by
  refine (rbits_any w 25 6 5 W (by decide) (by decide) (by decide) (by decide) (by decide) (by decide)).mono ?_
  rintro e W' ⟨rfl, hq⟩
  refine ⟨ret_int ?_, hq⟩
  have m : bits .and .u32 (w / 33554432) 63 = w / 33554432 % 64 := mask_u32 6 (by decide) (w / 33554432) (by omega) (by omega)
  simp
  rw [m]
  omega
theorem rb_7_1_11 (w : Int) (W : World) (_h0 : 0 ≤ w) (_h1 : w < 4294967296) :
    Calls Tryd.prog 11 #[.int .u32 w, .int .i64 7, .int .i64 1, .int .i64 11] W fun e W' => e = .returned (.int .u32 (w / 128 % 2 * 2048)) ∧ ∃ q, W' = W.drewN q := by
  refine (rbits_any w 7 1 11 W (by decide) (by decide) (by decide) (by decide) (by decide) (by decide)).mono ?_
  rintro e W' ⟨rfl, hq⟩
  refine ⟨ret_int ?_, hq⟩
  have m : bits .and .u32 (w / 128) 1 = w / 128 % 2 := mask_u32 1 (by decide) (w / 128) (by omega) (by omega)
  simp
  rw [m]
  omega
theorem rb_8_4_1 (w : Int) (W : World) (_h0 : 0 ≤ w) (_h1 : w < 4294967296) :
    Calls Tryd.prog 11 #[.int .u32 w, .int .i64 8, .int .i64 4, .int .i64 1] W fun e W' => e = .returned (.int .u32 (w / 256 % 16 * 2)) ∧ ∃ q, W' = W.drewN q := by
  refine (rbits_any w 8 4 1 W (by decide) (by decide) (by decide) (by decide) (by decide) (by decide)).mono ?_
  rintro e W' ⟨rfl, hq⟩
  refine ⟨ret_int ?_, hq⟩
  have m : bits .and .u32 (w / 256) 15 = w / 256 % 16 := mask_u32 4 (by decide) (w / 256) (by omega) (by omega)
  simp
  rw [m]
  omega
theorem rb_12_20_12 (w : Int) (W : World) (_h0 : 0 ≤ w) (_h1 : w < 4294967296) :
    Calls Tryd.prog 11 #[.int .u32 w, .int .i64 12, .int .i64 20, .int .i64 12] W fun e W' => e = .returned (.int .u32 (w / 4096 * 4096)) ∧ ∃ q, W' = W.drewN q := by
  refine (rbits_any w 12 20 12 W (by decide) (by decide) (by decide) (by decide) (by decide) (by decide)).mono ?_
  rintro e W' ⟨rfl, hq⟩
  refine ⟨ret_int ?_, hq⟩
  have m : bits .and .u32 (w / 4096) 1048575 = w / 4096 % 1048576 := mask_u32 20 (by decide) (w / 4096) (by omega) (by omega)
  simp
  rw [m]
  omega
theorem rb_12_8_12 (w : Int) (W : World) (_h0 : 0 ≤ w) (_h1 : w < 4294967296) :
    Calls Tryd.prog 11 #[.int .u32 w, .int .i64 12, .int .i64 8, .int .i64 12] W fun e W' => e = .returned (.int .u32 (w / 4096 % 256 * 4096)) ∧ ∃ q, W' = W.drewN q := by
  refine (rbits_any w 12 8 12 W (by decide) (by decide) (by decide) (by decide) (by decide) (by decide)).mono ?_
  rintro e W' ⟨rfl, hq⟩
  refine ⟨ret_int ?_, hq⟩
  have m : bits .and .u32 (w / 4096) 255 = w / 4096 % 256 := mask_u32 8 (by decide) (w / 4096) (by omega) (by omega)
  simp
  rw [m]
  omega
theorem rb_20_1_11 (w : Int) (W : World) (_h0 : 0 ≤ w) (_h1 : w < 4294967296) :
    Calls Tryd.prog 11 #[.int .u32 w, .int .i64 20, .int .i64 1, .int .i64 11] W fun e W' => e = .returned (.int .u32 (w / 1048576 % 2 * 2048)) ∧ ∃ q, W' = W.drewN q := by
  refine (rbits_any w 20 1 11 W (by decide) (by decide) (by decide) (by decide) (by decide) (by decide)).mono ?_
  rintro e W' ⟨rfl, hq⟩
  refine ⟨ret_int ?_, hq⟩
  have m : bits .and .u32 (w / 1048576) 1 = w / 1048576 % 2 := mask_u32 1 (by decide) (w / 1048576) (by omega) (by omega)
  simp
  rw [m]
  omega
theorem rb_21_10_1 (w : Int) (W : World) (_h0 : 0 ≤ w) (_h1 : w < 4294967296) :
    Calls Tryd.prog 11 #[.int .u32 w, .int .i64 21, .int .i64 10, .int .i64 1] W fun e W' => e = .returned (.int .u32 (w / 2097152 % 1024 * 2)) ∧ ∃ q, W' = W.drewN q := by
  refine (rbits_any w 21 10 1 W (by decide) (by decide) (by decide) (by decide) (by decide) (by decide)).mono ?_
  rintro e W' ⟨rfl, hq⟩
  refine ⟨ret_int ?_, hq⟩
  have m : bits .and .u32 (w / 2097152) 1023 = w / 2097152 % 1024 := mask_u32 10 (by decide) (w / 2097152) (by omega) (by omega)
  simp
  rw [m]
  omega
theorem rb_20_12_0 (w : Int) (W : World) (_h0 : 0 ≤ w) (_h1 : w < 4294967296) :
    Calls Tryd.prog 11 #[.int .u32 w, .int .i64 20, .int .i64 12, .int .i64 0] W fun e W' => e = .returned (.int .u32 (w / 1048576)) ∧ ∃ q, W' = W.drewN q := by
  refine (rbits_any w 20 12 0 W (by decide) (by decide) (by decide) (by decide) (by decide) (by decide)).mono ?_
  rintro e W' ⟨rfl, hq⟩
  refine ⟨ret_int ?_, hq⟩
  have m : bits .and .u32 (w / 1048576) 4095 = w / 1048576 % 4096 := mask_u32 12 (by decide) (w / 1048576) (by omega) (by omega)
  simp
  rw [m]
  omega
theorem above_any (w t : Int) (W : World) (_h0 : 0 ≤ w) (_h1 : w < 4294967296) (t0 : 0 ≤ t) (t1 : t ≤ 31) :
    Calls Tryd.prog 18 #[.int .u32 w, .int .i64 t] W fun e W' => e = .returned (.int .u32 (w / 2147483648 * (4294967295 * 2 ^ t.toNat % 4294967296))) ∧ W' = W := by
  by_cases h : w < 2147483648
  · have e0 : w / 2147483648 = 0 := by omega
    go_enter Tryd.func18, Tryd.ntmps18
    go_wp2
    go_ret
    exact ⟨ret_int (by rw [e0, Int.zero_mul]), rfl⟩
  · have e0 : w / 2147483648 = 1 := by omega
    go_enter Tryd.func18, Tryd.ntmps18
    go_wp2
    go_ret
    exact ⟨ret_int (by omega), rfl⟩
theorem above_11 (w : Int) (W : World) (h0 : 0 ≤ w) (h1 : w < 4294967296) :
    Calls Tryd.prog 18 #[.int .u32 w, .int .i64 11] W fun e W' => e = .returned (.int .u32 (w / 2147483648 * 4294965248)) ∧ W' = W := by
  refine (above_any w 11 W h0 h1 (by decide) (by decide)).mono ?_
  rintro e W' ⟨rfl, hq⟩
  exact ⟨ret_int (by simp), hq⟩
theorem above_12 (w : Int) (W : World) (h0 : 0 ≤ w) (h1 : w < 4294967296) :
    Calls Tryd.prog 18 #[.int .u32 w, .int .i64 12] W fun e W' => e = .returned (.int .u32 (w / 2147483648 * 4294963200)) ∧ W' = W := by
  refine (above_any w 12 W h0 h1 (by decide) (by decide)).mono ?_
  rintro e W' ⟨rfl, hq⟩
  exact ⟨ret_int (by simp), hq⟩
theorem above_20 (w : Int) (W : World) (h0 : 0 ≤ w) (h1 : w < 4294967296) :
    Calls Tryd.prog 18 #[.int .u32 w, .int .i64 20] W fun e W' => e = .returned (.int .u32 (w / 2147483648 * 4293918720)) ∧ W' = W := by
  refine (above_any w 20 W h0 h1 (by decide) (by decide)).mono ?_
  rintro e W' ⟨rfl, hq⟩
  exact ⟨ret_int (by simp), hq⟩
theorem imm_I (w : Int) (W : World) (h0 : 0 ≤ w) (h1 : w < 4294967296) :
    Calls Tryd.prog 12 #[.int .u32 w, .int .u8 73] W fun e W' => e = .returned (.int .u32 (immI w)) ∧ ∃ q, W' = W.drewN q := by
  go_enter Tryd.func12, Tryd.ntmps12
  go_wp2_with (first | (go_at_call 18; refine (above_11 _ _ h0 h1).mono ?_; rintro e w' ⟨rfl, rfl⟩) | (go_at_call_of 11 (Value.int IntKind.i64 20); refine (rb_20_11_0 _ _ h0 h1).mono ?_; rintro e w' ⟨rfl, q, rfl⟩))
  go_ret
  refine ⟨ret_int ?_, ?q⟩
  case q => exact ⟨_, rfl⟩
  unfold immI
  rw [join_u32 11 _ _ (by omega) (by omega) (by omega) (by omega) (by omega) (by omega)]
  omega
theorem imm_S (w : Int) (W : World) (h0 : 0 ≤ w) (h1 : w < 4294967296) :
    Calls Tryd.prog 12 #[.int .u32 w, .int .u8 83] W fun e W' => e = .returned (.int .u32 (immS w)) ∧ ∃ q, W' = W.drewN q := by
  go_enter Tryd.func12, Tryd.ntmps12
  go_wp2_with (first | (go_at_call 18; refine (above_11 _ _ h0 h1).mono ?_; rintro e w' ⟨rfl, rfl⟩) | (go_at_call_of 11 (Value.int IntKind.i64 25); refine (rb_25_6_5 _ _ h0 h1).mono ?_; rintro e w' ⟨rfl, q, rfl⟩) | (go_at_call_of 11 (Value.int IntKind.i64 7); refine (rb_7_5_0 _ _ h0 h1).mono ?_; rintro e w' ⟨rfl, q, rfl⟩))
  go_ret
  refine ⟨ret_int ?_, ?q⟩
  case q => exact ⟨_, rfl⟩
  unfold immS
  refine (or3 11 5 _ _ _ ?_ ?_ ?_ ?_ ?_ ?_ ?_ ?_ ?_).trans ?_
  all_goals omega
theorem imm_B (w : Int) (W : World) (h0 : 0 ≤ w) (h1 : w < 4294967296) :
    Calls Tryd.prog 12 #[.int .u32 w, .int .u8 66] W fun e W' => e = .returned (.int .u32 (immB w)) ∧ ∃ q, W' = W.drewN q := by
  go_enter Tryd.func12, Tryd.ntmps12
  go_wp2_with (first | (go_at_call 18; refine (above_12 _ _ h0 h1).mono ?_; rintro e w' ⟨rfl, rfl⟩) | (go_at_call_of 11 (Value.int IntKind.i64 7); refine (rb_7_1_11 _ _ h0 h1).mono ?_; rintro e w' ⟨rfl, q, rfl⟩) | (go_at_call_of 11 (Value.int IntKind.i64 25); refine (rb_25_6_5 _ _ h0 h1).mono ?_; rintro e w' ⟨rfl, q, rfl⟩) | (go_at_call_of 11 (Value.int IntKind.i64 8); refine (rb_8_4_1 _ _ h0 h1).mono ?_; rintro e w' ⟨rfl, q, rfl⟩))
  go_ret
  refine ⟨ret_int ?_, ?q⟩
  case q => exact ⟨_, rfl⟩
  unfold immB
  refine (or4 12 11 5 _ _ _ _ ?_ ?_ ?_ ?_ ?_ ?_ ?_ ?_ ?_ ?_ ?_ ?_ ?_).trans ?_
  all_goals omega
theorem imm_U (w : Int) (W : World) (h0 : 0 ≤ w) (h1 : w < 4294967296) :
    Calls Tryd.prog 12 #[.int .u32 w, .int .u8 85] W fun e W' => e = .returned (.int .u32 (w / 4096 * 4096)) ∧ ∃ q, W' = W.drewN q := by
  go_enter Tryd.func12, Tryd.ntmps12
  go_wp2_with (first | (go_at_call_of 11 (Value.int IntKind.i64 12); refine (rb_12_20_12 _ _ h0 h1).mono ?_; rintro e w' ⟨rfl, q, rfl⟩))
  go_ret
  exact ⟨rfl, _, rfl⟩
theorem imm_J (w : Int) (W : World) (h0 : 0 ≤ w) (h1 : w < 4294967296) :
    Calls Tryd.prog 12 #[.int .u32 w, .int .u8 74] W fun e W' => e = .returned (.int .u32 (immJ w)) ∧ ∃ q, W' = W.drewN q := by
  go_enter Tryd.func12, Tryd.ntmps12
  go_wp2_with (first | (go_at_call 18; refine (above_20 _ _ h0 h1).mono ?_; rintro e w' ⟨rfl, rfl⟩) | (go_at_call_of 11 (Value.int IntKind.i64 12); refine (rb_12_8_12 _ _ h0 h1).mono ?_; rintro e w' ⟨rfl, q, rfl⟩) | (go_at_call_of 11 (Value.int IntKind.i64 20); refine (rb_20_1_11 _ _ h0 h1).mono ?_; rintro e w' ⟨rfl, q, rfl⟩) | (go_at_call_of 11 (Value.int IntKind.i64 21); refine (rb_21_10_1 _ _ h0 h1).mono ?_; rintro e w' ⟨rfl, q, rfl⟩))
  go_ret
  refine ⟨ret_int ?_, ?q⟩
  case q => exact ⟨_, rfl⟩
  unfold immJ
  refine (or4 20 12 11 _ _ _ _ ?_ ?_ ?_ ?_ ?_ ?_ ?_ ?_ ?_ ?_ ?_ ?_ ?_).trans ?_
  all_goals omega
theorem imm_H (w : Int) (W : World) (h0 : 0 ≤ w) (h1 : w < 4294967296) :
    Calls Tryd.prog 12 #[.int .u32 w, .int .u8 72] W fun e W' => e = .returned (.int .u32 (w / 1048576 % 32)) ∧ ∃ q, W' = W.drewN q := by
  go_enter Tryd.func12, Tryd.ntmps12
  go_wp2_with (first | (go_at_call_of 11 (Value.int IntKind.i64 20); refine (rb_20_5_0 _ _ h0 h1).mono ?_; rintro e w' ⟨rfl, q, rfl⟩))
  go_ret
  exact ⟨rfl, _, rfl⟩
theorem imm_C (w : Int) (W : World) (h0 : 0 ≤ w) (h1 : w < 4294967296) :
    Calls Tryd.prog 12 #[.int .u32 w, .int .u8 67] W fun e W' => e = .returned (.int .u32 (w / 1048576)) ∧ ∃ q, W' = W.drewN q := by
  go_enter Tryd.func12, Tryd.ntmps12
  go_wp2_with (first | (go_at_call_of 11 (Value.int IntKind.i64 20); refine (rb_20_12_0 _ _ h0 h1).mono ?_; rintro e w' ⟨rfl, q, rfl⟩))
  go_ret
  exact ⟨rfl, _, rfl⟩
theorem imm_R (w : Int) (W : World) :
    Calls Tryd.prog 12 #[.int .u32 w, .int .u8 82] W fun e W' => e = .returned (.int .u32 0) ∧ ∃ q, W' = W.drewN q := by
  go_enter Tryd.func12, Tryd.ntmps12
  go_wp2
  go_ret
  exact ⟨rfl, 0, rfl⟩
theorem imm_N (w : Int) (W : World) :
    Calls Tryd.prog 12 #[.int .u32 w, .int .u8 78] W fun e W' => e = .returned (.int .u32 0) ∧ ∃ q, W' = W.drewN q := by
  go_enter Tryd.func12, Tryd.ntmps12
  go_wp2
  go_ret
  exact ⟨rfl, 0, rfl⟩
end Go.Proofs.YteiideeechnekaaDoor
