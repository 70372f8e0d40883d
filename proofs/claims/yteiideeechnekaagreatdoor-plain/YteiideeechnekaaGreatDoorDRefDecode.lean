import Derived.Test.YteiideeechnekaaGreatDoorDLeaf
import Derived.Deep.AppendLies
import Derived.Test.YteiideeechnekaaGreatDoorDCode
/-
  hartref: bits, above, imm.
-/
namespace Go.Proofs.YteiideeechnekaaGreatDoor.D
open Go.RowKit

theorem rbits_any (w a n t : Int) (W : World) (a0 : 0 ≤ a) (a1 : a ≤ 31) (n0 : 0 ≤ n) (n1 : n ≤ 20) (t0 : 0 ≤ t) (t1 : t ≤ 20) :
    Calls Tryz.prog 88 #[.int .u32 w, .int .i64 a, .int .i64 n, .int .i64 t] W fun e W' => e = .returned (.int .u32 (bits .and .u32 (w / 2 ^ a.toNat) ((2 ^ n.toNat - 1) % 4294967296) * 2 ^ t.toNat % 4294967296)) ∧ ∃ q, W' = W.drewN q := by
  go_enter Tryz.func88, Tryz.ntmps88
  go_wp2_with fail
  go_quiet (fail)
  go_wp2
  go_ret
  exact ⟨rfl, _, rfl⟩
theorem rb_7_5_0 (w : Int) (W : World) (_h0 : 0 ≤ w) (_h1 : w < 4294967296) :
    Calls Tryz.prog 88 #[.int .u32 w, .int .i64 7, .int .i64 5, .int .i64 0] W fun e W' => e = .returned (.int .u32 (w / 128 % 32)) ∧ ∃ q, W' = W.drewN q := by
  refine (rbits_any w 7 5 0 W (by decide) (by decide) (by decide) (by decide) (by decide) (by decide)).mono ?_
  rintro e W' ⟨rfl, hq⟩
  refine ⟨ret_int ?_, hq⟩
  have m : bits .and .u32 (w / 128) 31 = w / 128 % 32 := mask_u32 5 (by decide) (w / 128) (by omega) (by omega)
  simp
  rw [m]
  omega
theorem rb_15_5_0 (w : Int) (W : World) (_h0 : 0 ≤ w) (_h1 : w < 4294967296) :
    Calls Tryz.prog 88 #[.int .u32 w, .int .i64 15, .int .i64 5, .int .i64 0] W fun e W' => e = .returned (.int .u32 (w / 32768 % 32)) ∧ ∃ q, W' = W.drewN q := by
  refine (rbits_any w 15 5 0 W (by decide) (by decide) (by decide) (by decide) (by decide) (by decide)).mono ?_
  rintro e W' ⟨rfl, hq⟩
  refine ⟨ret_int ?_, hq⟩
  have m : bits .and .u32 (w / 32768) 31 = w / 32768 % 32 := mask_u32 5 (by decide) (w / 32768) (by omega) (by omega)
  simp
  rw [m]
  omega
theorem rb_20_5_0 (w : Int) (W : World) (_h0 : 0 ≤ w) (_h1 : w < 4294967296) :
    Calls Tryz.prog 88 #[.int .u32 w, .int .i64 20, .int .i64 5, .int .i64 0] W fun e W' => e = .returned (.int .u32 (w / 1048576 % 32)) ∧ ∃ q, W' = W.drewN q := by
  refine (rbits_any w 20 5 0 W (by decide) (by decide) (by decide) (by decide) (by decide) (by decide)).mono ?_
  rintro e W' ⟨rfl, hq⟩
  refine ⟨ret_int ?_, hq⟩
  have m : bits .and .u32 (w / 1048576) 31 = w / 1048576 % 32 := mask_u32 5 (by decide) (w / 1048576) (by omega) (by omega)
  simp
  rw [m]
  omega
theorem rb_20_11_0 (w : Int) (W : World) (_h0 : 0 ≤ w) (_h1 : w < 4294967296) :
    Calls Tryz.prog 88 #[.int .u32 w, .int .i64 20, .int .i64 11, .int .i64 0] W fun e W' => e = .returned (.int .u32 (w / 1048576 % 2048)) ∧ ∃ q, W' = W.drewN q := by
  refine (rbits_any w 20 11 0 W (by decide) (by decide) (by decide) (by decide) (by decide) (by decide)).mono ?_
  rintro e W' ⟨rfl, hq⟩
  refine ⟨ret_int ?_, hq⟩
  have m : bits .and .u32 (w / 1048576) 2047 = w / 1048576 % 2048 := mask_u32 11 (by decide) (w / 1048576) (by omega) (by omega)
  simp
  rw [m]
  omega
theorem rb_25_6_5 (w : Int) (W : World) (_h0 : 0 ≤ w) (_h1 : w < 4294967296) :
    Calls Tryz.prog 88 #[.int .u32 w, .int .i64 25, .int .i64 6, .int .i64 5] W fun e W' => e = .returned (.int .u32 (w / 33554432 % 64 * 32)) ∧ ∃ q, W' = W.drewN q := by
  refine (rbits_any w 25 6 5 W (by decide) (by decide) (by decide) (by decide) (by decide) (by decide)).mono ?_
  rintro e W' ⟨rfl, hq⟩
  refine ⟨ret_int ?_, hq⟩
  have m : bits .and .u32 (w / 33554432) 63 = w / 33554432 % 64 := mask_u32 6 (by decide) (w / 33554432) (by omega) (by omega)
  simp
  rw [m]
  omega
theorem rb_7_1_11 (w : Int) (W : World) (_h0 : 0 ≤ w) (_h1 : w < 4294967296) :
    Calls Tryz.prog 88 #[.int .u32 w, .int .i64 7, .int .i64 1, .int .i64 11] W fun e W' => e = .returned (.int .u32 (w / 128 % 2 * 2048)) ∧ ∃ q, W' = W.drewN q := by
  refine (rbits_any w 7 1 11 W (by decide) (by decide) (by decide) (by decide) (by decide) (by decide)).mono ?_
  rintro e W' ⟨rfl, hq⟩
  refine ⟨ret_int ?_, hq⟩
  have m : bits .and .u32 (w / 128) 1 = w / 128 % 2 := mask_u32 1 (by decide) (w / 128) (by omega) (by omega)
  simp
  rw [m]
  omega
theorem rb_8_4_1 (w : Int) (W : World) (_h0 : 0 ≤ w) (_h1 : w < 4294967296) :
    Calls Tryz.prog 88 #[.int .u32 w, .int .i64 8, .int .i64 4, .int .i64 1] W fun e W' => e = .returned (.int .u32 (w / 256 % 16 * 2)) ∧ ∃ q, W' = W.drewN q := by
  refine (rbits_any w 8 4 1 W (by decide) (by decide) (by decide) (by decide) (by decide) (by decide)).mono ?_
  rintro e W' ⟨rfl, hq⟩
  refine ⟨ret_int ?_, hq⟩
  have m : bits .and .u32 (w / 256) 15 = w / 256 % 16 := mask_u32 4 (by decide) (w / 256) (by omega) (by omega)
  simp
  rw [m]
  omega
theorem rb_12_20_12 (w : Int) (W : World) (_h0 : 0 ≤ w) (_h1 : w < 4294967296) :
    Calls Tryz.prog 88 #[.int .u32 w, .int .i64 12, .int .i64 20, .int .i64 12] W fun e W' => e = .returned (.int .u32 (w / 4096 * 4096)) ∧ ∃ q, W' = W.drewN q := by
  refine (rbits_any w 12 20 12 W (by decide) (by decide) (by decide) (by decide) (by decide) (by decide)).mono ?_
  rintro e W' ⟨rfl, hq⟩
  refine ⟨ret_int ?_, hq⟩
  have m : bits .and .u32 (w / 4096) 1048575 = w / 4096 % 1048576 := mask_u32 20 (by decide) (w / 4096) (by omega) (by omega)
  simp
  rw [m]
  omega
theorem rb_12_8_12 (w : Int) (W : World) (_h0 : 0 ≤ w) (_h1 : w < 4294967296) :
    Calls Tryz.prog 88 #[.int .u32 w, .int .i64 12, .int .i64 8, .int .i64 12] W fun e W' => e = .returned (.int .u32 (w / 4096 % 256 * 4096)) ∧ ∃ q, W' = W.drewN q := by
  refine (rbits_any w 12 8 12 W (by decide) (by decide) (by decide) (by decide) (by decide) (by decide)).mono ?_
  rintro e W' ⟨rfl, hq⟩
  refine ⟨ret_int ?_, hq⟩
  have m : bits .and .u32 (w / 4096) 255 = w / 4096 % 256 := mask_u32 8 (by decide) (w / 4096) (by omega) (by omega)
  simp
  rw [m]
  omega
theorem rb_20_1_11 (w : Int) (W : World) (_h0 : 0 ≤ w) (_h1 : w < 4294967296) :
    Calls Tryz.prog 88 #[.int .u32 w, .int .i64 20, .int .i64 1, .int .i64 11] W fun e W' => e = .returned (.int .u32 (w / 1048576 % 2 * 2048)) ∧ ∃ q, W' = W.drewN q := by
  refine (rbits_any w 20 1 11 W (by decide) (by decide) (by decide) (by decide) (by decide) (by decide)).mono ?_
  rintro e W' ⟨rfl, hq⟩
  refine ⟨ret_int ?_, hq⟩
  have m : bits .and .u32 (w / 1048576) 1 = w / 1048576 % 2 := mask_u32 1 (by decide) (w / 1048576) (by omega) (by omega)
  simp
  rw [m]
  omega
theorem rb_21_10_1 (w : Int) (W : World) (_h0 : 0 ≤ w) (_h1 : w < 4294967296) :
    Calls Tryz.prog 88 #[.int .u32 w, .int .i64 21, .int .i64 10, .int .i64 1] W fun e W' => e = .returned (.int .u32 (w / 2097152 % 1024 * 2)) ∧ ∃ q, W' = W.drewN q := by
  refine (rbits_any w 21 10 1 W (by decide) (by decide) (by decide) (by decide) (by decide) (by decide)).mono ?_
  rintro e W' ⟨rfl, hq⟩
  refine ⟨ret_int ?_, hq⟩
  have m : bits .and .u32 (w / 2097152) 1023 = w / 2097152 % 1024 := mask_u32 10 (by decide) (w / 2097152) (by omega) (by omega)
  simp
  rw [m]
  omega
theorem rb_20_12_0 (w : Int) (W : World) (_h0 : 0 ≤ w) (_h1 : w < 4294967296) :
    Calls Tryz.prog 88 #[.int .u32 w, .int .i64 20, .int .i64 12, .int .i64 0] W fun e W' => e = .returned (.int .u32 (w / 1048576)) ∧ ∃ q, W' = W.drewN q := by
  refine (rbits_any w 20 12 0 W (by decide) (by decide) (by decide) (by decide) (by decide) (by decide)).mono ?_
  rintro e W' ⟨rfl, hq⟩
  refine ⟨ret_int ?_, hq⟩
  have m : bits .and .u32 (w / 1048576) 4095 = w / 1048576 % 4096 := mask_u32 12 (by decide) (w / 1048576) (by omega) (by omega)
  simp
  rw [m]
  omega
theorem above_any (w t : Int) (W : World) (_h0 : 0 ≤ w) (_h1 : w < 4294967296) (t0 : 0 ≤ t) (t1 : t ≤ 31) :
    Calls Tryz.prog 124 #[.int .u32 w, .int .i64 t] W fun e W' => e = .returned (.int .u32 (w / 2147483648 * (4294967295 * 2 ^ t.toNat % 4294967296))) ∧ W' = W := by
  by_cases h : w < 2147483648
  · have e0 : w / 2147483648 = 0 := by omega
    go_enter Tryz.func124, Tryz.ntmps124
    go_wp2
    go_ret
    exact ⟨ret_int (by rw [e0, Int.zero_mul]), rfl⟩
  · have e0 : w / 2147483648 = 1 := by omega
    go_enter Tryz.func124, Tryz.ntmps124
    go_wp2
    go_ret
    exact ⟨ret_int (by omega), rfl⟩
theorem above_11 (w : Int) (W : World) (h0 : 0 ≤ w) (h1 : w < 4294967296) :
    Calls Tryz.prog 124 #[.int .u32 w, .int .i64 11] W fun e W' => e = .returned (.int .u32 (w / 2147483648 * 4294965248)) ∧ W' = W := by
  refine (above_any w 11 W h0 h1 (by decide) (by decide)).mono ?_
  rintro e W' ⟨rfl, hq⟩
  exact ⟨ret_int (by simp), hq⟩
theorem above_12 (w : Int) (W : World) (h0 : 0 ≤ w) (h1 : w < 4294967296) :
    Calls Tryz.prog 124 #[.int .u32 w, .int .i64 12] W fun e W' => e = .returned (.int .u32 (w / 2147483648 * 4294963200)) ∧ W' = W := by
  refine (above_any w 12 W h0 h1 (by decide) (by decide)).mono ?_
  rintro e W' ⟨rfl, hq⟩
  exact ⟨ret_int (by simp), hq⟩
theorem above_20 (w : Int) (W : World) (h0 : 0 ≤ w) (h1 : w < 4294967296) :
    Calls Tryz.prog 124 #[.int .u32 w, .int .i64 20] W fun e W' => e = .returned (.int .u32 (w / 2147483648 * 4293918720)) ∧ W' = W := by
  refine (above_any w 20 W h0 h1 (by decide) (by decide)).mono ?_
  rintro e W' ⟨rfl, hq⟩
  exact ⟨ret_int (by simp), hq⟩
theorem imm_I (w : Int) (W : World) (h0 : 0 ≤ w) (h1 : w < 4294967296) :
    Calls Tryz.prog 89 #[.int .u32 w, .int .u8 73] W fun e W' => e = .returned (.int .u32 (immI w)) ∧ ∃ q, W' = W.drewN q := by
  go_enter Tryz.func89, Tryz.ntmps89
  go_wp2_with (first | (go_at_call 124; refine (above_11 _ _ h0 h1).mono ?_; rintro e w' ⟨rfl, rfl⟩) | (go_at_call_of 88 (Value.int IntKind.i64 20); refine (rb_20_11_0 _ _ h0 h1).mono ?_; rintro e w' ⟨rfl, q, rfl⟩))
  go_ret
  refine ⟨ret_int ?_, ?q⟩
  case q => exact ⟨_, rfl⟩
  unfold immI
  rw [join_u32 11 _ _ (by omega) (by omega) (by omega) (by omega) (by omega) (by omega)]
  omega
theorem imm_S (w : Int) (W : World) (h0 : 0 ≤ w) (h1 : w < 4294967296) :
    Calls Tryz.prog 89 #[.int .u32 w, .int .u8 83] W fun e W' => e = .returned (.int .u32 (immS w)) ∧ ∃ q, W' = W.drewN q := by
  go_enter Tryz.func89, Tryz.ntmps89
  go_wp2_with (first | (go_at_call 124; refine (above_11 _ _ h0 h1).mono ?_; rintro e w' ⟨rfl, rfl⟩) | (go_at_call_of 88 (Value.int IntKind.i64 25); refine (rb_25_6_5 _ _ h0 h1).mono ?_; rintro e w' ⟨rfl, q, rfl⟩) | (go_at_call_of 88 (Value.int IntKind.i64 7); refine (rb_7_5_0 _ _ h0 h1).mono ?_; rintro e w' ⟨rfl, q, rfl⟩))
  go_ret
  refine ⟨ret_int ?_, ?q⟩
  case q => exact ⟨_, rfl⟩
  unfold immS
  refine (or3 11 5 _ _ _ ?_ ?_ ?_ ?_ ?_ ?_ ?_ ?_ ?_).trans ?_
  all_goals omega
theorem imm_B (w : Int) (W : World) (h0 : 0 ≤ w) (h1 : w < 4294967296) :
    Calls Tryz.prog 89 #[.int .u32 w, .int .u8 66] W fun e W' => e = .returned (.int .u32 (immB w)) ∧ ∃ q, W' = W.drewN q := by
  go_enter Tryz.func89, Tryz.ntmps89
  go_wp2_with (first | (go_at_call 124; refine (above_12 _ _ h0 h1).mono ?_; rintro e w' ⟨rfl, rfl⟩) | (go_at_call_of 88 (Value.int IntKind.i64 7); refine (rb_7_1_11 _ _ h0 h1).mono ?_; rintro e w' ⟨rfl, q, rfl⟩) | (go_at_call_of 88 (Value.int IntKind.i64 25); refine (rb_25_6_5 _ _ h0 h1).mono ?_; rintro e w' ⟨rfl, q, rfl⟩) | (go_at_call_of 88 (Value.int IntKind.i64 8); refine (rb_8_4_1 _ _ h0 h1).mono ?_; rintro e w' ⟨rfl, q, rfl⟩))
  go_ret
  refine ⟨ret_int ?_, ?q⟩
  case q => exact ⟨_, rfl⟩
  unfold immB
  refine (or4 12 11 5 _ _ _ _ ?_ ?_ ?_ ?_ ?_ ?_ ?_ ?_ ?_ ?_ ?_ ?_ ?_).trans ?_
  all_goals omega
theorem imm_U (w : Int) (W : World) (h0 : 0 ≤ w) (h1 : w < 4294967296) :
    Calls Tryz.prog 89 #[.int .u32 w, .int .u8 85] W fun e W' => e = .returned (.int .u32 (w / 4096 * 4096)) ∧ ∃ q, W' = W.drewN q := by
  go_enter Tryz.func89, Tryz.ntmps89
  go_wp2_with (first | (go_at_call_of 88 (Value.int IntKind.i64 12); refine (rb_12_20_12 _ _ h0 h1).mono ?_; rintro e w' ⟨rfl, q, rfl⟩))
  go_ret
  exact ⟨rfl, _, rfl⟩
theorem imm_J (w : Int) (W : World) (h0 : 0 ≤ w) (h1 : w < 4294967296) :
    Calls Tryz.prog 89 #[.int .u32 w, .int .u8 74] W fun e W' => e = .returned (.int .u32 (immJ w)) ∧ ∃ q, W' = W.drewN q := by
  go_enter Tryz.func89, Tryz.ntmps89
  go_wp2_with (first | (go_at_call 124; refine (above_20 _ _ h0 h1).mono ?_; rintro e w' ⟨rfl, rfl⟩) | (go_at_call_of 88 (Value.int IntKind.i64 12); refine (rb_12_8_12 _ _ h0 h1).mono ?_; rintro e w' ⟨rfl, q, rfl⟩) | (go_at_call_of 88 (Value.int IntKind.i64 20); refine (rb_20_1_11 _ _ h0 h1).mono ?_; rintro e w' ⟨rfl, q, rfl⟩) | (go_at_call_of 88 (Value.int IntKind.i64 21); refine (rb_21_10_1 _ _ h0 h1).mono ?_; rintro e w' ⟨rfl, q, rfl⟩))
  go_ret
  refine ⟨ret_int ?_, ?q⟩
  case q => exact ⟨_, rfl⟩
  unfold immJ
  refine (or4 20 12 11 _ _ _ _ ?_ ?_ ?_ ?_ ?_ ?_ ?_ ?_ ?_ ?_ ?_ ?_ ?_).trans ?_
  all_goals omega
theorem imm_H (w : Int) (W : World) (h0 : 0 ≤ w) (h1 : w < 4294967296) :
    Calls Tryz.prog 89 #[.int .u32 w, .int .u8 72] W fun e W' => e = .returned (.int .u32 (w / 1048576 % 32)) ∧ ∃ q, W' = W.drewN q := by
  go_enter Tryz.func89, Tryz.ntmps89
  go_wp2_with (first | (go_at_call_of 88 (Value.int IntKind.i64 20); refine (rb_20_5_0 _ _ h0 h1).mono ?_; rintro e w' ⟨rfl, q, rfl⟩))
  go_ret
  exact ⟨rfl, _, rfl⟩
theorem imm_C (w : Int) (W : World) (h0 : 0 ≤ w) (h1 : w < 4294967296) :
    Calls Tryz.prog 89 #[.int .u32 w, .int .u8 67] W fun e W' => e = .returned (.int .u32 (w / 1048576)) ∧ ∃ q, W' = W.drewN q := by
  go_enter Tryz.func89, Tryz.ntmps89
  go_wp2_with (first | (go_at_call_of 88 (Value.int IntKind.i64 20); refine (rb_20_12_0 _ _ h0 h1).mono ?_; rintro e w' ⟨rfl, q, rfl⟩))
  go_ret
  exact ⟨rfl, _, rfl⟩
theorem imm_R (w : Int) (W : World) :
    Calls Tryz.prog 89 #[.int .u32 w, .int .u8 82] W fun e W' => e = .returned (.int .u32 0) ∧ ∃ q, W' = W.drewN q := by
  go_enter Tryz.func89, Tryz.ntmps89
  go_wp2
  go_ret
  exact ⟨rfl, 0, rfl⟩
theorem imm_N (w : Int) (W : World) :
    Calls Tryz.prog 89 #[.int .u32 w, .int .u8 78] W fun e W' => e = .returned (.int .u32 0) ∧ ∃ q, W' = W.drewN q := by
  go_enter Tryz.func89, Tryz.ntmps89
  go_wp2
  go_ret
  exact ⟨rfl, 0, rfl⟩
end Go.Proofs.YteiideeechnekaaGreatDoor.D

/-
  hartref: the rows of the table, and the three lists.
-/
namespace Go.Proofs.YteiideeechnekaaGreatDoor.D
open Go.RowKit

def rowCells (k : Nat) : List Value := [.int .i64 (rop k), .int .u32 (rmask k), .int .u32 (rmatch k), .int .u8 (rform k)]

def span (n off : Nat) : List Value := (List.range n).flatMap fun i => rowCells (i + off)

theorem byOpcode_any (op c f : Int) (w : World) {B : Nat} {W0 : World} (hb : Below B W0 w) (hB : B ≤ w.heap.size) :
    Calls Tryz.prog 120 #[.int .i64 op, .int .u32 c, .int .u8 f] w fun e w' => e = .returned (.agg #[.int .i64 op, .int .u32 127, .int .u32 c, .int .u8 f]) ∧ Below B W0 w' ∧ B ≤ w'.heap.size := by
  go_enter Tryz.func120, Tryz.ntmps120
  go_wp2
  exact bodyPost_ret (v := .agg #[.int .i64 op, .int .u32 127, .int .u32 c, .int .u8 f]) (by simp [results, Tryz.results120, go_sem]) rfl ⟨rfl, hb.alloc hB _, by simp; omega⟩
theorem byF3_any (op c g f : Int) (w : World) {B : Nat} {W0 : World} (hb : Below B W0 w) (hB : B ≤ w.heap.size) (c0 : 0 ≤ c) (c1 : c < 128) (g0 : 0 ≤ g) (g1 : g < 8) :
    Calls Tryz.prog 121 #[.int .i64 op, .int .u32 c, .int .u32 g, .int .u8 f] w fun e w' => e = .returned (.agg #[.int .i64 op, .int .u32 28799, .int .u32 (c + g * 4096), .int .u8 f]) ∧ Below B W0 w' ∧ B ≤ w'.heap.size := by
  go_enter Tryz.func121, Tryz.ntmps121
  go_wp2
  exact bodyPost_ret (v := .agg #[.int .i64 op, .int .u32 28799, .int .u32 (c + g * 4096), .int .u8 f]) (by simp [results, Tryz.results121, go_sem]) rfl ⟨rfl, hb.alloc hB _, by simp; omega⟩
theorem rbyF7_any (op c g h f : Int) (w : World) {B : Nat} {W0 : World} (hb : Below B W0 w) (hB : B ≤ w.heap.size) (c0 : 0 ≤ c) (c1 : c < 128) (g0 : 0 ≤ g) (g1 : g < 8) (h0 : 0 ≤ h) (h1 : h < 64) :
    Calls Tryz.prog 122 #[.int .i64 op, .int .u32 c, .int .u32 g, .int .u32 h, .int .u8 f] w fun e w' => e = .returned (.agg #[.int .i64 op, .int .u32 4261441663, .int .u32 (c + g * 4096 + h * 33554432), .int .u8 f]) ∧ Below B W0 w' ∧ B ≤ w'.heap.size := by
  go_enter Tryz.func122, Tryz.ntmps122
  go_wp2
  exact bodyPost_ret (v := .agg #[.int .i64 op, .int .u32 4261441663, .int .u32 (c + g * 4096 + h * 33554432), .int .u8 f]) (by simp [results, Tryz.results122, go_sem]) rfl ⟨rfl, hb.alloc hB _, by simp; omega⟩
theorem exactly_any (op c : Int) (w : World) {B : Nat} {W0 : World} (hb : Below B W0 w) (hB : B ≤ w.heap.size) :
    Calls Tryz.prog 123 #[.int .i64 op, .int .u32 c] w fun e w' => e = .returned (.agg #[.int .i64 op, .int .u32 4294967295, .int .u32 c, .int .u8 78]) ∧ Below B W0 w' ∧ B ≤ w'.heap.size := by
  go_enter Tryz.func123, Tryz.ntmps123
  go_wp2
  exact bodyPost_ret (v := .agg #[.int .i64 op, .int .u32 4294967295, .int .u32 c, .int .u8 78]) (by simp [results, Tryz.results123, go_sem]) rfl ⟨rfl, hb.alloc hB _, by simp; omega⟩

theorem owned_new (w : World) {B : Nat} (hB : B ≤ w.heap.size) (cur : Array Value) (n : Nat) (xs : List Value) (hn : n ≤ maxLen) (hs : cur.size = n * 4) (hl : xs.length = n * 4) (hx : cur.toList.take (n * 4) = xs) :
    (w.alloc (.cells cur 112)).ownsRow B 112 4 (.slice (some ⟨w.heap.size, 0, none⟩) n n) n xs :=
  ⟨hl, .inr ⟨w.heap.size, n, cur, rfl, hB, heap_alloc_new w _, Nat.le_refl _, hn, hs, hx⟩⟩

set_option maxHeartbeats 1000000 in
theorem rjumps_any (w : World) {B : Nat} {W0 : World} (hb : Below B W0 w) (hB : B ≤ w.heap.size) :
    Calls Tryz.prog 85 #[] w fun e w' => ∃ b, B ≤ b ∧ e = .returned (.slice (some ⟨b, 0, none⟩) 18 18) ∧ Below B W0 w' ∧ B ≤ w'.heap.size ∧ w'.ownsRow B 112 4 (.slice (some ⟨b, 0, none⟩) 18 18) 18 (span 18 0) := by
  go_enter Tryz.func85, Tryz.ntmps85
  go_wp2_with (first
    | (go_at_call 120; refine (byOpcode_any _ _ _ _ hb hB).mono ?_; clear hb hB; rintro e w ⟨rfl, hb, hB⟩)
    | (go_at_call 121; refine (byF3_any _ _ _ _ _ hb hB (by decide) (by decide) (by decide) (by decide)).mono ?_; clear hb hB; rintro e w ⟨rfl, hb, hB⟩)
    | (go_at_call 122; refine (rbyF7_any _ _ _ _ _ _ hb hB (by decide) (by decide) (by decide) (by decide) (by decide) (by decide)).mono ?_; clear hb hB; rintro e w ⟨rfl, hb, hB⟩)
    | (go_at_call 123; refine (exactly_any _ _ _ hb hB).mono ?_; clear hb hB; rintro e w ⟨rfl, hb, hB⟩))
  go_ret
  exact ⟨w.heap.size, hB, rfl, hb.alloc hB _, by simp; omega, owned_new w hB _ 18 _ (by decide) rfl (by kernel_rfl) (by kernel_rfl)⟩
set_option maxHeartbeats 1000000 in
theorem rsums_any (w : World) {B : Nat} {W0 : World} (hb : Below B W0 w) (hB : B ≤ w.heap.size) :
    Calls Tryz.prog 86 #[] w fun e w' => ∃ b, B ≤ b ∧ e = .returned (.slice (some ⟨b, 0, none⟩) 19 19) ∧ Below B W0 w' ∧ B ≤ w'.heap.size ∧ w'.ownsRow B 112 4 (.slice (some ⟨b, 0, none⟩) 19 19) 19 (span 19 18) := by
  go_enter Tryz.func86, Tryz.ntmps86
  go_wp2_with (first
    | (go_at_call 120; refine (byOpcode_any _ _ _ _ hb hB).mono ?_; clear hb hB; rintro e w ⟨rfl, hb, hB⟩)
    | (go_at_call 121; refine (byF3_any _ _ _ _ _ hb hB (by decide) (by decide) (by decide) (by decide)).mono ?_; clear hb hB; rintro e w ⟨rfl, hb, hB⟩)
    | (go_at_call 122; refine (rbyF7_any _ _ _ _ _ _ hb hB (by decide) (by decide) (by decide) (by decide) (by decide) (by decide)).mono ?_; clear hb hB; rintro e w ⟨rfl, hb, hB⟩)
    | (go_at_call 123; refine (exactly_any _ _ _ hb hB).mono ?_; clear hb hB; rintro e w ⟨rfl, hb, hB⟩))
  go_ret
  exact ⟨w.heap.size, hB, rfl, hb.alloc hB _, by simp; omega, owned_new w hB _ 19 _ (by decide) rfl (by kernel_rfl) (by kernel_rfl)⟩
set_option maxHeartbeats 1000000 in
theorem rsystem_any (w : World) {B : Nat} {W0 : World} (hb : Below B W0 w) (hB : B ≤ w.heap.size) :
    Calls Tryz.prog 87 #[] w fun e w' => ∃ b, B ≤ b ∧ e = .returned (.slice (some ⟨b, 0, none⟩) 12 12) ∧ Below B W0 w' ∧ B ≤ w'.heap.size ∧ w'.ownsRow B 112 4 (.slice (some ⟨b, 0, none⟩) 12 12) 12 (span 12 37) := by
  go_enter Tryz.func87, Tryz.ntmps87
  go_wp2_with (first
    | (go_at_call 120; refine (byOpcode_any _ _ _ _ hb hB).mono ?_; clear hb hB; rintro e w ⟨rfl, hb, hB⟩)
    | (go_at_call 121; refine (byF3_any _ _ _ _ _ hb hB (by decide) (by decide) (by decide) (by decide)).mono ?_; clear hb hB; rintro e w ⟨rfl, hb, hB⟩)
    | (go_at_call 122; refine (rbyF7_any _ _ _ _ _ _ hb hB (by decide) (by decide) (by decide) (by decide) (by decide) (by decide)).mono ?_; clear hb hB; rintro e w ⟨rfl, hb, hB⟩)
    | (go_at_call 123; refine (exactly_any _ _ _ hb hB).mono ?_; clear hb hB; rintro e w ⟨rfl, hb, hB⟩))
  go_ret
  exact ⟨w.heap.size, hB, rfl, hb.alloc hB _, by simp; omega, owned_new w hB _ 12 _ (by decide) rfl (by kernel_rfl) (by kernel_rfl)⟩
end Go.Proofs.YteiideeechnekaaGreatDoor.D

/-
  hartref.Decode: the walk.
-/
namespace Go.Proofs.YteiideeechnekaaGreatDoor.D
open Go.RowKit

theorem info32 : ∃ i, Tryz.prog.info? 112 = some i ∧ i.zero = some (.agg #[.int .i64 0, .int .u32 0, .int .u32 0, .int .u8 0]) ∧ i.size = 4 ∧ i.bytes = 24 := by
  have h : (Tryz.prog.info? 112).map (fun i => (i.zero, i.size, i.bytes)) = some (some (.agg #[.int .i64 0, .int .u32 0, .int .u32 0, .int .u8 0]), 4, 24) := by kernel_rfl
  obtain ⟨i, hi, he⟩ := Option.map_eq_some_iff.1 h
  simp only [Prod.mk.injEq] at he
  exact ⟨i, hi, he.1, he.2.1, he.2.2⟩

theorem grown_of_below {w w' : World} (hb : Below w.heap.size w w') : w.grownBy w' none := ⟨hb.os, hb.tape, hb.output, hb.size, fun k hk _ => hb.block k hk⟩
theorem owns_below {w w' : World} {base : Nat} {e : TypeId} {size : Nat} {v : Value} {n : Nat} {xs : List Value} (h : w.ownsRow base e size v n xs) (hb : Below w.heap.size w w') : w'.ownsRow base e size v n xs :=
  h.kept (grown_of_below hb) (by cases hv : v.ownBlock <;> simp)
theorem one_cell (n off : Nat) : ∀ u ∈ span n off, u.oneCell' = true := by
  intro u hu
  simp only [span, List.mem_flatMap, rowCells, List.mem_cons, List.not_mem_nil, or_false] at hu
  obtain ⟨i, _, h⟩ := hu
  rcases h with rfl | rfl | rfl | rfl <;> rfl

theorem flat_at (f : Nat → List Value) (hf : ∀ i, (f i).length = 4) (n k j : Nat) (hk : k < n) (hj : j < 4) : ((List.range n).flatMap f)[k * 4 + j]? = (f k)[j]? := by
  have hl : ∀ m, ((List.range m).flatMap f).length = m * 4 := by
    intro m
    induction m with
    | zero => rfl
    | succ m ih => rw [List.range_succ, List.flatMap_append, List.length_append, ih]; simp [hf]; omega
  induction n with
  | zero => omega
  | succ n ih =>
    rw [List.range_succ, List.flatMap_append]
    by_cases h : k < n
    · rw [List.getElem?_append_left (by rw [hl]; omega)]
      exact ih h
    · obtain rfl : k = n := by omega
      rw [List.getElem?_append_right (by rw [hl]; omega), hl]
      simp
theorem all_cells (w : World) (B g c : Nat) (own : w.ownsRow B 112 4 (.slice (some ⟨g, 0, none⟩) 49 c) 49 (span 49 0)) (k : Nat) (hk : k < 49) :
    w.cell? ⟨g, k * 4, none⟩ = some (.int .i64 (rop k)) ∧ w.cell? ⟨g, k * 4 + 1, none⟩ = some (.int .u32 (rmask k)) ∧ w.cell? ⟨g, k * 4 + 2, none⟩ = some (.int .u32 (rmatch k)) ∧ w.cell? ⟨g, k * 4 + 3, none⟩ = some (.int .u8 (rform k)) := by
  have h := own.cells (g := g) rfl
  have at_ := fun j hj => flat_at (fun i => rowCells (i + 0)) (fun _ => rfl) 49 k j hk hj
  have e : ∀ j, (⟨g, 0, none⟩ : Addr).add j = ⟨g, j, none⟩ := fun j => by unfold Addr.add; split <;> simp_all
  refine ⟨?_, ?_, ?_, ?_⟩
  · have := h (k * 4 + 0) _ (at_ 0 (by decide)); rwa [e] at this
  · have := h (k * 4 + 1) _ (at_ 1 (by decide)); rwa [e] at this
  · have := h (k * 4 + 2) _ (at_ 2 (by decide)); rwa [e] at this
  · have := h (k * 4 + 3) _ (at_ 3 (by decide)); rwa [e] at this
theorem forms (k : Nat) (hk : k < 49) : rform k = 73 ∨ rform k = 83 ∨ rform k = 66 ∨ rform k = 85 ∨ rform k = 74 ∨ rform k = 72 ∨ rform k = 67 ∨ rform k = 82 ∨ rform k = 78 := by
  have h : ∀ k : Fin 49, rform k.val = 73 ∨ rform k.val = 83 ∨ rform k.val = 66 ∨ rform k.val = 85 ∨ rform k.val = 74 ∨ rform k.val = 72 ∨ rform k.val = 67 ∨ rform k.val = 82 ∨ rform k.val = 78 := by decide
  exact h ⟨k, hk⟩
theorem span_all : span 18 0 ++ (span 19 18 ++ span 12 37) = span 49 0 := by kernel_rfl

set_option maxRecDepth 100000 in
set_option maxHeartbeats 1000000 in
theorem rdecode_any (w : Int) (W : World) (h0 : 0 ≤ w) (h1 : w < 4294967296) :
    Calls Tryz.prog 43 #[.int .u32 w] W fun e W' => (∃ op rd r1 r2 imm, e = .returned (.agg #[.int .i64 op, .int .i64 rd, .int .i64 r1, .int .i64 r2, .int .u32 imm]) ∧ dec w = ⟨op, rd, r1, r2, imm⟩) ∧ Below W.heap.size W W' := by
  obtain ⟨i0, hi, hz, hsz, hby⟩ := info32
  go_enter Tryz.func43, Tryz.ntmps43
  go_wp2_with fail
  refine (rjumps_any _ (Below.refl _ _) (Nat.le_refl _)).mono ?_
  rintro e w1 ⟨b1, hb1, rfl, bel1, sz1, own1⟩
  go_wp2_with fail
  refine (rsums_any _ (Below.refl _ _) (Nat.le_refl _)).mono ?_
  rintro e w2 ⟨b2, hb2, rfl, bel2, sz2, own2⟩
  have own1' := owns_below own1 bel2
  clear own1
  go_wp2_with fail
  refine (rsystem_any _ (Below.refl _ _) (Nat.le_refl _)).mono ?_
  rintro e w3 ⟨b3, hb3, rfl, bel3, sz3, own3⟩
  have own1 := owns_below own1' bel3
  have lt2 := (own2.lt b2 rfl).2
  have own2' := owns_below own2 bel3
  have lt3 := (own3.lt b3 rfl).2
  have bs1 := bel1.size
  simp at bs1
  have bel := (bel1.trans (bel2.mono (by simp; omega))).trans (bel3.mono (by simp; omega))
  simp at bel
  clear own1' own2 sz1 hb1 bel1 bel2 bel3
  go_wp2_with (at_builtin; refine wpList_append_lies _ rfl _ _ 109 rfl (W.heap.size + 1) 112 i0 _ 4 24 Tryz.underlying109 hi hz hsz hby rfl (by decide) (.slice none 0 0) 0 [] rfl (World.ownsRow_nil _ _ _ _) ⟨b1, 0, none⟩ 18 18 (span 18 0) rfl own1.1 (own1.cells rfl) (one_cell _ _) (by decide) (by decide) (by decide) (by omega) w3.heap.size rfl ?_)
  intro g1 c1 w4 own4 gr4 at4 lt4
  have own2 := own2'.kept gr4 (.inr (by simp [Value.ownBlock]))
  have own3' := own3.kept gr4 (.inr (by simp [Value.ownBlock]))
  have eg1 : g1 = w3.heap.size := by rcases at4 with h | h; · cases h
                                     · exact h
  have bel' := bel.grown gr4 (by omega) (fun k hk => by cases hk)
  have bs4 := gr4.size
  clear own1 own2' own3 gr4 at4 bel
  go_wp2_with (at_builtin; refine wpList_append_lies _ rfl _ _ 109 rfl (W.heap.size + 1) 112 i0 _ 4 24 Tryz.underlying109 hi hz hsz hby rfl (by decide) (.slice (some ⟨g1, 0, none⟩) 18 c1) 18 (span 18 0) rfl own4 ⟨b2, 0, none⟩ 19 19 (span 19 18) rfl own2.1 (own2.cells rfl) (one_cell _ _) (by decide) (by decide) (by decide) (by omega) w4.heap.size rfl ?_)
  intro g2 c2 w5 own5 gr5 at5 lt5
  have own3 := own3'.kept gr5 (.inr (by simp [Value.ownBlock]; omega))
  have bel := bel'.grown gr5 (by omega) (fun k hk => by simp [Value.ownBlock] at hk; omega)
  have bs5 := gr5.size
  have eg2 : W.heap.size + 1 ≤ g2 := by
    rcases at5 with h | h
    · simp [Value.ownBlock] at h; omega
    · omega
  clear own2 own3' own4 gr5 at5 bel'
  go_wp2_with (at_builtin; refine wpList_append_lies _ rfl _ _ 109 rfl (W.heap.size + 1) 112 i0 _ 4 24 Tryz.underlying109 hi hz hsz hby rfl (by decide) (.slice (some ⟨g2, 0, none⟩) 37 c2) 37 (span 18 0 ++ span 19 18) rfl own5 ⟨b3, 0, none⟩ 12 12 (span 12 37) rfl own3.1 (own3.cells rfl) (one_cell _ _) (by decide) (by decide) (by decide) (by omega) w5.heap.size rfl ?_)
  intro g c w6 own gr6 at6 lt6
  have bel' := bel.grown gr6 (by omega) (fun k hk => by simp [Value.ownBlock] at hk; omega)
  rw [span_all] at own
  have bs6 : W.heap.size + 1 ≤ w6.heap.size := by have := gr6.size; omega
  clear own3 own5 gr6 at6 bel lt2 lt3 bs1 bs4 bs5 lt4 lt5 eg1 eg2 hb2 hb3 sz2 sz3 hi hz hsz hby
  go_wp2_with fail
  go_loopw [7] (fun i wr => ∃ k : Nat, k ≤ 49 ∧ i = .int .i64 k ∧ wr.ownsRow (W.heap.size + 1) 112 4 (.slice (some ⟨g, 0, none⟩) 49 c) 49 (span 49 0) ∧ Below (W.heap.size + 1) (W.alloc (Obj.cells #[.int .i64 0, .int .i64 0, .int .i64 0, .int .i64 0, .int .u32 0] 72)) wr ∧ W.heap.size + 1 ≤ wr.heap.size ∧ (∀ j, j < k → ¬ hit w j)) (fun i _ => 49 - (intOf i).toNat)
  case atStart => exact ⟨0, Nat.zero_le _, rfl, own, bel', bs6, fun j hj => absurd hj (by omega)⟩
  case round =>
    obtain ⟨k, hk, rfl, ownr, belr, bsr, hno⟩ := hrel
    clear own bel' bs6 lt6
    by_cases hlt : k < 49
    · obtain ⟨q0, q1, q2, q3⟩ := all_cells wr _ g c ownr k hlt
      have OW : Hid (wr.ownsRow (W.heap.size + 1) 112 4 (.slice (some ⟨g, 0, none⟩) 49 c) 49 (span 49 0)) := ownr
      clear ownr
      by_cases hh : hit w k
      · have hd := tells w h0 h1 k hlt hh
        have HD : Hid (dec w = mkI w k) := hd
        have hm : bits .and .u32 w (rmask k) = rmatch k := hh
        have hform := forms k hlt
        have a1 := alloc_cell wr W.heap.size (by omega)
        have c1 := a1.1
        have f1 := a1.2
        have c2 := fun o1 q => (alloc_cell ((wr.alloc o1).drewN q) W.heap.size (by show _ < (wr.alloc o1).heap.size; simp; omega)).1
        have f2 := fun o1 q => (alloc_cell ((wr.alloc o1).drewN q) W.heap.size (by show _ < (wr.alloc o1).heap.size; simp; omega)).2
        have rc := fun j => belr.cell (p := ⟨W.heap.size, j, none⟩) (by simp)
        have rf := fun j => belr.frozen (p := ⟨W.heap.size, j, none⟩) (by simp)
        clear hno hh hd a1 OW
        rcases hform with hF | hF | hF | hF | hF | hF | hF | hF | hF
        · go_wp2_with (first | (go_at_call_of 88 (Value.int IntKind.i64 7); refine (rb_7_5_0 _ _ h0 h1).mono ?_; rintro e w' ⟨rfl, q, rfl⟩) | (go_at_call_of 88 (Value.int IntKind.i64 15); refine (rb_15_5_0 _ _ h0 h1).mono ?_; rintro e w' ⟨rfl, q, rfl⟩) | (go_at_call_of 88 (Value.int IntKind.i64 20); refine (rb_20_5_0 _ _ h0 h1).mono ?_; rintro e w' ⟨rfl, q, rfl⟩) | (go_at_call_of 89 (Value.int IntKind.u8 73); refine (imm_I _ _ h0 h1).mono ?_; rintro e w' ⟨rfl, q, rfl⟩) | (go_at_call_of 89 (Value.int IntKind.u8 83); refine (imm_S _ _ h0 h1).mono ?_; rintro e w' ⟨rfl, q, rfl⟩) | (go_at_call_of 89 (Value.int IntKind.u8 66); refine (imm_B _ _ h0 h1).mono ?_; rintro e w' ⟨rfl, q, rfl⟩) | (go_at_call_of 89 (Value.int IntKind.u8 85); refine (imm_U _ _ h0 h1).mono ?_; rintro e w' ⟨rfl, q, rfl⟩) | (go_at_call_of 89 (Value.int IntKind.u8 74); refine (imm_J _ _ h0 h1).mono ?_; rintro e w' ⟨rfl, q, rfl⟩) | (go_at_call_of 89 (Value.int IntKind.u8 72); refine (imm_H _ _ h0 h1).mono ?_; rintro e w' ⟨rfl, q, rfl⟩) | (go_at_call_of 89 (Value.int IntKind.u8 67); refine (imm_C _ _ h0 h1).mono ?_; rintro e w' ⟨rfl, q, rfl⟩) | (go_at_call_of 89 (Value.int IntKind.u8 82); refine (imm_R _ _).mono ?_; rintro e w' ⟨rfl, q, rfl⟩) | (go_at_call_of 89 (Value.int IntKind.u8 78); refine (imm_N _ _).mono ?_; rintro e w' ⟨rfl, q, rfl⟩))
          exact bodyPost_ret (v := .agg #[.int .i64 (rop k), .int .i64 (w / 128 % 32), .int .i64 (w / 32768 % 32), .int .i64 (0), .int .u32 (immI w)]) (by simp [results, Tryz.results43, go_sem, rc, c1, c2]) rfl ⟨⟨_, _, _, _, _, rfl, by rw [HD.out]; simp [mkI, hF, immF]⟩, below5 ((below_drawn ((((Below.refl _ _).alloc (Nat.le_refl _) _).trans (belr.mono (by omega))).alloc (by omega) _) _).alloc (by show _ ≤ (wr.alloc _).heap.size; simp; omega) _) (Nat.le_refl _) _ _ _ _ _⟩
        · go_wp2_with (first | (go_at_call_of 88 (Value.int IntKind.i64 7); refine (rb_7_5_0 _ _ h0 h1).mono ?_; rintro e w' ⟨rfl, q, rfl⟩) | (go_at_call_of 88 (Value.int IntKind.i64 15); refine (rb_15_5_0 _ _ h0 h1).mono ?_; rintro e w' ⟨rfl, q, rfl⟩) | (go_at_call_of 88 (Value.int IntKind.i64 20); refine (rb_20_5_0 _ _ h0 h1).mono ?_; rintro e w' ⟨rfl, q, rfl⟩) | (go_at_call_of 89 (Value.int IntKind.u8 73); refine (imm_I _ _ h0 h1).mono ?_; rintro e w' ⟨rfl, q, rfl⟩) | (go_at_call_of 89 (Value.int IntKind.u8 83); refine (imm_S _ _ h0 h1).mono ?_; rintro e w' ⟨rfl, q, rfl⟩) | (go_at_call_of 89 (Value.int IntKind.u8 66); refine (imm_B _ _ h0 h1).mono ?_; rintro e w' ⟨rfl, q, rfl⟩) | (go_at_call_of 89 (Value.int IntKind.u8 85); refine (imm_U _ _ h0 h1).mono ?_; rintro e w' ⟨rfl, q, rfl⟩) | (go_at_call_of 89 (Value.int IntKind.u8 74); refine (imm_J _ _ h0 h1).mono ?_; rintro e w' ⟨rfl, q, rfl⟩) | (go_at_call_of 89 (Value.int IntKind.u8 72); refine (imm_H _ _ h0 h1).mono ?_; rintro e w' ⟨rfl, q, rfl⟩) | (go_at_call_of 89 (Value.int IntKind.u8 67); refine (imm_C _ _ h0 h1).mono ?_; rintro e w' ⟨rfl, q, rfl⟩) | (go_at_call_of 89 (Value.int IntKind.u8 82); refine (imm_R _ _).mono ?_; rintro e w' ⟨rfl, q, rfl⟩) | (go_at_call_of 89 (Value.int IntKind.u8 78); refine (imm_N _ _).mono ?_; rintro e w' ⟨rfl, q, rfl⟩))
          exact bodyPost_ret (v := .agg #[.int .i64 (rop k), .int .i64 (0), .int .i64 (w / 32768 % 32), .int .i64 (w / 1048576 % 32), .int .u32 (immS w)]) (by simp [results, Tryz.results43, go_sem, rc, c1, c2]) rfl ⟨⟨_, _, _, _, _, rfl, by rw [HD.out]; simp [mkI, hF, immF]⟩, below5 ((below_drawn ((((Below.refl _ _).alloc (Nat.le_refl _) _).trans (belr.mono (by omega))).alloc (by omega) _) _).alloc (by show _ ≤ (wr.alloc _).heap.size; simp; omega) _) (Nat.le_refl _) _ _ _ _ _⟩
        · go_wp2_with (first | (go_at_call_of 88 (Value.int IntKind.i64 7); refine (rb_7_5_0 _ _ h0 h1).mono ?_; rintro e w' ⟨rfl, q, rfl⟩) | (go_at_call_of 88 (Value.int IntKind.i64 15); refine (rb_15_5_0 _ _ h0 h1).mono ?_; rintro e w' ⟨rfl, q, rfl⟩) | (go_at_call_of 88 (Value.int IntKind.i64 20); refine (rb_20_5_0 _ _ h0 h1).mono ?_; rintro e w' ⟨rfl, q, rfl⟩) | (go_at_call_of 89 (Value.int IntKind.u8 73); refine (imm_I _ _ h0 h1).mono ?_; rintro e w' ⟨rfl, q, rfl⟩) | (go_at_call_of 89 (Value.int IntKind.u8 83); refine (imm_S _ _ h0 h1).mono ?_; rintro e w' ⟨rfl, q, rfl⟩) | (go_at_call_of 89 (Value.int IntKind.u8 66); refine (imm_B _ _ h0 h1).mono ?_; rintro e w' ⟨rfl, q, rfl⟩) | (go_at_call_of 89 (Value.int IntKind.u8 85); refine (imm_U _ _ h0 h1).mono ?_; rintro e w' ⟨rfl, q, rfl⟩) | (go_at_call_of 89 (Value.int IntKind.u8 74); refine (imm_J _ _ h0 h1).mono ?_; rintro e w' ⟨rfl, q, rfl⟩) | (go_at_call_of 89 (Value.int IntKind.u8 72); refine (imm_H _ _ h0 h1).mono ?_; rintro e w' ⟨rfl, q, rfl⟩) | (go_at_call_of 89 (Value.int IntKind.u8 67); refine (imm_C _ _ h0 h1).mono ?_; rintro e w' ⟨rfl, q, rfl⟩) | (go_at_call_of 89 (Value.int IntKind.u8 82); refine (imm_R _ _).mono ?_; rintro e w' ⟨rfl, q, rfl⟩) | (go_at_call_of 89 (Value.int IntKind.u8 78); refine (imm_N _ _).mono ?_; rintro e w' ⟨rfl, q, rfl⟩))
          exact bodyPost_ret (v := .agg #[.int .i64 (rop k), .int .i64 (0), .int .i64 (w / 32768 % 32), .int .i64 (w / 1048576 % 32), .int .u32 (immB w)]) (by simp [results, Tryz.results43, go_sem, rc, c1, c2]) rfl ⟨⟨_, _, _, _, _, rfl, by rw [HD.out]; simp [mkI, hF, immF]⟩, below5 ((below_drawn ((((Below.refl _ _).alloc (Nat.le_refl _) _).trans (belr.mono (by omega))).alloc (by omega) _) _).alloc (by show _ ≤ (wr.alloc _).heap.size; simp; omega) _) (Nat.le_refl _) _ _ _ _ _⟩
        · go_wp2_with (first | (go_at_call_of 88 (Value.int IntKind.i64 7); refine (rb_7_5_0 _ _ h0 h1).mono ?_; rintro e w' ⟨rfl, q, rfl⟩) | (go_at_call_of 88 (Value.int IntKind.i64 15); refine (rb_15_5_0 _ _ h0 h1).mono ?_; rintro e w' ⟨rfl, q, rfl⟩) | (go_at_call_of 88 (Value.int IntKind.i64 20); refine (rb_20_5_0 _ _ h0 h1).mono ?_; rintro e w' ⟨rfl, q, rfl⟩) | (go_at_call_of 89 (Value.int IntKind.u8 73); refine (imm_I _ _ h0 h1).mono ?_; rintro e w' ⟨rfl, q, rfl⟩) | (go_at_call_of 89 (Value.int IntKind.u8 83); refine (imm_S _ _ h0 h1).mono ?_; rintro e w' ⟨rfl, q, rfl⟩) | (go_at_call_of 89 (Value.int IntKind.u8 66); refine (imm_B _ _ h0 h1).mono ?_; rintro e w' ⟨rfl, q, rfl⟩) | (go_at_call_of 89 (Value.int IntKind.u8 85); refine (imm_U _ _ h0 h1).mono ?_; rintro e w' ⟨rfl, q, rfl⟩) | (go_at_call_of 89 (Value.int IntKind.u8 74); refine (imm_J _ _ h0 h1).mono ?_; rintro e w' ⟨rfl, q, rfl⟩) | (go_at_call_of 89 (Value.int IntKind.u8 72); refine (imm_H _ _ h0 h1).mono ?_; rintro e w' ⟨rfl, q, rfl⟩) | (go_at_call_of 89 (Value.int IntKind.u8 67); refine (imm_C _ _ h0 h1).mono ?_; rintro e w' ⟨rfl, q, rfl⟩) | (go_at_call_of 89 (Value.int IntKind.u8 82); refine (imm_R _ _).mono ?_; rintro e w' ⟨rfl, q, rfl⟩) | (go_at_call_of 89 (Value.int IntKind.u8 78); refine (imm_N _ _).mono ?_; rintro e w' ⟨rfl, q, rfl⟩))
          exact bodyPost_ret (v := .agg #[.int .i64 (rop k), .int .i64 (w / 128 % 32), .int .i64 (0), .int .i64 (0), .int .u32 (w / 4096 * 4096)]) (by simp [results, Tryz.results43, go_sem, rc, c1, c2]) rfl ⟨⟨_, _, _, _, _, rfl, by rw [HD.out]; simp [mkI, hF, immF]⟩, below5 ((below_drawn ((((Below.refl _ _).alloc (Nat.le_refl _) _).trans (belr.mono (by omega))).alloc (by omega) _) _).alloc (by show _ ≤ (wr.alloc _).heap.size; simp; omega) _) (Nat.le_refl _) _ _ _ _ _⟩
        · go_wp2_with (first | (go_at_call_of 88 (Value.int IntKind.i64 7); refine (rb_7_5_0 _ _ h0 h1).mono ?_; rintro e w' ⟨rfl, q, rfl⟩) | (go_at_call_of 88 (Value.int IntKind.i64 15); refine (rb_15_5_0 _ _ h0 h1).mono ?_; rintro e w' ⟨rfl, q, rfl⟩) | (go_at_call_of 88 (Value.int IntKind.i64 20); refine (rb_20_5_0 _ _ h0 h1).mono ?_; rintro e w' ⟨rfl, q, rfl⟩) | (go_at_call_of 89 (Value.int IntKind.u8 73); refine (imm_I _ _ h0 h1).mono ?_; rintro e w' ⟨rfl, q, rfl⟩) | (go_at_call_of 89 (Value.int IntKind.u8 83); refine (imm_S _ _ h0 h1).mono ?_; rintro e w' ⟨rfl, q, rfl⟩) | (go_at_call_of 89 (Value.int IntKind.u8 66); refine (imm_B _ _ h0 h1).mono ?_; rintro e w' ⟨rfl, q, rfl⟩) | (go_at_call_of 89 (Value.int IntKind.u8 85); refine (imm_U _ _ h0 h1).mono ?_; rintro e w' ⟨rfl, q, rfl⟩) | (go_at_call_of 89 (Value.int IntKind.u8 74); refine (imm_J _ _ h0 h1).mono ?_; rintro e w' ⟨rfl, q, rfl⟩) | (go_at_call_of 89 (Value.int IntKind.u8 72); refine (imm_H _ _ h0 h1).mono ?_; rintro e w' ⟨rfl, q, rfl⟩) | (go_at_call_of 89 (Value.int IntKind.u8 67); refine (imm_C _ _ h0 h1).mono ?_; rintro e w' ⟨rfl, q, rfl⟩) | (go_at_call_of 89 (Value.int IntKind.u8 82); refine (imm_R _ _).mono ?_; rintro e w' ⟨rfl, q, rfl⟩) | (go_at_call_of 89 (Value.int IntKind.u8 78); refine (imm_N _ _).mono ?_; rintro e w' ⟨rfl, q, rfl⟩))
          exact bodyPost_ret (v := .agg #[.int .i64 (rop k), .int .i64 (w / 128 % 32), .int .i64 (0), .int .i64 (0), .int .u32 (immJ w)]) (by simp [results, Tryz.results43, go_sem, rc, c1, c2]) rfl ⟨⟨_, _, _, _, _, rfl, by rw [HD.out]; simp [mkI, hF, immF]⟩, below5 ((below_drawn ((((Below.refl _ _).alloc (Nat.le_refl _) _).trans (belr.mono (by omega))).alloc (by omega) _) _).alloc (by show _ ≤ (wr.alloc _).heap.size; simp; omega) _) (Nat.le_refl _) _ _ _ _ _⟩
        · go_wp2_with (first | (go_at_call_of 88 (Value.int IntKind.i64 7); refine (rb_7_5_0 _ _ h0 h1).mono ?_; rintro e w' ⟨rfl, q, rfl⟩) | (go_at_call_of 88 (Value.int IntKind.i64 15); refine (rb_15_5_0 _ _ h0 h1).mono ?_; rintro e w' ⟨rfl, q, rfl⟩) | (go_at_call_of 88 (Value.int IntKind.i64 20); refine (rb_20_5_0 _ _ h0 h1).mono ?_; rintro e w' ⟨rfl, q, rfl⟩) | (go_at_call_of 89 (Value.int IntKind.u8 73); refine (imm_I _ _ h0 h1).mono ?_; rintro e w' ⟨rfl, q, rfl⟩) | (go_at_call_of 89 (Value.int IntKind.u8 83); refine (imm_S _ _ h0 h1).mono ?_; rintro e w' ⟨rfl, q, rfl⟩) | (go_at_call_of 89 (Value.int IntKind.u8 66); refine (imm_B _ _ h0 h1).mono ?_; rintro e w' ⟨rfl, q, rfl⟩) | (go_at_call_of 89 (Value.int IntKind.u8 85); refine (imm_U _ _ h0 h1).mono ?_; rintro e w' ⟨rfl, q, rfl⟩) | (go_at_call_of 89 (Value.int IntKind.u8 74); refine (imm_J _ _ h0 h1).mono ?_; rintro e w' ⟨rfl, q, rfl⟩) | (go_at_call_of 89 (Value.int IntKind.u8 72); refine (imm_H _ _ h0 h1).mono ?_; rintro e w' ⟨rfl, q, rfl⟩) | (go_at_call_of 89 (Value.int IntKind.u8 67); refine (imm_C _ _ h0 h1).mono ?_; rintro e w' ⟨rfl, q, rfl⟩) | (go_at_call_of 89 (Value.int IntKind.u8 82); refine (imm_R _ _).mono ?_; rintro e w' ⟨rfl, q, rfl⟩) | (go_at_call_of 89 (Value.int IntKind.u8 78); refine (imm_N _ _).mono ?_; rintro e w' ⟨rfl, q, rfl⟩))
          exact bodyPost_ret (v := .agg #[.int .i64 (rop k), .int .i64 (w / 128 % 32), .int .i64 (w / 32768 % 32), .int .i64 (0), .int .u32 (w / 1048576 % 32)]) (by simp [results, Tryz.results43, go_sem, rc, c1, c2]) rfl ⟨⟨_, _, _, _, _, rfl, by rw [HD.out]; simp [mkI, hF, immF]⟩, below5 ((below_drawn ((((Below.refl _ _).alloc (Nat.le_refl _) _).trans (belr.mono (by omega))).alloc (by omega) _) _).alloc (by show _ ≤ (wr.alloc _).heap.size; simp; omega) _) (Nat.le_refl _) _ _ _ _ _⟩
        · go_wp2_with (first | (go_at_call_of 88 (Value.int IntKind.i64 7); refine (rb_7_5_0 _ _ h0 h1).mono ?_; rintro e w' ⟨rfl, q, rfl⟩) | (go_at_call_of 88 (Value.int IntKind.i64 15); refine (rb_15_5_0 _ _ h0 h1).mono ?_; rintro e w' ⟨rfl, q, rfl⟩) | (go_at_call_of 88 (Value.int IntKind.i64 20); refine (rb_20_5_0 _ _ h0 h1).mono ?_; rintro e w' ⟨rfl, q, rfl⟩) | (go_at_call_of 89 (Value.int IntKind.u8 73); refine (imm_I _ _ h0 h1).mono ?_; rintro e w' ⟨rfl, q, rfl⟩) | (go_at_call_of 89 (Value.int IntKind.u8 83); refine (imm_S _ _ h0 h1).mono ?_; rintro e w' ⟨rfl, q, rfl⟩) | (go_at_call_of 89 (Value.int IntKind.u8 66); refine (imm_B _ _ h0 h1).mono ?_; rintro e w' ⟨rfl, q, rfl⟩) | (go_at_call_of 89 (Value.int IntKind.u8 85); refine (imm_U _ _ h0 h1).mono ?_; rintro e w' ⟨rfl, q, rfl⟩) | (go_at_call_of 89 (Value.int IntKind.u8 74); refine (imm_J _ _ h0 h1).mono ?_; rintro e w' ⟨rfl, q, rfl⟩) | (go_at_call_of 89 (Value.int IntKind.u8 72); refine (imm_H _ _ h0 h1).mono ?_; rintro e w' ⟨rfl, q, rfl⟩) | (go_at_call_of 89 (Value.int IntKind.u8 67); refine (imm_C _ _ h0 h1).mono ?_; rintro e w' ⟨rfl, q, rfl⟩) | (go_at_call_of 89 (Value.int IntKind.u8 82); refine (imm_R _ _).mono ?_; rintro e w' ⟨rfl, q, rfl⟩) | (go_at_call_of 89 (Value.int IntKind.u8 78); refine (imm_N _ _).mono ?_; rintro e w' ⟨rfl, q, rfl⟩))
          exact bodyPost_ret (v := .agg #[.int .i64 (rop k), .int .i64 (w / 128 % 32), .int .i64 (w / 32768 % 32), .int .i64 (0), .int .u32 (w / 1048576)]) (by simp [results, Tryz.results43, go_sem, rc, c1, c2]) rfl ⟨⟨_, _, _, _, _, rfl, by rw [HD.out]; simp [mkI, hF, immF]⟩, below5 ((below_drawn ((((Below.refl _ _).alloc (Nat.le_refl _) _).trans (belr.mono (by omega))).alloc (by omega) _) _).alloc (by show _ ≤ (wr.alloc _).heap.size; simp; omega) _) (Nat.le_refl _) _ _ _ _ _⟩
        · go_wp2_with (first | (go_at_call_of 88 (Value.int IntKind.i64 7); refine (rb_7_5_0 _ _ h0 h1).mono ?_; rintro e w' ⟨rfl, q, rfl⟩) | (go_at_call_of 88 (Value.int IntKind.i64 15); refine (rb_15_5_0 _ _ h0 h1).mono ?_; rintro e w' ⟨rfl, q, rfl⟩) | (go_at_call_of 88 (Value.int IntKind.i64 20); refine (rb_20_5_0 _ _ h0 h1).mono ?_; rintro e w' ⟨rfl, q, rfl⟩) | (go_at_call_of 89 (Value.int IntKind.u8 73); refine (imm_I _ _ h0 h1).mono ?_; rintro e w' ⟨rfl, q, rfl⟩) | (go_at_call_of 89 (Value.int IntKind.u8 83); refine (imm_S _ _ h0 h1).mono ?_; rintro e w' ⟨rfl, q, rfl⟩) | (go_at_call_of 89 (Value.int IntKind.u8 66); refine (imm_B _ _ h0 h1).mono ?_; rintro e w' ⟨rfl, q, rfl⟩) | (go_at_call_of 89 (Value.int IntKind.u8 85); refine (imm_U _ _ h0 h1).mono ?_; rintro e w' ⟨rfl, q, rfl⟩) | (go_at_call_of 89 (Value.int IntKind.u8 74); refine (imm_J _ _ h0 h1).mono ?_; rintro e w' ⟨rfl, q, rfl⟩) | (go_at_call_of 89 (Value.int IntKind.u8 72); refine (imm_H _ _ h0 h1).mono ?_; rintro e w' ⟨rfl, q, rfl⟩) | (go_at_call_of 89 (Value.int IntKind.u8 67); refine (imm_C _ _ h0 h1).mono ?_; rintro e w' ⟨rfl, q, rfl⟩) | (go_at_call_of 89 (Value.int IntKind.u8 82); refine (imm_R _ _).mono ?_; rintro e w' ⟨rfl, q, rfl⟩) | (go_at_call_of 89 (Value.int IntKind.u8 78); refine (imm_N _ _).mono ?_; rintro e w' ⟨rfl, q, rfl⟩))
          exact bodyPost_ret (v := .agg #[.int .i64 (rop k), .int .i64 (w / 128 % 32), .int .i64 (w / 32768 % 32), .int .i64 (w / 1048576 % 32), .int .u32 (0)]) (by simp [results, Tryz.results43, go_sem, rc, c1, c2]) rfl ⟨⟨_, _, _, _, _, rfl, by rw [HD.out]; simp [mkI, hF, immF]⟩, below5 ((below_drawn ((((Below.refl _ _).alloc (Nat.le_refl _) _).trans (belr.mono (by omega))).alloc (by omega) _) _).alloc (by show _ ≤ (wr.alloc _).heap.size; simp; omega) _) (Nat.le_refl _) _ _ _ _ _⟩
        · go_wp2_with (first | (go_at_call_of 88 (Value.int IntKind.i64 7); refine (rb_7_5_0 _ _ h0 h1).mono ?_; rintro e w' ⟨rfl, q, rfl⟩) | (go_at_call_of 88 (Value.int IntKind.i64 15); refine (rb_15_5_0 _ _ h0 h1).mono ?_; rintro e w' ⟨rfl, q, rfl⟩) | (go_at_call_of 88 (Value.int IntKind.i64 20); refine (rb_20_5_0 _ _ h0 h1).mono ?_; rintro e w' ⟨rfl, q, rfl⟩) | (go_at_call_of 89 (Value.int IntKind.u8 73); refine (imm_I _ _ h0 h1).mono ?_; rintro e w' ⟨rfl, q, rfl⟩) | (go_at_call_of 89 (Value.int IntKind.u8 83); refine (imm_S _ _ h0 h1).mono ?_; rintro e w' ⟨rfl, q, rfl⟩) | (go_at_call_of 89 (Value.int IntKind.u8 66); refine (imm_B _ _ h0 h1).mono ?_; rintro e w' ⟨rfl, q, rfl⟩) | (go_at_call_of 89 (Value.int IntKind.u8 85); refine (imm_U _ _ h0 h1).mono ?_; rintro e w' ⟨rfl, q, rfl⟩) | (go_at_call_of 89 (Value.int IntKind.u8 74); refine (imm_J _ _ h0 h1).mono ?_; rintro e w' ⟨rfl, q, rfl⟩) | (go_at_call_of 89 (Value.int IntKind.u8 72); refine (imm_H _ _ h0 h1).mono ?_; rintro e w' ⟨rfl, q, rfl⟩) | (go_at_call_of 89 (Value.int IntKind.u8 67); refine (imm_C _ _ h0 h1).mono ?_; rintro e w' ⟨rfl, q, rfl⟩) | (go_at_call_of 89 (Value.int IntKind.u8 82); refine (imm_R _ _).mono ?_; rintro e w' ⟨rfl, q, rfl⟩) | (go_at_call_of 89 (Value.int IntKind.u8 78); refine (imm_N _ _).mono ?_; rintro e w' ⟨rfl, q, rfl⟩))
          exact bodyPost_ret (v := .agg #[.int .i64 (rop k), .int .i64 (0), .int .i64 (0), .int .i64 (0), .int .u32 (0)]) (by simp [results, Tryz.results43, go_sem, rc, c1, c2]) rfl ⟨⟨_, _, _, _, _, rfl, by rw [HD.out]; simp [mkI, hF, immF]⟩, below5 ((below_drawn ((((Below.refl _ _).alloc (Nat.le_refl _) _).trans (belr.mono (by omega))).alloc (by omega) _) _).alloc (by show _ ≤ (wr.alloc _).heap.size; simp; omega) _) (Nat.le_refl _) _ _ _ _ _⟩
      · have hn : (bits .and .u32 w (rmask k) == rmatch k) = false := by simpa [hit] using hh
        have HN : Hid (∀ j, j < k + 1 → ¬ hit w j) := fun j hj => by
          by_cases e : j = k
          · rw [e]; exact hh
          · exact hno j (by omega)
        clear hno hh
        go_wp2
        go_roundw
        case rel => exact ⟨k + 1, by omega, by go_num, OW.out.alloc _, belr.alloc bsr _, by simp; omega, HN.out⟩
        case measure => simp [intOf]; omega
    · have hd := tells_none w h0 h1 (fun j hj => hno j (by omega))
      have rc := fun j => belr.cell (p := ⟨W.heap.size, j, none⟩) (by simp)
      have rf := fun j => belr.frozen (p := ⟨W.heap.size, j, none⟩) (by simp)
      have HD : Hid (dec w = Ins.zero) := hd
      clear hd hno ownr
      go_wp2
      exact bodyPost_ret (v := .agg #[.int .i64 0, .int .i64 0, .int .i64 0, .int .i64 0, .int .u32 0]) (by simp [results, Tryz.results43, go_sem, rc]) rfl ⟨⟨0, 0, 0, 0, 0, rfl, HD.out⟩, below5 (((Below.refl _ _).alloc (Nat.le_refl _) _).trans (belr.mono (by omega))) (Nat.le_refl _) _ _ _ _ _⟩
end Go.Proofs.YteiideeechnekaaGreatDoor.D
