/-
  The leaves of package decode: what each small function gives, in plain arithmetic.
-/
import Derived.Test.YteiideeechnekaaGreatDoorProg
import Derived.Test.YteiideeechnekaaGreatDoorDPlain
import Derived.WalkKit
import Derived.WalkSpells
import Derived.WalkLawsBesides
import Derived.Deep.QuietTactic
import Derived.BigQuiet
import Derived.Deep.RegionWith
import Derived.Laws.BitsAllLaws
namespace Go.Proofs.YteiideeechnekaaGreatDoor.D
open Go.RowKit

theorem ret_int {k : IntKind} {a b : Int} (h : a = b) : Ending.returned (.int k a) = .returned (.int k b) := by rw [h]

theorem wraps_u32 (n : Int) (h0 : 0 ≤ n) (h1 : n < 2 ^ 32) : IntKind.u32.wrap n = n := by
  rw [IntKind.wrap_u32]; omega
theorem join_u32 (i : Nat) (x y : Int) (hx0 : 0 ≤ x) (hx : x % 2 ^ i = 0) (hx1 : x < 2 ^ 32) (hy0 : 0 ≤ y) (hy : y < 2 ^ i) (hy1 : y < 2 ^ 32) : bits .or .u32 x y = x + y :=
  bits_join .u32 32 (by decide) wraps_u32 i x y hx0 hx hx1 hy0 hy hy1
theorem mask_u32 (i : Nat) (hi : i ≤ 32) (x : Int) (h0 : 0 ≤ x) (h1 : x < 2 ^ 32) : bits .and .u32 x (2 ^ i - 1) = x % 2 ^ i :=
  bits_mask .u32 32 (by decide) wraps_u32 i hi x h0 h1

theorem or3 (i j : Nat) (a b c : Int) (a0 : 0 ≤ a) (am : a % 2 ^ i = 0) (b0 : 0 ≤ b) (bi : b < 2 ^ i) (ab : a + b < 2 ^ 32) (abm : (a + b) % 2 ^ j = 0) (c0 : 0 ≤ c) (cj : c < 2 ^ j) (c1 : c < 2 ^ 32) :
    bits .or .u32 (bits .or .u32 a b) c = a + b + c := by
  rw [join_u32 i a b a0 am (by omega) b0 bi (by omega), join_u32 j (a + b) c (by omega) abm ab c0 cj c1]
theorem or4 (i j k : Nat) (a b c d : Int) (a0 : 0 ≤ a) (am : a % 2 ^ i = 0) (b0 : 0 ≤ b) (bi : b < 2 ^ i) (ab : a + b < 2 ^ 32) (abm : (a + b) % 2 ^ j = 0) (c0 : 0 ≤ c) (cj : c < 2 ^ j) (abc : a + b + c < 2 ^ 32)
    (abcm : (a + b + c) % 2 ^ k = 0) (d0 : 0 ≤ d) (dk : d < 2 ^ k) (d1 : d < 2 ^ 32) : bits .or .u32 (bits .or .u32 (bits .or .u32 a b) c) d = a + b + c + d := by
  rw [or3 i j a b c a0 am b0 bi ab abm c0 cj (by omega), join_u32 k (a + b + c) d (by omega) abcm abc d0 dk d1]

theorem bits_any (w h l : Int) (W : World) (h0 : 0 ≤ h) (h1 : h ≤ 31) (l0 : 0 ≤ l) (l1 : l ≤ h) :
    Calls Tryz.prog 133 #[.int .u32 w, .int .u32 h, .int .u32 l] W fun e W' => e = .returned (.int .u32 (IntKind.u32.wrap (w * 2 ^ (31 - h).toNat) / 2 ^ (31 - h + l).toNat)) ∧ W' = W := by
  go_enter Tryz.func133, Tryz.ntmps133
  go_wp2
  go_ret
  exact ⟨rfl, rfl⟩
theorem bits_6_0 (w : Int) (W : World) (_h0 : 0 ≤ w) (_h1 : w < 4294967296) :
    Calls Tryz.prog 133 #[.int .u32 w, .int .u32 6, .int .u32 0] W fun e W' => e = .returned (.int .u32 (w % 128)) ∧ W' = W := by
  refine (bits_any w 6 0 W (by decide) (by decide) (by decide) (by decide)).mono ?_
  rintro e W' ⟨rfl, rfl⟩
  exact ⟨ret_int (by rw [IntKind.wrap_u32]; simp; omega), rfl⟩
theorem bits_11_7 (w : Int) (W : World) (_h0 : 0 ≤ w) (_h1 : w < 4294967296) :
    Calls Tryz.prog 133 #[.int .u32 w, .int .u32 11, .int .u32 7] W fun e W' => e = .returned (.int .u32 (w / 128 % 32)) ∧ W' = W := by
  refine (bits_any w 11 7 W (by decide) (by decide) (by decide) (by decide)).mono ?_
  rintro e W' ⟨rfl, rfl⟩
  exact ⟨ret_int (by rw [IntKind.wrap_u32]; simp; omega), rfl⟩
theorem bits_19_15 (w : Int) (W : World) (_h0 : 0 ≤ w) (_h1 : w < 4294967296) :
    Calls Tryz.prog 133 #[.int .u32 w, .int .u32 19, .int .u32 15] W fun e W' => e = .returned (.int .u32 (w / 32768 % 32)) ∧ W' = W := by
  refine (bits_any w 19 15 W (by decide) (by decide) (by decide) (by decide)).mono ?_
  rintro e W' ⟨rfl, rfl⟩
  exact ⟨ret_int (by rw [IntKind.wrap_u32]; simp; omega), rfl⟩
theorem bits_24_20 (w : Int) (W : World) (_h0 : 0 ≤ w) (_h1 : w < 4294967296) :
    Calls Tryz.prog 133 #[.int .u32 w, .int .u32 24, .int .u32 20] W fun e W' => e = .returned (.int .u32 (w / 1048576 % 32)) ∧ W' = W := by
  refine (bits_any w 24 20 W (by decide) (by decide) (by decide) (by decide)).mono ?_
  rintro e W' ⟨rfl, rfl⟩
  exact ⟨ret_int (by rw [IntKind.wrap_u32]; simp; omega), rfl⟩
theorem bits_31_20 (w : Int) (W : World) (_h0 : 0 ≤ w) (_h1 : w < 4294967296) :
    Calls Tryz.prog 133 #[.int .u32 w, .int .u32 31, .int .u32 20] W fun e W' => e = .returned (.int .u32 (w / 1048576)) ∧ W' = W := by
  refine (bits_any w 31 20 W (by decide) (by decide) (by decide) (by decide)).mono ?_
  rintro e W' ⟨rfl, rfl⟩
  exact ⟨ret_int (by rw [IntKind.wrap_u32]; simp; omega), rfl⟩
theorem bits_31_25 (w : Int) (W : World) (_h0 : 0 ≤ w) (_h1 : w < 4294967296) :
    Calls Tryz.prog 133 #[.int .u32 w, .int .u32 31, .int .u32 25] W fun e W' => e = .returned (.int .u32 (w / 33554432)) ∧ W' = W := by
  refine (bits_any w 31 25 W (by decide) (by decide) (by decide) (by decide)).mono ?_
  rintro e W' ⟨rfl, rfl⟩
  exact ⟨ret_int (by rw [IntKind.wrap_u32]; simp; omega), rfl⟩
theorem bits_7_7 (w : Int) (W : World) (_h0 : 0 ≤ w) (_h1 : w < 4294967296) :
    Calls Tryz.prog 133 #[.int .u32 w, .int .u32 7, .int .u32 7] W fun e W' => e = .returned (.int .u32 (w / 128 % 2)) ∧ W' = W := by
  refine (bits_any w 7 7 W (by decide) (by decide) (by decide) (by decide)).mono ?_
  rintro e W' ⟨rfl, rfl⟩
  exact ⟨ret_int (by rw [IntKind.wrap_u32]; simp; omega), rfl⟩
theorem bits_30_25 (w : Int) (W : World) (_h0 : 0 ≤ w) (_h1 : w < 4294967296) :
    Calls Tryz.prog 133 #[.int .u32 w, .int .u32 30, .int .u32 25] W fun e W' => e = .returned (.int .u32 (w / 33554432 % 64)) ∧ W' = W := by
  refine (bits_any w 30 25 W (by decide) (by decide) (by decide) (by decide)).mono ?_
  rintro e W' ⟨rfl, rfl⟩
  exact ⟨ret_int (by rw [IntKind.wrap_u32]; simp; omega), rfl⟩
theorem bits_11_8 (w : Int) (W : World) (_h0 : 0 ≤ w) (_h1 : w < 4294967296) :
    Calls Tryz.prog 133 #[.int .u32 w, .int .u32 11, .int .u32 8] W fun e W' => e = .returned (.int .u32 (w / 256 % 16)) ∧ W' = W := by
  refine (bits_any w 11 8 W (by decide) (by decide) (by decide) (by decide)).mono ?_
  rintro e W' ⟨rfl, rfl⟩
  exact ⟨ret_int (by rw [IntKind.wrap_u32]; simp; omega), rfl⟩
theorem bits_31_12 (w : Int) (W : World) (_h0 : 0 ≤ w) (_h1 : w < 4294967296) :
    Calls Tryz.prog 133 #[.int .u32 w, .int .u32 31, .int .u32 12] W fun e W' => e = .returned (.int .u32 (w / 4096)) ∧ W' = W := by
  refine (bits_any w 31 12 W (by decide) (by decide) (by decide) (by decide)).mono ?_
  rintro e W' ⟨rfl, rfl⟩
  exact ⟨ret_int (by rw [IntKind.wrap_u32]; simp; omega), rfl⟩
theorem bits_19_12 (w : Int) (W : World) (_h0 : 0 ≤ w) (_h1 : w < 4294967296) :
    Calls Tryz.prog 133 #[.int .u32 w, .int .u32 19, .int .u32 12] W fun e W' => e = .returned (.int .u32 (w / 4096 % 256)) ∧ W' = W := by
  refine (bits_any w 19 12 W (by decide) (by decide) (by decide) (by decide)).mono ?_
  rintro e W' ⟨rfl, rfl⟩
  exact ⟨ret_int (by rw [IntKind.wrap_u32]; simp; omega), rfl⟩
theorem bits_20_20 (w : Int) (W : World) (_h0 : 0 ≤ w) (_h1 : w < 4294967296) :
    Calls Tryz.prog 133 #[.int .u32 w, .int .u32 20, .int .u32 20] W fun e W' => e = .returned (.int .u32 (w / 1048576 % 2)) ∧ W' = W := by
  refine (bits_any w 20 20 W (by decide) (by decide) (by decide) (by decide)).mono ?_
  rintro e W' ⟨rfl, rfl⟩
  exact ⟨ret_int (by rw [IntKind.wrap_u32]; simp; omega), rfl⟩
theorem bits_30_21 (w : Int) (W : World) (_h0 : 0 ≤ w) (_h1 : w < 4294967296) :
    Calls Tryz.prog 133 #[.int .u32 w, .int .u32 30, .int .u32 21] W fun e W' => e = .returned (.int .u32 (w / 2097152 % 1024)) ∧ W' = W := by
  refine (bits_any w 30 21 W (by decide) (by decide) (by decide) (by decide)).mono ?_
  rintro e W' ⟨rfl, rfl⟩
  exact ⟨ret_int (by rw [IntKind.wrap_u32]; simp; omega), rfl⟩
theorem rd_any (w : Int) (W : World) (h0 : 0 ≤ w) (h1 : w < 4294967296) :
    Calls Tryz.prog 135 #[.int .u32 w] W fun e W' => e = .returned (.int .i64 (w / 128 % 32)) ∧ W' = W := by
  go_enter Tryz.func135, Tryz.ntmps135
  go_wp2_with (go_at_call 133; refine (bits_11_7 _ _ h0 h1).mono ?_; rintro e w' ⟨rfl, rfl⟩)
  go_ret
  exact ⟨rfl, rfl⟩
theorem rs1_any (w : Int) (W : World) (h0 : 0 ≤ w) (h1 : w < 4294967296) :
    Calls Tryz.prog 138 #[.int .u32 w] W fun e W' => e = .returned (.int .i64 (w / 32768 % 32)) ∧ W' = W := by
  go_enter Tryz.func138, Tryz.ntmps138
  go_wp2_with (go_at_call 133; refine (bits_19_15 _ _ h0 h1).mono ?_; rintro e w' ⟨rfl, rfl⟩)
  go_ret
  exact ⟨rfl, rfl⟩
theorem rs2_any (w : Int) (W : World) (h0 : 0 ≤ w) (h1 : w < 4294967296) :
    Calls Tryz.prog 139 #[.int .u32 w] W fun e W' => e = .returned (.int .i64 (w / 1048576 % 32)) ∧ W' = W := by
  go_enter Tryz.func139, Tryz.ntmps139
  go_wp2_with (go_at_call 133; refine (bits_24_20 _ _ h0 h1).mono ?_; rintro e w' ⟨rfl, rfl⟩)
  go_ret
  exact ⟨rfl, rfl⟩
theorem signs_any (w : Int) (W : World) (_h0 : 0 ≤ w) (_h1 : w < 4294967296) :
    Calls Tryz.prog 158 #[.int .u32 w] W fun e W' => e = .returned (.int .u32 (w / 2147483648 * 4294967295)) ∧ W' = W := by
  go_enter Tryz.func158, Tryz.ntmps158
  go_wp2
  go_ret
  exact ⟨ret_int (by omega), rfl⟩
theorem immU_any (w : Int) (W : World) (h0 : 0 ≤ w) (h1 : w < 4294967296) :
    Calls Tryz.prog 157 #[.int .u32 w] W fun e W' => e = .returned (.int .u32 (w / 4096 * 4096)) ∧ W' = W := by
  go_enter Tryz.func157, Tryz.ntmps157
  go_wp2_with (go_at_call 133; refine (bits_31_12 _ _ h0 h1).mono ?_; rintro e w' ⟨rfl, rfl⟩)
  go_ret
  exact ⟨ret_int (by simp), rfl⟩
theorem immI_any (w : Int) (W : World) (h0 : 0 ≤ w) (h1 : w < 4294967296) :
    Calls Tryz.prog 159 #[.int .u32 w] W fun e W' => e = .returned (.int .u32 (w / 2147483648 * 4294963200 + w / 1048576)) ∧ W' = W := by
  go_enter Tryz.func159, Tryz.ntmps159
  go_wp2_with (first | (go_at_call 158; refine (signs_any _ _ h0 h1).mono ?_; rintro e w' ⟨rfl, rfl⟩) | (go_at_call_of 133 (Value.int IntKind.u32 20); refine (bits_31_20 _ _ h0 h1).mono ?_; rintro e w' ⟨rfl, rfl⟩))
  go_ret
  refine ⟨ret_int ?_, rfl⟩
  rw [join_u32 12 _ _ (by omega) (by omega) (by omega) (by omega) (by omega) (by omega)]
  all_goals omega
theorem immS_any (w : Int) (W : World) (h0 : 0 ≤ w) (h1 : w < 4294967296) :
    Calls Tryz.prog 141 #[.int .u32 w] W fun e W' => e = .returned (.int .u32 (w / 2147483648 * 4294963200 + w / 33554432 * 32 + w / 128 % 32)) ∧ W' = W := by
  go_enter Tryz.func141, Tryz.ntmps141
  go_wp2_with (first | (go_at_call 158; refine (signs_any _ _ h0 h1).mono ?_; rintro e w' ⟨rfl, rfl⟩) | (go_at_call_of 133 (Value.int IntKind.u32 25); refine (bits_31_25 _ _ h0 h1).mono ?_; rintro e w' ⟨rfl, rfl⟩) | (go_at_call_of 133 (Value.int IntKind.u32 7); refine (bits_11_7 _ _ h0 h1).mono ?_; rintro e w' ⟨rfl, rfl⟩))
  go_ret
  refine ⟨ret_int ?_, rfl⟩
  refine (or3 12 5 _ _ _ ?_ ?_ ?_ ?_ ?_ ?_ ?_ ?_ ?_).trans ?_
  all_goals omega
theorem immB_any (w : Int) (W : World) (h0 : 0 ≤ w) (h1 : w < 4294967296) :
    Calls Tryz.prog 140 #[.int .u32 w] W fun e W' => e = .returned (.int .u32 (w / 2147483648 * 4294963200 + w / 128 % 2 * 2048 + w / 33554432 % 64 * 32 + w / 256 % 16 * 2)) ∧ W' = W := by
  go_enter Tryz.func140, Tryz.ntmps140
  go_wp2_with (first | (go_at_call 158; refine (signs_any _ _ h0 h1).mono ?_; rintro e w' ⟨rfl, rfl⟩) | (go_at_call_of 133 (Value.int IntKind.u32 7); refine (bits_7_7 _ _ h0 h1).mono ?_; rintro e w' ⟨rfl, rfl⟩) | (go_at_call_of 133 (Value.int IntKind.u32 25); refine (bits_30_25 _ _ h0 h1).mono ?_; rintro e w' ⟨rfl, rfl⟩) | (go_at_call_of 133 (Value.int IntKind.u32 8); refine (bits_11_8 _ _ h0 h1).mono ?_; rintro e w' ⟨rfl, rfl⟩))
  go_ret
  refine ⟨ret_int ?_, rfl⟩
  refine (or4 12 11 5 _ _ _ _ ?_ ?_ ?_ ?_ ?_ ?_ ?_ ?_ ?_ ?_ ?_ ?_ ?_).trans ?_
  all_goals omega
theorem immJ_any (w : Int) (W : World) (h0 : 0 ≤ w) (h1 : w < 4294967296) :
    Calls Tryz.prog 136 #[.int .u32 w] W fun e W' => e = .returned (.int .u32 (w / 2147483648 * 4293918720 + w / 4096 % 256 * 4096 + w / 1048576 % 2 * 2048 + w / 2097152 % 1024 * 2)) ∧ W' = W := by
  go_enter Tryz.func136, Tryz.ntmps136
  go_wp2_with (first | (go_at_call 158; refine (signs_any _ _ h0 h1).mono ?_; rintro e w' ⟨rfl, rfl⟩) | (go_at_call_of 133 (Value.int IntKind.u32 12); refine (bits_19_12 _ _ h0 h1).mono ?_; rintro e w' ⟨rfl, rfl⟩) | (go_at_call_of 133 (Value.int IntKind.u32 20); refine (bits_20_20 _ _ h0 h1).mono ?_; rintro e w' ⟨rfl, rfl⟩) | (go_at_call_of 133 (Value.int IntKind.u32 21); refine (bits_30_21 _ _ h0 h1).mono ?_; rintro e w' ⟨rfl, rfl⟩))
  go_ret
  refine ⟨ret_int ?_, rfl⟩
  refine (or4 20 12 11 _ _ _ _ ?_ ?_ ?_ ?_ ?_ ?_ ?_ ?_ ?_ ?_ ?_ ?_ ?_).trans ?_
  all_goals omega
end Go.Proofs.YteiideeechnekaaGreatDoor.D
