/-
  The code's sums and comparisons.
-/
import Derived.Test.YteiideeechnekaaGreatDoorRefSum
import Derived.Test.YteiideeechnekaaGreatDoorDLeaf
namespace Go.Proofs.YteiideeechnekaaGreatDoor
open Go.RowKit

theorem wrap32_sgn (a : Int) (h0 : 0 ≤ a) (h1 : a < 4294967296) : wrap32 a = sgn a := by unfold wrap32 sgn; split <;> omega
theorem less_any (W : World) (a b : Int) (a0 : 0 ≤ a) (a1 : a < 4294967296) (b0 : 0 ≤ b) (b1 : b < 4294967296) :
    Calls Tryz.prog 147 #[.int .u32 a, .int .u32 b] W fun e W' => e = .returned (.bool (decide (sgn a < sgn b))) ∧ W' = W := by
  have wa := wrap32_sgn a a0 a1
  have wb := wrap32_sgn b b0 b1
  go_enter Tryz.func147, Tryz.ntmps147
  go_wp2
  go_ret
  exact ⟨rfl, rfl⟩
theorem cone_any (W : World) (y : Bool) : Calls Tryz.prog 150 #[.bool y] W fun e W' => e = .returned (.int .u32 (oneV y 1)) ∧ W' = W := by
  cases y
  · go_enter Tryz.func150, Tryz.ntmps150
    go_wp2
    go_ret
    exact ⟨rfl, rfl⟩
  · go_enter Tryz.func150, Tryz.ntmps150
    go_wp2
    go_ret
    exact ⟨rfl, rfl⟩
theorem taken_5 (W : World) (a b : Int) (_a0 : 0 ≤ a) (_a1 : a < 4294967296) (_b0 : 0 ≤ b) (_b1 : b < 4294967296) :
    Calls Tryz.prog 114 #[.int .i64 5, .int .u32 a, .int .u32 b] W fun e W' => e = .returned (.bool (a == b)) ∧ W' = W := by
  go_enter Tryz.func114, Tryz.ntmps114
  go_wp2
  go_ret
  exact ⟨rfl, rfl⟩
theorem taken_6 (W : World) (a b : Int) (_a0 : 0 ≤ a) (_a1 : a < 4294967296) (_b0 : 0 ≤ b) (_b1 : b < 4294967296) :
    Calls Tryz.prog 114 #[.int .i64 6, .int .u32 a, .int .u32 b] W fun e W' => e = .returned (.bool (a != b)) ∧ W' = W := by
  go_enter Tryz.func114, Tryz.ntmps114
  go_wp2
  go_ret
  exact ⟨rfl, rfl⟩
theorem taken_7 (W : World) (a b : Int) (a0 : 0 ≤ a) (a1 : a < 4294967296) (b0 : 0 ≤ b) (b1 : b < 4294967296) :
    Calls Tryz.prog 114 #[.int .i64 7, .int .u32 a, .int .u32 b] W fun e W' => e = .returned (.bool (decide (sgn a < sgn b))) ∧ W' = W := by
  go_enter Tryz.func114, Tryz.ntmps114
  go_wp2_with (go_at_call 147; refine (less_any _ _ _ a0 a1 b0 b1).mono ?_; rintro e w' ⟨rfl, rfl⟩)
  go_ret
  exact ⟨rfl, rfl⟩
theorem taken_8 (W : World) (a b : Int) (a0 : 0 ≤ a) (a1 : a < 4294967296) (b0 : 0 ≤ b) (b1 : b < 4294967296) :
    Calls Tryz.prog 114 #[.int .i64 8, .int .u32 a, .int .u32 b] W fun e W' => e = .returned (.bool (decide (sgn b ≤ sgn a))) ∧ W' = W := by
  by_cases hc : sgn a < sgn b
  · have e1 : decide (sgn b ≤ sgn a) = false := decide_eq_false (by omega)
    rw [e1]
    clear e1
    go_enter Tryz.func114, Tryz.ntmps114
    go_wp2_with (go_at_call 147; refine (less_any _ _ _ a0 a1 b0 b1).mono ?_; rintro e w' ⟨rfl, rfl⟩)
    go_ret
    exact ⟨rfl, rfl⟩
  · have e1 : decide (sgn b ≤ sgn a) = true := decide_eq_true (by omega)
    have e2 : decide (sgn a < sgn b) = false := decide_eq_false hc
    rw [e1]
    clear e1 hc
    go_enter Tryz.func114, Tryz.ntmps114
    go_wp2_with (go_at_call 147; refine (less_any _ _ _ a0 a1 b0 b1).mono ?_; rintro e w' ⟨rfl, rfl⟩)
    go_ret
    exact ⟨rfl, rfl⟩
theorem taken_9 (W : World) (a b : Int) (_a0 : 0 ≤ a) (_a1 : a < 4294967296) (_b0 : 0 ≤ b) (_b1 : b < 4294967296) :
    Calls Tryz.prog 114 #[.int .i64 9, .int .u32 a, .int .u32 b] W fun e W' => e = .returned (.bool (decide (a < b))) ∧ W' = W := by
  go_enter Tryz.func114, Tryz.ntmps114
  go_wp2
  go_ret
  exact ⟨rfl, rfl⟩
theorem taken_10 (W : World) (a b : Int) (_a0 : 0 ≤ a) (_a1 : a < 4294967296) (_b0 : 0 ≤ b) (_b1 : b < 4294967296) :
    Calls Tryz.prog 114 #[.int .i64 10, .int .u32 a, .int .u32 b] W fun e W' => e = .returned (.bool (decide (b ≤ a))) ∧ W' = W := by
  go_enter Tryz.func114, Tryz.ntmps114
  go_wp2
  go_ret
  exact ⟨rfl, rfl⟩
theorem taken_any (W : World) (op a b : Int) (h5 : 5 ≤ op) (h10 : op ≤ 10) (a0 : 0 ≤ a) (a1 : a < 4294967296) (b0 : 0 ≤ b) (b1 : b < 4294967296) :
    Calls Tryz.prog 114 #[.int .i64 op, .int .u32 a, .int .u32 b] W fun e W' => e = .returned (.bool (takenB op a b)) ∧ W' = W := by
  have : op = 5 ∨ op = 6 ∨ op = 7 ∨ op = 8 ∨ op = 9 ∨ op = 10 := by omega
  rcases this with rfl | rfl | rfl | rfl | rfl | rfl
  · exact taken_5 W a b a0 a1 b0 b1
  · exact taken_6 W a b a0 a1 b0 b1
  · exact taken_7 W a b a0 a1 b0 b1
  · exact taken_8 W a b a0 a1 b0 b1
  · exact taken_9 W a b a0 a1 b0 b1
  · exact taken_10 W a b a0 a1 b0 b1
theorem result_19 (W : World) (a b : Int) (_a0 : 0 ≤ a) (_a1 : a < 4294967296) (_b0 : 0 ≤ b) (_b1 : b < 4294967296) :
    Calls Tryz.prog 117 #[.int .i64 19, .int .u32 a, .int .u32 b] W fun e W' => e = .returned (.int .u32 ((a + b) % 4294967296)) ∧ W' = W := by
  go_enter Tryz.func117, Tryz.ntmps117
  go_wp2_with (first | (go_at_call 147; refine (less_any _ _ _ a0 a1 b0 b1).mono ?_; rintro e w' ⟨rfl, rfl⟩) | (go_at_call 150; refine (cone_any _ _).mono ?_; rintro e w' ⟨rfl, rfl⟩))
  go_ret
  exact ⟨rfl, rfl⟩
theorem result_20 (W : World) (a b : Int) (a0 : 0 ≤ a) (a1 : a < 4294967296) (b0 : 0 ≤ b) (b1 : b < 4294967296) :
    Calls Tryz.prog 117 #[.int .i64 20, .int .u32 a, .int .u32 b] W fun e W' => e = .returned (.int .u32 (oneV (decide (sgn a < sgn b)) 1)) ∧ W' = W := by
  go_enter Tryz.func117, Tryz.ntmps117
  go_wp2_with (first | (go_at_call 147; refine (less_any _ _ _ a0 a1 b0 b1).mono ?_; rintro e w' ⟨rfl, rfl⟩) | (go_at_call 150; refine (cone_any _ _).mono ?_; rintro e w' ⟨rfl, rfl⟩))
  go_ret
  exact ⟨rfl, rfl⟩
theorem result_21 (W : World) (a b : Int) (_a0 : 0 ≤ a) (_a1 : a < 4294967296) (_b0 : 0 ≤ b) (_b1 : b < 4294967296) :
    Calls Tryz.prog 117 #[.int .i64 21, .int .u32 a, .int .u32 b] W fun e W' => e = .returned (.int .u32 (oneV (decide (a < b)) 1)) ∧ W' = W := by
  go_enter Tryz.func117, Tryz.ntmps117
  go_wp2_with (first | (go_at_call 147; refine (less_any _ _ _ a0 a1 b0 b1).mono ?_; rintro e w' ⟨rfl, rfl⟩) | (go_at_call 150; refine (cone_any _ _).mono ?_; rintro e w' ⟨rfl, rfl⟩))
  go_ret
  exact ⟨rfl, rfl⟩
theorem result_22 (W : World) (a b : Int) (_a0 : 0 ≤ a) (_a1 : a < 4294967296) (_b0 : 0 ≤ b) (_b1 : b < 4294967296) :
    Calls Tryz.prog 117 #[.int .i64 22, .int .u32 a, .int .u32 b] W fun e W' => e = .returned (.int .u32 (bits .xor .u32 a b)) ∧ W' = W := by
  go_enter Tryz.func117, Tryz.ntmps117
  go_wp2_with (first | (go_at_call 147; refine (less_any _ _ _ a0 a1 b0 b1).mono ?_; rintro e w' ⟨rfl, rfl⟩) | (go_at_call 150; refine (cone_any _ _).mono ?_; rintro e w' ⟨rfl, rfl⟩))
  go_ret
  exact ⟨rfl, rfl⟩
theorem result_23 (W : World) (a b : Int) (_a0 : 0 ≤ a) (_a1 : a < 4294967296) (_b0 : 0 ≤ b) (_b1 : b < 4294967296) :
    Calls Tryz.prog 117 #[.int .i64 23, .int .u32 a, .int .u32 b] W fun e W' => e = .returned (.int .u32 (bits .or .u32 a b)) ∧ W' = W := by
  go_enter Tryz.func117, Tryz.ntmps117
  go_wp2_with (first | (go_at_call 147; refine (less_any _ _ _ a0 a1 b0 b1).mono ?_; rintro e w' ⟨rfl, rfl⟩) | (go_at_call 150; refine (cone_any _ _).mono ?_; rintro e w' ⟨rfl, rfl⟩))
  go_ret
  exact ⟨rfl, rfl⟩
theorem result_24 (W : World) (a b : Int) (_a0 : 0 ≤ a) (_a1 : a < 4294967296) (_b0 : 0 ≤ b) (_b1 : b < 4294967296) :
    Calls Tryz.prog 117 #[.int .i64 24, .int .u32 a, .int .u32 b] W fun e W' => e = .returned (.int .u32 (bits .and .u32 a b)) ∧ W' = W := by
  go_enter Tryz.func117, Tryz.ntmps117
  go_wp2_with (first | (go_at_call 147; refine (less_any _ _ _ a0 a1 b0 b1).mono ?_; rintro e w' ⟨rfl, rfl⟩) | (go_at_call 150; refine (cone_any _ _).mono ?_; rintro e w' ⟨rfl, rfl⟩))
  go_ret
  exact ⟨rfl, rfl⟩
theorem result_25 (W : World) (a b : Int) (_a0 : 0 ≤ a) (_a1 : a < 4294967296) (b0 : 0 ≤ b) (b1 : b < 4294967296) :
    Calls Tryz.prog 117 #[.int .i64 25, .int .u32 a, .int .u32 b] W fun e W' => e = .returned (.int .u32 (a * 2 ^ (b % 32).toNat % 4294967296)) ∧ W' = W := by
  obtain ⟨n, hn⟩ : ∃ n : Nat, (n : Int) = b % 32 := ⟨(b % 32).toNat, by omega⟩
  have en : (b % 32).toNat = n := by omega
  have hn2 : bits .and .u32 b 31 = (n : Int) := by have := D.mask_u32 5 (by decide) b b0 b1; rw [hn]; simpa using this
  have hn3 : (n : Int) < 32 := by omega
  rw [en]
  clear hn en
  go_enter Tryz.func117, Tryz.ntmps117
  go_wp2_with (first | (go_at_call 147; refine (less_any _ _ _ a0 a1 b0 b1).mono ?_; rintro e w' ⟨rfl, rfl⟩) | (go_at_call 150; refine (cone_any _ _).mono ?_; rintro e w' ⟨rfl, rfl⟩))
  go_ret
  exact ⟨rfl, rfl⟩
theorem result_26 (W : World) (a b : Int) (_a0 : 0 ≤ a) (_a1 : a < 4294967296) (b0 : 0 ≤ b) (b1 : b < 4294967296) :
    Calls Tryz.prog 117 #[.int .i64 26, .int .u32 a, .int .u32 b] W fun e W' => e = .returned (.int .u32 (a / 2 ^ (b % 32).toNat)) ∧ W' = W := by
  obtain ⟨n, hn⟩ : ∃ n : Nat, (n : Int) = b % 32 := ⟨(b % 32).toNat, by omega⟩
  have en : (b % 32).toNat = n := by omega
  have hn2 : bits .and .u32 b 31 = (n : Int) := by have := D.mask_u32 5 (by decide) b b0 b1; rw [hn]; simpa using this
  have hn3 : (n : Int) < 32 := by omega
  rw [en]
  clear hn en
  go_enter Tryz.func117, Tryz.ntmps117
  go_wp2_with (first | (go_at_call 147; refine (less_any _ _ _ a0 a1 b0 b1).mono ?_; rintro e w' ⟨rfl, rfl⟩) | (go_at_call 150; refine (cone_any _ _).mono ?_; rintro e w' ⟨rfl, rfl⟩))
  go_ret
  exact ⟨rfl, rfl⟩
theorem result_27 (W : World) (a b : Int) (a0 : 0 ≤ a) (a1 : a < 4294967296) (b0 : 0 ≤ b) (b1 : b < 4294967296) :
    Calls Tryz.prog 117 #[.int .i64 27, .int .u32 a, .int .u32 b] W fun e W' => e = .returned (.int .u32 ((sgn a / 2 ^ (b % 32).toNat) % 4294967296)) ∧ W' = W := by
  obtain ⟨n, hn⟩ : ∃ n : Nat, (n : Int) = b % 32 := ⟨(b % 32).toNat, by omega⟩
  have en : (b % 32).toNat = n := by omega
  have hn2 : bits .and .u32 b 31 = (n : Int) := by have := D.mask_u32 5 (by decide) b b0 b1; rw [hn]; simpa using this
  have hn3 : (n : Int) < 32 := by omega
  rw [en]
  clear hn en
  have wa := wrap32_sgn a a0 a1
  have sb := half_bd (sgn a) n (sgn_bd a a0 a1).1 (sgn_bd a a0 a1).2
  go_enter Tryz.func117, Tryz.ntmps117
  go_wp2_with (first | (go_at_call 147; refine (less_any _ _ _ a0 a1 b0 b1).mono ?_; rintro e w' ⟨rfl, rfl⟩) | (go_at_call 150; refine (cone_any _ _).mono ?_; rintro e w' ⟨rfl, rfl⟩))
  go_ret
  exact ⟨rfl, rfl⟩
theorem result_28 (W : World) (a b : Int) (_a0 : 0 ≤ a) (_a1 : a < 4294967296) (_b0 : 0 ≤ b) (_b1 : b < 4294967296) :
    Calls Tryz.prog 117 #[.int .i64 28, .int .u32 a, .int .u32 b] W fun e W' => e = .returned (.int .u32 ((a + b) % 4294967296)) ∧ W' = W := by
  go_enter Tryz.func117, Tryz.ntmps117
  go_wp2_with (first | (go_at_call 147; refine (less_any _ _ _ a0 a1 b0 b1).mono ?_; rintro e w' ⟨rfl, rfl⟩) | (go_at_call 150; refine (cone_any _ _).mono ?_; rintro e w' ⟨rfl, rfl⟩))
  go_ret
  exact ⟨rfl, rfl⟩
theorem result_29 (W : World) (a b : Int) (_a0 : 0 ≤ a) (_a1 : a < 4294967296) (_b0 : 0 ≤ b) (_b1 : b < 4294967296) :
    Calls Tryz.prog 117 #[.int .i64 29, .int .u32 a, .int .u32 b] W fun e W' => e = .returned (.int .u32 ((a - b) % 4294967296)) ∧ W' = W := by
  go_enter Tryz.func117, Tryz.ntmps117
  go_wp2_with (first | (go_at_call 147; refine (less_any _ _ _ a0 a1 b0 b1).mono ?_; rintro e w' ⟨rfl, rfl⟩) | (go_at_call 150; refine (cone_any _ _).mono ?_; rintro e w' ⟨rfl, rfl⟩))
  go_ret
  exact ⟨rfl, rfl⟩
theorem result_30 (W : World) (a b : Int) (_a0 : 0 ≤ a) (_a1 : a < 4294967296) (b0 : 0 ≤ b) (b1 : b < 4294967296) :
    Calls Tryz.prog 117 #[.int .i64 30, .int .u32 a, .int .u32 b] W fun e W' => e = .returned (.int .u32 (a * 2 ^ (b % 32).toNat % 4294967296)) ∧ W' = W := by
  obtain ⟨n, hn⟩ : ∃ n : Nat, (n : Int) = b % 32 := ⟨(b % 32).toNat, by omega⟩
  have en : (b % 32).toNat = n := by omega
  have hn2 : bits .and .u32 b 31 = (n : Int) := by have := D.mask_u32 5 (by decide) b b0 b1; rw [hn]; simpa using this
  have hn3 : (n : Int) < 32 := by omega
  rw [en]
  clear hn en
  go_enter Tryz.func117, Tryz.ntmps117
  go_wp2_with (first | (go_at_call 147; refine (less_any _ _ _ a0 a1 b0 b1).mono ?_; rintro e w' ⟨rfl, rfl⟩) | (go_at_call 150; refine (cone_any _ _).mono ?_; rintro e w' ⟨rfl, rfl⟩))
  go_ret
  exact ⟨rfl, rfl⟩
theorem result_31 (W : World) (a b : Int) (a0 : 0 ≤ a) (a1 : a < 4294967296) (b0 : 0 ≤ b) (b1 : b < 4294967296) :
    Calls Tryz.prog 117 #[.int .i64 31, .int .u32 a, .int .u32 b] W fun e W' => e = .returned (.int .u32 (oneV (decide (sgn a < sgn b)) 1)) ∧ W' = W := by
  go_enter Tryz.func117, Tryz.ntmps117
  go_wp2_with (first | (go_at_call 147; refine (less_any _ _ _ a0 a1 b0 b1).mono ?_; rintro e w' ⟨rfl, rfl⟩) | (go_at_call 150; refine (cone_any _ _).mono ?_; rintro e w' ⟨rfl, rfl⟩))
  go_ret
  exact ⟨rfl, rfl⟩
theorem result_32 (W : World) (a b : Int) (_a0 : 0 ≤ a) (_a1 : a < 4294967296) (_b0 : 0 ≤ b) (_b1 : b < 4294967296) :
    Calls Tryz.prog 117 #[.int .i64 32, .int .u32 a, .int .u32 b] W fun e W' => e = .returned (.int .u32 (oneV (decide (a < b)) 1)) ∧ W' = W := by
  go_enter Tryz.func117, Tryz.ntmps117
  go_wp2_with (first | (go_at_call 147; refine (less_any _ _ _ a0 a1 b0 b1).mono ?_; rintro e w' ⟨rfl, rfl⟩) | (go_at_call 150; refine (cone_any _ _).mono ?_; rintro e w' ⟨rfl, rfl⟩))
  go_ret
  exact ⟨rfl, rfl⟩
theorem result_33 (W : World) (a b : Int) (_a0 : 0 ≤ a) (_a1 : a < 4294967296) (_b0 : 0 ≤ b) (_b1 : b < 4294967296) :
    Calls Tryz.prog 117 #[.int .i64 33, .int .u32 a, .int .u32 b] W fun e W' => e = .returned (.int .u32 (bits .xor .u32 a b)) ∧ W' = W := by
  go_enter Tryz.func117, Tryz.ntmps117
  go_wp2_with (first | (go_at_call 147; refine (less_any _ _ _ a0 a1 b0 b1).mono ?_; rintro e w' ⟨rfl, rfl⟩) | (go_at_call 150; refine (cone_any _ _).mono ?_; rintro e w' ⟨rfl, rfl⟩))
  go_ret
  exact ⟨rfl, rfl⟩
theorem result_34 (W : World) (a b : Int) (_a0 : 0 ≤ a) (_a1 : a < 4294967296) (b0 : 0 ≤ b) (b1 : b < 4294967296) :
    Calls Tryz.prog 117 #[.int .i64 34, .int .u32 a, .int .u32 b] W fun e W' => e = .returned (.int .u32 (a / 2 ^ (b % 32).toNat)) ∧ W' = W := by
  obtain ⟨n, hn⟩ : ∃ n : Nat, (n : Int) = b % 32 := ⟨(b % 32).toNat, by omega⟩
  have en : (b % 32).toNat = n := by omega
  have hn2 : bits .and .u32 b 31 = (n : Int) := by have := D.mask_u32 5 (by decide) b b0 b1; rw [hn]; simpa using this
  have hn3 : (n : Int) < 32 := by omega
  rw [en]
  clear hn en
  go_enter Tryz.func117, Tryz.ntmps117
  go_wp2_with (first | (go_at_call 147; refine (less_any _ _ _ a0 a1 b0 b1).mono ?_; rintro e w' ⟨rfl, rfl⟩) | (go_at_call 150; refine (cone_any _ _).mono ?_; rintro e w' ⟨rfl, rfl⟩))
  go_ret
  exact ⟨rfl, rfl⟩
theorem result_35 (W : World) (a b : Int) (a0 : 0 ≤ a) (a1 : a < 4294967296) (b0 : 0 ≤ b) (b1 : b < 4294967296) :
    Calls Tryz.prog 117 #[.int .i64 35, .int .u32 a, .int .u32 b] W fun e W' => e = .returned (.int .u32 ((sgn a / 2 ^ (b % 32).toNat) % 4294967296)) ∧ W' = W := by
  obtain ⟨n, hn⟩ : ∃ n : Nat, (n : Int) = b % 32 := ⟨(b % 32).toNat, by omega⟩
  have en : (b % 32).toNat = n := by omega
  have hn2 : bits .and .u32 b 31 = (n : Int) := by have := D.mask_u32 5 (by decide) b b0 b1; rw [hn]; simpa using this
  have hn3 : (n : Int) < 32 := by omega
  rw [en]
  clear hn en
  have wa := wrap32_sgn a a0 a1
  have sb := half_bd (sgn a) n (sgn_bd a a0 a1).1 (sgn_bd a a0 a1).2
  go_enter Tryz.func117, Tryz.ntmps117
  go_wp2_with (first | (go_at_call 147; refine (less_any _ _ _ a0 a1 b0 b1).mono ?_; rintro e w' ⟨rfl, rfl⟩) | (go_at_call 150; refine (cone_any _ _).mono ?_; rintro e w' ⟨rfl, rfl⟩))
  go_ret
  exact ⟨rfl, rfl⟩
theorem result_36 (W : World) (a b : Int) (_a0 : 0 ≤ a) (_a1 : a < 4294967296) (_b0 : 0 ≤ b) (_b1 : b < 4294967296) :
    Calls Tryz.prog 117 #[.int .i64 36, .int .u32 a, .int .u32 b] W fun e W' => e = .returned (.int .u32 (bits .or .u32 a b)) ∧ W' = W := by
  go_enter Tryz.func117, Tryz.ntmps117
  go_wp2_with (first | (go_at_call 147; refine (less_any _ _ _ a0 a1 b0 b1).mono ?_; rintro e w' ⟨rfl, rfl⟩) | (go_at_call 150; refine (cone_any _ _).mono ?_; rintro e w' ⟨rfl, rfl⟩))
  go_ret
  exact ⟨rfl, rfl⟩
theorem result_37 (W : World) (a b : Int) (_a0 : 0 ≤ a) (_a1 : a < 4294967296) (_b0 : 0 ≤ b) (_b1 : b < 4294967296) :
    Calls Tryz.prog 117 #[.int .i64 37, .int .u32 a, .int .u32 b] W fun e W' => e = .returned (.int .u32 (bits .and .u32 a b)) ∧ W' = W := by
  go_enter Tryz.func117, Tryz.ntmps117
  go_wp2_with (first | (go_at_call 147; refine (less_any _ _ _ a0 a1 b0 b1).mono ?_; rintro e w' ⟨rfl, rfl⟩) | (go_at_call 150; refine (cone_any _ _).mono ?_; rintro e w' ⟨rfl, rfl⟩))
  go_ret
  exact ⟨rfl, rfl⟩
theorem result_any (W : World) (op a b : Int) (ho : 19 ≤ op ∧ op ≤ 37) (a0 : 0 ≤ a) (a1 : a < 4294967296) (b0 : 0 ≤ b) (b1 : b < 4294967296) :
    Calls Tryz.prog 117 #[.int .i64 op, .int .u32 a, .int .u32 b] W fun e W' => e = .returned (.int .u32 (aluV op a b)) ∧ W' = W := by
  have : op = 19 ∨ op = 20 ∨ op = 21 ∨ op = 22 ∨ op = 23 ∨ op = 24 ∨ op = 25 ∨ op = 26 ∨ op = 27 ∨ op = 28 ∨ op = 29 ∨ op = 30 ∨ op = 31 ∨ op = 32 ∨ op = 33 ∨ op = 34 ∨ op = 35 ∨ op = 36 ∨ op = 37 := by omega
  rcases this with rfl | rfl | rfl | rfl | rfl | rfl | rfl | rfl | rfl | rfl | rfl | rfl | rfl | rfl | rfl | rfl | rfl | rfl | rfl
  · have e : aluV 19 a b = (a + b) % 4294967296 := by simp [aluV]
    rw [e]
    exact result_19 W a b a0 a1 b0 b1
  · have e : aluV 20 a b = oneV (decide (sgn a < sgn b)) 1 := by simp [aluV]
    rw [e]
    exact result_20 W a b a0 a1 b0 b1
  · have e : aluV 21 a b = oneV (decide (a < b)) 1 := by simp [aluV]
    rw [e]
    exact result_21 W a b a0 a1 b0 b1
  · have e : aluV 22 a b = bits .xor .u32 a b := by simp [aluV]
    rw [e]
    exact result_22 W a b a0 a1 b0 b1
  · have e : aluV 23 a b = bits .or .u32 a b := by simp [aluV]
    rw [e]
    exact result_23 W a b a0 a1 b0 b1
  · have e : aluV 24 a b = bits .and .u32 a b := by simp [aluV]
    rw [e]
    exact result_24 W a b a0 a1 b0 b1
  · have e : aluV 25 a b = a * 2 ^ (b % 32).toNat % 4294967296 := by simp [aluV]
    rw [e]
    exact result_25 W a b a0 a1 b0 b1
  · have e : aluV 26 a b = a / 2 ^ (b % 32).toNat := by simp [aluV]
    rw [e]
    exact result_26 W a b a0 a1 b0 b1
  · have e : aluV 27 a b = (sgn a / 2 ^ (b % 32).toNat) % 4294967296 := by simp [aluV]
    rw [e]
    exact result_27 W a b a0 a1 b0 b1
  · have e : aluV 28 a b = (a + b) % 4294967296 := by simp [aluV]
    rw [e]
    exact result_28 W a b a0 a1 b0 b1
  · have e : aluV 29 a b = (a - b) % 4294967296 := by simp [aluV]
    rw [e]
    exact result_29 W a b a0 a1 b0 b1
  · have e : aluV 30 a b = a * 2 ^ (b % 32).toNat % 4294967296 := by simp [aluV]
    rw [e]
    exact result_30 W a b a0 a1 b0 b1
  · have e : aluV 31 a b = oneV (decide (sgn a < sgn b)) 1 := by simp [aluV]
    rw [e]
    exact result_31 W a b a0 a1 b0 b1
  · have e : aluV 32 a b = oneV (decide (a < b)) 1 := by simp [aluV]
    rw [e]
    exact result_32 W a b a0 a1 b0 b1
  · have e : aluV 33 a b = bits .xor .u32 a b := by simp [aluV]
    rw [e]
    exact result_33 W a b a0 a1 b0 b1
  · have e : aluV 34 a b = a / 2 ^ (b % 32).toNat := by simp [aluV]
    rw [e]
    exact result_34 W a b a0 a1 b0 b1
  · have e : aluV 35 a b = (sgn a / 2 ^ (b % 32).toNat) % 4294967296 := by simp [aluV]
    rw [e]
    exact result_35 W a b a0 a1 b0 b1
  · have e : aluV 36 a b = bits .or .u32 a b := by simp [aluV]
    rw [e]
    exact result_36 W a b a0 a1 b0 b1
  · have e : aluV 37 a b = bits .and .u32 a b := by simp [aluV]
    rw [e]
    exact result_37 W a b a0 a1 b0 b1
end Go.Proofs.YteiideeechnekaaGreatDoor
