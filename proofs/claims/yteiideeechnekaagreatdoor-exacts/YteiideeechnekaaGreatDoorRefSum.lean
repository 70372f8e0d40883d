/-
  The document's signed, half, meets, one and sum.
-/
import Derived.Test.YteiideeechnekaaGreatDoorRefTrap
import Derived.Test.YteiideeechnekaaGreatDoorMach
namespace Go.Proofs.YteiideeechnekaaGreatDoor
open Go.RowKit

theorem signed_any (W : World) (v : Int) (h0 : 0 ≤ v) (h1 : v < 4294967296) :
    Calls Tryz.prog 98 #[.int .u32 v] W fun e W' => e = .returned (.int .i64 (sgn v)) ∧ W' = W := by
  by_cases hc : v < 2147483648
  · have e : sgn v = v := by unfold sgn; rw [if_pos hc]
    have e2 : v / 2147483648 = 0 := by omega
    rw [e]
    clear e
    go_enter Tryz.func98, Tryz.ntmps98
    go_wp2
    go_ret
    exact ⟨rfl, rfl⟩
  · have e : sgn v = v - 4294967296 := by unfold sgn; rw [if_neg hc]
    have e2 : v / 2147483648 = 1 := by omega
    rw [e]
    clear e hc
    go_enter Tryz.func98, Tryz.ntmps98
    go_wp2
    go_ret
    exact ⟨rfl, rfl⟩

theorem ret_int {k : IntKind} {a b : Int} (h : a = b) : Ending.returned (.int k a) = .returned (.int k b) := by rw [h]
theorem even_half (X : Int) (h : X.tmod 2 = 0) : X.tdiv 2 = X / 2 := by
  have := Int.mul_tdiv_add_tmod X 2
  omega
theorem odd_half (X : Int) (h : (X.tmod 2 != 0) = true) : (X - 1).tdiv 2 = X / 2 := by
  have h' : X.tmod 2 ≠ 0 := by simpa using h
  have a := Int.mul_tdiv_add_tmod X 2
  have b := Int.mul_tdiv_add_tmod (X - 1) 2
  have c := Int.tmod_lt_of_pos X (show (0 : Int) < 2 by decide)
  have d := Int.tmod_lt_of_pos (X - 1) (show (0 : Int) < 2 by decide)
  have e : (X - 1).tmod 2 = 0 := by
    rw [Int.tmod_eq_emod]
    rw [Int.tmod_eq_emod] at h'
    split at h' <;> split <;> omega
  omega
theorem half_fd (x : Int) (k : Nat) : x / 2 ^ k / 2 = x / 2 ^ (k + 1) := by
  rw [Int.pow_succ, ← Int.ediv_ediv_of_nonneg (Int.pow_nonneg (by decide))]
theorem half_bd (x : Int) (k : Nat) (h0 : -2147483648 ≤ x) (h1 : x < 2147483648) : -2147483648 ≤ x / 2 ^ k ∧ x / 2 ^ k < 2147483648 := by
  induction k with
  | zero => simp; omega
  | succ k ih => rw [← half_fd]; omega

set_option maxHeartbeats 1000000 in
theorem half_any (W : World) (a : Int) (n : Nat) (h0 : 0 ≤ a) (h1 : a < 4294967296) (hn : n < 32) :
    Calls Tryz.prog 100 #[.int .u32 a, .int .u32 n] W fun e W' => e = .returned (.int .u32 ((sgn a / 2 ^ n) % 4294967296)) ∧ W' = W := by
  have sb := sgn_bd a h0 h1
  have hn' : (n : Int) < 32 := by omega
  go_enter Tryz.func100, Tryz.ntmps100
  go_wp2_with (go_at_call 98; refine (signed_any _ a h0 h1).mono ?_; rintro e w' ⟨rfl, rfl⟩)
  go_loop [5, 6] (fun x i => ∃ k : Nat, k ≤ n ∧ x = .int .i64 (sgn a / 2 ^ k) ∧ i = .int .u32 k) (fun _ i => n - (intOf i).toNat)
  case atStart => exact ⟨0, by omega, by simp, rfl⟩
  case round =>
    obtain ⟨k, hk, rfl, rfl⟩ := hrel
    have xb := half_bd (sgn a) k sb.1 sb.2
    have xs := half_fd (sgn a) k
    obtain ⟨X, hX⟩ : ∃ X, X = sgn a / 2 ^ k := ⟨_, rfl⟩
    rw [← hX] at xb xs ⊢
    have HS : Hid (X / 2 = sgn a / 2 ^ (k + 1)) := xs
    have HX : Hid (X = sgn a / 2 ^ k) := hX
    clear hX xs
    by_cases hlt : k < n
    · have hlt' : (k : Int) < n := by omega
      by_cases hm : X.tmod 2 = 0
      · go_wp2
        go_round
        case rel => exact ⟨k + 1, by omega, by rw [← HS.out]; congr 1; exact even_half X hm, by go_num⟩
        case measure => simp [intOf]; omega
      · have hm' : (X.tmod 2 != 0) = true := by simpa using hm
        clear hm
        go_wp2
        go_round
        case rel => exact ⟨k + 1, by omega, by rw [← HS.out]; congr 1; exact odd_half X hm', by go_num⟩
        case measure => simp [intOf]; omega
    · obtain rfl : k = n := by omega
      go_wp2
      go_ret
      exact ⟨ret_int (by rw [← HX.out]), rfl⟩

def takenB (op a b : Int) : Bool := if op = 5 then a == b else if op = 6 then a != b else if op = 7 then decide (sgn a < sgn b) else if op = 8 then decide (sgn b ≤ sgn a) else if op = 9 then decide (a < b) else decide (b ≤ a)
theorem meets_5 (W : World) (a b : Int) (a0 : 0 ≤ a) (a1 : a < 4294967296) (b0 : 0 ≤ b) (b1 : b < 4294967296) :
    Calls Tryz.prog 60 #[.int .i64 5, .int .u32 a, .int .u32 b] W fun e W' => e = .returned (.bool (a == b)) ∧ W' = W := by
  go_enter Tryz.func60, Tryz.ntmps60
  go_wp2_with (go_at_call 98; refine (signed_any _ _ (by assumption) (by assumption)).mono ?_; rintro e w' ⟨rfl, rfl⟩)
  go_ret
  exact ⟨rfl, rfl⟩
theorem meets_6 (W : World) (a b : Int) (a0 : 0 ≤ a) (a1 : a < 4294967296) (b0 : 0 ≤ b) (b1 : b < 4294967296) :
    Calls Tryz.prog 60 #[.int .i64 6, .int .u32 a, .int .u32 b] W fun e W' => e = .returned (.bool (a != b)) ∧ W' = W := by
  go_enter Tryz.func60, Tryz.ntmps60
  go_wp2_with (go_at_call 98; refine (signed_any _ _ (by assumption) (by assumption)).mono ?_; rintro e w' ⟨rfl, rfl⟩)
  go_ret
  exact ⟨rfl, rfl⟩
theorem meets_7 (W : World) (a b : Int) (a0 : 0 ≤ a) (a1 : a < 4294967296) (b0 : 0 ≤ b) (b1 : b < 4294967296) :
    Calls Tryz.prog 60 #[.int .i64 7, .int .u32 a, .int .u32 b] W fun e W' => e = .returned (.bool (decide (sgn a < sgn b))) ∧ W' = W := by
  go_enter Tryz.func60, Tryz.ntmps60
  go_wp2_with (go_at_call 98; refine (signed_any _ _ (by assumption) (by assumption)).mono ?_; rintro e w' ⟨rfl, rfl⟩)
  go_ret
  exact ⟨rfl, rfl⟩
theorem meets_8 (W : World) (a b : Int) (a0 : 0 ≤ a) (a1 : a < 4294967296) (b0 : 0 ≤ b) (b1 : b < 4294967296) :
    Calls Tryz.prog 60 #[.int .i64 8, .int .u32 a, .int .u32 b] W fun e W' => e = .returned (.bool (decide (sgn b ≤ sgn a))) ∧ W' = W := by
  go_enter Tryz.func60, Tryz.ntmps60
  go_wp2_with (go_at_call 98; refine (signed_any _ _ (by assumption) (by assumption)).mono ?_; rintro e w' ⟨rfl, rfl⟩)
  go_ret
  exact ⟨rfl, rfl⟩
theorem meets_9 (W : World) (a b : Int) (a0 : 0 ≤ a) (a1 : a < 4294967296) (b0 : 0 ≤ b) (b1 : b < 4294967296) :
    Calls Tryz.prog 60 #[.int .i64 9, .int .u32 a, .int .u32 b] W fun e W' => e = .returned (.bool (decide (a < b))) ∧ W' = W := by
  go_enter Tryz.func60, Tryz.ntmps60
  go_wp2_with (go_at_call 98; refine (signed_any _ _ (by assumption) (by assumption)).mono ?_; rintro e w' ⟨rfl, rfl⟩)
  go_ret
  exact ⟨rfl, rfl⟩
theorem meets_10 (W : World) (a b : Int) (a0 : 0 ≤ a) (a1 : a < 4294967296) (b0 : 0 ≤ b) (b1 : b < 4294967296) :
    Calls Tryz.prog 60 #[.int .i64 10, .int .u32 a, .int .u32 b] W fun e W' => e = .returned (.bool (decide (b ≤ a))) ∧ W' = W := by
  go_enter Tryz.func60, Tryz.ntmps60
  go_wp2_with (go_at_call 98; refine (signed_any _ _ (by assumption) (by assumption)).mono ?_; rintro e w' ⟨rfl, rfl⟩)
  go_ret
  exact ⟨rfl, rfl⟩
theorem meets_any (W : World) (op a b : Int) (h5 : 5 ≤ op) (h10 : op ≤ 10) (a0 : 0 ≤ a) (a1 : a < 4294967296) (b0 : 0 ≤ b) (b1 : b < 4294967296) :
    Calls Tryz.prog 60 #[.int .i64 op, .int .u32 a, .int .u32 b] W fun e W' => e = .returned (.bool (takenB op a b)) ∧ W' = W := by
  have : op = 5 ∨ op = 6 ∨ op = 7 ∨ op = 8 ∨ op = 9 ∨ op = 10 := by omega
  rcases this with rfl | rfl | rfl | rfl | rfl | rfl
  · exact meets_5 W a b a0 a1 b0 b1
  · exact meets_6 W a b a0 a1 b0 b1
  · exact meets_7 W a b a0 a1 b0 b1
  · exact meets_8 W a b a0 a1 b0 b1
  · exact meets_9 W a b a0 a1 b0 b1
  · exact meets_10 W a b a0 a1 b0 b1

/-- What the sums make of Rs1 and the second word. -/
def aluV (op a b : Int) : Int :=
  if op = 19 ∨ op = 28 then (a + b) % 4294967296
  else if op = 29 then (a - b) % 4294967296
  else if op = 20 ∨ op = 31 then oneV (decide (sgn a < sgn b)) 1
  else if op = 21 ∨ op = 32 then oneV (decide (a < b)) 1
  else if op = 22 ∨ op = 33 then bits .xor .u32 a b
  else if op = 23 ∨ op = 36 then bits .or .u32 a b
  else if op = 24 ∨ op = 37 then bits .and .u32 a b
  else if op = 25 ∨ op = 30 then a * 2 ^ (b % 32).toNat % 4294967296
  else if op = 26 ∨ op = 34 then a / 2 ^ (b % 32).toNat
  else if op = 27 ∨ op = 35 then (sgn a / 2 ^ (b % 32).toNat) % 4294967296
  else 0
def sumV (op a b imm pc : Int) : Int := if op = 1 then imm else if op = 2 then (pc + imm) % 4294967296 else if op ≤ 27 then aluV op a imm else aluV op a b
theorem sum_1 (W : World) (rd r1 r2 imm a b pc : Int) (a0 : 0 ≤ a) (a1 : a < 4294967296) (b0 : 0 ≤ b) (b1 : b < 4294967296) (_i0 : 0 ≤ imm) (_i1 : imm < 4294967296) :
    Calls Tryz.prog 65 #[.agg #[.int .i64 1, .int .i64 rd, .int .i64 r1, .int .i64 r2, .int .u32 imm], .int .u32 a, .int .u32 b, .int .u32 pc] W fun e W' => e = .returned (.int .u32 (imm)) ∧ Below W.heap.size W W' := by
  go_enter Tryz.func65, Tryz.ntmps65
  go_wp2_with (first | (go_at_call 98; refine (signed_any _ _ (by assumption) (by assumption)).mono ?_; rintro e w' ⟨rfl, rfl⟩) | (go_at_call 40; refine (one_0 _ _).mono ?_; rintro e w' ⟨rfl, rfl⟩) | (go_at_call 100; refine (half_any _ _ n (by assumption) (by assumption) (by omega)).mono ?_; rintro e w' ⟨rfl, rfl⟩))
  go_ret
  exact ⟨rfl, (Below.refl _ _).alloc (Nat.le_refl _) _⟩
theorem sum_2 (W : World) (rd r1 r2 imm a b pc : Int) (a0 : 0 ≤ a) (a1 : a < 4294967296) (b0 : 0 ≤ b) (b1 : b < 4294967296) (_i0 : 0 ≤ imm) (_i1 : imm < 4294967296) :
    Calls Tryz.prog 65 #[.agg #[.int .i64 2, .int .i64 rd, .int .i64 r1, .int .i64 r2, .int .u32 imm], .int .u32 a, .int .u32 b, .int .u32 pc] W fun e W' => e = .returned (.int .u32 ((pc + imm) % 4294967296)) ∧ Below W.heap.size W W' := by
  go_enter Tryz.func65, Tryz.ntmps65
  go_wp2_with (first | (go_at_call 98; refine (signed_any _ _ (by assumption) (by assumption)).mono ?_; rintro e w' ⟨rfl, rfl⟩) | (go_at_call 40; refine (one_0 _ _).mono ?_; rintro e w' ⟨rfl, rfl⟩) | (go_at_call 100; refine (half_any _ _ n (by assumption) (by assumption) (by omega)).mono ?_; rintro e w' ⟨rfl, rfl⟩))
  go_ret
  exact ⟨rfl, (Below.refl _ _).alloc (Nat.le_refl _) _⟩
theorem sum_19 (W : World) (rd r1 r2 imm a b pc : Int) (a0 : 0 ≤ a) (a1 : a < 4294967296) (_b0 : 0 ≤ b) (_b1 : b < 4294967296) (i0 : 0 ≤ imm) (i1 : imm < 4294967296) :
    Calls Tryz.prog 65 #[.agg #[.int .i64 19, .int .i64 rd, .int .i64 r1, .int .i64 r2, .int .u32 imm], .int .u32 a, .int .u32 b, .int .u32 pc] W fun e W' => e = .returned (.int .u32 ((a + imm) % 4294967296)) ∧ Below W.heap.size W W' := by
  go_enter Tryz.func65, Tryz.ntmps65
  go_wp2_with (first | (go_at_call 98; refine (signed_any _ _ (by assumption) (by assumption)).mono ?_; rintro e w' ⟨rfl, rfl⟩) | (go_at_call 40; refine (one_0 _ _).mono ?_; rintro e w' ⟨rfl, rfl⟩) | (go_at_call 100; refine (half_any _ _ n (by assumption) (by assumption) (by omega)).mono ?_; rintro e w' ⟨rfl, rfl⟩))
  go_ret
  exact ⟨rfl, (Below.refl _ _).alloc (Nat.le_refl _) _⟩
theorem sum_20 (W : World) (rd r1 r2 imm a b pc : Int) (a0 : 0 ≤ a) (a1 : a < 4294967296) (_b0 : 0 ≤ b) (_b1 : b < 4294967296) (i0 : 0 ≤ imm) (i1 : imm < 4294967296) :
    Calls Tryz.prog 65 #[.agg #[.int .i64 20, .int .i64 rd, .int .i64 r1, .int .i64 r2, .int .u32 imm], .int .u32 a, .int .u32 b, .int .u32 pc] W fun e W' => e = .returned (.int .u32 (oneV (decide (sgn a < sgn imm)) 1)) ∧ Below W.heap.size W W' := by
  go_enter Tryz.func65, Tryz.ntmps65
  go_wp2_with (first | (go_at_call 98; refine (signed_any _ _ (by assumption) (by assumption)).mono ?_; rintro e w' ⟨rfl, rfl⟩) | (go_at_call 40; refine (one_0 _ _).mono ?_; rintro e w' ⟨rfl, rfl⟩) | (go_at_call 100; refine (half_any _ _ n (by assumption) (by assumption) (by omega)).mono ?_; rintro e w' ⟨rfl, rfl⟩))
  go_ret
  exact ⟨rfl, (Below.refl _ _).alloc (Nat.le_refl _) _⟩
theorem sum_21 (W : World) (rd r1 r2 imm a b pc : Int) (a0 : 0 ≤ a) (a1 : a < 4294967296) (_b0 : 0 ≤ b) (_b1 : b < 4294967296) (i0 : 0 ≤ imm) (i1 : imm < 4294967296) :
    Calls Tryz.prog 65 #[.agg #[.int .i64 21, .int .i64 rd, .int .i64 r1, .int .i64 r2, .int .u32 imm], .int .u32 a, .int .u32 b, .int .u32 pc] W fun e W' => e = .returned (.int .u32 (oneV (decide (a < imm)) 1)) ∧ Below W.heap.size W W' := by
  go_enter Tryz.func65, Tryz.ntmps65
  go_wp2_with (first | (go_at_call 98; refine (signed_any _ _ (by assumption) (by assumption)).mono ?_; rintro e w' ⟨rfl, rfl⟩) | (go_at_call 40; refine (one_0 _ _).mono ?_; rintro e w' ⟨rfl, rfl⟩) | (go_at_call 100; refine (half_any _ _ n (by assumption) (by assumption) (by omega)).mono ?_; rintro e w' ⟨rfl, rfl⟩))
  go_ret
  exact ⟨rfl, (Below.refl _ _).alloc (Nat.le_refl _) _⟩
theorem sum_22 (W : World) (rd r1 r2 imm a b pc : Int) (a0 : 0 ≤ a) (a1 : a < 4294967296) (_b0 : 0 ≤ b) (_b1 : b < 4294967296) (i0 : 0 ≤ imm) (i1 : imm < 4294967296) :
    Calls Tryz.prog 65 #[.agg #[.int .i64 22, .int .i64 rd, .int .i64 r1, .int .i64 r2, .int .u32 imm], .int .u32 a, .int .u32 b, .int .u32 pc] W fun e W' => e = .returned (.int .u32 (bits .xor .u32 a imm)) ∧ Below W.heap.size W W' := by
  go_enter Tryz.func65, Tryz.ntmps65
  go_wp2_with (first | (go_at_call 98; refine (signed_any _ _ (by assumption) (by assumption)).mono ?_; rintro e w' ⟨rfl, rfl⟩) | (go_at_call 40; refine (one_0 _ _).mono ?_; rintro e w' ⟨rfl, rfl⟩) | (go_at_call 100; refine (half_any _ _ n (by assumption) (by assumption) (by omega)).mono ?_; rintro e w' ⟨rfl, rfl⟩))
  go_ret
  exact ⟨rfl, (Below.refl _ _).alloc (Nat.le_refl _) _⟩
theorem sum_23 (W : World) (rd r1 r2 imm a b pc : Int) (a0 : 0 ≤ a) (a1 : a < 4294967296) (_b0 : 0 ≤ b) (_b1 : b < 4294967296) (i0 : 0 ≤ imm) (i1 : imm < 4294967296) :
    Calls Tryz.prog 65 #[.agg #[.int .i64 23, .int .i64 rd, .int .i64 r1, .int .i64 r2, .int .u32 imm], .int .u32 a, .int .u32 b, .int .u32 pc] W fun e W' => e = .returned (.int .u32 (bits .or .u32 a imm)) ∧ Below W.heap.size W W' := by
  go_enter Tryz.func65, Tryz.ntmps65
  go_wp2_with (first | (go_at_call 98; refine (signed_any _ _ (by assumption) (by assumption)).mono ?_; rintro e w' ⟨rfl, rfl⟩) | (go_at_call 40; refine (one_0 _ _).mono ?_; rintro e w' ⟨rfl, rfl⟩) | (go_at_call 100; refine (half_any _ _ n (by assumption) (by assumption) (by omega)).mono ?_; rintro e w' ⟨rfl, rfl⟩))
  go_ret
  exact ⟨rfl, (Below.refl _ _).alloc (Nat.le_refl _) _⟩
theorem sum_24 (W : World) (rd r1 r2 imm a b pc : Int) (a0 : 0 ≤ a) (a1 : a < 4294967296) (_b0 : 0 ≤ b) (_b1 : b < 4294967296) (i0 : 0 ≤ imm) (i1 : imm < 4294967296) :
    Calls Tryz.prog 65 #[.agg #[.int .i64 24, .int .i64 rd, .int .i64 r1, .int .i64 r2, .int .u32 imm], .int .u32 a, .int .u32 b, .int .u32 pc] W fun e W' => e = .returned (.int .u32 (bits .and .u32 a imm)) ∧ Below W.heap.size W W' := by
  go_enter Tryz.func65, Tryz.ntmps65
  go_wp2_with (first | (go_at_call 98; refine (signed_any _ _ (by assumption) (by assumption)).mono ?_; rintro e w' ⟨rfl, rfl⟩) | (go_at_call 40; refine (one_0 _ _).mono ?_; rintro e w' ⟨rfl, rfl⟩) | (go_at_call 100; refine (half_any _ _ n (by assumption) (by assumption) (by omega)).mono ?_; rintro e w' ⟨rfl, rfl⟩))
  go_ret
  exact ⟨rfl, (Below.refl _ _).alloc (Nat.le_refl _) _⟩
theorem sum_25 (W : World) (rd r1 r2 imm a b pc : Int) (a0 : 0 ≤ a) (a1 : a < 4294967296) (_b0 : 0 ≤ b) (_b1 : b < 4294967296) (i0 : 0 ≤ imm) (i1 : imm < 4294967296) :
    Calls Tryz.prog 65 #[.agg #[.int .i64 25, .int .i64 rd, .int .i64 r1, .int .i64 r2, .int .u32 imm], .int .u32 a, .int .u32 b, .int .u32 pc] W fun e W' => e = .returned (.int .u32 (a * 2 ^ (imm % 32).toNat % 4294967296)) ∧ Below W.heap.size W W' := by
  obtain ⟨n, hn⟩ : ∃ n : Nat, (n : Int) = imm % 32 := ⟨(imm % 32).toNat, by omega⟩
  have en : (imm % 32).toNat = n := by omega
  have hn2 : imm % 32 = (n : Int) := hn.symm
  have hn3 : (n : Int) < 32 := by omega
  rw [en]
  clear hn en
  go_enter Tryz.func65, Tryz.ntmps65
  go_wp2_with (first | (go_at_call 98; refine (signed_any _ _ (by assumption) (by assumption)).mono ?_; rintro e w' ⟨rfl, rfl⟩) | (go_at_call 40; refine (one_0 _ _).mono ?_; rintro e w' ⟨rfl, rfl⟩) | (go_at_call 100; refine (half_any _ _ n (by assumption) (by assumption) (by omega)).mono ?_; rintro e w' ⟨rfl, rfl⟩))
  go_ret
  exact ⟨rfl, (Below.refl _ _).alloc (Nat.le_refl _) _⟩
theorem sum_26 (W : World) (rd r1 r2 imm a b pc : Int) (a0 : 0 ≤ a) (a1 : a < 4294967296) (_b0 : 0 ≤ b) (_b1 : b < 4294967296) (i0 : 0 ≤ imm) (i1 : imm < 4294967296) :
    Calls Tryz.prog 65 #[.agg #[.int .i64 26, .int .i64 rd, .int .i64 r1, .int .i64 r2, .int .u32 imm], .int .u32 a, .int .u32 b, .int .u32 pc] W fun e W' => e = .returned (.int .u32 (a / 2 ^ (imm % 32).toNat)) ∧ Below W.heap.size W W' := by
  obtain ⟨n, hn⟩ : ∃ n : Nat, (n : Int) = imm % 32 := ⟨(imm % 32).toNat, by omega⟩
  have en : (imm % 32).toNat = n := by omega
  have hn2 : imm % 32 = (n : Int) := hn.symm
  have hn3 : (n : Int) < 32 := by omega
  rw [en]
  clear hn en
  go_enter Tryz.func65, Tryz.ntmps65
  go_wp2_with (first | (go_at_call 98; refine (signed_any _ _ (by assumption) (by assumption)).mono ?_; rintro e w' ⟨rfl, rfl⟩) | (go_at_call 40; refine (one_0 _ _).mono ?_; rintro e w' ⟨rfl, rfl⟩) | (go_at_call 100; refine (half_any _ _ n (by assumption) (by assumption) (by omega)).mono ?_; rintro e w' ⟨rfl, rfl⟩))
  go_ret
  exact ⟨rfl, (Below.refl _ _).alloc (Nat.le_refl _) _⟩
theorem sum_27 (W : World) (rd r1 r2 imm a b pc : Int) (a0 : 0 ≤ a) (a1 : a < 4294967296) (_b0 : 0 ≤ b) (_b1 : b < 4294967296) (i0 : 0 ≤ imm) (i1 : imm < 4294967296) :
    Calls Tryz.prog 65 #[.agg #[.int .i64 27, .int .i64 rd, .int .i64 r1, .int .i64 r2, .int .u32 imm], .int .u32 a, .int .u32 b, .int .u32 pc] W fun e W' => e = .returned (.int .u32 ((sgn a / 2 ^ (imm % 32).toNat) % 4294967296)) ∧ Below W.heap.size W W' := by
  obtain ⟨n, hn⟩ : ∃ n : Nat, (n : Int) = imm % 32 := ⟨(imm % 32).toNat, by omega⟩
  have en : (imm % 32).toNat = n := by omega
  have hn2 : imm % 32 = (n : Int) := hn.symm
  have hn3 : (n : Int) < 32 := by omega
  rw [en]
  clear hn en
  go_enter Tryz.func65, Tryz.ntmps65
  go_wp2_with (first | (go_at_call 98; refine (signed_any _ _ (by assumption) (by assumption)).mono ?_; rintro e w' ⟨rfl, rfl⟩) | (go_at_call 40; refine (one_0 _ _).mono ?_; rintro e w' ⟨rfl, rfl⟩) | (go_at_call 100; refine (half_any _ _ n (by assumption) (by assumption) (by omega)).mono ?_; rintro e w' ⟨rfl, rfl⟩))
  go_ret
  exact ⟨rfl, (Below.refl _ _).alloc (Nat.le_refl _) _⟩
theorem sum_28 (W : World) (rd r1 r2 imm a b pc : Int) (a0 : 0 ≤ a) (a1 : a < 4294967296) (b0 : 0 ≤ b) (b1 : b < 4294967296) (_i0 : 0 ≤ imm) (_i1 : imm < 4294967296) :
    Calls Tryz.prog 65 #[.agg #[.int .i64 28, .int .i64 rd, .int .i64 r1, .int .i64 r2, .int .u32 imm], .int .u32 a, .int .u32 b, .int .u32 pc] W fun e W' => e = .returned (.int .u32 ((a + b) % 4294967296)) ∧ Below W.heap.size W W' := by
  go_enter Tryz.func65, Tryz.ntmps65
  go_wp2_with (first | (go_at_call 98; refine (signed_any _ _ (by assumption) (by assumption)).mono ?_; rintro e w' ⟨rfl, rfl⟩) | (go_at_call 40; refine (one_0 _ _).mono ?_; rintro e w' ⟨rfl, rfl⟩) | (go_at_call 100; refine (half_any _ _ n (by assumption) (by assumption) (by omega)).mono ?_; rintro e w' ⟨rfl, rfl⟩))
  go_ret
  exact ⟨rfl, (Below.refl _ _).alloc (Nat.le_refl _) _⟩
theorem sum_29 (W : World) (rd r1 r2 imm a b pc : Int) (a0 : 0 ≤ a) (a1 : a < 4294967296) (b0 : 0 ≤ b) (b1 : b < 4294967296) (_i0 : 0 ≤ imm) (_i1 : imm < 4294967296) :
    Calls Tryz.prog 65 #[.agg #[.int .i64 29, .int .i64 rd, .int .i64 r1, .int .i64 r2, .int .u32 imm], .int .u32 a, .int .u32 b, .int .u32 pc] W fun e W' => e = .returned (.int .u32 ((a - b) % 4294967296)) ∧ Below W.heap.size W W' := by
  go_enter Tryz.func65, Tryz.ntmps65
  go_wp2_with (first | (go_at_call 98; refine (signed_any _ _ (by assumption) (by assumption)).mono ?_; rintro e w' ⟨rfl, rfl⟩) | (go_at_call 40; refine (one_0 _ _).mono ?_; rintro e w' ⟨rfl, rfl⟩) | (go_at_call 100; refine (half_any _ _ n (by assumption) (by assumption) (by omega)).mono ?_; rintro e w' ⟨rfl, rfl⟩))
  go_ret
  exact ⟨rfl, (Below.refl _ _).alloc (Nat.le_refl _) _⟩
theorem sum_30 (W : World) (rd r1 r2 imm a b pc : Int) (a0 : 0 ≤ a) (a1 : a < 4294967296) (b0 : 0 ≤ b) (b1 : b < 4294967296) (_i0 : 0 ≤ imm) (_i1 : imm < 4294967296) :
    Calls Tryz.prog 65 #[.agg #[.int .i64 30, .int .i64 rd, .int .i64 r1, .int .i64 r2, .int .u32 imm], .int .u32 a, .int .u32 b, .int .u32 pc] W fun e W' => e = .returned (.int .u32 (a * 2 ^ (b % 32).toNat % 4294967296)) ∧ Below W.heap.size W W' := by
  obtain ⟨n, hn⟩ : ∃ n : Nat, (n : Int) = b % 32 := ⟨(b % 32).toNat, by omega⟩
  have en : (b % 32).toNat = n := by omega
  have hn2 : b % 32 = (n : Int) := hn.symm
  have hn3 : (n : Int) < 32 := by omega
  rw [en]
  clear hn en
  go_enter Tryz.func65, Tryz.ntmps65
  go_wp2_with (first | (go_at_call 98; refine (signed_any _ _ (by assumption) (by assumption)).mono ?_; rintro e w' ⟨rfl, rfl⟩) | (go_at_call 40; refine (one_0 _ _).mono ?_; rintro e w' ⟨rfl, rfl⟩) | (go_at_call 100; refine (half_any _ _ n (by assumption) (by assumption) (by omega)).mono ?_; rintro e w' ⟨rfl, rfl⟩))
  go_ret
  exact ⟨rfl, (Below.refl _ _).alloc (Nat.le_refl _) _⟩
theorem sum_31 (W : World) (rd r1 r2 imm a b pc : Int) (a0 : 0 ≤ a) (a1 : a < 4294967296) (b0 : 0 ≤ b) (b1 : b < 4294967296) (_i0 : 0 ≤ imm) (_i1 : imm < 4294967296) :
    Calls Tryz.prog 65 #[.agg #[.int .i64 31, .int .i64 rd, .int .i64 r1, .int .i64 r2, .int .u32 imm], .int .u32 a, .int .u32 b, .int .u32 pc] W fun e W' => e = .returned (.int .u32 (oneV (decide (sgn a < sgn b)) 1)) ∧ Below W.heap.size W W' := by
  go_enter Tryz.func65, Tryz.ntmps65
  go_wp2_with (first | (go_at_call 98; refine (signed_any _ _ (by assumption) (by assumption)).mono ?_; rintro e w' ⟨rfl, rfl⟩) | (go_at_call 40; refine (one_0 _ _).mono ?_; rintro e w' ⟨rfl, rfl⟩) | (go_at_call 100; refine (half_any _ _ n (by assumption) (by assumption) (by omega)).mono ?_; rintro e w' ⟨rfl, rfl⟩))
  go_ret
  exact ⟨rfl, (Below.refl _ _).alloc (Nat.le_refl _) _⟩
theorem sum_32 (W : World) (rd r1 r2 imm a b pc : Int) (a0 : 0 ≤ a) (a1 : a < 4294967296) (b0 : 0 ≤ b) (b1 : b < 4294967296) (_i0 : 0 ≤ imm) (_i1 : imm < 4294967296) :
    Calls Tryz.prog 65 #[.agg #[.int .i64 32, .int .i64 rd, .int .i64 r1, .int .i64 r2, .int .u32 imm], .int .u32 a, .int .u32 b, .int .u32 pc] W fun e W' => e = .returned (.int .u32 (oneV (decide (a < b)) 1)) ∧ Below W.heap.size W W' := by
  go_enter Tryz.func65, Tryz.ntmps65
  go_wp2_with (first | (go_at_call 98; refine (signed_any _ _ (by assumption) (by assumption)).mono ?_; rintro e w' ⟨rfl, rfl⟩) | (go_at_call 40; refine (one_0 _ _).mono ?_; rintro e w' ⟨rfl, rfl⟩) | (go_at_call 100; refine (half_any _ _ n (by assumption) (by assumption) (by omega)).mono ?_; rintro e w' ⟨rfl, rfl⟩))
  go_ret
  exact ⟨rfl, (Below.refl _ _).alloc (Nat.le_refl _) _⟩
theorem sum_33 (W : World) (rd r1 r2 imm a b pc : Int) (a0 : 0 ≤ a) (a1 : a < 4294967296) (b0 : 0 ≤ b) (b1 : b < 4294967296) (_i0 : 0 ≤ imm) (_i1 : imm < 4294967296) :
    Calls Tryz.prog 65 #[.agg #[.int .i64 33, .int .i64 rd, .int .i64 r1, .int .i64 r2, .int .u32 imm], .int .u32 a, .int .u32 b, .int .u32 pc] W fun e W' => e = .returned (.int .u32 (bits .xor .u32 a b)) ∧ Below W.heap.size W W' := by
  go_enter Tryz.func65, Tryz.ntmps65
  go_wp2_with (first | (go_at_call 98; refine (signed_any _ _ (by assumption) (by assumption)).mono ?_; rintro e w' ⟨rfl, rfl⟩) | (go_at_call 40; refine (one_0 _ _).mono ?_; rintro e w' ⟨rfl, rfl⟩) | (go_at_call 100; refine (half_any _ _ n (by assumption) (by assumption) (by omega)).mono ?_; rintro e w' ⟨rfl, rfl⟩))
  go_ret
  exact ⟨rfl, (Below.refl _ _).alloc (Nat.le_refl _) _⟩
theorem sum_34 (W : World) (rd r1 r2 imm a b pc : Int) (a0 : 0 ≤ a) (a1 : a < 4294967296) (b0 : 0 ≤ b) (b1 : b < 4294967296) (_i0 : 0 ≤ imm) (_i1 : imm < 4294967296) :
    Calls Tryz.prog 65 #[.agg #[.int .i64 34, .int .i64 rd, .int .i64 r1, .int .i64 r2, .int .u32 imm], .int .u32 a, .int .u32 b, .int .u32 pc] W fun e W' => e = .returned (.int .u32 (a / 2 ^ (b % 32).toNat)) ∧ Below W.heap.size W W' := by
  obtain ⟨n, hn⟩ : ∃ n : Nat, (n : Int) = b % 32 := ⟨(b % 32).toNat, by omega⟩
  have en : (b % 32).toNat = n := by omega
  have hn2 : b % 32 = (n : Int) := hn.symm
  have hn3 : (n : Int) < 32 := by omega
  rw [en]
  clear hn en
  go_enter Tryz.func65, Tryz.ntmps65
  go_wp2_with (first | (go_at_call 98; refine (signed_any _ _ (by assumption) (by assumption)).mono ?_; rintro e w' ⟨rfl, rfl⟩) | (go_at_call 40; refine (one_0 _ _).mono ?_; rintro e w' ⟨rfl, rfl⟩) | (go_at_call 100; refine (half_any _ _ n (by assumption) (by assumption) (by omega)).mono ?_; rintro e w' ⟨rfl, rfl⟩))
  go_ret
  exact ⟨rfl, (Below.refl _ _).alloc (Nat.le_refl _) _⟩
theorem sum_35 (W : World) (rd r1 r2 imm a b pc : Int) (a0 : 0 ≤ a) (a1 : a < 4294967296) (b0 : 0 ≤ b) (b1 : b < 4294967296) (_i0 : 0 ≤ imm) (_i1 : imm < 4294967296) :
    Calls Tryz.prog 65 #[.agg #[.int .i64 35, .int .i64 rd, .int .i64 r1, .int .i64 r2, .int .u32 imm], .int .u32 a, .int .u32 b, .int .u32 pc] W fun e W' => e = .returned (.int .u32 ((sgn a / 2 ^ (b % 32).toNat) % 4294967296)) ∧ Below W.heap.size W W' := by
  obtain ⟨n, hn⟩ : ∃ n : Nat, (n : Int) = b % 32 := ⟨(b % 32).toNat, by omega⟩
  have en : (b % 32).toNat = n := by omega
  have hn2 : b % 32 = (n : Int) := hn.symm
  have hn3 : (n : Int) < 32 := by omega
  rw [en]
  clear hn en
  go_enter Tryz.func65, Tryz.ntmps65
  go_wp2_with (first | (go_at_call 98; refine (signed_any _ _ (by assumption) (by assumption)).mono ?_; rintro e w' ⟨rfl, rfl⟩) | (go_at_call 40; refine (one_0 _ _).mono ?_; rintro e w' ⟨rfl, rfl⟩) | (go_at_call 100; refine (half_any _ _ n (by assumption) (by assumption) (by omega)).mono ?_; rintro e w' ⟨rfl, rfl⟩))
  go_ret
  exact ⟨rfl, (Below.refl _ _).alloc (Nat.le_refl _) _⟩
theorem sum_36 (W : World) (rd r1 r2 imm a b pc : Int) (a0 : 0 ≤ a) (a1 : a < 4294967296) (b0 : 0 ≤ b) (b1 : b < 4294967296) (_i0 : 0 ≤ imm) (_i1 : imm < 4294967296) :
    Calls Tryz.prog 65 #[.agg #[.int .i64 36, .int .i64 rd, .int .i64 r1, .int .i64 r2, .int .u32 imm], .int .u32 a, .int .u32 b, .int .u32 pc] W fun e W' => e = .returned (.int .u32 (bits .or .u32 a b)) ∧ Below W.heap.size W W' := by
  go_enter Tryz.func65, Tryz.ntmps65
  go_wp2_with (first | (go_at_call 98; refine (signed_any _ _ (by assumption) (by assumption)).mono ?_; rintro e w' ⟨rfl, rfl⟩) | (go_at_call 40; refine (one_0 _ _).mono ?_; rintro e w' ⟨rfl, rfl⟩) | (go_at_call 100; refine (half_any _ _ n (by assumption) (by assumption) (by omega)).mono ?_; rintro e w' ⟨rfl, rfl⟩))
  go_ret
  exact ⟨rfl, (Below.refl _ _).alloc (Nat.le_refl _) _⟩
theorem sum_37 (W : World) (rd r1 r2 imm a b pc : Int) (a0 : 0 ≤ a) (a1 : a < 4294967296) (b0 : 0 ≤ b) (b1 : b < 4294967296) (_i0 : 0 ≤ imm) (_i1 : imm < 4294967296) :
    Calls Tryz.prog 65 #[.agg #[.int .i64 37, .int .i64 rd, .int .i64 r1, .int .i64 r2, .int .u32 imm], .int .u32 a, .int .u32 b, .int .u32 pc] W fun e W' => e = .returned (.int .u32 (bits .and .u32 a b)) ∧ Below W.heap.size W W' := by
  go_enter Tryz.func65, Tryz.ntmps65
  go_wp2_with (first | (go_at_call 98; refine (signed_any _ _ (by assumption) (by assumption)).mono ?_; rintro e w' ⟨rfl, rfl⟩) | (go_at_call 40; refine (one_0 _ _).mono ?_; rintro e w' ⟨rfl, rfl⟩) | (go_at_call 100; refine (half_any _ _ n (by assumption) (by assumption) (by omega)).mono ?_; rintro e w' ⟨rfl, rfl⟩))
  go_ret
  exact ⟨rfl, (Below.refl _ _).alloc (Nat.le_refl _) _⟩
theorem sum_38 (W : World) (rd r1 r2 imm a b pc : Int) (a0 : 0 ≤ a) (a1 : a < 4294967296) (b0 : 0 ≤ b) (b1 : b < 4294967296) (_i0 : 0 ≤ imm) (_i1 : imm < 4294967296) :
    Calls Tryz.prog 65 #[.agg #[.int .i64 38, .int .i64 rd, .int .i64 r1, .int .i64 r2, .int .u32 imm], .int .u32 a, .int .u32 b, .int .u32 pc] W fun e W' => e = .returned (.int .u32 (0)) ∧ Below W.heap.size W W' := by
  go_enter Tryz.func65, Tryz.ntmps65
  go_wp2_with (first | (go_at_call 98; refine (signed_any _ _ (by assumption) (by assumption)).mono ?_; rintro e w' ⟨rfl, rfl⟩) | (go_at_call 40; refine (one_0 _ _).mono ?_; rintro e w' ⟨rfl, rfl⟩) | (go_at_call 100; refine (half_any _ _ n (by assumption) (by assumption) (by omega)).mono ?_; rintro e w' ⟨rfl, rfl⟩))
  go_ret
  exact ⟨rfl, (Below.refl _ _).alloc (Nat.le_refl _) _⟩
theorem sum_any (W : World) (op rd r1 r2 imm a b pc : Int) (ho : op = 1 ∨ op = 2 ∨ (19 ≤ op ∧ op ≤ 38)) (a0 : 0 ≤ a) (a1 : a < 4294967296) (b0 : 0 ≤ b) (b1 : b < 4294967296) (i0 : 0 ≤ imm) (i1 : imm < 4294967296) :
    Calls Tryz.prog 65 #[.agg #[.int .i64 op, .int .i64 rd, .int .i64 r1, .int .i64 r2, .int .u32 imm], .int .u32 a, .int .u32 b, .int .u32 pc] W fun e W' => e = .returned (.int .u32 (sumV op a b imm pc)) ∧ Below W.heap.size W W' := by
  have : op = 1 ∨ op = 2 ∨ op = 19 ∨ op = 20 ∨ op = 21 ∨ op = 22 ∨ op = 23 ∨ op = 24 ∨ op = 25 ∨ op = 26 ∨ op = 27 ∨ op = 28 ∨ op = 29 ∨ op = 30 ∨ op = 31 ∨ op = 32 ∨ op = 33 ∨ op = 34 ∨ op = 35 ∨ op = 36 ∨ op = 37 ∨ op = 38 := by omega
  rcases this with rfl | rfl | rfl | rfl | rfl | rfl | rfl | rfl | rfl | rfl | rfl | rfl | rfl | rfl | rfl | rfl | rfl | rfl | rfl | rfl | rfl | rfl
  · have e : sumV 1 a b imm pc = imm := by simp [sumV]
    rw [e]
    exact sum_1 W rd r1 r2 imm a b pc a0 a1 b0 b1 i0 i1
  · have e : sumV 2 a b imm pc = (pc + imm) % 4294967296 := by simp [sumV]
    rw [e]
    exact sum_2 W rd r1 r2 imm a b pc a0 a1 b0 b1 i0 i1
  · have e : sumV 19 a b imm pc = (a + imm) % 4294967296 := by simp [sumV, aluV]
    rw [e]
    exact sum_19 W rd r1 r2 imm a b pc a0 a1 b0 b1 i0 i1
  · have e : sumV 20 a b imm pc = oneV (decide (sgn a < sgn imm)) 1 := by simp [sumV, aluV]
    rw [e]
    exact sum_20 W rd r1 r2 imm a b pc a0 a1 b0 b1 i0 i1
  · have e : sumV 21 a b imm pc = oneV (decide (a < imm)) 1 := by simp [sumV, aluV]
    rw [e]
    exact sum_21 W rd r1 r2 imm a b pc a0 a1 b0 b1 i0 i1
  · have e : sumV 22 a b imm pc = bits .xor .u32 a imm := by simp [sumV, aluV]
    rw [e]
    exact sum_22 W rd r1 r2 imm a b pc a0 a1 b0 b1 i0 i1
  · have e : sumV 23 a b imm pc = bits .or .u32 a imm := by simp [sumV, aluV]
    rw [e]
    exact sum_23 W rd r1 r2 imm a b pc a0 a1 b0 b1 i0 i1
  · have e : sumV 24 a b imm pc = bits .and .u32 a imm := by simp [sumV, aluV]
    rw [e]
    exact sum_24 W rd r1 r2 imm a b pc a0 a1 b0 b1 i0 i1
  · have e : sumV 25 a b imm pc = a * 2 ^ (imm % 32).toNat % 4294967296 := by simp [sumV, aluV]
    rw [e]
    exact sum_25 W rd r1 r2 imm a b pc a0 a1 b0 b1 i0 i1
  · have e : sumV 26 a b imm pc = a / 2 ^ (imm % 32).toNat := by simp [sumV, aluV]
    rw [e]
    exact sum_26 W rd r1 r2 imm a b pc a0 a1 b0 b1 i0 i1
  · have e : sumV 27 a b imm pc = (sgn a / 2 ^ (imm % 32).toNat) % 4294967296 := by simp [sumV, aluV]
    rw [e]
    exact sum_27 W rd r1 r2 imm a b pc a0 a1 b0 b1 i0 i1
  · have e : sumV 28 a b imm pc = (a + b) % 4294967296 := by simp [sumV, aluV]
    rw [e]
    exact sum_28 W rd r1 r2 imm a b pc a0 a1 b0 b1 i0 i1
  · have e : sumV 29 a b imm pc = (a - b) % 4294967296 := by simp [sumV, aluV]
    rw [e]
    exact sum_29 W rd r1 r2 imm a b pc a0 a1 b0 b1 i0 i1
  · have e : sumV 30 a b imm pc = a * 2 ^ (b % 32).toNat % 4294967296 := by simp [sumV, aluV]
    rw [e]
    exact sum_30 W rd r1 r2 imm a b pc a0 a1 b0 b1 i0 i1
  · have e : sumV 31 a b imm pc = oneV (decide (sgn a < sgn b)) 1 := by simp [sumV, aluV]
    rw [e]
    exact sum_31 W rd r1 r2 imm a b pc a0 a1 b0 b1 i0 i1
  · have e : sumV 32 a b imm pc = oneV (decide (a < b)) 1 := by simp [sumV, aluV]
    rw [e]
    exact sum_32 W rd r1 r2 imm a b pc a0 a1 b0 b1 i0 i1
  · have e : sumV 33 a b imm pc = bits .xor .u32 a b := by simp [sumV, aluV]
    rw [e]
    exact sum_33 W rd r1 r2 imm a b pc a0 a1 b0 b1 i0 i1
  · have e : sumV 34 a b imm pc = a / 2 ^ (b % 32).toNat := by simp [sumV, aluV]
    rw [e]
    exact sum_34 W rd r1 r2 imm a b pc a0 a1 b0 b1 i0 i1
  · have e : sumV 35 a b imm pc = (sgn a / 2 ^ (b % 32).toNat) % 4294967296 := by simp [sumV, aluV]
    rw [e]
    exact sum_35 W rd r1 r2 imm a b pc a0 a1 b0 b1 i0 i1
  · have e : sumV 36 a b imm pc = bits .or .u32 a b := by simp [sumV, aluV]
    rw [e]
    exact sum_36 W rd r1 r2 imm a b pc a0 a1 b0 b1 i0 i1
  · have e : sumV 37 a b imm pc = bits .and .u32 a b := by simp [sumV, aluV]
    rw [e]
    exact sum_37 W rd r1 r2 imm a b pc a0 a1 b0 b1 i0 i1
  · have e : sumV 38 a b imm pc = 0 := by simp [sumV, aluV]
    rw [e]
    exact sum_38 W rd r1 r2 imm a b pc a0 a1 b0 b1 i0 i1
end Go.Proofs.YteiideeechnekaaGreatDoor
