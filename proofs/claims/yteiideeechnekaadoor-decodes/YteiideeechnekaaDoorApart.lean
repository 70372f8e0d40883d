/-
  decode.system and decode.apart: one theorem an arm.
-/
import Derived.Test.YteiideeechnekaaDoorMid
namespace Go.Proofs.YteiideeechnekaaDoor
open Go.RowKit

theorem system_ecall (W : World) : Calls Tryd.prog 30 #[.int .u32 115] W fun e W' => e = .returned (.agg #[.int .i64 (39), .int .i64 (0), .int .i64 (0), .int .i64 (0), .int .u32 (0)]) ∧ Below W.heap.size W W' := by
  go_enter Tryd.func30, Tryd.ntmps30
  go_wp2
  exact bodyPost_ret (v := .agg #[.int .i64 (39), .int .i64 (0), .int .i64 (0), .int .i64 (0), .int .u32 (0)]) (by simp [results, Tryd.results30, go_sem]) rfl ⟨rfl, (Below.refl _ _).alloc (Nat.le_refl _) _⟩
theorem system_ebreak (W : World) : Calls Tryd.prog 30 #[.int .u32 1048691] W fun e W' => e = .returned (.agg #[.int .i64 (40), .int .i64 (0), .int .i64 (0), .int .i64 (0), .int .u32 (0)]) ∧ Below W.heap.size W W' := by
  go_enter Tryd.func30, Tryd.ntmps30
  go_wp2
  exact bodyPost_ret (v := .agg #[.int .i64 (40), .int .i64 (0), .int .i64 (0), .int .i64 (0), .int .u32 (0)]) (by simp [results, Tryd.results30, go_sem]) rfl ⟨rfl, (Below.refl _ _).alloc (Nat.le_refl _) _⟩
theorem system_sret (W : World) : Calls Tryd.prog 30 #[.int .u32 270532723] W fun e W' => e = .returned (.agg #[.int .i64 (42), .int .i64 (0), .int .i64 (0), .int .i64 (0), .int .u32 (0)]) ∧ Below W.heap.size W W' := by
  go_enter Tryd.func30, Tryd.ntmps30
  go_wp2
  exact bodyPost_ret (v := .agg #[.int .i64 (42), .int .i64 (0), .int .i64 (0), .int .i64 (0), .int .u32 (0)]) (by simp [results, Tryd.results30, go_sem]) rfl ⟨rfl, (Below.refl _ _).alloc (Nat.le_refl _) _⟩
theorem system_wfi (W : World) : Calls Tryd.prog 30 #[.int .u32 273678451] W fun e W' => e = .returned (.agg #[.int .i64 (43), .int .i64 (0), .int .i64 (0), .int .i64 (0), .int .u32 (0)]) ∧ Below W.heap.size W W' := by
  go_enter Tryd.func30, Tryd.ntmps30
  go_wp2
  exact bodyPost_ret (v := .agg #[.int .i64 (43), .int .i64 (0), .int .i64 (0), .int .i64 (0), .int .u32 (0)]) (by simp [results, Tryd.results30, go_sem]) rfl ⟨rfl, (Below.refl _ _).alloc (Nat.le_refl _) _⟩
theorem system_mret (W : World) : Calls Tryd.prog 30 #[.int .u32 807403635] W fun e W' => e = .returned (.agg #[.int .i64 (41), .int .i64 (0), .int .i64 (0), .int .i64 (0), .int .u32 (0)]) ∧ Below W.heap.size W W' := by
  go_enter Tryd.func30, Tryd.ntmps30
  go_wp2
  exact bodyPost_ret (v := .agg #[.int .i64 (41), .int .i64 (0), .int .i64 (0), .int .i64 (0), .int .u32 (0)]) (by simp [results, Tryd.results30, go_sem]) rfl ⟨rfl, (Below.refl _ _).alloc (Nat.le_refl _) _⟩
theorem system_other (w x : Int) (f : Nat) (W : World) (h0 : 0 ≤ w) (h1 : w < 4294967296) (hz : 11 ≤ W.heap.size) (hf : bits .and .u32 (w / 4096) 7 = (f : Int)) (hf8 : (f : Int) < 8) (hx : W.cell? ⟨10, f, none⟩ = some (.int .i64 x))
    (e1 : (w == 115) = false) (e2 : (w == 1048691) = false) (e3 : (w == 270532723) = false) (e4 : (w == 273678451) = false) (e5 : (w == 807403635) = false) :
    Calls Tryd.prog 30 #[.int .u32 w] W fun e W' => e = .returned (.agg #[.int .i64 (x), .int .i64 (w / 128 % 32), .int .i64 (w / 32768 % 32), .int .i64 (0), .int .u32 (w / 1048576)]) ∧ Below W.heap.size W W' := by
  have hx1 := old_cell hx (by simp; omega)
  go_enter Tryd.func30, Tryd.ntmps30
  go_wp2_with fail
  go_region_held3 (fun w' => w'.cell? ⟨10, f, none⟩ = some (.int .i64 x)) (go_keep) (first | (go_at_call 21; refine (rd_any _ _ h0 h1).mono ?_; rintro e w' ⟨rfl, rfl⟩) | (go_at_call 24; refine (rs1_any _ _ h0 h1).mono ?_; rintro e w' ⟨rfl, rfl⟩) | (go_at_call 19; refine (bits_31_20 _ _ h0 h1).mono ?_; rintro e w' ⟨rfl, rfl⟩))
  all_goals go_wp2
  exact bodyPost_ret (v := .agg #[.int .i64 (x), .int .i64 (w / 128 % 32), .int .i64 (w / 32768 % 32), .int .i64 (0), .int .u32 (w / 1048576)]) (by simp [results, Tryd.results30, go_sem]) rfl ⟨rfl, ((Below.refl _ _).alloc (Nat.le_refl _) _).drew⟩
theorem apart_lui (w : Int) (W : World) (h0 : 0 ≤ w) (h1 : w < 4294967296) (hk : w % 128 = 55) :
    Calls Tryd.prog 13 #[.int .u32 w] W fun e W' => e = .returned (.agg #[.int .i64 (1), .int .i64 (w / 128 % 32), .int .i64 (0), .int .i64 (0), .int .u32 (w / 4096 * 4096)]) ∧ Below W.heap.size W W' := by
  go_enter Tryd.func13, Tryd.ntmps13
  go_wp2_with (first | (go_at_call 19; refine (bits_6_0 _ _ h0 h1).mono ?_; rintro e w' ⟨rfl, rfl⟩) | (go_at_call 20; refine (withImmU_any _ _ _ h0 h1).mono ?_; rintro e w' ⟨rfl, hb⟩; obtain ⟨hc, hfz⟩ := bcell hb))
  exact bodyPost_ret (v := .agg #[.int .i64 (1), .int .i64 (w / 128 % 32), .int .i64 (0), .int .i64 (0), .int .u32 (w / 4096 * 4096)]) (by simp [results, Tryd.results13, go_sem, hc]) rfl ⟨rfl, below5 (((Below.refl _ _).alloc (Nat.le_refl _) _).trans (hb.mono (by simp))) (Nat.le_refl _) _ _ _ _ _⟩
theorem apart_auipc (w : Int) (W : World) (h0 : 0 ≤ w) (h1 : w < 4294967296) (hk : w % 128 = 23) :
    Calls Tryd.prog 13 #[.int .u32 w] W fun e W' => e = .returned (.agg #[.int .i64 (2), .int .i64 (w / 128 % 32), .int .i64 (0), .int .i64 (0), .int .u32 (w / 4096 * 4096)]) ∧ Below W.heap.size W W' := by
  go_enter Tryd.func13, Tryd.ntmps13
  go_wp2_with (first | (go_at_call 19; refine (bits_6_0 _ _ h0 h1).mono ?_; rintro e w' ⟨rfl, rfl⟩) | (go_at_call 20; refine (withImmU_any _ _ _ h0 h1).mono ?_; rintro e w' ⟨rfl, hb⟩; obtain ⟨hc, hfz⟩ := bcell hb))
  exact bodyPost_ret (v := .agg #[.int .i64 (2), .int .i64 (w / 128 % 32), .int .i64 (0), .int .i64 (0), .int .u32 (w / 4096 * 4096)]) (by simp [results, Tryd.results13, go_sem, hc]) rfl ⟨rfl, below5 (((Below.refl _ _).alloc (Nat.le_refl _) _).trans (hb.mono (by simp))) (Nat.le_refl _) _ _ _ _ _⟩
theorem apart_jal (w : Int) (W : World) (h0 : 0 ≤ w) (h1 : w < 4294967296) (hk : w % 128 = 111) :
    Calls Tryd.prog 13 #[.int .u32 w] W fun e W' => e = .returned (.agg #[.int .i64 (3), .int .i64 (w / 128 % 32), .int .i64 (0), .int .i64 (0), .int .u32 (w / 2147483648 * 4293918720 + w / 4096 % 256 * 4096 + w / 1048576 % 2 * 2048 + w / 2097152 % 1024 * 2)]) ∧ Below W.heap.size W W' := by
  go_enter Tryd.func13, Tryd.ntmps13
  go_wp2_with (first | (go_at_call 19; refine (bits_6_0 _ _ h0 h1).mono ?_; rintro e w' ⟨rfl, rfl⟩) | (go_at_call 21; refine (rd_any _ _ h0 h1).mono ?_; rintro e w' ⟨rfl, rfl⟩) | (go_at_call 22; refine (immJ_any _ _ h0 h1).mono ?_; rintro e w' ⟨rfl, rfl⟩))
  exact bodyPost_ret (v := .agg #[.int .i64 (3), .int .i64 (w / 128 % 32), .int .i64 (0), .int .i64 (0), .int .u32 (w / 2147483648 * 4293918720 + w / 4096 % 256 * 4096 + w / 1048576 % 2 * 2048 + w / 2097152 % 1024 * 2)]) (by simp [results, Tryd.results13, go_sem]) rfl ⟨rfl, (Below.refl _ _).alloc (Nat.le_refl _) _⟩
theorem apart_jalr (w x : Int) (f : Nat) (W : World) (h0 : 0 ≤ w) (h1 : w < 4294967296) (hz : 11 ≤ W.heap.size) (hf : bits .and .u32 (w / 4096) 7 = (f : Int)) (hf8 : (f : Int) < 8) (hx : W.cell? ⟨0, f, none⟩ = some (.int .i64 x)) (hk : w % 128 = 103) :
    Calls Tryd.prog 13 #[.int .u32 w] W fun e W' => e = .returned (.agg #[.int .i64 (x), .int .i64 (w / 128 % 32), .int .i64 (w / 32768 % 32), .int .i64 (0), .int .u32 (w / 2147483648 * 4294963200 + w / 1048576)]) ∧ Below W.heap.size W W' := by
  have hx1 := old_cell hx (by simp; omega)
  go_enter Tryd.func13, Tryd.ntmps13
  go_wp2_with (first | (go_at_call 19; refine (bits_6_0 _ _ h0 h1).mono ?_; rintro e w' ⟨rfl, rfl⟩) | (go_at_call 23; refine (withImmI_any _ _ _ h0 h1).mono ?_; rintro e w' ⟨rfl, hb⟩; obtain ⟨hc, hfz⟩ := bcell hb))
  exact bodyPost_ret (v := .agg #[.int .i64 (x), .int .i64 (w / 128 % 32), .int .i64 (w / 32768 % 32), .int .i64 (0), .int .u32 (w / 2147483648 * 4294963200 + w / 1048576)]) (by simp [results, Tryd.results13, go_sem, hc]) rfl ⟨rfl, below5 (((Below.refl _ _).alloc (Nat.le_refl _) _).trans (hb.mono (by simp))) (Nat.le_refl _) _ _ _ _ _⟩
theorem apart_load (w x : Int) (f : Nat) (W : World) (h0 : 0 ≤ w) (h1 : w < 4294967296) (hz : 11 ≤ W.heap.size) (hf : bits .and .u32 (w / 4096) 7 = (f : Int)) (hf8 : (f : Int) < 8) (hx : W.cell? ⟨2, f, none⟩ = some (.int .i64 x)) (hk : w % 128 = 3) :
    Calls Tryd.prog 13 #[.int .u32 w] W fun e W' => e = .returned (.agg #[.int .i64 (x), .int .i64 (w / 128 % 32), .int .i64 (w / 32768 % 32), .int .i64 (0), .int .u32 (w / 2147483648 * 4294963200 + w / 1048576)]) ∧ Below W.heap.size W W' := by
  have hx1 := old_cell hx (by simp; omega)
  go_enter Tryd.func13, Tryd.ntmps13
  go_wp2_with (first | (go_at_call 19; refine (bits_6_0 _ _ h0 h1).mono ?_; rintro e w' ⟨rfl, rfl⟩) | (go_at_call 23; refine (withImmI_any _ _ _ h0 h1).mono ?_; rintro e w' ⟨rfl, hb⟩; obtain ⟨hc, hfz⟩ := bcell hb))
  exact bodyPost_ret (v := .agg #[.int .i64 (x), .int .i64 (w / 128 % 32), .int .i64 (w / 32768 % 32), .int .i64 (0), .int .u32 (w / 2147483648 * 4294963200 + w / 1048576)]) (by simp [results, Tryd.results13, go_sem, hc]) rfl ⟨rfl, below5 (((Below.refl _ _).alloc (Nat.le_refl _) _).trans (hb.mono (by simp))) (Nat.le_refl _) _ _ _ _ _⟩
theorem apart_branch (w x : Int) (f : Nat) (W : World) (h0 : 0 ≤ w) (h1 : w < 4294967296) (hz : 11 ≤ W.heap.size) (hf : bits .and .u32 (w / 4096) 7 = (f : Int)) (hf8 : (f : Int) < 8) (hx : W.cell? ⟨1, f, none⟩ = some (.int .i64 x)) (hk : w % 128 = 99) :
    Calls Tryd.prog 13 #[.int .u32 w] W fun e W' => e = .returned (.agg #[.int .i64 (x), .int .i64 (0), .int .i64 (w / 32768 % 32), .int .i64 (w / 1048576 % 32), .int .u32 (w / 2147483648 * 4294963200 + w / 128 % 2 * 2048 + w / 33554432 % 64 * 32 + w / 256 % 16 * 2)]) ∧ Below W.heap.size W W' := by
  have hx1 := old_cell hx (by simp; omega)
  go_enter Tryd.func13, Tryd.ntmps13
  go_wp2_with (go_at_call 19; refine (bits_6_0 _ _ h0 h1).mono ?_; rintro e w' ⟨rfl, rfl⟩)
  go_region_held3 (fun w' => w'.cell? ⟨1, f, none⟩ = some (.int .i64 x)) (go_keep) (first | (go_at_call 24; refine (rs1_any _ _ h0 h1).mono ?_; rintro e w' ⟨rfl, rfl⟩) | (go_at_call 25; refine (rs2_any _ _ h0 h1).mono ?_; rintro e w' ⟨rfl, rfl⟩) | (go_at_call 26; refine (immB_any _ _ h0 h1).mono ?_; rintro e w' ⟨rfl, rfl⟩))
  all_goals go_wp2
  exact bodyPost_ret (v := .agg #[.int .i64 (x), .int .i64 (0), .int .i64 (w / 32768 % 32), .int .i64 (w / 1048576 % 32), .int .u32 (w / 2147483648 * 4294963200 + w / 128 % 2 * 2048 + w / 33554432 % 64 * 32 + w / 256 % 16 * 2)]) (by simp [results, Tryd.results13, go_sem]) rfl ⟨rfl, ((Below.refl _ _).alloc (Nat.le_refl _) _).drew⟩
theorem apart_store (w x : Int) (f : Nat) (W : World) (h0 : 0 ≤ w) (h1 : w < 4294967296) (hz : 11 ≤ W.heap.size) (hf : bits .and .u32 (w / 4096) 7 = (f : Int)) (hf8 : (f : Int) < 8) (hx : W.cell? ⟨3, f, none⟩ = some (.int .i64 x)) (hk : w % 128 = 35) :
    Calls Tryd.prog 13 #[.int .u32 w] W fun e W' => e = .returned (.agg #[.int .i64 (x), .int .i64 (0), .int .i64 (w / 32768 % 32), .int .i64 (w / 1048576 % 32), .int .u32 (w / 2147483648 * 4294963200 + w / 33554432 * 32 + w / 128 % 32)]) ∧ Below W.heap.size W W' := by
  have hx1 := old_cell hx (by simp; omega)
  go_enter Tryd.func13, Tryd.ntmps13
  go_wp2_with (go_at_call 19; refine (bits_6_0 _ _ h0 h1).mono ?_; rintro e w' ⟨rfl, rfl⟩)
  go_region_held3 (fun w' => w'.cell? ⟨3, f, none⟩ = some (.int .i64 x)) (go_keep) (first | (go_at_call 24; refine (rs1_any _ _ h0 h1).mono ?_; rintro e w' ⟨rfl, rfl⟩) | (go_at_call 25; refine (rs2_any _ _ h0 h1).mono ?_; rintro e w' ⟨rfl, rfl⟩) | (go_at_call 27; refine (immS_any _ _ h0 h1).mono ?_; rintro e w' ⟨rfl, rfl⟩))
  all_goals go_wp2
  exact bodyPost_ret (v := .agg #[.int .i64 (x), .int .i64 (0), .int .i64 (w / 32768 % 32), .int .i64 (w / 1048576 % 32), .int .u32 (w / 2147483648 * 4294963200 + w / 33554432 * 32 + w / 128 % 32)]) (by simp [results, Tryd.results13, go_sem]) rfl ⟨rfl, ((Below.refl _ _).alloc (Nat.le_refl _) _).drew⟩
theorem apart_imm_yes (w x : Int) (f : Nat) (W : World) (h0 : 0 ≤ w) (h1 : w < 4294967296) (hz : 11 ≤ W.heap.size) (hf : bits .and .u32 (w / 4096) 7 = (f : Int)) (hf8 : (f : Int) < 8) (hx : W.cell? ⟨5, f, none⟩ = some (.int .i64 x)) (hx0 : (x == 0) = false) (hk : w % 128 = 19) :
    Calls Tryd.prog 13 #[.int .u32 w] W fun e W' => e = .returned (.agg #[.int .i64 (x), .int .i64 (w / 128 % 32), .int .i64 (w / 32768 % 32), .int .i64 (0), .int .u32 (w / 2147483648 * 4294963200 + w / 1048576)]) ∧ Below W.heap.size W W' := by
  have hx1 := old_cell hx (by simp; omega)
  go_enter Tryd.func13, Tryd.ntmps13
  go_wp2_with (first | (go_at_call 19; refine (bits_6_0 _ _ h0 h1).mono ?_; rintro e w' ⟨rfl, rfl⟩) | (go_at_call 28; refine (onImmediate_yes w x f _ h0 h1 (by simp; omega) hf hf8 (hx1 _) hx0).mono ?_; rintro e w' ⟨rfl, hb⟩; obtain ⟨hc, hfz⟩ := bcell hb))
  exact bodyPost_ret (v := .agg #[.int .i64 (x), .int .i64 (w / 128 % 32), .int .i64 (w / 32768 % 32), .int .i64 (0), .int .u32 (w / 2147483648 * 4294963200 + w / 1048576)]) (by simp [results, Tryd.results13, go_sem, hc]) rfl ⟨rfl, below5 (((Below.refl _ _).alloc (Nat.le_refl _) _).trans (hb.mono (by simp))) (Nat.le_refl _) _ _ _ _ _⟩
theorem apart_imm_no (w x y : Int) (f : Nat) (W : World) (h0 : 0 ≤ w) (h1 : w < 4294967296) (hz : 11 ≤ W.heap.size) (hf : bits .and .u32 (w / 4096) 7 = (f : Int)) (hf8 : (f : Int) < 8) (hi : W.cell? ⟨5, f, none⟩ = some (.int .i64 0)) (hx : W.cell? ⟨6, f, none⟩ = some (.int .i64 x)) (hy : W.cell? ⟨7, f, none⟩ = some (.int .i64 y)) (hk : w % 128 = 19) :
    Calls Tryd.prog 13 #[.int .u32 w] W fun e W' => e = .returned (.agg #[.int .i64 (pick7 w x y), .int .i64 (w / 128 % 32), .int .i64 (w / 32768 % 32), .int .i64 (0), .int .u32 (w / 1048576 % 32)]) ∧ Below W.heap.size W W' := by
  have hi1 := old_cell hi (by simp; omega)
  have hx1 := old_cell hx (by simp; omega)
  have hy1 := old_cell hy (by simp; omega)
  go_enter Tryd.func13, Tryd.ntmps13
  go_wp2_with (first | (go_at_call 19; refine (bits_6_0 _ _ h0 h1).mono ?_; rintro e w' ⟨rfl, rfl⟩) | (go_at_call 28; refine (onImmediate_no w x y f _ h0 h1 (by simp; omega) hf hf8 (hi1 _) (hx1 _) (hy1 _)).mono ?_; rintro e w' ⟨rfl, hb⟩; obtain ⟨hc, hfz⟩ := bcell hb))
  exact bodyPost_ret (v := .agg #[.int .i64 (pick7 w x y), .int .i64 (w / 128 % 32), .int .i64 (w / 32768 % 32), .int .i64 (0), .int .u32 (w / 1048576 % 32)]) (by simp [results, Tryd.results13, go_sem, hc]) rfl ⟨rfl, below5 (((Below.refl _ _).alloc (Nat.le_refl _) _).trans (hb.mono (by simp))) (Nat.le_refl _) _ _ _ _ _⟩
theorem apart_reg (w x y : Int) (f : Nat) (W : World) (h0 : 0 ≤ w) (h1 : w < 4294967296) (hz : 11 ≤ W.heap.size) (hf : bits .and .u32 (w / 4096) 7 = (f : Int)) (hf8 : (f : Int) < 8) (hx : W.cell? ⟨8, f, none⟩ = some (.int .i64 x)) (hy : W.cell? ⟨9, f, none⟩ = some (.int .i64 y)) (hk : w % 128 = 51) :
    Calls Tryd.prog 13 #[.int .u32 w] W fun e W' => e = .returned (.agg #[.int .i64 (pick7 w x y), .int .i64 (w / 128 % 32), .int .i64 (w / 32768 % 32), .int .i64 (w / 1048576 % 32), .int .u32 (0)]) ∧ Below W.heap.size W W' := by
  have hx1 := old_cell hx (by simp; omega)
  have hy1 := old_cell hy (by simp; omega)
  go_enter Tryd.func13, Tryd.ntmps13
  go_wp2_with (first | (go_at_call 19; refine (bits_6_0 _ _ h0 h1).mono ?_; rintro e w' ⟨rfl, rfl⟩) | (go_at_call 29; refine (onRegisters_any w x y f _ h0 h1 (by simp; omega) hf hf8 (hx1 _) (hy1 _)).mono ?_; rintro e w' ⟨rfl, hb⟩; obtain ⟨hc, hfz⟩ := bcell hb))
  exact bodyPost_ret (v := .agg #[.int .i64 (pick7 w x y), .int .i64 (w / 128 % 32), .int .i64 (w / 32768 % 32), .int .i64 (w / 1048576 % 32), .int .u32 (0)]) (by simp [results, Tryd.results13, go_sem, hc]) rfl ⟨rfl, below5 (((Below.refl _ _).alloc (Nat.le_refl _) _).trans (hb.mono (by simp))) (Nat.le_refl _) _ _ _ _ _⟩
theorem apart_fence (w x : Int) (f : Nat) (W : World) (h0 : 0 ≤ w) (h1 : w < 4294967296) (hz : 11 ≤ W.heap.size) (hf : bits .and .u32 (w / 4096) 7 = (f : Int)) (hf8 : (f : Int) < 8) (hx : W.cell? ⟨4, f, none⟩ = some (.int .i64 x)) (hk : w % 128 = 15) :
    Calls Tryd.prog 13 #[.int .u32 w] W fun e W' => e = .returned (.agg #[.int .i64 (x), .int .i64 (0), .int .i64 (0), .int .i64 (0), .int .u32 (0)]) ∧ Below W.heap.size W W' := by
  have hx1 := old_cell hx (by simp; omega)
  go_enter Tryd.func13, Tryd.ntmps13
  go_wp2_with (go_at_call 19; refine (bits_6_0 _ _ h0 h1).mono ?_; rintro e w' ⟨rfl, rfl⟩)
  exact bodyPost_ret (v := .agg #[.int .i64 (x), .int .i64 (0), .int .i64 (0), .int .i64 (0), .int .u32 (0)]) (by simp [results, Tryd.results13, go_sem]) rfl ⟨rfl, (Below.refl _ _).alloc (Nat.le_refl _) _⟩
theorem apart_ecall (W : World) : Calls Tryd.prog 13 #[.int .u32 115] W fun e W' => e = .returned (.agg #[.int .i64 (39), .int .i64 (0), .int .i64 (0), .int .i64 (0), .int .u32 (0)]) ∧ Below W.heap.size W W' := by
  go_enter Tryd.func13, Tryd.ntmps13
  go_wp2_with (first | (go_at_call 19; refine (bits_6_0 115 _ (by decide) (by decide)).mono ?_; rintro e w' ⟨rfl, rfl⟩) | (go_at_call 30; refine (system_ecall _).mono ?_; rintro e w' ⟨rfl, hb⟩; obtain ⟨hc, hfz⟩ := bcell hb))
  exact bodyPost_ret (v := .agg #[.int .i64 (39), .int .i64 (0), .int .i64 (0), .int .i64 (0), .int .u32 (0)]) (by simp [results, Tryd.results13, go_sem, hc]) rfl ⟨rfl, below5 (((Below.refl _ _).alloc (Nat.le_refl _) _).trans (hb.mono (by simp))) (Nat.le_refl _) _ _ _ _ _⟩
theorem apart_ebreak (W : World) : Calls Tryd.prog 13 #[.int .u32 1048691] W fun e W' => e = .returned (.agg #[.int .i64 (40), .int .i64 (0), .int .i64 (0), .int .i64 (0), .int .u32 (0)]) ∧ Below W.heap.size W W' := by
  go_enter Tryd.func13, Tryd.ntmps13
  go_wp2_with (first | (go_at_call 19; refine (bits_6_0 1048691 _ (by decide) (by decide)).mono ?_; rintro e w' ⟨rfl, rfl⟩) | (go_at_call 30; refine (system_ebreak _).mono ?_; rintro e w' ⟨rfl, hb⟩; obtain ⟨hc, hfz⟩ := bcell hb))
  exact bodyPost_ret (v := .agg #[.int .i64 (40), .int .i64 (0), .int .i64 (0), .int .i64 (0), .int .u32 (0)]) (by simp [results, Tryd.results13, go_sem, hc]) rfl ⟨rfl, below5 (((Below.refl _ _).alloc (Nat.le_refl _) _).trans (hb.mono (by simp))) (Nat.le_refl _) _ _ _ _ _⟩
theorem apart_sret (W : World) : Calls Tryd.prog 13 #[.int .u32 270532723] W fun e W' => e = .returned (.agg #[.int .i64 (42), .int .i64 (0), .int .i64 (0), .int .i64 (0), .int .u32 (0)]) ∧ Below W.heap.size W W' := by
  go_enter Tryd.func13, Tryd.ntmps13
  go_wp2_with (first | (go_at_call 19; refine (bits_6_0 270532723 _ (by decide) (by decide)).mono ?_; rintro e w' ⟨rfl, rfl⟩) | (go_at_call 30; refine (system_sret _).mono ?_; rintro e w' ⟨rfl, hb⟩; obtain ⟨hc, hfz⟩ := bcell hb))
  exact bodyPost_ret (v := .agg #[.int .i64 (42), .int .i64 (0), .int .i64 (0), .int .i64 (0), .int .u32 (0)]) (by simp [results, Tryd.results13, go_sem, hc]) rfl ⟨rfl, below5 (((Below.refl _ _).alloc (Nat.le_refl _) _).trans (hb.mono (by simp))) (Nat.le_refl _) _ _ _ _ _⟩
theorem apart_wfi (W : World) : Calls Tryd.prog 13 #[.int .u32 273678451] W fun e W' => e = .returned (.agg #[.int .i64 (43), .int .i64 (0), .int .i64 (0), .int .i64 (0), .int .u32 (0)]) ∧ Below W.heap.size W W' := by
  go_enter Tryd.func13, Tryd.ntmps13
  go_wp2_with (first | (go_at_call 19; refine (bits_6_0 273678451 _ (by decide) (by decide)).mono ?_; rintro e w' ⟨rfl, rfl⟩) | (go_at_call 30; refine (system_wfi _).mono ?_; rintro e w' ⟨rfl, hb⟩; obtain ⟨hc, hfz⟩ := bcell hb))
  exact bodyPost_ret (v := .agg #[.int .i64 (43), .int .i64 (0), .int .i64 (0), .int .i64 (0), .int .u32 (0)]) (by simp [results, Tryd.results13, go_sem, hc]) rfl ⟨rfl, below5 (((Below.refl _ _).alloc (Nat.le_refl _) _).trans (hb.mono (by simp))) (Nat.le_refl _) _ _ _ _ _⟩
theorem apart_mret (W : World) : Calls Tryd.prog 13 #[.int .u32 807403635] W fun e W' => e = .returned (.agg #[.int .i64 (41), .int .i64 (0), .int .i64 (0), .int .i64 (0), .int .u32 (0)]) ∧ Below W.heap.size W W' := by
  go_enter Tryd.func13, Tryd.ntmps13
  go_wp2_with (first | (go_at_call 19; refine (bits_6_0 807403635 _ (by decide) (by decide)).mono ?_; rintro e w' ⟨rfl, rfl⟩) | (go_at_call 30; refine (system_mret _).mono ?_; rintro e w' ⟨rfl, hb⟩; obtain ⟨hc, hfz⟩ := bcell hb))
  exact bodyPost_ret (v := .agg #[.int .i64 (41), .int .i64 (0), .int .i64 (0), .int .i64 (0), .int .u32 (0)]) (by simp [results, Tryd.results13, go_sem, hc]) rfl ⟨rfl, below5 (((Below.refl _ _).alloc (Nat.le_refl _) _).trans (hb.mono (by simp))) (Nat.le_refl _) _ _ _ _ _⟩
theorem apart_csr (w x : Int) (f : Nat) (W : World) (h0 : 0 ≤ w) (h1 : w < 4294967296) (hz : 11 ≤ W.heap.size) (hf : bits .and .u32 (w / 4096) 7 = (f : Int)) (hf8 : (f : Int) < 8) (hx : W.cell? ⟨10, f, none⟩ = some (.int .i64 x)) (e1 : (w == 115) = false) (e2 : (w == 1048691) = false) (e3 : (w == 270532723) = false) (e4 : (w == 273678451) = false) (e5 : (w == 807403635) = false) (hk : w % 128 = 115) :
    Calls Tryd.prog 13 #[.int .u32 w] W fun e W' => e = .returned (.agg #[.int .i64 (x), .int .i64 (w / 128 % 32), .int .i64 (w / 32768 % 32), .int .i64 (0), .int .u32 (w / 1048576)]) ∧ Below W.heap.size W W' := by
  have hx1 := old_cell hx (by simp; omega)
  go_enter Tryd.func13, Tryd.ntmps13
  go_wp2_with (first | (go_at_call 19; refine (bits_6_0 _ _ h0 h1).mono ?_; rintro e w' ⟨rfl, rfl⟩) | (go_at_call 30; refine (system_other w x f _ h0 h1 (by simp; omega) hf hf8 (hx1 _) e1 e2 e3 e4 e5).mono ?_; rintro e w' ⟨rfl, hb⟩; obtain ⟨hc, hfz⟩ := bcell hb))
  exact bodyPost_ret (v := .agg #[.int .i64 (x), .int .i64 (w / 128 % 32), .int .i64 (w / 32768 % 32), .int .i64 (0), .int .u32 (w / 1048576)]) (by simp [results, Tryd.results13, go_sem, hc]) rfl ⟨rfl, below5 (((Below.refl _ _).alloc (Nat.le_refl _) _).trans (hb.mono (by simp))) (Nat.le_refl _) _ _ _ _ _⟩
theorem apart_none (w : Int) (W : World) (h0 : 0 ≤ w) (h1 : w < 4294967296) (k55 : (w % 128 == 55) = false) (k23 : (w % 128 == 23) = false) (k111 : (w % 128 == 111) = false) (k103 : (w % 128 == 103) = false) (k99 : (w % 128 == 99) = false) (k3 : (w % 128 == 3) = false) (k35 : (w % 128 == 35) = false) (k19 : (w % 128 == 19) = false) (k51 : (w % 128 == 51) = false) (k15 : (w % 128 == 15) = false) (k115 : (w % 128 == 115) = false) :
    Calls Tryd.prog 13 #[.int .u32 w] W fun e W' => e = .returned (.agg #[.int .i64 (0), .int .i64 (0), .int .i64 (0), .int .i64 (0), .int .u32 (0)]) ∧ Below W.heap.size W W' := by
  go_enter Tryd.func13, Tryd.ntmps13
  go_wp2_with (go_at_call 19; refine (bits_6_0 _ _ h0 h1).mono ?_; rintro e w' ⟨rfl, rfl⟩)
  exact bodyPost_ret (v := .agg #[.int .i64 (0), .int .i64 (0), .int .i64 (0), .int .i64 (0), .int .u32 (0)]) (by simp [results, Tryd.results13, go_sem]) rfl ⟨rfl, (Below.refl _ _).alloc (Nat.le_refl _) _⟩
end Go.Proofs.YteiideeechnekaaDoor
