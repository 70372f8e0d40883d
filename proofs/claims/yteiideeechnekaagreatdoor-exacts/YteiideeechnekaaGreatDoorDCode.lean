import Derived.Test.YteiideeechnekaaGreatDoorDLeaf
import Derived.Deep.RegionHeld3
namespace Go.Proofs.YteiideeechnekaaGreatDoor.D
open Go.RowKit

theorem old_cell {W : World} {a : Addr} {v : Value} (h : W.cell? a = some v) (hb : a.block < W.heap.size) (o : Obj) : (W.alloc o).cell? a = some v := by
  rw [Below.cell ((Below.refl W.heap.size W).alloc (Nat.le_refl _) o) hb]; exact h

theorem bcell {W w1 : World} (hb : Below W.heap.size W w1) : (∀ b o, b < W.heap.size → w1.cell? ⟨b, o, none⟩ = W.cell? ⟨b, o, none⟩) ∧ (∀ b o, b < W.heap.size → w1.frozen? ⟨b, o, none⟩ = W.frozen? ⟨b, o, none⟩) :=
  ⟨fun b o h => hb.cell (p := ⟨b, o, none⟩) h, fun b o h => hb.frozen (p := ⟨b, o, none⟩) h⟩

theorem below_drawn {B : Nat} {a w : World} (h : Below B a w) (n : Nat) : Below B a (w.drewN n) := h.trans ⟨rfl, rfl, rfl, Nat.le_refl _, fun _ _ => rfl⟩
theorem below5 {B : Nat} {a w : World} (h : Below B a w) {p : Nat} (hp : B ≤ p) (v0 v1 v2 v3 v4 : Value) :
    Below B a (((((w.setCell ⟨p, 0, none⟩ v0).setCell ⟨p, 1, none⟩ v1).setCell ⟨p, 2, none⟩ v2).setCell ⟨p, 3, none⟩ v3).setCell ⟨p, 4, none⟩ v4) :=
  ((((h.setCell hp v0).setCell hp v1).setCell hp v2).setCell hp v3).setCell hp v4

theorem withImmU_any (op w : Int) (W : World) (h0 : 0 ≤ w) (h1 : w < 4294967296) :
    Calls Tryz.prog 134 #[.int .i64 op, .int .u32 w] W fun e W' => e = .returned (.agg #[.int .i64 op, .int .i64 (w / 128 % 32), .int .i64 0, .int .i64 0, .int .u32 (w / 4096 * 4096)]) ∧ Below W.heap.size W W' := by
  go_enter Tryz.func134, Tryz.ntmps134
  go_wp2_with (first | (go_at_call 135; refine (rd_any _ _ h0 h1).mono ?_; rintro e w' ⟨rfl, rfl⟩) | (go_at_call 157; refine (immU_any _ _ h0 h1).mono ?_; rintro e w' ⟨rfl, rfl⟩))
  exact bodyPost_ret (v := .agg #[.int .i64 op, .int .i64 (w / 128 % 32), .int .i64 0, .int .i64 0, .int .u32 (w / 4096 * 4096)]) (by simp [results, Tryz.results134, go_sem]) rfl ⟨rfl, (Below.refl _ _).alloc (Nat.le_refl _) _⟩

theorem withImmI_any (op w : Int) (W : World) (h0 : 0 ≤ w) (h1 : w < 4294967296) :
    Calls Tryz.prog 137 #[.int .i64 op, .int .u32 w] W fun e W' => e = .returned (.agg #[.int .i64 op, .int .i64 (w / 128 % 32), .int .i64 (w / 32768 % 32), .int .i64 0, .int .u32 (w / 2147483648 * 4294963200 + w / 1048576)]) ∧ Below W.heap.size W W' := by
  go_enter Tryz.func137, Tryz.ntmps137
  go_wp2_with (first | (go_at_call 135; refine (rd_any _ _ h0 h1).mono ?_; rintro e w' ⟨rfl, rfl⟩) | (go_at_call 138; refine (rs1_any _ _ h0 h1).mono ?_; rintro e w' ⟨rfl, rfl⟩) | (go_at_call 159; refine (immI_any _ _ h0 h1).mono ?_; rintro e w' ⟨rfl, rfl⟩))
  exact bodyPost_ret (v := .agg #[.int .i64 op, .int .i64 (w / 128 % 32), .int .i64 (w / 32768 % 32), .int .i64 0, .int .u32 (w / 2147483648 * 4294963200 + w / 1048576)]) (by simp [results, Tryz.results137, go_sem]) rfl ⟨rfl, (Below.refl _ _).alloc (Nat.le_refl _) _⟩

theorem byF7_any (w a b : Int) (W : World) (h0 : 0 ≤ w) (h1 : w < 4294967296) :
    Calls Tryz.prog 160 #[.int .u32 w, .int .i64 a, .int .i64 b] W fun e W' => e = .returned (.int .i64 (pick7 w a b)) ∧ W' = W := by
  go_enter Tryz.func160, Tryz.ntmps160
  go_wp2_with (go_at_call 133; refine (bits_31_25 _ _ h0 h1).mono ?_; rintro e w' ⟨rfl, rfl⟩)
  all_goals go_ret
  · exact ⟨ret_int (by simp_all [pick7]), rfl⟩
  · exact ⟨ret_int (by simp_all [pick7]), rfl⟩
  · exact ⟨ret_int (by simp_all [pick7]), rfl⟩

theorem onRegisters_any (w x y : Int) (f : Nat) (W : World) (h0 : 0 ≤ w) (h1 : w < 4294967296) (hz : 12 ≤ W.heap.size) (hf : bits .and .u32 (w / 4096) 7 = (f : Int)) (hf8 : (f : Int) < 8) (hx : W.cell? ⟨9, f, none⟩ = some (.int .i64 x)) (hy : W.cell? ⟨10, f, none⟩ = some (.int .i64 y)) :
    Calls Tryz.prog 143 #[.int .u32 w] W fun e W' => e = .returned (.agg #[.int .i64 (pick7 w x y), .int .i64 (w / 128 % 32), .int .i64 (w / 32768 % 32), .int .i64 (w / 1048576 % 32), .int .u32 0]) ∧ Below W.heap.size W W' := by
  have hx1 := old_cell hx (by simp; omega)
  have hy1 := old_cell hy (by simp; omega)
  go_enter Tryz.func143, Tryz.ntmps143
  go_wp2_with fail
  go_quiet ((go_at_call 160; exact Calls.quiet_of_same (byF7_any _ _ _ _ h0 h1)))
  go_wp2_with (first | (go_at_call 135; refine (rd_any _ _ h0 h1).mono ?_; rintro e w' ⟨rfl, rfl⟩) | (go_at_call 138; refine (rs1_any _ _ h0 h1).mono ?_; rintro e w' ⟨rfl, rfl⟩) | (go_at_call 139; refine (rs2_any _ _ h0 h1).mono ?_; rintro e w' ⟨rfl, rfl⟩))
  exact bodyPost_ret (v := .agg #[.int .i64 (pick7 w x y), .int .i64 (w / 128 % 32), .int .i64 (w / 32768 % 32), .int .i64 (w / 1048576 % 32), .int .u32 0]) (by simp [results, Tryz.results143, go_sem]) rfl ⟨rfl, below5 (below_drawn ((Below.refl _ _).alloc (Nat.le_refl _) _) _) (Nat.le_refl _) _ _ _ _ _⟩

theorem onImmediate_yes (w x : Int) (f : Nat) (W : World) (h0 : 0 ≤ w) (h1 : w < 4294967296) (hz : 12 ≤ W.heap.size) (hf : bits .and .u32 (w / 4096) 7 = (f : Int)) (hf8 : (f : Int) < 8) (hx : W.cell? ⟨6, f, none⟩ = some (.int .i64 x)) (hx0 : (x == 0) = false) :
    Calls Tryz.prog 142 #[.int .u32 w] W fun e W' => e = .returned (.agg #[.int .i64 x, .int .i64 (w / 128 % 32), .int .i64 (w / 32768 % 32), .int .i64 0, .int .u32 (w / 2147483648 * 4294963200 + w / 1048576)]) ∧ Below W.heap.size W W' := by
  have hx1 := old_cell hx (by simp; omega)
  go_enter Tryz.func142, Tryz.ntmps142
  go_wp2_with (go_at_call 137; refine (withImmI_any _ _ _ h0 h1).mono ?_; rintro e w' ⟨rfl, hb⟩; obtain ⟨hc, hfz⟩ := bcell hb)
  exact bodyPost_ret (v := .agg #[.int .i64 x, .int .i64 (w / 128 % 32), .int .i64 (w / 32768 % 32), .int .i64 0, .int .u32 (w / 2147483648 * 4294963200 + w / 1048576)]) (by simp [results, Tryz.results142, go_sem, hc]) rfl ⟨rfl, below5 (((Below.refl _ _).alloc (Nat.le_refl _) _).trans (hb.mono (by simp))) (Nat.le_refl _) _ _ _ _ _⟩

theorem onImmediate_no (w x y : Int) (f : Nat) (W : World) (h0 : 0 ≤ w) (h1 : w < 4294967296) (hz : 12 ≤ W.heap.size) (hf : bits .and .u32 (w / 4096) 7 = (f : Int)) (hf8 : (f : Int) < 8) (hi : W.cell? ⟨6, f, none⟩ = some (.int .i64 0)) (hx : W.cell? ⟨7, f, none⟩ = some (.int .i64 x)) (hy : W.cell? ⟨8, f, none⟩ = some (.int .i64 y)) :
    Calls Tryz.prog 142 #[.int .u32 w] W fun e W' => e = .returned (.agg #[.int .i64 (pick7 w x y), .int .i64 (w / 128 % 32), .int .i64 (w / 32768 % 32), .int .i64 0, .int .u32 (w / 1048576 % 32)]) ∧ Below W.heap.size W W' := by
  have hi1 := old_cell hi (by simp; omega)
  have hx1 := old_cell hx (by simp; omega)
  have hy1 := old_cell hy (by simp; omega)
  go_enter Tryz.func142, Tryz.ntmps142
  go_wp2_with fail
  go_quiet ((go_at_call 160; exact Calls.quiet_of_same (byF7_any _ _ _ _ h0 h1)))
  go_wp2_with (first | (go_at_call 135; refine (rd_any _ _ h0 h1).mono ?_; rintro e w' ⟨rfl, rfl⟩) | (go_at_call 138; refine (rs1_any _ _ h0 h1).mono ?_; rintro e w' ⟨rfl, rfl⟩) | (go_at_call 133; refine (bits_24_20 _ _ h0 h1).mono ?_; rintro e w' ⟨rfl, rfl⟩))
  exact bodyPost_ret (v := .agg #[.int .i64 (pick7 w x y), .int .i64 (w / 128 % 32), .int .i64 (w / 32768 % 32), .int .i64 0, .int .u32 (w / 1048576 % 32)]) (by simp [results, Tryz.results142, go_sem]) rfl ⟨rfl, below5 (below_drawn ((Below.refl _ _).alloc (Nat.le_refl _) _) _) (Nat.le_refl _) _ _ _ _ _⟩
end Go.Proofs.YteiideeechnekaaGreatDoor.D

/-
  decode.system and decode.apart: one theorem an arm.
-/
namespace Go.Proofs.YteiideeechnekaaGreatDoor.D
open Go.RowKit

theorem system_ecall (W : World) : Calls Tryz.prog 144 #[.int .u32 115] W fun e W' => e = .returned (.agg #[.int .i64 (39), .int .i64 (0), .int .i64 (0), .int .i64 (0), .int .u32 (0)]) ∧ Below W.heap.size W W' := by
  go_enter Tryz.func144, Tryz.ntmps144
  go_wp2
  exact bodyPost_ret (v := .agg #[.int .i64 (39), .int .i64 (0), .int .i64 (0), .int .i64 (0), .int .u32 (0)]) (by simp [results, Tryz.results144, go_sem]) rfl ⟨rfl, (Below.refl _ _).alloc (Nat.le_refl _) _⟩
theorem system_ebreak (W : World) : Calls Tryz.prog 144 #[.int .u32 1048691] W fun e W' => e = .returned (.agg #[.int .i64 (40), .int .i64 (0), .int .i64 (0), .int .i64 (0), .int .u32 (0)]) ∧ Below W.heap.size W W' := by
  go_enter Tryz.func144, Tryz.ntmps144
  go_wp2
  exact bodyPost_ret (v := .agg #[.int .i64 (40), .int .i64 (0), .int .i64 (0), .int .i64 (0), .int .u32 (0)]) (by simp [results, Tryz.results144, go_sem]) rfl ⟨rfl, (Below.refl _ _).alloc (Nat.le_refl _) _⟩
theorem system_sret (W : World) : Calls Tryz.prog 144 #[.int .u32 270532723] W fun e W' => e = .returned (.agg #[.int .i64 (42), .int .i64 (0), .int .i64 (0), .int .i64 (0), .int .u32 (0)]) ∧ Below W.heap.size W W' := by
  go_enter Tryz.func144, Tryz.ntmps144
  go_wp2
  exact bodyPost_ret (v := .agg #[.int .i64 (42), .int .i64 (0), .int .i64 (0), .int .i64 (0), .int .u32 (0)]) (by simp [results, Tryz.results144, go_sem]) rfl ⟨rfl, (Below.refl _ _).alloc (Nat.le_refl _) _⟩
theorem system_wfi (W : World) : Calls Tryz.prog 144 #[.int .u32 273678451] W fun e W' => e = .returned (.agg #[.int .i64 (43), .int .i64 (0), .int .i64 (0), .int .i64 (0), .int .u32 (0)]) ∧ Below W.heap.size W W' := by
  go_enter Tryz.func144, Tryz.ntmps144
  go_wp2
  exact bodyPost_ret (v := .agg #[.int .i64 (43), .int .i64 (0), .int .i64 (0), .int .i64 (0), .int .u32 (0)]) (by simp [results, Tryz.results144, go_sem]) rfl ⟨rfl, (Below.refl _ _).alloc (Nat.le_refl _) _⟩
theorem system_mret (W : World) : Calls Tryz.prog 144 #[.int .u32 807403635] W fun e W' => e = .returned (.agg #[.int .i64 (41), .int .i64 (0), .int .i64 (0), .int .i64 (0), .int .u32 (0)]) ∧ Below W.heap.size W W' := by
  go_enter Tryz.func144, Tryz.ntmps144
  go_wp2
  exact bodyPost_ret (v := .agg #[.int .i64 (41), .int .i64 (0), .int .i64 (0), .int .i64 (0), .int .u32 (0)]) (by simp [results, Tryz.results144, go_sem]) rfl ⟨rfl, (Below.refl _ _).alloc (Nat.le_refl _) _⟩
theorem system_other (w x : Int) (f : Nat) (W : World) (h0 : 0 ≤ w) (h1 : w < 4294967296) (hz : 12 ≤ W.heap.size) (hf : bits .and .u32 (w / 4096) 7 = (f : Int)) (hf8 : (f : Int) < 8) (hx : W.cell? ⟨11, f, none⟩ = some (.int .i64 x))
    (e1 : (w == 115) = false) (e2 : (w == 1048691) = false) (e3 : (w == 270532723) = false) (e4 : (w == 273678451) = false) (e5 : (w == 807403635) = false) :
    Calls Tryz.prog 144 #[.int .u32 w] W fun e W' => e = .returned (.agg #[.int .i64 (x), .int .i64 (w / 128 % 32), .int .i64 (w / 32768 % 32), .int .i64 (0), .int .u32 (w / 1048576)]) ∧ Below W.heap.size W W' := by
  have hx1 := old_cell hx (by simp; omega)
  go_enter Tryz.func144, Tryz.ntmps144
  go_wp2_with fail
  go_region_held3 (fun w' => w'.cell? ⟨11, f, none⟩ = some (.int .i64 x)) (go_keep) (first | (go_at_call 135; refine (rd_any _ _ h0 h1).mono ?_; rintro e w' ⟨rfl, rfl⟩) | (go_at_call 138; refine (rs1_any _ _ h0 h1).mono ?_; rintro e w' ⟨rfl, rfl⟩) | (go_at_call 133; refine (bits_31_20 _ _ h0 h1).mono ?_; rintro e w' ⟨rfl, rfl⟩))
  all_goals go_wp2
  exact bodyPost_ret (v := .agg #[.int .i64 (x), .int .i64 (w / 128 % 32), .int .i64 (w / 32768 % 32), .int .i64 (0), .int .u32 (w / 1048576)]) (by simp [results, Tryz.results144, go_sem]) rfl ⟨rfl, ((Below.refl _ _).alloc (Nat.le_refl _) _).drew⟩
theorem apart_lui (w : Int) (W : World) (h0 : 0 ≤ w) (h1 : w < 4294967296) (hk : w % 128 = 55) :
    Calls Tryz.prog 109 #[.int .u32 w] W fun e W' => e = .returned (.agg #[.int .i64 (1), .int .i64 (w / 128 % 32), .int .i64 (0), .int .i64 (0), .int .u32 (w / 4096 * 4096)]) ∧ Below W.heap.size W W' := by
  go_enter Tryz.func109, Tryz.ntmps109
  go_wp2_with (first | (go_at_call 133; refine (bits_6_0 _ _ h0 h1).mono ?_; rintro e w' ⟨rfl, rfl⟩) | (go_at_call 134; refine (withImmU_any _ _ _ h0 h1).mono ?_; rintro e w' ⟨rfl, hb⟩; obtain ⟨hc, hfz⟩ := bcell hb))
  exact bodyPost_ret (v := .agg #[.int .i64 (1), .int .i64 (w / 128 % 32), .int .i64 (0), .int .i64 (0), .int .u32 (w / 4096 * 4096)]) (by simp [results, Tryz.results109, go_sem, hc]) rfl ⟨rfl, below5 (((Below.refl _ _).alloc (Nat.le_refl _) _).trans (hb.mono (by simp))) (Nat.le_refl _) _ _ _ _ _⟩
theorem apart_auipc (w : Int) (W : World) (h0 : 0 ≤ w) (h1 : w < 4294967296) (hk : w % 128 = 23) :
    Calls Tryz.prog 109 #[.int .u32 w] W fun e W' => e = .returned (.agg #[.int .i64 (2), .int .i64 (w / 128 % 32), .int .i64 (0), .int .i64 (0), .int .u32 (w / 4096 * 4096)]) ∧ Below W.heap.size W W' := by
  go_enter Tryz.func109, Tryz.ntmps109
  go_wp2_with (first | (go_at_call 133; refine (bits_6_0 _ _ h0 h1).mono ?_; rintro e w' ⟨rfl, rfl⟩) | (go_at_call 134; refine (withImmU_any _ _ _ h0 h1).mono ?_; rintro e w' ⟨rfl, hb⟩; obtain ⟨hc, hfz⟩ := bcell hb))
  exact bodyPost_ret (v := .agg #[.int .i64 (2), .int .i64 (w / 128 % 32), .int .i64 (0), .int .i64 (0), .int .u32 (w / 4096 * 4096)]) (by simp [results, Tryz.results109, go_sem, hc]) rfl ⟨rfl, below5 (((Below.refl _ _).alloc (Nat.le_refl _) _).trans (hb.mono (by simp))) (Nat.le_refl _) _ _ _ _ _⟩
theorem apart_jal (w : Int) (W : World) (h0 : 0 ≤ w) (h1 : w < 4294967296) (hk : w % 128 = 111) :
    Calls Tryz.prog 109 #[.int .u32 w] W fun e W' => e = .returned (.agg #[.int .i64 (3), .int .i64 (w / 128 % 32), .int .i64 (0), .int .i64 (0), .int .u32 (w / 2147483648 * 4293918720 + w / 4096 % 256 * 4096 + w / 1048576 % 2 * 2048 + w / 2097152 % 1024 * 2)]) ∧ Below W.heap.size W W' := by
  go_enter Tryz.func109, Tryz.ntmps109
  go_wp2_with (first | (go_at_call 133; refine (bits_6_0 _ _ h0 h1).mono ?_; rintro e w' ⟨rfl, rfl⟩) | (go_at_call 135; refine (rd_any _ _ h0 h1).mono ?_; rintro e w' ⟨rfl, rfl⟩) | (go_at_call 136; refine (immJ_any _ _ h0 h1).mono ?_; rintro e w' ⟨rfl, rfl⟩))
  exact bodyPost_ret (v := .agg #[.int .i64 (3), .int .i64 (w / 128 % 32), .int .i64 (0), .int .i64 (0), .int .u32 (w / 2147483648 * 4293918720 + w / 4096 % 256 * 4096 + w / 1048576 % 2 * 2048 + w / 2097152 % 1024 * 2)]) (by simp [results, Tryz.results109, go_sem]) rfl ⟨rfl, (Below.refl _ _).alloc (Nat.le_refl _) _⟩
theorem apart_jalr (w x : Int) (f : Nat) (W : World) (h0 : 0 ≤ w) (h1 : w < 4294967296) (hz : 12 ≤ W.heap.size) (hf : bits .and .u32 (w / 4096) 7 = (f : Int)) (hf8 : (f : Int) < 8) (hx : W.cell? ⟨1, f, none⟩ = some (.int .i64 x)) (hk : w % 128 = 103) :
    Calls Tryz.prog 109 #[.int .u32 w] W fun e W' => e = .returned (.agg #[.int .i64 (x), .int .i64 (w / 128 % 32), .int .i64 (w / 32768 % 32), .int .i64 (0), .int .u32 (w / 2147483648 * 4294963200 + w / 1048576)]) ∧ Below W.heap.size W W' := by
  have hx1 := old_cell hx (by simp; omega)
  go_enter Tryz.func109, Tryz.ntmps109
  go_wp2_with (first | (go_at_call 133; refine (bits_6_0 _ _ h0 h1).mono ?_; rintro e w' ⟨rfl, rfl⟩) | (go_at_call 137; refine (withImmI_any _ _ _ h0 h1).mono ?_; rintro e w' ⟨rfl, hb⟩; obtain ⟨hc, hfz⟩ := bcell hb))
  exact bodyPost_ret (v := .agg #[.int .i64 (x), .int .i64 (w / 128 % 32), .int .i64 (w / 32768 % 32), .int .i64 (0), .int .u32 (w / 2147483648 * 4294963200 + w / 1048576)]) (by simp [results, Tryz.results109, go_sem, hc]) rfl ⟨rfl, below5 (((Below.refl _ _).alloc (Nat.le_refl _) _).trans (hb.mono (by simp))) (Nat.le_refl _) _ _ _ _ _⟩
theorem apart_load (w x : Int) (f : Nat) (W : World) (h0 : 0 ≤ w) (h1 : w < 4294967296) (hz : 12 ≤ W.heap.size) (hf : bits .and .u32 (w / 4096) 7 = (f : Int)) (hf8 : (f : Int) < 8) (hx : W.cell? ⟨3, f, none⟩ = some (.int .i64 x)) (hk : w % 128 = 3) :
    Calls Tryz.prog 109 #[.int .u32 w] W fun e W' => e = .returned (.agg #[.int .i64 (x), .int .i64 (w / 128 % 32), .int .i64 (w / 32768 % 32), .int .i64 (0), .int .u32 (w / 2147483648 * 4294963200 + w / 1048576)]) ∧ Below W.heap.size W W' := by
  have hx1 := old_cell hx (by simp; omega)
  go_enter Tryz.func109, Tryz.ntmps109
  go_wp2_with (first | (go_at_call 133; refine (bits_6_0 _ _ h0 h1).mono ?_; rintro e w' ⟨rfl, rfl⟩) | (go_at_call 137; refine (withImmI_any _ _ _ h0 h1).mono ?_; rintro e w' ⟨rfl, hb⟩; obtain ⟨hc, hfz⟩ := bcell hb))
  exact bodyPost_ret (v := .agg #[.int .i64 (x), .int .i64 (w / 128 % 32), .int .i64 (w / 32768 % 32), .int .i64 (0), .int .u32 (w / 2147483648 * 4294963200 + w / 1048576)]) (by simp [results, Tryz.results109, go_sem, hc]) rfl ⟨rfl, below5 (((Below.refl _ _).alloc (Nat.le_refl _) _).trans (hb.mono (by simp))) (Nat.le_refl _) _ _ _ _ _⟩
theorem apart_branch (w x : Int) (f : Nat) (W : World) (h0 : 0 ≤ w) (h1 : w < 4294967296) (hz : 12 ≤ W.heap.size) (hf : bits .and .u32 (w / 4096) 7 = (f : Int)) (hf8 : (f : Int) < 8) (hx : W.cell? ⟨2, f, none⟩ = some (.int .i64 x)) (hk : w % 128 = 99) :
    Calls Tryz.prog 109 #[.int .u32 w] W fun e W' => e = .returned (.agg #[.int .i64 (x), .int .i64 (0), .int .i64 (w / 32768 % 32), .int .i64 (w / 1048576 % 32), .int .u32 (w / 2147483648 * 4294963200 + w / 128 % 2 * 2048 + w / 33554432 % 64 * 32 + w / 256 % 16 * 2)]) ∧ Below W.heap.size W W' := by
  have hx1 := old_cell hx (by simp; omega)
  go_enter Tryz.func109, Tryz.ntmps109
  go_wp2_with (go_at_call 133; refine (bits_6_0 _ _ h0 h1).mono ?_; rintro e w' ⟨rfl, rfl⟩)
  go_region_held3 (fun w' => w'.cell? ⟨2, f, none⟩ = some (.int .i64 x)) (go_keep) (first | (go_at_call 138; refine (rs1_any _ _ h0 h1).mono ?_; rintro e w' ⟨rfl, rfl⟩) | (go_at_call 139; refine (rs2_any _ _ h0 h1).mono ?_; rintro e w' ⟨rfl, rfl⟩) | (go_at_call 140; refine (immB_any _ _ h0 h1).mono ?_; rintro e w' ⟨rfl, rfl⟩))
  all_goals go_wp2
  exact bodyPost_ret (v := .agg #[.int .i64 (x), .int .i64 (0), .int .i64 (w / 32768 % 32), .int .i64 (w / 1048576 % 32), .int .u32 (w / 2147483648 * 4294963200 + w / 128 % 2 * 2048 + w / 33554432 % 64 * 32 + w / 256 % 16 * 2)]) (by simp [results, Tryz.results109, go_sem]) rfl ⟨rfl, ((Below.refl _ _).alloc (Nat.le_refl _) _).drew⟩
theorem apart_store (w x : Int) (f : Nat) (W : World) (h0 : 0 ≤ w) (h1 : w < 4294967296) (hz : 12 ≤ W.heap.size) (hf : bits .and .u32 (w / 4096) 7 = (f : Int)) (hf8 : (f : Int) < 8) (hx : W.cell? ⟨4, f, none⟩ = some (.int .i64 x)) (hk : w % 128 = 35) :
    Calls Tryz.prog 109 #[.int .u32 w] W fun e W' => e = .returned (.agg #[.int .i64 (x), .int .i64 (0), .int .i64 (w / 32768 % 32), .int .i64 (w / 1048576 % 32), .int .u32 (w / 2147483648 * 4294963200 + w / 33554432 * 32 + w / 128 % 32)]) ∧ Below W.heap.size W W' := by
  have hx1 := old_cell hx (by simp; omega)
  go_enter Tryz.func109, Tryz.ntmps109
  go_wp2_with (go_at_call 133; refine (bits_6_0 _ _ h0 h1).mono ?_; rintro e w' ⟨rfl, rfl⟩)
  go_region_held3 (fun w' => w'.cell? ⟨4, f, none⟩ = some (.int .i64 x)) (go_keep) (first | (go_at_call 138; refine (rs1_any _ _ h0 h1).mono ?_; rintro e w' ⟨rfl, rfl⟩) | (go_at_call 139; refine (rs2_any _ _ h0 h1).mono ?_; rintro e w' ⟨rfl, rfl⟩) | (go_at_call 141; refine (immS_any _ _ h0 h1).mono ?_; rintro e w' ⟨rfl, rfl⟩))
  all_goals go_wp2
  exact bodyPost_ret (v := .agg #[.int .i64 (x), .int .i64 (0), .int .i64 (w / 32768 % 32), .int .i64 (w / 1048576 % 32), .int .u32 (w / 2147483648 * 4294963200 + w / 33554432 * 32 + w / 128 % 32)]) (by simp [results, Tryz.results109, go_sem]) rfl ⟨rfl, ((Below.refl _ _).alloc (Nat.le_refl _) _).drew⟩
theorem apart_imm_yes (w x : Int) (f : Nat) (W : World) (h0 : 0 ≤ w) (h1 : w < 4294967296) (hz : 12 ≤ W.heap.size) (hf : bits .and .u32 (w / 4096) 7 = (f : Int)) (hf8 : (f : Int) < 8) (hx : W.cell? ⟨6, f, none⟩ = some (.int .i64 x)) (hx0 : (x == 0) = false) (hk : w % 128 = 19) :
    Calls Tryz.prog 109 #[.int .u32 w] W fun e W' => e = .returned (.agg #[.int .i64 (x), .int .i64 (w / 128 % 32), .int .i64 (w / 32768 % 32), .int .i64 (0), .int .u32 (w / 2147483648 * 4294963200 + w / 1048576)]) ∧ Below W.heap.size W W' := by
  have hx1 := old_cell hx (by simp; omega)
  go_enter Tryz.func109, Tryz.ntmps109
  go_wp2_with (first | (go_at_call 133; refine (bits_6_0 _ _ h0 h1).mono ?_; rintro e w' ⟨rfl, rfl⟩) | (go_at_call 142; refine (onImmediate_yes w x f _ h0 h1 (by simp; omega) hf hf8 (hx1 _) hx0).mono ?_; rintro e w' ⟨rfl, hb⟩; obtain ⟨hc, hfz⟩ := bcell hb))
  exact bodyPost_ret (v := .agg #[.int .i64 (x), .int .i64 (w / 128 % 32), .int .i64 (w / 32768 % 32), .int .i64 (0), .int .u32 (w / 2147483648 * 4294963200 + w / 1048576)]) (by simp [results, Tryz.results109, go_sem, hc]) rfl ⟨rfl, below5 (((Below.refl _ _).alloc (Nat.le_refl _) _).trans (hb.mono (by simp))) (Nat.le_refl _) _ _ _ _ _⟩
theorem apart_imm_no (w x y : Int) (f : Nat) (W : World) (h0 : 0 ≤ w) (h1 : w < 4294967296) (hz : 12 ≤ W.heap.size) (hf : bits .and .u32 (w / 4096) 7 = (f : Int)) (hf8 : (f : Int) < 8) (hi : W.cell? ⟨6, f, none⟩ = some (.int .i64 0)) (hx : W.cell? ⟨7, f, none⟩ = some (.int .i64 x)) (hy : W.cell? ⟨8, f, none⟩ = some (.int .i64 y)) (hk : w % 128 = 19) :
    Calls Tryz.prog 109 #[.int .u32 w] W fun e W' => e = .returned (.agg #[.int .i64 (pick7 w x y), .int .i64 (w / 128 % 32), .int .i64 (w / 32768 % 32), .int .i64 (0), .int .u32 (w / 1048576 % 32)]) ∧ Below W.heap.size W W' := by
  have hi1 := old_cell hi (by simp; omega)
  have hx1 := old_cell hx (by simp; omega)
  have hy1 := old_cell hy (by simp; omega)
  go_enter Tryz.func109, Tryz.ntmps109
  go_wp2_with (first | (go_at_call 133; refine (bits_6_0 _ _ h0 h1).mono ?_; rintro e w' ⟨rfl, rfl⟩) | (go_at_call 142; refine (onImmediate_no w x y f _ h0 h1 (by simp; omega) hf hf8 (hi1 _) (hx1 _) (hy1 _)).mono ?_; rintro e w' ⟨rfl, hb⟩; obtain ⟨hc, hfz⟩ := bcell hb))
  exact bodyPost_ret (v := .agg #[.int .i64 (pick7 w x y), .int .i64 (w / 128 % 32), .int .i64 (w / 32768 % 32), .int .i64 (0), .int .u32 (w / 1048576 % 32)]) (by simp [results, Tryz.results109, go_sem, hc]) rfl ⟨rfl, below5 (((Below.refl _ _).alloc (Nat.le_refl _) _).trans (hb.mono (by simp))) (Nat.le_refl _) _ _ _ _ _⟩
theorem apart_reg (w x y : Int) (f : Nat) (W : World) (h0 : 0 ≤ w) (h1 : w < 4294967296) (hz : 12 ≤ W.heap.size) (hf : bits .and .u32 (w / 4096) 7 = (f : Int)) (hf8 : (f : Int) < 8) (hx : W.cell? ⟨9, f, none⟩ = some (.int .i64 x)) (hy : W.cell? ⟨10, f, none⟩ = some (.int .i64 y)) (hk : w % 128 = 51) :
    Calls Tryz.prog 109 #[.int .u32 w] W fun e W' => e = .returned (.agg #[.int .i64 (pick7 w x y), .int .i64 (w / 128 % 32), .int .i64 (w / 32768 % 32), .int .i64 (w / 1048576 % 32), .int .u32 (0)]) ∧ Below W.heap.size W W' := by
  have hx1 := old_cell hx (by simp; omega)
  have hy1 := old_cell hy (by simp; omega)
  go_enter Tryz.func109, Tryz.ntmps109
  go_wp2_with (first | (go_at_call 133; refine (bits_6_0 _ _ h0 h1).mono ?_; rintro e w' ⟨rfl, rfl⟩) | (go_at_call 143; refine (onRegisters_any w x y f _ h0 h1 (by simp; omega) hf hf8 (hx1 _) (hy1 _)).mono ?_; rintro e w' ⟨rfl, hb⟩; obtain ⟨hc, hfz⟩ := bcell hb))
  exact bodyPost_ret (v := .agg #[.int .i64 (pick7 w x y), .int .i64 (w / 128 % 32), .int .i64 (w / 32768 % 32), .int .i64 (w / 1048576 % 32), .int .u32 (0)]) (by simp [results, Tryz.results109, go_sem, hc]) rfl ⟨rfl, below5 (((Below.refl _ _).alloc (Nat.le_refl _) _).trans (hb.mono (by simp))) (Nat.le_refl _) _ _ _ _ _⟩
theorem apart_fence (w x : Int) (f : Nat) (W : World) (h0 : 0 ≤ w) (h1 : w < 4294967296) (hz : 12 ≤ W.heap.size) (hf : bits .and .u32 (w / 4096) 7 = (f : Int)) (hf8 : (f : Int) < 8) (hx : W.cell? ⟨5, f, none⟩ = some (.int .i64 x)) (hk : w % 128 = 15) :
    Calls Tryz.prog 109 #[.int .u32 w] W fun e W' => e = .returned (.agg #[.int .i64 (x), .int .i64 (0), .int .i64 (0), .int .i64 (0), .int .u32 (0)]) ∧ Below W.heap.size W W' := by
  have hx1 := old_cell hx (by simp; omega)
  go_enter Tryz.func109, Tryz.ntmps109
  go_wp2_with (go_at_call 133; refine (bits_6_0 _ _ h0 h1).mono ?_; rintro e w' ⟨rfl, rfl⟩)
  exact bodyPost_ret (v := .agg #[.int .i64 (x), .int .i64 (0), .int .i64 (0), .int .i64 (0), .int .u32 (0)]) (by simp [results, Tryz.results109, go_sem]) rfl ⟨rfl, (Below.refl _ _).alloc (Nat.le_refl _) _⟩
theorem apart_ecall (W : World) : Calls Tryz.prog 109 #[.int .u32 115] W fun e W' => e = .returned (.agg #[.int .i64 (39), .int .i64 (0), .int .i64 (0), .int .i64 (0), .int .u32 (0)]) ∧ Below W.heap.size W W' := by
  go_enter Tryz.func109, Tryz.ntmps109
  go_wp2_with (first | (go_at_call 133; refine (bits_6_0 115 _ (by decide) (by decide)).mono ?_; rintro e w' ⟨rfl, rfl⟩) | (go_at_call 144; refine (system_ecall _).mono ?_; rintro e w' ⟨rfl, hb⟩; obtain ⟨hc, hfz⟩ := bcell hb))
  exact bodyPost_ret (v := .agg #[.int .i64 (39), .int .i64 (0), .int .i64 (0), .int .i64 (0), .int .u32 (0)]) (by simp [results, Tryz.results109, go_sem, hc]) rfl ⟨rfl, below5 (((Below.refl _ _).alloc (Nat.le_refl _) _).trans (hb.mono (by simp))) (Nat.le_refl _) _ _ _ _ _⟩
theorem apart_ebreak (W : World) : Calls Tryz.prog 109 #[.int .u32 1048691] W fun e W' => e = .returned (.agg #[.int .i64 (40), .int .i64 (0), .int .i64 (0), .int .i64 (0), .int .u32 (0)]) ∧ Below W.heap.size W W' := by
  go_enter Tryz.func109, Tryz.ntmps109
  go_wp2_with (first | (go_at_call 133; refine (bits_6_0 1048691 _ (by decide) (by decide)).mono ?_; rintro e w' ⟨rfl, rfl⟩) | (go_at_call 144; refine (system_ebreak _).mono ?_; rintro e w' ⟨rfl, hb⟩; obtain ⟨hc, hfz⟩ := bcell hb))
  exact bodyPost_ret (v := .agg #[.int .i64 (40), .int .i64 (0), .int .i64 (0), .int .i64 (0), .int .u32 (0)]) (by simp [results, Tryz.results109, go_sem, hc]) rfl ⟨rfl, below5 (((Below.refl _ _).alloc (Nat.le_refl _) _).trans (hb.mono (by simp))) (Nat.le_refl _) _ _ _ _ _⟩
theorem apart_sret (W : World) : Calls Tryz.prog 109 #[.int .u32 270532723] W fun e W' => e = .returned (.agg #[.int .i64 (42), .int .i64 (0), .int .i64 (0), .int .i64 (0), .int .u32 (0)]) ∧ Below W.heap.size W W' := by
  go_enter Tryz.func109, Tryz.ntmps109
  go_wp2_with (first | (go_at_call 133; refine (bits_6_0 270532723 _ (by decide) (by decide)).mono ?_; rintro e w' ⟨rfl, rfl⟩) | (go_at_call 144; refine (system_sret _).mono ?_; rintro e w' ⟨rfl, hb⟩; obtain ⟨hc, hfz⟩ := bcell hb))
  exact bodyPost_ret (v := .agg #[.int .i64 (42), .int .i64 (0), .int .i64 (0), .int .i64 (0), .int .u32 (0)]) (by simp [results, Tryz.results109, go_sem, hc]) rfl ⟨rfl, below5 (((Below.refl _ _).alloc (Nat.le_refl _) _).trans (hb.mono (by simp))) (Nat.le_refl _) _ _ _ _ _⟩
theorem apart_wfi (W : World) : Calls Tryz.prog 109 #[.int .u32 273678451] W fun e W' => e = .returned (.agg #[.int .i64 (43), .int .i64 (0), .int .i64 (0), .int .i64 (0), .int .u32 (0)]) ∧ Below W.heap.size W W' := by
  go_enter Tryz.func109, Tryz.ntmps109
  go_wp2_with (first | (go_at_call 133; refine (bits_6_0 273678451 _ (by decide) (by decide)).mono ?_; rintro e w' ⟨rfl, rfl⟩) | (go_at_call 144; refine (system_wfi _).mono ?_; rintro e w' ⟨rfl, hb⟩; obtain ⟨hc, hfz⟩ := bcell hb))
  exact bodyPost_ret (v := .agg #[.int .i64 (43), .int .i64 (0), .int .i64 (0), .int .i64 (0), .int .u32 (0)]) (by simp [results, Tryz.results109, go_sem, hc]) rfl ⟨rfl, below5 (((Below.refl _ _).alloc (Nat.le_refl _) _).trans (hb.mono (by simp))) (Nat.le_refl _) _ _ _ _ _⟩
theorem apart_mret (W : World) : Calls Tryz.prog 109 #[.int .u32 807403635] W fun e W' => e = .returned (.agg #[.int .i64 (41), .int .i64 (0), .int .i64 (0), .int .i64 (0), .int .u32 (0)]) ∧ Below W.heap.size W W' := by
  go_enter Tryz.func109, Tryz.ntmps109
  go_wp2_with (first | (go_at_call 133; refine (bits_6_0 807403635 _ (by decide) (by decide)).mono ?_; rintro e w' ⟨rfl, rfl⟩) | (go_at_call 144; refine (system_mret _).mono ?_; rintro e w' ⟨rfl, hb⟩; obtain ⟨hc, hfz⟩ := bcell hb))
  exact bodyPost_ret (v := .agg #[.int .i64 (41), .int .i64 (0), .int .i64 (0), .int .i64 (0), .int .u32 (0)]) (by simp [results, Tryz.results109, go_sem, hc]) rfl ⟨rfl, below5 (((Below.refl _ _).alloc (Nat.le_refl _) _).trans (hb.mono (by simp))) (Nat.le_refl _) _ _ _ _ _⟩
theorem apart_csr (w x : Int) (f : Nat) (W : World) (h0 : 0 ≤ w) (h1 : w < 4294967296) (hz : 12 ≤ W.heap.size) (hf : bits .and .u32 (w / 4096) 7 = (f : Int)) (hf8 : (f : Int) < 8) (hx : W.cell? ⟨11, f, none⟩ = some (.int .i64 x)) (e1 : (w == 115) = false) (e2 : (w == 1048691) = false) (e3 : (w == 270532723) = false) (e4 : (w == 273678451) = false) (e5 : (w == 807403635) = false) (hk : w % 128 = 115) :
    Calls Tryz.prog 109 #[.int .u32 w] W fun e W' => e = .returned (.agg #[.int .i64 (x), .int .i64 (w / 128 % 32), .int .i64 (w / 32768 % 32), .int .i64 (0), .int .u32 (w / 1048576)]) ∧ Below W.heap.size W W' := by
  have hx1 := old_cell hx (by simp; omega)
  go_enter Tryz.func109, Tryz.ntmps109
  go_wp2_with (first | (go_at_call 133; refine (bits_6_0 _ _ h0 h1).mono ?_; rintro e w' ⟨rfl, rfl⟩) | (go_at_call 144; refine (system_other w x f _ h0 h1 (by simp; omega) hf hf8 (hx1 _) e1 e2 e3 e4 e5).mono ?_; rintro e w' ⟨rfl, hb⟩; obtain ⟨hc, hfz⟩ := bcell hb))
  exact bodyPost_ret (v := .agg #[.int .i64 (x), .int .i64 (w / 128 % 32), .int .i64 (w / 32768 % 32), .int .i64 (0), .int .u32 (w / 1048576)]) (by simp [results, Tryz.results109, go_sem, hc]) rfl ⟨rfl, below5 (((Below.refl _ _).alloc (Nat.le_refl _) _).trans (hb.mono (by simp))) (Nat.le_refl _) _ _ _ _ _⟩
theorem apart_none (w : Int) (W : World) (h0 : 0 ≤ w) (h1 : w < 4294967296) (k55 : (w % 128 == 55) = false) (k23 : (w % 128 == 23) = false) (k111 : (w % 128 == 111) = false) (k103 : (w % 128 == 103) = false) (k99 : (w % 128 == 99) = false) (k3 : (w % 128 == 3) = false) (k35 : (w % 128 == 35) = false) (k19 : (w % 128 == 19) = false) (k51 : (w % 128 == 51) = false) (k15 : (w % 128 == 15) = false) (k115 : (w % 128 == 115) = false) :
    Calls Tryz.prog 109 #[.int .u32 w] W fun e W' => e = .returned (.agg #[.int .i64 (0), .int .i64 (0), .int .i64 (0), .int .i64 (0), .int .u32 (0)]) ∧ Below W.heap.size W W' := by
  go_enter Tryz.func109, Tryz.ntmps109
  go_wp2_with (go_at_call 133; refine (bits_6_0 _ _ h0 h1).mono ?_; rintro e w' ⟨rfl, rfl⟩)
  exact bodyPost_ret (v := .agg #[.int .i64 (0), .int .i64 (0), .int .i64 (0), .int .i64 (0), .int .u32 (0)]) (by simp [results, Tryz.results109, go_sem]) rfl ⟨rfl, (Below.refl _ _).alloc (Nat.le_refl _) _⟩
end Go.Proofs.YteiideeechnekaaGreatDoor.D

/-
  decode.apart, decode.Word and hart.Decode: for every word, in a world where the tables hold what they hold.
-/
namespace Go.Proofs.YteiideeechnekaaGreatDoor.D
open Go.RowKit

structure Tabs (W : World) : Prop where
  size : 12 ≤ W.heap.size
  c0 : ∀ f : Nat, f < 8 → W.cell? ⟨1, f, none⟩ = some (.int .i64 (tJ f))
  c1 : ∀ f : Nat, f < 8 → W.cell? ⟨2, f, none⟩ = some (.int .i64 (tB f))
  c2 : ∀ f : Nat, f < 8 → W.cell? ⟨3, f, none⟩ = some (.int .i64 (tL f))
  c3 : ∀ f : Nat, f < 8 → W.cell? ⟨4, f, none⟩ = some (.int .i64 (tS f))
  c4 : ∀ f : Nat, f < 8 → W.cell? ⟨5, f, none⟩ = some (.int .i64 (tF f))
  c5 : ∀ f : Nat, f < 8 → W.cell? ⟨6, f, none⟩ = some (.int .i64 (tI f))
  c6 : ∀ f : Nat, f < 8 → W.cell? ⟨7, f, none⟩ = some (.int .i64 (tH0 f))
  c7 : ∀ f : Nat, f < 8 → W.cell? ⟨8, f, none⟩ = some (.int .i64 (tH2 f))
  c8 : ∀ f : Nat, f < 8 → W.cell? ⟨9, f, none⟩ = some (.int .i64 (tR0 f))
  c9 : ∀ f : Nat, f < 8 → W.cell? ⟨10, f, none⟩ = some (.int .i64 (tR2 f))
  c10 : ∀ f : Nat, f < 8 → W.cell? ⟨11, f, none⟩ = some (.int .i64 (tC f))

theorem Tabs.below {W W' : World} (T : Tabs W) {B : Nat} (hB : 12 ≤ B) (hb : Below B W W') : Tabs W' :=
  ⟨Nat.le_trans T.size hb.size, fun f h => (hb.cell (p := ⟨1, f, none⟩) (by simp; omega)).trans (T.c0 f h), fun f h => (hb.cell (p := ⟨2, f, none⟩) (by simp; omega)).trans (T.c1 f h), fun f h => (hb.cell (p := ⟨3, f, none⟩) (by simp; omega)).trans (T.c2 f h), fun f h => (hb.cell (p := ⟨4, f, none⟩) (by simp; omega)).trans (T.c3 f h), fun f h => (hb.cell (p := ⟨5, f, none⟩) (by simp; omega)).trans (T.c4 f h), fun f h => (hb.cell (p := ⟨6, f, none⟩) (by simp; omega)).trans (T.c5 f h), fun f h => (hb.cell (p := ⟨7, f, none⟩) (by simp; omega)).trans (T.c6 f h), fun f h => (hb.cell (p := ⟨8, f, none⟩) (by simp; omega)).trans (T.c7 f h), fun f h => (hb.cell (p := ⟨9, f, none⟩) (by simp; omega)).trans (T.c8 f h), fun f h => (hb.cell (p := ⟨10, f, none⟩) (by simp; omega)).trans (T.c9 f h), fun f h => (hb.cell (p := ⟨11, f, none⟩) (by simp; omega)).trans (T.c10 f h)⟩

theorem f3_bits (w : Int) (h0 : 0 ≤ w) (h1 : w < 4294967296) : bits .and .u32 (w / 4096) 7 = (f3 w : Int) := by
  have := mask_u32 3 (by decide) (w / 4096) (by omega) (by omega)
  have e : ((2 : Int) ^ 3 - 1) = 7 := by decide
  rw [e] at this
  rw [this]; unfold f3; simp; omega
theorem f3_lt (w : Int) : f3 w < 8 := by unfold f3; omega

theorem apart_any (w : Int) (W : World) (h0 : 0 ≤ w) (h1 : w < 4294967296) (T : Tabs W) :
    Calls Tryz.prog 109 #[.int .u32 w] W fun e W' => e = .returned (apartI w).val ∧ Below W.heap.size W W' := by
  have hf := f3_bits w h0 h1
  have hf8 := f3_lt w
  have hf8' : ((f3 w : Nat) : Int) < 8 := by omega
  by_cases k55 : w % 128 = 55
  · refine (apart_lui w W h0 h1 k55).mono ?_; rintro e W' ⟨rfl, hb⟩; exact ⟨by simp [apartI, k55, Ins.val], hb⟩
  by_cases k23 : w % 128 = 23
  · refine (apart_auipc w W h0 h1 k23).mono ?_; rintro e W' ⟨rfl, hb⟩; exact ⟨by simp [apartI, k23, Ins.val], hb⟩
  by_cases k111 : w % 128 = 111
  · refine (apart_jal w W h0 h1 k111).mono ?_; rintro e W' ⟨rfl, hb⟩; exact ⟨by simp [apartI, k111, Ins.val, immJ], hb⟩
  by_cases k103 : w % 128 = 103
  · refine (apart_jalr w _ _ W h0 h1 T.size hf hf8' (T.c0 _ hf8) k103).mono ?_; rintro e W' ⟨rfl, hb⟩; exact ⟨by simp [apartI, k103, Ins.val, immI], hb⟩
  by_cases k99 : w % 128 = 99
  · refine (apart_branch w _ _ W h0 h1 T.size hf hf8' (T.c1 _ hf8) k99).mono ?_; rintro e W' ⟨rfl, hb⟩; exact ⟨by simp [apartI, k99, Ins.val, immB], hb⟩
  by_cases k3 : w % 128 = 3
  · refine (apart_load w _ _ W h0 h1 T.size hf hf8' (T.c2 _ hf8) k3).mono ?_; rintro e W' ⟨rfl, hb⟩; exact ⟨by simp [apartI, k3, Ins.val, immI], hb⟩
  by_cases k35 : w % 128 = 35
  · refine (apart_store w _ _ W h0 h1 T.size hf hf8' (T.c3 _ hf8) k35).mono ?_; rintro e W' ⟨rfl, hb⟩; exact ⟨by simp [apartI, k35, Ins.val, immS], hb⟩
  by_cases k19 : w % 128 = 19
  · by_cases hi : tI (f3 w) = 0
    · refine (apart_imm_no w _ _ _ W h0 h1 T.size hf hf8' (hi ▸ T.c5 _ hf8) (T.c6 _ hf8) (T.c7 _ hf8) k19).mono ?_; rintro e W' ⟨rfl, hb⟩; exact ⟨by simp [apartI, k19, Ins.val, hi], hb⟩
    · refine (apart_imm_yes w _ _ W h0 h1 T.size hf hf8' (T.c5 _ hf8) (by simpa using hi) k19).mono ?_; rintro e W' ⟨rfl, hb⟩; exact ⟨by simp [apartI, k19, Ins.val, immI, hi], hb⟩
  by_cases k51 : w % 128 = 51
  · refine (apart_reg w _ _ _ W h0 h1 T.size hf hf8' (T.c8 _ hf8) (T.c9 _ hf8) k51).mono ?_; rintro e W' ⟨rfl, hb⟩; exact ⟨by simp [apartI, k51, Ins.val], hb⟩
  by_cases k15 : w % 128 = 15
  · refine (apart_fence w _ _ W h0 h1 T.size hf hf8' (T.c4 _ hf8) k15).mono ?_; rintro e W' ⟨rfl, hb⟩; exact ⟨by simp [apartI, k15, Ins.val], hb⟩
  by_cases k115 : w % 128 = 115
  · by_cases e1 : w = 115
    · subst e1; exact apart_ecall W
    by_cases e2 : w = 1048691
    · subst e2; exact apart_ebreak W
    by_cases e3 : w = 270532723
    · subst e3; exact apart_sret W
    by_cases e4 : w = 273678451
    · subst e4; exact apart_wfi W
    by_cases e5 : w = 807403635
    · subst e5; exact apart_mret W
    refine (apart_csr w _ _ W h0 h1 T.size hf hf8' (T.c10 _ hf8) (by simpa using e1) (by simpa using e2) (by simpa using e3) (by simpa using e4) (by simpa using e5) k115).mono ?_; rintro e W' ⟨rfl, hb⟩; exact ⟨by simp [apartI, k115, Ins.val, e1, e2, e3, e4, e5], hb⟩
  refine (apart_none w W h0 h1 (by simpa using k55) (by simpa using k23) (by simpa using k111) (by simpa using k103) (by simpa using k99) (by simpa using k3) (by simpa using k35) (by simpa using k19) (by simpa using k51) (by simpa using k15) (by simpa using k115)).mono ?_
  rintro e W' ⟨rfl, hb⟩
  exact ⟨by simp [apartI, k55, k23, k111, k103, k99, k3, k35, k19, k51, k15, k115, Ins.val, Ins.zero], hb⟩

theorem alloc_cell (w : World) (b : Nat) (h : b < w.heap.size) : (∀ o j, (w.alloc o).cell? ⟨b, j, none⟩ = w.cell? ⟨b, j, none⟩) ∧ (∀ o j, (w.alloc o).frozen? ⟨b, j, none⟩ = w.frozen? ⟨b, j, none⟩) :=
  ⟨fun o j => Below.cell ((Below.refl w.heap.size w).alloc (Nat.le_refl _) o) (p := ⟨b, j, none⟩) h, fun o j => Below.frozen ((Below.refl w.heap.size w).alloc (Nat.le_refl _) o) (p := ⟨b, j, none⟩) h⟩

theorem word_yes (w : Int) (W : World) (d : Ins) (hA : ∀ o, Calls Tryz.prog 109 #[.int .u32 w] (W.alloc o) fun e W' => e = .returned (.agg #[.int .i64 d.op, .int .i64 d.rd, .int .i64 d.r1, .int .i64 d.r2, .int .u32 d.imm]) ∧ Below (W.alloc o).heap.size (W.alloc o) W') (hop : (d.op == 0) = false) :
    Calls Tryz.prog 80 #[.int .u32 w] W fun e W' => e = .returned (.agg #[.int .i64 d.op, .int .i64 d.rd, .int .i64 d.r1, .int .i64 d.r2, .int .u32 d.imm]) ∧ Below W.heap.size W W' := by
  go_enter Tryz.func80, Tryz.ntmps80
  go_wp2_with (go_at_call 109; refine (hA _).mono ?_; rintro e w' ⟨rfl, hb⟩; obtain ⟨hc, hfz⟩ := bcell hb; have hs := hb.size; simp at hs; obtain ⟨ha, hfa⟩ := alloc_cell w' W.heap.size (by omega))
  exact bodyPost_ret (v := .agg #[.int .i64 d.op, .int .i64 d.rd, .int .i64 d.r1, .int .i64 d.r2, .int .u32 d.imm]) (by simp [results, Tryz.results80, go_sem, hc, ha]) rfl ⟨rfl, below5 ((((Below.refl _ _).alloc (Nat.le_refl _) _).trans (hb.mono (by simp))).alloc (by omega) _) (Nat.le_refl _) _ _ _ _ _⟩
theorem word_no (w : Int) (W : World) (a b c d : Int) (hA : ∀ o, Calls Tryz.prog 109 #[.int .u32 w] (W.alloc o) fun e W' => e = .returned (.agg #[.int .i64 0, .int .i64 a, .int .i64 b, .int .i64 c, .int .u32 d]) ∧ Below (W.alloc o).heap.size (W.alloc o) W') :
    Calls Tryz.prog 80 #[.int .u32 w] W fun e W' => e = .returned (.agg #[.int .i64 0, .int .i64 0, .int .i64 0, .int .i64 0, .int .u32 0]) ∧ Below W.heap.size W W' := by
  go_enter Tryz.func80, Tryz.ntmps80
  go_wp2_with (go_at_call 109; refine (hA _).mono ?_; rintro e w' ⟨rfl, hb⟩; obtain ⟨hc, hfz⟩ := bcell hb; have hs := hb.size; simp at hs; obtain ⟨ha, hfa⟩ := alloc_cell w' W.heap.size (by omega))
  exact bodyPost_ret (v := .agg #[.int .i64 0, .int .i64 0, .int .i64 0, .int .i64 0, .int .u32 0]) (by simp [results, Tryz.results80, go_sem, hc, ha]) rfl ⟨rfl, below5 ((((Below.refl _ _).alloc (Nat.le_refl _) _).trans (hb.mono (by simp))).alloc (by omega) _) (Nat.le_refl _) _ _ _ _ _⟩

theorem word_any (w : Int) (W : World) (h0 : 0 ≤ w) (h1 : w < 4294967296) (T : Tabs W) :
    Calls Tryz.prog 80 #[.int .u32 w] W fun e W' => e = .returned (dec w).val ∧ Below W.heap.size W W' := by
  have hA := fun o => apart_any w (W.alloc o) h0 h1 (T.below T.size ((Below.refl _ _).alloc (Nat.le_refl _) o))
  by_cases hop : (apartI w).op = 0
  · have e : dec w = Ins.zero := by unfold dec; rw [if_pos hop]
    rw [e]
    refine word_no w W (apartI w).rd (apartI w).r1 (apartI w).r2 (apartI w).imm fun o => ?_
    have := hA o
    unfold Ins.val at this
    rw [hop] at this
    exact this
  · have e : dec w = apartI w := by unfold dec; rw [if_neg hop]
    rw [e]
    exact word_yes w W (apartI w) hA (by simpa using hop)

end Go.Proofs.YteiideeechnekaaGreatDoor.D
