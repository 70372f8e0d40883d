import Derived.Test.YteiideeechnekaaDoorLeaf
import Derived.Deep.RegionHeld3
namespace Go.Proofs.YteiideeechnekaaDoor
open Go.RowKit

theorem old_cell {W : World} {a : Addr} {v : Value} (h : W.cell? a = some v) (hb : a.block < W.heap.size) (o : Obj) : (W.alloc o).cell? a = some v := by
  rw [Below.cell ((Below.refl W.heap.size W).alloc (Nat.le_refl _) o) hb]; exact h

theorem bcell {W w1 : World} (hb : Below W.heap.size W w1) : (∀ b o, b < W.heap.size → w1.cell? ⟨b, o, none⟩ = W.cell? ⟨b, o, none⟩) ∧ (∀ b o, b < W.heap.size → w1.frozen? ⟨b, o, none⟩ = W.frozen? ⟨b, o, none⟩) :=
  ⟨fun b o h => hb.cell (p := ⟨b, o, none⟩) h, fun b o h => hb.frozen (p := ⟨b, o, none⟩) h⟩

theorem below_drawn {B : Nat} {a w : World} (h : Below B a w) (n : Nat) : Below B a (w.drewN n) := h.trans ⟨rfl, rfl, rfl, Nat.le_refl _, fun _ _ => rfl⟩
theorem below5 {B : Nat} {a w : World} (h : Below B a w) {p : Nat} (hp : B ≤ p) (v0 v1 v2 v3 v4 : Value) :
    Below B a (((((w.setCell ⟨p, 0, none⟩ v0).setCell ⟨p, 1, none⟩ v1).setCell ⟨p, 2, none⟩ v2).setCell ⟨p, 3, none⟩ v3).setCell ⟨p, 4, none⟩ v4) :=
  ((((h.setCell hp v0).setCell hp v1).setCell hp v2).setCell hp v3).setCell hp v4

theorem withImmU_any (op w : Int) (W : World) (h0 : 0 ≤ w) (h1 : w < 4294967296) :
    Calls Tryd.prog 20 #[.int .i64 op, .int .u32 w] W fun e W' => e = .returned (.agg #[.int .i64 op, .int .i64 (w / 128 % 32), .int .i64 0, .int .i64 0, .int .u32 (w / 4096 * 4096)]) ∧ Below W.heap.size W W' := by
  go_enter Tryd.func20, Tryd.ntmps20
  go_wp2_with (first | (go_at_call 21; refine (rd_any _ _ h0 h1).mono ?_; rintro e w' ⟨rfl, rfl⟩) | (go_at_call 31; refine (immU_any _ _ h0 h1).mono ?_; rintro e w' ⟨rfl, rfl⟩))
  exact bodyPost_ret (v := .agg #[.int .i64 op, .int .i64 (w / 128 % 32), .int .i64 0, .int .i64 0, .int .u32 (w / 4096 * 4096)]) (by simp [results, Tryd.results20, go_sem]) rfl ⟨rfl, (Below.refl _ _).alloc (Nat.le_refl _) _⟩

theorem withImmI_any (op w : Int) (W : World) (h0 : 0 ≤ w) (h1 : w < 4294967296) :
    Calls Tryd.prog 23 #[.int .i64 op, .int .u32 w] W fun e W' => e = .returned (.agg #[.int .i64 op, .int .i64 (w / 128 % 32), .int .i64 (w / 32768 % 32), .int .i64 0, .int .u32 (w / 2147483648 * 4294963200 + w / 1048576)]) ∧ Below W.heap.size W W' := by
  go_enter Tryd.func23, Tryd.ntmps23
  go_wp2_with (first | (go_at_call 21; refine (rd_any _ _ h0 h1).mono ?_; rintro e w' ⟨rfl, rfl⟩) | (go_at_call 24; refine (rs1_any _ _ h0 h1).mono ?_; rintro e w' ⟨rfl, rfl⟩) | (go_at_call 33; refine (immI_any _ _ h0 h1).mono ?_; rintro e w' ⟨rfl, rfl⟩))
  exact bodyPost_ret (v := .agg #[.int .i64 op, .int .i64 (w / 128 % 32), .int .i64 (w / 32768 % 32), .int .i64 0, .int .u32 (w / 2147483648 * 4294963200 + w / 1048576)]) (by simp [results, Tryd.results23, go_sem]) rfl ⟨rfl, (Below.refl _ _).alloc (Nat.le_refl _) _⟩

theorem byF7_any (w a b : Int) (W : World) (h0 : 0 ≤ w) (h1 : w < 4294967296) :
    Calls Tryd.prog 34 #[.int .u32 w, .int .i64 a, .int .i64 b] W fun e W' => e = .returned (.int .i64 (pick7 w a b)) ∧ W' = W := by
  go_enter Tryd.func34, Tryd.ntmps34
  go_wp2_with (go_at_call 19; refine (bits_31_25 _ _ h0 h1).mono ?_; rintro e w' ⟨rfl, rfl⟩)
  all_goals go_ret
  · exact ⟨ret_int (by simp_all [pick7]), rfl⟩
  · exact ⟨ret_int (by simp_all [pick7]), rfl⟩
  · exact ⟨ret_int (by simp_all [pick7]), rfl⟩

theorem onRegisters_any (w x y : Int) (f : Nat) (W : World) (h0 : 0 ≤ w) (h1 : w < 4294967296) (hz : 11 ≤ W.heap.size) (hf : bits .and .u32 (w / 4096) 7 = (f : Int)) (hf8 : (f : Int) < 8) (hx : W.cell? ⟨8, f, none⟩ = some (.int .i64 x)) (hy : W.cell? ⟨9, f, none⟩ = some (.int .i64 y)) :
    Calls Tryd.prog 29 #[.int .u32 w] W fun e W' => e = .returned (.agg #[.int .i64 (pick7 w x y), .int .i64 (w / 128 % 32), .int .i64 (w / 32768 % 32), .int .i64 (w / 1048576 % 32), .int .u32 0]) ∧ Below W.heap.size W W' := by
  have hx1 := old_cell hx (by simp; omega)
  have hy1 := old_cell hy (by simp; omega)
  go_enter Tryd.func29, Tryd.ntmps29
  go_wp2_with fail
  go_quiet ((go_at_call 34; exact Calls.quiet_of_same (byF7_any _ _ _ _ h0 h1)))
  go_wp2_with (first | (go_at_call 21; refine (rd_any _ _ h0 h1).mono ?_; rintro e w' ⟨rfl, rfl⟩) | (go_at_call 24; refine (rs1_any _ _ h0 h1).mono ?_; rintro e w' ⟨rfl, rfl⟩) | (go_at_call 25; refine (rs2_any _ _ h0 h1).mono ?_; rintro e w' ⟨rfl, rfl⟩))
  exact bodyPost_ret (v := .agg #[.int .i64 (pick7 w x y), .int .i64 (w / 128 % 32), .int .i64 (w / 32768 % 32), .int .i64 (w / 1048576 % 32), .int .u32 0]) (by simp [results, Tryd.results29, go_sem]) rfl ⟨rfl, below5 (below_drawn ((Below.refl _ _).alloc (Nat.le_refl _) _) _) (Nat.le_refl _) _ _ _ _ _⟩

theorem onImmediate_yes (w x : Int) (f : Nat) (W : World) (h0 : 0 ≤ w) (h1 : w < 4294967296) (hz : 11 ≤ W.heap.size) (hf : bits .and .u32 (w / 4096) 7 = (f : Int)) (hf8 : (f : Int) < 8) (hx : W.cell? ⟨5, f, none⟩ = some (.int .i64 x)) (hx0 : (x == 0) = false) :
    Calls Tryd.prog 28 #[.int .u32 w] W fun e W' => e = .returned (.agg #[.int .i64 x, .int .i64 (w / 128 % 32), .int .i64 (w / 32768 % 32), .int .i64 0, .int .u32 (w / 2147483648 * 4294963200 + w / 1048576)]) ∧ Below W.heap.size W W' := by
  have hx1 := old_cell hx (by simp; omega)
  go_enter Tryd.func28, Tryd.ntmps28
  go_wp2_with (go_at_call 23; refine (withImmI_any _ _ _ h0 h1).mono ?_; rintro e w' ⟨rfl, hb⟩; obtain ⟨hc, hfz⟩ := bcell hb)
  exact bodyPost_ret (v := .agg #[.int .i64 x, .int .i64 (w / 128 % 32), .int .i64 (w / 32768 % 32), .int .i64 0, .int .u32 (w / 2147483648 * 4294963200 + w / 1048576)]) (by simp [results, Tryd.results28, go_sem, hc]) rfl ⟨rfl, below5 (((Below.refl _ _).alloc (Nat.le_refl _) _).trans (hb.mono (by simp))) (Nat.le_refl _) _ _ _ _ _⟩

theorem onImmediate_no (w x y : Int) (f : Nat) (W : World) (h0 : 0 ≤ w) (h1 : w < 4294967296) (hz : 11 ≤ W.heap.size) (hf : bits .and .u32 (w / 4096) 7 = (f : Int)) (hf8 : (f : Int) < 8) (hi : W.cell? ⟨5, f, none⟩ = some (.int .i64 0)) (hx : W.cell? ⟨6, f, none⟩ = some (.int .i64 x)) (hy : W.cell? ⟨7, f, none⟩ = some (.int .i64 y)) :
    Calls Tryd.prog 28 #[.int .u32 w] W fun e W' => e = .returned (.agg #[.int .i64 (pick7 w x y), .int .i64 (w / 128 % 32), .int .i64 (w / 32768 % 32), .int .i64 0, .int .u32 (w / 1048576 % 32)]) ∧ Below W.heap.size W W' := by
  have hi1 := old_cell hi (by simp; omega)
  have hx1 := old_cell hx (by simp; omega)
  have hy1 := old_cell hy (by simp; omega)
  go_enter Tryd.func28, Tryd.ntmps28
  go_wp2_with fail
  go_quiet ((go_at_call 34; exact Calls.quiet_of_same (byF7_any _ _ _ _ h0 h1)))
  go_wp2_with (first | (go_at_call 21; refine (rd_any _ _ h0 h1).mono ?_; rintro e w' ⟨rfl, rfl⟩) | (go_at_call 24; refine (rs1_any _ _ h0 h1).mono ?_; rintro e w' ⟨rfl, rfl⟩) | (go_at_call 19; refine (bits_24_20 _ _ h0 h1).mono ?_; rintro e w' ⟨rfl, rfl⟩))
  exact bodyPost_ret (v := .agg #[.int .i64 (pick7 w x y), .int .i64 (w / 128 % 32), .int .i64 (w / 32768 % 32), .int .i64 0, .int .u32 (w / 1048576 % 32)]) (by simp [results, Tryd.results28, go_sem]) rfl ⟨rfl, below5 (below_drawn ((Below.refl _ _).alloc (Nat.le_refl _) _) _) (Nat.le_refl _) _ _ _ _ _⟩
end Go.Proofs.YteiideeechnekaaDoor
