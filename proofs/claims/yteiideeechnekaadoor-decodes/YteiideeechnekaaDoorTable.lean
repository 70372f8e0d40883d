/-
  hartref: the rows of the table, and the three lists.
-/
import Derived.Test.YteiideeechnekaaDoorRef
namespace Go.Proofs.YteiideeechnekaaDoor
open Go.RowKit

def rowCells (k : Nat) : List Value := [.int .i64 (rop k), .int .u32 (rmask k), .int .u32 (rmatch k), .int .u8 (rform k)]

def span (n off : Nat) : List Value := (List.range n).flatMap fun i => rowCells (i + off)

theorem below4 {B : Nat} {a w : World} (h : Below B a w) {p : Nat} (hp : B ≤ p) (v0 v1 v2 v3 : Value) :
    Below B a ((((w.setCell ⟨p, 0, none⟩ v0).setCell ⟨p, 1, none⟩ v1).setCell ⟨p, 2, none⟩ v2).setCell ⟨p, 3, none⟩ v3) :=
  (((h.setCell hp v0).setCell hp v1).setCell hp v2).setCell hp v3

theorem byOpcode_any (op c f : Int) (w : World) {B : Nat} {W0 : World} (hb : Below B W0 w) (hB : B ≤ w.heap.size) :
    Calls Tryd.prog 14 #[.int .i64 op, .int .u32 c, .int .u8 f] w fun e w' => e = .returned (.agg #[.int .i64 op, .int .u32 127, .int .u32 c, .int .u8 f]) ∧ Below B W0 w' ∧ B ≤ w'.heap.size := by
  go_enter Tryd.func14, Tryd.ntmps14
  go_wp2
  exact bodyPost_ret (v := .agg #[.int .i64 op, .int .u32 127, .int .u32 c, .int .u8 f]) (by simp [results, Tryd.results14, go_sem]) rfl ⟨rfl, hb.alloc hB _, by simp; omega⟩
theorem byF3_any (op c g f : Int) (w : World) {B : Nat} {W0 : World} (hb : Below B W0 w) (hB : B ≤ w.heap.size) (c0 : 0 ≤ c) (c1 : c < 128) (g0 : 0 ≤ g) (g1 : g < 8) :
    Calls Tryd.prog 15 #[.int .i64 op, .int .u32 c, .int .u32 g, .int .u8 f] w fun e w' => e = .returned (.agg #[.int .i64 op, .int .u32 28799, .int .u32 (c + g * 4096), .int .u8 f]) ∧ Below B W0 w' ∧ B ≤ w'.heap.size := by
  go_enter Tryd.func15, Tryd.ntmps15
  go_wp2
  exact bodyPost_ret (v := .agg #[.int .i64 op, .int .u32 28799, .int .u32 (c + g * 4096), .int .u8 f]) (by simp [results, Tryd.results15, go_sem]) rfl ⟨rfl, hb.alloc hB _, by simp; omega⟩
theorem rbyF7_any (op c g h f : Int) (w : World) {B : Nat} {W0 : World} (hb : Below B W0 w) (hB : B ≤ w.heap.size) (c0 : 0 ≤ c) (c1 : c < 128) (g0 : 0 ≤ g) (g1 : g < 8) (h0 : 0 ≤ h) (h1 : h < 64) :
    Calls Tryd.prog 16 #[.int .i64 op, .int .u32 c, .int .u32 g, .int .u32 h, .int .u8 f] w fun e w' => e = .returned (.agg #[.int .i64 op, .int .u32 4261441663, .int .u32 (c + g * 4096 + h * 33554432), .int .u8 f]) ∧ Below B W0 w' ∧ B ≤ w'.heap.size := by
  go_enter Tryd.func16, Tryd.ntmps16
  go_wp2
  exact bodyPost_ret (v := .agg #[.int .i64 op, .int .u32 4261441663, .int .u32 (c + g * 4096 + h * 33554432), .int .u8 f]) (by simp [results, Tryd.results16, go_sem]) rfl ⟨rfl, hb.alloc hB _, by simp; omega⟩
theorem exactly_any (op c : Int) (w : World) {B : Nat} {W0 : World} (hb : Below B W0 w) (hB : B ≤ w.heap.size) :
    Calls Tryd.prog 17 #[.int .i64 op, .int .u32 c] w fun e w' => e = .returned (.agg #[.int .i64 op, .int .u32 4294967295, .int .u32 c, .int .u8 78]) ∧ Below B W0 w' ∧ B ≤ w'.heap.size := by
  go_enter Tryd.func17, Tryd.ntmps17
  go_wp2
  exact bodyPost_ret (v := .agg #[.int .i64 op, .int .u32 4294967295, .int .u32 c, .int .u8 78]) (by simp [results, Tryd.results17, go_sem]) rfl ⟨rfl, hb.alloc hB _, by simp; omega⟩

theorem owned_new (w : World) {B : Nat} (hB : B ≤ w.heap.size) (cur : Array Value) (n : Nat) (xs : List Value) (hn : n ≤ maxLen) (hs : cur.size = n * 4) (hl : xs.length = n * 4) (hx : cur.toList.take (n * 4) = xs) :
    (w.alloc (.cells cur 32)).ownsRow B 32 4 (.slice (some ⟨w.heap.size, 0, none⟩) n n) n xs :=
  ⟨hl, .inr ⟨w.heap.size, n, cur, rfl, hB, heap_alloc_new w _, Nat.le_refl _, hn, hs, hx⟩⟩

set_option maxHeartbeats 1000000 in
theorem rjumps_any (w : World) {B : Nat} {W0 : World} (hb : Below B W0 w) (hB : B ≤ w.heap.size) :
    Calls Tryd.prog 8 #[] w fun e w' => ∃ b, B ≤ b ∧ e = .returned (.slice (some ⟨b, 0, none⟩) 18 18) ∧ Below B W0 w' ∧ B ≤ w'.heap.size ∧ w'.ownsRow B 32 4 (.slice (some ⟨b, 0, none⟩) 18 18) 18 (span 18 0) := by
  go_enter Tryd.func8, Tryd.ntmps8
  go_wp2_with (first
    | (go_at_call 14; refine (byOpcode_any _ _ _ _ hb hB).mono ?_; clear hb hB; rintro e w ⟨rfl, hb, hB⟩)
    | (go_at_call 15; refine (byF3_any _ _ _ _ _ hb hB (by decide) (by decide) (by decide) (by decide)).mono ?_; clear hb hB; rintro e w ⟨rfl, hb, hB⟩)
    | (go_at_call 16; refine (rbyF7_any _ _ _ _ _ _ hb hB (by decide) (by decide) (by decide) (by decide) (by decide) (by decide)).mono ?_; clear hb hB; rintro e w ⟨rfl, hb, hB⟩)
    | (go_at_call 17; refine (exactly_any _ _ _ hb hB).mono ?_; clear hb hB; rintro e w ⟨rfl, hb, hB⟩))
  go_ret
  exact ⟨w.heap.size, hB, rfl, hb.alloc hB _, by simp; omega, owned_new w hB _ 18 _ (by decide) rfl (by kernel_rfl) (by kernel_rfl)⟩
set_option maxHeartbeats 1000000 in
theorem rsums_any (w : World) {B : Nat} {W0 : World} (hb : Below B W0 w) (hB : B ≤ w.heap.size) :
    Calls Tryd.prog 9 #[] w fun e w' => ∃ b, B ≤ b ∧ e = .returned (.slice (some ⟨b, 0, none⟩) 19 19) ∧ Below B W0 w' ∧ B ≤ w'.heap.size ∧ w'.ownsRow B 32 4 (.slice (some ⟨b, 0, none⟩) 19 19) 19 (span 19 18) := by
  go_enter Tryd.func9, Tryd.ntmps9
  go_wp2_with (first
    | (go_at_call 14; refine (byOpcode_any _ _ _ _ hb hB).mono ?_; clear hb hB; rintro e w ⟨rfl, hb, hB⟩)
    | (go_at_call 15; refine (byF3_any _ _ _ _ _ hb hB (by decide) (by decide) (by decide) (by decide)).mono ?_; clear hb hB; rintro e w ⟨rfl, hb, hB⟩)
    | (go_at_call 16; refine (rbyF7_any _ _ _ _ _ _ hb hB (by decide) (by decide) (by decide) (by decide) (by decide) (by decide)).mono ?_; clear hb hB; rintro e w ⟨rfl, hb, hB⟩)
    | (go_at_call 17; refine (exactly_any _ _ _ hb hB).mono ?_; clear hb hB; rintro e w ⟨rfl, hb, hB⟩))
  go_ret
  exact ⟨w.heap.size, hB, rfl, hb.alloc hB _, by simp; omega, owned_new w hB _ 19 _ (by decide) rfl (by kernel_rfl) (by kernel_rfl)⟩
set_option maxHeartbeats 1000000 in
theorem rsystem_any (w : World) {B : Nat} {W0 : World} (hb : Below B W0 w) (hB : B ≤ w.heap.size) :
    Calls Tryd.prog 10 #[] w fun e w' => ∃ b, B ≤ b ∧ e = .returned (.slice (some ⟨b, 0, none⟩) 12 12) ∧ Below B W0 w' ∧ B ≤ w'.heap.size ∧ w'.ownsRow B 32 4 (.slice (some ⟨b, 0, none⟩) 12 12) 12 (span 12 37) := by
  go_enter Tryd.func10, Tryd.ntmps10
  go_wp2_with (first
    | (go_at_call 14; refine (byOpcode_any _ _ _ _ hb hB).mono ?_; clear hb hB; rintro e w ⟨rfl, hb, hB⟩)
    | (go_at_call 15; refine (byF3_any _ _ _ _ _ hb hB (by decide) (by decide) (by decide) (by decide)).mono ?_; clear hb hB; rintro e w ⟨rfl, hb, hB⟩)
    | (go_at_call 16; refine (rbyF7_any _ _ _ _ _ _ hb hB (by decide) (by decide) (by decide) (by decide) (by decide) (by decide)).mono ?_; clear hb hB; rintro e w ⟨rfl, hb, hB⟩)
    | (go_at_call 17; refine (exactly_any _ _ _ hb hB).mono ?_; clear hb hB; rintro e w ⟨rfl, hb, hB⟩))
  go_ret
  exact ⟨w.heap.size, hB, rfl, hb.alloc hB _, by simp; omega, owned_new w hB _ 12 _ (by decide) rfl (by kernel_rfl) (by kernel_rfl)⟩
end Go.Proofs.YteiideeechnekaaDoor
