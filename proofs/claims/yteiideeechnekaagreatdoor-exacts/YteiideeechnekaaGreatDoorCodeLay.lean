/-
  The code's mix, sideOf, trailOf, layBy, takeBack.
-/
import Derived.Test.YteiideeechnekaaGreatDoorTrapBits
import Derived.Test.YteiideeechnekaaGreatDoorCodePut
import Derived.OrdersHeld
namespace Go.Proofs.YteiideeechnekaaGreatDoor
open Go.RowKit

theorem mix_any (W : World) (o v m : Int) : Calls Tryz.prog 132 #[.int .u32 o, .int .u32 v, .int .u32 m] W fun e W' => e = .returned (.int .u32 (mixV o v m)) ∧ W' = W := by
  go_enter Tryz.func132, Tryz.ntmps132
  go_wp2
  go_ret
  exact ⟨rfl, rfl⟩
theorem sideOf_1 (W : World) (x : Nat) : Calls Tryz.prog 106 #[.pointer (some ⟨x, 35, none⟩), .int .i64 1] W fun e W' => e = .returned (.pointer (some ⟨x, 40, none⟩)) ∧ W' = W := by
  go_enter Tryz.func106, Tryz.ntmps106
  go_wp2
  go_ret
  exact ⟨rfl, rfl⟩
theorem sideOf_3 (W : World) (x : Nat) : Calls Tryz.prog 106 #[.pointer (some ⟨x, 35, none⟩), .int .i64 3] W fun e W' => e = .returned (.pointer (some ⟨x, 45, none⟩)) ∧ W' = W := by
  go_enter Tryz.func106, Tryz.ntmps106
  go_wp2
  go_ret
  exact ⟨rfl, rfl⟩
theorem trail_1 (W : World) : Calls Tryz.prog 131 #[.int .i64 1] W fun e W' => e = .returned (.agg #[.int .u32 2, .int .u32 32, .int .u32 256, .int .u32 8]) ∧ Below W.heap.size W W' := by
  go_enter Tryz.func131, Tryz.ntmps131
  go_wp2
  exact bodyPost_ret (v := .agg #[.int .u32 2, .int .u32 32, .int .u32 256, .int .u32 8]) (by simp [results, Tryz.results131, go_sem]) rfl ⟨rfl, (Below.refl _ _).alloc (Nat.le_refl _) _⟩
theorem trail_3 (W : World) : Calls Tryz.prog 131 #[.int .i64 3] W fun e W' => e = .returned (.agg #[.int .u32 8, .int .u32 128, .int .u32 6144, .int .u32 11]) ∧ Below W.heap.size W W' := by
  go_enter Tryz.func131, Tryz.ntmps131
  go_wp2
  exact bodyPost_ret (v := .agg #[.int .u32 8, .int .u32 128, .int .u32 6144, .int .u32 11]) (by simp [results, Tryz.results131, go_sem]) rfl ⟨rfl, (Below.refl _ _).alloc (Nat.le_refl _) _⟩
structure T4 (w : World) (g : Nat) (a b c d : Int) : Prop where
  c0 : w.cell? ⟨g, 0, none⟩ = some (.int .u32 a)
  c1 : w.cell? ⟨g, 1, none⟩ = some (.int .u32 b)
  c2 : w.cell? ⟨g, 2, none⟩ = some (.int .u32 c)
  c3 : w.cell? ⟨g, 3, none⟩ = some (.int .u32 d)
theorem T4.of {w w' : World} {g : Nat} {a b c d : Int} (h : T4 w g a b c d) (e : w'.heap[g]? = w.heap[g]?) : T4 w' g a b c d := by
  have k : ∀ j, w'.cell? ⟨g, j, none⟩ = w.cell? ⟨g, j, none⟩ := fun j => World.cell?_of_block (w := w) e
  exact ⟨(k _).trans h.c0, (k _).trans h.c1, (k _).trans h.c2, (k _).trans h.c3⟩
structure Ly (W w : World) (x r g : Nat) (c : CSt) (en er wm pl : Int) : Prop where
  c : CodeAt w x r c
  t : T4 w g en er wm pl
  o : Offs [x, r] W w
theorem Ly.put {W w : World} {x r g : Nat} {c : CSt} {en er wm pl : Int} (h : Ly W w x r g c en er wm pl) (A : x ≠ r) (hx : g ≠ x) (v : Int) : Ly W (w.setCell ⟨x, 35, none⟩ (.int .u32 v)).drew x r g { c with mstatus := v } en er wm pl :=
  ⟨(h.c.put_mstatus A v).drawn 1, h.t.of (Below.heap_setCell _ _ _ _ hx), (h.o.put (by simp) _).drawn 1⟩
theorem Ly.new {W w1 : World} {x r : Nat} {c : CSt} (h : CodeAt W x r c) (hb : Below W.heap.size W w1) (en er wm pl : Int) (q : Nat) : Ly W ((w1.alloc (.cells #[.int .u32 en, .int .u32 er, .int .u32 wm, .int .u32 pl] 133)).drewN q) x r w1.heap.size c en er wm pl := by
  have e := fun j => cell_of_row (w1.alloc (.cells #[.int .u32 en, .int .u32 er, .int .u32 wm, .int .u32 pl] 133)) w1.heap.size j _ _ (0, 0) (heap_alloc_new w1 _)
  exact ⟨(h.below (hb.alloc hb.size _) h.lt.1 h.lt.2).drawn q, ⟨(e 0).trans rfl, (e 1).trans rfl, (e 2).trans rfl, (e 3).trans rfl⟩, ((Offs.of_below hb).new _).drawn q⟩
theorem Ly.drawn {W w : World} {x r g : Nat} {c : CSt} {en er wm pl : Int} (h : Ly W w x r g c en er wm pl) (q : Nat) : Ly W (w.drewN q) x r g c en er wm pl := ⟨h.c.drawn q, h.t.of rfl, h.o.drawn q⟩
set_option maxHeartbeats 4000000 in
theorem layBy_1 (W : World) (x r : Nat) (c : CSt) (h : CodeAt W x r c) (A : x ≠ r) (m0 : 0 ≤ c.mode) (m3 : c.mode ≤ 3) :
    Calls Tryz.prog 107 #[.pointer (some ⟨x, 35, none⟩), .int .i64 1, .int .i64 c.mode] W (CP W x r { c with mstatus := layV c.mstatus 2 32 256 8 c.mode }) := by
  have HF : Hid (CodeAt W x r c) := h
  have lt := h.lt
  clear h
  go_enter Tryz.func107, Tryz.ntmps107
  go_wp2_with fail
  refine (trail_1 W).mono ?_
  rintro e w1 ⟨rfl, hb1⟩
  have h1 := fun q => Ly.new HF.out hb1 2 32 256 8 q
  have c1 := fun o => (HF.out.below (hb1.alloc hb1.size o) lt.1 lt.2).mstatus
  have hx : w1.heap.size ≠ x := by have := hb1.size; omega
  go_wp2_with fail
  go_quiet (fail)
  go_wp2_with fail
  generalize hw0 : World.drewN (w1.alloc (.cells #[.int .u32 2, .int .u32 32, .int .u32 256, .int .u32 8] 133)) _ = w0
  have L0 : Hid (Ly W w0 x r w1.heap.size c 2 32 256 8) := by rw [← hw0]; exact h1 _
  clear c1 h1 hw0 hb1
  generalize w1.heap.size = g at hx L0 ⊢
  clear w1
  have c1 : w0.cell? ⟨x, 35, none⟩ = some (.int .u32 (c.mstatus)) := L0.out.c.mstatus
  have f1 := L0.out.c.fx
  have hS : T4 w0.drew g 2 32 256 8 := L0.out.t.of rfl
  refine wp_region_held (S := fun w' => T4 w' g 2 32 256 8) (by kernel_rfl) ?_
  change wpAnyH _ _ _ _ _ _ _ _ (w0.drew)
  refine yK 0 (.pointer (some ⟨x, 35, none⟩)) hS ?_
  refine yK 1 (.pointer (some ⟨x, 35, none⟩)) hS ?_
  refine yK 2 (.pointer (some ⟨x, 35, none⟩)) hS ?_
  refine yK 4 (.pointer (some ⟨g, 0, none⟩)) hS ?_
  refine yU 5 (fun _ h => h.c0) hS ?_
  refine yK 6 (.pointer (some ⟨g, 1, none⟩)) hS ?_
  refine yU 7 (fun _ h => h.c1) hS ?_
  refine yK 8 (.int .u32 (bits .or .u32 2 32)) hS ?_
  refine tA 3 (by kernel_rfl) (wpOp_step rfl fun K hK => ?_)
  go_simp
  refine hK _ _ ⟨hS, ?_⟩
  clear hK K
  refine yK 9 (.int .u32 (bits .andNot .u32 (c.mstatus) (bits .or .u32 2 32))) hS ?_
  refine yK 10 (.pointer (some ⟨x, 35, none⟩)) hS ?_
  refine yK 11 (.pointer (some ⟨x, 35, none⟩)) hS ?_
  refine tA 12 (by kernel_rfl) (wpOp_step rfl fun K hK => ?_)
  go_simp
  have P1 := L0.out.put A hx (bits .andNot .u32 c.mstatus (bits .or .u32 2 32))
  refine hK _ _ ⟨P1.t, wpAnyH_done (by kernel_rfl) ?_ _⟩
  clear hK K hS
  generalize (w0.setCell ⟨x, 35, none⟩ (.int .u32 (bits .andNot .u32 c.mstatus (bits .or .u32 2 32)))).drew = w1 at P1 ⊢
  have L1 : Hid (Ly W w1 x r g { c with mstatus := bits .andNot .u32 c.mstatus (bits .or .u32 2 32) } 2 32 256 8) := P1
  clear P1
  by_cases hb : (bits .and .u32 c.mstatus 2 != 0) = true
  · have HE : Hid (layV c.mstatus 2 32 256 8 c.mode = mixV (bits .or .u32 (bits .andNot .u32 c.mstatus (bits .or .u32 2 32)) 32) (IntKind.u32.wrap (IntKind.u32.wrap c.mode * 256)) 256) := by
      unfold Hid layV
      rw [hb]
      simp only [if_true]
      rw [IntKind.wrap_u32, IntKind.wrap_u32, show c.mode % 4294967296 = c.mode by omega]
      rfl
    go_wp2_with fail
    have c2 : w1.cell? ⟨x, 35, none⟩ = some (.int .u32 (bits .andNot .u32 c.mstatus (bits .or .u32 2 32))) := L1.out.c.mstatus
    have f2 := L1.out.c.fx
    have hS : T4 w1.drew g 2 32 256 8 := L1.out.t.of rfl
    refine wp_region_held (S := fun w' => T4 w' g 2 32 256 8) (by kernel_rfl) ?_
    change wpAnyH _ _ _ _ _ _ _ _ (w1.drew)
    refine yK 0 (.pointer (some ⟨x, 35, none⟩)) hS ?_
    refine yK 1 (.pointer (some ⟨x, 35, none⟩)) hS ?_
    refine yK 2 (.pointer (some ⟨x, 35, none⟩)) hS ?_
    refine yK 4 (.pointer (some ⟨g, 1, none⟩)) hS ?_
    refine yU 5 (fun _ h => h.c1) hS ?_
    refine tA 3 (by kernel_rfl) (wpOp_step rfl fun K hK => ?_)
    go_simp
    refine hK _ _ ⟨hS, ?_⟩
    clear hK K
    refine yK 6 (.int .u32 (bits .or .u32 ((bits .andNot .u32 c.mstatus (bits .or .u32 2 32))) 32)) hS ?_
    refine yK 7 (.pointer (some ⟨x, 35, none⟩)) hS ?_
    refine yK 8 (.pointer (some ⟨x, 35, none⟩)) hS ?_
    refine tA 9 (by kernel_rfl) (wpOp_step rfl fun K hK => ?_)
    go_simp
    have P2 := L1.out.put A hx (bits .or .u32 (bits .andNot .u32 c.mstatus (bits .or .u32 2 32)) 32)
    refine hK _ _ ⟨P2.t, wpAnyH_done (by kernel_rfl) ?_ _⟩
    clear hK K hS
    generalize (w1.setCell ⟨x, 35, none⟩ (.int .u32 (bits .or .u32 (bits .andNot .u32 c.mstatus (bits .or .u32 2 32)) 32))).drew = w2 at P2 ⊢
    have L2 : Hid (Ly W w2 x r g { c with mstatus := bits .or .u32 (bits .andNot .u32 c.mstatus (bits .or .u32 2 32)) 32 } 2 32 256 8) := P2
    clear P2
    go_wp2_with fail
    have c3 : w2.cell? ⟨x, 35, none⟩ = some (.int .u32 (bits .or .u32 (bits .andNot .u32 c.mstatus (bits .or .u32 2 32)) 32)) := L2.out.c.mstatus
    have f3 := L2.out.c.fx
    have hS : T4 w2.drew g 2 32 256 8 := L2.out.t.of rfl
    refine wp_region_held (S := fun w' => T4 w' g 2 32 256 8) (by kernel_rfl) ?_
    change wpAnyH _ _ _ _ _ _ _ _ (w2.drew)
    refine yK 0 (.pointer (some ⟨x, 35, none⟩)) hS ?_
    refine yK 1 (.pointer (some ⟨x, 35, none⟩)) hS ?_
    refine yK 2 (.pointer (some ⟨x, 35, none⟩)) hS ?_
    refine yK 3 (.pointer (some ⟨x, 35, none⟩)) hS ?_
    refine yK 5 (.int .i64 c.mode) hS ?_
    refine yK 6 (.int .u32 (IntKind.u32.wrap c.mode)) hS ?_
    refine yK 7 (.pointer (some ⟨g, 3, none⟩)) hS ?_
    refine yU 8 (fun _ h => h.c3) hS ?_
    refine yK 9 (.int .u32 (IntKind.u32.wrap ((IntKind.u32.wrap c.mode) * 2 ^ 8))) hS ?_
    refine yK 10 (.pointer (some ⟨g, 2, none⟩)) hS ?_
    refine yU 11 (fun _ h => h.c2) hS ?_
    refine tA 4 (by kernel_rfl) (wpOp_step rfl fun K hK => ?_)
    go_simp
    refine hK _ _ ⟨hS, ?_⟩
    clear hK K
    refine tA 12 (by kernel_rfl) (wpOp_step rfl fun K hK => ?_)
    go_simp
    refine (mix_any _ _ _ _).mono ?_
    rintro e w' ⟨rfl, hw⟩
    rw [hw]
    clear hw w'
    refine hK _ _ ⟨hS, ?_⟩
    clear hK K
    refine yK 13 (.pointer (some ⟨x, 35, none⟩)) hS ?_
    refine yK 14 (.pointer (some ⟨x, 35, none⟩)) hS ?_
    refine tA 15 (by kernel_rfl) (wpOp_step rfl fun K hK => ?_)
    go_simp
    have P3 := L2.out.put A hx (mixV (bits .or .u32 (bits .andNot .u32 c.mstatus (bits .or .u32 2 32)) 32) (IntKind.u32.wrap (IntKind.u32.wrap c.mode * 256)) 256)
    refine hK _ _ ⟨P3.t, wpAnyH_done (by kernel_rfl) ?_ _⟩
    clear hK K hS
    generalize (w2.setCell ⟨x, 35, none⟩ (.int .u32 (mixV (bits .or .u32 (bits .andNot .u32 c.mstatus (bits .or .u32 2 32)) 32) (IntKind.u32.wrap (IntKind.u32.wrap c.mode * 256)) 256))).drew = w3 at P3 ⊢
    have L3 : Hid (Ly W w3 x r g { c with mstatus := mixV (bits .or .u32 (bits .andNot .u32 c.mstatus (bits .or .u32 2 32)) 32) (IntKind.u32.wrap (IntKind.u32.wrap c.mode * 256)) 256 } 2 32 256 8) := P3
    clear P3
    go_wp2_with fail
    go_end0
    exact ⟨rfl, by rw [HE.out]; exact L3.out.c, L3.out.o⟩
  · have hb : (bits .and .u32 c.mstatus 2 != 0) = false := by simpa using hb
    have HE : Hid (layV c.mstatus 2 32 256 8 c.mode = mixV (bits .andNot .u32 c.mstatus (bits .or .u32 2 32)) (IntKind.u32.wrap (IntKind.u32.wrap c.mode * 256)) 256) := by
      unfold Hid layV
      rw [hb]
      simp only [Bool.false_eq_true, if_false]
      rw [IntKind.wrap_u32, IntKind.wrap_u32, show c.mode % 4294967296 = c.mode by omega]
      rfl
    go_wp2_with fail
    have c2 : w1.cell? ⟨x, 35, none⟩ = some (.int .u32 (bits .andNot .u32 c.mstatus (bits .or .u32 2 32))) := L1.out.c.mstatus
    have f2 := L1.out.c.fx
    have hS : T4 w1.drew g 2 32 256 8 := L1.out.t.of rfl
    refine wp_region_held (S := fun w' => T4 w' g 2 32 256 8) (by kernel_rfl) ?_
    change wpAnyH _ _ _ _ _ _ _ _ (w1.drew)
    refine yK 0 (.pointer (some ⟨x, 35, none⟩)) hS ?_
    refine yK 1 (.pointer (some ⟨x, 35, none⟩)) hS ?_
    refine yK 2 (.pointer (some ⟨x, 35, none⟩)) hS ?_
    refine yK 3 (.pointer (some ⟨x, 35, none⟩)) hS ?_
    refine yK 5 (.int .i64 c.mode) hS ?_
    refine yK 6 (.int .u32 (IntKind.u32.wrap c.mode)) hS ?_
    refine yK 7 (.pointer (some ⟨g, 3, none⟩)) hS ?_
    refine yU 8 (fun _ h => h.c3) hS ?_
    refine yK 9 (.int .u32 (IntKind.u32.wrap ((IntKind.u32.wrap c.mode) * 2 ^ 8))) hS ?_
    refine yK 10 (.pointer (some ⟨g, 2, none⟩)) hS ?_
    refine yU 11 (fun _ h => h.c2) hS ?_
    refine tA 4 (by kernel_rfl) (wpOp_step rfl fun K hK => ?_)
    go_simp
    refine hK _ _ ⟨hS, ?_⟩
    clear hK K
    refine tA 12 (by kernel_rfl) (wpOp_step rfl fun K hK => ?_)
    go_simp
    refine (mix_any _ _ _ _).mono ?_
    rintro e w' ⟨rfl, hw⟩
    rw [hw]
    clear hw w'
    refine hK _ _ ⟨hS, ?_⟩
    clear hK K
    refine yK 13 (.pointer (some ⟨x, 35, none⟩)) hS ?_
    refine yK 14 (.pointer (some ⟨x, 35, none⟩)) hS ?_
    refine tA 15 (by kernel_rfl) (wpOp_step rfl fun K hK => ?_)
    go_simp
    have P2 := L1.out.put A hx (mixV (bits .andNot .u32 c.mstatus (bits .or .u32 2 32)) (IntKind.u32.wrap (IntKind.u32.wrap c.mode * 256)) 256)
    refine hK _ _ ⟨P2.t, wpAnyH_done (by kernel_rfl) ?_ _⟩
    clear hK K hS
    generalize (w1.setCell ⟨x, 35, none⟩ (.int .u32 (mixV (bits .andNot .u32 c.mstatus (bits .or .u32 2 32)) (IntKind.u32.wrap (IntKind.u32.wrap c.mode * 256)) 256))).drew = w2 at P2 ⊢
    have L2 : Hid (Ly W w2 x r g { c with mstatus := mixV (bits .andNot .u32 c.mstatus (bits .or .u32 2 32)) (IntKind.u32.wrap (IntKind.u32.wrap c.mode * 256)) 256 } 2 32 256 8) := P2
    clear P2
    go_wp2_with fail
    go_end0
    exact ⟨rfl, by rw [HE.out]; exact L2.out.c, L2.out.o⟩
set_option maxHeartbeats 4000000 in
theorem back_1 (W : World) (x r : Nat) (c : CSt) (h : CodeAt W x r c) (A : x ≠ r) (hm : W32 c.mstatus) :
    Calls Tryz.prog 169 #[.pointer (some ⟨x, 35, none⟩), .int .i64 1] W fun e W' => e = .returned (.int .i64 (bits .and .u32 c.mstatus 256 / 256)) ∧ CodeAt W' x r { c with mstatus := backV c.mstatus 2 32 256 } ∧ Offs [x, r] W W' := by
  have HF : Hid (CodeAt W x r c) := h
  have hw' : 0 ≤ bits .and .u32 c.mstatus 256 ∧ bits .and .u32 c.mstatus 256 < 4294967296 := hm.and (W32.lit (n := 256) (by decide))
  clear hm
  have lt := h.lt
  clear h
  go_enter Tryz.func169, Tryz.ntmps169
  go_wp2_with fail
  refine (trail_1 W).mono ?_
  rintro e w1 ⟨rfl, hb1⟩
  have h1 := fun q => Ly.new HF.out hb1 2 32 256 8 q
  have c1 := fun o => (HF.out.below (hb1.alloc hb1.size o) lt.1 lt.2).mstatus
  have hx : w1.heap.size ≠ x := by have := hb1.size; omega
  go_wp2_with fail
  go_quiet (fail)
  go_wp2_with fail
  go_quiet (fail)
  go_wp2_with fail
  generalize hw0 : World.drewN (World.drewN (w1.alloc (.cells #[.int .u32 2, .int .u32 32, .int .u32 256, .int .u32 8] 133)) _) _ = w0
  have L0 : Hid (Ly W w0 x r w1.heap.size c 2 32 256 8) := by rw [← hw0]; exact (h1 _).drawn _
  clear c1 h1 hw0 hb1
  generalize w1.heap.size = g at hx L0 ⊢
  clear w1
  have c1 : w0.cell? ⟨x, 35, none⟩ = some (.int .u32 (c.mstatus)) := L0.out.c.mstatus
  have f1 := L0.out.c.fx
  have hS : T4 w0.drew g 2 32 256 8 := L0.out.t.of rfl
  refine wp_region_held (S := fun w' => T4 w' g 2 32 256 8) (by kernel_rfl) ?_
  change wpAnyH _ _ _ _ _ _ _ _ (w0.drew)
  refine yK 0 (.pointer (some ⟨x, 35, none⟩)) hS ?_
  refine yK 1 (.pointer (some ⟨x, 35, none⟩)) hS ?_
  refine yK 2 (.pointer (some ⟨x, 35, none⟩)) hS ?_
  refine yK 4 (.pointer (some ⟨g, 0, none⟩)) hS ?_
  refine yU 5 (fun _ h => h.c0) hS ?_
  refine yK 6 (.pointer (some ⟨g, 2, none⟩)) hS ?_
  refine yU 7 (fun _ h => h.c2) hS ?_
  refine yK 8 (.int .u32 (bits .or .u32 2 256)) hS ?_
  refine tA 3 (by kernel_rfl) (wpOp_step rfl fun K hK => ?_)
  go_simp
  refine hK _ _ ⟨hS, ?_⟩
  clear hK K
  refine yK 9 (.int .u32 (bits .andNot .u32 (c.mstatus) (bits .or .u32 2 256))) hS ?_
  refine yK 10 (.pointer (some ⟨x, 35, none⟩)) hS ?_
  refine yK 11 (.pointer (some ⟨x, 35, none⟩)) hS ?_
  refine tA 12 (by kernel_rfl) (wpOp_step rfl fun K hK => ?_)
  go_simp
  have P1 := L0.out.put A hx (bits .andNot .u32 c.mstatus (bits .or .u32 2 256))
  refine hK _ _ ⟨P1.t, wpAnyH_done (by kernel_rfl) ?_ _⟩
  clear hK K hS
  generalize (w0.setCell ⟨x, 35, none⟩ (.int .u32 (bits .andNot .u32 c.mstatus (bits .or .u32 2 256)))).drew = w1 at P1 ⊢
  have L1 : Hid (Ly W w1 x r g { c with mstatus := bits .andNot .u32 c.mstatus (bits .or .u32 2 256) } 2 32 256 8) := P1
  clear P1
  by_cases hb : (bits .and .u32 c.mstatus 32 != 0) = true
  · have HE : Hid (backV c.mstatus 2 32 256 = bits .or .u32 (bits .or .u32 (bits .andNot .u32 c.mstatus (bits .or .u32 2 256)) 2) 32) := by
      unfold Hid backV
      rw [hb]
      rfl
    go_wp2_with fail
    have c2 : w1.cell? ⟨x, 35, none⟩ = some (.int .u32 (bits .andNot .u32 c.mstatus (bits .or .u32 2 256))) := L1.out.c.mstatus
    have f2 := L1.out.c.fx
    have hS : T4 w1.drew g 2 32 256 8 := L1.out.t.of rfl
    refine wp_region_held (S := fun w' => T4 w' g 2 32 256 8) (by kernel_rfl) ?_
    change wpAnyH _ _ _ _ _ _ _ _ (w1.drew)
    refine yK 0 (.pointer (some ⟨x, 35, none⟩)) hS ?_
    refine yK 1 (.pointer (some ⟨x, 35, none⟩)) hS ?_
    refine yK 2 (.pointer (some ⟨x, 35, none⟩)) hS ?_
    refine yK 4 (.pointer (some ⟨g, 0, none⟩)) hS ?_
    refine yU 5 (fun _ h => h.c0) hS ?_
    refine tA 3 (by kernel_rfl) (wpOp_step rfl fun K hK => ?_)
    go_simp
    refine hK _ _ ⟨hS, ?_⟩
    clear hK K
    refine yK 6 (.int .u32 (bits .or .u32 ((bits .andNot .u32 c.mstatus (bits .or .u32 2 256))) 2)) hS ?_
    refine yK 7 (.pointer (some ⟨x, 35, none⟩)) hS ?_
    refine yK 8 (.pointer (some ⟨x, 35, none⟩)) hS ?_
    refine tA 9 (by kernel_rfl) (wpOp_step rfl fun K hK => ?_)
    go_simp
    have P2 := L1.out.put A hx (bits .or .u32 (bits .andNot .u32 c.mstatus (bits .or .u32 2 256)) 2)
    refine hK _ _ ⟨P2.t, wpAnyH_done (by kernel_rfl) ?_ _⟩
    clear hK K hS
    generalize (w1.setCell ⟨x, 35, none⟩ (.int .u32 (bits .or .u32 (bits .andNot .u32 c.mstatus (bits .or .u32 2 256)) 2))).drew = w2 at P2 ⊢
    have L2 : Hid (Ly W w2 x r g { c with mstatus := bits .or .u32 (bits .andNot .u32 c.mstatus (bits .or .u32 2 256)) 2 } 2 32 256 8) := P2
    clear P2
    go_wp2_with fail
    have c3 : w2.cell? ⟨x, 35, none⟩ = some (.int .u32 (bits .or .u32 (bits .andNot .u32 c.mstatus (bits .or .u32 2 256)) 2)) := L2.out.c.mstatus
    have f3 := L2.out.c.fx
    have hS : T4 w2.drew g 2 32 256 8 := L2.out.t.of rfl
    refine wp_region_held (S := fun w' => T4 w' g 2 32 256 8) (by kernel_rfl) ?_
    change wpAnyH _ _ _ _ _ _ _ _ (w2.drew)
    refine yK 0 (.pointer (some ⟨x, 35, none⟩)) hS ?_
    refine yK 1 (.pointer (some ⟨x, 35, none⟩)) hS ?_
    refine yK 2 (.pointer (some ⟨x, 35, none⟩)) hS ?_
    refine yK 4 (.pointer (some ⟨g, 1, none⟩)) hS ?_
    refine yU 5 (fun _ h => h.c1) hS ?_
    refine tA 3 (by kernel_rfl) (wpOp_step rfl fun K hK => ?_)
    go_simp
    refine hK _ _ ⟨hS, ?_⟩
    clear hK K
    refine yK 6 (.int .u32 (bits .or .u32 ((bits .or .u32 (bits .andNot .u32 c.mstatus (bits .or .u32 2 256)) 2)) 32)) hS ?_
    refine yK 7 (.pointer (some ⟨x, 35, none⟩)) hS ?_
    refine yK 8 (.pointer (some ⟨x, 35, none⟩)) hS ?_
    refine tA 9 (by kernel_rfl) (wpOp_step rfl fun K hK => ?_)
    go_simp
    have P3 := L2.out.put A hx (bits .or .u32 (bits .or .u32 (bits .andNot .u32 c.mstatus (bits .or .u32 2 256)) 2) 32)
    refine hK _ _ ⟨P3.t, wpAnyH_done (by kernel_rfl) ?_ _⟩
    clear hK K hS
    generalize (w2.setCell ⟨x, 35, none⟩ (.int .u32 (bits .or .u32 (bits .or .u32 (bits .andNot .u32 c.mstatus (bits .or .u32 2 256)) 2) 32))).drew = w3 at P3 ⊢
    have L3 : Hid (Ly W w3 x r g { c with mstatus := bits .or .u32 (bits .or .u32 (bits .andNot .u32 c.mstatus (bits .or .u32 2 256)) 2) 32 } 2 32 256 8) := P3
    clear P3
    go_wp2_with fail
    go_ret
    exact ⟨rfl, by rw [HE.out]; exact L3.out.c, L3.out.o⟩
  · have hb : (bits .and .u32 c.mstatus 32 != 0) = false := by simpa using hb
    have HE : Hid (backV c.mstatus 2 32 256 = bits .or .u32 (bits .andNot .u32 c.mstatus (bits .or .u32 2 256)) 32) := by
      unfold Hid backV
      rw [hb]
      rfl
    go_wp2_with fail
    have c2 : w1.cell? ⟨x, 35, none⟩ = some (.int .u32 (bits .andNot .u32 c.mstatus (bits .or .u32 2 256))) := L1.out.c.mstatus
    have f2 := L1.out.c.fx
    have hS : T4 w1.drew g 2 32 256 8 := L1.out.t.of rfl
    refine wp_region_held (S := fun w' => T4 w' g 2 32 256 8) (by kernel_rfl) ?_
    change wpAnyH _ _ _ _ _ _ _ _ (w1.drew)
    refine yK 0 (.pointer (some ⟨x, 35, none⟩)) hS ?_
    refine yK 1 (.pointer (some ⟨x, 35, none⟩)) hS ?_
    refine yK 2 (.pointer (some ⟨x, 35, none⟩)) hS ?_
    refine yK 4 (.pointer (some ⟨g, 1, none⟩)) hS ?_
    refine yU 5 (fun _ h => h.c1) hS ?_
    refine tA 3 (by kernel_rfl) (wpOp_step rfl fun K hK => ?_)
    go_simp
    refine hK _ _ ⟨hS, ?_⟩
    clear hK K
    refine yK 6 (.int .u32 (bits .or .u32 ((bits .andNot .u32 c.mstatus (bits .or .u32 2 256))) 32)) hS ?_
    refine yK 7 (.pointer (some ⟨x, 35, none⟩)) hS ?_
    refine yK 8 (.pointer (some ⟨x, 35, none⟩)) hS ?_
    refine tA 9 (by kernel_rfl) (wpOp_step rfl fun K hK => ?_)
    go_simp
    have P2 := L1.out.put A hx (bits .or .u32 (bits .andNot .u32 c.mstatus (bits .or .u32 2 256)) 32)
    refine hK _ _ ⟨P2.t, wpAnyH_done (by kernel_rfl) ?_ _⟩
    clear hK K hS
    generalize (w1.setCell ⟨x, 35, none⟩ (.int .u32 (bits .or .u32 (bits .andNot .u32 c.mstatus (bits .or .u32 2 256)) 32))).drew = w2 at P2 ⊢
    have L2 : Hid (Ly W w2 x r g { c with mstatus := bits .or .u32 (bits .andNot .u32 c.mstatus (bits .or .u32 2 256)) 32 } 2 32 256 8) := P2
    clear P2
    go_wp2_with fail
    go_ret
    exact ⟨rfl, by rw [HE.out]; exact L2.out.c, L2.out.o⟩
set_option maxHeartbeats 4000000 in
theorem layBy_3 (W : World) (x r : Nat) (c : CSt) (h : CodeAt W x r c) (A : x ≠ r) (m0 : 0 ≤ c.mode) (m3 : c.mode ≤ 3) :
    Calls Tryz.prog 107 #[.pointer (some ⟨x, 35, none⟩), .int .i64 3, .int .i64 c.mode] W (CP W x r { c with mstatus := layV c.mstatus 8 128 6144 11 c.mode }) := by
  have HF : Hid (CodeAt W x r c) := h
  have lt := h.lt
  clear h
  go_enter Tryz.func107, Tryz.ntmps107
  go_wp2_with fail
  refine (trail_3 W).mono ?_
  rintro e w1 ⟨rfl, hb1⟩
  have h1 := fun q => Ly.new HF.out hb1 8 128 6144 11 q
  have c1 := fun o => (HF.out.below (hb1.alloc hb1.size o) lt.1 lt.2).mstatus
  have hx : w1.heap.size ≠ x := by have := hb1.size; omega
  go_wp2_with fail
  go_quiet (fail)
  go_wp2_with fail
  generalize hw0 : World.drewN (w1.alloc (.cells #[.int .u32 8, .int .u32 128, .int .u32 6144, .int .u32 11] 133)) _ = w0
  have L0 : Hid (Ly W w0 x r w1.heap.size c 8 128 6144 11) := by rw [← hw0]; exact h1 _
  clear c1 h1 hw0 hb1
  generalize w1.heap.size = g at hx L0 ⊢
  clear w1
  have c1 : w0.cell? ⟨x, 35, none⟩ = some (.int .u32 (c.mstatus)) := L0.out.c.mstatus
  have f1 := L0.out.c.fx
  have hS : T4 w0.drew g 8 128 6144 11 := L0.out.t.of rfl
  refine wp_region_held (S := fun w' => T4 w' g 8 128 6144 11) (by kernel_rfl) ?_
  change wpAnyH _ _ _ _ _ _ _ _ (w0.drew)
  refine yK 0 (.pointer (some ⟨x, 35, none⟩)) hS ?_
  refine yK 1 (.pointer (some ⟨x, 35, none⟩)) hS ?_
  refine yK 2 (.pointer (some ⟨x, 35, none⟩)) hS ?_
  refine yK 4 (.pointer (some ⟨g, 0, none⟩)) hS ?_
  refine yU 5 (fun _ h => h.c0) hS ?_
  refine yK 6 (.pointer (some ⟨g, 1, none⟩)) hS ?_
  refine yU 7 (fun _ h => h.c1) hS ?_
  refine yK 8 (.int .u32 (bits .or .u32 8 128)) hS ?_
  refine tA 3 (by kernel_rfl) (wpOp_step rfl fun K hK => ?_)
  go_simp
  refine hK _ _ ⟨hS, ?_⟩
  clear hK K
  refine yK 9 (.int .u32 (bits .andNot .u32 (c.mstatus) (bits .or .u32 8 128))) hS ?_
  refine yK 10 (.pointer (some ⟨x, 35, none⟩)) hS ?_
  refine yK 11 (.pointer (some ⟨x, 35, none⟩)) hS ?_
  refine tA 12 (by kernel_rfl) (wpOp_step rfl fun K hK => ?_)
  go_simp
  have P1 := L0.out.put A hx (bits .andNot .u32 c.mstatus (bits .or .u32 8 128))
  refine hK _ _ ⟨P1.t, wpAnyH_done (by kernel_rfl) ?_ _⟩
  clear hK K hS
  generalize (w0.setCell ⟨x, 35, none⟩ (.int .u32 (bits .andNot .u32 c.mstatus (bits .or .u32 8 128)))).drew = w1 at P1 ⊢
  have L1 : Hid (Ly W w1 x r g { c with mstatus := bits .andNot .u32 c.mstatus (bits .or .u32 8 128) } 8 128 6144 11) := P1
  clear P1
  by_cases hb : (bits .and .u32 c.mstatus 8 != 0) = true
  · have HE : Hid (layV c.mstatus 8 128 6144 11 c.mode = mixV (bits .or .u32 (bits .andNot .u32 c.mstatus (bits .or .u32 8 128)) 128) (IntKind.u32.wrap (IntKind.u32.wrap c.mode * 2048)) 6144) := by
      unfold Hid layV
      rw [hb]
      simp only [if_true]
      rw [IntKind.wrap_u32, IntKind.wrap_u32, show c.mode % 4294967296 = c.mode by omega]
      rfl
    go_wp2_with fail
    have c2 : w1.cell? ⟨x, 35, none⟩ = some (.int .u32 (bits .andNot .u32 c.mstatus (bits .or .u32 8 128))) := L1.out.c.mstatus
    have f2 := L1.out.c.fx
    have hS : T4 w1.drew g 8 128 6144 11 := L1.out.t.of rfl
    refine wp_region_held (S := fun w' => T4 w' g 8 128 6144 11) (by kernel_rfl) ?_
    change wpAnyH _ _ _ _ _ _ _ _ (w1.drew)
    refine yK 0 (.pointer (some ⟨x, 35, none⟩)) hS ?_
    refine yK 1 (.pointer (some ⟨x, 35, none⟩)) hS ?_
    refine yK 2 (.pointer (some ⟨x, 35, none⟩)) hS ?_
    refine yK 4 (.pointer (some ⟨g, 1, none⟩)) hS ?_
    refine yU 5 (fun _ h => h.c1) hS ?_
    refine tA 3 (by kernel_rfl) (wpOp_step rfl fun K hK => ?_)
    go_simp
    refine hK _ _ ⟨hS, ?_⟩
    clear hK K
    refine yK 6 (.int .u32 (bits .or .u32 ((bits .andNot .u32 c.mstatus (bits .or .u32 8 128))) 128)) hS ?_
    refine yK 7 (.pointer (some ⟨x, 35, none⟩)) hS ?_
    refine yK 8 (.pointer (some ⟨x, 35, none⟩)) hS ?_
    refine tA 9 (by kernel_rfl) (wpOp_step rfl fun K hK => ?_)
    go_simp
    have P2 := L1.out.put A hx (bits .or .u32 (bits .andNot .u32 c.mstatus (bits .or .u32 8 128)) 128)
    refine hK _ _ ⟨P2.t, wpAnyH_done (by kernel_rfl) ?_ _⟩
    clear hK K hS
    generalize (w1.setCell ⟨x, 35, none⟩ (.int .u32 (bits .or .u32 (bits .andNot .u32 c.mstatus (bits .or .u32 8 128)) 128))).drew = w2 at P2 ⊢
    have L2 : Hid (Ly W w2 x r g { c with mstatus := bits .or .u32 (bits .andNot .u32 c.mstatus (bits .or .u32 8 128)) 128 } 8 128 6144 11) := P2
    clear P2
    go_wp2_with fail
    have c3 : w2.cell? ⟨x, 35, none⟩ = some (.int .u32 (bits .or .u32 (bits .andNot .u32 c.mstatus (bits .or .u32 8 128)) 128)) := L2.out.c.mstatus
    have f3 := L2.out.c.fx
    have hS : T4 w2.drew g 8 128 6144 11 := L2.out.t.of rfl
    refine wp_region_held (S := fun w' => T4 w' g 8 128 6144 11) (by kernel_rfl) ?_
    change wpAnyH _ _ _ _ _ _ _ _ (w2.drew)
    refine yK 0 (.pointer (some ⟨x, 35, none⟩)) hS ?_
    refine yK 1 (.pointer (some ⟨x, 35, none⟩)) hS ?_
    refine yK 2 (.pointer (some ⟨x, 35, none⟩)) hS ?_
    refine yK 3 (.pointer (some ⟨x, 35, none⟩)) hS ?_
    refine yK 5 (.int .i64 c.mode) hS ?_
    refine yK 6 (.int .u32 (IntKind.u32.wrap c.mode)) hS ?_
    refine yK 7 (.pointer (some ⟨g, 3, none⟩)) hS ?_
    refine yU 8 (fun _ h => h.c3) hS ?_
    refine yK 9 (.int .u32 (IntKind.u32.wrap ((IntKind.u32.wrap c.mode) * 2 ^ 11))) hS ?_
    refine yK 10 (.pointer (some ⟨g, 2, none⟩)) hS ?_
    refine yU 11 (fun _ h => h.c2) hS ?_
    refine tA 4 (by kernel_rfl) (wpOp_step rfl fun K hK => ?_)
    go_simp
    refine hK _ _ ⟨hS, ?_⟩
    clear hK K
    refine tA 12 (by kernel_rfl) (wpOp_step rfl fun K hK => ?_)
    go_simp
    refine (mix_any _ _ _ _).mono ?_
    rintro e w' ⟨rfl, hw⟩
    rw [hw]
    clear hw w'
    refine hK _ _ ⟨hS, ?_⟩
    clear hK K
    refine yK 13 (.pointer (some ⟨x, 35, none⟩)) hS ?_
    refine yK 14 (.pointer (some ⟨x, 35, none⟩)) hS ?_
    refine tA 15 (by kernel_rfl) (wpOp_step rfl fun K hK => ?_)
    go_simp
    have P3 := L2.out.put A hx (mixV (bits .or .u32 (bits .andNot .u32 c.mstatus (bits .or .u32 8 128)) 128) (IntKind.u32.wrap (IntKind.u32.wrap c.mode * 2048)) 6144)
    refine hK _ _ ⟨P3.t, wpAnyH_done (by kernel_rfl) ?_ _⟩
    clear hK K hS
    generalize (w2.setCell ⟨x, 35, none⟩ (.int .u32 (mixV (bits .or .u32 (bits .andNot .u32 c.mstatus (bits .or .u32 8 128)) 128) (IntKind.u32.wrap (IntKind.u32.wrap c.mode * 2048)) 6144))).drew = w3 at P3 ⊢
    have L3 : Hid (Ly W w3 x r g { c with mstatus := mixV (bits .or .u32 (bits .andNot .u32 c.mstatus (bits .or .u32 8 128)) 128) (IntKind.u32.wrap (IntKind.u32.wrap c.mode * 2048)) 6144 } 8 128 6144 11) := P3
    clear P3
    go_wp2_with fail
    go_end0
    exact ⟨rfl, by rw [HE.out]; exact L3.out.c, L3.out.o⟩
  · have hb : (bits .and .u32 c.mstatus 8 != 0) = false := by simpa using hb
    have HE : Hid (layV c.mstatus 8 128 6144 11 c.mode = mixV (bits .andNot .u32 c.mstatus (bits .or .u32 8 128)) (IntKind.u32.wrap (IntKind.u32.wrap c.mode * 2048)) 6144) := by
      unfold Hid layV
      rw [hb]
      simp only [Bool.false_eq_true, if_false]
      rw [IntKind.wrap_u32, IntKind.wrap_u32, show c.mode % 4294967296 = c.mode by omega]
      rfl
    go_wp2_with fail
    have c2 : w1.cell? ⟨x, 35, none⟩ = some (.int .u32 (bits .andNot .u32 c.mstatus (bits .or .u32 8 128))) := L1.out.c.mstatus
    have f2 := L1.out.c.fx
    have hS : T4 w1.drew g 8 128 6144 11 := L1.out.t.of rfl
    refine wp_region_held (S := fun w' => T4 w' g 8 128 6144 11) (by kernel_rfl) ?_
    change wpAnyH _ _ _ _ _ _ _ _ (w1.drew)
    refine yK 0 (.pointer (some ⟨x, 35, none⟩)) hS ?_
    refine yK 1 (.pointer (some ⟨x, 35, none⟩)) hS ?_
    refine yK 2 (.pointer (some ⟨x, 35, none⟩)) hS ?_
    refine yK 3 (.pointer (some ⟨x, 35, none⟩)) hS ?_
    refine yK 5 (.int .i64 c.mode) hS ?_
    refine yK 6 (.int .u32 (IntKind.u32.wrap c.mode)) hS ?_
    refine yK 7 (.pointer (some ⟨g, 3, none⟩)) hS ?_
    refine yU 8 (fun _ h => h.c3) hS ?_
    refine yK 9 (.int .u32 (IntKind.u32.wrap ((IntKind.u32.wrap c.mode) * 2 ^ 11))) hS ?_
    refine yK 10 (.pointer (some ⟨g, 2, none⟩)) hS ?_
    refine yU 11 (fun _ h => h.c2) hS ?_
    refine tA 4 (by kernel_rfl) (wpOp_step rfl fun K hK => ?_)
    go_simp
    refine hK _ _ ⟨hS, ?_⟩
    clear hK K
    refine tA 12 (by kernel_rfl) (wpOp_step rfl fun K hK => ?_)
    go_simp
    refine (mix_any _ _ _ _).mono ?_
    rintro e w' ⟨rfl, hw⟩
    rw [hw]
    clear hw w'
    refine hK _ _ ⟨hS, ?_⟩
    clear hK K
    refine yK 13 (.pointer (some ⟨x, 35, none⟩)) hS ?_
    refine yK 14 (.pointer (some ⟨x, 35, none⟩)) hS ?_
    refine tA 15 (by kernel_rfl) (wpOp_step rfl fun K hK => ?_)
    go_simp
    have P2 := L1.out.put A hx (mixV (bits .andNot .u32 c.mstatus (bits .or .u32 8 128)) (IntKind.u32.wrap (IntKind.u32.wrap c.mode * 2048)) 6144)
    refine hK _ _ ⟨P2.t, wpAnyH_done (by kernel_rfl) ?_ _⟩
    clear hK K hS
    generalize (w1.setCell ⟨x, 35, none⟩ (.int .u32 (mixV (bits .andNot .u32 c.mstatus (bits .or .u32 8 128)) (IntKind.u32.wrap (IntKind.u32.wrap c.mode * 2048)) 6144))).drew = w2 at P2 ⊢
    have L2 : Hid (Ly W w2 x r g { c with mstatus := mixV (bits .andNot .u32 c.mstatus (bits .or .u32 8 128)) (IntKind.u32.wrap (IntKind.u32.wrap c.mode * 2048)) 6144 } 8 128 6144 11) := P2
    clear P2
    go_wp2_with fail
    go_end0
    exact ⟨rfl, by rw [HE.out]; exact L2.out.c, L2.out.o⟩
set_option maxHeartbeats 4000000 in
theorem back_3 (W : World) (x r : Nat) (c : CSt) (h : CodeAt W x r c) (A : x ≠ r) (hm : W32 c.mstatus) :
    Calls Tryz.prog 169 #[.pointer (some ⟨x, 35, none⟩), .int .i64 3] W fun e W' => e = .returned (.int .i64 (bits .and .u32 c.mstatus 6144 / 2048)) ∧ CodeAt W' x r { c with mstatus := backV c.mstatus 8 128 6144 } ∧ Offs [x, r] W W' := by
  have HF : Hid (CodeAt W x r c) := h
  have hw' : 0 ≤ bits .and .u32 c.mstatus 6144 ∧ bits .and .u32 c.mstatus 6144 < 4294967296 := hm.and (W32.lit (n := 6144) (by decide))
  clear hm
  have lt := h.lt
  clear h
  go_enter Tryz.func169, Tryz.ntmps169
  go_wp2_with fail
  refine (trail_3 W).mono ?_
  rintro e w1 ⟨rfl, hb1⟩
  have h1 := fun q => Ly.new HF.out hb1 8 128 6144 11 q
  have c1 := fun o => (HF.out.below (hb1.alloc hb1.size o) lt.1 lt.2).mstatus
  have hx : w1.heap.size ≠ x := by have := hb1.size; omega
  go_wp2_with fail
  go_quiet (fail)
  go_wp2_with fail
  go_quiet (fail)
  go_wp2_with fail
  generalize hw0 : World.drewN (World.drewN (w1.alloc (.cells #[.int .u32 8, .int .u32 128, .int .u32 6144, .int .u32 11] 133)) _) _ = w0
  have L0 : Hid (Ly W w0 x r w1.heap.size c 8 128 6144 11) := by rw [← hw0]; exact (h1 _).drawn _
  clear c1 h1 hw0 hb1
  generalize w1.heap.size = g at hx L0 ⊢
  clear w1
  have c1 : w0.cell? ⟨x, 35, none⟩ = some (.int .u32 (c.mstatus)) := L0.out.c.mstatus
  have f1 := L0.out.c.fx
  have hS : T4 w0.drew g 8 128 6144 11 := L0.out.t.of rfl
  refine wp_region_held (S := fun w' => T4 w' g 8 128 6144 11) (by kernel_rfl) ?_
  change wpAnyH _ _ _ _ _ _ _ _ (w0.drew)
  refine yK 0 (.pointer (some ⟨x, 35, none⟩)) hS ?_
  refine yK 1 (.pointer (some ⟨x, 35, none⟩)) hS ?_
  refine yK 2 (.pointer (some ⟨x, 35, none⟩)) hS ?_
  refine yK 4 (.pointer (some ⟨g, 0, none⟩)) hS ?_
  refine yU 5 (fun _ h => h.c0) hS ?_
  refine yK 6 (.pointer (some ⟨g, 2, none⟩)) hS ?_
  refine yU 7 (fun _ h => h.c2) hS ?_
  refine yK 8 (.int .u32 (bits .or .u32 8 6144)) hS ?_
  refine tA 3 (by kernel_rfl) (wpOp_step rfl fun K hK => ?_)
  go_simp
  refine hK _ _ ⟨hS, ?_⟩
  clear hK K
  refine yK 9 (.int .u32 (bits .andNot .u32 (c.mstatus) (bits .or .u32 8 6144))) hS ?_
  refine yK 10 (.pointer (some ⟨x, 35, none⟩)) hS ?_
  refine yK 11 (.pointer (some ⟨x, 35, none⟩)) hS ?_
  refine tA 12 (by kernel_rfl) (wpOp_step rfl fun K hK => ?_)
  go_simp
  have P1 := L0.out.put A hx (bits .andNot .u32 c.mstatus (bits .or .u32 8 6144))
  refine hK _ _ ⟨P1.t, wpAnyH_done (by kernel_rfl) ?_ _⟩
  clear hK K hS
  generalize (w0.setCell ⟨x, 35, none⟩ (.int .u32 (bits .andNot .u32 c.mstatus (bits .or .u32 8 6144)))).drew = w1 at P1 ⊢
  have L1 : Hid (Ly W w1 x r g { c with mstatus := bits .andNot .u32 c.mstatus (bits .or .u32 8 6144) } 8 128 6144 11) := P1
  clear P1
  by_cases hb : (bits .and .u32 c.mstatus 128 != 0) = true
  · have HE : Hid (backV c.mstatus 8 128 6144 = bits .or .u32 (bits .or .u32 (bits .andNot .u32 c.mstatus (bits .or .u32 8 6144)) 8) 128) := by
      unfold Hid backV
      rw [hb]
      rfl
    go_wp2_with fail
    have c2 : w1.cell? ⟨x, 35, none⟩ = some (.int .u32 (bits .andNot .u32 c.mstatus (bits .or .u32 8 6144))) := L1.out.c.mstatus
    have f2 := L1.out.c.fx
    have hS : T4 w1.drew g 8 128 6144 11 := L1.out.t.of rfl
    refine wp_region_held (S := fun w' => T4 w' g 8 128 6144 11) (by kernel_rfl) ?_
    change wpAnyH _ _ _ _ _ _ _ _ (w1.drew)
    refine yK 0 (.pointer (some ⟨x, 35, none⟩)) hS ?_
    refine yK 1 (.pointer (some ⟨x, 35, none⟩)) hS ?_
    refine yK 2 (.pointer (some ⟨x, 35, none⟩)) hS ?_
    refine yK 4 (.pointer (some ⟨g, 0, none⟩)) hS ?_
    refine yU 5 (fun _ h => h.c0) hS ?_
    refine tA 3 (by kernel_rfl) (wpOp_step rfl fun K hK => ?_)
    go_simp
    refine hK _ _ ⟨hS, ?_⟩
    clear hK K
    refine yK 6 (.int .u32 (bits .or .u32 ((bits .andNot .u32 c.mstatus (bits .or .u32 8 6144))) 8)) hS ?_
    refine yK 7 (.pointer (some ⟨x, 35, none⟩)) hS ?_
    refine yK 8 (.pointer (some ⟨x, 35, none⟩)) hS ?_
    refine tA 9 (by kernel_rfl) (wpOp_step rfl fun K hK => ?_)
    go_simp
    have P2 := L1.out.put A hx (bits .or .u32 (bits .andNot .u32 c.mstatus (bits .or .u32 8 6144)) 8)
    refine hK _ _ ⟨P2.t, wpAnyH_done (by kernel_rfl) ?_ _⟩
    clear hK K hS
    generalize (w1.setCell ⟨x, 35, none⟩ (.int .u32 (bits .or .u32 (bits .andNot .u32 c.mstatus (bits .or .u32 8 6144)) 8))).drew = w2 at P2 ⊢
    have L2 : Hid (Ly W w2 x r g { c with mstatus := bits .or .u32 (bits .andNot .u32 c.mstatus (bits .or .u32 8 6144)) 8 } 8 128 6144 11) := P2
    clear P2
    go_wp2_with fail
    have c3 : w2.cell? ⟨x, 35, none⟩ = some (.int .u32 (bits .or .u32 (bits .andNot .u32 c.mstatus (bits .or .u32 8 6144)) 8)) := L2.out.c.mstatus
    have f3 := L2.out.c.fx
    have hS : T4 w2.drew g 8 128 6144 11 := L2.out.t.of rfl
    refine wp_region_held (S := fun w' => T4 w' g 8 128 6144 11) (by kernel_rfl) ?_
    change wpAnyH _ _ _ _ _ _ _ _ (w2.drew)
    refine yK 0 (.pointer (some ⟨x, 35, none⟩)) hS ?_
    refine yK 1 (.pointer (some ⟨x, 35, none⟩)) hS ?_
    refine yK 2 (.pointer (some ⟨x, 35, none⟩)) hS ?_
    refine yK 4 (.pointer (some ⟨g, 1, none⟩)) hS ?_
    refine yU 5 (fun _ h => h.c1) hS ?_
    refine tA 3 (by kernel_rfl) (wpOp_step rfl fun K hK => ?_)
    go_simp
    refine hK _ _ ⟨hS, ?_⟩
    clear hK K
    refine yK 6 (.int .u32 (bits .or .u32 ((bits .or .u32 (bits .andNot .u32 c.mstatus (bits .or .u32 8 6144)) 8)) 128)) hS ?_
    refine yK 7 (.pointer (some ⟨x, 35, none⟩)) hS ?_
    refine yK 8 (.pointer (some ⟨x, 35, none⟩)) hS ?_
    refine tA 9 (by kernel_rfl) (wpOp_step rfl fun K hK => ?_)
    go_simp
    have P3 := L2.out.put A hx (bits .or .u32 (bits .or .u32 (bits .andNot .u32 c.mstatus (bits .or .u32 8 6144)) 8) 128)
    refine hK _ _ ⟨P3.t, wpAnyH_done (by kernel_rfl) ?_ _⟩
    clear hK K hS
    generalize (w2.setCell ⟨x, 35, none⟩ (.int .u32 (bits .or .u32 (bits .or .u32 (bits .andNot .u32 c.mstatus (bits .or .u32 8 6144)) 8) 128))).drew = w3 at P3 ⊢
    have L3 : Hid (Ly W w3 x r g { c with mstatus := bits .or .u32 (bits .or .u32 (bits .andNot .u32 c.mstatus (bits .or .u32 8 6144)) 8) 128 } 8 128 6144 11) := P3
    clear P3
    go_wp2_with fail
    go_ret
    exact ⟨rfl, by rw [HE.out]; exact L3.out.c, L3.out.o⟩
  · have hb : (bits .and .u32 c.mstatus 128 != 0) = false := by simpa using hb
    have HE : Hid (backV c.mstatus 8 128 6144 = bits .or .u32 (bits .andNot .u32 c.mstatus (bits .or .u32 8 6144)) 128) := by
      unfold Hid backV
      rw [hb]
      rfl
    go_wp2_with fail
    have c2 : w1.cell? ⟨x, 35, none⟩ = some (.int .u32 (bits .andNot .u32 c.mstatus (bits .or .u32 8 6144))) := L1.out.c.mstatus
    have f2 := L1.out.c.fx
    have hS : T4 w1.drew g 8 128 6144 11 := L1.out.t.of rfl
    refine wp_region_held (S := fun w' => T4 w' g 8 128 6144 11) (by kernel_rfl) ?_
    change wpAnyH _ _ _ _ _ _ _ _ (w1.drew)
    refine yK 0 (.pointer (some ⟨x, 35, none⟩)) hS ?_
    refine yK 1 (.pointer (some ⟨x, 35, none⟩)) hS ?_
    refine yK 2 (.pointer (some ⟨x, 35, none⟩)) hS ?_
    refine yK 4 (.pointer (some ⟨g, 1, none⟩)) hS ?_
    refine yU 5 (fun _ h => h.c1) hS ?_
    refine tA 3 (by kernel_rfl) (wpOp_step rfl fun K hK => ?_)
    go_simp
    refine hK _ _ ⟨hS, ?_⟩
    clear hK K
    refine yK 6 (.int .u32 (bits .or .u32 ((bits .andNot .u32 c.mstatus (bits .or .u32 8 6144))) 128)) hS ?_
    refine yK 7 (.pointer (some ⟨x, 35, none⟩)) hS ?_
    refine yK 8 (.pointer (some ⟨x, 35, none⟩)) hS ?_
    refine tA 9 (by kernel_rfl) (wpOp_step rfl fun K hK => ?_)
    go_simp
    have P2 := L1.out.put A hx (bits .or .u32 (bits .andNot .u32 c.mstatus (bits .or .u32 8 6144)) 128)
    refine hK _ _ ⟨P2.t, wpAnyH_done (by kernel_rfl) ?_ _⟩
    clear hK K hS
    generalize (w1.setCell ⟨x, 35, none⟩ (.int .u32 (bits .or .u32 (bits .andNot .u32 c.mstatus (bits .or .u32 8 6144)) 128))).drew = w2 at P2 ⊢
    have L2 : Hid (Ly W w2 x r g { c with mstatus := bits .or .u32 (bits .andNot .u32 c.mstatus (bits .or .u32 8 6144)) 128 } 8 128 6144 11) := P2
    clear P2
    go_wp2_with fail
    go_ret
    exact ⟨rfl, by rw [HE.out]; exact L2.out.c, L2.out.o⟩
end Go.Proofs.YteiideeechnekaaGreatDoor
