/-
  The code's access and system.
-/
import Derived.Test.YteiideeechnekaaGreatDoorCodeCsr
import Derived.Test.YteiideeechnekaaGreatDoorCodeSet
namespace Go.Proofs.YteiideeechnekaaGreatDoor
open Go.RowKit

theorem control_en (W : World) (x r : Nat) (c : CSt) (h : CodeAt W x r c) (T : T19 W) (k : Nat) (hk : k < 19) (n : Nat) (en : (n : Int) = numsR.getD k 0) :
    Calls Tryz.prog 163 #[.pointer (some ⟨x, 0, none⟩), .int .u32 n] W fun e W' => e = .returned (.tuple #[.int .u32 ((csrsC c).getD k 0), .bool true]) ∧ Below W.heap.size W W' := by
  rw [en]
  exact control_yes W x r c h T k hk
set_option maxHeartbeats 1000000 in
theorem acc_no (W : World) (x r : Nat) (c : CSt) (h : CodeAt W x r c) (A : x ≠ r) (T : T19 W) (m0 : 0 ≤ c.mode) (m3 : c.mode ≤ 3) (op : Int) (rd r1 r2 n : Nat) (w : Int) (hn : ∀ k, k < 19 → numsR.getD k 0 ≠ (n : Int)) : Calls Tryz.prog 155 #[.pointer (some ⟨x, 0, none⟩), .agg #[.int .i64 op, .int .i64 rd, .int .i64 r1, .int .i64 r2, .int .u32 n], .int .u32 w] W (CP W x r (excC c 2 w)) := by
  have B0 := At.new h op rd r1 r2 n 72
  have T0 : T19 (W.alloc (.cells #[.int .i64 op, .int .i64 rd, .int .i64 r1, .int .i64 r2, .int .u32 n] 72)) := T.of (by have := T.lt; simp; omega) fun k hk => heap_alloc_old _ _ (by have := T.lt; omega)
  have HC := control_no _ x r c B0.c T0 n hn
  have HL : Hid (W.heap.size ∉ [x, r]) := fun hk => by have := h.lt; simp at hk; omega
  clear T T0 h
  have d4 := B0.b.c4
  have A0 : Hid (At W (W.alloc (.cells #[.int .i64 op, .int .i64 rd, .int .i64 r1, .int .i64 r2, .int .u32 n] 72)) x r W.heap.size c op rd r1 r2 n) := B0
  clear B0
  go_enter Tryz.func155, Tryz.ntmps155
  go_wp2_with fail
  refine HC.mono ?_
  rintro e w1 ⟨rfl, hb1⟩
  have B1 := A0.out.below hb1
  clear hb1 d4 HC
  have d0 := B1.b.c0
  have d1 := B1.b.c1
  have d2 := B1.b.c2
  have d3 := B1.b.c3
  have d4 := B1.b.c4
  have A1 : Hid (At W w1 x r W.heap.size c op rd r1 r2 n) := B1
  clear B1
  go_wp2_with fail
  refine (exc_any _ x r c A1.out.c A m0 m3 2 (by decide) _).mono ?_
  rintro e w9 ⟨rfl, h9, o9⟩
  go_wp2_with fail
  exact bodyPost_ret (v := .tuple #[]) (by simp [results, Tryz.results155, go_sem]) rfl ⟨rfl, h9, A1.out.o.trans o9⟩
set_option maxHeartbeats 1000000 in
theorem acc_bad (W : World) (x r : Nat) (c : CSt) (h : CodeAt W x r c) (A : x ≠ r) (T : T19 W) (m0 : 0 ≤ c.mode) (m3 : c.mode ≤ 3) (op : Int) (rd r1 r2 n : Nat) (w : Int) (k : Nat) (hk : k < 19) (en : (n : Int) = numsR.getD k 0) (hn : n < 4096) (hm : mayC c n (wrB op r1) = false) : Calls Tryz.prog 155 #[.pointer (some ⟨x, 0, none⟩), .agg #[.int .i64 op, .int .i64 rd, .int .i64 r1, .int .i64 r2, .int .u32 n], .int .u32 w] W (CP W x r (excC c 2 w)) := by
  have B0 := At.new h op rd r1 r2 n 72
  have T0 : T19 (W.alloc (.cells #[.int .i64 op, .int .i64 rd, .int .i64 r1, .int .i64 r2, .int .u32 n] 72)) := T.of (by have := T.lt; simp; omega) fun k hk => heap_alloc_old _ _ (by have := T.lt; omega)
  have HC := control_en _ x r c B0.c T0 k hk n en
  have HL : Hid (W.heap.size ∉ [x, r]) := fun hk => by have := h.lt; simp at hk; omega
  clear T T0 h en
  have d4 := B0.b.c4
  have A0 : Hid (At W (W.alloc (.cells #[.int .i64 op, .int .i64 rd, .int .i64 r1, .int .i64 r2, .int .u32 n] 72)) x r W.heap.size c op rd r1 r2 n) := B0
  clear B0
  go_enter Tryz.func155, Tryz.ntmps155
  go_wp2_with fail
  refine HC.mono ?_
  rintro e w1 ⟨rfl, hb1⟩
  have B1 := A0.out.below hb1
  clear hb1 d4 HC
  have d0 := B1.b.c0
  have d1 := B1.b.c1
  have d2 := B1.b.c2
  have d3 := B1.b.c3
  have d4 := B1.b.c4
  have A1 : Hid (At W w1 x r W.heap.size c op rd r1 r2 n) := B1
  clear B1
  go_wp2_with fail
  refine (forb_any _ x r c A1.out.c m0 m3 op rd r1 r2 n hn).mono ?_
  rw [hm]
  rintro e w2 ⟨rfl, hb2⟩
  have B2 := A1.out.below hb2
  clear hb2 d0 d1 d2 d3 d4
  have d0 := B2.b.c0
  have d1 := B2.b.c1
  have d2 := B2.b.c2
  have d3 := B2.b.c3
  have d4 := B2.b.c4
  have A2 : Hid (At W w2 x r W.heap.size c op rd r1 r2 n) := B2
  clear B2
  go_wp2_with fail
  refine (exc_any _ x r c A2.out.c A m0 m3 2 (by decide) _).mono ?_
  rintro e w9 ⟨rfl, h9, o9⟩
  go_wp2_with fail
  exact bodyPost_ret (v := .tuple #[]) (by simp [results, Tryz.results155, go_sem]) rfl ⟨rfl, h9, A2.out.o.trans o9⟩
set_option maxHeartbeats 1000000 in
theorem acc_rd (W : World) (x r : Nat) (c : CSt) (h : CodeAt W x r c) (A : x ≠ r) (T : T19 W) (m0 : 0 ≤ c.mode) (m3 : c.mode ≤ 3) (op : Int) (rd r1 r2 n : Nat) (w : Int) (k : Nat) (hk : k < 19) (en : (n : Int) = numsR.getD k 0) (hn : n < 4096) (hm : mayC c n (wrB op r1) = true) (hw : wrB op r1 = false) (a : Int) (HO : ∀ W', CodeAt W' x r c → Calls Tryz.prog 165 #[.pointer (some ⟨x, 0, none⟩), .agg #[.int .i64 op, .int .i64 rd, .int .i64 r1, .int .i64 r2, .int .u32 n]] W' fun e W'' => e = .returned (.int .u32 a) ∧ Below W'.heap.size W' W'') (hrd : rd < 32) : Calls Tryz.prog 155 #[.pointer (some ⟨x, 0, none⟩), .agg #[.int .i64 op, .int .i64 rd, .int .i64 r1, .int .i64 r2, .int .u32 n], .int .u32 w] W (CP W x r (resC c rd ((csrsC c).getD k 0))) := by
  have HP : Hid (∀ W', CodeAt W' x r c → Calls Tryz.prog 165 #[.pointer (some ⟨x, 0, none⟩), .agg #[.int .i64 op, .int .i64 rd, .int .i64 r1, .int .i64 r2, .int .u32 n]] W' fun e W'' => e = .returned (.int .u32 a) ∧ Below W'.heap.size W' W'') := HO
  clear HO
  have B0 := At.new h op rd r1 r2 n 72
  have T0 : T19 (W.alloc (.cells #[.int .i64 op, .int .i64 rd, .int .i64 r1, .int .i64 r2, .int .u32 n] 72)) := T.of (by have := T.lt; simp; omega) fun k hk => heap_alloc_old _ _ (by have := T.lt; omega)
  have HC := control_en _ x r c B0.c T0 k hk n en
  have HL : Hid (W.heap.size ∉ [x, r]) := fun hk => by have := h.lt; simp at hk; omega
  clear T T0 h en
  have d4 := B0.b.c4
  have A0 : Hid (At W (W.alloc (.cells #[.int .i64 op, .int .i64 rd, .int .i64 r1, .int .i64 r2, .int .u32 n] 72)) x r W.heap.size c op rd r1 r2 n) := B0
  clear B0
  go_enter Tryz.func155, Tryz.ntmps155
  go_wp2_with fail
  refine HC.mono ?_
  rintro e w1 ⟨rfl, hb1⟩
  have B1 := A0.out.below hb1
  clear hb1 d4 HC
  have d0 := B1.b.c0
  have d1 := B1.b.c1
  have d2 := B1.b.c2
  have d3 := B1.b.c3
  have d4 := B1.b.c4
  have A1 : Hid (At W w1 x r W.heap.size c op rd r1 r2 n) := B1
  clear B1
  go_wp2_with fail
  refine (forb_any _ x r c A1.out.c m0 m3 op rd r1 r2 n hn).mono ?_
  rw [hm]
  rintro e w2 ⟨rfl, hb2⟩
  have B2 := A1.out.below hb2
  clear hb2 d0 d1 d2 d3 d4
  have d0 := B2.b.c0
  have d1 := B2.b.c1
  have d2 := B2.b.c2
  have d3 := B2.b.c3
  have d4 := B2.b.c4
  have A2 : Hid (At W w2 x r W.heap.size c op rd r1 r2 n) := B2
  clear B2
  go_wp2_with fail
  refine (HP.out _ A2.out.c).mono ?_
  rintro e w3 ⟨rfl, hb3⟩
  have B3 := A2.out.below hb3
  clear hb3 d0 d1 d2 d3 d4
  have d0 := B3.b.c0
  have d1 := B3.b.c1
  have d2 := B3.b.c2
  have d3 := B3.b.c3
  have d4 := B3.b.c4
  have A3 : Hid (At W w3 x r W.heap.size c op rd r1 r2 n) := B3
  clear B3
  go_wp2_with fail
  refine (result_c _ x r c A3.out.c A rd hrd _).mono ?_
  rintro e w4 ⟨rfl, h4, o4⟩
  have B4 : At W w4 x r W.heap.size (resC c rd ((csrsC c).getD k 0)) op rd r1 r2 n := ⟨h4, A3.out.b.offs o4 HL.out, A3.out.o.trans o4⟩
  clear h4 o4 d0 d1 d2 d3 d4
  have d0 := B4.b.c0
  have d1 := B4.b.c1
  have d2 := B4.b.c2
  have d3 := B4.b.c3
  have d4 := B4.b.c4
  have A4 : Hid (At W w4 x r W.heap.size (resC c rd ((csrsC c).getD k 0)) op rd r1 r2 n) := B4
  clear B4
  go_wp2_with fail
  refine (writes_any _ op rd r1 r2 n).mono ?_
  rw [hw]
  rintro e w5 ⟨rfl, hb5⟩
  have B5 := A4.out.below hb5
  clear hb5 d0 d1 d2 d3 d4
  go_wp2_with fail
  go_end0
  exact ⟨rfl, B5.c, B5.o⟩
set_option maxHeartbeats 1000000 in
theorem acc_wr (W : World) (x r : Nat) (c : CSt) (h : CodeAt W x r c) (A : x ≠ r) (T : T19 W) (m0 : 0 ≤ c.mode) (m3 : c.mode ≤ 3) (op : Int) (rd r1 r2 n : Nat) (w : Int) (k : Nat) (hk : k < 19) (en : (n : Int) = numsR.getD k 0) (hn : n < 4096) (hm : mayC c n (wrB op r1) = true) (hw : wrB op r1 = true) (a : Int) (HO : ∀ W', CodeAt W' x r c → Calls Tryz.prog 165 #[.pointer (some ⟨x, 0, none⟩), .agg #[.int .i64 op, .int .i64 rd, .int .i64 r1, .int .i64 r2, .int .u32 n]] W' fun e W'' => e = .returned (.int .u32 a) ∧ Below W'.heap.size W' W'') (hrd : rd < 32) (z : Int) (HZ : ∀ W', Calls Tryz.prog 168 #[.int .i64 op, .int .u32 ((csrsC c).getD k 0), .int .u32 a] W' fun e W'' => e = .returned (.int .u32 z) ∧ W'' = W') (hnn : n ∈ [256, 260, 261, 320, 321, 322, 323, 324, 768, 770, 771, 772, 773, 832, 833, 834, 835, 836, 3860]) : Calls Tryz.prog 155 #[.pointer (some ⟨x, 0, none⟩), .agg #[.int .i64 op, .int .i64 rd, .int .i64 r1, .int .i64 r2, .int .u32 n], .int .u32 w] W (CP W x r (setC (resC c rd ((csrsC c).getD k 0)) n z)) := by
  have HZ' : Hid (∀ W', Calls Tryz.prog 168 #[.int .i64 op, .int .u32 ((csrsC c).getD k 0), .int .u32 a] W' fun e W'' => e = .returned (.int .u32 z) ∧ W'' = W') := HZ
  clear HZ
  have HP : Hid (∀ W', CodeAt W' x r c → Calls Tryz.prog 165 #[.pointer (some ⟨x, 0, none⟩), .agg #[.int .i64 op, .int .i64 rd, .int .i64 r1, .int .i64 r2, .int .u32 n]] W' fun e W'' => e = .returned (.int .u32 a) ∧ Below W'.heap.size W' W'') := HO
  clear HO
  have B0 := At.new h op rd r1 r2 n 72
  have T0 : T19 (W.alloc (.cells #[.int .i64 op, .int .i64 rd, .int .i64 r1, .int .i64 r2, .int .u32 n] 72)) := T.of (by have := T.lt; simp; omega) fun k hk => heap_alloc_old _ _ (by have := T.lt; omega)
  have HC := control_en _ x r c B0.c T0 k hk n en
  have HL : Hid (W.heap.size ∉ [x, r]) := fun hk => by have := h.lt; simp at hk; omega
  clear T T0 h en
  have d4 := B0.b.c4
  have A0 : Hid (At W (W.alloc (.cells #[.int .i64 op, .int .i64 rd, .int .i64 r1, .int .i64 r2, .int .u32 n] 72)) x r W.heap.size c op rd r1 r2 n) := B0
  clear B0
  go_enter Tryz.func155, Tryz.ntmps155
  go_wp2_with fail
  refine HC.mono ?_
  rintro e w1 ⟨rfl, hb1⟩
  have B1 := A0.out.below hb1
  clear hb1 d4 HC
  have d0 := B1.b.c0
  have d1 := B1.b.c1
  have d2 := B1.b.c2
  have d3 := B1.b.c3
  have d4 := B1.b.c4
  have A1 : Hid (At W w1 x r W.heap.size c op rd r1 r2 n) := B1
  clear B1
  go_wp2_with fail
  refine (forb_any _ x r c A1.out.c m0 m3 op rd r1 r2 n hn).mono ?_
  rw [hm]
  rintro e w2 ⟨rfl, hb2⟩
  have B2 := A1.out.below hb2
  clear hb2 d0 d1 d2 d3 d4
  have d0 := B2.b.c0
  have d1 := B2.b.c1
  have d2 := B2.b.c2
  have d3 := B2.b.c3
  have d4 := B2.b.c4
  have A2 : Hid (At W w2 x r W.heap.size c op rd r1 r2 n) := B2
  clear B2
  go_wp2_with fail
  refine (HP.out _ A2.out.c).mono ?_
  rintro e w3 ⟨rfl, hb3⟩
  have B3 := A2.out.below hb3
  clear hb3 d0 d1 d2 d3 d4
  have d0 := B3.b.c0
  have d1 := B3.b.c1
  have d2 := B3.b.c2
  have d3 := B3.b.c3
  have d4 := B3.b.c4
  have A3 : Hid (At W w3 x r W.heap.size c op rd r1 r2 n) := B3
  clear B3
  go_wp2_with fail
  refine (result_c _ x r c A3.out.c A rd hrd _).mono ?_
  rintro e w4 ⟨rfl, h4, o4⟩
  have B4 : At W w4 x r W.heap.size (resC c rd ((csrsC c).getD k 0)) op rd r1 r2 n := ⟨h4, A3.out.b.offs o4 HL.out, A3.out.o.trans o4⟩
  clear h4 o4 d0 d1 d2 d3 d4
  have d0 := B4.b.c0
  have d1 := B4.b.c1
  have d2 := B4.b.c2
  have d3 := B4.b.c3
  have d4 := B4.b.c4
  have A4 : Hid (At W w4 x r W.heap.size (resC c rd ((csrsC c).getD k 0)) op rd r1 r2 n) := B4
  clear B4
  go_wp2_with fail
  refine (writes_any _ op rd r1 r2 n).mono ?_
  rw [hw]
  rintro e w5 ⟨rfl, hb5⟩
  have B5 := A4.out.below hb5
  clear hb5 d0 d1 d2 d3 d4
  have d0 := B5.b.c0
  have d1 := B5.b.c1
  have d2 := B5.b.c2
  have d3 := B5.b.c3
  have d4 := B5.b.c4
  have A5 : Hid (At W w5 x r W.heap.size (resC c rd ((csrsC c).getD k 0)) op rd r1 r2 n) := B5
  clear B5
  go_wp2_with fail
  have C5 : Hid (CodeAt w5.drew x r (resC c rd ((csrsC c).getD k 0))) := A5.out.c.drawn 1
  have O5 : Hid (Offs [x, r] W w5.drew) := A5.out.o.drawn 1
  have hS : w5.drew.cell? ⟨W.heap.size, 0, none⟩ = some (.int .i64 op) ∧ w5.drew.cell? ⟨W.heap.size, 4, none⟩ = some (.int .u32 n) := ⟨d0, d4⟩
  have HG : Hid (W.heap.size < w5.drew.heap.size ∧ W.heap.size ∉ [x, r]) := ⟨A5.out.b.lt, HL.out⟩
  clear d0 d1 d2 d3 d4 A0 A1 A2 A3 A4 A5 HL
  generalize W.heap.size = g at hS HG ⊢
  generalize hV : (csrsC c).getD k 0 = V at HZ' C5 ⊢
  have HV : Hid ((csrsC c).getD k 0 = V) := hV
  clear hV
  refine wp_region_held (S := fun w' => w'.cell? ⟨g, 0, none⟩ = some (.int .i64 op) ∧ w'.cell? ⟨g, 4, none⟩ = some (.int .u32 n)) (by kernel_rfl) ?_
  change wpAnyH _ _ _ _ _ _ _ _ (w5.drew)
  refine yK 0 (.pointer (some ⟨x, 0, none⟩)) hS ?_
  refine yK 1 (.pointer (some ⟨x, 0, none⟩)) hS ?_
  refine yK 2 (.pointer (some ⟨x, 35, none⟩)) hS ?_
  refine yK 3 (.pointer (some ⟨g, 4, none⟩)) hS ?_
  refine yU 4 (fun _ h => h.2) hS ?_
  refine yK 5 (.pointer (some ⟨g, 0, none⟩)) hS ?_
  refine yI 6 (fun _ h => h.1) hS ?_
  refine yK 7 (.int .u32 V) hS ?_
  refine yK 8 (.int .u32 a) hS ?_
  refine tA 9 (by kernel_rfl) (wpOp_step rfl fun K hK => ?_)
  go_simp
  refine (HZ'.out _).mono ?_
  rintro e w' ⟨rfl, hw⟩
  rw [hw]
  clear hw w'
  refine hK _ _ ⟨hS, ?_⟩
  clear hK K
  refine tA 10 (by kernel_rfl) (wpOp_step rfl fun K hK => ?_)
  go_simp
  refine (cset_any _ x r _ C5.out A n hnn z).mono ?_
  rintro e w6 ⟨rfl, h6, o6⟩
  have hS6 : w6.cell? ⟨g, 0, none⟩ = some (.int .i64 op) ∧ w6.cell? ⟨g, 4, none⟩ = some (.int .u32 n) := by
    have b3 := fun j => World.cell?_of_block (w := w5.drew) (a := ⟨g, j, none⟩) (o6.block g HG.out.1 HG.out.2)
    exact ⟨(b3 0).trans hS.1, (b3 4).trans hS.2⟩
  refine hK _ _ ⟨hS6, wpAnyH_done (by kernel_rfl) ?_ _⟩
  clear hK K
  go_wp2_with fail
  go_end0
  exact ⟨rfl, by first | exact h6 | (rw [HV.out]; exact h6), O5.out.trans o6⟩
def accC (c : CSt) (op : Int) (rd r1 n : Nat) (w old : Int) : CSt := if mayC c n (wrB op r1) then (if wrB op r1 then setC (resC c rd old) n (ctlV op old (c.regs[r1]?.getD 0) r1) else resC c rd old) else excC c 2 w
theorem acc_gen (W : World) (x r : Nat) (c : CSt) (h : CodeAt W x r c) (A : x ≠ r) (T : T19 W) (m0 : 0 ≤ c.mode) (m3 : c.mode ≤ 3) (op : Int) (rd r1 r2 n : Nat) (w : Int) (k : Nat) (hk : k < 19) (en : (n : Int) = numsR.getD k 0) (hn : n < 4096) (hrd : rd < 32) (hnn : n ∈ [256, 260, 261, 320, 321, 322, 323, 324, 768, 770, 771, 772, 773, 832, 833, 834, 835, 836, 3860]) (a : Int) (HO : ∀ W', CodeAt W' x r c → Calls Tryz.prog 165 #[.pointer (some ⟨x, 0, none⟩), .agg #[.int .i64 op, .int .i64 rd, .int .i64 r1, .int .i64 r2, .int .u32 n]] W' fun e W'' => e = .returned (.int .u32 a) ∧ Below W'.heap.size W' W'')
    (HZ : ∀ W', Calls Tryz.prog 168 #[.int .i64 op, .int .u32 ((csrsC c).getD k 0), .int .u32 a] W' fun e W'' => e = .returned (.int .u32 (ctlV op ((csrsC c).getD k 0) (c.regs[r1]?.getD 0) r1)) ∧ W'' = W') : Calls Tryz.prog 155 #[.pointer (some ⟨x, 0, none⟩), .agg #[.int .i64 op, .int .i64 rd, .int .i64 r1, .int .i64 r2, .int .u32 n], .int .u32 w] W (CP W x r (accC c op rd r1 n w ((csrsC c).getD k 0))) := by
  unfold accC
  by_cases hm : mayC c n (wrB op r1) = true
  · rw [if_pos hm]
    by_cases hw : wrB op r1 = true
    · rw [if_pos hw]
      exact acc_wr W x r c h A T m0 m3 op rd r1 r2 n w k hk en hn hm hw a HO hrd _ HZ hnn
    · rw [if_neg hw]
      exact acc_rd W x r c h A T m0 m3 op rd r1 r2 n w k hk en hn hm (by simpa using hw) a HO hrd
  · rw [if_neg hm]
    exact acc_bad W x r c h A T m0 m3 op rd r1 r2 n w k hk en hn (by simpa using hm)
theorem acc_any (W : World) (x r : Nat) (c : CSt) (h : CodeAt W x r c) (A : x ≠ r) (T : T19 W) (m0 : 0 ≤ c.mode) (m3 : c.mode ≤ 3) (op : Int) (rd r1 r2 n : Nat) (w : Int) (ho : 44 ≤ op ∧ op ≤ 49) (z : c.regs[0]?.getD 0 = 0) (k : Nat) (hk : k < 19) (en : (n : Int) = numsR.getD k 0) (hn : n < 4096) (hrd : rd < 32) (hr1 : r1 < 32) (hnn : n ∈ [256, 260, 261, 320, 321, 322, 323, 324, 768, 770, 771, 772, 773, 832, 833, 834, 835, 836, 3860]) : Calls Tryz.prog 155 #[.pointer (some ⟨x, 0, none⟩), .agg #[.int .i64 op, .int .i64 rd, .int .i64 r1, .int .i64 r2, .int .u32 n], .int .u32 w] W (CP W x r (accC c op rd r1 n w ((csrsC c).getD k 0))) := by
  have hop : op = 44 ∨ op = 45 ∨ op = 46 ∨ op = 47 ∨ op = 48 ∨ op = 49 := by omega
  rcases hop with rfl | rfl | rfl | rfl | rfl | rfl
  · exact acc_gen W x r c h A T m0 m3 44 rd r1 r2 n w k hk en hn hrd hnn _ (fun W' h' => operand_44 W' x r c h' z rd r1 r2 hr1 n) (fun W' => alt_44 W' _ _)
  · exact acc_gen W x r c h A T m0 m3 45 rd r1 r2 n w k hk en hn hrd hnn _ (fun W' h' => operand_45 W' x r c h' z rd r1 r2 hr1 n) (fun W' => alt_45 W' _ _)
  · exact acc_gen W x r c h A T m0 m3 46 rd r1 r2 n w k hk en hn hrd hnn _ (fun W' h' => operand_46 W' x r c h' z rd r1 r2 hr1 n) (fun W' => alt_46 W' _ _)
  · exact acc_gen W x r c h A T m0 m3 47 rd r1 r2 n w k hk en hn hrd hnn _ (fun W' h' => operand_47 W' x r c h' rd r1 r2 hr1 n) (fun W' => alt_47 W' _ _)
  · exact acc_gen W x r c h A T m0 m3 48 rd r1 r2 n w k hk en hn hrd hnn _ (fun W' h' => operand_48 W' x r c h' rd r1 r2 hr1 n) (fun W' => alt_48 W' _ _)
  · exact acc_gen W x r c h A T m0 m3 49 rd r1 r2 n w k hk en hn hrd hnn _ (fun W' h' => operand_49 W' x r c h' rd r1 r2 hr1 n) (fun W' => alt_49 W' _ _)
theorem sys_39_0 (W : World) (x r : Nat) (c : CSt) (h : CodeAt W x r c) (A : x ≠ r) (rd r1 r2 n : Nat) (w : Int) (hm : c.mode = 0) : Calls Tryz.prog 118 #[.pointer (some ⟨x, 0, none⟩), .agg #[.int .i64 39, .int .i64 rd, .int .i64 r1, .int .i64 r2, .int .u32 n], .int .u32 w] W (CP W x r (excC c 8 0)) := by
  have A0 : Hid (At W (W.alloc (.cells #[.int .i64 39, .int .i64 rd, .int .i64 r1, .int .i64 r2, .int .u32 n] 72)) x r W.heap.size c 39 rd r1 r2 n) := At.new h 39 rd r1 r2 n 72
  clear h
  go_enter Tryz.func118, Tryz.ntmps118
  go_wp2_with (go_at_call 151; refine (call_0 _ x r c A0.out.c A hm).mono ?_; rintro e w9 ⟨rfl, h9, o9⟩)
  go_end0
  exact ⟨rfl, h9, A0.out.o.trans o9⟩
theorem sys_39_1 (W : World) (x r : Nat) (c : CSt) (h : CodeAt W x r c) (A : x ≠ r) (rd r1 r2 n : Nat) (w : Int) (hm : c.mode = 1) : Calls Tryz.prog 118 #[.pointer (some ⟨x, 0, none⟩), .agg #[.int .i64 39, .int .i64 rd, .int .i64 r1, .int .i64 r2, .int .u32 n], .int .u32 w] W (CP W x r (excC c 9 0)) := by
  have A0 : Hid (At W (W.alloc (.cells #[.int .i64 39, .int .i64 rd, .int .i64 r1, .int .i64 r2, .int .u32 n] 72)) x r W.heap.size c 39 rd r1 r2 n) := At.new h 39 rd r1 r2 n 72
  clear h
  go_enter Tryz.func118, Tryz.ntmps118
  go_wp2_with (go_at_call 151; refine (call_1 _ x r c A0.out.c A hm).mono ?_; rintro e w9 ⟨rfl, h9, o9⟩)
  go_end0
  exact ⟨rfl, h9, A0.out.o.trans o9⟩
theorem sys_39_3 (W : World) (x r : Nat) (c : CSt) (h : CodeAt W x r c) (A : x ≠ r) (rd r1 r2 n : Nat) (w : Int) (hm : c.mode = 3) : Calls Tryz.prog 118 #[.pointer (some ⟨x, 0, none⟩), .agg #[.int .i64 39, .int .i64 rd, .int .i64 r1, .int .i64 r2, .int .u32 n], .int .u32 w] W (CP W x r (excC c 11 0)) := by
  have A0 : Hid (At W (W.alloc (.cells #[.int .i64 39, .int .i64 rd, .int .i64 r1, .int .i64 r2, .int .u32 n] 72)) x r W.heap.size c 39 rd r1 r2 n) := At.new h 39 rd r1 r2 n 72
  clear h
  go_enter Tryz.func118, Tryz.ntmps118
  go_wp2_with (go_at_call 151; refine (call_3 _ x r c A0.out.c A hm).mono ?_; rintro e w9 ⟨rfl, h9, o9⟩)
  go_end0
  exact ⟨rfl, h9, A0.out.o.trans o9⟩
theorem sys_40 (W : World) (x r : Nat) (c : CSt) (h : CodeAt W x r c) (A : x ≠ r) (rd r1 r2 n : Nat) (w : Int) (m0 : 0 ≤ c.mode) (m3 : c.mode ≤ 3) : Calls Tryz.prog 118 #[.pointer (some ⟨x, 0, none⟩), .agg #[.int .i64 40, .int .i64 rd, .int .i64 r1, .int .i64 r2, .int .u32 n], .int .u32 w] W (CP W x r (excC c 3 c.pc)) := by
  have A0 : Hid (At W (W.alloc (.cells #[.int .i64 40, .int .i64 rd, .int .i64 r1, .int .i64 r2, .int .u32 n] 72)) x r W.heap.size c 40 rd r1 r2 n) := At.new h 40 rd r1 r2 n 72
  have c9 := A0.out.c.pc
  clear h
  go_enter Tryz.func118, Tryz.ntmps118
  go_wp2_with (go_at_call 79; refine (exc_any _ x r c A0.out.c A m0 m3 3 (by decide) _).mono ?_; rintro e w9 ⟨rfl, h9, o9⟩)
  go_end0
  exact ⟨rfl, h9, A0.out.o.trans o9⟩
theorem sys_41_3 (W : World) (x r : Nat) (c : CSt) (h : CodeAt W x r c) (A : x ≠ r) (rd r1 r2 n : Nat) (w : Int) (hs : W32 c.mstatus) (hm : c.mode = 3) : Calls Tryz.prog 118 #[.pointer (some ⟨x, 0, none⟩), .agg #[.int .i64 41, .int .i64 rd, .int .i64 r1, .int .i64 r2, .int .u32 n], .int .u32 w] W (CP W x r (leaM c)) := by
  have A0 : Hid (At W (W.alloc (.cells #[.int .i64 41, .int .i64 rd, .int .i64 r1, .int .i64 r2, .int .u32 n] 72)) x r W.heap.size c 41 rd r1 r2 n) := At.new h 41 rd r1 r2 n 72
  clear h
  go_enter Tryz.func118, Tryz.ntmps118
  go_wp2_with (go_at_call 152; refine (mret_3 _ x r c A0.out.c A hs w hm).mono ?_; rintro e w9 ⟨rfl, h9, o9⟩)
  go_end0
  exact ⟨rfl, h9, A0.out.o.trans o9⟩
theorem sys_41_n (W : World) (x r : Nat) (c : CSt) (h : CodeAt W x r c) (A : x ≠ r) (rd r1 r2 n : Nat) (w : Int) (m0 : 0 ≤ c.mode) (m3 : c.mode ≤ 3) (hm : c.mode ≠ 3) : Calls Tryz.prog 118 #[.pointer (some ⟨x, 0, none⟩), .agg #[.int .i64 41, .int .i64 rd, .int .i64 r1, .int .i64 r2, .int .u32 n], .int .u32 w] W (CP W x r (excC c 2 w)) := by
  have A0 : Hid (At W (W.alloc (.cells #[.int .i64 41, .int .i64 rd, .int .i64 r1, .int .i64 r2, .int .u32 n] 72)) x r W.heap.size c 41 rd r1 r2 n) := At.new h 41 rd r1 r2 n 72
  clear h
  go_enter Tryz.func118, Tryz.ntmps118
  go_wp2_with (go_at_call 152; refine (mret_n _ x r c A0.out.c A m0 m3 w hm).mono ?_; rintro e w9 ⟨rfl, h9, o9⟩)
  go_end0
  exact ⟨rfl, h9, A0.out.o.trans o9⟩
theorem sys_42_3 (W : World) (x r : Nat) (c : CSt) (h : CodeAt W x r c) (A : x ≠ r) (rd r1 r2 n : Nat) (w : Int) (hs : W32 c.mstatus) (hm : c.mode = 3) : Calls Tryz.prog 118 #[.pointer (some ⟨x, 0, none⟩), .agg #[.int .i64 42, .int .i64 rd, .int .i64 r1, .int .i64 r2, .int .u32 n], .int .u32 w] W (CP W x r (leaS c)) := by
  have A0 : Hid (At W (W.alloc (.cells #[.int .i64 42, .int .i64 rd, .int .i64 r1, .int .i64 r2, .int .u32 n] 72)) x r W.heap.size c 42 rd r1 r2 n) := At.new h 42 rd r1 r2 n 72
  clear h
  go_enter Tryz.func118, Tryz.ntmps118
  go_wp2_with (go_at_call 153; refine (sret_3 _ x r c A0.out.c A hs w hm).mono ?_; rintro e w9 ⟨rfl, h9, o9⟩)
  go_end0
  exact ⟨rfl, h9, A0.out.o.trans o9⟩
theorem sys_42_0 (W : World) (x r : Nat) (c : CSt) (h : CodeAt W x r c) (A : x ≠ r) (rd r1 r2 n : Nat) (w : Int) (hm : c.mode = 0) : Calls Tryz.prog 118 #[.pointer (some ⟨x, 0, none⟩), .agg #[.int .i64 42, .int .i64 rd, .int .i64 r1, .int .i64 r2, .int .u32 n], .int .u32 w] W (CP W x r (excC c 2 w)) := by
  have A0 : Hid (At W (W.alloc (.cells #[.int .i64 42, .int .i64 rd, .int .i64 r1, .int .i64 r2, .int .u32 n] 72)) x r W.heap.size c 42 rd r1 r2 n) := At.new h 42 rd r1 r2 n 72
  clear h
  go_enter Tryz.func118, Tryz.ntmps118
  go_wp2_with (go_at_call 153; refine (sret_0 _ x r c A0.out.c A w hm).mono ?_; rintro e w9 ⟨rfl, h9, o9⟩)
  go_end0
  exact ⟨rfl, h9, A0.out.o.trans o9⟩
theorem sys_42_1t (W : World) (x r : Nat) (c : CSt) (h : CodeAt W x r c) (A : x ≠ r) (rd r1 r2 n : Nat) (w : Int) (hm : c.mode = 1) (hb : (bits .and .u32 c.mstatus 4194304 != 0) = true) : Calls Tryz.prog 118 #[.pointer (some ⟨x, 0, none⟩), .agg #[.int .i64 42, .int .i64 rd, .int .i64 r1, .int .i64 r2, .int .u32 n], .int .u32 w] W (CP W x r (excC c 2 w)) := by
  have A0 : Hid (At W (W.alloc (.cells #[.int .i64 42, .int .i64 rd, .int .i64 r1, .int .i64 r2, .int .u32 n] 72)) x r W.heap.size c 42 rd r1 r2 n) := At.new h 42 rd r1 r2 n 72
  clear h
  go_enter Tryz.func118, Tryz.ntmps118
  go_wp2_with (go_at_call 153; refine (sret_1t _ x r c A0.out.c A w hm hb).mono ?_; rintro e w9 ⟨rfl, h9, o9⟩)
  go_end0
  exact ⟨rfl, h9, A0.out.o.trans o9⟩
theorem sys_42_1f (W : World) (x r : Nat) (c : CSt) (h : CodeAt W x r c) (A : x ≠ r) (rd r1 r2 n : Nat) (w : Int) (hs : W32 c.mstatus) (hm : c.mode = 1) (hb : (bits .and .u32 c.mstatus 4194304 != 0) = false) : Calls Tryz.prog 118 #[.pointer (some ⟨x, 0, none⟩), .agg #[.int .i64 42, .int .i64 rd, .int .i64 r1, .int .i64 r2, .int .u32 n], .int .u32 w] W (CP W x r (leaS c)) := by
  have A0 : Hid (At W (W.alloc (.cells #[.int .i64 42, .int .i64 rd, .int .i64 r1, .int .i64 r2, .int .u32 n] 72)) x r W.heap.size c 42 rd r1 r2 n) := At.new h 42 rd r1 r2 n 72
  clear h
  go_enter Tryz.func118, Tryz.ntmps118
  go_wp2_with (go_at_call 153; refine (sret_1f _ x r c A0.out.c A hs w hm hb).mono ?_; rintro e w9 ⟨rfl, h9, o9⟩)
  go_end0
  exact ⟨rfl, h9, A0.out.o.trans o9⟩
theorem sys_43_3 (W : World) (x r : Nat) (c : CSt) (h : CodeAt W x r c) (A : x ≠ r) (rd r1 r2 n : Nat) (w : Int) (hm : c.mode = 3) : Calls Tryz.prog 118 #[.pointer (some ⟨x, 0, none⟩), .agg #[.int .i64 43, .int .i64 rd, .int .i64 r1, .int .i64 r2, .int .u32 n], .int .u32 w] W (CP W x r ({ c with pc := (c.pc + 4) % 4294967296, asleep := true })) := by
  have A0 : Hid (At W (W.alloc (.cells #[.int .i64 43, .int .i64 rd, .int .i64 r1, .int .i64 r2, .int .u32 n] 72)) x r W.heap.size c 43 rd r1 r2 n) := At.new h 43 rd r1 r2 n 72
  clear h
  go_enter Tryz.func118, Tryz.ntmps118
  go_wp2_with (go_at_call 154; refine (wfi_3 _ x r c A0.out.c A w hm).mono ?_; rintro e w9 ⟨rfl, h9, o9⟩)
  go_end0
  exact ⟨rfl, h9, A0.out.o.trans o9⟩
theorem sys_43_0 (W : World) (x r : Nat) (c : CSt) (h : CodeAt W x r c) (A : x ≠ r) (rd r1 r2 n : Nat) (w : Int) (hm : c.mode = 0) : Calls Tryz.prog 118 #[.pointer (some ⟨x, 0, none⟩), .agg #[.int .i64 43, .int .i64 rd, .int .i64 r1, .int .i64 r2, .int .u32 n], .int .u32 w] W (CP W x r (excC c 2 w)) := by
  have A0 : Hid (At W (W.alloc (.cells #[.int .i64 43, .int .i64 rd, .int .i64 r1, .int .i64 r2, .int .u32 n] 72)) x r W.heap.size c 43 rd r1 r2 n) := At.new h 43 rd r1 r2 n 72
  clear h
  go_enter Tryz.func118, Tryz.ntmps118
  go_wp2_with (go_at_call 154; refine (wfi_0 _ x r c A0.out.c A w hm).mono ?_; rintro e w9 ⟨rfl, h9, o9⟩)
  go_end0
  exact ⟨rfl, h9, A0.out.o.trans o9⟩
theorem sys_43_1t (W : World) (x r : Nat) (c : CSt) (h : CodeAt W x r c) (A : x ≠ r) (rd r1 r2 n : Nat) (w : Int) (hm : c.mode = 1) (hb : (bits .and .u32 c.mstatus 2097152 != 0) = true) : Calls Tryz.prog 118 #[.pointer (some ⟨x, 0, none⟩), .agg #[.int .i64 43, .int .i64 rd, .int .i64 r1, .int .i64 r2, .int .u32 n], .int .u32 w] W (CP W x r (excC c 2 w)) := by
  have A0 : Hid (At W (W.alloc (.cells #[.int .i64 43, .int .i64 rd, .int .i64 r1, .int .i64 r2, .int .u32 n] 72)) x r W.heap.size c 43 rd r1 r2 n) := At.new h 43 rd r1 r2 n 72
  clear h
  go_enter Tryz.func118, Tryz.ntmps118
  go_wp2_with (go_at_call 154; refine (wfi_1t _ x r c A0.out.c A w hm hb).mono ?_; rintro e w9 ⟨rfl, h9, o9⟩)
  go_end0
  exact ⟨rfl, h9, A0.out.o.trans o9⟩
theorem sys_43_1f (W : World) (x r : Nat) (c : CSt) (h : CodeAt W x r c) (A : x ≠ r) (rd r1 r2 n : Nat) (w : Int) (hm : c.mode = 1) (hb : (bits .and .u32 c.mstatus 2097152 != 0) = false) : Calls Tryz.prog 118 #[.pointer (some ⟨x, 0, none⟩), .agg #[.int .i64 43, .int .i64 rd, .int .i64 r1, .int .i64 r2, .int .u32 n], .int .u32 w] W (CP W x r ({ c with pc := (c.pc + 4) % 4294967296, asleep := true })) := by
  have A0 : Hid (At W (W.alloc (.cells #[.int .i64 43, .int .i64 rd, .int .i64 r1, .int .i64 r2, .int .u32 n] 72)) x r W.heap.size c 43 rd r1 r2 n) := At.new h 43 rd r1 r2 n 72
  clear h
  go_enter Tryz.func118, Tryz.ntmps118
  go_wp2_with (go_at_call 154; refine (wfi_1f _ x r c A0.out.c A w hm hb).mono ?_; rintro e w9 ⟨rfl, h9, o9⟩)
  go_end0
  exact ⟨rfl, h9, A0.out.o.trans o9⟩
theorem sys_44 (W : World) (x r : Nat) (c : CSt) (h : CodeAt W x r c) (rd r1 r2 n : Nat) (w : Int) (st : CSt) (AC : ∀ W', CodeAt W' x r c → Below W.heap.size W W' → Calls Tryz.prog 155 #[.pointer (some ⟨x, 0, none⟩), .agg #[.int .i64 44, .int .i64 rd, .int .i64 r1, .int .i64 r2, .int .u32 n], .int .u32 w] W' (CP W' x r st)) : Calls Tryz.prog 118 #[.pointer (some ⟨x, 0, none⟩), .agg #[.int .i64 44, .int .i64 rd, .int .i64 r1, .int .i64 r2, .int .u32 n], .int .u32 w] W (CP W x r (st)) := by
  have A0 : Hid (At W (W.alloc (.cells #[.int .i64 44, .int .i64 rd, .int .i64 r1, .int .i64 r2, .int .u32 n] 72)) x r W.heap.size c 44 rd r1 r2 n) := At.new h 44 rd r1 r2 n 72
  have HA : Hid (∀ W', CodeAt W' x r c → Below W.heap.size W W' → Calls Tryz.prog 155 #[.pointer (some ⟨x, 0, none⟩), .agg #[.int .i64 44, .int .i64 rd, .int .i64 r1, .int .i64 r2, .int .u32 n], .int .u32 w] W' (CP W' x r st)) := AC
  clear AC
  clear h
  go_enter Tryz.func118, Tryz.ntmps118
  go_wp2_with (go_at_call 155; refine (HA.out _ A0.out.c ((Below.refl _ _).alloc (Nat.le_refl _) _)).mono ?_; rintro e w9 ⟨rfl, h9, o9⟩)
  go_end0
  exact ⟨rfl, h9, A0.out.o.trans o9⟩
theorem sys_45 (W : World) (x r : Nat) (c : CSt) (h : CodeAt W x r c) (rd r1 r2 n : Nat) (w : Int) (st : CSt) (AC : ∀ W', CodeAt W' x r c → Below W.heap.size W W' → Calls Tryz.prog 155 #[.pointer (some ⟨x, 0, none⟩), .agg #[.int .i64 45, .int .i64 rd, .int .i64 r1, .int .i64 r2, .int .u32 n], .int .u32 w] W' (CP W' x r st)) : Calls Tryz.prog 118 #[.pointer (some ⟨x, 0, none⟩), .agg #[.int .i64 45, .int .i64 rd, .int .i64 r1, .int .i64 r2, .int .u32 n], .int .u32 w] W (CP W x r (st)) := by
  have A0 : Hid (At W (W.alloc (.cells #[.int .i64 45, .int .i64 rd, .int .i64 r1, .int .i64 r2, .int .u32 n] 72)) x r W.heap.size c 45 rd r1 r2 n) := At.new h 45 rd r1 r2 n 72
  have HA : Hid (∀ W', CodeAt W' x r c → Below W.heap.size W W' → Calls Tryz.prog 155 #[.pointer (some ⟨x, 0, none⟩), .agg #[.int .i64 45, .int .i64 rd, .int .i64 r1, .int .i64 r2, .int .u32 n], .int .u32 w] W' (CP W' x r st)) := AC
  clear AC
  clear h
  go_enter Tryz.func118, Tryz.ntmps118
  go_wp2_with (go_at_call 155; refine (HA.out _ A0.out.c ((Below.refl _ _).alloc (Nat.le_refl _) _)).mono ?_; rintro e w9 ⟨rfl, h9, o9⟩)
  go_end0
  exact ⟨rfl, h9, A0.out.o.trans o9⟩
theorem sys_46 (W : World) (x r : Nat) (c : CSt) (h : CodeAt W x r c) (rd r1 r2 n : Nat) (w : Int) (st : CSt) (AC : ∀ W', CodeAt W' x r c → Below W.heap.size W W' → Calls Tryz.prog 155 #[.pointer (some ⟨x, 0, none⟩), .agg #[.int .i64 46, .int .i64 rd, .int .i64 r1, .int .i64 r2, .int .u32 n], .int .u32 w] W' (CP W' x r st)) : Calls Tryz.prog 118 #[.pointer (some ⟨x, 0, none⟩), .agg #[.int .i64 46, .int .i64 rd, .int .i64 r1, .int .i64 r2, .int .u32 n], .int .u32 w] W (CP W x r (st)) := by
  have A0 : Hid (At W (W.alloc (.cells #[.int .i64 46, .int .i64 rd, .int .i64 r1, .int .i64 r2, .int .u32 n] 72)) x r W.heap.size c 46 rd r1 r2 n) := At.new h 46 rd r1 r2 n 72
  have HA : Hid (∀ W', CodeAt W' x r c → Below W.heap.size W W' → Calls Tryz.prog 155 #[.pointer (some ⟨x, 0, none⟩), .agg #[.int .i64 46, .int .i64 rd, .int .i64 r1, .int .i64 r2, .int .u32 n], .int .u32 w] W' (CP W' x r st)) := AC
  clear AC
  clear h
  go_enter Tryz.func118, Tryz.ntmps118
  go_wp2_with (go_at_call 155; refine (HA.out _ A0.out.c ((Below.refl _ _).alloc (Nat.le_refl _) _)).mono ?_; rintro e w9 ⟨rfl, h9, o9⟩)
  go_end0
  exact ⟨rfl, h9, A0.out.o.trans o9⟩
theorem sys_47 (W : World) (x r : Nat) (c : CSt) (h : CodeAt W x r c) (rd r1 r2 n : Nat) (w : Int) (st : CSt) (AC : ∀ W', CodeAt W' x r c → Below W.heap.size W W' → Calls Tryz.prog 155 #[.pointer (some ⟨x, 0, none⟩), .agg #[.int .i64 47, .int .i64 rd, .int .i64 r1, .int .i64 r2, .int .u32 n], .int .u32 w] W' (CP W' x r st)) : Calls Tryz.prog 118 #[.pointer (some ⟨x, 0, none⟩), .agg #[.int .i64 47, .int .i64 rd, .int .i64 r1, .int .i64 r2, .int .u32 n], .int .u32 w] W (CP W x r (st)) := by
  have A0 : Hid (At W (W.alloc (.cells #[.int .i64 47, .int .i64 rd, .int .i64 r1, .int .i64 r2, .int .u32 n] 72)) x r W.heap.size c 47 rd r1 r2 n) := At.new h 47 rd r1 r2 n 72
  have HA : Hid (∀ W', CodeAt W' x r c → Below W.heap.size W W' → Calls Tryz.prog 155 #[.pointer (some ⟨x, 0, none⟩), .agg #[.int .i64 47, .int .i64 rd, .int .i64 r1, .int .i64 r2, .int .u32 n], .int .u32 w] W' (CP W' x r st)) := AC
  clear AC
  clear h
  go_enter Tryz.func118, Tryz.ntmps118
  go_wp2_with (go_at_call 155; refine (HA.out _ A0.out.c ((Below.refl _ _).alloc (Nat.le_refl _) _)).mono ?_; rintro e w9 ⟨rfl, h9, o9⟩)
  go_end0
  exact ⟨rfl, h9, A0.out.o.trans o9⟩
theorem sys_48 (W : World) (x r : Nat) (c : CSt) (h : CodeAt W x r c) (rd r1 r2 n : Nat) (w : Int) (st : CSt) (AC : ∀ W', CodeAt W' x r c → Below W.heap.size W W' → Calls Tryz.prog 155 #[.pointer (some ⟨x, 0, none⟩), .agg #[.int .i64 48, .int .i64 rd, .int .i64 r1, .int .i64 r2, .int .u32 n], .int .u32 w] W' (CP W' x r st)) : Calls Tryz.prog 118 #[.pointer (some ⟨x, 0, none⟩), .agg #[.int .i64 48, .int .i64 rd, .int .i64 r1, .int .i64 r2, .int .u32 n], .int .u32 w] W (CP W x r (st)) := by
  have A0 : Hid (At W (W.alloc (.cells #[.int .i64 48, .int .i64 rd, .int .i64 r1, .int .i64 r2, .int .u32 n] 72)) x r W.heap.size c 48 rd r1 r2 n) := At.new h 48 rd r1 r2 n 72
  have HA : Hid (∀ W', CodeAt W' x r c → Below W.heap.size W W' → Calls Tryz.prog 155 #[.pointer (some ⟨x, 0, none⟩), .agg #[.int .i64 48, .int .i64 rd, .int .i64 r1, .int .i64 r2, .int .u32 n], .int .u32 w] W' (CP W' x r st)) := AC
  clear AC
  clear h
  go_enter Tryz.func118, Tryz.ntmps118
  go_wp2_with (go_at_call 155; refine (HA.out _ A0.out.c ((Below.refl _ _).alloc (Nat.le_refl _) _)).mono ?_; rintro e w9 ⟨rfl, h9, o9⟩)
  go_end0
  exact ⟨rfl, h9, A0.out.o.trans o9⟩
theorem sys_49 (W : World) (x r : Nat) (c : CSt) (h : CodeAt W x r c) (rd r1 r2 n : Nat) (w : Int) (st : CSt) (AC : ∀ W', CodeAt W' x r c → Below W.heap.size W W' → Calls Tryz.prog 155 #[.pointer (some ⟨x, 0, none⟩), .agg #[.int .i64 49, .int .i64 rd, .int .i64 r1, .int .i64 r2, .int .u32 n], .int .u32 w] W' (CP W' x r st)) : Calls Tryz.prog 118 #[.pointer (some ⟨x, 0, none⟩), .agg #[.int .i64 49, .int .i64 rd, .int .i64 r1, .int .i64 r2, .int .u32 n], .int .u32 w] W (CP W x r (st)) := by
  have A0 : Hid (At W (W.alloc (.cells #[.int .i64 49, .int .i64 rd, .int .i64 r1, .int .i64 r2, .int .u32 n] 72)) x r W.heap.size c 49 rd r1 r2 n) := At.new h 49 rd r1 r2 n 72
  have HA : Hid (∀ W', CodeAt W' x r c → Below W.heap.size W W' → Calls Tryz.prog 155 #[.pointer (some ⟨x, 0, none⟩), .agg #[.int .i64 49, .int .i64 rd, .int .i64 r1, .int .i64 r2, .int .u32 n], .int .u32 w] W' (CP W' x r st)) := AC
  clear AC
  clear h
  go_enter Tryz.func118, Tryz.ntmps118
  go_wp2_with (go_at_call 155; refine (HA.out _ A0.out.c ((Below.refl _ _).alloc (Nat.le_refl _) _)).mono ?_; rintro e w9 ⟨rfl, h9, o9⟩)
  go_end0
  exact ⟨rfl, h9, A0.out.o.trans o9⟩
end Go.Proofs.YteiideeechnekaaGreatDoor
