/-
  The code's Step, awake: the fetch fails, no instruction, an instruction.
-/
import Derived.Test.YtfdokajjlkcdgaaGreatDoorCodeOut
import Derived.Test.YtfdokajjlkcdgaaGreatDoorCodeExc
import Derived.Test.YtfdokajjlkcdgaaGreatDoorDCode
namespace Go.Proofs.YtfdokajjlkcdgaaGreatDoor
open Go.RowKit

theorem word_is (w : Int) (op rd r1 r2 imm : Int) (h0 : 0 ≤ w) (h1 : w < 4294967296) (hd : D.dec w = ⟨op, rd, r1, r2, imm⟩) (W : World) (T : D.Tabs W) :
    Calls Tryz.prog 33 #[.int .u32 w] W fun e W' => e = .returned (.agg #[.int .i64 op, .int .i64 rd, .int .i64 r1, .int .i64 r2, .int .u32 imm]) ∧ Below W.heap.size W W' := by
  have := D.word_any w W h0 h1 T
  rw [hd] at this
  exact this
theorem tabs_drawn {W : World} (T : D.Tabs W) (q : Nat) : D.Tabs (W.drewN q) := ⟨T.size, T.c0, T.c1, T.c2, T.c3, T.c4, T.c5, T.c6, T.c7, T.c8, T.c9, T.c10⟩

theorem rouse_awake (W : World) (x r : Nat) (c : CSt) (h : CodeAt W x r c) (ha : c.asleep = false) : Calls Tryz.prog 30 #[.pointer (some ⟨x, 0, none⟩)] W fun e W' => e = .returned (.bool true) ∧ ∃ q, W' = W.drewN q := by
  have c1 := h.asleep
  rw [ha] at c1
  clear h ha
  go_enter Tryz.func30, Tryz.ntmps30
  go_wp2_with fail
  go_quiet (fail)
  go_wp2_with fail
  go_ret
  exact ⟨rfl, _, rfl⟩

theorem inRam_out (W : World) (x r : Nat) (s : CSt) (h : CodeAt W x r s) (a : Nat) (h32 : a < 4294967296) (ha : ¬ a + 4 ≤ s.ram.length) :
    Calls Tryz.prog 60 #[.pointer (some ⟨x, 0, none⟩), .int .u32 a, .int .i64 4] W fun e W' => e = .returned (.bool false) ∧ ∃ q, W' = W.drewN q := by
  have c1 := h.ram
  have hl := h.bytes.2.1
  have ha' : ¬ ((a : Int) + 4 ≤ s.ram.length) := by omega
  have h32' : (a : Int) < 4294967296 := by omega
  clear h ha
  go_enter Tryz.func60, Tryz.ntmps60
  go_wp2
  go_ret
  exact ⟨rfl, 0, rfl⟩
theorem loadRam_out (W : World) (x r : Nat) (s : CSt) (h : CodeAt W x r s) (a : Nat) (h32 : a < 4294967296) (ha : ¬ a + 4 ≤ s.ram.length) :
    Calls Tryz.prog 31 #[.pointer (some ⟨x, 0, none⟩), .int .u32 a, .int .i64 4] W fun e W' => e = .returned (.tuple #[.int .u32 0, .bool false]) ∧ ∃ q, W' = W.drewN q := by
  have HF : Hid (CodeAt W x r s) := h
  clear h
  go_enter Tryz.func31, Tryz.ntmps31
  go_wp2_with (go_at_call 60; refine (inRam_out _ x r s HF.out a h32 ha).mono ?_; rintro e w' ⟨rfl, q, rfl⟩)
  go_ret2
  exact ⟨rfl, _, rfl⟩

set_option maxHeartbeats 1000000 in
theorem cstep_fault (W : World) (x r : Nat) (c : CSt) (h : CodeAt W x r c) (A : x ≠ r) (ha : c.asleep = false) (m0 : 0 ≤ c.mode) (m3 : c.mode ≤ 3) (n : Nat) (hn : c.pc = n) (h32 : n < 4294967296) (ho : ¬ n + 4 ≤ c.ram.length) :
    Calls Tryz.prog 13 #[.pointer (some ⟨x, 0, none⟩)] W fun e W' => e = .returned (.tuple #[]) ∧ CodeAt W' x r (excC c 1 c.pc) ∧ Offs [x, r] W W' := by
  have HF : Hid (CodeAt W x r c) := h
  have c1 := h.pc
  rw [hn] at c1 ⊢
  clear h hn
  go_enter Tryz.func13, Tryz.ntmps13
  go_wp2_with (first | (go_at_call 30; refine (rouse_awake _ x r c HF.out ha).mono ?_; rintro e w1 ⟨rfl, q0, rfl⟩) | (go_at_call 31; refine (loadRam_out _ x r c (HF.out.drawn _) n h32 ho).mono ?_; rintro e w2 ⟨rfl, q1, rfl⟩) | (go_at_call 32; refine (exc_any _ x r c (HF.out.drawn _) A m0 m3 1 (by decide) _).mono ?_; rintro e w3 ⟨rfl, h3, o3⟩))
  exact bodyPost_ret (v := .tuple #[]) (by simp [results, Tryz.results13, go_sem]) rfl ⟨rfl, h3, ((Offs.refl _ _).drawn _).trans o3⟩

structure FStep (W W' : World) (x r : Nat) (c : CSt) : Prop where
  c : CodeAt W' x r c
  o : Offs [x, r] W W'
  b : Below W.heap.size W W'

set_option maxHeartbeats 1000000 in
theorem cstep_do (W : World) (x r : Nat) (c : CSt) (h : CodeAt W x r c) (T : D.Tabs W) (ha : c.asleep = false) (n : Nat) (hn : c.pc = n) (ho : n + 4 ≤ c.ram.length) (op rd r1 r2 imm : Int) (hd : D.dec (leV c.ram n 4) = ⟨op, rd, r1, r2, imm⟩) (h0 : (op == 0) = false) (st : CSt)
    (DO : ∀ W', CodeAt W' x r c → Below W.heap.size W W' → Calls Tryz.prog 34 #[.pointer (some ⟨x, 0, none⟩), .agg #[.int .i64 op, .int .i64 rd, .int .i64 r1, .int .i64 r2, .int .u32 imm], .int .u32 (leV c.ram n 4)] W' fun e W'' => e = .returned (.tuple #[]) ∧ CodeAt W'' x r st ∧ Offs [x, r] W' W'') :
    Calls Tryz.prog 13 #[.pointer (some ⟨x, 0, none⟩)] W fun e W' => e = .returned (.tuple #[]) ∧ CodeAt W' x r st ∧ Offs [x, r] W W' := by
  have HD : Hid (∀ W', CodeAt W' x r c → Below W.heap.size W W' → Calls Tryz.prog 34 #[.pointer (some ⟨x, 0, none⟩), .agg #[.int .i64 op, .int .i64 rd, .int .i64 r1, .int .i64 r2, .int .u32 imm], .int .u32 (leV c.ram n 4)] W' fun e W'' => e = .returned (.tuple #[]) ∧ CodeAt W'' x r st ∧ Offs [x, r] W' W'') := DO
  clear DO
  have HF : Hid (CodeAt W x r c) := h
  have c1 := h.pc
  rw [hn] at c1
  have lv := (leV_bd (show Byt c.ram from h.bytes.2.2) n).2.2
  have HW : Hid (∀ q, Calls Tryz.prog 33 #[.int .u32 (leV c.ram n 4)] (W.drewN q) fun e W' => e = .returned (.agg #[.int .i64 op, .int .i64 rd, .int .i64 r1, .int .i64 r2, .int .u32 imm]) ∧ Below (W.drewN q).heap.size (W.drewN q) W') := fun q => word_is _ op rd r1 r2 imm lv.1 lv.2 hd _ (tabs_drawn T q)
  have hl := h.lt
  clear h T hd hn
  go_enter Tryz.func13, Tryz.ntmps13
  go_wp2_with (first | (go_at_call 30; refine (rouse_awake _ x r c HF.out ha).mono ?_; rintro e w1 ⟨rfl, q0, rfl⟩) | (go_at_call 31; refine (loadRam_4 _ x r c (HF.out.drawn _) n ho).mono ?_; rintro e w1 ⟨rfl, q1, rfl⟩))
  refine (HW.out _).mono ?_
  rintro e w2 ⟨rfl, hb⟩
  have B2 : Below W.heap.size W w2 := (below_drawn (Below.refl _ _) (q0 + q1)).trans hb
  have F3 : Hid (∀ o, FStep W (w2.alloc o) x r c) := fun o => by
    have B3 := B2.alloc B2.size o
    exact ⟨HF.out.below B3 hl.1 hl.2, Offs.of_below B3, B3⟩
  clear hb B2
  go_wp2_with fail
  refine (HD.out _ (F3.out _).c (F3.out _).b).mono ?_
  rintro e w3 ⟨rfl, h3, o3⟩
  go_wp2_with fail
  go_end0
  exact ⟨rfl, h3, (F3.out _).o.trans o3⟩
set_option maxHeartbeats 1000000 in
theorem cstep_none (W : World) (x r : Nat) (c : CSt) (h : CodeAt W x r c) (A : x ≠ r) (T : D.Tabs W) (ha : c.asleep = false) (m0 : 0 ≤ c.mode) (m3 : c.mode ≤ 3) (n : Nat) (hn : c.pc = n) (ho : n + 4 ≤ c.ram.length) (rd r1 r2 imm : Int) (hd : D.dec (leV c.ram n 4) = ⟨0, rd, r1, r2, imm⟩) :
    Calls Tryz.prog 13 #[.pointer (some ⟨x, 0, none⟩)] W fun e W' => e = .returned (.tuple #[]) ∧ CodeAt W' x r (excC c 2 (leV c.ram n 4)) ∧ Offs [x, r] W W' := by
  have HF : Hid (CodeAt W x r c) := h
  have c1 := h.pc
  rw [hn] at c1
  have lv := (leV_bd (show Byt c.ram from h.bytes.2.2) n).2.2
  have HW : Hid (∀ q, Calls Tryz.prog 33 #[.int .u32 (leV c.ram n 4)] (W.drewN q) fun e W' => e = .returned (.agg #[.int .i64 0, .int .i64 rd, .int .i64 r1, .int .i64 r2, .int .u32 imm]) ∧ Below (W.drewN q).heap.size (W.drewN q) W') := fun q => word_is _ 0 rd r1 r2 imm lv.1 lv.2 hd _ (tabs_drawn T q)
  have hl := h.lt
  clear h T hd hn
  go_enter Tryz.func13, Tryz.ntmps13
  go_wp2_with (first | (go_at_call 30; refine (rouse_awake _ x r c HF.out ha).mono ?_; rintro e w1 ⟨rfl, q0, rfl⟩) | (go_at_call 31; refine (loadRam_4 _ x r c (HF.out.drawn _) n ho).mono ?_; rintro e w1 ⟨rfl, q1, rfl⟩))
  refine (HW.out _).mono ?_
  rintro e w2 ⟨rfl, hb⟩
  have B2 : Below W.heap.size W w2 := (below_drawn (Below.refl _ _) (q0 + q1)).trans hb
  have F3 : Hid (∀ o, FStep W (w2.alloc o) x r c) := fun o => by
    have B3 := B2.alloc B2.size o
    exact ⟨HF.out.below B3 hl.1 hl.2, Offs.of_below B3, B3⟩
  clear hb B2
  go_wp2_with fail
  refine (exc_any _ x r c (F3.out _).c A m0 m3 2 (by decide) _).mono ?_
  rintro e w3 ⟨rfl, h3, o3⟩
  go_wp2_with fail
  exact bodyPost_ret (v := .tuple #[]) (by simp [results, Tryz.results13, go_sem]) rfl ⟨rfl, h3, (F3.out _).o.trans o3⟩
end Go.Proofs.YtfdokajjlkcdgaaGreatDoor
