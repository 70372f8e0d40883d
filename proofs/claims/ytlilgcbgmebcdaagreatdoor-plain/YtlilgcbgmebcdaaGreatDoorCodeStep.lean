/-
  The code's Step, where the instruction is in the memory and there is one.
-/
import Derived.Test.YtlilgcbgmebcdaaGreatDoorCodeMem
import Derived.Test.YtlilgcbgmebcdaaGreatDoorDCode
namespace Go.Proofs.YtlilgcbgmebcdaaGreatDoor
open Go.RowKit

theorem word_is (w : Int) (op rd r1 r2 imm : Int) (h0 : 0 ≤ w) (h1 : w < 4294967296) (hd : D.dec w = ⟨op, rd, r1, r2, imm⟩) (W : World) (T : D.Tabs W) :
    Calls Tryz.prog 26 #[.int .u32 w] W fun e W' => e = .returned (.agg #[.int .i64 op, .int .i64 rd, .int .i64 r1, .int .i64 r2, .int .u32 imm]) ∧ Below W.heap.size W W' := by
  have := D.word_any w W h0 h1 T
  rw [hd] at this
  exact this
theorem tabs_drawn {W : World} (T : D.Tabs W) (q : Nat) : D.Tabs (W.drewN q) := ⟨T.size, T.c0, T.c1, T.c2, T.c3, T.c4, T.c5, T.c6, T.c7, T.c8, T.c9, T.c10⟩

set_option maxHeartbeats 1000000 in
theorem cstep_do (W : World) (x r : Nat) (c : CSt) (h : CodeAt W x r c) (T : D.Tabs W) (n : Nat) (hn : c.pc = n) (ho : n + 4 ≤ c.ram.length) (op rd r1 r2 imm : Int) (hd : D.dec (leV c.ram n 4) = ⟨op, rd, r1, r2, imm⟩) (h0 : (op == 0) = false) (st : CSt)
    (DO : ∀ W', CodeAt W' x r c → Calls Tryz.prog 27 #[.pointer (some ⟨x, 0, none⟩), .agg #[.int .i64 op, .int .i64 rd, .int .i64 r1, .int .i64 r2, .int .u32 imm]] W' fun e W'' => e = .returned (.tuple #[]) ∧ CodeAt W'' x r st ∧ Offs [x, r] W' W'') :
    Calls Tryz.prog 9 #[.pointer (some ⟨x, 0, none⟩)] W fun e W' => e = .returned (.tuple #[]) ∧ CodeAt W' x r st ∧ Offs [x, r] W W' := by
  have HF : Hid (CodeAt W x r c) := h
  have HD : Hid (∀ W', CodeAt W' x r c → Calls Tryz.prog 27 #[.pointer (some ⟨x, 0, none⟩), .agg #[.int .i64 op, .int .i64 rd, .int .i64 r1, .int .i64 r2, .int .u32 imm]] W' fun e W'' => e = .returned (.tuple #[]) ∧ CodeAt W'' x r st ∧ Offs [x, r] W' W'') := DO
  have c1 := h.pc
  rw [hn] at c1
  have lv := (leV_bd (show Byt c.ram from h.bytes.2.2) n).2.2
  have HW : Hid (∀ q, Calls Tryz.prog 26 #[.int .u32 (leV c.ram n 4)] (W.drewN q) fun e W' => e = .returned (.agg #[.int .i64 op, .int .i64 rd, .int .i64 r1, .int .i64 r2, .int .u32 imm]) ∧ Below (W.drewN q).heap.size (W.drewN q) W') := fun q => word_is _ op rd r1 r2 imm lv.1 lv.2 hd _ (tabs_drawn T q)
  have hl := h.lt
  clear h DO T hd hn
  go_enter Tryz.func9, Tryz.ntmps9
  go_wp2_with (go_at_call 24; refine (loadRam_4 _ x r c HF.out n ho).mono ?_; rintro e w1 ⟨rfl, q, rfl⟩)
  refine (HW.out _).mono ?_
  rintro e w2 ⟨rfl, hb⟩
  have C2 := ((HF.out.drawn q).below hb hl.1 hl.2)
  have C3 : Hid (∀ o, CodeAt (w2.alloc o) x r c) := fun o => C2.below ((Below.refl w2.heap.size w2).alloc (Nat.le_refl _) o) C2.lt.1 C2.lt.2
  have O3 : Hid (∀ o, Offs [x, r] W (w2.alloc o)) := fun o => (((Offs.refl _ _).drawn q).trans (Offs.of_below hb)).new o
  clear C2 hb
  go_wp2_with fail
  refine (HD.out _ (C3.out _)).mono ?_
  rintro e w3 ⟨rfl, h3, o3⟩
  go_wp2_with fail
  go_end0
  exact ⟨rfl, h3, (O3.out _).trans o3⟩
end Go.Proofs.YtlilgcbgmebcdaaGreatDoor
