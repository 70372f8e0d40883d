/-
  The code's Step: asleep, awake or woken; interrupts; the fetch fails, no instruction, an instruction.
-/
import Derived.Test.YteiideeechnekabDoorCodeMem
import Derived.Test.YteiideeechnekabDoorCodeInt
import Derived.Test.YteiideeechnekabDoorDCode
namespace Go.Proofs.YteiideeechnekabDoor
open Go.RowKit

theorem word_is (w : Int) (op rd r1 r2 imm : Int) (h0 : 0 ≤ w) (h1 : w < 4294967296) (hd : D.dec w = ⟨op, rd, r1, r2, imm⟩) (W : World) (T : D.Tabs W) :
    Calls Tryd.prog 42 #[.int .u32 w] W fun e W' => e = .returned (.agg #[.int .i64 op, .int .i64 rd, .int .i64 r1, .int .i64 r2, .int .u32 imm]) ∧ Below W.heap.size W W' := by
  have := D.word_any w W h0 h1 T
  rw [hd] at this
  exact this
theorem tabs_drawn {W : World} (T : D.Tabs W) (q : Nat) : D.Tabs (W.drewN q) := ⟨T.size, T.c0, T.c1, T.c2, T.c3, T.c4, T.c5, T.c6, T.c7, T.c8, T.c9, T.c10⟩

theorem rouse_awake (W : World) (x r : Nat) (c : CSt) (h : CodeAt W x r c) (ha : c.asleep = false) : Calls Tryd.prog 22 #[.pointer (some ⟨x, 0, none⟩)] W fun e W' => e = .returned (.bool true) ∧ ∃ q, W' = W.drewN q := by
  have c1 := h.asleep
  rw [ha] at c1
  clear h ha
  go_enter Tryd.func22, Tryd.ntmps22
  go_wp2_with fail
  go_quiet (fail)
  go_wp2_with fail
  go_ret
  exact ⟨rfl, _, rfl⟩

theorem inRam_out (W : World) (x r : Nat) (s : CSt) (h : CodeAt W x r s) (a : Nat) (h32 : a < 4294967296) (ha : ¬ a + 4 ≤ s.ram.length) :
    Calls Tryd.prog 44 #[.pointer (some ⟨x, 0, none⟩), .int .u32 a, .int .i64 4] W fun e W' => e = .returned (.bool false) ∧ ∃ q, W' = W.drewN q := by
  have c1 := h.ram
  have hl := h.bytes.2.1
  have ha' : ¬ ((a : Int) + 4 ≤ s.ram.length) := by omega
  have h32' : (a : Int) < 4294967296 := by omega
  clear h ha
  go_enter Tryd.func44, Tryd.ntmps44
  go_wp2
  go_ret
  exact ⟨rfl, 0, rfl⟩
theorem loadRam_out (W : World) (x r : Nat) (s : CSt) (h : CodeAt W x r s) (a : Nat) (h32 : a < 4294967296) (ha : ¬ a + 4 ≤ s.ram.length) :
    Calls Tryd.prog 30 #[.pointer (some ⟨x, 0, none⟩), .int .u32 a, .int .i64 4] W fun e W' => e = .returned (.tuple #[.int .u32 0, .bool false]) ∧ ∃ q, W' = W.drewN q := by
  have HF : Hid (CodeAt W x r s) := h
  clear h
  go_enter Tryd.func30, Tryd.ntmps30
  go_wp2_with (go_at_call 44; refine (inRam_out _ x r s HF.out a h32 ha).mono ?_; rintro e w' ⟨rfl, q, rfl⟩)
  go_ret2
  exact ⟨rfl, _, rfl⟩

set_option maxHeartbeats 1000000 in
theorem next_fault (W : World) (x r : Nat) (c : CSt) (h : CodeAt W x r c) (A : x ≠ r) (m0 : 0 ≤ c.mode) (m3 : c.mode ≤ 3) (n : Nat) (hn : c.pc = n) (h32 : n < 4294967296) (ho : ¬ n + 4 ≤ c.ram.length) :
    Calls Tryd.prog 24 #[.pointer (some ⟨x, 0, none⟩)] W fun e W' => e = .returned (.tuple #[]) ∧ CodeAt W' x r (excC c 1 c.pc) ∧ Offs [x, r] W W' := by
  have HF : Hid (CodeAt W x r c) := h
  have c1 := h.pc
  rw [hn] at c1 ⊢
  clear h hn
  go_enter Tryd.func24, Tryd.ntmps24
  go_wp2_with (first | (go_at_call 30; refine (loadRam_out _ x r c HF.out n h32 ho).mono ?_; rintro e w2 ⟨rfl, q1, rfl⟩) | (go_at_call 41; refine (exc_any _ x r c (HF.out.drawn _) A m0 m3 1 (by decide) _).mono ?_; rintro e w3 ⟨rfl, h3, o3⟩))
  exact bodyPost_ret (v := .tuple #[]) (by simp [results, Tryd.results24, go_sem]) rfl ⟨rfl, h3, ((Offs.refl _ _).drawn _).trans o3⟩

structure FStep (W W' : World) (x r : Nat) (c : CSt) : Prop where
  c : CodeAt W' x r c
  o : Offs [x, r] W W'
  b : Below W.heap.size W W'

set_option maxHeartbeats 1000000 in
theorem next_do (W : World) (x r : Nat) (c : CSt) (h : CodeAt W x r c) (T : D.Tabs W) (n : Nat) (hn : c.pc = n) (ho : n + 4 ≤ c.ram.length) (op rd r1 r2 imm : Int) (hd : D.dec (leV c.ram n 4) = ⟨op, rd, r1, r2, imm⟩) (h0 : (op == 0) = false) (st : CSt)
    (DO : ∀ W', CodeAt W' x r c → Below W.heap.size W W' → Calls Tryd.prog 43 #[.pointer (some ⟨x, 0, none⟩), .agg #[.int .i64 op, .int .i64 rd, .int .i64 r1, .int .i64 r2, .int .u32 imm], .int .u32 (leV c.ram n 4)] W' fun e W'' => e = .returned (.tuple #[]) ∧ CodeAt W'' x r st ∧ Offs [x, r] W' W'') :
    Calls Tryd.prog 24 #[.pointer (some ⟨x, 0, none⟩)] W fun e W' => e = .returned (.tuple #[]) ∧ CodeAt W' x r st ∧ Offs [x, r] W W' := by
  have HD : Hid (∀ W', CodeAt W' x r c → Below W.heap.size W W' → Calls Tryd.prog 43 #[.pointer (some ⟨x, 0, none⟩), .agg #[.int .i64 op, .int .i64 rd, .int .i64 r1, .int .i64 r2, .int .u32 imm], .int .u32 (leV c.ram n 4)] W' fun e W'' => e = .returned (.tuple #[]) ∧ CodeAt W'' x r st ∧ Offs [x, r] W' W'') := DO
  clear DO
  have HF : Hid (CodeAt W x r c) := h
  have c1 := h.pc
  rw [hn] at c1
  have lv := (leV_bd (show Byt c.ram from h.bytes.2.2) n).2.2
  have HW : Hid (∀ q, Calls Tryd.prog 42 #[.int .u32 (leV c.ram n 4)] (W.drewN q) fun e W' => e = .returned (.agg #[.int .i64 op, .int .i64 rd, .int .i64 r1, .int .i64 r2, .int .u32 imm]) ∧ Below (W.drewN q).heap.size (W.drewN q) W') := fun q => word_is _ op rd r1 r2 imm lv.1 lv.2 hd _ (tabs_drawn T q)
  have hl := h.lt
  clear h T hd hn
  go_enter Tryd.func24, Tryd.ntmps24
  go_wp2_with (first | (go_at_call 30; refine (loadRam_4 _ x r c HF.out n ho).mono ?_; rintro e w1 ⟨rfl, q1, rfl⟩))
  refine (HW.out _).mono ?_
  rintro e w2 ⟨rfl, hb⟩
  have B2 : Below W.heap.size W w2 := (below_drawn (Below.refl _ _) q1).trans hb
  have F3 : Hid (∀ o, FStep W (w2.alloc o) x r c) := fun o => by
    have B3 := B2.alloc B2.size o
    exact ⟨HF.out.below B3 hl.1 hl.2, Offs.of_below B3, B3⟩
  clear hb B2
  go_wp2_with fail
  refine (HD.out _ (F3.out _).c (F3.out _).b).mono ?_
  rintro e w3 ⟨rfl, h3, o3⟩
  go_wp2_with fail
  go_end0
  exact ⟨rfl, h3, (F3.out _).o.trans o3⟩
set_option maxHeartbeats 1000000 in
theorem next_none (W : World) (x r : Nat) (c : CSt) (h : CodeAt W x r c) (A : x ≠ r) (T : D.Tabs W) (m0 : 0 ≤ c.mode) (m3 : c.mode ≤ 3) (n : Nat) (hn : c.pc = n) (ho : n + 4 ≤ c.ram.length) (rd r1 r2 imm : Int) (hd : D.dec (leV c.ram n 4) = ⟨0, rd, r1, r2, imm⟩) :
    Calls Tryd.prog 24 #[.pointer (some ⟨x, 0, none⟩)] W fun e W' => e = .returned (.tuple #[]) ∧ CodeAt W' x r (excC c 2 (leV c.ram n 4)) ∧ Offs [x, r] W W' := by
  have HF : Hid (CodeAt W x r c) := h
  have c1 := h.pc
  rw [hn] at c1
  have lv := (leV_bd (show Byt c.ram from h.bytes.2.2) n).2.2
  have HW : Hid (∀ q, Calls Tryd.prog 42 #[.int .u32 (leV c.ram n 4)] (W.drewN q) fun e W' => e = .returned (.agg #[.int .i64 0, .int .i64 rd, .int .i64 r1, .int .i64 r2, .int .u32 imm]) ∧ Below (W.drewN q).heap.size (W.drewN q) W') := fun q => word_is _ 0 rd r1 r2 imm lv.1 lv.2 hd _ (tabs_drawn T q)
  have hl := h.lt
  clear h T hd hn
  go_enter Tryd.func24, Tryd.ntmps24
  go_wp2_with (first | (go_at_call 30; refine (loadRam_4 _ x r c HF.out n ho).mono ?_; rintro e w1 ⟨rfl, q1, rfl⟩))
  refine (HW.out _).mono ?_
  rintro e w2 ⟨rfl, hb⟩
  have B2 : Below W.heap.size W w2 := (below_drawn (Below.refl _ _) q1).trans hb
  have F3 : Hid (∀ o, FStep W (w2.alloc o) x r c) := fun o => by
    have B3 := B2.alloc B2.size o
    exact ⟨HF.out.below B3 hl.1 hl.2, Offs.of_below B3, B3⟩
  clear hb B2
  go_wp2_with fail
  refine (exc_any _ x r c (F3.out _).c A m0 m3 2 (by decide) _).mono ?_
  rintro e w3 ⟨rfl, h3, o3⟩
  go_wp2_with fail
  exact bodyPost_ret (v := .tuple #[]) (by simp [results, Tryd.results24, go_sem]) rfl ⟨rfl, h3, (F3.out _).o.trans o3⟩
def wakeC (c : CSt) : CSt := { c with asleep := false }
/-- Awake, or woken now. -/
def Up (c d : CSt) : Prop := c.asleep = false ∧ d = c ∨ c.asleep = true ∧ pendC c ≠ 0 ∧ d = wakeC c
theorem rouse_sleep (W : World) (x r : Nat) (c : CSt) (h : CodeAt W x r c) (ha : c.asleep = true) (hp : pendC c = 0) : Calls Tryd.prog 22 #[.pointer (some ⟨x, 0, none⟩)] W fun e W' => e = .returned (.bool false) ∧ ∃ q, W' = W.drewN q := by
  have HF : Hid (CodeAt W x r c) := h
  have c1 := h.asleep
  rw [ha] at c1
  have c2 := h.mie
  have f1 := h.fx
  obtain ⟨pv, hpv⟩ : ∃ z, z = mipC c := ⟨_, rfl⟩
  have hpe : pendC c = bits .and .u32 pv c.mie := by rw [hpv]; rfl
  rw [hpe] at hp
  have HM : Hid (∀ w, CodeAt w x r c → Calls Tryd.prog 36 #[.pointer (some ⟨x, 0, none⟩)] w fun e W' => e = .returned (.int .u32 pv) ∧ ∃ q, W' = w.drewN q) := fun w hw => by rw [hpv]; exact mip_any w x r c hw
  have hp' : (bits .and .u32 pv c.mie != 0) = false := by simpa using hp
  clear h ha hpe hpv hp
  go_enter Tryd.func22, Tryd.ntmps22
  go_wp2_with fail
  go_quiet ((go_at_call 36; exact Calls.quiet_of (HM.out _ (HF.out.drawn _))))
  go_wp2_with fail
  go_ret
  exact ⟨rfl, _, rfl⟩
theorem rouse_wake (W : World) (x r : Nat) (c : CSt) (h : CodeAt W x r c) (ha : c.asleep = true) (hp : pendC c ≠ 0) : Calls Tryd.prog 22 #[.pointer (some ⟨x, 0, none⟩)] W fun e W' => e = .returned (.bool true) ∧ ∃ q, W' = (W.drewN q).setCell ⟨x, 34, none⟩ (.bool false) := by
  have HF : Hid (CodeAt W x r c) := h
  have c1 := h.asleep
  rw [ha] at c1
  have c2 := h.mie
  have f1 := h.fx
  obtain ⟨pv, hpv⟩ : ∃ z, z = mipC c := ⟨_, rfl⟩
  have hpe : pendC c = bits .and .u32 pv c.mie := by rw [hpv]; rfl
  rw [hpe] at hp
  have HM : Hid (∀ w, CodeAt w x r c → Calls Tryd.prog 36 #[.pointer (some ⟨x, 0, none⟩)] w fun e W' => e = .returned (.int .u32 pv) ∧ ∃ q, W' = w.drewN q) := fun w hw => by rw [hpv]; exact mip_any w x r c hw
  have hp' : (bits .and .u32 pv c.mie != 0) = true := by simpa using hp
  clear h ha hpe hpv hp
  go_enter Tryd.func22, Tryd.ntmps22
  go_wp2_with fail
  go_quiet ((go_at_call 36; exact Calls.quiet_of (HM.out _ (HF.out.drawn _))))
  go_wp2_with fail
  go_ret
  exact ⟨rfl, _, rfl⟩
theorem tabs_34 {W : World} (T : D.Tabs W) (x : Nat) (v : Value) : D.Tabs (W.setCell ⟨x, 34, none⟩ v) := by
  have k : ∀ b f, f < 8 → (W.setCell ⟨x, 34, none⟩ v).cell? ⟨b, f, none⟩ = W.cell? ⟨b, f, none⟩ := fun b f hf => World.cell?_setCell_other _ _ _ _ (by intro e; cases e; omega)
  exact ⟨(by have := T.size; simpa using this), fun f hf => (k _ f hf).trans (T.c0 f hf), fun f hf => (k _ f hf).trans (T.c1 f hf), fun f hf => (k _ f hf).trans (T.c2 f hf), fun f hf => (k _ f hf).trans (T.c3 f hf), fun f hf => (k _ f hf).trans (T.c4 f hf), fun f hf => (k _ f hf).trans (T.c5 f hf), fun f hf => (k _ f hf).trans (T.c6 f hf), fun f hf => (k _ f hf).trans (T.c7 f hf), fun f hf => (k _ f hf).trans (T.c8 f hf), fun f hf => (k _ f hf).trans (T.c9 f hf), fun f hf => (k _ f hf).trans (T.c10 f hf)⟩
theorem t19_34 {W : World} (T : T19 W) (x : Nat) (v : Value) : T19 (W.setCell ⟨x, 34, none⟩ v) := by
  have k : ∀ b f, f < 34 → (W.setCell ⟨x, 34, none⟩ v).cell? ⟨b, f, none⟩ = W.cell? ⟨b, f, none⟩ := fun b f hf => World.cell?_setCell_other _ _ _ _ (by intro e; cases e; omega)
  exact ⟨(by have := T.s; simpa using this), fun j hj => (k _ j (by omega)).trans (T.n j hj), fun j hj => (k _ j (by omega)).trans (T.p j hj)⟩
structure Woke (W w : World) (x r : Nat) (d : CSt) : Prop where
  c : CodeAt w x r d
  o : Offs [x, r] W w
  t : D.Tabs w
  n : T19 w
theorem rouse_up (W : World) (x r : Nat) (c : CSt) (h : CodeAt W x r c) (A : x ≠ r) (T : D.Tabs W) (T9 : T19 W) (d : CSt) (U : Up c d) : Calls Tryd.prog 22 #[.pointer (some ⟨x, 0, none⟩)] W fun e W' => e = .returned (.bool true) ∧ Woke W W' x r d := by
  rcases U with ⟨ha, rfl⟩ | ⟨ha, hp, rfl⟩
  · refine (rouse_awake W x r _ h ha).mono ?_
    rintro e w1 ⟨rfl, q, rfl⟩
    exact ⟨rfl, h.drawn q, (Offs.refl _ _).drawn q, tabs_drawn T q, T9.of T9.s fun _ _ => rfl⟩
  · refine (rouse_wake W x r _ h ha hp).mono ?_
    rintro e w1 ⟨rfl, q, rfl⟩
    exact ⟨rfl, (h.drawn q).put_asleep A _, ((Offs.refl _ _).drawn q).put (by simp) _, tabs_34 (tabs_drawn T q) x _, t19_34 (T19.of (W' := W.drewN q) T9 T9.s fun _ _ => rfl) x _⟩
theorem cstep_sleep (W : World) (x r : Nat) (c : CSt) (h : CodeAt W x r c) (ha : c.asleep = true) (hp : pendC c = 0) : Calls Tryd.prog 8 #[.pointer (some ⟨x, 0, none⟩)] W fun e W' => e = .returned (.tuple #[]) ∧ CodeAt W' x r (c) ∧ Offs [x, r] W W' := by
  have HF : Hid (CodeAt W x r c) := h
  have HR := rouse_sleep W x r c h ha hp
  clear h ha hp
  go_enter Tryd.func8, Tryd.ntmps8
  go_wp2_with fail
  refine HR.mono ?_
  rintro e w1 ⟨rfl, q, rfl⟩
  go_wp2_with fail
  exact bodyPost_ret (v := .tuple #[]) (by simp [results, Tryd.results8, go_sem]) rfl ⟨rfl, HF.out.drawn _, (Offs.refl _ _).drawn _⟩
theorem cstep_M (W : World) (x r : Nat) (c : CSt) (h : CodeAt W x r c) (A : x ≠ r) (T : D.Tabs W) (T9 : T19 W) (d : CSt) (U : Up c d) (m0 : 0 ≤ d.mode) (m3 : d.mode ≤ 3) (he : enM d ≠ 0) (i : Nat) (hi : foreV (enM d) = i) : Calls Tryd.prog 8 #[.pointer (some ⟨x, 0, none⟩)] W fun e W' => e = .returned (.tuple #[]) ∧ CodeAt W' x r (tkM d i) ∧ Offs [x, r] W W' := by
  have HR := rouse_up W x r c h A T T9 d U
  have HI : Hid (∀ w, Woke W w x r d → Calls Tryd.prog 23 #[.pointer (some ⟨x, 0, none⟩)] w fun e W' => e = .returned (.bool true) ∧ CodeAt W' x r (tkM d i) ∧ Offs [x, r] w W') := fun w h => int_M w x r d h.c A h.n m0 m3 he i hi
  clear h U he
  go_enter Tryd.func8, Tryd.ntmps8
  go_wp2_with fail
  refine HR.mono ?_
  rintro e w1 ⟨rfl, h1⟩
  clear HR
  go_wp2_with fail
  refine (HI.out _ h1).mono ?_
  rintro e w2 ⟨rfl, h2, o2⟩
  go_wp2_with fail
  exact bodyPost_ret (v := .tuple #[]) (by simp [results, Tryd.results8, go_sem]) rfl ⟨rfl, h2, h1.o.trans o2⟩
theorem cstep_S (W : World) (x r : Nat) (c : CSt) (h : CodeAt W x r c) (A : x ≠ r) (T : D.Tabs W) (T9 : T19 W) (d : CSt) (U : Up c d) (m0 : 0 ≤ d.mode) (m3 : d.mode ≤ 3) (hM : enM d = 0) (he : enS d ≠ 0) (i : Nat) (hi : foreV (enS d) = i) : Calls Tryd.prog 8 #[.pointer (some ⟨x, 0, none⟩)] W fun e W' => e = .returned (.tuple #[]) ∧ CodeAt W' x r (tkS d i) ∧ Offs [x, r] W W' := by
  have HR := rouse_up W x r c h A T T9 d U
  have HI : Hid (∀ w, Woke W w x r d → Calls Tryd.prog 23 #[.pointer (some ⟨x, 0, none⟩)] w fun e W' => e = .returned (.bool true) ∧ CodeAt W' x r (tkS d i) ∧ Offs [x, r] w W') := fun w h => int_S w x r d h.c A h.n m0 m3 hM he i hi
  clear h U he hM
  go_enter Tryd.func8, Tryd.ntmps8
  go_wp2_with fail
  refine HR.mono ?_
  rintro e w1 ⟨rfl, h1⟩
  clear HR
  go_wp2_with fail
  refine (HI.out _ h1).mono ?_
  rintro e w2 ⟨rfl, h2, o2⟩
  go_wp2_with fail
  exact bodyPost_ret (v := .tuple #[]) (by simp [results, Tryd.results8, go_sem]) rfl ⟨rfl, h2, h1.o.trans o2⟩
def CNext (c c' : CSt) : Prop := ∀ (W : World) (x r : Nat), CodeAt W x r c → x ≠ r → D.Tabs W → T19 W → Calls Tryd.prog 24 #[.pointer (some ⟨x, 0, none⟩)] W fun e W' => e = .returned (.tuple #[]) ∧ CodeAt W' x r c' ∧ Offs [x, r] W W'
def CStep (c c' : CSt) : Prop := ∀ (W : World) (x r : Nat), CodeAt W x r c → x ≠ r → D.Tabs W → T19 W → Calls Tryd.prog 8 #[.pointer (some ⟨x, 0, none⟩)] W fun e W' => e = .returned (.tuple #[]) ∧ CodeAt W' x r (c') ∧ Offs [x, r] W W'
theorem cstep_next {c d st : CSt} (U : Up c d) (hM : enM d = 0) (hS : enS d = 0) (NX : CNext d st) : CStep c st := by
  intro W x r h A T T9
  have HR := rouse_up W x r c h A T T9 d U
  have HI : Hid (∀ w, Woke W w x r d → Calls Tryd.prog 23 #[.pointer (some ⟨x, 0, none⟩)] w fun e W' => e = .returned (.bool false) ∧ Woke W W' x r d) := fun w h => by
    refine (int_no w x r d h.c hM hS).mono ?_
    rintro e w1 ⟨rfl, hb⟩
    exact ⟨rfl, h.c.below hb h.c.lt.1 h.c.lt.2, h.o.trans (Offs.of_below hb), h.t.below h.t.size hb, h.n.below hb⟩
  have HN : Hid (∀ w, Woke W w x r d → Calls Tryd.prog 24 #[.pointer (some ⟨x, 0, none⟩)] w fun e W' => e = .returned (.tuple #[]) ∧ CodeAt W' x r st ∧ Offs [x, r] w W') := fun w h => NX w x r h.c A h.t h.n
  clear h U hM hS NX
  go_enter Tryd.func8, Tryd.ntmps8
  go_wp2_with fail
  refine HR.mono ?_
  rintro e w1 ⟨rfl, h1⟩
  clear HR
  go_wp2_with fail
  refine (HI.out _ h1).mono ?_
  rintro e w2 ⟨rfl, h2⟩
  go_wp2_with fail
  refine (HN.out _ h2).mono ?_
  rintro e w3 ⟨rfl, h3, o3⟩
  go_wp2_with fail
  go_end0
  exact ⟨rfl, h3, h2.o.trans o3⟩
end Go.Proofs.YteiideeechnekabDoor
