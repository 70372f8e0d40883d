/-
  The code's controlWords and Look.
-/
import Derived.Test.YteiideeechnekaaGreatDoorMakes
import Derived.OrdersHeld
namespace Go.Proofs.YteiideeechnekaaGreatDoor
open Go.RowKit

def csrsC (s : CSt) : List Int :=
  [bits .and .u32 s.mstatus 290, bits .and .u32 s.mie s.mideleg, s.stvec, s.sscratch, s.sepc, s.scause, s.stval, bits .and .u32 (mipC s) s.mideleg, s.mstatus, s.medeleg, s.mideleg, s.mie, s.mtvec, s.mscratch, s.mepc, s.mcause, s.mtval, mipC s, 0]

theorem row_at (W : World) (b : Nat) (hb : b = W.heap.size) (cur : Array Value) (xs : List Int) (n : Nat) (hn : xs.length = n) (hm : n ≤ 64) (hc : cur.toList = xs.map (Value.int .u32)) : RowAt (W.alloc (.cells cur 29)) b n xs := by
  subst hb
  have hs : cur.size = n := by have := congrArg List.length hc; simpa [hn] using this
  exact ⟨cur, heap_alloc_new W _, hs, by omega, by unfold maxLen; omega, by rw [hc, List.take_of_length_le (by simp)]⟩
set_option maxHeartbeats 1000000 in
theorem controls_any (W : World) (x r : Nat) (s : CSt) (h : CodeAt W x r s) :
    Calls Tryz.prog 49 #[.pointer (some ⟨x, 0, none⟩)] W fun e W' => ∃ b, e = .returned (.slice (some ⟨b, 0, none⟩) 19 19) ∧ W.heap.size ≤ b ∧ RowAt W' b 19 (csrsC s) ∧ Below W.heap.size W W' := by
  have lt := h.lt
  have hA := fun o => h.below ((Below.refl W.heap.size W).alloc (Nat.le_refl _) o) lt.1 lt.2
  have HM : Hid (∀ o, CodeAt (W.alloc o) x r s) := hA
  have c_mstatus := h.mstatus
  have c_medeleg := h.medeleg
  have c_mideleg := h.mideleg
  have c_mie := h.mie
  have c_written := h.written
  have c_stvec := h.stvec
  have c_sscratch := h.sscratch
  have c_sepc := h.sepc
  have c_scause := h.scause
  have c_stval := h.stval
  have c_mtvec := h.mtvec
  have c_mscratch := h.mscratch
  have c_mepc := h.mepc
  have c_mcause := h.mcause
  have c_mtval := h.mtval
  obtain ⟨m, hm⟩ : ∃ m, m = mipC s := ⟨_, rfl⟩
  have HE : Hid (m = mipC s) := hm
  clear hA h lt
  go_enter Tryz.func49, Tryz.ntmps49
  go_wp2_with fail
  refine (mip_any _ x r s (HM.out _)).mono ?_
  rintro e w1 ⟨rfl, q, rfl⟩
  rw [← hm]
  clear hm
  go_wp2_with fail
  go_ret
  obtain rfl := HE.out
  exact ⟨W.heap.size + 1, rfl, by omega, row_at _ _ (by show _ = (W.alloc _).heap.size; simp) _ (csrsC s) 19 rfl (by decide) rfl, (below_drawn ((Below.refl _ _).alloc (Nat.le_refl _) _) _).alloc (by show _ ≤ (W.alloc _).heap.size; simp) _⟩

def lookC (s : CSt) : LSt := ⟨s.regs, s.pc, s.mode, s.asleep, csrsC s, bytesOf s.ram, [s.msip, s.mtimecmp, s.mtime], s.prio, s.pend, s.served, s.level, [s.en0, s.en1], [s.li0, s.li1]⟩

theorem CodeAt.prio8 {W : World} {x r : Nat} {s : CSt} (h : CodeAt W x r s) (i : Nat) (hi : i < 8) : W.cell? ⟨x, 54 + i, none⟩ = some (.int .u32 (s.prio.getD i 0)) := by
  rw [h.prio i hi]; simp [List.getD]
theorem CodeAt.enable {W : World} {x r : Nat} {s : CSt} (h : CodeAt W x r s) (i : Nat) (hi : i < 2) : W.cell? ⟨x, 65 + i, none⟩ = some (.int .u32 ([s.en0, s.en1].getD i 0)) := by
  match i, hi with
  | 0, _ => exact h.en0
  | 1, _ => exact h.en1
theorem CodeAt.limit {W : World} {x r : Nat} {s : CSt} (h : CodeAt W x r s) (i : Nat) (hi : i < 2) : W.cell? ⟨x, 67 + i, none⟩ = some (.int .u32 ([s.li0, s.li1].getD i 0)) := by
  match i, hi with
  | 0, _ => exact h.li0
  | 1, _ => exact h.li1

theorem fresh_ex (W : World) (x off n cap : Nat) (xs : List Int) (hn : xs.length = n) (hn6 : n ≤ 64) (hc : ∀ i, i < n → W.cell? ⟨x, off + i, none⟩ = some (.int .u32 (xs.getD i 0))) :
    Calls Tryz.prog 48 #[.slice (some ⟨x, off, none⟩) n cap] W fun e W' => ∃ b, e = .returned (.slice (some ⟨b, 0, none⟩) n n) ∧ W.heap.size ≤ b ∧ RowAt W' b n xs ∧ Below W.heap.size W W' := by
  refine (fresh_any W x off n cap xs hn hn6 hc).mono ?_
  rintro e w' ⟨rfl, h1, h2, _⟩
  exact ⟨_, rfl, Nat.le_refl _, h1, h2⟩

theorem y_load {ops : Array Oper} {S : World → Prop} {o : Oper} {a : Act} {A : Addr} {t : TypeId} {X : Operand} {v : Value} (hop : o.op = .load t X) (hg : Region.wanted o (yielded ops a.tmps) = true) (he : a.eval X = .pointer (some A))
    (hrun : ∀ w : World, w.cell? A = some v → (Instr.loadAt t (.pointer (some A))).run Tryz.prog w = .ok v w) (hS : ∀ w, S w → w.cell? A = some v) : YieldsIf Tryz.prog ops S o v a :=
  Or.inl ⟨hg, fun w hw => by
    unfold execOp
    rw [hop]
    simp [he, hrun w (hS w hw), Result.andThen]⟩
theorem y_load3 {ops : Array Oper} {S : World → Prop} {o : Oper} {a : Act} {A : Addr} {X : Operand} {v : Value} (hop : o.op = .load 3 X) (hg : Region.wanted o (yielded ops a.tmps) = true) (he : a.eval X = .pointer (some A)) (hS : ∀ w, S w → w.cell? A = some v) : YieldsIf Tryz.prog ops S o v a :=
  y_load hop hg he (fun w h => by simp [Instr.loadAt, go_sem, h]) hS
theorem y_load4 {ops : Array Oper} {S : World → Prop} {o : Oper} {a : Act} {A : Addr} {X : Operand} {v : Value} (hop : o.op = .load 4 X) (hg : Region.wanted o (yielded ops a.tmps) = true) (he : a.eval X = .pointer (some A)) (hS : ∀ w, S w → w.cell? A = some v) : YieldsIf Tryz.prog ops S o v a :=
  y_load hop hg he (fun w h => by simp [Instr.loadAt, go_sem, h]) hS
theorem y_load29 {ops : Array Oper} {S : World → Prop} {o : Oper} {a : Act} {A : Addr} {X : Operand} {v : Value} (hop : o.op = .load 29 X) (hg : Region.wanted o (yielded ops a.tmps) = true) (he : a.eval X = .pointer (some A)) (hS : ∀ w, S w → w.cell? A = some v) : YieldsIf Tryz.prog ops S o v a :=
  y_load hop hg he (fun w h => by simp [Instr.loadAt, go_sem, h]) hS
theorem y_load30 {ops : Array Oper} {S : World → Prop} {o : Oper} {a : Act} {A : Addr} {X : Operand} {v : Value} (hop : o.op = .load 30 X) (hg : Region.wanted o (yielded ops a.tmps) = true) (he : a.eval X = .pointer (some A)) (hS : ∀ w, S w → w.cell? A = some v) : YieldsIf Tryz.prog ops S o v a :=
  y_load hop hg he (fun w h => by simp [Instr.loadAt, go_sem, h]) hS

theorem y_conv {ops : Array Oper} {S : World → Prop} {o : Oper} {a : Act} {X : Operand} {u v : Value} (hop : o.op = .convert 30 9 X) (hg : Region.wanted o (yielded ops a.tmps) = true) (he : a.eval X = u)
    (hS : ∀ w, S w → (convert 30 9 u).run Tryz.prog w = .ok v w) : YieldsIf Tryz.prog ops S o v a :=
  Or.inl ⟨hg, fun w hw => by
    unfold execOp
    rw [hop]
    simp [he, hS w hw, Result.andThen]⟩

def lst (k : Nat) (c : Bool) : Array Bool := #[true, true, true, true, decide (1 ≤ k), true, true, true, true, true, true, true, true, true, true, true, true, true, decide (2 ≤ k), true, true, true, true, true, true, true, true, true, true, true, true, true, true, true, true, true, true, true, true, c, true, true, true, true, true, decide (3 ≤ k), true, true, true, true, true, true, true, true, true, true, true, true, true, true, true, true, true, true, true, true, decide (4 ≤ k), true, true, true, true, true, decide (5 ≤ k), false, false]

/-- Five calls one behind the other, and one literal at whatever place among them. -/
theorem look6 {P : Program} {ops : Array Oper} {Q : Exit → Act → World → Prop} {S : World → Prop} (I : Nat → Bool → Act → World → Prop)
    (r50 : Region.ready .any ops (lst 5 false) = [39])
    (r41 : Region.ready .any ops (lst 4 true) = [72])
    (r40 : Region.ready .any ops (lst 4 false) = [39, 72])
    (r31 : Region.ready .any ops (lst 3 true) = [66])
    (r30 : Region.ready .any ops (lst 3 false) = [39, 66])
    (r21 : Region.ready .any ops (lst 2 true) = [45])
    (r20 : Region.ready .any ops (lst 2 false) = [39, 45])
    (r11 : Region.ready .any ops (lst 1 true) = [18])
    (r10 : Region.ready .any ops (lst 1 false) = [18, 39])
    (r01 : Region.ready .any ops (lst 0 true) = [4])
    (r00 : Region.ready .any ops (lst 0 false) = [4, 39])
    (s0 : ∀ c a w (K' : Act → World → Prop), I 0 c a w → (∀ a' w', S w' → I 1 c a' w' → K' a' w') → wpOp P ops Q 4 K' a w)
    (s1 : ∀ c a w (K' : Act → World → Prop), I 1 c a w → (∀ a' w', S w' → I 2 c a' w' → K' a' w') → wpOp P ops Q 18 K' a w)
    (s2 : ∀ c a w (K' : Act → World → Prop), I 2 c a w → (∀ a' w', S w' → I 3 c a' w' → K' a' w') → wpOp P ops Q 45 K' a w)
    (s3 : ∀ c a w (K' : Act → World → Prop), I 3 c a w → (∀ a' w', S w' → I 4 c a' w' → K' a' w') → wpOp P ops Q 66 K' a w)
    (s4 : ∀ c a w (K' : Act → World → Prop), I 4 c a w → (∀ a' w', S w' → I 5 c a' w' → K' a' w') → wpOp P ops Q 72 K' a w)
    (sb : ∀ k a w (K' : Act → World → Prop), I k false a w → (∀ a' w', S w' → I k true a' w' → K' a' w') → wpOp P ops Q 39 K' a w)
    (fin : ∀ a w, I 5 true a w → wpAnyH P .any ops Q S 2 (lst 5 true) a w) : ∀ a w, I 0 false a w → wpAnyH P .any ops Q S 8 (lst 0 false) a w := by
  have T51 := fin
  have T50 : ∀ a w, I 5 false a w → wpAnyH P .any ops Q S 3 (lst 5 false) a w := by
    intro a w h
    refine wpAnyH_all r50 (by simp) fun i hi => ?_
    obtain rfl : i = 39 := by simpa using hi
    exact sb 5 a w _ h fun a' w' hs h' => ⟨hs, T51 a' w' h'⟩
  have T41 : ∀ a w, I 4 true a w → wpAnyH P .any ops Q S 3 (lst 4 true) a w := by
    intro a w h
    refine wpAnyH_all r41 (by simp) fun i hi => ?_
    obtain rfl : i = 72 := by simpa using hi
    exact s4 true a w _ h fun a' w' hs h' => ⟨hs, T51 a' w' h'⟩
  have T40 : ∀ a w, I 4 false a w → wpAnyH P .any ops Q S 4 (lst 4 false) a w := by
    intro a w h
    refine wpAnyH_all r40 (by simp) fun i hi => ?_
    have hi' : i = 39 ∨ i = 72 := by simpa using hi
    rcases hi' with rfl | rfl
    · exact sb 4 a w _ h fun a' w' hs h' => ⟨hs, T41 a' w' h'⟩
    · exact s4 false a w _ h fun a' w' hs h' => ⟨hs, T50 a' w' h'⟩
  have T31 : ∀ a w, I 3 true a w → wpAnyH P .any ops Q S 4 (lst 3 true) a w := by
    intro a w h
    refine wpAnyH_all r31 (by simp) fun i hi => ?_
    obtain rfl : i = 66 := by simpa using hi
    exact s3 true a w _ h fun a' w' hs h' => ⟨hs, T41 a' w' h'⟩
  have T30 : ∀ a w, I 3 false a w → wpAnyH P .any ops Q S 5 (lst 3 false) a w := by
    intro a w h
    refine wpAnyH_all r30 (by simp) fun i hi => ?_
    have hi' : i = 39 ∨ i = 66 := by simpa using hi
    rcases hi' with rfl | rfl
    · exact sb 3 a w _ h fun a' w' hs h' => ⟨hs, T31 a' w' h'⟩
    · exact s3 false a w _ h fun a' w' hs h' => ⟨hs, T40 a' w' h'⟩
  have T21 : ∀ a w, I 2 true a w → wpAnyH P .any ops Q S 5 (lst 2 true) a w := by
    intro a w h
    refine wpAnyH_all r21 (by simp) fun i hi => ?_
    obtain rfl : i = 45 := by simpa using hi
    exact s2 true a w _ h fun a' w' hs h' => ⟨hs, T31 a' w' h'⟩
  have T20 : ∀ a w, I 2 false a w → wpAnyH P .any ops Q S 6 (lst 2 false) a w := by
    intro a w h
    refine wpAnyH_all r20 (by simp) fun i hi => ?_
    have hi' : i = 39 ∨ i = 45 := by simpa using hi
    rcases hi' with rfl | rfl
    · exact sb 2 a w _ h fun a' w' hs h' => ⟨hs, T21 a' w' h'⟩
    · exact s2 false a w _ h fun a' w' hs h' => ⟨hs, T30 a' w' h'⟩
  have T11 : ∀ a w, I 1 true a w → wpAnyH P .any ops Q S 6 (lst 1 true) a w := by
    intro a w h
    refine wpAnyH_all r11 (by simp) fun i hi => ?_
    obtain rfl : i = 18 := by simpa using hi
    exact s1 true a w _ h fun a' w' hs h' => ⟨hs, T21 a' w' h'⟩
  have T10 : ∀ a w, I 1 false a w → wpAnyH P .any ops Q S 7 (lst 1 false) a w := by
    intro a w h
    refine wpAnyH_all r10 (by simp) fun i hi => ?_
    have hi' : i = 18 ∨ i = 39 := by simpa using hi
    rcases hi' with rfl | rfl
    · exact s1 false a w _ h fun a' w' hs h' => ⟨hs, T20 a' w' h'⟩
    · exact sb 1 a w _ h fun a' w' hs h' => ⟨hs, T11 a' w' h'⟩
  have T01 : ∀ a w, I 0 true a w → wpAnyH P .any ops Q S 7 (lst 0 true) a w := by
    intro a w h
    refine wpAnyH_all r01 (by simp) fun i hi => ?_
    obtain rfl : i = 4 := by simpa using hi
    exact s0 true a w _ h fun a' w' hs h' => ⟨hs, T11 a' w' h'⟩
  have T00 : ∀ a w, I 0 false a w → wpAnyH P .any ops Q S 8 (lst 0 false) a w := by
    intro a w h
    refine wpAnyH_all r00 (by simp) fun i hi => ?_
    have hi' : i = 4 ∨ i = 39 := by simpa using hi
    rcases hi' with rfl | rfl
    · exact s0 false a w _ h fun a' w' hs h' => ⟨hs, T10 a' w' h'⟩
    · exact sb 0 a w _ h fun a' w' hs h' => ⟨hs, T01 a' w' h'⟩
  exact T00

structure Inv6 (W : World) (s : CSt) (w : World) (m1 m2 m3 m4 m5 mk : Bool) (b1 b2 b3 b4 b5 bk : Nat) : Prop where
  bel : Below W.heap.size W w
  a0 : m1 = true → W.heap.size ≤ b1 ∧ RowAt w b1 32 s.regs
  a1 : m2 = true → W.heap.size ≤ b2 ∧ RowAt w b2 19 (csrsC s)
  a2 : m3 = true → W.heap.size ≤ b3 ∧ RowAt w b3 8 s.prio
  a3 : m4 = true → W.heap.size ≤ b4 ∧ RowAt w b4 2 [s.en0, s.en1]
  a4 : m5 = true → W.heap.size ≤ b5 ∧ RowAt w b5 2 [s.li0, s.li1]
  a5 : mk = true → W.heap.size ≤ bk ∧ RowAt w bk 3 [s.msip, s.mtimecmp, s.mtime]
  p01 : m1 = true → m2 = true → b1 ≠ b2
  p02 : m1 = true → m3 = true → b1 ≠ b3
  p03 : m1 = true → m4 = true → b1 ≠ b4
  p04 : m1 = true → m5 = true → b1 ≠ b5
  p05 : m1 = true → mk = true → b1 ≠ bk
  p12 : m2 = true → m3 = true → b2 ≠ b3
  p13 : m2 = true → m4 = true → b2 ≠ b4
  p14 : m2 = true → m5 = true → b2 ≠ b5
  p15 : m2 = true → mk = true → b2 ≠ bk
  p23 : m3 = true → m4 = true → b3 ≠ b4
  p24 : m3 = true → m5 = true → b3 ≠ b5
  p25 : m3 = true → mk = true → b3 ≠ bk
  p34 : m4 = true → m5 = true → b4 ≠ b5
  p35 : m4 = true → mk = true → b4 ≠ bk
  p45 : m5 = true → mk = true → b5 ≠ bk

theorem Inv6.step0 {W : World} {s : CSt} {w : World} {m2 m3 m4 m5 mk : Bool} {b1 b2 b3 b4 b5 bk : Nat} (h : Inv6 W s w false m2 m3 m4 m5 mk b1 b2 b3 b4 b5 bk) {w' : World} {g : Nat} (hg : w.heap.size ≤ g) (hr : RowAt w' g 32 s.regs) (hb : Below w.heap.size w w') : Inv6 W s w' true m2 m3 m4 m5 mk g b2 b3 b4 b5 bk :=
  ⟨h.bel.trans (hb.mono h.bel.size), fun _ => ⟨Nat.le_trans h.bel.size hg, hr⟩, fun e => ⟨(h.a1 e).1, (h.a1 e).2.below hb (h.a1 e).2.lt⟩, fun e => ⟨(h.a2 e).1, (h.a2 e).2.below hb (h.a2 e).2.lt⟩, fun e => ⟨(h.a3 e).1, (h.a3 e).2.below hb (h.a3 e).2.lt⟩, fun e => ⟨(h.a4 e).1, (h.a4 e).2.below hb (h.a4 e).2.lt⟩, fun e => ⟨(h.a5 e).1, (h.a5 e).2.below hb (h.a5 e).2.lt⟩, fun _ e => Nat.ne_of_gt (Nat.lt_of_lt_of_le (h.a1 e).2.lt hg), fun _ e => Nat.ne_of_gt (Nat.lt_of_lt_of_le (h.a2 e).2.lt hg), fun _ e => Nat.ne_of_gt (Nat.lt_of_lt_of_le (h.a3 e).2.lt hg), fun _ e => Nat.ne_of_gt (Nat.lt_of_lt_of_le (h.a4 e).2.lt hg), fun _ e => Nat.ne_of_gt (Nat.lt_of_lt_of_le (h.a5 e).2.lt hg), h.p12, h.p13, h.p14, h.p15, h.p23, h.p24, h.p25, h.p34, h.p35, h.p45⟩
theorem Inv6.step1 {W : World} {s : CSt} {w : World} {m1 m3 m4 m5 mk : Bool} {b1 b2 b3 b4 b5 bk : Nat} (h : Inv6 W s w m1 false m3 m4 m5 mk b1 b2 b3 b4 b5 bk) {w' : World} {g : Nat} (hg : w.heap.size ≤ g) (hr : RowAt w' g 19 (csrsC s)) (hb : Below w.heap.size w w') : Inv6 W s w' m1 true m3 m4 m5 mk b1 g b3 b4 b5 bk :=
  ⟨h.bel.trans (hb.mono h.bel.size), fun e => ⟨(h.a0 e).1, (h.a0 e).2.below hb (h.a0 e).2.lt⟩, fun _ => ⟨Nat.le_trans h.bel.size hg, hr⟩, fun e => ⟨(h.a2 e).1, (h.a2 e).2.below hb (h.a2 e).2.lt⟩, fun e => ⟨(h.a3 e).1, (h.a3 e).2.below hb (h.a3 e).2.lt⟩, fun e => ⟨(h.a4 e).1, (h.a4 e).2.below hb (h.a4 e).2.lt⟩, fun e => ⟨(h.a5 e).1, (h.a5 e).2.below hb (h.a5 e).2.lt⟩, fun e _ => Nat.ne_of_lt (Nat.lt_of_lt_of_le (h.a0 e).2.lt hg), h.p02, h.p03, h.p04, h.p05, fun _ e => Nat.ne_of_gt (Nat.lt_of_lt_of_le (h.a2 e).2.lt hg), fun _ e => Nat.ne_of_gt (Nat.lt_of_lt_of_le (h.a3 e).2.lt hg), fun _ e => Nat.ne_of_gt (Nat.lt_of_lt_of_le (h.a4 e).2.lt hg), fun _ e => Nat.ne_of_gt (Nat.lt_of_lt_of_le (h.a5 e).2.lt hg), h.p23, h.p24, h.p25, h.p34, h.p35, h.p45⟩
theorem Inv6.step2 {W : World} {s : CSt} {w : World} {m1 m2 m4 m5 mk : Bool} {b1 b2 b3 b4 b5 bk : Nat} (h : Inv6 W s w m1 m2 false m4 m5 mk b1 b2 b3 b4 b5 bk) {w' : World} {g : Nat} (hg : w.heap.size ≤ g) (hr : RowAt w' g 8 s.prio) (hb : Below w.heap.size w w') : Inv6 W s w' m1 m2 true m4 m5 mk b1 b2 g b4 b5 bk :=
  ⟨h.bel.trans (hb.mono h.bel.size), fun e => ⟨(h.a0 e).1, (h.a0 e).2.below hb (h.a0 e).2.lt⟩, fun e => ⟨(h.a1 e).1, (h.a1 e).2.below hb (h.a1 e).2.lt⟩, fun _ => ⟨Nat.le_trans h.bel.size hg, hr⟩, fun e => ⟨(h.a3 e).1, (h.a3 e).2.below hb (h.a3 e).2.lt⟩, fun e => ⟨(h.a4 e).1, (h.a4 e).2.below hb (h.a4 e).2.lt⟩, fun e => ⟨(h.a5 e).1, (h.a5 e).2.below hb (h.a5 e).2.lt⟩, h.p01, fun e _ => Nat.ne_of_lt (Nat.lt_of_lt_of_le (h.a0 e).2.lt hg), h.p03, h.p04, h.p05, fun e _ => Nat.ne_of_lt (Nat.lt_of_lt_of_le (h.a1 e).2.lt hg), h.p13, h.p14, h.p15, fun _ e => Nat.ne_of_gt (Nat.lt_of_lt_of_le (h.a3 e).2.lt hg), fun _ e => Nat.ne_of_gt (Nat.lt_of_lt_of_le (h.a4 e).2.lt hg), fun _ e => Nat.ne_of_gt (Nat.lt_of_lt_of_le (h.a5 e).2.lt hg), h.p34, h.p35, h.p45⟩
theorem Inv6.step3 {W : World} {s : CSt} {w : World} {m1 m2 m3 m5 mk : Bool} {b1 b2 b3 b4 b5 bk : Nat} (h : Inv6 W s w m1 m2 m3 false m5 mk b1 b2 b3 b4 b5 bk) {w' : World} {g : Nat} (hg : w.heap.size ≤ g) (hr : RowAt w' g 2 [s.en0, s.en1]) (hb : Below w.heap.size w w') : Inv6 W s w' m1 m2 m3 true m5 mk b1 b2 b3 g b5 bk :=
  ⟨h.bel.trans (hb.mono h.bel.size), fun e => ⟨(h.a0 e).1, (h.a0 e).2.below hb (h.a0 e).2.lt⟩, fun e => ⟨(h.a1 e).1, (h.a1 e).2.below hb (h.a1 e).2.lt⟩, fun e => ⟨(h.a2 e).1, (h.a2 e).2.below hb (h.a2 e).2.lt⟩, fun _ => ⟨Nat.le_trans h.bel.size hg, hr⟩, fun e => ⟨(h.a4 e).1, (h.a4 e).2.below hb (h.a4 e).2.lt⟩, fun e => ⟨(h.a5 e).1, (h.a5 e).2.below hb (h.a5 e).2.lt⟩, h.p01, h.p02, fun e _ => Nat.ne_of_lt (Nat.lt_of_lt_of_le (h.a0 e).2.lt hg), h.p04, h.p05, h.p12, fun e _ => Nat.ne_of_lt (Nat.lt_of_lt_of_le (h.a1 e).2.lt hg), h.p14, h.p15, fun e _ => Nat.ne_of_lt (Nat.lt_of_lt_of_le (h.a2 e).2.lt hg), h.p24, h.p25, fun _ e => Nat.ne_of_gt (Nat.lt_of_lt_of_le (h.a4 e).2.lt hg), fun _ e => Nat.ne_of_gt (Nat.lt_of_lt_of_le (h.a5 e).2.lt hg), h.p45⟩
theorem Inv6.step4 {W : World} {s : CSt} {w : World} {m1 m2 m3 m4 mk : Bool} {b1 b2 b3 b4 b5 bk : Nat} (h : Inv6 W s w m1 m2 m3 m4 false mk b1 b2 b3 b4 b5 bk) {w' : World} {g : Nat} (hg : w.heap.size ≤ g) (hr : RowAt w' g 2 [s.li0, s.li1]) (hb : Below w.heap.size w w') : Inv6 W s w' m1 m2 m3 m4 true mk b1 b2 b3 b4 g bk :=
  ⟨h.bel.trans (hb.mono h.bel.size), fun e => ⟨(h.a0 e).1, (h.a0 e).2.below hb (h.a0 e).2.lt⟩, fun e => ⟨(h.a1 e).1, (h.a1 e).2.below hb (h.a1 e).2.lt⟩, fun e => ⟨(h.a2 e).1, (h.a2 e).2.below hb (h.a2 e).2.lt⟩, fun e => ⟨(h.a3 e).1, (h.a3 e).2.below hb (h.a3 e).2.lt⟩, fun _ => ⟨Nat.le_trans h.bel.size hg, hr⟩, fun e => ⟨(h.a5 e).1, (h.a5 e).2.below hb (h.a5 e).2.lt⟩, h.p01, h.p02, h.p03, fun e _ => Nat.ne_of_lt (Nat.lt_of_lt_of_le (h.a0 e).2.lt hg), h.p05, h.p12, h.p13, fun e _ => Nat.ne_of_lt (Nat.lt_of_lt_of_le (h.a1 e).2.lt hg), h.p15, h.p23, fun e _ => Nat.ne_of_lt (Nat.lt_of_lt_of_le (h.a2 e).2.lt hg), h.p25, fun e _ => Nat.ne_of_lt (Nat.lt_of_lt_of_le (h.a3 e).2.lt hg), h.p35, fun _ e => Nat.ne_of_gt (Nat.lt_of_lt_of_le (h.a5 e).2.lt hg)⟩
theorem Inv6.step5 {W : World} {s : CSt} {w : World} {m1 m2 m3 m4 m5 : Bool} {b1 b2 b3 b4 b5 bk : Nat} (h : Inv6 W s w m1 m2 m3 m4 m5 false b1 b2 b3 b4 b5 bk) {w' : World} {g : Nat} (hg : w.heap.size ≤ g) (hr : RowAt w' g 3 [s.msip, s.mtimecmp, s.mtime]) (hb : Below w.heap.size w w') : Inv6 W s w' m1 m2 m3 m4 m5 true b1 b2 b3 b4 b5 g :=
  ⟨h.bel.trans (hb.mono h.bel.size), fun e => ⟨(h.a0 e).1, (h.a0 e).2.below hb (h.a0 e).2.lt⟩, fun e => ⟨(h.a1 e).1, (h.a1 e).2.below hb (h.a1 e).2.lt⟩, fun e => ⟨(h.a2 e).1, (h.a2 e).2.below hb (h.a2 e).2.lt⟩, fun e => ⟨(h.a3 e).1, (h.a3 e).2.below hb (h.a3 e).2.lt⟩, fun e => ⟨(h.a4 e).1, (h.a4 e).2.below hb (h.a4 e).2.lt⟩, fun _ => ⟨Nat.le_trans h.bel.size hg, hr⟩, h.p01, h.p02, h.p03, h.p04, fun e _ => Nat.ne_of_lt (Nat.lt_of_lt_of_le (h.a0 e).2.lt hg), h.p12, h.p13, h.p14, fun e _ => Nat.ne_of_lt (Nat.lt_of_lt_of_le (h.a1 e).2.lt hg), h.p23, h.p24, fun e _ => Nat.ne_of_lt (Nat.lt_of_lt_of_le (h.a2 e).2.lt hg), h.p34, fun e _ => Nat.ne_of_lt (Nat.lt_of_lt_of_le (h.a3 e).2.lt hg), fun e _ => Nat.ne_of_lt (Nat.lt_of_lt_of_le (h.a4 e).2.lt hg)⟩

set_option maxHeartbeats 8000000 in
set_option maxRecDepth 100000 in
theorem look_any (W : World) (x r : Nat) (s : CSt) (h : CodeAt W x r s) :
    Calls Tryz.prog 20 #[.pointer (some ⟨x, 0, none⟩)] W fun e W'' => ∃ p : Pl, e = .returned (.agg #[.slice (some ⟨p.r, 0, none⟩) (lookC s).regs.length p.cr, .int .u32 (lookC s).pc, .int .i64 (lookC s).mode, .bool (lookC s).asleep, .slice (some ⟨p.c, 0, none⟩) (lookC s).csrs.length p.cc, .string (lookC s).ram, .slice (some ⟨p.k, 0, none⟩) (lookC s).clock.length p.ck, .slice (some ⟨p.p, 0, none⟩) (lookC s).prio.length p.cp, .int .u32 (lookC s).pend, .int .u32 (lookC s).served, .int .u32 (lookC s).level, .slice (some ⟨p.e, 0, none⟩) (lookC s).enable.length p.ce, .slice (some ⟨p.l, 0, none⟩) (lookC s).limit.length p.cl]) ∧ StAt W'' p (lookC s) ∧ p.Apart W.heap.size ∧ Below W.heap.size W W'' := by
  have lt := h.lt
  have nr := h.nregs
  have np := h.nprio
  have HH : Hid (∀ W', Below W.heap.size W W' → CodeAt W' x r s) := fun W' hb => h.below hb lt.1 lt.2
  have k_pc : ∀ w', Below W.heap.size W w' → w'.cell? ⟨x, 32, none⟩ = some (.int .u32 s.pc) := fun w' hb => (HH.out w' hb).pc
  have k_mode : ∀ w', Below W.heap.size W w' → w'.cell? ⟨x, 33, none⟩ = some (.int .i64 s.mode) := fun w' hb => (HH.out w' hb).mode
  have k_asleep : ∀ w', Below W.heap.size W w' → w'.cell? ⟨x, 34, none⟩ = some (.bool s.asleep) := fun w' hb => (HH.out w' hb).asleep
  have k_ram : ∀ w', Below W.heap.size W w' → w'.cell? ⟨x, 50, none⟩ = some (.slice (some ⟨r, 0, none⟩) s.ram.length s.ram.length) := fun w' hb => (HH.out w' hb).ram
  have k_msip : ∀ w', Below W.heap.size W w' → w'.cell? ⟨x, 51, none⟩ = some (.int .u32 s.msip) := fun w' hb => (HH.out w' hb).msip
  have k_mtimecmp : ∀ w', Below W.heap.size W w' → w'.cell? ⟨x, 52, none⟩ = some (.int .u32 s.mtimecmp) := fun w' hb => (HH.out w' hb).mtimecmp
  have k_mtime : ∀ w', Below W.heap.size W w' → w'.cell? ⟨x, 53, none⟩ = some (.int .u32 s.mtime) := fun w' hb => (HH.out w' hb).mtime
  have k_pend : ∀ w', Below W.heap.size W w' → w'.cell? ⟨x, 62, none⟩ = some (.int .u32 s.pend) := fun w' hb => (HH.out w' hb).pend
  have k_served : ∀ w', Below W.heap.size W w' → w'.cell? ⟨x, 63, none⟩ = some (.int .u32 s.served) := fun w' hb => (HH.out w' hb).served
  have k_level : ∀ w', Below W.heap.size W w' → w'.cell? ⟨x, 64, none⟩ = some (.int .u32 s.level) := fun w' hb => (HH.out w' hb).level
  have hconv := fun w' (hb : Below W.heap.size W w') => ram_string w' r s.ram (HH.out w' hb).bytes
  obtain ⟨w0, hw0⟩ : ∃ w0, w0 = W.alloc (Obj.cells #[.slice none 0 0, .int .u32 0, .int .i64 0, .bool false, .slice none 0 0, .string { data := #[] }, .slice none 0 0, .slice none 0 0, .int .u32 0, .int .u32 0, .int .u32 0, .slice none 0 0, .slice none 0 0] 48) := ⟨_, rfl⟩
  have HW0 : Hid (w0 = W.alloc (Obj.cells #[.slice none 0 0, .int .u32 0, .int .i64 0, .bool false, .slice none 0 0, .string { data := #[] }, .slice none 0 0, .slice none 0 0, .int .u32 0, .int .u32 0, .int .u32 0, .slice none 0 0, .slice none 0 0] 48)) := hw0
  have hS : Below W.heap.size W w0.drew := by rw [hw0]; exact ((Below.refl _ _).alloc (Nat.le_refl _) _).drew
  have HB0 : Hid (∀ w', Below w0.heap.size w0 w' → Below W.heap.size W w') := fun w' hb => (show Below W.heap.size W w0 by rw [hw0]; exact (Below.refl _ _).alloc (Nat.le_refl _) _).trans (hb.mono (by rw [hw0]; simp))
  clear h lt
  go_enter Tryz.func20, Tryz.ntmps20
  go_wp2_with fail
  simp only [List.append_eq, List.cons_append, List.nil_append]
  rw [← hw0]
  clear hw0
  refine wp_region_held (S := fun w' => Below W.heap.size W w') (by kernel_rfl) ?_
  change wpAnyH _ _ _ _ _ _ _ _ w0.drew
  refine wpAnyH_take (i := 0) (v := .pointer (some ⟨x, 0, none⟩)) rfl (by kernel_rfl) (by kernel_rfl) (by kernel_rfl) (fun _ _ _ h => h) (Or.inl ⟨by kernel_rfl, fun w _ => by kernel_rfl⟩) hS ?_
  refine wpAnyH_take (i := 1) (v := .pointer (some ⟨x, 0, none⟩)) rfl (by kernel_rfl) (by kernel_rfl) (by kernel_rfl) (fun _ _ _ h => h) (Or.inl ⟨by kernel_rfl, fun w _ => by kernel_rfl⟩) hS ?_
  refine wpAnyH_take (i := 2) (v := .pointer (some ⟨x, 0, none⟩)) rfl (by kernel_rfl) (by kernel_rfl) (by kernel_rfl) (fun _ _ _ h => h) (Or.inl ⟨by kernel_rfl, fun w _ => by kernel_rfl⟩) hS ?_
  refine wpAnyH_take (i := 3) (v := .slice (some ⟨x, 0, none⟩) 32 32) rfl (by kernel_rfl) (by kernel_rfl) (by kernel_rfl) (fun _ _ _ h => h) (Or.inl ⟨by kernel_rfl, fun w _ => by kernel_rfl⟩) hS ?_
  refine wpAnyH_take (i := 5) (v := .pointer (some ⟨x, 0, none⟩)) rfl (by kernel_rfl) (by kernel_rfl) (by kernel_rfl) (fun _ _ _ h => h) (Or.inl ⟨by kernel_rfl, fun w _ => by kernel_rfl⟩) hS ?_
  refine wpAnyH_take (i := 6) (v := .pointer (some ⟨x, 0, none⟩)) rfl (by kernel_rfl) (by kernel_rfl) (by kernel_rfl) (fun _ _ _ h => h) (Or.inl ⟨by kernel_rfl, fun w _ => by kernel_rfl⟩) hS ?_
  refine wpAnyH_take (i := 7) (v := .pointer (some ⟨x, 32, none⟩)) rfl (by kernel_rfl) (by kernel_rfl) (by kernel_rfl) (fun _ _ _ h => h) (Or.inl ⟨by kernel_rfl, fun w _ => by kernel_rfl⟩) hS ?_
  refine wpAnyH_take (i := 8) (v := .int .u32 s.pc) rfl (by kernel_rfl) (by kernel_rfl) (by kernel_rfl) (fun _ _ _ h => h) (y_load29 (A := ⟨x, 32, none⟩) rfl (by kernel_rfl) (by kernel_rfl) k_pc) hS ?_
  refine wpAnyH_take (i := 9) (v := .pointer (some ⟨x, 0, none⟩)) rfl (by kernel_rfl) (by kernel_rfl) (by kernel_rfl) (fun _ _ _ h => h) (Or.inl ⟨by kernel_rfl, fun w _ => by kernel_rfl⟩) hS ?_
  refine wpAnyH_take (i := 10) (v := .pointer (some ⟨x, 0, none⟩)) rfl (by kernel_rfl) (by kernel_rfl) (by kernel_rfl) (fun _ _ _ h => h) (Or.inl ⟨by kernel_rfl, fun w _ => by kernel_rfl⟩) hS ?_
  refine wpAnyH_take (i := 11) (v := .pointer (some ⟨x, 33, none⟩)) rfl (by kernel_rfl) (by kernel_rfl) (by kernel_rfl) (fun _ _ _ h => h) (Or.inl ⟨by kernel_rfl, fun w _ => by kernel_rfl⟩) hS ?_
  refine wpAnyH_take (i := 12) (v := .int .i64 s.mode) rfl (by kernel_rfl) (by kernel_rfl) (by kernel_rfl) (fun _ _ _ h => h) (y_load3 (A := ⟨x, 33, none⟩) rfl (by kernel_rfl) (by kernel_rfl) k_mode) hS ?_
  refine wpAnyH_take (i := 13) (v := .pointer (some ⟨x, 0, none⟩)) rfl (by kernel_rfl) (by kernel_rfl) (by kernel_rfl) (fun _ _ _ h => h) (Or.inl ⟨by kernel_rfl, fun w _ => by kernel_rfl⟩) hS ?_
  refine wpAnyH_take (i := 14) (v := .pointer (some ⟨x, 0, none⟩)) rfl (by kernel_rfl) (by kernel_rfl) (by kernel_rfl) (fun _ _ _ h => h) (Or.inl ⟨by kernel_rfl, fun w _ => by kernel_rfl⟩) hS ?_
  refine wpAnyH_take (i := 15) (v := .pointer (some ⟨x, 34, none⟩)) rfl (by kernel_rfl) (by kernel_rfl) (by kernel_rfl) (fun _ _ _ h => h) (Or.inl ⟨by kernel_rfl, fun w _ => by kernel_rfl⟩) hS ?_
  refine wpAnyH_take (i := 16) (v := .bool s.asleep) rfl (by kernel_rfl) (by kernel_rfl) (by kernel_rfl) (fun _ _ _ h => h) (y_load4 (A := ⟨x, 34, none⟩) rfl (by kernel_rfl) (by kernel_rfl) k_asleep) hS ?_
  refine wpAnyH_take (i := 17) (v := .pointer (some ⟨x, 0, none⟩)) rfl (by kernel_rfl) (by kernel_rfl) (by kernel_rfl) (fun _ _ _ h => h) (Or.inl ⟨by kernel_rfl, fun w _ => by kernel_rfl⟩) hS ?_
  refine wpAnyH_take (i := 19) (v := .pointer (some ⟨x, 0, none⟩)) rfl (by kernel_rfl) (by kernel_rfl) (by kernel_rfl) (fun _ _ _ h => h) (Or.inl ⟨by kernel_rfl, fun w _ => by kernel_rfl⟩) hS ?_
  refine wpAnyH_take (i := 20) (v := .pointer (some ⟨x, 0, none⟩)) rfl (by kernel_rfl) (by kernel_rfl) (by kernel_rfl) (fun _ _ _ h => h) (Or.inl ⟨by kernel_rfl, fun w _ => by kernel_rfl⟩) hS ?_
  refine wpAnyH_take (i := 21) (v := .pointer (some ⟨x, 50, none⟩)) rfl (by kernel_rfl) (by kernel_rfl) (by kernel_rfl) (fun _ _ _ h => h) (Or.inl ⟨by kernel_rfl, fun w _ => by kernel_rfl⟩) hS ?_
  refine wpAnyH_take (i := 22) (v := .slice (some ⟨r, 0, none⟩) s.ram.length s.ram.length) rfl (by kernel_rfl) (by kernel_rfl) (by kernel_rfl) (fun _ _ _ h => h) (y_load30 (A := ⟨x, 50, none⟩) rfl (by kernel_rfl) (by kernel_rfl) k_ram) hS ?_
  refine wpAnyH_take (i := 23) (v := .string (bytesOf s.ram)) rfl (by kernel_rfl) (by kernel_rfl) (by kernel_rfl) (fun _ _ _ h => h) (y_conv rfl (by kernel_rfl) (by kernel_rfl) hconv) hS ?_
  refine wpAnyH_take (i := 24) (v := .pointer (some ⟨x, 0, none⟩)) rfl (by kernel_rfl) (by kernel_rfl) (by kernel_rfl) (fun _ _ _ h => h) (Or.inl ⟨by kernel_rfl, fun w _ => by kernel_rfl⟩) hS ?_
  refine wpAnyH_take (i := 25) (v := .pointer (some ⟨x, 0, none⟩)) rfl (by kernel_rfl) (by kernel_rfl) (by kernel_rfl) (fun _ _ _ h => h) (Or.inl ⟨by kernel_rfl, fun w _ => by kernel_rfl⟩) hS ?_
  refine wpAnyH_take (i := 26) (v := .pointer (some ⟨x, 51, none⟩)) rfl (by kernel_rfl) (by kernel_rfl) (by kernel_rfl) (fun _ _ _ h => h) (Or.inl ⟨by kernel_rfl, fun w _ => by kernel_rfl⟩) hS ?_
  refine wpAnyH_take (i := 27) (v := .pointer (some ⟨x, 51, none⟩)) rfl (by kernel_rfl) (by kernel_rfl) (by kernel_rfl) (fun _ _ _ h => h) (Or.inl ⟨by kernel_rfl, fun w _ => by kernel_rfl⟩) hS ?_
  refine wpAnyH_take (i := 28) (v := .int .u32 s.msip) rfl (by kernel_rfl) (by kernel_rfl) (by kernel_rfl) (fun _ _ _ h => h) (y_load29 (A := ⟨x, 51, none⟩) rfl (by kernel_rfl) (by kernel_rfl) k_msip) hS ?_
  refine wpAnyH_take (i := 29) (v := .pointer (some ⟨x, 0, none⟩)) rfl (by kernel_rfl) (by kernel_rfl) (by kernel_rfl) (fun _ _ _ h => h) (Or.inl ⟨by kernel_rfl, fun w _ => by kernel_rfl⟩) hS ?_
  refine wpAnyH_take (i := 30) (v := .pointer (some ⟨x, 0, none⟩)) rfl (by kernel_rfl) (by kernel_rfl) (by kernel_rfl) (fun _ _ _ h => h) (Or.inl ⟨by kernel_rfl, fun w _ => by kernel_rfl⟩) hS ?_
  refine wpAnyH_take (i := 31) (v := .pointer (some ⟨x, 51, none⟩)) rfl (by kernel_rfl) (by kernel_rfl) (by kernel_rfl) (fun _ _ _ h => h) (Or.inl ⟨by kernel_rfl, fun w _ => by kernel_rfl⟩) hS ?_
  refine wpAnyH_take (i := 32) (v := .pointer (some ⟨x, 52, none⟩)) rfl (by kernel_rfl) (by kernel_rfl) (by kernel_rfl) (fun _ _ _ h => h) (Or.inl ⟨by kernel_rfl, fun w _ => by kernel_rfl⟩) hS ?_
  refine wpAnyH_take (i := 33) (v := .int .u32 s.mtimecmp) rfl (by kernel_rfl) (by kernel_rfl) (by kernel_rfl) (fun _ _ _ h => h) (y_load29 (A := ⟨x, 52, none⟩) rfl (by kernel_rfl) (by kernel_rfl) k_mtimecmp) hS ?_
  refine wpAnyH_take (i := 34) (v := .pointer (some ⟨x, 0, none⟩)) rfl (by kernel_rfl) (by kernel_rfl) (by kernel_rfl) (fun _ _ _ h => h) (Or.inl ⟨by kernel_rfl, fun w _ => by kernel_rfl⟩) hS ?_
  refine wpAnyH_take (i := 35) (v := .pointer (some ⟨x, 0, none⟩)) rfl (by kernel_rfl) (by kernel_rfl) (by kernel_rfl) (fun _ _ _ h => h) (Or.inl ⟨by kernel_rfl, fun w _ => by kernel_rfl⟩) hS ?_
  refine wpAnyH_take (i := 36) (v := .pointer (some ⟨x, 51, none⟩)) rfl (by kernel_rfl) (by kernel_rfl) (by kernel_rfl) (fun _ _ _ h => h) (Or.inl ⟨by kernel_rfl, fun w _ => by kernel_rfl⟩) hS ?_
  refine wpAnyH_take (i := 37) (v := .pointer (some ⟨x, 53, none⟩)) rfl (by kernel_rfl) (by kernel_rfl) (by kernel_rfl) (fun _ _ _ h => h) (Or.inl ⟨by kernel_rfl, fun w _ => by kernel_rfl⟩) hS ?_
  refine wpAnyH_take (i := 38) (v := .int .u32 s.mtime) rfl (by kernel_rfl) (by kernel_rfl) (by kernel_rfl) (fun _ _ _ h => h) (y_load29 (A := ⟨x, 53, none⟩) rfl (by kernel_rfl) (by kernel_rfl) k_mtime) hS ?_
  refine wpAnyH_take (i := 40) (v := .pointer (some ⟨x, 0, none⟩)) rfl (by kernel_rfl) (by kernel_rfl) (by kernel_rfl) (fun _ _ _ h => h) (Or.inl ⟨by kernel_rfl, fun w _ => by kernel_rfl⟩) hS ?_
  refine wpAnyH_take (i := 41) (v := .pointer (some ⟨x, 0, none⟩)) rfl (by kernel_rfl) (by kernel_rfl) (by kernel_rfl) (fun _ _ _ h => h) (Or.inl ⟨by kernel_rfl, fun w _ => by kernel_rfl⟩) hS ?_
  refine wpAnyH_take (i := 42) (v := .pointer (some ⟨x, 54, none⟩)) rfl (by kernel_rfl) (by kernel_rfl) (by kernel_rfl) (fun _ _ _ h => h) (Or.inl ⟨by kernel_rfl, fun w _ => by kernel_rfl⟩) hS ?_
  refine wpAnyH_take (i := 43) (v := .pointer (some ⟨x, 54, none⟩)) rfl (by kernel_rfl) (by kernel_rfl) (by kernel_rfl) (fun _ _ _ h => h) (Or.inl ⟨by kernel_rfl, fun w _ => by kernel_rfl⟩) hS ?_
  refine wpAnyH_take (i := 44) (v := .slice (some ⟨x, 54, none⟩) 8 8) rfl (by kernel_rfl) (by kernel_rfl) (by kernel_rfl) (fun _ _ _ h => h) (Or.inl ⟨by kernel_rfl, fun w _ => by kernel_rfl⟩) hS ?_
  refine wpAnyH_take (i := 46) (v := .pointer (some ⟨x, 0, none⟩)) rfl (by kernel_rfl) (by kernel_rfl) (by kernel_rfl) (fun _ _ _ h => h) (Or.inl ⟨by kernel_rfl, fun w _ => by kernel_rfl⟩) hS ?_
  refine wpAnyH_take (i := 47) (v := .pointer (some ⟨x, 0, none⟩)) rfl (by kernel_rfl) (by kernel_rfl) (by kernel_rfl) (fun _ _ _ h => h) (Or.inl ⟨by kernel_rfl, fun w _ => by kernel_rfl⟩) hS ?_
  refine wpAnyH_take (i := 48) (v := .pointer (some ⟨x, 54, none⟩)) rfl (by kernel_rfl) (by kernel_rfl) (by kernel_rfl) (fun _ _ _ h => h) (Or.inl ⟨by kernel_rfl, fun w _ => by kernel_rfl⟩) hS ?_
  refine wpAnyH_take (i := 49) (v := .pointer (some ⟨x, 62, none⟩)) rfl (by kernel_rfl) (by kernel_rfl) (by kernel_rfl) (fun _ _ _ h => h) (Or.inl ⟨by kernel_rfl, fun w _ => by kernel_rfl⟩) hS ?_
  refine wpAnyH_take (i := 50) (v := .int .u32 s.pend) rfl (by kernel_rfl) (by kernel_rfl) (by kernel_rfl) (fun _ _ _ h => h) (y_load29 (A := ⟨x, 62, none⟩) rfl (by kernel_rfl) (by kernel_rfl) k_pend) hS ?_
  refine wpAnyH_take (i := 51) (v := .pointer (some ⟨x, 0, none⟩)) rfl (by kernel_rfl) (by kernel_rfl) (by kernel_rfl) (fun _ _ _ h => h) (Or.inl ⟨by kernel_rfl, fun w _ => by kernel_rfl⟩) hS ?_
  refine wpAnyH_take (i := 52) (v := .pointer (some ⟨x, 0, none⟩)) rfl (by kernel_rfl) (by kernel_rfl) (by kernel_rfl) (fun _ _ _ h => h) (Or.inl ⟨by kernel_rfl, fun w _ => by kernel_rfl⟩) hS ?_
  refine wpAnyH_take (i := 53) (v := .pointer (some ⟨x, 54, none⟩)) rfl (by kernel_rfl) (by kernel_rfl) (by kernel_rfl) (fun _ _ _ h => h) (Or.inl ⟨by kernel_rfl, fun w _ => by kernel_rfl⟩) hS ?_
  refine wpAnyH_take (i := 54) (v := .pointer (some ⟨x, 63, none⟩)) rfl (by kernel_rfl) (by kernel_rfl) (by kernel_rfl) (fun _ _ _ h => h) (Or.inl ⟨by kernel_rfl, fun w _ => by kernel_rfl⟩) hS ?_
  refine wpAnyH_take (i := 55) (v := .int .u32 s.served) rfl (by kernel_rfl) (by kernel_rfl) (by kernel_rfl) (fun _ _ _ h => h) (y_load29 (A := ⟨x, 63, none⟩) rfl (by kernel_rfl) (by kernel_rfl) k_served) hS ?_
  refine wpAnyH_take (i := 56) (v := .pointer (some ⟨x, 0, none⟩)) rfl (by kernel_rfl) (by kernel_rfl) (by kernel_rfl) (fun _ _ _ h => h) (Or.inl ⟨by kernel_rfl, fun w _ => by kernel_rfl⟩) hS ?_
  refine wpAnyH_take (i := 57) (v := .pointer (some ⟨x, 0, none⟩)) rfl (by kernel_rfl) (by kernel_rfl) (by kernel_rfl) (fun _ _ _ h => h) (Or.inl ⟨by kernel_rfl, fun w _ => by kernel_rfl⟩) hS ?_
  refine wpAnyH_take (i := 58) (v := .pointer (some ⟨x, 54, none⟩)) rfl (by kernel_rfl) (by kernel_rfl) (by kernel_rfl) (fun _ _ _ h => h) (Or.inl ⟨by kernel_rfl, fun w _ => by kernel_rfl⟩) hS ?_
  refine wpAnyH_take (i := 59) (v := .pointer (some ⟨x, 64, none⟩)) rfl (by kernel_rfl) (by kernel_rfl) (by kernel_rfl) (fun _ _ _ h => h) (Or.inl ⟨by kernel_rfl, fun w _ => by kernel_rfl⟩) hS ?_
  refine wpAnyH_take (i := 60) (v := .int .u32 s.level) rfl (by kernel_rfl) (by kernel_rfl) (by kernel_rfl) (fun _ _ _ h => h) (y_load29 (A := ⟨x, 64, none⟩) rfl (by kernel_rfl) (by kernel_rfl) k_level) hS ?_
  refine wpAnyH_take (i := 61) (v := .pointer (some ⟨x, 0, none⟩)) rfl (by kernel_rfl) (by kernel_rfl) (by kernel_rfl) (fun _ _ _ h => h) (Or.inl ⟨by kernel_rfl, fun w _ => by kernel_rfl⟩) hS ?_
  refine wpAnyH_take (i := 62) (v := .pointer (some ⟨x, 0, none⟩)) rfl (by kernel_rfl) (by kernel_rfl) (by kernel_rfl) (fun _ _ _ h => h) (Or.inl ⟨by kernel_rfl, fun w _ => by kernel_rfl⟩) hS ?_
  refine wpAnyH_take (i := 63) (v := .pointer (some ⟨x, 54, none⟩)) rfl (by kernel_rfl) (by kernel_rfl) (by kernel_rfl) (fun _ _ _ h => h) (Or.inl ⟨by kernel_rfl, fun w _ => by kernel_rfl⟩) hS ?_
  refine wpAnyH_take (i := 64) (v := .pointer (some ⟨x, 65, none⟩)) rfl (by kernel_rfl) (by kernel_rfl) (by kernel_rfl) (fun _ _ _ h => h) (Or.inl ⟨by kernel_rfl, fun w _ => by kernel_rfl⟩) hS ?_
  refine wpAnyH_take (i := 65) (v := .slice (some ⟨x, 65, none⟩) 2 2) rfl (by kernel_rfl) (by kernel_rfl) (by kernel_rfl) (fun _ _ _ h => h) (Or.inl ⟨by kernel_rfl, fun w _ => by kernel_rfl⟩) hS ?_
  refine wpAnyH_take (i := 67) (v := .pointer (some ⟨x, 0, none⟩)) rfl (by kernel_rfl) (by kernel_rfl) (by kernel_rfl) (fun _ _ _ h => h) (Or.inl ⟨by kernel_rfl, fun w _ => by kernel_rfl⟩) hS ?_
  refine wpAnyH_take (i := 68) (v := .pointer (some ⟨x, 0, none⟩)) rfl (by kernel_rfl) (by kernel_rfl) (by kernel_rfl) (fun _ _ _ h => h) (Or.inl ⟨by kernel_rfl, fun w _ => by kernel_rfl⟩) hS ?_
  refine wpAnyH_take (i := 69) (v := .pointer (some ⟨x, 54, none⟩)) rfl (by kernel_rfl) (by kernel_rfl) (by kernel_rfl) (fun _ _ _ h => h) (Or.inl ⟨by kernel_rfl, fun w _ => by kernel_rfl⟩) hS ?_
  refine wpAnyH_take (i := 70) (v := .pointer (some ⟨x, 67, none⟩)) rfl (by kernel_rfl) (by kernel_rfl) (by kernel_rfl) (fun _ _ _ h => h) (Or.inl ⟨by kernel_rfl, fun w _ => by kernel_rfl⟩) hS ?_
  refine wpAnyH_take (i := 71) (v := .slice (some ⟨x, 67, none⟩) 2 2) rfl (by kernel_rfl) (by kernel_rfl) (by kernel_rfl) (fun _ _ _ h => h) (Or.inl ⟨by kernel_rfl, fun w _ => by kernel_rfl⟩) hS ?_
  clear k_pc k_mode k_asleep k_ram k_msip k_mtimecmp k_mtime k_pend k_served k_level hconv
  refine look6 (fun k c a w => ∃ b1 b2 b3 b4 b5 bk : Nat, a = ⟨#[.pointer (some ⟨x, 0, none⟩), undef, .pointer (some ⟨W.heap.size, 0, none⟩), .pointer (some ⟨x, 0, none⟩), .pointer (some ⟨x, 0, none⟩), .pointer (some ⟨x, 0, none⟩), .slice (some ⟨x, 0, none⟩) 32 32, sl (decide (1 ≤ k)) b1 32, .pointer (some ⟨x, 0, none⟩), .pointer (some ⟨x, 0, none⟩), .pointer (some ⟨x, 32, none⟩), .int .u32 s.pc, .pointer (some ⟨x, 0, none⟩), .pointer (some ⟨x, 0, none⟩), .pointer (some ⟨x, 33, none⟩), .int .i64 s.mode, .pointer (some ⟨x, 0, none⟩), .pointer (some ⟨x, 0, none⟩), .pointer (some ⟨x, 34, none⟩), .bool s.asleep, .pointer (some ⟨x, 0, none⟩), sl (decide (2 ≤ k)) b2 19, .pointer (some ⟨x, 0, none⟩), .pointer (some ⟨x, 0, none⟩), .pointer (some ⟨x, 50, none⟩), .slice (some ⟨r, 0, none⟩) s.ram.length s.ram.length, .string (bytesOf s.ram), .pointer (some ⟨x, 0, none⟩), .pointer (some ⟨x, 0, none⟩), .pointer (some ⟨x, 51, none⟩), .pointer (some ⟨x, 51, none⟩), .int .u32 s.msip, .pointer (some ⟨x, 0, none⟩), .pointer (some ⟨x, 0, none⟩), .pointer (some ⟨x, 51, none⟩), .pointer (some ⟨x, 52, none⟩), .int .u32 s.mtimecmp, .pointer (some ⟨x, 0, none⟩), .pointer (some ⟨x, 0, none⟩), .pointer (some ⟨x, 51, none⟩), .pointer (some ⟨x, 53, none⟩), .int .u32 s.mtime, sl c bk 3, .pointer (some ⟨x, 0, none⟩), .pointer (some ⟨x, 0, none⟩), .pointer (some ⟨x, 54, none⟩), .pointer (some ⟨x, 54, none⟩), .slice (some ⟨x, 54, none⟩) 8 8, sl (decide (3 ≤ k)) b3 8, .pointer (some ⟨x, 0, none⟩), .pointer (some ⟨x, 0, none⟩), .pointer (some ⟨x, 54, none⟩), .pointer (some ⟨x, 62, none⟩), .int .u32 s.pend, .pointer (some ⟨x, 0, none⟩), .pointer (some ⟨x, 0, none⟩), .pointer (some ⟨x, 54, none⟩), .pointer (some ⟨x, 63, none⟩), .int .u32 s.served, .pointer (some ⟨x, 0, none⟩), .pointer (some ⟨x, 0, none⟩), .pointer (some ⟨x, 54, none⟩), .pointer (some ⟨x, 64, none⟩), .int .u32 s.level, .pointer (some ⟨x, 0, none⟩), .pointer (some ⟨x, 0, none⟩), .pointer (some ⟨x, 54, none⟩), .pointer (some ⟨x, 65, none⟩), .slice (some ⟨x, 65, none⟩) 2 2, sl (decide (4 ≤ k)) b4 2, .pointer (some ⟨x, 0, none⟩), .pointer (some ⟨x, 0, none⟩), .pointer (some ⟨x, 54, none⟩), .pointer (some ⟨x, 67, none⟩), .slice (some ⟨x, 67, none⟩) 2 2, sl (decide (5 ≤ k)) b5 2, undef], []⟩ ∧ Inv6 w0 s w (decide (1 ≤ k)) (decide (2 ≤ k)) (decide (3 ≤ k)) (decide (4 ≤ k)) (decide (5 ≤ k)) c b1 b2 b3 b4 b5 bk) (by kernel_rfl) (by kernel_rfl) (by kernel_rfl) (by kernel_rfl) (by kernel_rfl) (by kernel_rfl) (by kernel_rfl) (by kernel_rfl) (by kernel_rfl) (by kernel_rfl) (by kernel_rfl) ?_ ?_ ?_ ?_ ?_ ?_ ?_ _ _ ?_
  · intro c a w K' h H
    obtain ⟨b1, b2, b3, b4, b5, bk, rfl, hI⟩ := h
    refine wpOp_step rfl (fun K hK => ?_)
    go_simp
    refine (fresh_ex w x 0 32 32 s.regs nr (by decide) (HH.out w (HB0.out w hI.bel)).regs).mono ?_
    rintro e w' ⟨g, rfl, hg, hrow, hb⟩
    have hI' := hI.step0 hg hrow hb
    exact hK _ _ (H _ _ (HB0.out w' hI'.bel) ⟨g, b2, b3, b4, b5, bk, rfl, hI'⟩)
  · intro c a w K' h H
    obtain ⟨b1, b2, b3, b4, b5, bk, rfl, hI⟩ := h
    refine wpOp_step rfl (fun K hK => ?_)
    go_simp
    refine (controls_any w x r s (HH.out w (HB0.out w hI.bel))).mono ?_
    rintro e w' ⟨g, rfl, hg, hrow, hb⟩
    have hI' := hI.step1 hg hrow hb
    exact hK _ _ (H _ _ (HB0.out w' hI'.bel) ⟨b1, g, b3, b4, b5, bk, rfl, hI'⟩)
  · intro c a w K' h H
    obtain ⟨b1, b2, b3, b4, b5, bk, rfl, hI⟩ := h
    refine wpOp_step rfl (fun K hK => ?_)
    go_simp
    refine (fresh_ex w x 54 8 8 s.prio np (by decide) (fun i hi => (HH.out w (HB0.out w hI.bel)).prio8 i hi)).mono ?_
    rintro e w' ⟨g, rfl, hg, hrow, hb⟩
    have hI' := hI.step2 hg hrow hb
    exact hK _ _ (H _ _ (HB0.out w' hI'.bel) ⟨b1, b2, g, b4, b5, bk, rfl, hI'⟩)
  · intro c a w K' h H
    obtain ⟨b1, b2, b3, b4, b5, bk, rfl, hI⟩ := h
    refine wpOp_step rfl (fun K hK => ?_)
    go_simp
    refine (fresh_ex w x 65 2 2 [s.en0, s.en1] rfl (by decide) (HH.out w (HB0.out w hI.bel)).enable).mono ?_
    rintro e w' ⟨g, rfl, hg, hrow, hb⟩
    have hI' := hI.step3 hg hrow hb
    exact hK _ _ (H _ _ (HB0.out w' hI'.bel) ⟨b1, b2, b3, g, b5, bk, rfl, hI'⟩)
  · intro c a w K' h H
    obtain ⟨b1, b2, b3, b4, b5, bk, rfl, hI⟩ := h
    refine wpOp_step rfl (fun K hK => ?_)
    go_simp
    refine (fresh_ex w x 67 2 2 [s.li0, s.li1] rfl (by decide) (HH.out w (HB0.out w hI.bel)).limit).mono ?_
    rintro e w' ⟨g, rfl, hg, hrow, hb⟩
    have hI' := hI.step4 hg hrow hb
    exact hK _ _ (H _ _ (HB0.out w' hI'.bel) ⟨b1, b2, b3, b4, g, bk, rfl, hI'⟩)
  · intro k a w K' h H
    obtain ⟨b1, b2, b3, b4, b5, bk, rfl, hI⟩ := h
    refine wpOp_step rfl (fun K hK => ?_)
    go_simp
    have hI' := hI.step5 (g := w.heap.size) (Nat.le_refl _) (row_at w _ rfl #[.int .u32 s.msip, .int .u32 s.mtimecmp, .int .u32 s.mtime] [s.msip, s.mtimecmp, s.mtime] 3 rfl (by decide) rfl) ((Below.refl _ _).alloc (Nat.le_refl _) _)
    exact hK _ _ (H _ _ (HB0.out _ hI'.bel) ⟨b1, b2, b3, b4, b5, w.heap.size, rfl, hI'⟩)
  · intro a w h
    obtain ⟨b1, b2, b3, b4, b5, bk, rfl, hI⟩ := h
    have hS' := HB0.out w hI.bel
    refine wpAnyH_take (i := 73) (v := .agg #[.slice (some ⟨b1, 0, none⟩) 32 32, .int .u32 s.pc, .int .i64 s.mode, .bool s.asleep, .slice (some ⟨b2, 0, none⟩) 19 19, .string (bytesOf s.ram), .slice (some ⟨bk, 0, none⟩) 3 3, .slice (some ⟨b3, 0, none⟩) 8 8, .int .u32 s.pend, .int .u32 s.served, .int .u32 s.level, .slice (some ⟨b4, 0, none⟩) 2 2, .slice (some ⟨b5, 0, none⟩) 2 2]) rfl (by kernel_rfl) (by kernel_rfl) (by kernel_rfl) (fun _ _ _ h => h) (Or.inl ⟨by kernel_rfl, fun w _ => by kernel_rfl⟩) hS' ?_
    refine wpAnyH_all (rs := [74]) (by kernel_rfl) (by simp) fun i hi => ?_
    obtain rfl : i = 74 := by simpa using hi
    have l0 : W.heap.size < w0.heap.size := by rw [HW0.out]; simp
    have zr : w.heap[W.heap.size]? = some (Obj.cells #[.slice none 0 0, .int .u32 0, .int .i64 0, .bool false, .slice none 0 0, .string { data := #[] }, .slice none 0 0, .slice none 0 0, .int .u32 0, .int .u32 0, .int .u32 0, .slice none 0 0, .slice none 0 0] 48 (0, 0)) := (hI.bel.block _ l0).trans (by rw [HW0.out]; exact heap_alloc_new W _)
    have zf : ∀ j, w.frozen? ⟨W.heap.size, j, none⟩ = false := fun j => by unfold World.frozen?; rw [zr]; simp
    have zc0 : w.cell? ⟨W.heap.size, 0, none⟩ = some (.slice none 0 0) := (cell_of_row w _ 0 _ _ (0, 0) zr).trans rfl
    have zc1 : w.cell? ⟨W.heap.size, 1, none⟩ = some (.int .u32 0) := (cell_of_row w _ 1 _ _ (0, 0) zr).trans rfl
    have zc2 : w.cell? ⟨W.heap.size, 2, none⟩ = some (.int .i64 0) := (cell_of_row w _ 2 _ _ (0, 0) zr).trans rfl
    have zc3 : w.cell? ⟨W.heap.size, 3, none⟩ = some (.bool false) := (cell_of_row w _ 3 _ _ (0, 0) zr).trans rfl
    have zc4 : w.cell? ⟨W.heap.size, 4, none⟩ = some (.slice none 0 0) := (cell_of_row w _ 4 _ _ (0, 0) zr).trans rfl
    have zc5 : w.cell? ⟨W.heap.size, 5, none⟩ = some (.string { data := #[] }) := (cell_of_row w _ 5 _ _ (0, 0) zr).trans rfl
    have zc6 : w.cell? ⟨W.heap.size, 6, none⟩ = some (.slice none 0 0) := (cell_of_row w _ 6 _ _ (0, 0) zr).trans rfl
    have zc7 : w.cell? ⟨W.heap.size, 7, none⟩ = some (.slice none 0 0) := (cell_of_row w _ 7 _ _ (0, 0) zr).trans rfl
    have zc8 : w.cell? ⟨W.heap.size, 8, none⟩ = some (.int .u32 0) := (cell_of_row w _ 8 _ _ (0, 0) zr).trans rfl
    have zc9 : w.cell? ⟨W.heap.size, 9, none⟩ = some (.int .u32 0) := (cell_of_row w _ 9 _ _ (0, 0) zr).trans rfl
    have zc10 : w.cell? ⟨W.heap.size, 10, none⟩ = some (.int .u32 0) := (cell_of_row w _ 10 _ _ (0, 0) zr).trans rfl
    have zc11 : w.cell? ⟨W.heap.size, 11, none⟩ = some (.slice none 0 0) := (cell_of_row w _ 11 _ _ (0, 0) zr).trans rfl
    have zc12 : w.cell? ⟨W.heap.size, 12, none⟩ = some (.slice none 0 0) := (cell_of_row w _ 12 _ _ (0, 0) zr).trans rfl
    have HI : Hid (Inv6 w0 s w true true true true true true b1 b2 b3 b4 b5 bk) := hI
    clear hI zr
    refine wpOp_step rfl (fun K hK => ?_)
    go_simp
    refine hK _ _ ⟨below_put13 hS' (Nat.le_refl _) _ _ _ _ _ _ _ _ _ _ _ _ _, wpAnyH_done (by kernel_rfl) ?_ _⟩
    clear hK K
    go_wp2
    have hI := HI.out
    have A0 := hI.a0 rfl
    have A1 := hI.a1 rfl
    have A2 := hI.a2 rfl
    have A3 := hI.a3 rfl
    have A4 := hI.a4 rfl
    have A5 := hI.a5 rfl
    have g1 : W.heap.size ≤ b1 := by omega
    have g2 : W.heap.size ≤ b2 := by omega
    have g3 : W.heap.size ≤ b3 := by omega
    have g4 : W.heap.size ≤ b4 := by omega
    have g5 : W.heap.size ≤ b5 := by omega
    have gk : W.heap.size ≤ bk := by omega
    exact bodyPost_ret (v := .agg #[.slice (some ⟨b1, 0, none⟩) 32 32, .int .u32 s.pc, .int .i64 s.mode, .bool s.asleep, .slice (some ⟨b2, 0, none⟩) 19 19, .string (bytesOf s.ram), .slice (some ⟨bk, 0, none⟩) 3 3, .slice (some ⟨b3, 0, none⟩) 8 8, .int .u32 s.pend, .int .u32 s.served, .int .u32 s.level, .slice (some ⟨b4, 0, none⟩) 2 2, .slice (some ⟨b5, 0, none⟩) 2 2]) (by simp [results, Tryz.results20, go_sem, get13_0 _ _ _ _ _ _ _ _ _ _ _ _ _ _ _ _ zc0, get13_1 _ _ _ _ _ _ _ _ _ _ _ _ _ _ _ _ zc1, get13_2 _ _ _ _ _ _ _ _ _ _ _ _ _ _ _ _ zc2, get13_3 _ _ _ _ _ _ _ _ _ _ _ _ _ _ _ _ zc3, get13_4 _ _ _ _ _ _ _ _ _ _ _ _ _ _ _ _ zc4, get13_5 _ _ _ _ _ _ _ _ _ _ _ _ _ _ _ _ zc5, get13_6 _ _ _ _ _ _ _ _ _ _ _ _ _ _ _ _ zc6, get13_7 _ _ _ _ _ _ _ _ _ _ _ _ _ _ _ _ zc7, get13_8 _ _ _ _ _ _ _ _ _ _ _ _ _ _ _ _ zc8, get13_9 _ _ _ _ _ _ _ _ _ _ _ _ _ _ _ _ zc9, get13_10 _ _ _ _ _ _ _ _ _ _ _ _ _ _ _ _ zc10, get13_11 _ _ _ _ _ _ _ _ _ _ _ _ _ _ _ _ zc11, get13_12 _ _ _ _ _ _ _ _ _ _ _ _ _ _ _ _ zc12]) rfl ⟨⟨b1, 32, b2, 19, bk, 3, b3, 8, b4, 2, b5, 2⟩, by simp [lookC, csrsC, nr, np], ⟨A0.2.put13 (by omega) _ _ _ _ _ _ _ _ _ _ _ _ _, A1.2.put13 (by omega) _ _ _ _ _ _ _ _ _ _ _ _ _, A5.2.put13 (by omega) _ _ _ _ _ _ _ _ _ _ _ _ _, A2.2.put13 (by omega) _ _ _ _ _ _ _ _ _ _ _ _ _, A3.2.put13 (by omega) _ _ _ _ _ _ _ _ _ _ _ _ _, A4.2.put13 (by omega) _ _ _ _ _ _ _ _ _ _ _ _ _⟩, ⟨⟨g1, g2, gk, g3, g4, g5⟩, hI.p01 rfl rfl, hI.p05 rfl rfl, hI.p02 rfl rfl, hI.p03 rfl rfl, hI.p04 rfl rfl, hI.p15 rfl rfl, hI.p12 rfl rfl, hI.p13 rfl rfl, hI.p14 rfl rfl, (hI.p25 rfl rfl).symm, (hI.p35 rfl rfl).symm, (hI.p45 rfl rfl).symm, hI.p23 rfl rfl, hI.p24 rfl rfl, hI.p34 rfl rfl⟩, below_put13 hS' (Nat.le_refl _) _ _ _ _ _ _ _ _ _ _ _ _ _⟩
  · exact ⟨0, 0, 0, 0, 0, 0, by kernel_rfl, ⟨(Below.refl _ _).drew, (fun h => by cases h), (fun h => by cases h), (fun h => by cases h), (fun h => by cases h), (fun h => by cases h), (fun h => by cases h), (fun h => by cases h), (fun h => by cases h), (fun h => by cases h), (fun h => by cases h), (fun h => by cases h), (fun h => by cases h), (fun h => by cases h), (fun h => by cases h), (fun h => by cases h), (fun h => by cases h), (fun h => by cases h), (fun h => by cases h), (fun h => by cases h), (fun h => by cases h), (fun h => by cases h)⟩⟩
end Go.Proofs.YteiideeechnekaaGreatDoor
