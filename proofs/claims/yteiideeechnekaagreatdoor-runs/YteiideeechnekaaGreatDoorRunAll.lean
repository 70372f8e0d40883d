import Derived.Test.YteiideeechnekaaGreatDoorIntPure
import Derived.Test.YteiideeechnekaaGreatDoorRunOne
import Derived.Test.YteiideeechnekaaGreatDoorDevAll
import Derived.Laws.StructEq
/-
  One step of both computers ends alike.
-/
namespace Go.Proofs.YteiideeechnekaaGreatDoor
open Go.RowKit

/-- One step of both computers ends alike. -/
def Agree : Prop := ∀ s : RSt, Gd s → ∃ s', Gd s' ∧ RStep s s' ∧ CStep (cOf s) (cOf s')
theorem rs_int {s : RSt} (A : Aw s) (i : Nat) (hi : i < 12) (hc : chosenR (wakeR s) = i) : RStep s (intR (wakeR s) i) := by
  intro W p b h P
  rcases A with ha | ⟨ha, hm⟩
  · rw [wake_awake ha] at hc ⊢
    cases hs : isB s.mideleg i
    · exact stepi_a_false W p b s h P ha i hi hc hs
    · exact stepi_a_true W p b s h P ha i hi hc hs
  · cases hs : isB s.mideleg i
    · exact stepi_w_false W p b s h P ha hm i hi hc hs
    · exact stepi_w_true W p b s h P ha hm i hi hc hs
theorem rs_fetch {s : RSt} (A : Aw s) (hc : chosenR (wakeR s) = -1) (m : Nat) (hp : s.pc = m) (h32 : m < 4294967296) (ho : ¬ m + 4 ≤ s.ram.length) : RStep s (failR (wakeR s) 1 s.pc) := by
  intro W p b h P
  rcases A with ha | ⟨ha, hm⟩
  · rw [wake_awake ha] at hc ⊢
    exact stepf_a W p b s h P ha hc m hp h32 ho
  · exact stepf_w W p b s h P ha hm hc m hp h32 ho
theorem rs_do {s s' : RSt} (A : Aw s) (hc : chosenR (wakeR s) = -1) (m : Nat) (hp : s.pc = m) (ho : m + 4 ≤ s.ram.length) (D : RDo (wakeR s) s' m) : RStep s s' := by
  intro W p b h P
  rcases A with ha | ⟨ha, hm⟩
  · rw [wake_awake ha] at hc D
    exact stepd_a W p b s h ha hc m hp ho s' fun W' h' => D W' p b h' P
  · exact stepd_w W p b s h P ha hm hc m hp ho s' fun W' h' => D W' p b h' P
theorem agree : Agree := by
  intro s G
  obtain ⟨m, hp⟩ : ∃ m : Nat, s.pc = m := ⟨s.pc.toNat, by have := G.pc.1; omega⟩
  have h32 : m < 4294967296 := by have := G.pc.2; omega
  rcases aw_or s with A | ⟨ha, hm⟩
  · have U := A.up G
    rcases chosenR_cases (wakeR s) with hc | ⟨i, hi, hc⟩
    · obtain ⟨e1, e2⟩ := int_none G.wake hc
      by_cases ho : m + 4 ≤ s.ram.length
      · obtain ⟨s', G', D, N⟩ := do_one G.wake hp ho
        exact ⟨s', G', rs_do A hc m hp ho D, cstep_next U e1 e2 N⟩
      · have C := G.wake.cok
        refine ⟨failR (wakeR s) 1 s.pc, G.wake.fail 1 (by decide) _ G.pc, rs_fetch A hc m hp h32 ho, cstep_next U e1 e2 fun W x r h A T T9 => ?_⟩
        rw [cOf_fail G.wake 1 s.pc]
        exact next_fault W x r _ h A C.m0 C.m3 m hp h32 ho
    · obtain ⟨_, G', C'⟩ := int_both G.wake (cOf s) U i hc
      exact ⟨_, G', rs_int A i hi hc, C'⟩
  · exact ⟨s, G, fun W p b h _ => step_sleep W p b s h ha hm, fun W x r h _ _ _ => cstep_sleep W x r _ h ha (by rw [G.pend]; exact hm)⟩
end Go.Proofs.YteiideeechnekaaGreatDoor

/-
  hartlaw.Runs and All: the walk, out of one step.
-/
namespace Go.Proofs.YteiideeechnekaaGreatDoor
open Go.RowKit

set_option maxHeartbeats 1000000 in
theorem plays_step (W0 W : World) (x r p : Nat) (bl : RBl) (s : RSt) (I : DInv W0 W x r p bl s) (a b : Int) (v : Nat) (T : D.Tabs W) (T9 : T19 W) (s1 : RSt) (G1 : Gd s1) (R1 : RStep s s1) (C1 : CStep (cOf s) (cOf s1)) :
    Calls Tryz.prog 41 #[.pointer (some ⟨x, 0, none⟩), .pointer (some ⟨p, 0, none⟩), .agg #[.int .i64 1, .int .i64 a, .int .i64 b, .int .u32 v]] W fun e W' => e = .returned (.bool true) ∧ ∃ s', DInv W0 W' x r p bl s' := by
  have HI : Hid (DInv W0 W x r p bl s) := I
  have lt := I.c.lt
  have HX : Hid (W.heap.size ∉ [x, r]) := fun e => by simp at e; omega
  have hal := fun o : Obj => (Below.refl W.heap.size W).alloc (Nat.le_refl _) o
  have HC : Hid (∀ o : Obj, Calls Tryz.prog 14 #[.pointer (some ⟨x, 0, none⟩)] (W.alloc o) (CP (W.alloc o) x r (cOf s1))) := fun o => C1 (W.alloc o) x r (I.new o).c I.ne (T.below (by have := T9.lt; omega) (hal o)) (T9.below (hal o))
  have HR : Hid (∀ w, RefAt w p bl s → Calls Tryz.prog 12 #[.pointer (some ⟨p, 0, none⟩)] w (RP w p bl s1)) := fun w h => R1 w p bl h I.a
  have HG : Hid (Gd s1) := G1
  clear I lt T T9 G1 R1 C1 hal
  go_enter Tryz.func41, Tryz.ntmps41
  go_wp2_with fail
  refine (HC.out _).mono ?_
  rintro e w1 ⟨rfl, h1, o1⟩
  have H1 : Hid (CodeAt w1 x r (cOf s1)) := h1
  have O1 : Hid (Offs [x, r] (W.alloc (.cells #[.int .i64 1, .int .i64 a, .int .i64 b, .int .u32 v] 69)) w1) := o1
  clear h1 o1
  go_wp2_with fail
  refine (HR.out _ (HI.out.mid O1.out)).mono ?_
  rintro e w2 ⟨rfl, h2, o2⟩
  go_wp2
  go_ret
  exact ⟨rfl, s1, HI.out.both HG.out H1.out O1.out h2 o2⟩
theorem plays_all (AG : Agree) {W : World} (T : D.Tabs W) (T9 : T19 W) (w : World) (x r p : Nat) (bl : RBl) (s : RSt) (I : DInv W w x r p bl s) (k a b : Int) (v : Nat) (hv : v < 4294967296) :
    Calls Tryz.prog 41 #[.pointer (some ⟨x, 0, none⟩), .pointer (some ⟨p, 0, none⟩), .agg #[.int .i64 k, .int .i64 a, .int .i64 b, .int .u32 v]] w fun e W' => e = .returned (.bool true) ∧ ∃ s', DInv W W' x r p bl s' := by
  by_cases h1 : k = 1
  · subst h1
    obtain ⟨s1, G1, R1, C1⟩ := AG s I.g
    exact plays_step W w x r p bl s I a b v (T.below (by have := T9.lt; omega) I.bel) (T9.below I.bel) s1 G1 R1 C1
  · exact plays_any W w x r p bl s I a b v hv k h1
theorem runs_any (AG : Agree) (W : World) (T : D.Tabs W) (T9 : T19 W) (size : Int) (img : ByteArray) (sv : Value) (h : Scr W sv) :
    Calls Tryz.prog 6 #[.int .i64 size, .string img, sv] W fun e W' => e = .returned (.bool true) ∧ Below W.heap.size W W' := by
  have HU := upTo_any W size img (-1) (fun w x r p bl s I k a b v hv _ => plays_all AG T T9 w x r p bl s I k a b v hv) sv h
  clear h AG T T9
  go_enter Tryz.func6, Tryz.ntmps6
  go_wp2_with fail
  refine HU.mono ?_
  rintro e w1 ⟨rfl, hb1⟩
  go_wp2
  go_ret
  exact ⟨rfl, hb1⟩
theorem Scr.below {W W' : World} {v : Value} (h : Scr W v) (hb : Below W.heap.size W W') : Scr W' v := by
  rcases h with ⟨a, cap, rfl⟩ | ⟨sb, so, n, cap, hm, h, rfl⟩
  · exact .nil a cap
  · refine .row sb so n cap hm fun i hi => ?_
    obtain ⟨k, a, b, v, hv, c0, c1, c2, c3⟩ := h i hi
    have sl : sb < W.heap.size := World.block_lt_of_cell? W _ c0
    have bc := fun j => Below.cell hb (p := ⟨sb, j, none⟩) sl
    exact ⟨k, a, b, v, hv, (bc _).trans c0, (bc _).trans c1, (bc _).trans c2, (bc _).trans c3⟩
theorem decode_of (w : Int) (W : World) (d : D.Ins) (hA : ∀ o, Calls Tryz.prog 80 #[.int .u32 w] (W.alloc o) fun e W' => e = .returned (.agg #[.int .i64 d.op, .int .i64 d.rd, .int .i64 d.r1, .int .i64 d.r2, .int .u32 d.imm]) ∧ Below (W.alloc o).heap.size (W.alloc o) W') :
    Calls Tryz.prog 42 #[.int .u32 w] W fun e W' => e = .returned (.agg #[.int .i64 d.op, .int .i64 d.rd, .int .i64 d.r1, .int .i64 d.r2, .int .u32 d.imm]) ∧ Below W.heap.size W W' := by
  go_enter Tryz.func42, Tryz.ntmps42
  go_wp2_with (go_at_call 80; refine (hA _).mono ?_; rintro e w' ⟨rfl, hb⟩; obtain ⟨hc, hfz⟩ := bcell hb)
  exact bodyPost_ret (v := .agg #[.int .i64 d.op, .int .i64 d.rd, .int .i64 d.r1, .int .i64 d.r2, .int .u32 d.imm]) (by simp [results, Tryz.results42, go_sem, hc]) rfl ⟨rfl, D.below5 (((Below.refl _ _).alloc (Nat.le_refl _) _).trans (hb.mono (by simp))) (Nat.le_refl _) _ _ _ _ _⟩
theorem decode_any (w : Int) (W : World) (h0 : 0 ≤ w) (h1 : w < 4294967296) (T : D.Tabs W) :
    Calls Tryz.prog 42 #[.int .u32 w] W fun e W' => e = .returned (.agg #[.int .i64 (D.dec w).op, .int .i64 (D.dec w).rd, .int .i64 (D.dec w).r1, .int .i64 (D.dec w).r2, .int .u32 (D.dec w).imm]) ∧ Below W.heap.size W W' :=
  decode_of w W (D.dec w) fun o => D.word_any w (W.alloc o) h0 h1 (T.below T.size ((Below.refl _ _).alloc (Nat.le_refl _) o))
theorem decodes_any (w : Int) (W : World) (h0 : 0 ≤ w) (h1 : w < 4294967296) (T : D.Tabs W) :
    Calls Tryz.prog 17 #[.int .u32 w] W fun e W' => e = .returned (.bool true) ∧ Below W.heap.size W W' := by
  go_enter Tryz.func17, Tryz.ntmps17
  go_wp2_with fail
  refine (decode_any w W h0 h1 T).mono ?_
  rintro e w1 ⟨rfl, hb1⟩
  go_wp2_with fail
  refine (D.rdecode_any w _ h0 h1).mono ?_
  rintro e w2 ⟨⟨op, rd, r1, r2, imm, rfl, he⟩, hb2⟩
  have k0 : (D.dec w).op = op := by rw [he]
  have k1 : (D.dec w).rd = rd := by rw [he]
  have k2 : (D.dec w).r1 = r1 := by rw [he]
  have k3 : (D.dec w).r2 = r2 := by rw [he]
  have k4 : (D.dec w).imm = imm := by rw [he]
  have s2 := hb2.size
  simp at s2
  have x2 := fun j => (bcell hb2).1 w1.heap.size j (by simp)
  have x2a := (alloc_cell w2 w1.heap.size (by omega)).1
  have hb3 := (((hb1.alloc hb1.size _).trans (hb2.mono (by have := hb1.size; simp; omega))))
  clear hb2 he
  go_wp2_with fail
  go_ret
  exact ⟨rfl, hb3.alloc (by have := hb1.size; omega) _⟩
theorem all_any (AG : Agree) (W : World) (T : D.Tabs W) (T9 : T19 W) (size : Int) (img : ByteArray) (sv : Value) (h : Scr W sv) (other : ByteArray) (w : Int) (h0 : 0 ≤ w) (h1 : w < 4294967296) :
    Calls Tryz.prog 7 #[.int .i64 size, .string img, sv, .string other, .int .u32 w] W fun e W' => e = .returned (.bool true) ∧ Below W.heap.size W W' := by
  have HU : Hid (∀ W' i, Below W.heap.size W W' → Calls Tryz.prog 6 #[.int .i64 size, .string i, sv] W' fun e W'' => e = .returned (.bool true) ∧ Below W.heap.size W W'') := fun W' i hb => by
    refine (runs_any AG W' (T.below (by have := T9.lt; omega) hb) (T9.below hb) size i sv (h.below hb)).mono ?_
    rintro e w1 ⟨rfl, hb1⟩
    exact ⟨rfl, hb.trans (hb1.mono hb.size)⟩
  have HD : Hid (∀ W', Below W.heap.size W W' → Calls Tryz.prog 17 #[.int .u32 w] W' fun e W'' => e = .returned (.bool true) ∧ Below W.heap.size W W'') := fun W' hb => by
    refine (decodes_any w W' h0 h1 (T.below (by have := T9.lt; omega) hb)).mono ?_
    rintro e w1 ⟨rfl, hb1⟩
    exact ⟨rfl, hb.trans (hb1.mono hb.size)⟩
  clear h AG T T9
  go_enter Tryz.func7, Tryz.ntmps7
  go_wp2_with fail
  refine (HU.out _ _ (Below.refl _ _)).mono ?_
  rintro e w1 ⟨rfl, b1⟩
  go_wp2_with fail
  refine (HU.out _ _ b1).mono ?_
  rintro e w2 ⟨rfl, b2⟩
  go_wp2_with fail
  refine (HD.out _ b2).mono ?_
  rintro e w3 ⟨rfl, b3⟩
  go_wp2_with fail
  refine (HU.out _ _ b3).mono ?_
  rintro e w4 ⟨rfl, b4⟩
  go_wp2
  go_ret
  exact ⟨rfl, b4⟩
end Go.Proofs.YteiideeechnekaaGreatDoor
