/-
  Traps: one instruction: either the document's asks for a device, or both computers do the same.
-/
import Derived.Test.YteiideeechnekaaGreatDoorTrapPure
import Derived.Test.YteiideeechnekaaGreatDoorRefDo
import Derived.Test.YteiideeechnekaaGreatDoorRefStep
import Derived.Test.YteiideeechnekaaGreatDoorRefSet
import Derived.Test.YteiideeechnekaaGreatDoorCodeStep
import Derived.Test.YteiideeechnekaaGreatDoorCodeDoL
import Derived.Test.YteiideeechnekaaGreatDoorCodeDoV
import Derived.Test.YteiideeechnekaaGreatDoorCodeAcc
namespace Go.Proofs.YteiideeechnekaaGreatDoor
open Go.RowKit

def SameD (s s' : RSt) : Prop := s'.traps = s.traps ∧ s'.system = s.system ∧ s'.device = s.device
theorem claim_same (s : RSt) (m : Nat) : SameD s (claimS s m) := by
  unfold claimS
  split
  · exact ⟨rfl, rfl, rfl⟩
  · exact ⟨rfl, rfl, rfl⟩
theorem dev_same (s : RSt) (a : Nat) : SameD s (devR s a).1 := by
  unfold devR
  split; · exact ⟨rfl, rfl, rfl⟩
  split; · exact ⟨rfl, rfl, rfl⟩
  split; · exact ⟨rfl, rfl, rfl⟩
  split; · exact ⟨rfl, rfl, rfl⟩
  split; · exact ⟨rfl, rfl, rfl⟩
  split; · exact ⟨rfl, rfl, rfl⟩
  split; · exact ⟨rfl, rfl, rfl⟩
  split; · exact claim_same s _
  split; · exact ⟨rfl, rfl, rfl⟩
  split; · exact ⟨rfl, rfl, rfl⟩
  split; · exact claim_same s _
  exact ⟨rfl, rfl, rfl⟩
theorem compl_same (s : RSt) (c : Nat) (v : Int) : SameD s (complR s c v) := by
  unfold complR
  split; · exact ⟨rfl, rfl, rfl⟩
  split; · exact ⟨rfl, rfl, rfl⟩
  split; · exact ⟨rfl, rfl, rfl⟩
  exact ⟨rfl, rfl, rfl⟩
theorem set_same (s : RSt) (a : Nat) (v : Int) : SameD s (setR s a v).1 := by
  unfold setR
  by_cases c0 : a = 4096
  · rw [if_pos c0]; exact ⟨rfl, rfl, rfl⟩
  rw [if_neg c0]
  by_cases c1 : a = 4100
  · rw [if_pos c1]; exact ⟨rfl, rfl, rfl⟩
  rw [if_neg c1]
  by_cases c2 : a = 4104
  · rw [if_pos c2]; exact ⟨rfl, rfl, rfl⟩
  rw [if_neg c2]
  by_cases c3 : a = 8224
  · rw [if_pos c3]; exact ⟨rfl, rfl, rfl⟩
  rw [if_neg c3]
  by_cases c4 : a = 8192
  · rw [if_pos c4]; exact ⟨rfl, rfl, rfl⟩
  rw [if_neg c4]
  by_cases c5 : 8192 < a ∧ a < 8224 ∧ a % 4 = 0
  · rw [if_pos c5]; exact ⟨rfl, rfl, rfl⟩
  rw [if_neg c5]
  by_cases c6 : a = 8228
  · rw [if_pos c6]; exact ⟨rfl, rfl, rfl⟩
  rw [if_neg c6]
  by_cases c7 : a = 8240
  · rw [if_pos c7]; exact ⟨rfl, rfl, rfl⟩
  rw [if_neg c7]
  by_cases c8 : a = 8244
  · rw [if_pos c8]; exact compl_same s _ _
  rw [if_neg c8]
  by_cases c9 : a = 8232
  · rw [if_pos c9]; exact ⟨rfl, rfl, rfl⟩
  rw [if_neg c9]
  by_cases c10 : a = 8248
  · rw [if_pos c10]; exact ⟨rfl, rfl, rfl⟩
  rw [if_neg c10]
  by_cases c11 : a = 8252
  · rw [if_pos c11]; exact compl_same s _ _
  rw [if_neg c11]
  exact ⟨rfl, rfl, rfl⟩
theorem alu_bd (op a b : Int) (a0 : 0 ≤ a) (a1 : a < 4294967296) (b0 : 0 ≤ b) (b1 : b < 4294967296) : 0 ≤ aluV op a b ∧ aluV op a b < 4294967296 := by
  have xo : 0 ≤ bits .xor .u32 a b ∧ bits .xor .u32 a b < 4294967296 := by
    rw [u32_xor a b a0 a1 b0 b1]
    have := Nat.xor_lt_two_pow (n := 32) (x := a.toNat) (y := b.toNat) (by omega) (by omega)
    omega
  have an : 0 ≤ bits .and .u32 a b ∧ bits .and .u32 a b < 4294967296 := by
    rw [u32_and a b a0 a1 b0 b1]
    have : a.toNat &&& b.toNat ≤ a.toNat := Nat.and_le_left
    omega
  have oo := or_bd a b a0 a1 b0 b1
  unfold aluV
  split; · omega
  split; · omega
  split; · unfold oneV; split <;> decide
  split; · unfold oneV; split <;> decide
  split; · exact xo
  split; · exact oo
  split; · exact an
  split; · exact ⟨Int.emod_nonneg _ (by decide), Int.emod_lt_of_pos _ (by decide)⟩
  split
  · exact ⟨Int.ediv_nonneg a0 (Int.pow_nonneg (by decide)), Int.lt_of_le_of_lt (Int.ediv_le_self _ a0) a1⟩
  split; · exact ⟨Int.emod_nonneg _ (by decide), Int.emod_lt_of_pos _ (by decide)⟩
  decide
theorem fail_dev (s : RSt) (c : Nat) (t : Int) : (failR s c t).device = s.device := by
  unfold failR trapR
  split <;> rfl
theorem Gd.cok {s : RSt} (h : Gd s) : Cok (cOf s) := ⟨h.z, h.x, h.pc.1, h.pc.2, by have := h.mode; show 0 ≤ s.mode; omega, by have := h.mode; show s.mode ≤ 3; omega⟩
theorem Gd.xok {s : RSt} (h : Gd s) : Xok s := ⟨h.pc.1, h.pc.2, h.x⟩
theorem Nw.dv {s : RSt} (h : Nw s) : (dvR s).device = 1 := by
  show wrap64 (s.device + 1) = 1
  rw [h.device]
  unfold wrap64
  omega
theorem Gd.jump {s : RSt} (h : Gd s) (rd : Nat) (tg : Int) (ht : W32 tg) : Gd (jumpR s rd tg) := by
  unfold jumpR
  split
  · rename_i h4
    exact (h.put rd _ ⟨by omega, by omega⟩).setPc _ ht h4
  · exact h.fail 0 (by decide) tg ht
theorem cOf_jump {s : RSt} (h : Gd s) (rd : Nat) (tg : Int) : cOf (jumpR s rd tg) = jumpC (cOf s) rd tg := by
  unfold jumpR jumpC
  by_cases h4 : tg % 4 = 0
  · rw [if_pos h4, if_pos h4]
    rfl
  · rw [if_neg h4, if_neg h4]
    exact cOf_fail h 0 tg
theorem cOf_go {s : RSt} (h : Gd s) (tg : Int) : cOf (jumpR s 0 tg) = goC (cOf s) tg := by
  unfold jumpR goC
  by_cases h4 : tg % 4 = 0
  · rw [if_pos h4, if_pos h4]
    rfl
  · rw [if_neg h4, if_neg h4]
    exact cOf_fail h 0 tg
theorem wrap_ne (x : Int) : wrap64 (x + 1) ≠ x := by unfold wrap64; omega
/-- The counters: at most one more each; where the second stays, mie and sleep stay. -/
def Cnt (s s' : RSt) : Prop := (s'.traps = s.traps ∨ s'.traps = wrap64 (s.traps + 1)) ∧ (s'.system = s.system ∨ s'.system = wrap64 (s.system + 1)) ∧ (s'.system = s.system → s'.mie = s.mie ∧ s'.asleep = s.asleep)
def Moves (s s' : RSt) : Prop := Still s s' ∧ Cnt s s'
theorem Moves.refl (s : RSt) : Moves s s := ⟨Still.refl s, .inl rfl, .inl rfl, fun _ => ⟨rfl, rfl⟩⟩
theorem mv_fail (s : RSt) (c : Nat) (t : Int) : Moves s (failR s c t) := by
  refine ⟨still_fail s c t, ?_⟩
  unfold failR trapR
  split
  · exact ⟨.inr rfl, .inl rfl, fun _ => ⟨rfl, rfl⟩⟩
  · exact ⟨.inr rfl, .inl rfl, fun _ => ⟨rfl, rfl⟩⟩
theorem mv_jump (s : RSt) (rd : Nat) (v : Int) : Moves s (jumpR s rd v) := by
  unfold jumpR
  split
  · exact Moves.refl s
  · exact mv_fail s 0 v
theorem mv_sysfail (s : RSt) (c : Nat) (t : Int) : Moves s (failR (sys1 s) c t) := by
  refine ⟨still_fail (sys1 s) c t, ?_⟩
  unfold failR trapR
  split
  · exact ⟨.inr rfl, .inr rfl, fun e => absurd e (wrap_ne _)⟩
  · exact ⟨.inr rfl, .inr rfl, fun e => absurd e (wrap_ne _)⟩
theorem mv_sys (s s' : RSt) (h : Still s s') (t : s'.traps = s.traps) (y : s'.system = wrap64 (s.system + 1)) : Moves s s' := ⟨h, .inl t, .inr y, fun e => absurd (y.symm.trans e) (wrap_ne _)⟩
def CntB (s s' : RSt) : Prop := (s'.traps = s.traps ∨ s'.traps = wrap64 (s.traps + 1)) ∧ s'.system = s.system
theorem cntb_fail (s t : RSt) (e1 : t.traps = s.traps) (e2 : t.system = s.system) (c : Nat) (v : Int) : CntB s (failR t c v) := by
  unfold failR trapR
  split
  · exact ⟨.inr (by show wrap64 (t.traps + 1) = _; rw [e1]), e2⟩
  · exact ⟨.inr (by show wrap64 (t.traps + 1) = _; rw [e1]), e2⟩
def RStep (s s' : RSt) : Prop := ∀ (W : World) (p : Nat) (b : RBl), RefAt W p b s → b.Apart p → Calls Tryz.prog 12 #[.pointer (some ⟨p, 0, none⟩)] W fun e W' => e = .returned (.tuple #[]) ∧ RefAt W' p b s' ∧ Offs (b.l p) W W'
def RDo (s s' : RSt) (m : Nat) : Prop := ∀ (W : World) (p : Nat) (b : RBl), RefAt W p b s → b.Apart p → Calls Tryz.prog 32 #[.pointer (some ⟨p, 0, none⟩), .int .u32 (leV s.ram m 4)] W fun e W' => e = .returned (.tuple #[]) ∧ RefAt W' p b s' ∧ Offs (b.l p) W W'
def BadDo (s : RSt) (m : Nat) : Prop := ∃ s', ((Nw s → s'.device = 1) ∧ CntB s s') ∧ RDo s s' m
def GoodDo (s : RSt) (m : Nat) : Prop := ∃ s', (Gd s' ∧ Moves s s') ∧ RDo s s' m ∧ CNext (cOf s) (cOf s')

theorem good_of {s : RSt} {m : Nat} (hm : s.pc = m) (ho : m + 4 ≤ s.ram.length) (s' : RSt) (G' : Gd s') (I : Moves s s') (op rd r1 r2 imm : Int) (hd : D.dec (leV s.ram m 4) = ⟨op, rd, r1, r2, imm⟩) (h0 : op ≠ 0) (DO : RDo s s' m)
    (CO : ∀ (W : World) (x r : Nat), CodeAt W x r (cOf s) → x ≠ r → T19 W → Calls Tryz.prog 81 #[.pointer (some ⟨x, 0, none⟩), .agg #[.int .i64 op, .int .i64 rd, .int .i64 r1, .int .i64 r2, .int .u32 imm], .int .u32 (leV s.ram m 4)] W (CP W x r (cOf s'))) : GoodDo s m :=
  ⟨s', ⟨G', I⟩, DO, fun W x r h A T T9 => next_do W x r _ h T m hm ho op rd r1 r2 imm hd (by simpa using h0) _ fun W' h' hb => CO W' x r h' A (T9.below hb)⟩

structure Jns (s : RSt) (m : Nat) (op : Int) (nd n1 n2 : Nat) (imm : Int) : Prop where
  G : Gd s
  hm : s.pc = m
  ho : m + 4 ≤ s.ram.length
  K : InsOk op nd n1 n2 imm
  hd : D.dec (leV s.ram m 4) = ⟨op, nd, n1, n2, imm⟩
theorem Jns.all {s : RSt} {m : Nat} {op : Int} {nd n1 n2 : Nat} {imm : Int} (J : Jns s m op nd n1 n2 imm) : Gd s ∧ s.pc = m ∧ m + 4 ≤ s.ram.length ∧ InsOk op nd n1 n2 imm ∧ D.dec (leV s.ram m 4) = ⟨op, nd, n1, n2, imm⟩ ∧ W32 (leV s.ram m 4) ∧ W32 (s.x[n1]?.getD 0) ∧ W32 (s.x[n2]?.getD 0) ∧ 0 ≤ imm ∧ imm < 4294967296 ∧ Iok nd n1 n2 imm := by
  obtain ⟨G, hm, ho, K, hd⟩ := J
  exact ⟨G, hm, ho, K, hd, (leV_bd G.b m).2.2, G.x n1, G.x n2, K.i0, K.i1, by have := K.d1; omega, by have := K.s1; omega, by have := K.t1; omega, K.i0, K.i1⟩
theorem stp_alu {s : RSt} {m : Nat} {op : Int} {nd n1 n2 : Nat} {imm : Int} (J : Jns s m op nd n1 n2 imm) (h19 : 19 ≤ op) (h37 : op ≤ 37) (v : Int) (hv : W32 v) (ev : sumV op (s.x[n1]?.getD 0) (s.x[n2]?.getD 0) imm s.pc = v)
    (CO : ∀ (W : World) (x r : Nat), Din W x r (cOf s) nd n1 n2 imm → CDo W x r op nd n1 n2 imm (leV s.ram m 4) (resC (cOf s) nd v)) : GoodDo s m := by
  obtain ⟨G, hm, ho, K, hd, lv, xa, xb, i0, i1, hI⟩ := J.all
  refine good_of hm ho (next1 (putR s nd v)) ((G.put nd _ hv).next) (Moves.refl s) op nd n1 n2 imm hd (by omega) (fun W p b h A => ?_) (fun W x r h A _ => CO W x r ⟨h, A, G.cok, hI⟩)
  have := do_sum W p b _ h A G.xok _ lv.1 lv.2 op nd n1 n2 imm hd K h19 (by omega)
  rw [show sumV op (xAt s n1) (xAt s n2) imm s.pc = v from ev] at this
  exact this
theorem ldOut_dev {s : RSt} (G : Nw s) (rd a : Nat) : (ldOut s rd a).device = 1 := by
  unfold ldOut
  split
  · exact ((dev_same (dvR s) a).2.2).trans G.dv
  · exact (fail_dev _ _ _).trans (((dev_same (dvR s) a).2.2).trans G.dv)
theorem stOut_dev {s : RSt} (G : Nw s) (a : Nat) (v : Int) : (stOut s a v).device = 1 := by
  unfold stOut
  split
  · exact ((set_same (dvR s) a v).2.2).trans G.dv
  · exact (fail_dev _ _ _).trans (((set_same (dvR s) a v).2.2).trans G.dv)
theorem ldOut_cnt (s : RSt) (rd a : Nat) : CntB s (ldOut s rd a) := by
  have d := dev_same (dvR s) a
  unfold ldOut
  split
  · exact ⟨.inl d.1, d.2.1⟩
  · exact cntb_fail s _ d.1 d.2.1 _ _
theorem stOut_cnt (s : RSt) (a : Nat) (v : Int) : CntB s (stOut s a v) := by
  have d := set_same (dvR s) a v
  unfold stOut
  split
  · exact ⟨.inl d.1, d.2.1⟩
  · exact cntb_fail s _ d.1 d.2.1 _ _
theorem stp_1 {s : RSt} {m nd n1 n2 : Nat} {imm : Int} (J : Jns s m 1 nd n1 n2 imm) : GoodDo s m := by
  obtain ⟨G, hm, ho, K, hd, lv, xa, xb, i0, i1, hI⟩ := J.all
  exact good_of hm ho (next1 (putR s nd imm)) ((G.put nd _ ⟨i0, i1⟩).next) (Moves.refl s) 1 nd n1 n2 imm hd (by decide) (fun W p b h A => do_lui W p b _ h A G.xok _ lv.1 lv.2 nd n1 n2 imm hd K) (fun W x r h A _ => cdo_1 ⟨h, A, G.cok, hI⟩ _)
theorem stp_2 {s : RSt} {m nd n1 n2 : Nat} {imm : Int} (J : Jns s m 2 nd n1 n2 imm) : GoodDo s m := by
  obtain ⟨G, hm, ho, K, hd, lv, xa, xb, i0, i1, hI⟩ := J.all
  exact good_of hm ho (next1 (putR s nd ((s.pc + imm) % 4294967296))) ((G.put nd _ ⟨by omega, by omega⟩).next) (Moves.refl s) 2 nd n1 n2 imm hd (by decide) (fun W p b h A => do_auipc W p b _ h A G.xok _ lv.1 lv.2 nd n1 n2 imm hd K) (fun W x r h A _ => cdo_2 ⟨h, A, G.cok, hI⟩ _)
theorem stp_19 {s : RSt} {m nd n1 n2 : Nat} {imm : Int} (J : Jns s m 19 nd n1 n2 imm) : GoodDo s m := stp_alu J (by decide) (by decide) (aluV 19 (s.x[n1]?.getD 0) imm) (alu_bd 19 _ _ (J.G.x n1).1 (J.G.x n1).2 J.K.i0 J.K.i1) (by simp [sumV]) fun _ _ _ D => cdo_19 D _
theorem stp_20 {s : RSt} {m nd n1 n2 : Nat} {imm : Int} (J : Jns s m 20 nd n1 n2 imm) : GoodDo s m := stp_alu J (by decide) (by decide) (aluV 20 (s.x[n1]?.getD 0) imm) (alu_bd 20 _ _ (J.G.x n1).1 (J.G.x n1).2 J.K.i0 J.K.i1) (by simp [sumV]) fun _ _ _ D => cdo_20 D _
theorem stp_21 {s : RSt} {m nd n1 n2 : Nat} {imm : Int} (J : Jns s m 21 nd n1 n2 imm) : GoodDo s m := stp_alu J (by decide) (by decide) (aluV 21 (s.x[n1]?.getD 0) imm) (alu_bd 21 _ _ (J.G.x n1).1 (J.G.x n1).2 J.K.i0 J.K.i1) (by simp [sumV]) fun _ _ _ D => cdo_21 D _
theorem stp_22 {s : RSt} {m nd n1 n2 : Nat} {imm : Int} (J : Jns s m 22 nd n1 n2 imm) : GoodDo s m := stp_alu J (by decide) (by decide) (aluV 22 (s.x[n1]?.getD 0) imm) (alu_bd 22 _ _ (J.G.x n1).1 (J.G.x n1).2 J.K.i0 J.K.i1) (by simp [sumV]) fun _ _ _ D => cdo_22 D _
theorem stp_23 {s : RSt} {m nd n1 n2 : Nat} {imm : Int} (J : Jns s m 23 nd n1 n2 imm) : GoodDo s m := stp_alu J (by decide) (by decide) (aluV 23 (s.x[n1]?.getD 0) imm) (alu_bd 23 _ _ (J.G.x n1).1 (J.G.x n1).2 J.K.i0 J.K.i1) (by simp [sumV]) fun _ _ _ D => cdo_23 D _
theorem stp_24 {s : RSt} {m nd n1 n2 : Nat} {imm : Int} (J : Jns s m 24 nd n1 n2 imm) : GoodDo s m := stp_alu J (by decide) (by decide) (aluV 24 (s.x[n1]?.getD 0) imm) (alu_bd 24 _ _ (J.G.x n1).1 (J.G.x n1).2 J.K.i0 J.K.i1) (by simp [sumV]) fun _ _ _ D => cdo_24 D _
theorem stp_25 {s : RSt} {m nd n1 n2 : Nat} {imm : Int} (J : Jns s m 25 nd n1 n2 imm) : GoodDo s m := stp_alu J (by decide) (by decide) (aluV 25 (s.x[n1]?.getD 0) imm) (alu_bd 25 _ _ (J.G.x n1).1 (J.G.x n1).2 J.K.i0 J.K.i1) (by simp [sumV]) fun _ _ _ D => cdo_25 D _
theorem stp_26 {s : RSt} {m nd n1 n2 : Nat} {imm : Int} (J : Jns s m 26 nd n1 n2 imm) : GoodDo s m := stp_alu J (by decide) (by decide) (aluV 26 (s.x[n1]?.getD 0) imm) (alu_bd 26 _ _ (J.G.x n1).1 (J.G.x n1).2 J.K.i0 J.K.i1) (by simp [sumV]) fun _ _ _ D => cdo_26 D _
theorem stp_27 {s : RSt} {m nd n1 n2 : Nat} {imm : Int} (J : Jns s m 27 nd n1 n2 imm) : GoodDo s m := stp_alu J (by decide) (by decide) (aluV 27 (s.x[n1]?.getD 0) imm) (alu_bd 27 _ _ (J.G.x n1).1 (J.G.x n1).2 J.K.i0 J.K.i1) (by simp [sumV]) fun _ _ _ D => cdo_27 D _
theorem stp_28 {s : RSt} {m nd n1 n2 : Nat} {imm : Int} (J : Jns s m 28 nd n1 n2 imm) : GoodDo s m := stp_alu J (by decide) (by decide) (aluV 28 (s.x[n1]?.getD 0) (s.x[n2]?.getD 0)) (alu_bd 28 _ _ (J.G.x n1).1 (J.G.x n1).2 (J.G.x n2).1 (J.G.x n2).2) (by simp [sumV]) fun _ _ _ D => cdo_28 D _
theorem stp_29 {s : RSt} {m nd n1 n2 : Nat} {imm : Int} (J : Jns s m 29 nd n1 n2 imm) : GoodDo s m := stp_alu J (by decide) (by decide) (aluV 29 (s.x[n1]?.getD 0) (s.x[n2]?.getD 0)) (alu_bd 29 _ _ (J.G.x n1).1 (J.G.x n1).2 (J.G.x n2).1 (J.G.x n2).2) (by simp [sumV]) fun _ _ _ D => cdo_29 D _
theorem stp_30 {s : RSt} {m nd n1 n2 : Nat} {imm : Int} (J : Jns s m 30 nd n1 n2 imm) : GoodDo s m := stp_alu J (by decide) (by decide) (aluV 30 (s.x[n1]?.getD 0) (s.x[n2]?.getD 0)) (alu_bd 30 _ _ (J.G.x n1).1 (J.G.x n1).2 (J.G.x n2).1 (J.G.x n2).2) (by simp [sumV]) fun _ _ _ D => cdo_30 D _
theorem stp_31 {s : RSt} {m nd n1 n2 : Nat} {imm : Int} (J : Jns s m 31 nd n1 n2 imm) : GoodDo s m := stp_alu J (by decide) (by decide) (aluV 31 (s.x[n1]?.getD 0) (s.x[n2]?.getD 0)) (alu_bd 31 _ _ (J.G.x n1).1 (J.G.x n1).2 (J.G.x n2).1 (J.G.x n2).2) (by simp [sumV]) fun _ _ _ D => cdo_31 D _
theorem stp_32 {s : RSt} {m nd n1 n2 : Nat} {imm : Int} (J : Jns s m 32 nd n1 n2 imm) : GoodDo s m := stp_alu J (by decide) (by decide) (aluV 32 (s.x[n1]?.getD 0) (s.x[n2]?.getD 0)) (alu_bd 32 _ _ (J.G.x n1).1 (J.G.x n1).2 (J.G.x n2).1 (J.G.x n2).2) (by simp [sumV]) fun _ _ _ D => cdo_32 D _
theorem stp_33 {s : RSt} {m nd n1 n2 : Nat} {imm : Int} (J : Jns s m 33 nd n1 n2 imm) : GoodDo s m := stp_alu J (by decide) (by decide) (aluV 33 (s.x[n1]?.getD 0) (s.x[n2]?.getD 0)) (alu_bd 33 _ _ (J.G.x n1).1 (J.G.x n1).2 (J.G.x n2).1 (J.G.x n2).2) (by simp [sumV]) fun _ _ _ D => cdo_33 D _
theorem stp_34 {s : RSt} {m nd n1 n2 : Nat} {imm : Int} (J : Jns s m 34 nd n1 n2 imm) : GoodDo s m := stp_alu J (by decide) (by decide) (aluV 34 (s.x[n1]?.getD 0) (s.x[n2]?.getD 0)) (alu_bd 34 _ _ (J.G.x n1).1 (J.G.x n1).2 (J.G.x n2).1 (J.G.x n2).2) (by simp [sumV]) fun _ _ _ D => cdo_34 D _
theorem stp_35 {s : RSt} {m nd n1 n2 : Nat} {imm : Int} (J : Jns s m 35 nd n1 n2 imm) : GoodDo s m := stp_alu J (by decide) (by decide) (aluV 35 (s.x[n1]?.getD 0) (s.x[n2]?.getD 0)) (alu_bd 35 _ _ (J.G.x n1).1 (J.G.x n1).2 (J.G.x n2).1 (J.G.x n2).2) (by simp [sumV]) fun _ _ _ D => cdo_35 D _
theorem stp_36 {s : RSt} {m nd n1 n2 : Nat} {imm : Int} (J : Jns s m 36 nd n1 n2 imm) : GoodDo s m := stp_alu J (by decide) (by decide) (aluV 36 (s.x[n1]?.getD 0) (s.x[n2]?.getD 0)) (alu_bd 36 _ _ (J.G.x n1).1 (J.G.x n1).2 (J.G.x n2).1 (J.G.x n2).2) (by simp [sumV]) fun _ _ _ D => cdo_36 D _
theorem stp_37 {s : RSt} {m nd n1 n2 : Nat} {imm : Int} (J : Jns s m 37 nd n1 n2 imm) : GoodDo s m := stp_alu J (by decide) (by decide) (aluV 37 (s.x[n1]?.getD 0) (s.x[n2]?.getD 0)) (alu_bd 37 _ _ (J.G.x n1).1 (J.G.x n1).2 (J.G.x n2).1 (J.G.x n2).2) (by simp [sumV]) fun _ _ _ D => cdo_37 D _
theorem stp_38 {s : RSt} {m nd n1 n2 : Nat} {imm : Int} (J : Jns s m 38 nd n1 n2 imm) : GoodDo s m := by
  obtain ⟨G, hm, ho, K, hd, lv, xa, xb, i0, i1, hI⟩ := J.all
  have z : nd = 0 := by have := K.fe rfl; omega
  refine good_of hm ho (next1 s) G.next (Moves.refl s) 38 nd n1 n2 imm hd (by decide) (fun W p b h A => ?_) (fun W x r h A _ => cdo_38 ⟨h, A, G.cok, hI⟩ _)
  have := do_sum W p b _ h A G.xok _ lv.1 lv.2 38 nd n1 n2 imm hd K (by decide) (by decide)
  rw [show next1 (putR s (nd : Int).toNat (sumV 38 (xAt s n1) (xAt s n2) imm s.pc)) = next1 s by rw [z]; rfl] at this
  exact this
theorem stp_3 {s : RSt} {m nd n1 n2 : Nat} {imm : Int} (J : Jns s m 3 nd n1 n2 imm) : GoodDo s m := by
  obtain ⟨G, hm, ho, K, hd, lv, xa, xb, i0, i1, hI⟩ := J.all
  exact good_of hm ho (jumpR s nd ((s.pc + imm) % 4294967296)) (G.jump nd _ ⟨by omega, by omega⟩) (mv_jump s _ _) 3 nd n1 n2 imm hd (by decide) (fun W p b h A => do_jal W p b _ h A G.xok _ lv.1 lv.2 nd n1 n2 imm hd K) (fun W x r h A _ => by rw [cOf_jump G]; exact cdo_3 ⟨h, A, G.cok, hI⟩ _)
theorem stp_4 {s : RSt} {m nd n1 n2 : Nat} {imm : Int} (J : Jns s m 4 nd n1 n2 imm) : GoodDo s m := by
  obtain ⟨G, hm, ho, K, hd, lv, xa, xb, i0, i1, hI⟩ := J.all
  exact good_of hm ho (jumpR s nd (bits .andNot .u32 ((s.x[n1]?.getD 0 + imm) % 4294967296) 1)) (G.jump nd _ (an_bd _ (by omega) (by omega))) (mv_jump s _ _) 4 nd n1 n2 imm hd (by decide) (fun W p b h A => do_jalr W p b _ h A G.xok _ lv.1 lv.2 nd n1 n2 imm hd K) (fun W x r h A _ => by rw [cOf_jump G]; exact cdo_4 ⟨h, A, G.cok, hI⟩ _)
theorem stp_5_n {s : RSt} {m nd n1 n2 : Nat} {imm : Int} (J : Jns s m 5 nd n1 n2 imm) (ht : takenB 5 (s.x[n1]?.getD 0) (s.x[n2]?.getD 0) = false) : GoodDo s m := by
  obtain ⟨G, hm, ho, K, hd, lv, xa, xb, i0, i1, hI⟩ := J.all
  exact good_of hm ho (next1 s) G.next (Moves.refl s) 5 nd n1 n2 imm hd (by decide) (fun W p b h A => do_br_no W p b _ h A G.xok _ lv.1 lv.2 5 nd n1 n2 imm hd K (by decide) (by decide) ht) (fun W x r h A _ => cdo_5_n ⟨h, A, G.cok, hI⟩ _ ht (by have := G.p4; show (s.pc + 4) % 4294967296 % 4 = 0; omega))
theorem stp_5_y {s : RSt} {m nd n1 n2 : Nat} {imm : Int} (J : Jns s m 5 nd n1 n2 imm) (ht : takenB 5 (s.x[n1]?.getD 0) (s.x[n2]?.getD 0) = true) : GoodDo s m := by
  obtain ⟨G, hm, ho, K, hd, lv, xa, xb, i0, i1, hI⟩ := J.all
  exact good_of hm ho (jumpR s 0 ((s.pc + imm) % 4294967296)) (G.jump 0 _ ⟨by omega, by omega⟩) (mv_jump s _ _) 5 nd n1 n2 imm hd (by decide) (fun W p b h A => do_br_yes W p b _ h A G.xok _ lv.1 lv.2 5 nd n1 n2 imm hd K (by decide) (by decide) ht) (fun W x r h A _ => by rw [cOf_go G]; exact cdo_5_y ⟨h, A, G.cok, hI⟩ _ ht)
theorem stp_6_n {s : RSt} {m nd n1 n2 : Nat} {imm : Int} (J : Jns s m 6 nd n1 n2 imm) (ht : takenB 6 (s.x[n1]?.getD 0) (s.x[n2]?.getD 0) = false) : GoodDo s m := by
  obtain ⟨G, hm, ho, K, hd, lv, xa, xb, i0, i1, hI⟩ := J.all
  exact good_of hm ho (next1 s) G.next (Moves.refl s) 6 nd n1 n2 imm hd (by decide) (fun W p b h A => do_br_no W p b _ h A G.xok _ lv.1 lv.2 6 nd n1 n2 imm hd K (by decide) (by decide) ht) (fun W x r h A _ => cdo_6_n ⟨h, A, G.cok, hI⟩ _ ht (by have := G.p4; show (s.pc + 4) % 4294967296 % 4 = 0; omega))
theorem stp_6_y {s : RSt} {m nd n1 n2 : Nat} {imm : Int} (J : Jns s m 6 nd n1 n2 imm) (ht : takenB 6 (s.x[n1]?.getD 0) (s.x[n2]?.getD 0) = true) : GoodDo s m := by
  obtain ⟨G, hm, ho, K, hd, lv, xa, xb, i0, i1, hI⟩ := J.all
  exact good_of hm ho (jumpR s 0 ((s.pc + imm) % 4294967296)) (G.jump 0 _ ⟨by omega, by omega⟩) (mv_jump s _ _) 6 nd n1 n2 imm hd (by decide) (fun W p b h A => do_br_yes W p b _ h A G.xok _ lv.1 lv.2 6 nd n1 n2 imm hd K (by decide) (by decide) ht) (fun W x r h A _ => by rw [cOf_go G]; exact cdo_6_y ⟨h, A, G.cok, hI⟩ _ ht)
theorem stp_7_n {s : RSt} {m nd n1 n2 : Nat} {imm : Int} (J : Jns s m 7 nd n1 n2 imm) (ht : takenB 7 (s.x[n1]?.getD 0) (s.x[n2]?.getD 0) = false) : GoodDo s m := by
  obtain ⟨G, hm, ho, K, hd, lv, xa, xb, i0, i1, hI⟩ := J.all
  exact good_of hm ho (next1 s) G.next (Moves.refl s) 7 nd n1 n2 imm hd (by decide) (fun W p b h A => do_br_no W p b _ h A G.xok _ lv.1 lv.2 7 nd n1 n2 imm hd K (by decide) (by decide) ht) (fun W x r h A _ => cdo_7_n ⟨h, A, G.cok, hI⟩ _ ht (by have := G.p4; show (s.pc + 4) % 4294967296 % 4 = 0; omega))
theorem stp_7_y {s : RSt} {m nd n1 n2 : Nat} {imm : Int} (J : Jns s m 7 nd n1 n2 imm) (ht : takenB 7 (s.x[n1]?.getD 0) (s.x[n2]?.getD 0) = true) : GoodDo s m := by
  obtain ⟨G, hm, ho, K, hd, lv, xa, xb, i0, i1, hI⟩ := J.all
  exact good_of hm ho (jumpR s 0 ((s.pc + imm) % 4294967296)) (G.jump 0 _ ⟨by omega, by omega⟩) (mv_jump s _ _) 7 nd n1 n2 imm hd (by decide) (fun W p b h A => do_br_yes W p b _ h A G.xok _ lv.1 lv.2 7 nd n1 n2 imm hd K (by decide) (by decide) ht) (fun W x r h A _ => by rw [cOf_go G]; exact cdo_7_y ⟨h, A, G.cok, hI⟩ _ ht)
theorem stp_8_n {s : RSt} {m nd n1 n2 : Nat} {imm : Int} (J : Jns s m 8 nd n1 n2 imm) (ht : takenB 8 (s.x[n1]?.getD 0) (s.x[n2]?.getD 0) = false) : GoodDo s m := by
  obtain ⟨G, hm, ho, K, hd, lv, xa, xb, i0, i1, hI⟩ := J.all
  exact good_of hm ho (next1 s) G.next (Moves.refl s) 8 nd n1 n2 imm hd (by decide) (fun W p b h A => do_br_no W p b _ h A G.xok _ lv.1 lv.2 8 nd n1 n2 imm hd K (by decide) (by decide) ht) (fun W x r h A _ => cdo_8_n ⟨h, A, G.cok, hI⟩ _ ht (by have := G.p4; show (s.pc + 4) % 4294967296 % 4 = 0; omega))
theorem stp_8_y {s : RSt} {m nd n1 n2 : Nat} {imm : Int} (J : Jns s m 8 nd n1 n2 imm) (ht : takenB 8 (s.x[n1]?.getD 0) (s.x[n2]?.getD 0) = true) : GoodDo s m := by
  obtain ⟨G, hm, ho, K, hd, lv, xa, xb, i0, i1, hI⟩ := J.all
  exact good_of hm ho (jumpR s 0 ((s.pc + imm) % 4294967296)) (G.jump 0 _ ⟨by omega, by omega⟩) (mv_jump s _ _) 8 nd n1 n2 imm hd (by decide) (fun W p b h A => do_br_yes W p b _ h A G.xok _ lv.1 lv.2 8 nd n1 n2 imm hd K (by decide) (by decide) ht) (fun W x r h A _ => by rw [cOf_go G]; exact cdo_8_y ⟨h, A, G.cok, hI⟩ _ ht)
theorem stp_9_n {s : RSt} {m nd n1 n2 : Nat} {imm : Int} (J : Jns s m 9 nd n1 n2 imm) (ht : takenB 9 (s.x[n1]?.getD 0) (s.x[n2]?.getD 0) = false) : GoodDo s m := by
  obtain ⟨G, hm, ho, K, hd, lv, xa, xb, i0, i1, hI⟩ := J.all
  exact good_of hm ho (next1 s) G.next (Moves.refl s) 9 nd n1 n2 imm hd (by decide) (fun W p b h A => do_br_no W p b _ h A G.xok _ lv.1 lv.2 9 nd n1 n2 imm hd K (by decide) (by decide) ht) (fun W x r h A _ => cdo_9_n ⟨h, A, G.cok, hI⟩ _ ht (by have := G.p4; show (s.pc + 4) % 4294967296 % 4 = 0; omega))
theorem stp_9_y {s : RSt} {m nd n1 n2 : Nat} {imm : Int} (J : Jns s m 9 nd n1 n2 imm) (ht : takenB 9 (s.x[n1]?.getD 0) (s.x[n2]?.getD 0) = true) : GoodDo s m := by
  obtain ⟨G, hm, ho, K, hd, lv, xa, xb, i0, i1, hI⟩ := J.all
  exact good_of hm ho (jumpR s 0 ((s.pc + imm) % 4294967296)) (G.jump 0 _ ⟨by omega, by omega⟩) (mv_jump s _ _) 9 nd n1 n2 imm hd (by decide) (fun W p b h A => do_br_yes W p b _ h A G.xok _ lv.1 lv.2 9 nd n1 n2 imm hd K (by decide) (by decide) ht) (fun W x r h A _ => by rw [cOf_go G]; exact cdo_9_y ⟨h, A, G.cok, hI⟩ _ ht)
theorem stp_10_n {s : RSt} {m nd n1 n2 : Nat} {imm : Int} (J : Jns s m 10 nd n1 n2 imm) (ht : takenB 10 (s.x[n1]?.getD 0) (s.x[n2]?.getD 0) = false) : GoodDo s m := by
  obtain ⟨G, hm, ho, K, hd, lv, xa, xb, i0, i1, hI⟩ := J.all
  exact good_of hm ho (next1 s) G.next (Moves.refl s) 10 nd n1 n2 imm hd (by decide) (fun W p b h A => do_br_no W p b _ h A G.xok _ lv.1 lv.2 10 nd n1 n2 imm hd K (by decide) (by decide) ht) (fun W x r h A _ => cdo_10_n ⟨h, A, G.cok, hI⟩ _ ht (by have := G.p4; show (s.pc + 4) % 4294967296 % 4 = 0; omega))
theorem stp_10_y {s : RSt} {m nd n1 n2 : Nat} {imm : Int} (J : Jns s m 10 nd n1 n2 imm) (ht : takenB 10 (s.x[n1]?.getD 0) (s.x[n2]?.getD 0) = true) : GoodDo s m := by
  obtain ⟨G, hm, ho, K, hd, lv, xa, xb, i0, i1, hI⟩ := J.all
  exact good_of hm ho (jumpR s 0 ((s.pc + imm) % 4294967296)) (G.jump 0 _ ⟨by omega, by omega⟩) (mv_jump s _ _) 10 nd n1 n2 imm hd (by decide) (fun W p b h A => do_br_yes W p b _ h A G.xok _ lv.1 lv.2 10 nd n1 n2 imm hd K (by decide) (by decide) ht) (fun W x r h A _ => by rw [cOf_go G]; exact cdo_10_y ⟨h, A, G.cok, hI⟩ _ ht)
theorem stp_11_lo {s : RSt} {m nd n1 n2 : Nat} {imm : Int} (J : Jns s m 11 nd n1 n2 imm) (a : Nat) (ea : ((s.x[n1]?.getD 0) + imm) % 4294967296 = a) (ha : a + 1 ≤ s.ram.length) (hc : leV s.ram a 1 < 128) : GoodDo s m := by
  obtain ⟨G, hm, ho, K, hd, lv, xa, xb, i0, i1, hI⟩ := J.all
  have bd := leV_bd G.b a
  refine good_of hm ho (next1 (putR s nd (leV s.ram a 1))) ((G.put nd _ ⟨by omega, by omega⟩).next) (Moves.refl s) 11 nd n1 n2 imm hd (by decide) (fun W p b h A => ?_) (fun W x r h A _ => cdo_11_lo ⟨h, A, G.cok, hI⟩ _ a ea ha hc)
  refine do_load W p b _ h A G.xok _ lv.1 lv.2 11 nd n1 n2 imm hd K (by decide) (by decide) _ fun W' h' => ?_
  have := load_in_11_lo W' p b _ h' A nd hI.d n1 n2 imm a ha hc
  rw [show (xAt s n1 + imm) % 4294967296 = (a : Int) from ea]
  exact this
theorem stp_11_hi {s : RSt} {m nd n1 n2 : Nat} {imm : Int} (J : Jns s m 11 nd n1 n2 imm) (a : Nat) (ea : ((s.x[n1]?.getD 0) + imm) % 4294967296 = a) (ha : a + 1 ≤ s.ram.length) (hc : ¬ leV s.ram a 1 < 128) : GoodDo s m := by
  obtain ⟨G, hm, ho, K, hd, lv, xa, xb, i0, i1, hI⟩ := J.all
  have bd := leV_bd G.b a
  refine good_of hm ho (next1 (putR s nd (leV s.ram a 1 + 4294967040))) ((G.put nd _ ⟨by omega, by omega⟩).next) (Moves.refl s) 11 nd n1 n2 imm hd (by decide) (fun W p b h A => ?_) (fun W x r h A _ => cdo_11_hi ⟨h, A, G.cok, hI⟩ _ a ea ha hc)
  refine do_load W p b _ h A G.xok _ lv.1 lv.2 11 nd n1 n2 imm hd K (by decide) (by decide) _ fun W' h' => ?_
  have := load_in_11_hi W' p b _ h' A nd hI.d n1 n2 imm a ha hc
  rw [show (xAt s n1 + imm) % 4294967296 = (a : Int) from ea]
  exact this
theorem bad_11 {s : RSt} {m nd n1 n2 : Nat} {imm : Int} (J : Jns s m 11 nd n1 n2 imm) (a : Nat) (ea : ((s.x[n1]?.getD 0) + imm) % 4294967296 = a) (ha : ¬ a + 1 ≤ s.ram.length) : BadDo s m := by
  obtain ⟨G, hm, ho, K, hd, lv, xa, xb, i0, i1, hI⟩ := J.all
  refine ⟨failR (dvR s) 5 a, ⟨fun G => (fail_dev _ _ _).trans G.dv, cntb_fail s (dvR s) rfl rfl _ _⟩, fun W p b h A => ?_⟩
  refine do_load W p b _ h A G.xok _ lv.1 lv.2 11 nd n1 n2 imm hd K (by decide) (by decide) _ fun W' h' => ?_
  have := load_out_11 W' p b _ h' A nd hI.d n1 n2 imm a (by omega) ha
  rw [show (xAt s n1 + imm) % 4294967296 = (a : Int) from ea]
  exact this
theorem stp_12_lo {s : RSt} {m nd n1 n2 : Nat} {imm : Int} (J : Jns s m 12 nd n1 n2 imm) (a : Nat) (ea : ((s.x[n1]?.getD 0) + imm) % 4294967296 = a) (ha : a + 2 ≤ s.ram.length) (hc : leV s.ram a 2 < 32768) : GoodDo s m := by
  obtain ⟨G, hm, ho, K, hd, lv, xa, xb, i0, i1, hI⟩ := J.all
  have bd := leV_bd G.b a
  refine good_of hm ho (next1 (putR s nd (leV s.ram a 2))) ((G.put nd _ ⟨by omega, by omega⟩).next) (Moves.refl s) 12 nd n1 n2 imm hd (by decide) (fun W p b h A => ?_) (fun W x r h A _ => cdo_12_lo ⟨h, A, G.cok, hI⟩ _ a ea ha hc)
  refine do_load W p b _ h A G.xok _ lv.1 lv.2 12 nd n1 n2 imm hd K (by decide) (by decide) _ fun W' h' => ?_
  have := load_in_12_lo W' p b _ h' A nd hI.d n1 n2 imm a ha hc
  rw [show (xAt s n1 + imm) % 4294967296 = (a : Int) from ea]
  exact this
theorem stp_12_hi {s : RSt} {m nd n1 n2 : Nat} {imm : Int} (J : Jns s m 12 nd n1 n2 imm) (a : Nat) (ea : ((s.x[n1]?.getD 0) + imm) % 4294967296 = a) (ha : a + 2 ≤ s.ram.length) (hc : ¬ leV s.ram a 2 < 32768) : GoodDo s m := by
  obtain ⟨G, hm, ho, K, hd, lv, xa, xb, i0, i1, hI⟩ := J.all
  have bd := leV_bd G.b a
  refine good_of hm ho (next1 (putR s nd (leV s.ram a 2 + 4294901760))) ((G.put nd _ ⟨by omega, by omega⟩).next) (Moves.refl s) 12 nd n1 n2 imm hd (by decide) (fun W p b h A => ?_) (fun W x r h A _ => cdo_12_hi ⟨h, A, G.cok, hI⟩ _ a ea ha hc)
  refine do_load W p b _ h A G.xok _ lv.1 lv.2 12 nd n1 n2 imm hd K (by decide) (by decide) _ fun W' h' => ?_
  have := load_in_12_hi W' p b _ h' A nd hI.d n1 n2 imm a ha hc
  rw [show (xAt s n1 + imm) % 4294967296 = (a : Int) from ea]
  exact this
theorem bad_12 {s : RSt} {m nd n1 n2 : Nat} {imm : Int} (J : Jns s m 12 nd n1 n2 imm) (a : Nat) (ea : ((s.x[n1]?.getD 0) + imm) % 4294967296 = a) (ha : ¬ a + 2 ≤ s.ram.length) : BadDo s m := by
  obtain ⟨G, hm, ho, K, hd, lv, xa, xb, i0, i1, hI⟩ := J.all
  refine ⟨failR (dvR s) 5 a, ⟨fun G => (fail_dev _ _ _).trans G.dv, cntb_fail s (dvR s) rfl rfl _ _⟩, fun W p b h A => ?_⟩
  refine do_load W p b _ h A G.xok _ lv.1 lv.2 12 nd n1 n2 imm hd K (by decide) (by decide) _ fun W' h' => ?_
  have := load_out_12 W' p b _ h' A nd hI.d n1 n2 imm a (by omega) ha
  rw [show (xAt s n1 + imm) % 4294967296 = (a : Int) from ea]
  exact this
theorem stp_13 {s : RSt} {m nd n1 n2 : Nat} {imm : Int} (J : Jns s m 13 nd n1 n2 imm) (a : Nat) (ea : ((s.x[n1]?.getD 0) + imm) % 4294967296 = a) (ha : a + 4 ≤ s.ram.length) : GoodDo s m := by
  obtain ⟨G, hm, ho, K, hd, lv, xa, xb, i0, i1, hI⟩ := J.all
  have bd := leV_bd G.b a
  refine good_of hm ho (next1 (putR s nd (leV s.ram a 4))) ((G.put nd _ ⟨by omega, by omega⟩).next) (Moves.refl s) 13 nd n1 n2 imm hd (by decide) (fun W p b h A => ?_) (fun W x r h A _ => cdo_13 ⟨h, A, G.cok, hI⟩ _ a ea ha)
  refine do_load W p b _ h A G.xok _ lv.1 lv.2 13 nd n1 n2 imm hd K (by decide) (by decide) _ fun W' h' => ?_
  have := load_in_13 W' p b _ h' A nd hI.d n1 n2 imm a ha
  rw [show (xAt s n1 + imm) % 4294967296 = (a : Int) from ea]
  exact this
theorem bad_13 {s : RSt} {m nd n1 n2 : Nat} {imm : Int} (J : Jns s m 13 nd n1 n2 imm) (a : Nat) (ea : ((s.x[n1]?.getD 0) + imm) % 4294967296 = a) (ha : ¬ a + 4 ≤ s.ram.length) : BadDo s m := by
  obtain ⟨G, hm, ho, K, hd, lv, xa, xb, i0, i1, hI⟩ := J.all
  refine ⟨ldOut s nd a, ⟨fun G => ldOut_dev G nd a, ldOut_cnt s nd a⟩, fun W p b h A => ?_⟩
  refine do_load W p b _ h A G.xok _ lv.1 lv.2 13 nd n1 n2 imm hd K (by decide) (by decide) _ fun W' h' => ?_
  have := load_out_13 W' p b _ h' A nd hI.d n1 n2 imm a (by omega) ha
  rw [show (xAt s n1 + imm) % 4294967296 = (a : Int) from ea]
  exact this
theorem stp_14 {s : RSt} {m nd n1 n2 : Nat} {imm : Int} (J : Jns s m 14 nd n1 n2 imm) (a : Nat) (ea : ((s.x[n1]?.getD 0) + imm) % 4294967296 = a) (ha : a + 1 ≤ s.ram.length) : GoodDo s m := by
  obtain ⟨G, hm, ho, K, hd, lv, xa, xb, i0, i1, hI⟩ := J.all
  have bd := leV_bd G.b a
  refine good_of hm ho (next1 (putR s nd (leV s.ram a 1))) ((G.put nd _ ⟨by omega, by omega⟩).next) (Moves.refl s) 14 nd n1 n2 imm hd (by decide) (fun W p b h A => ?_) (fun W x r h A _ => cdo_14 ⟨h, A, G.cok, hI⟩ _ a ea ha)
  refine do_load W p b _ h A G.xok _ lv.1 lv.2 14 nd n1 n2 imm hd K (by decide) (by decide) _ fun W' h' => ?_
  have := load_in_14 W' p b _ h' A nd hI.d n1 n2 imm a ha
  rw [show (xAt s n1 + imm) % 4294967296 = (a : Int) from ea]
  exact this
theorem bad_14 {s : RSt} {m nd n1 n2 : Nat} {imm : Int} (J : Jns s m 14 nd n1 n2 imm) (a : Nat) (ea : ((s.x[n1]?.getD 0) + imm) % 4294967296 = a) (ha : ¬ a + 1 ≤ s.ram.length) : BadDo s m := by
  obtain ⟨G, hm, ho, K, hd, lv, xa, xb, i0, i1, hI⟩ := J.all
  refine ⟨failR (dvR s) 5 a, ⟨fun G => (fail_dev _ _ _).trans G.dv, cntb_fail s (dvR s) rfl rfl _ _⟩, fun W p b h A => ?_⟩
  refine do_load W p b _ h A G.xok _ lv.1 lv.2 14 nd n1 n2 imm hd K (by decide) (by decide) _ fun W' h' => ?_
  have := load_out_14 W' p b _ h' A nd hI.d n1 n2 imm a (by omega) ha
  rw [show (xAt s n1 + imm) % 4294967296 = (a : Int) from ea]
  exact this
theorem stp_15 {s : RSt} {m nd n1 n2 : Nat} {imm : Int} (J : Jns s m 15 nd n1 n2 imm) (a : Nat) (ea : ((s.x[n1]?.getD 0) + imm) % 4294967296 = a) (ha : a + 2 ≤ s.ram.length) : GoodDo s m := by
  obtain ⟨G, hm, ho, K, hd, lv, xa, xb, i0, i1, hI⟩ := J.all
  have bd := leV_bd G.b a
  refine good_of hm ho (next1 (putR s nd (leV s.ram a 2))) ((G.put nd _ ⟨by omega, by omega⟩).next) (Moves.refl s) 15 nd n1 n2 imm hd (by decide) (fun W p b h A => ?_) (fun W x r h A _ => cdo_15 ⟨h, A, G.cok, hI⟩ _ a ea ha)
  refine do_load W p b _ h A G.xok _ lv.1 lv.2 15 nd n1 n2 imm hd K (by decide) (by decide) _ fun W' h' => ?_
  have := load_in_15 W' p b _ h' A nd hI.d n1 n2 imm a ha
  rw [show (xAt s n1 + imm) % 4294967296 = (a : Int) from ea]
  exact this
theorem bad_15 {s : RSt} {m nd n1 n2 : Nat} {imm : Int} (J : Jns s m 15 nd n1 n2 imm) (a : Nat) (ea : ((s.x[n1]?.getD 0) + imm) % 4294967296 = a) (ha : ¬ a + 2 ≤ s.ram.length) : BadDo s m := by
  obtain ⟨G, hm, ho, K, hd, lv, xa, xb, i0, i1, hI⟩ := J.all
  refine ⟨failR (dvR s) 5 a, ⟨fun G => (fail_dev _ _ _).trans G.dv, cntb_fail s (dvR s) rfl rfl _ _⟩, fun W p b h A => ?_⟩
  refine do_load W p b _ h A G.xok _ lv.1 lv.2 15 nd n1 n2 imm hd K (by decide) (by decide) _ fun W' h' => ?_
  have := load_out_15 W' p b _ h' A nd hI.d n1 n2 imm a (by omega) ha
  rw [show (xAt s n1 + imm) % 4294967296 = (a : Int) from ea]
  exact this
theorem stp_16 {s : RSt} {m nd n1 n2 : Nat} {imm : Int} (J : Jns s m 16 nd n1 n2 imm) (a : Nat) (ea : ((s.x[n1]?.getD 0) + imm) % 4294967296 = a) (ha : a + 1 ≤ s.ram.length) : GoodDo s m := by
  obtain ⟨G, hm, ho, K, hd, lv, xa, xb, i0, i1, hI⟩ := J.all
  refine good_of hm ho (next1 { s with ram := stV s.ram a (s.x[n2]?.getD 0) 1 }) ((G.ram a 1 _).next) (Moves.refl s) 16 nd n1 n2 imm hd (by decide) (fun W p b h A => ?_) (fun W x r h A _ => cdo_16 ⟨h, A, G.cok, hI⟩ _ a ea ha)
  refine do_store W p b _ h A G.xok _ lv.1 lv.2 16 nd n1 n2 imm hd K (by decide) (by decide) _ fun W' h' => ?_
  have := store_in_16 W' p b _ h' A a (s.x[n2]?.getD 0) xb.1 xb.2 ha
  rw [show (xAt s n1 + imm) % 4294967296 = (a : Int) from ea]
  exact this
theorem bad_16 {s : RSt} {m nd n1 n2 : Nat} {imm : Int} (J : Jns s m 16 nd n1 n2 imm) (a : Nat) (ea : ((s.x[n1]?.getD 0) + imm) % 4294967296 = a) (ha : ¬ a + 1 ≤ s.ram.length) : BadDo s m := by
  obtain ⟨G, hm, ho, K, hd, lv, xa, xb, i0, i1, hI⟩ := J.all
  refine ⟨failR (dvR s) 7 a, ⟨fun G => (fail_dev _ _ _).trans G.dv, cntb_fail s (dvR s) rfl rfl _ _⟩, fun W p b h A => ?_⟩
  refine do_store W p b _ h A G.xok _ lv.1 lv.2 16 nd n1 n2 imm hd K (by decide) (by decide) _ fun W' h' => ?_
  have := store_out_16 W' p b _ h' A a (s.x[n2]?.getD 0) (by omega) ha
  rw [show (xAt s n1 + imm) % 4294967296 = (a : Int) from ea]
  exact this
theorem stp_17 {s : RSt} {m nd n1 n2 : Nat} {imm : Int} (J : Jns s m 17 nd n1 n2 imm) (a : Nat) (ea : ((s.x[n1]?.getD 0) + imm) % 4294967296 = a) (ha : a + 2 ≤ s.ram.length) : GoodDo s m := by
  obtain ⟨G, hm, ho, K, hd, lv, xa, xb, i0, i1, hI⟩ := J.all
  refine good_of hm ho (next1 { s with ram := stV s.ram a (s.x[n2]?.getD 0) 2 }) ((G.ram a 2 _).next) (Moves.refl s) 17 nd n1 n2 imm hd (by decide) (fun W p b h A => ?_) (fun W x r h A _ => cdo_17 ⟨h, A, G.cok, hI⟩ _ a ea ha)
  refine do_store W p b _ h A G.xok _ lv.1 lv.2 17 nd n1 n2 imm hd K (by decide) (by decide) _ fun W' h' => ?_
  have := store_in_17 W' p b _ h' A a (s.x[n2]?.getD 0) xb.1 xb.2 ha
  rw [show (xAt s n1 + imm) % 4294967296 = (a : Int) from ea]
  exact this
theorem bad_17 {s : RSt} {m nd n1 n2 : Nat} {imm : Int} (J : Jns s m 17 nd n1 n2 imm) (a : Nat) (ea : ((s.x[n1]?.getD 0) + imm) % 4294967296 = a) (ha : ¬ a + 2 ≤ s.ram.length) : BadDo s m := by
  obtain ⟨G, hm, ho, K, hd, lv, xa, xb, i0, i1, hI⟩ := J.all
  refine ⟨failR (dvR s) 7 a, ⟨fun G => (fail_dev _ _ _).trans G.dv, cntb_fail s (dvR s) rfl rfl _ _⟩, fun W p b h A => ?_⟩
  refine do_store W p b _ h A G.xok _ lv.1 lv.2 17 nd n1 n2 imm hd K (by decide) (by decide) _ fun W' h' => ?_
  have := store_out_17 W' p b _ h' A a (s.x[n2]?.getD 0) (by omega) ha
  rw [show (xAt s n1 + imm) % 4294967296 = (a : Int) from ea]
  exact this
theorem stp_18 {s : RSt} {m nd n1 n2 : Nat} {imm : Int} (J : Jns s m 18 nd n1 n2 imm) (a : Nat) (ea : ((s.x[n1]?.getD 0) + imm) % 4294967296 = a) (ha : a + 4 ≤ s.ram.length) : GoodDo s m := by
  obtain ⟨G, hm, ho, K, hd, lv, xa, xb, i0, i1, hI⟩ := J.all
  refine good_of hm ho (next1 { s with ram := stV s.ram a (s.x[n2]?.getD 0) 4 }) ((G.ram a 4 _).next) (Moves.refl s) 18 nd n1 n2 imm hd (by decide) (fun W p b h A => ?_) (fun W x r h A _ => cdo_18 ⟨h, A, G.cok, hI⟩ _ a ea ha)
  refine do_store W p b _ h A G.xok _ lv.1 lv.2 18 nd n1 n2 imm hd K (by decide) (by decide) _ fun W' h' => ?_
  have := store_in_18 W' p b _ h' A a (s.x[n2]?.getD 0) xb.1 xb.2 ha
  rw [show (xAt s n1 + imm) % 4294967296 = (a : Int) from ea]
  exact this
theorem bad_18 {s : RSt} {m nd n1 n2 : Nat} {imm : Int} (J : Jns s m 18 nd n1 n2 imm) (a : Nat) (ea : ((s.x[n1]?.getD 0) + imm) % 4294967296 = a) (ha : ¬ a + 4 ≤ s.ram.length) : BadDo s m := by
  obtain ⟨G, hm, ho, K, hd, lv, xa, xb, i0, i1, hI⟩ := J.all
  refine ⟨stOut s a (s.x[n2]?.getD 0), ⟨fun G => stOut_dev G a (s.x[n2]?.getD 0), stOut_cnt s a (s.x[n2]?.getD 0)⟩, fun W p b h A => ?_⟩
  refine do_store W p b _ h A G.xok _ lv.1 lv.2 18 nd n1 n2 imm hd K (by decide) (by decide) _ fun W' h' => ?_
  have := store_out_18 W' p b _ h' A a (s.x[n2]?.getD 0) (by omega) ha (fun W' h' c hc => compl_any W' p b _ h' A c hc _ xb.1)
  rw [show (xAt s n1 + imm) % 4294967296 = (a : Int) from ea]
  exact this
theorem stp_0 {s : RSt} {m nd n1 n2 : Nat} {imm : Int} (J : Jns s m 0 nd n1 n2 imm) : GoodDo s m := by
  obtain ⟨G, hm, ho, K, hd, lv, xa, xb, i0, i1, hI⟩ := J.all
  have C := G.cok
  refine ⟨failR s 2 (leV s.ram m 4), ⟨G.fail 2 (by decide) _ lv, mv_fail s _ _⟩, fun W p b h A => do_none W p b _ h A G.xok _ lv.1 lv.2 nd n1 n2 imm hd K, fun W x r h A T _ => ?_⟩
  rw [cOf_fail G 2 (leV s.ram m 4)]
  exact next_none W x r _ h A T C.m0 C.m3 m hm ho nd n1 n2 imm hd
theorem lev_39_0' {s : RSt} {m nd n1 n2 : Nat} {imm : Int} (J : Jns s m 39 nd n1 n2 imm) (hm_ : s.mode = 0) : GoodDo s m := by
  obtain ⟨G, hm, ho, K, hd, lv, xa, xb, i0, i1, hI⟩ := J.all
  have C := G.cok
  have E : levR s 39 (leV s.ram m 4) = failR (sys1 s) 8 0 := by simp [levR, hm_]
  refine good_of hm ho (failR (sys1 s) 8 0) (G.sys1.fail 8 (by decide) 0 ⟨by decide, by decide⟩) (mv_sysfail s _ _) 39 nd n1 n2 imm hd (by decide) (fun W p b h A => ?_) (fun W x r h A _ => ?_)
  · refine do_lev W p b _ h A G.xok _ lv.1 lv.2 39 nd n1 n2 imm hd K (by decide) (by decide) _ fun W' h' => ?_
    rw [← E]
    exact lev_any W' p b _ h' A 39 (leV s.ram m 4) ⟨by decide, by decide⟩ G.mode
  · rw [cOf_fail G.sys1 8 0]
    obtain ⟨k, rfl⟩ : ∃ k : Nat, imm = k := ⟨imm.toNat, by omega⟩
    exact cdo_39 ⟨h, A, C, hI⟩ _ _ fun W' h' _ => sys_39_0 W' x r _ h' A nd n1 n2 k _ hm_
theorem lev_39_1' {s : RSt} {m nd n1 n2 : Nat} {imm : Int} (J : Jns s m 39 nd n1 n2 imm) (hm_ : s.mode = 1) : GoodDo s m := by
  obtain ⟨G, hm, ho, K, hd, lv, xa, xb, i0, i1, hI⟩ := J.all
  have C := G.cok
  have E : levR s 39 (leV s.ram m 4) = failR (sys1 s) 9 0 := by simp [levR, hm_]
  refine good_of hm ho (failR (sys1 s) 9 0) (G.sys1.fail 9 (by decide) 0 ⟨by decide, by decide⟩) (mv_sysfail s _ _) 39 nd n1 n2 imm hd (by decide) (fun W p b h A => ?_) (fun W x r h A _ => ?_)
  · refine do_lev W p b _ h A G.xok _ lv.1 lv.2 39 nd n1 n2 imm hd K (by decide) (by decide) _ fun W' h' => ?_
    rw [← E]
    exact lev_any W' p b _ h' A 39 (leV s.ram m 4) ⟨by decide, by decide⟩ G.mode
  · rw [cOf_fail G.sys1 9 0]
    obtain ⟨k, rfl⟩ : ∃ k : Nat, imm = k := ⟨imm.toNat, by omega⟩
    exact cdo_39 ⟨h, A, C, hI⟩ _ _ fun W' h' _ => sys_39_1 W' x r _ h' A nd n1 n2 k _ hm_
theorem lev_39_3' {s : RSt} {m nd n1 n2 : Nat} {imm : Int} (J : Jns s m 39 nd n1 n2 imm) (hm_ : s.mode = 3) : GoodDo s m := by
  obtain ⟨G, hm, ho, K, hd, lv, xa, xb, i0, i1, hI⟩ := J.all
  have C := G.cok
  have E : levR s 39 (leV s.ram m 4) = failR (sys1 s) 11 0 := by simp [levR, hm_]
  refine good_of hm ho (failR (sys1 s) 11 0) (G.sys1.fail 11 (by decide) 0 ⟨by decide, by decide⟩) (mv_sysfail s _ _) 39 nd n1 n2 imm hd (by decide) (fun W p b h A => ?_) (fun W x r h A _ => ?_)
  · refine do_lev W p b _ h A G.xok _ lv.1 lv.2 39 nd n1 n2 imm hd K (by decide) (by decide) _ fun W' h' => ?_
    rw [← E]
    exact lev_any W' p b _ h' A 39 (leV s.ram m 4) ⟨by decide, by decide⟩ G.mode
  · rw [cOf_fail G.sys1 11 0]
    obtain ⟨k, rfl⟩ : ∃ k : Nat, imm = k := ⟨imm.toNat, by omega⟩
    exact cdo_39 ⟨h, A, C, hI⟩ _ _ fun W' h' _ => sys_39_3 W' x r _ h' A nd n1 n2 k _ hm_
theorem lev_40_a' {s : RSt} {m nd n1 n2 : Nat} {imm : Int} (J : Jns s m 40 nd n1 n2 imm) : GoodDo s m := by
  obtain ⟨G, hm, ho, K, hd, lv, xa, xb, i0, i1, hI⟩ := J.all
  have C := G.cok
  have E : levR s 40 (leV s.ram m 4) = failR (sys1 s) 3 s.pc := by simp [levR]
  refine good_of hm ho (failR (sys1 s) 3 s.pc) (G.sys1.fail 3 (by decide) s.pc G.pc) (mv_sysfail s _ _) 40 nd n1 n2 imm hd (by decide) (fun W p b h A => ?_) (fun W x r h A _ => ?_)
  · refine do_lev W p b _ h A G.xok _ lv.1 lv.2 40 nd n1 n2 imm hd K (by decide) (by decide) _ fun W' h' => ?_
    rw [← E]
    exact lev_any W' p b _ h' A 40 (leV s.ram m 4) ⟨by decide, by decide⟩ G.mode
  · rw [cOf_fail G.sys1 3 s.pc]
    obtain ⟨k, rfl⟩ : ∃ k : Nat, imm = k := ⟨imm.toNat, by omega⟩
    exact cdo_40 ⟨h, A, C, hI⟩ _ _ fun W' h' _ => sys_40 W' x r _ h' A nd n1 n2 k _ C.m0 C.m3
theorem lev_41_3' {s : RSt} {m nd n1 n2 : Nat} {imm : Int} (J : Jns s m 41 nd n1 n2 imm) (hm_ : s.mode = 3) : GoodDo s m := by
  obtain ⟨G, hm, ho, K, hd, lv, xa, xb, i0, i1, hI⟩ := J.all
  have C := G.cok
  have E : levR s 41 (leV s.ram m 4) = mretR (sys1 s) := by simp [levR, hm_]
  refine good_of hm ho (mretR (sys1 s)) (G.sys1.mret) (mv_sys s _ (Still.refl s) rfl rfl) 41 nd n1 n2 imm hd (by decide) (fun W p b h A => ?_) (fun W x r h A _ => ?_)
  · refine do_lev W p b _ h A G.xok _ lv.1 lv.2 41 nd n1 n2 imm hd K (by decide) (by decide) _ fun W' h' => ?_
    rw [← E]
    exact lev_any W' p b _ h' A 41 (leV s.ram m 4) ⟨by decide, by decide⟩ G.mode
  · rw [cOf_mret G.sys1]
    obtain ⟨k, rfl⟩ : ∃ k : Nat, imm = k := ⟨imm.toNat, by omega⟩
    exact cdo_41 ⟨h, A, C, hI⟩ _ _ fun W' h' _ => sys_41_3 W' x r _ h' A nd n1 n2 k _ G.ms hm_
theorem lev_41_n' {s : RSt} {m nd n1 n2 : Nat} {imm : Int} (J : Jns s m 41 nd n1 n2 imm) (hm_ : s.mode ≠ 3) : GoodDo s m := by
  obtain ⟨G, hm, ho, K, hd, lv, xa, xb, i0, i1, hI⟩ := J.all
  have C := G.cok
  have E : levR s 41 (leV s.ram m 4) = failR (sys1 s) 2 (leV s.ram m 4) := by simp [levR, hm_]
  refine good_of hm ho (failR (sys1 s) 2 (leV s.ram m 4)) (G.sys1.fail 2 (by decide) (leV s.ram m 4) lv) (mv_sysfail s _ _) 41 nd n1 n2 imm hd (by decide) (fun W p b h A => ?_) (fun W x r h A _ => ?_)
  · refine do_lev W p b _ h A G.xok _ lv.1 lv.2 41 nd n1 n2 imm hd K (by decide) (by decide) _ fun W' h' => ?_
    rw [← E]
    exact lev_any W' p b _ h' A 41 (leV s.ram m 4) ⟨by decide, by decide⟩ G.mode
  · rw [cOf_fail G.sys1 2 (leV s.ram m 4)]
    obtain ⟨k, rfl⟩ : ∃ k : Nat, imm = k := ⟨imm.toNat, by omega⟩
    exact cdo_41 ⟨h, A, C, hI⟩ _ _ fun W' h' _ => sys_41_n W' x r _ h' A nd n1 n2 k _ C.m0 C.m3 hm_
theorem lev_42_3' {s : RSt} {m nd n1 n2 : Nat} {imm : Int} (J : Jns s m 42 nd n1 n2 imm) (hm_ : s.mode = 3) : GoodDo s m := by
  obtain ⟨G, hm, ho, K, hd, lv, xa, xb, i0, i1, hI⟩ := J.all
  have C := G.cok
  have E : levR s 42 (leV s.ram m 4) = sretR (sys1 s) := by simp [levR, hm_]
  refine good_of hm ho (sretR (sys1 s)) (G.sys1.sret) (mv_sys s _ (Still.refl s) rfl rfl) 42 nd n1 n2 imm hd (by decide) (fun W p b h A => ?_) (fun W x r h A _ => ?_)
  · refine do_lev W p b _ h A G.xok _ lv.1 lv.2 42 nd n1 n2 imm hd K (by decide) (by decide) _ fun W' h' => ?_
    rw [← E]
    exact lev_any W' p b _ h' A 42 (leV s.ram m 4) ⟨by decide, by decide⟩ G.mode
  · rw [cOf_sret G.sys1]
    obtain ⟨k, rfl⟩ : ∃ k : Nat, imm = k := ⟨imm.toNat, by omega⟩
    exact cdo_42 ⟨h, A, C, hI⟩ _ _ fun W' h' _ => sys_42_3 W' x r _ h' A nd n1 n2 k _ G.ms hm_
theorem lev_42_0' {s : RSt} {m nd n1 n2 : Nat} {imm : Int} (J : Jns s m 42 nd n1 n2 imm) (hm_ : s.mode = 0) : GoodDo s m := by
  obtain ⟨G, hm, ho, K, hd, lv, xa, xb, i0, i1, hI⟩ := J.all
  have C := G.cok
  have E : levR s 42 (leV s.ram m 4) = failR (sys1 s) 2 (leV s.ram m 4) := by simp [levR, hm_]
  refine good_of hm ho (failR (sys1 s) 2 (leV s.ram m 4)) (G.sys1.fail 2 (by decide) (leV s.ram m 4) lv) (mv_sysfail s _ _) 42 nd n1 n2 imm hd (by decide) (fun W p b h A => ?_) (fun W x r h A _ => ?_)
  · refine do_lev W p b _ h A G.xok _ lv.1 lv.2 42 nd n1 n2 imm hd K (by decide) (by decide) _ fun W' h' => ?_
    rw [← E]
    exact lev_any W' p b _ h' A 42 (leV s.ram m 4) ⟨by decide, by decide⟩ G.mode
  · rw [cOf_fail G.sys1 2 (leV s.ram m 4)]
    obtain ⟨k, rfl⟩ : ∃ k : Nat, imm = k := ⟨imm.toNat, by omega⟩
    exact cdo_42 ⟨h, A, C, hI⟩ _ _ fun W' h' _ => sys_42_0 W' x r _ h' A nd n1 n2 k _ hm_
theorem lev_42_1t' {s : RSt} {m nd n1 n2 : Nat} {imm : Int} (J : Jns s m 42 nd n1 n2 imm) (hm_ : s.mode = 1) (hb : s.tsr = true) : GoodDo s m := by
  obtain ⟨G, hm, ho, K, hd, lv, xa, xb, i0, i1, hI⟩ := J.all
  have C := G.cok
  have E : levR s 42 (leV s.ram m 4) = failR (sys1 s) 2 (leV s.ram m 4) := by simp [levR, hm_, hb]
  refine good_of hm ho (failR (sys1 s) 2 (leV s.ram m 4)) (G.sys1.fail 2 (by decide) (leV s.ram m 4) lv) (mv_sysfail s _ _) 42 nd n1 n2 imm hd (by decide) (fun W p b h A => ?_) (fun W x r h A _ => ?_)
  · refine do_lev W p b _ h A G.xok _ lv.1 lv.2 42 nd n1 n2 imm hd K (by decide) (by decide) _ fun W' h' => ?_
    rw [← E]
    exact lev_any W' p b _ h' A 42 (leV s.ram m 4) ⟨by decide, by decide⟩ G.mode
  · rw [cOf_fail G.sys1 2 (leV s.ram m 4)]
    obtain ⟨k, rfl⟩ : ∃ k : Nat, imm = k := ⟨imm.toNat, by omega⟩
    exact cdo_42 ⟨h, A, C, hI⟩ _ _ fun W' h' _ => sys_42_1t W' x r _ h' A nd n1 n2 k _ hm_ ((tsr_bit G).trans hb)
theorem lev_42_1f' {s : RSt} {m nd n1 n2 : Nat} {imm : Int} (J : Jns s m 42 nd n1 n2 imm) (hm_ : s.mode = 1) (hb : s.tsr = false) : GoodDo s m := by
  obtain ⟨G, hm, ho, K, hd, lv, xa, xb, i0, i1, hI⟩ := J.all
  have C := G.cok
  have E : levR s 42 (leV s.ram m 4) = sretR (sys1 s) := by simp [levR, hm_, hb]
  refine good_of hm ho (sretR (sys1 s)) (G.sys1.sret) (mv_sys s _ (Still.refl s) rfl rfl) 42 nd n1 n2 imm hd (by decide) (fun W p b h A => ?_) (fun W x r h A _ => ?_)
  · refine do_lev W p b _ h A G.xok _ lv.1 lv.2 42 nd n1 n2 imm hd K (by decide) (by decide) _ fun W' h' => ?_
    rw [← E]
    exact lev_any W' p b _ h' A 42 (leV s.ram m 4) ⟨by decide, by decide⟩ G.mode
  · rw [cOf_sret G.sys1]
    obtain ⟨k, rfl⟩ : ∃ k : Nat, imm = k := ⟨imm.toNat, by omega⟩
    exact cdo_42 ⟨h, A, C, hI⟩ _ _ fun W' h' _ => sys_42_1f W' x r _ h' A nd n1 n2 k _ G.ms hm_ ((tsr_bit G).trans hb)
theorem lev_43_3' {s : RSt} {m nd n1 n2 : Nat} {imm : Int} (J : Jns s m 43 nd n1 n2 imm) (hm_ : s.mode = 3) : GoodDo s m := by
  obtain ⟨G, hm, ho, K, hd, lv, xa, xb, i0, i1, hI⟩ := J.all
  have C := G.cok
  have E : levR s 43 (leV s.ram m 4) = wfiR (sys1 s) := by simp [levR, hm_]
  refine good_of hm ho (wfiR (sys1 s)) (G.sys1.wfi) (mv_sys s _ (Still.refl s) rfl rfl) 43 nd n1 n2 imm hd (by decide) (fun W p b h A => ?_) (fun W x r h A _ => ?_)
  · refine do_lev W p b _ h A G.xok _ lv.1 lv.2 43 nd n1 n2 imm hd K (by decide) (by decide) _ fun W' h' => ?_
    rw [← E]
    exact lev_any W' p b _ h' A 43 (leV s.ram m 4) ⟨by decide, by decide⟩ G.mode
  · rw [show cOf (wfiR (sys1 s)) = { cOf s with pc := (s.pc + 4) % 4294967296, asleep := true } from rfl]
    obtain ⟨k, rfl⟩ : ∃ k : Nat, imm = k := ⟨imm.toNat, by omega⟩
    exact cdo_43 ⟨h, A, C, hI⟩ _ _ fun W' h' _ => sys_43_3 W' x r _ h' A nd n1 n2 k _ hm_
theorem lev_43_0' {s : RSt} {m nd n1 n2 : Nat} {imm : Int} (J : Jns s m 43 nd n1 n2 imm) (hm_ : s.mode = 0) : GoodDo s m := by
  obtain ⟨G, hm, ho, K, hd, lv, xa, xb, i0, i1, hI⟩ := J.all
  have C := G.cok
  have E : levR s 43 (leV s.ram m 4) = failR (sys1 s) 2 (leV s.ram m 4) := by simp [levR, hm_]
  refine good_of hm ho (failR (sys1 s) 2 (leV s.ram m 4)) (G.sys1.fail 2 (by decide) (leV s.ram m 4) lv) (mv_sysfail s _ _) 43 nd n1 n2 imm hd (by decide) (fun W p b h A => ?_) (fun W x r h A _ => ?_)
  · refine do_lev W p b _ h A G.xok _ lv.1 lv.2 43 nd n1 n2 imm hd K (by decide) (by decide) _ fun W' h' => ?_
    rw [← E]
    exact lev_any W' p b _ h' A 43 (leV s.ram m 4) ⟨by decide, by decide⟩ G.mode
  · rw [cOf_fail G.sys1 2 (leV s.ram m 4)]
    obtain ⟨k, rfl⟩ : ∃ k : Nat, imm = k := ⟨imm.toNat, by omega⟩
    exact cdo_43 ⟨h, A, C, hI⟩ _ _ fun W' h' _ => sys_43_0 W' x r _ h' A nd n1 n2 k _ hm_
theorem lev_43_1t' {s : RSt} {m nd n1 n2 : Nat} {imm : Int} (J : Jns s m 43 nd n1 n2 imm) (hm_ : s.mode = 1) (hb : s.tw = true) : GoodDo s m := by
  obtain ⟨G, hm, ho, K, hd, lv, xa, xb, i0, i1, hI⟩ := J.all
  have C := G.cok
  have E : levR s 43 (leV s.ram m 4) = failR (sys1 s) 2 (leV s.ram m 4) := by simp [levR, hm_, hb]
  refine good_of hm ho (failR (sys1 s) 2 (leV s.ram m 4)) (G.sys1.fail 2 (by decide) (leV s.ram m 4) lv) (mv_sysfail s _ _) 43 nd n1 n2 imm hd (by decide) (fun W p b h A => ?_) (fun W x r h A _ => ?_)
  · refine do_lev W p b _ h A G.xok _ lv.1 lv.2 43 nd n1 n2 imm hd K (by decide) (by decide) _ fun W' h' => ?_
    rw [← E]
    exact lev_any W' p b _ h' A 43 (leV s.ram m 4) ⟨by decide, by decide⟩ G.mode
  · rw [cOf_fail G.sys1 2 (leV s.ram m 4)]
    obtain ⟨k, rfl⟩ : ∃ k : Nat, imm = k := ⟨imm.toNat, by omega⟩
    exact cdo_43 ⟨h, A, C, hI⟩ _ _ fun W' h' _ => sys_43_1t W' x r _ h' A nd n1 n2 k _ hm_ ((tw_bit G).trans hb)
theorem lev_43_1f' {s : RSt} {m nd n1 n2 : Nat} {imm : Int} (J : Jns s m 43 nd n1 n2 imm) (hm_ : s.mode = 1) (hb : s.tw = false) : GoodDo s m := by
  obtain ⟨G, hm, ho, K, hd, lv, xa, xb, i0, i1, hI⟩ := J.all
  have C := G.cok
  have E : levR s 43 (leV s.ram m 4) = wfiR (sys1 s) := by simp [levR, hm_, hb]
  refine good_of hm ho (wfiR (sys1 s)) (G.sys1.wfi) (mv_sys s _ (Still.refl s) rfl rfl) 43 nd n1 n2 imm hd (by decide) (fun W p b h A => ?_) (fun W x r h A _ => ?_)
  · refine do_lev W p b _ h A G.xok _ lv.1 lv.2 43 nd n1 n2 imm hd K (by decide) (by decide) _ fun W' h' => ?_
    rw [← E]
    exact lev_any W' p b _ h' A 43 (leV s.ram m 4) ⟨by decide, by decide⟩ G.mode
  · rw [show cOf (wfiR (sys1 s)) = { cOf s with pc := (s.pc + 4) % 4294967296, asleep := true } from rfl]
    obtain ⟨k, rfl⟩ : ∃ k : Nat, imm = k := ⟨imm.toNat, by omega⟩
    exact cdo_43 ⟨h, A, C, hI⟩ _ _ fun W' h' _ => sys_43_1f W' x r _ h' A nd n1 n2 k _ hm_ ((tw_bit G).trans hb)
theorem Gd.csr {s : RSt} (h : Gd s) (j : Nat) (hj : j < 19) : W32 ((csrsR s).getD j 0) := by
  have e := h.mip
  have ms := h.ms
  match j, hj with
  | 0, _ => exact ms.and (W32.lit (n := 290) (by decide))
  | 1, _ => exact h.mie.and h.mideleg
  | 2, _ => exact h.stvec
  | 3, _ => exact h.sscratch
  | 4, _ => exact h.sepc
  | 5, _ => exact h.scause
  | 6, _ => exact h.stval
  | 7, _ => exact e.and h.mideleg
  | 8, _ => exact ms
  | 9, _ => exact h.medeleg
  | 10, _ => exact h.mideleg
  | 11, _ => exact h.mie
  | 12, _ => exact h.mtvec
  | 13, _ => exact h.mscratch
  | 14, _ => exact h.mepc
  | 15, _ => exact h.mcause
  | 16, _ => exact h.mtval
  | 17, _ => exact e
  | 18, _ => exact W32.lit (n := 0) (by decide)
  | j + 19, hj => exact absurd hj (by omega)
def numsN : List Nat := [256, 260, 261, 320, 321, 322, 323, 324, 768, 770, 771, 772, 773, 832, 833, 834, 835, 836, 3860]
theorem nums_at (n : Nat) (hn : n ∈ numsN) : ∃ k, k < 19 ∧ ((n : Nat) : Int) = numsR.getD k 0 := by
  simp only [numsN, List.mem_cons, List.not_mem_nil, or_false] at hn
  rcases hn with rfl | rfl | rfl | rfl | rfl | rfl | rfl | rfl | rfl | rfl | rfl | rfl | rfl | rfl | rfl | rfl | rfl | rfl | rfl
  · exact ⟨0, by decide, rfl⟩
  · exact ⟨1, by decide, rfl⟩
  · exact ⟨2, by decide, rfl⟩
  · exact ⟨3, by decide, rfl⟩
  · exact ⟨4, by decide, rfl⟩
  · exact ⟨5, by decide, rfl⟩
  · exact ⟨6, by decide, rfl⟩
  · exact ⟨7, by decide, rfl⟩
  · exact ⟨8, by decide, rfl⟩
  · exact ⟨9, by decide, rfl⟩
  · exact ⟨10, by decide, rfl⟩
  · exact ⟨11, by decide, rfl⟩
  · exact ⟨12, by decide, rfl⟩
  · exact ⟨13, by decide, rfl⟩
  · exact ⟨14, by decide, rfl⟩
  · exact ⟨15, by decide, rfl⟩
  · exact ⟨16, by decide, rfl⟩
  · exact ⟨17, by decide, rfl⟩
  · exact ⟨18, by decide, rfl⟩
theorem nums_no (n : Nat) (hn : n ∉ numsN) (k : Nat) (hk : k < 19) : numsR.getD k 0 ≠ (n : Int) := by
  intro e
  have hm : ∀ k : Fin 19, (numsR.getD k.val 0).toNat ∈ numsN := by decide
  have := hm ⟨k, hk⟩
  rw [show numsR.getD (⟨k, hk⟩ : Fin 19).val 0 = (n : Int) from e] at this
  exact hn (by simpa using this)
theorem set_res (c : CSt) (n : Nat) (hn : n ∈ numsN) (v : Int) (rd : Nat) (old : Int) : resC (setC c n v) rd old = setC (resC c rd old) n v := by
  simp only [numsN, List.mem_cons, List.not_mem_nil, or_false] at hn
  rcases hn with rfl | rfl | rfl | rfl | rfl | rfl | rfl | rfl | rfl | rfl | rfl | rfl | rfl | rfl | rfl | rfl | rfl | rfl | rfl
  · rw [setC_256, setC_256]
    rfl
  · rw [setC_260, setC_260]
    rfl
  · rw [setC_261, setC_261]
    rfl
  · rw [setC_320, setC_320]
    rfl
  · rw [setC_321, setC_321]
    rfl
  · rw [setC_322, setC_322]
    rfl
  · rw [setC_323, setC_323]
    rfl
  · rw [setC_324, setC_324]
    rfl
  · rw [setC_768, setC_768]
    rfl
  · rw [setC_770, setC_770]
    rfl
  · rw [setC_771, setC_771]
    rfl
  · rw [setC_772, setC_772]
    rfl
  · rw [setC_773, setC_773]
    rfl
  · rw [setC_832, setC_832]
    rfl
  · rw [setC_833, setC_833]
    rfl
  · rw [setC_834, setC_834]
    rfl
  · rw [setC_835, setC_835]
    rfl
  · rw [setC_836, setC_836]
    rfl
  · rw [setC_3860, setC_3860]
theorem ctlV_bd (op old a r1 : Int) (ho : W32 old) (ha : W32 a) (h1 : W32 r1) : W32 (ctlV op old a r1) := by
  unfold ctlV
  split; · exact ha
  split; · exact ho.or ha
  split; · exact ho.andNot ha
  split; · exact h1
  split; · exact ho.or h1
  exact ho.andNot h1
theorem cOf_ctl {s : RSt} (G : Gd s) (op : Int) (rd r1 n : Nat) (hn : n ∈ numsN) (w : Int) (j : Nat) (hv : W32 (ctlV op ((csrsR s).getD j 0) (s.x[r1]?.getD 0) r1)) :
    cOf (ctlR s op rd r1 n w (s.x[r1]?.getD 0) ((csrsR s).getD j 0) (stR (sysR s) n)) = accC (cOf s) op rd r1 n w ((csrsC (cOf s)).getD j 0) := by
  rw [G.csrs]
  unfold ctlR accC
  rw [show mayC (cOf s) n (wrB op r1) = mayB s n (wrB op r1) from rfl]
  by_cases hm : mayB s n (wrB op r1) = true
  · rw [if_pos hm, if_pos hm]
    by_cases hw : wrB op r1 = true
    · rw [if_pos hw, if_pos hw, ← set_res _ n hn]
      show resC (cOf (stR (sysR s) n _)) rd _ = _
      rw [cOf_st G.sys n hn _ hv]
      rfl
    · rw [if_neg hw, if_neg hw]
      rfl
  · rw [if_neg hm, if_neg hm]
    exact cOf_fail G.sys 2 w
theorem still_ctl (s : RSt) (op : Int) (rd r1 n : Nat) (hn : n ∈ numsN) (w a old : Int) : Still s (ctlR s op rd r1 n w a old (stR (sysR s) n)) := by
  unfold ctlR
  split
  · split
    · exact Still.trans (b := sysR s) (Still.refl s) (Still.trans (still_st (sysR s) n hn _) (Still.refl (stR (sysR s) n _)))
    · exact Still.refl s
  · exact still_fail (sysR s) 2 w
theorem mv_ctl (s : RSt) (op : Int) (rd r1 n : Nat) (hn : n ∈ numsN) (w a old : Int) : Moves s (ctlR s op rd r1 n w a old (stR (sysR s) n)) := by
  have st := still_ctl s op rd r1 n hn w a old
  unfold ctlR at st ⊢
  by_cases hm : mayB s n (wrB op r1) = true
  · rw [if_pos hm] at st ⊢
    by_cases hw : wrB op r1 = true
    · rw [if_pos hw] at st ⊢
      have c := stR_cnt (sysR s) n (ctlV op old a r1)
      exact mv_sys s _ st c.1 c.2.1
    · rw [if_neg hw] at st ⊢
      exact mv_sys s _ st rfl rfl
  · rw [if_neg hm]
    exact mv_sysfail s 2 w
theorem Gd.ctl {s : RSt} (G : Gd s) (op : Int) (rd r1 n : Nat) (hn : n ∈ numsN) (w : Int) (hw : W32 w) (j : Nat) (hj : j < 19) (hv : W32 (ctlV op ((csrsR s).getD j 0) (s.x[r1]?.getD 0) r1)) :
    Gd (ctlR s op rd r1 n w (s.x[r1]?.getD 0) ((csrsR s).getD j 0) (stR (sysR s) n)) := by
  unfold ctlR
  split
  · split
    · exact ((G.sys.st n hn _ hv).put rd _ (G.csr j hj)).next
    · exact (G.sys.put rd _ (G.csr j hj)).next
  · exact G.sys.fail 2 (by decide) w hw
theorem rctl_any {s : RSt} (G : Gd s) (op : Int) (ho : 44 ≤ op ∧ op ≤ 49) (rd r1 : Nat) (hrd : rd < 32) (hr1 : r1 < 32) (r2 : Int) (k : Nat) (hk : k < 4096) (w a : Int) (ha : W32 a) (hn : k ∈ numsN) (j : Nat) (hj : j < 19) (ej : (k : Int) = numsR.getD j 0) (W : World) (p : Nat) (b : RBl) (h : RefAt W p b s) (A : b.Apart p) :
    Calls Tryz.prog 63 #[.pointer (some ⟨p, 0, none⟩), .agg #[.int .i64 op, .int .i64 rd, .int .i64 r1, .int .i64 r2, .int .u32 k], .int .u32 w, .int .u32 a] W (RP W p b (ctlR s op rd r1 k w a ((csrsR s).getD j 0) (stR (sysR s) k))) := by
  have hop : op = 44 ∨ op = 45 ∨ op = 46 ∨ op = 47 ∨ op = 48 ∨ op = 49 := by omega
  have oc := G.csr j hj
  have AO : 0 ≤ a ∧ a < 4294967296 ∧ 0 ≤ (csrsR s).getD j 0 ∧ (csrsR s).getD j 0 < 4294967296 := ⟨ha.1, ha.2, oc.1, oc.2⟩
  have m0 : 0 ≤ s.mode := by have := G.mode; omega
  have m3 : s.mode ≤ 3 := by have := G.mode; omega
  have CS : ∀ W', RefAt W' p b (sysR s) → Calls Tryz.prog 68 #[.pointer (some ⟨p, 0, none⟩), .int .u32 k] W' fun e W'' => e = .returned (.tuple #[.int .u32 ((csrsR s).getD j 0), .bool true]) ∧ ∃ q, W'' = W'.drewN q := fun W' h' => by
    have := csr_any W' p b _ h' G.sys.fine j hj
    rw [← ej] at this
    exact this
  have ST : ∀ W' v, 0 ≤ v → v < 4294967296 → RefAt W' p b (sysR s) → Calls Tryz.prog 99 #[.pointer (some ⟨p, 0, none⟩), .int .u32 k, .int .u32 v] W' (RP W' p b (stR (sysR s) k v)) := fun W' v v0 v1 h' => setCsr_any W' p b _ h' A k hn v v0 v1
  rcases hop with rfl | rfl | rfl | rfl | rfl | rfl
  · exact ctl_44 W p b _ h A rd hrd r2 r1 k hr1 hk w a _ AO m0 m3 _ CS ST
  · by_cases hz : r1 = 0
    · exact ctl_45_z W p b _ h A rd hrd r2 r1 k hr1 hk w a _ hz AO m0 m3 _ CS ST
    · exact ctl_45_n W p b _ h A rd hrd r2 r1 k hr1 hk w a _ hz AO m0 m3 _ CS ST
  · by_cases hz : r1 = 0
    · exact ctl_46_z W p b _ h A rd hrd r2 r1 k hr1 hk w a _ hz AO m0 m3 _ CS ST
    · exact ctl_46_n W p b _ h A rd hrd r2 r1 k hr1 hk w a _ hz AO m0 m3 _ CS ST
  · exact ctl_47 W p b _ h A rd hrd r2 r1 k hr1 hk w a _ AO m0 m3 _ CS ST
  · by_cases hz : r1 = 0
    · exact ctl_48_z W p b _ h A rd hrd r2 r1 k hr1 hk w a _ hz AO m0 m3 _ CS ST
    · exact ctl_48_n W p b _ h A rd hrd r2 r1 k hr1 hk w a _ hz AO m0 m3 _ CS ST
  · by_cases hz : r1 = 0
    · exact ctl_49_z W p b _ h A rd hrd r2 r1 k hr1 hk w a _ hz AO m0 m3 _ CS ST
    · exact ctl_49_n W p b _ h A rd hrd r2 r1 k hr1 hk w a _ hz AO m0 m3 _ CS ST
theorem rctl_no (s : RSt) (op : Int) (ho : 44 ≤ op ∧ op ≤ 49) (rd r1 : Nat) (hrd : rd < 32) (hr1 : r1 < 32) (r2 : Int) (k : Nat) (hk : k < 4096) (w a : Int) (hn : k ∉ numsN) (W : World) (p : Nat) (b : RBl) (h : RefAt W p b s) (A : b.Apart p) :
    Calls Tryz.prog 63 #[.pointer (some ⟨p, 0, none⟩), .agg #[.int .i64 op, .int .i64 rd, .int .i64 r1, .int .i64 r2, .int .u32 k], .int .u32 w, .int .u32 a] W (RP W p b (failR (sysR s) 2 w)) := by
  have hop : op = 44 ∨ op = 45 ∨ op = 46 ∨ op = 47 ∨ op = 48 ∨ op = 49 := by omega
  have hne : ∀ z, z ∈ numsN → k ≠ z := fun z hz e => hn (e ▸ hz)
  have h256 : ((k : Int) == 256) = false := by have := hne 256 (by decide); simp; omega
  have h260 : ((k : Int) == 260) = false := by have := hne 260 (by decide); simp; omega
  have h261 : ((k : Int) == 261) = false := by have := hne 261 (by decide); simp; omega
  have h320 : ((k : Int) == 320) = false := by have := hne 320 (by decide); simp; omega
  have h321 : ((k : Int) == 321) = false := by have := hne 321 (by decide); simp; omega
  have h322 : ((k : Int) == 322) = false := by have := hne 322 (by decide); simp; omega
  have h323 : ((k : Int) == 323) = false := by have := hne 323 (by decide); simp; omega
  have h324 : ((k : Int) == 324) = false := by have := hne 324 (by decide); simp; omega
  have h768 : ((k : Int) == 768) = false := by have := hne 768 (by decide); simp; omega
  have h770 : ((k : Int) == 770) = false := by have := hne 770 (by decide); simp; omega
  have h771 : ((k : Int) == 771) = false := by have := hne 771 (by decide); simp; omega
  have h772 : ((k : Int) == 772) = false := by have := hne 772 (by decide); simp; omega
  have h773 : ((k : Int) == 773) = false := by have := hne 773 (by decide); simp; omega
  have h832 : ((k : Int) == 832) = false := by have := hne 832 (by decide); simp; omega
  have h833 : ((k : Int) == 833) = false := by have := hne 833 (by decide); simp; omega
  have h834 : ((k : Int) == 834) = false := by have := hne 834 (by decide); simp; omega
  have h835 : ((k : Int) == 835) = false := by have := hne 835 (by decide); simp; omega
  have h836 : ((k : Int) == 836) = false := by have := hne 836 (by decide); simp; omega
  have h3860 : ((k : Int) == 3860) = false := by have := hne 3860 (by decide); simp; omega
  have CS : ∀ W', RefAt W' p b (sysR s) → Calls Tryz.prog 68 #[.pointer (some ⟨p, 0, none⟩), .int .u32 k] W' fun e W'' => e = .returned (.tuple #[.int .u32 0, .bool false]) ∧ ∃ q, W'' = W'.drewN q := fun W' _ => by
    refine (csr_none W' p k h256 h260 h261 h320 h321 h322 h323 h324 h768 h770 h771 h772 h773 h832 h833 h834 h835 h836 h3860).mono ?_
    rintro e w1 ⟨rfl, rfl⟩
    exact ⟨rfl, 0, rfl⟩
  rcases hop with rfl | rfl | rfl | rfl | rfl | rfl
  · exact ctlno_44 W p b _ h A rd hrd r2 r1 k hr1 hk w a 0 CS
  · exact ctlno_45 W p b _ h A rd hrd r2 r1 k hr1 hk w a 0 CS
  · exact ctlno_46 W p b _ h A rd hrd r2 r1 k hr1 hk w a 0 CS
  · exact ctlno_47 W p b _ h A rd hrd r2 r1 k hr1 hk w a 0 CS
  · exact ctlno_48 W p b _ h A rd hrd r2 r1 k hr1 hk w a 0 CS
  · exact ctlno_49 W p b _ h A rd hrd r2 r1 k hr1 hk w a 0 CS
theorem stp_44 {s : RSt} {m nd n1 n2 : Nat} {imm : Int} (J : Jns s m 44 nd n1 n2 imm) : GoodDo s m := by
  obtain ⟨G, hm, ho, K, hd, lv, xa, xb, i0, i1, hI⟩ := J.all
  have C := G.cok
  have hk := K.cs (by decide)
  obtain ⟨k, rfl⟩ : ∃ k : Nat, imm = k := ⟨imm.toNat, by omega⟩
  have hk' : k < 4096 := by omega
  by_cases hn : k ∈ numsN
  · obtain ⟨j, hj, ej⟩ := nums_at k hn
    have hv : W32 (ctlV 44 ((csrsR s).getD j 0) (s.x[n1]?.getD 0) n1) := ctlV_bd _ _ _ _ (G.csr j hj) xa ⟨by omega, by have := hI.s; omega⟩
    refine good_of hm ho (ctlR s 44 nd n1 k (leV s.ram m 4) (s.x[n1]?.getD 0) ((csrsR s).getD j 0) (stR (sysR s) k)) (G.ctl 44 nd n1 k hn _ lv j hj hv) (mv_ctl s 44 nd n1 k hn _ _ _) 44 nd n1 n2 k hd (by decide) (fun W p b h A => ?_) (fun W x r h A T9 => ?_)
    · exact do_ctl W p b _ h A G.xok _ lv.1 lv.2 44 nd n1 n2 k hd K (by decide) _ fun W' h' => rctl_any G 44 ⟨by decide, by decide⟩ nd n1 hI.d hI.s n2 k hk' _ _ xa hn j hj ej W' p b h' A
    · rw [cOf_ctl G 44 nd n1 k hn _ j hv]
      exact cdo_44 ⟨h, A, C, hI⟩ _ _ fun W' h' hb => sys_44 W' x r _ h' nd n1 n2 k _ _ fun W'' h'' hb' => acc_any W'' x r _ h'' A ((T9.below hb).below hb') C.m0 C.m3 44 nd n1 n2 k _ ⟨by decide, by decide⟩ G.z j hj ej hk' hI.d hI.s hn
  · refine good_of hm ho (failR (sysR s) 2 (leV s.ram m 4)) (G.sys.fail 2 (by decide) _ lv) (mv_sysfail s _ _) 44 nd n1 n2 k hd (by decide) (fun W p b h A => ?_) (fun W x r h A T9 => ?_)
    · exact do_ctl W p b _ h A G.xok _ lv.1 lv.2 44 nd n1 n2 k hd K (by decide) _ fun W' h' => rctl_no s 44 ⟨by decide, by decide⟩ nd n1 hI.d hI.s n2 k hk' _ _ hn W' p b h' A
    · rw [cOf_fail G.sys 2 (leV s.ram m 4)]
      exact cdo_44 ⟨h, A, C, hI⟩ _ _ fun W' h' hb => sys_44 W' x r _ h' nd n1 n2 k _ _ fun W'' h'' hb' => acc_no W'' x r _ h'' A ((T9.below hb).below hb') C.m0 C.m3 44 nd n1 n2 k _ (nums_no k hn)
theorem stp_45 {s : RSt} {m nd n1 n2 : Nat} {imm : Int} (J : Jns s m 45 nd n1 n2 imm) : GoodDo s m := by
  obtain ⟨G, hm, ho, K, hd, lv, xa, xb, i0, i1, hI⟩ := J.all
  have C := G.cok
  have hk := K.cs (by decide)
  obtain ⟨k, rfl⟩ : ∃ k : Nat, imm = k := ⟨imm.toNat, by omega⟩
  have hk' : k < 4096 := by omega
  by_cases hn : k ∈ numsN
  · obtain ⟨j, hj, ej⟩ := nums_at k hn
    have hv : W32 (ctlV 45 ((csrsR s).getD j 0) (s.x[n1]?.getD 0) n1) := ctlV_bd _ _ _ _ (G.csr j hj) xa ⟨by omega, by have := hI.s; omega⟩
    refine good_of hm ho (ctlR s 45 nd n1 k (leV s.ram m 4) (s.x[n1]?.getD 0) ((csrsR s).getD j 0) (stR (sysR s) k)) (G.ctl 45 nd n1 k hn _ lv j hj hv) (mv_ctl s 45 nd n1 k hn _ _ _) 45 nd n1 n2 k hd (by decide) (fun W p b h A => ?_) (fun W x r h A T9 => ?_)
    · exact do_ctl W p b _ h A G.xok _ lv.1 lv.2 45 nd n1 n2 k hd K (by decide) _ fun W' h' => rctl_any G 45 ⟨by decide, by decide⟩ nd n1 hI.d hI.s n2 k hk' _ _ xa hn j hj ej W' p b h' A
    · rw [cOf_ctl G 45 nd n1 k hn _ j hv]
      exact cdo_45 ⟨h, A, C, hI⟩ _ _ fun W' h' hb => sys_45 W' x r _ h' nd n1 n2 k _ _ fun W'' h'' hb' => acc_any W'' x r _ h'' A ((T9.below hb).below hb') C.m0 C.m3 45 nd n1 n2 k _ ⟨by decide, by decide⟩ G.z j hj ej hk' hI.d hI.s hn
  · refine good_of hm ho (failR (sysR s) 2 (leV s.ram m 4)) (G.sys.fail 2 (by decide) _ lv) (mv_sysfail s _ _) 45 nd n1 n2 k hd (by decide) (fun W p b h A => ?_) (fun W x r h A T9 => ?_)
    · exact do_ctl W p b _ h A G.xok _ lv.1 lv.2 45 nd n1 n2 k hd K (by decide) _ fun W' h' => rctl_no s 45 ⟨by decide, by decide⟩ nd n1 hI.d hI.s n2 k hk' _ _ hn W' p b h' A
    · rw [cOf_fail G.sys 2 (leV s.ram m 4)]
      exact cdo_45 ⟨h, A, C, hI⟩ _ _ fun W' h' hb => sys_45 W' x r _ h' nd n1 n2 k _ _ fun W'' h'' hb' => acc_no W'' x r _ h'' A ((T9.below hb).below hb') C.m0 C.m3 45 nd n1 n2 k _ (nums_no k hn)
theorem stp_46 {s : RSt} {m nd n1 n2 : Nat} {imm : Int} (J : Jns s m 46 nd n1 n2 imm) : GoodDo s m := by
  obtain ⟨G, hm, ho, K, hd, lv, xa, xb, i0, i1, hI⟩ := J.all
  have C := G.cok
  have hk := K.cs (by decide)
  obtain ⟨k, rfl⟩ : ∃ k : Nat, imm = k := ⟨imm.toNat, by omega⟩
  have hk' : k < 4096 := by omega
  by_cases hn : k ∈ numsN
  · obtain ⟨j, hj, ej⟩ := nums_at k hn
    have hv : W32 (ctlV 46 ((csrsR s).getD j 0) (s.x[n1]?.getD 0) n1) := ctlV_bd _ _ _ _ (G.csr j hj) xa ⟨by omega, by have := hI.s; omega⟩
    refine good_of hm ho (ctlR s 46 nd n1 k (leV s.ram m 4) (s.x[n1]?.getD 0) ((csrsR s).getD j 0) (stR (sysR s) k)) (G.ctl 46 nd n1 k hn _ lv j hj hv) (mv_ctl s 46 nd n1 k hn _ _ _) 46 nd n1 n2 k hd (by decide) (fun W p b h A => ?_) (fun W x r h A T9 => ?_)
    · exact do_ctl W p b _ h A G.xok _ lv.1 lv.2 46 nd n1 n2 k hd K (by decide) _ fun W' h' => rctl_any G 46 ⟨by decide, by decide⟩ nd n1 hI.d hI.s n2 k hk' _ _ xa hn j hj ej W' p b h' A
    · rw [cOf_ctl G 46 nd n1 k hn _ j hv]
      exact cdo_46 ⟨h, A, C, hI⟩ _ _ fun W' h' hb => sys_46 W' x r _ h' nd n1 n2 k _ _ fun W'' h'' hb' => acc_any W'' x r _ h'' A ((T9.below hb).below hb') C.m0 C.m3 46 nd n1 n2 k _ ⟨by decide, by decide⟩ G.z j hj ej hk' hI.d hI.s hn
  · refine good_of hm ho (failR (sysR s) 2 (leV s.ram m 4)) (G.sys.fail 2 (by decide) _ lv) (mv_sysfail s _ _) 46 nd n1 n2 k hd (by decide) (fun W p b h A => ?_) (fun W x r h A T9 => ?_)
    · exact do_ctl W p b _ h A G.xok _ lv.1 lv.2 46 nd n1 n2 k hd K (by decide) _ fun W' h' => rctl_no s 46 ⟨by decide, by decide⟩ nd n1 hI.d hI.s n2 k hk' _ _ hn W' p b h' A
    · rw [cOf_fail G.sys 2 (leV s.ram m 4)]
      exact cdo_46 ⟨h, A, C, hI⟩ _ _ fun W' h' hb => sys_46 W' x r _ h' nd n1 n2 k _ _ fun W'' h'' hb' => acc_no W'' x r _ h'' A ((T9.below hb).below hb') C.m0 C.m3 46 nd n1 n2 k _ (nums_no k hn)
theorem stp_47 {s : RSt} {m nd n1 n2 : Nat} {imm : Int} (J : Jns s m 47 nd n1 n2 imm) : GoodDo s m := by
  obtain ⟨G, hm, ho, K, hd, lv, xa, xb, i0, i1, hI⟩ := J.all
  have C := G.cok
  have hk := K.cs (by decide)
  obtain ⟨k, rfl⟩ : ∃ k : Nat, imm = k := ⟨imm.toNat, by omega⟩
  have hk' : k < 4096 := by omega
  by_cases hn : k ∈ numsN
  · obtain ⟨j, hj, ej⟩ := nums_at k hn
    have hv : W32 (ctlV 47 ((csrsR s).getD j 0) (s.x[n1]?.getD 0) n1) := ctlV_bd _ _ _ _ (G.csr j hj) xa ⟨by omega, by have := hI.s; omega⟩
    refine good_of hm ho (ctlR s 47 nd n1 k (leV s.ram m 4) (s.x[n1]?.getD 0) ((csrsR s).getD j 0) (stR (sysR s) k)) (G.ctl 47 nd n1 k hn _ lv j hj hv) (mv_ctl s 47 nd n1 k hn _ _ _) 47 nd n1 n2 k hd (by decide) (fun W p b h A => ?_) (fun W x r h A T9 => ?_)
    · exact do_ctl W p b _ h A G.xok _ lv.1 lv.2 47 nd n1 n2 k hd K (by decide) _ fun W' h' => rctl_any G 47 ⟨by decide, by decide⟩ nd n1 hI.d hI.s n2 k hk' _ _ xa hn j hj ej W' p b h' A
    · rw [cOf_ctl G 47 nd n1 k hn _ j hv]
      exact cdo_47 ⟨h, A, C, hI⟩ _ _ fun W' h' hb => sys_47 W' x r _ h' nd n1 n2 k _ _ fun W'' h'' hb' => acc_any W'' x r _ h'' A ((T9.below hb).below hb') C.m0 C.m3 47 nd n1 n2 k _ ⟨by decide, by decide⟩ G.z j hj ej hk' hI.d hI.s hn
  · refine good_of hm ho (failR (sysR s) 2 (leV s.ram m 4)) (G.sys.fail 2 (by decide) _ lv) (mv_sysfail s _ _) 47 nd n1 n2 k hd (by decide) (fun W p b h A => ?_) (fun W x r h A T9 => ?_)
    · exact do_ctl W p b _ h A G.xok _ lv.1 lv.2 47 nd n1 n2 k hd K (by decide) _ fun W' h' => rctl_no s 47 ⟨by decide, by decide⟩ nd n1 hI.d hI.s n2 k hk' _ _ hn W' p b h' A
    · rw [cOf_fail G.sys 2 (leV s.ram m 4)]
      exact cdo_47 ⟨h, A, C, hI⟩ _ _ fun W' h' hb => sys_47 W' x r _ h' nd n1 n2 k _ _ fun W'' h'' hb' => acc_no W'' x r _ h'' A ((T9.below hb).below hb') C.m0 C.m3 47 nd n1 n2 k _ (nums_no k hn)
theorem stp_48 {s : RSt} {m nd n1 n2 : Nat} {imm : Int} (J : Jns s m 48 nd n1 n2 imm) : GoodDo s m := by
  obtain ⟨G, hm, ho, K, hd, lv, xa, xb, i0, i1, hI⟩ := J.all
  have C := G.cok
  have hk := K.cs (by decide)
  obtain ⟨k, rfl⟩ : ∃ k : Nat, imm = k := ⟨imm.toNat, by omega⟩
  have hk' : k < 4096 := by omega
  by_cases hn : k ∈ numsN
  · obtain ⟨j, hj, ej⟩ := nums_at k hn
    have hv : W32 (ctlV 48 ((csrsR s).getD j 0) (s.x[n1]?.getD 0) n1) := ctlV_bd _ _ _ _ (G.csr j hj) xa ⟨by omega, by have := hI.s; omega⟩
    refine good_of hm ho (ctlR s 48 nd n1 k (leV s.ram m 4) (s.x[n1]?.getD 0) ((csrsR s).getD j 0) (stR (sysR s) k)) (G.ctl 48 nd n1 k hn _ lv j hj hv) (mv_ctl s 48 nd n1 k hn _ _ _) 48 nd n1 n2 k hd (by decide) (fun W p b h A => ?_) (fun W x r h A T9 => ?_)
    · exact do_ctl W p b _ h A G.xok _ lv.1 lv.2 48 nd n1 n2 k hd K (by decide) _ fun W' h' => rctl_any G 48 ⟨by decide, by decide⟩ nd n1 hI.d hI.s n2 k hk' _ _ xa hn j hj ej W' p b h' A
    · rw [cOf_ctl G 48 nd n1 k hn _ j hv]
      exact cdo_48 ⟨h, A, C, hI⟩ _ _ fun W' h' hb => sys_48 W' x r _ h' nd n1 n2 k _ _ fun W'' h'' hb' => acc_any W'' x r _ h'' A ((T9.below hb).below hb') C.m0 C.m3 48 nd n1 n2 k _ ⟨by decide, by decide⟩ G.z j hj ej hk' hI.d hI.s hn
  · refine good_of hm ho (failR (sysR s) 2 (leV s.ram m 4)) (G.sys.fail 2 (by decide) _ lv) (mv_sysfail s _ _) 48 nd n1 n2 k hd (by decide) (fun W p b h A => ?_) (fun W x r h A T9 => ?_)
    · exact do_ctl W p b _ h A G.xok _ lv.1 lv.2 48 nd n1 n2 k hd K (by decide) _ fun W' h' => rctl_no s 48 ⟨by decide, by decide⟩ nd n1 hI.d hI.s n2 k hk' _ _ hn W' p b h' A
    · rw [cOf_fail G.sys 2 (leV s.ram m 4)]
      exact cdo_48 ⟨h, A, C, hI⟩ _ _ fun W' h' hb => sys_48 W' x r _ h' nd n1 n2 k _ _ fun W'' h'' hb' => acc_no W'' x r _ h'' A ((T9.below hb).below hb') C.m0 C.m3 48 nd n1 n2 k _ (nums_no k hn)
theorem stp_49 {s : RSt} {m nd n1 n2 : Nat} {imm : Int} (J : Jns s m 49 nd n1 n2 imm) : GoodDo s m := by
  obtain ⟨G, hm, ho, K, hd, lv, xa, xb, i0, i1, hI⟩ := J.all
  have C := G.cok
  have hk := K.cs (by decide)
  obtain ⟨k, rfl⟩ : ∃ k : Nat, imm = k := ⟨imm.toNat, by omega⟩
  have hk' : k < 4096 := by omega
  by_cases hn : k ∈ numsN
  · obtain ⟨j, hj, ej⟩ := nums_at k hn
    have hv : W32 (ctlV 49 ((csrsR s).getD j 0) (s.x[n1]?.getD 0) n1) := ctlV_bd _ _ _ _ (G.csr j hj) xa ⟨by omega, by have := hI.s; omega⟩
    refine good_of hm ho (ctlR s 49 nd n1 k (leV s.ram m 4) (s.x[n1]?.getD 0) ((csrsR s).getD j 0) (stR (sysR s) k)) (G.ctl 49 nd n1 k hn _ lv j hj hv) (mv_ctl s 49 nd n1 k hn _ _ _) 49 nd n1 n2 k hd (by decide) (fun W p b h A => ?_) (fun W x r h A T9 => ?_)
    · exact do_ctl W p b _ h A G.xok _ lv.1 lv.2 49 nd n1 n2 k hd K (by decide) _ fun W' h' => rctl_any G 49 ⟨by decide, by decide⟩ nd n1 hI.d hI.s n2 k hk' _ _ xa hn j hj ej W' p b h' A
    · rw [cOf_ctl G 49 nd n1 k hn _ j hv]
      exact cdo_49 ⟨h, A, C, hI⟩ _ _ fun W' h' hb => sys_49 W' x r _ h' nd n1 n2 k _ _ fun W'' h'' hb' => acc_any W'' x r _ h'' A ((T9.below hb).below hb') C.m0 C.m3 49 nd n1 n2 k _ ⟨by decide, by decide⟩ G.z j hj ej hk' hI.d hI.s hn
  · refine good_of hm ho (failR (sysR s) 2 (leV s.ram m 4)) (G.sys.fail 2 (by decide) _ lv) (mv_sysfail s _ _) 49 nd n1 n2 k hd (by decide) (fun W p b h A => ?_) (fun W x r h A T9 => ?_)
    · exact do_ctl W p b _ h A G.xok _ lv.1 lv.2 49 nd n1 n2 k hd K (by decide) _ fun W' h' => rctl_no s 49 ⟨by decide, by decide⟩ nd n1 hI.d hI.s n2 k hk' _ _ hn W' p b h' A
    · rw [cOf_fail G.sys 2 (leV s.ram m 4)]
      exact cdo_49 ⟨h, A, C, hI⟩ _ _ fun W' h' hb => sys_49 W' x r _ h' nd n1 n2 k _ _ fun W'' h'' hb' => acc_no W'' x r _ h'' A ((T9.below hb).below hb') C.m0 C.m3 49 nd n1 n2 k _ (nums_no k hn)
theorem do_one {s : RSt} {m : Nat} (G : Gd s) (hm : s.pc = m) (ho : m + 4 ≤ s.ram.length) : BadDo s m ∨ GoodDo s m := by
  have lv := (leV_bd G.b m).2.2
  have K0 := dec_ok (leV s.ram m 4) lv.1 lv.2
  obtain ⟨op, rd, r1, r2, imm, hd⟩ : ∃ op rd r1 r2 imm, D.dec (leV s.ram m 4) = ⟨op, rd, r1, r2, imm⟩ := ⟨_, _, _, _, _, rfl⟩
  rw [hd] at K0
  have K : InsOk op rd r1 r2 imm := K0
  clear K0
  obtain ⟨nd, rfl⟩ : ∃ k : Nat, rd = k := ⟨rd.toNat, by have := K.d0; omega⟩
  obtain ⟨n1, rfl⟩ : ∃ k : Nat, r1 = k := ⟨r1.toNat, by have := K.s0; omega⟩
  obtain ⟨n2, rfl⟩ : ∃ k : Nat, r2 = k := ⟨r2.toNat, by have := K.t0; omega⟩
  obtain ⟨a, ea⟩ : ∃ a : Nat, (s.x[n1]?.getD 0 + imm) % 4294967296 = a := ⟨((s.x[n1]?.getD 0 + imm) % 4294967296).toNat, by omega⟩
  have o0 := K.o0
  have o1 := K.o1
  have hop : op = 0 ∨ op = 1 ∨ op = 2 ∨ op = 3 ∨ op = 4 ∨ op = 5 ∨ op = 6 ∨ op = 7 ∨ op = 8 ∨ op = 9 ∨ op = 10 ∨ op = 11 ∨ op = 12 ∨ op = 13 ∨ op = 14 ∨ op = 15 ∨ op = 16 ∨ op = 17 ∨ op = 18 ∨ op = 19 ∨ op = 20 ∨ op = 21 ∨ op = 22 ∨ op = 23 ∨ op = 24 ∨ op = 25 ∨ op = 26 ∨ op = 27 ∨ op = 28 ∨ op = 29 ∨ op = 30 ∨ op = 31 ∨ op = 32 ∨ op = 33 ∨ op = 34 ∨ op = 35 ∨ op = 36 ∨ op = 37 ∨ op = 38 ∨ op = 39 ∨ op = 40 ∨ op = 41 ∨ op = 42 ∨ op = 43 ∨ op = 44 ∨ op = 45 ∨ op = 46 ∨ op = 47 ∨ op = 48 ∨ op = 49 := by omega
  have J : Jns s m op nd n1 n2 imm := ⟨G, hm, ho, K, hd⟩
  clear K hd
  rcases hop with rfl | rfl | rfl | rfl | rfl | rfl | rfl | rfl | rfl | rfl | rfl | rfl | rfl | rfl | rfl | rfl | rfl | rfl | rfl | rfl | rfl | rfl | rfl | rfl | rfl | rfl | rfl | rfl | rfl | rfl | rfl | rfl | rfl | rfl | rfl | rfl | rfl | rfl | rfl | rfl | rfl | rfl | rfl | rfl | rfl | rfl | rfl | rfl | rfl | rfl
  · exact .inr (stp_0 J)
  · exact .inr (stp_1 J)
  · exact .inr (stp_2 J)
  · exact .inr (stp_3 J)
  · exact .inr (stp_4 J)
  · by_cases ht : takenB 5 (s.x[n1]?.getD 0) (s.x[n2]?.getD 0) = true
    · exact .inr (stp_5_y J ht)
    · exact .inr (stp_5_n J (by simpa using ht))
  · by_cases ht : takenB 6 (s.x[n1]?.getD 0) (s.x[n2]?.getD 0) = true
    · exact .inr (stp_6_y J ht)
    · exact .inr (stp_6_n J (by simpa using ht))
  · by_cases ht : takenB 7 (s.x[n1]?.getD 0) (s.x[n2]?.getD 0) = true
    · exact .inr (stp_7_y J ht)
    · exact .inr (stp_7_n J (by simpa using ht))
  · by_cases ht : takenB 8 (s.x[n1]?.getD 0) (s.x[n2]?.getD 0) = true
    · exact .inr (stp_8_y J ht)
    · exact .inr (stp_8_n J (by simpa using ht))
  · by_cases ht : takenB 9 (s.x[n1]?.getD 0) (s.x[n2]?.getD 0) = true
    · exact .inr (stp_9_y J ht)
    · exact .inr (stp_9_n J (by simpa using ht))
  · by_cases ht : takenB 10 (s.x[n1]?.getD 0) (s.x[n2]?.getD 0) = true
    · exact .inr (stp_10_y J ht)
    · exact .inr (stp_10_n J (by simpa using ht))
  · by_cases ha : a + 1 ≤ s.ram.length
    · by_cases hc : leV s.ram a 1 < 128
      · exact .inr (stp_11_lo J a ea ha hc)
      · exact .inr (stp_11_hi J a ea ha hc)
    · exact .inl (bad_11 J a ea ha)
  · by_cases ha : a + 2 ≤ s.ram.length
    · by_cases hc : leV s.ram a 2 < 32768
      · exact .inr (stp_12_lo J a ea ha hc)
      · exact .inr (stp_12_hi J a ea ha hc)
    · exact .inl (bad_12 J a ea ha)
  · by_cases ha : a + 4 ≤ s.ram.length
    · exact .inr (stp_13 J a ea ha)
    · exact .inl (bad_13 J a ea ha)
  · by_cases ha : a + 1 ≤ s.ram.length
    · exact .inr (stp_14 J a ea ha)
    · exact .inl (bad_14 J a ea ha)
  · by_cases ha : a + 2 ≤ s.ram.length
    · exact .inr (stp_15 J a ea ha)
    · exact .inl (bad_15 J a ea ha)
  · by_cases ha : a + 1 ≤ s.ram.length
    · exact .inr (stp_16 J a ea ha)
    · exact .inl (bad_16 J a ea ha)
  · by_cases ha : a + 2 ≤ s.ram.length
    · exact .inr (stp_17 J a ea ha)
    · exact .inl (bad_17 J a ea ha)
  · by_cases ha : a + 4 ≤ s.ram.length
    · exact .inr (stp_18 J a ea ha)
    · exact .inl (bad_18 J a ea ha)
  · exact .inr (stp_19 J)
  · exact .inr (stp_20 J)
  · exact .inr (stp_21 J)
  · exact .inr (stp_22 J)
  · exact .inr (stp_23 J)
  · exact .inr (stp_24 J)
  · exact .inr (stp_25 J)
  · exact .inr (stp_26 J)
  · exact .inr (stp_27 J)
  · exact .inr (stp_28 J)
  · exact .inr (stp_29 J)
  · exact .inr (stp_30 J)
  · exact .inr (stp_31 J)
  · exact .inr (stp_32 J)
  · exact .inr (stp_33 J)
  · exact .inr (stp_34 J)
  · exact .inr (stp_35 J)
  · exact .inr (stp_36 J)
  · exact .inr (stp_37 J)
  · exact .inr (stp_38 J)
  · rcases G.mode with h | h | h
    · exact .inr (lev_39_0' J h)
    · exact .inr (lev_39_1' J h)
    · exact .inr (lev_39_3' J h)
  · exact .inr (lev_40_a' J)
  · by_cases h : s.mode = 3
    · exact .inr (lev_41_3' J h)
    · exact .inr (lev_41_n' J h)
  · rcases G.mode with h | h | h
    · exact .inr (lev_42_0' J h)
    · by_cases hb : s.tsr = true
      · exact .inr (lev_42_1t' J h hb)
      · exact .inr (lev_42_1f' J h (by simpa using hb))
    · exact .inr (lev_42_3' J h)
  · rcases G.mode with h | h | h
    · exact .inr (lev_43_0' J h)
    · by_cases hb : s.tw = true
      · exact .inr (lev_43_1t' J h hb)
      · exact .inr (lev_43_1f' J h (by simpa using hb))
    · exact .inr (lev_43_3' J h)
  · exact .inr (stp_44 J)
  · exact .inr (stp_45 J)
  · exact .inr (stp_46 J)
  · exact .inr (stp_47 J)
  · exact .inr (stp_48 J)
  · exact .inr (stp_49 J)
end Go.Proofs.YteiideeechnekaaGreatDoor
