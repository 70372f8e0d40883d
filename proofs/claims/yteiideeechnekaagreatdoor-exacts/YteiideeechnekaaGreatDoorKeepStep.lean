import Derived.Test.YteiideeechnekaaGreatDoorTrapPure
import Derived.Test.YteiideeechnekaaGreatDoorRefStep
import Derived.Test.YteiideeechnekaaGreatDoorRefSet
import Derived.Test.YteiideeechnekaaGreatDoorCodeStep
import Derived.Test.YteiideeechnekaaGreatDoorCodeDoL
import Derived.Test.YteiideeechnekaaGreatDoorCodeDoV
import Derived.Test.YteiideeechnekaaGreatDoorCodeAcc
import Derived.Test.YteiideeechnekaaGreatDoorCodeFar
import Derived.Test.YteiideeechnekaaGreatDoorDevPure
import Derived.Test.YteiideeechnekaaGreatDoorIntPure
/-
  One instruction of the code's.
-/
namespace Go.Proofs.YteiideeechnekaaGreatDoor
open Go.RowKit

structure InsOk (op rd r1 r2 imm : Int) : Prop where
  o0 : 0 ≤ op
  o1 : op ≤ 49
  d0 : 0 ≤ rd
  d1 : rd < 32
  s0 : 0 ≤ r1
  s1 : r1 < 32
  t0 : 0 ≤ r2
  t1 : r2 < 32
  i0 : 0 ≤ imm
  i1 : imm < 4294967296
  cs : 44 ≤ op → imm < 4096
  fe : op = 38 → rd = 0
def Ok (d : D.Ins) : Prop := InsOk d.op d.rd d.r1 d.r2 d.imm
theorem tabs_ok : ∀ f : Fin 8, (D.tJ f = 0 ∨ D.tJ f = 4) ∧ (D.tB f = 0 ∨ 5 ≤ D.tB f ∧ D.tB f ≤ 10) ∧ (D.tL f = 0 ∨ 11 ≤ D.tL f ∧ D.tL f ≤ 15) ∧ (D.tS f = 0 ∨ 16 ≤ D.tS f ∧ D.tS f ≤ 18) ∧ (D.tF f = 0 ∨ D.tF f = 38) ∧ (D.tI f = 0 ∨ 19 ≤ D.tI f ∧ D.tI f ≤ 24) ∧ (D.tH0 f = 0 ∨ 25 ≤ D.tH0 f ∧ D.tH0 f ≤ 26) ∧ (D.tH2 f = 0 ∨ D.tH2 f = 27) ∧ (28 ≤ D.tR0 f ∧ D.tR0 f ≤ 37) ∧ (D.tR2 f = 0 ∨ 28 ≤ D.tR2 f ∧ D.tR2 f ≤ 37) ∧ (D.tC f = 0 ∨ 44 ≤ D.tC f ∧ D.tC f ≤ 49) := by decide
theorem dec_ok (w : Int) (h0 : 0 ≤ w) (h1 : w < 4294967296) : InsOk (D.dec w).op (D.dec w).rd (D.dec w).r1 (D.dec w).r2 (D.dec w).imm := by
  have hf := tabs_ok ⟨D.f3 w, D.f3_lt w⟩
  simp only at hf
  obtain ⟨a1, a2, a3, a4, a5, a6, a7, a8, a9, a10, a11⟩ := hf
  have z : Ok D.Ins.zero := ⟨by decide, by decide, by decide, by decide, by decide, by decide, by decide, by decide, by decide, by decide, fun h => by revert h; decide, fun _ => rfl⟩
  show Ok (D.dec w)
  unfold D.dec
  by_cases hz : (D.apartI w).op = 0
  · rw [if_pos hz]; exact z
  rw [if_neg hz]
  clear hz
  unfold D.apartI
  by_cases c55 : w % 128 = 55
  · rw [if_pos c55]; exact ⟨by simp, by simp, by simp; omega, by simp; omega, by simp, by simp, by simp, by simp, by simp; omega, by simp; omega, by simp, by simp⟩
  rw [if_neg c55]
  by_cases c23 : w % 128 = 23
  · rw [if_pos c23]; exact ⟨by simp, by simp, by simp; omega, by simp; omega, by simp, by simp, by simp, by simp, by simp; omega, by simp; omega, by simp, by simp⟩
  rw [if_neg c23]
  by_cases c111 : w % 128 = 111
  · rw [if_pos c111]; exact ⟨by simp, by simp, by simp; omega, by simp; omega, by simp, by simp, by simp, by simp, by simp [D.immJ]; omega, by simp [D.immJ]; omega, by simp, by simp⟩
  rw [if_neg c111]
  by_cases c103 : w % 128 = 103
  · rw [if_pos c103]; exact ⟨by simp; omega, by simp; omega, by simp; omega, by simp; omega, by simp; omega, by simp; omega, by simp, by simp, by simp [D.immI]; omega, by simp [D.immI]; omega, by simp; omega, by simp; omega⟩
  rw [if_neg c103]
  by_cases c99 : w % 128 = 99
  · rw [if_pos c99]; exact ⟨by simp; omega, by simp; omega, by simp, by simp, by simp; omega, by simp; omega, by simp; omega, by simp; omega, by simp [D.immB]; omega, by simp [D.immB]; omega, by simp; omega, by simp⟩
  rw [if_neg c99]
  by_cases c3 : w % 128 = 3
  · rw [if_pos c3]; exact ⟨by simp; omega, by simp; omega, by simp; omega, by simp; omega, by simp; omega, by simp; omega, by simp, by simp, by simp [D.immI]; omega, by simp [D.immI]; omega, by simp; omega, by simp; omega⟩
  rw [if_neg c3]
  by_cases c35 : w % 128 = 35
  · rw [if_pos c35]; exact ⟨by simp; omega, by simp; omega, by simp, by simp, by simp; omega, by simp; omega, by simp; omega, by simp; omega, by simp [D.immS]; omega, by simp [D.immS]; omega, by simp; omega, by simp⟩
  rw [if_neg c35]
  by_cases c19 : w % 128 = 19
  · rw [if_pos c19]
    by_cases ci : D.tI (D.f3 w) = 0
    · rw [if_pos ci]; unfold D.pick7; exact ⟨by first | (simp; done) | (simp; split <;> (try split) <;> omega), by first | (simp; done) | (simp; split <;> (try split) <;> omega), by first | (simp; done) | (simp; omega), by first | (simp; done) | (simp; omega), by first | (simp; done) | (simp; omega), by first | (simp; done) | (simp; omega), by simp, by simp, by first | (simp; done) | (simp; omega), by first | (simp; done) | (simp; omega), by first | (simp; done) | (simp; split <;> (try split) <;> omega), by first | (simp; done) | (simp; split <;> (try split) <;> omega)⟩
    · rw [if_neg ci]; exact ⟨by simp; omega, by simp; omega, by simp; omega, by simp; omega, by simp; omega, by simp; omega, by simp, by simp, by simp [D.immI]; omega, by simp [D.immI]; omega, by simp; omega, by simp; omega⟩
  rw [if_neg c19]
  by_cases c51 : w % 128 = 51
  · rw [if_pos c51]; unfold D.pick7; exact ⟨by first | (simp; done) | (simp; split <;> (try split) <;> omega), by first | (simp; done) | (simp; split <;> (try split) <;> omega), by first | (simp; done) | (simp; omega), by first | (simp; done) | (simp; omega), by first | (simp; done) | (simp; omega), by first | (simp; done) | (simp; omega), by first | (simp; done) | (simp; omega), by first | (simp; done) | (simp; omega), by simp, by simp, by first | (simp; done) | (simp; split <;> (try split) <;> omega), by first | (simp; done) | (simp; split <;> (try split) <;> omega)⟩
  rw [if_neg c51]
  by_cases c15 : w % 128 = 15
  · rw [if_pos c15]; exact ⟨by first | (simp; done) | (simp; omega), by first | (simp; done) | (simp; omega), by simp, by simp, by simp, by simp, by simp, by simp, by simp, by simp, by simp, by simp⟩
  rw [if_neg c15]
  by_cases c115 : w % 128 = 115
  · rw [if_pos c115]
    by_cases e115 : w = 115
    · rw [if_pos e115]; exact ⟨by simp, by simp, by simp, by simp, by simp, by simp, by simp, by simp, by simp, by simp, by simp, by simp⟩
    rw [if_neg e115]
    by_cases e1048691 : w = 1048691
    · rw [if_pos e1048691]; exact ⟨by simp, by simp, by simp, by simp, by simp, by simp, by simp, by simp, by simp, by simp, by simp, by simp⟩
    rw [if_neg e1048691]
    by_cases e270532723 : w = 270532723
    · rw [if_pos e270532723]; exact ⟨by simp, by simp, by simp, by simp, by simp, by simp, by simp, by simp, by simp, by simp, by simp, by simp⟩
    rw [if_neg e270532723]
    by_cases e273678451 : w = 273678451
    · rw [if_pos e273678451]; exact ⟨by simp, by simp, by simp, by simp, by simp, by simp, by simp, by simp, by simp, by simp, by simp, by simp⟩
    rw [if_neg e273678451]
    by_cases e807403635 : w = 807403635
    · rw [if_pos e807403635]; exact ⟨by simp, by simp, by simp, by simp, by simp, by simp, by simp, by simp, by simp, by simp, by simp, by simp⟩
    rw [if_neg e807403635]
    exact ⟨by simp; omega, by simp; omega, by simp; omega, by simp; omega, by simp; omega, by simp; omega, by simp, by simp, by simp; omega, by simp; omega, by simp; omega, by simp; omega⟩
  rw [if_neg c115]
  exact z

theorem an_bd (x : Int) (h0 : 0 ≤ x) (h1 : x < 4294967296) : 0 ≤ bits .andNot .u32 x 1 ∧ bits .andNot .u32 x 1 < 4294967296 := by
  rw [u32_andNot x 1 h0 h1 (by decide) (by decide)]
  have : x.toNat &&& (4294967295 - (1 : Int).toNat) ≤ x.toNat := Nat.and_le_left
  omega

/-- The registers, and what lets interrupts in, stay. -/
def Core (s s' : RSt) : Prop := s'.x = s.x ∧ s'.pc = s.pc ∧ s'.mode = s.mode ∧ s'.asleep = s.asleep ∧ s'.sie = s.sie ∧ s'.mieb = s.mieb ∧ s'.mideleg = s.mideleg
theorem Cor.core {s s' : RSt} (e : Cor s s') : Core s s' := by
  unfold Core
  rw [e]
  exact ⟨rfl, rfl, rfl, rfl, rfl, rfl, rfl⟩
theorem Core.refl (s : RSt) : Core s s := ⟨rfl, rfl, rfl, rfl, rfl, rfl, rfl⟩
theorem line_core (s : RSt) (k : Nat) (hi : Bool) : Core s (lineR s k hi) := (cor_line s k hi).core
theorem tick_core (s : RSt) : Core s (tickR s) := ⟨rfl, rfl, rfl, rfl, rfl, rfl, rfl⟩
theorem read_core (s : RSt) (a : Nat) (w : Int) : Core s (readR s a w).1 := by
  unfold readR
  split
  · split <;> exact ⟨rfl, rfl, rfl, rfl, rfl, rfl, rfl⟩
  · split
    · split <;> exact ⟨rfl, rfl, rfl, rfl, rfl, rfl, rfl⟩
    · split
      · split
        · exact Core.refl s
        · exact (cor_dev (dvR s) a).core
      · exact Core.refl s
theorem write_core (s : RSt) (a : Nat) (w v : Int) : Core s (writeR s a w v).1 := by
  unfold writeR
  split
  · split <;> exact ⟨rfl, rfl, rfl, rfl, rfl, rfl, rfl⟩
  · split
    · split <;> exact ⟨rfl, rfl, rfl, rfl, rfl, rfl, rfl⟩
    · split
      · split
        · exact ⟨rfl, rfl, rfl, rfl, rfl, rfl, rfl⟩
        · exact (cor_set (dvR s) a v).core
      · exact Core.refl s
theorem asl_fail (s : RSt) (c : Nat) (t : Int) : (failR s c t).asleep = s.asleep := by
  unfold failR trapR
  split <;> rfl
theorem asl_jump (s : RSt) (rd : Nat) (t : Int) : (jumpR s rd t).asleep = s.asleep := by
  unfold jumpR
  split
  · rfl
  · exact asl_fail _ _ _
theorem asl_ld (s : RSt) (rd a : Nat) : (ldOut s rd a).asleep = s.asleep := by
  unfold ldOut
  split
  · exact (cor_dev (dvR s) a).core.2.2.2.1
  · exact (asl_fail _ _ _).trans (cor_dev (dvR s) a).core.2.2.2.1
theorem asl_st (s : RSt) (a : Nat) (v : Int) : (stOut s a v).asleep = s.asleep := by
  unfold stOut
  split
  · exact (cor_set (dvR s) a v).core.2.2.2.1
  · exact (asl_fail _ _ _).trans (cor_set (dvR s) a v).core.2.2.2.1
theorem asl_stR (s : RSt) (n : Nat) (v : Int) : (stR s n v).asleep = s.asleep := by
  unfold stR
  by_cases c256 : n = 256
  · rw [if_pos c256]
  rw [if_neg c256]
  by_cases c260 : n = 260
  · rw [if_pos c260]
  rw [if_neg c260]
  by_cases c261 : n = 261
  · rw [if_pos c261]
  rw [if_neg c261]
  by_cases c320 : n = 320
  · rw [if_pos c320]
  rw [if_neg c320]
  by_cases c321 : n = 321
  · rw [if_pos c321]
  rw [if_neg c321]
  by_cases c322 : n = 322
  · rw [if_pos c322]
  rw [if_neg c322]
  by_cases c323 : n = 323
  · rw [if_pos c323]
  rw [if_neg c323]
  by_cases c324 : n = 324
  · rw [if_pos c324]
  rw [if_neg c324]
  by_cases c768 : n = 768
  · rw [if_pos c768]; split <;> rfl
  rw [if_neg c768]
  by_cases c770 : n = 770
  · rw [if_pos c770]
  rw [if_neg c770]
  by_cases c771 : n = 771
  · rw [if_pos c771]
  rw [if_neg c771]
  by_cases c772 : n = 772
  · rw [if_pos c772]
  rw [if_neg c772]
  by_cases c773 : n = 773
  · rw [if_pos c773]
  rw [if_neg c773]
  by_cases c832 : n = 832
  · rw [if_pos c832]
  rw [if_neg c832]
  by_cases c833 : n = 833
  · rw [if_pos c833]
  rw [if_neg c833]
  by_cases c834 : n = 834
  · rw [if_pos c834]
  rw [if_neg c834]
  by_cases c835 : n = 835
  · rw [if_pos c835]
  rw [if_neg c835]
  by_cases c836 : n = 836
  · rw [if_pos c836]
  rw [if_neg c836]
  by_cases c3860 : n = 3860
  · rw [if_pos c3860]
  rw [if_neg c3860]
theorem asl_ctl (s : RSt) (op : Int) (rd r1 n : Nat) (w a old : Int) : (ctlR s op rd r1 n w a old (stR (sysR s) n)).asleep = s.asleep := by
  unfold ctlR
  split
  · split
    · exact asl_stR (sysR s) n _
    · rfl
  · exact asl_fail (sysR s) 2 w
theorem asl_wfi {s : RSt} (h : Gd s) : (wfiR (sys1 s)).pc ≠ s.pc := by
  have := h.pc
  unfold W32 at this
  show (s.pc + 4) % 4294967296 ≠ s.pc
  omega
theorem alu_bd (op a b : Int) (a0 : 0 ≤ a) (a1 : a < 4294967296) (b0 : 0 ≤ b) (b1 : b < 4294967296) : 0 ≤ aluV op a b ∧ aluV op a b < 4294967296 := by
  have xo : 0 ≤ bits .xor .u32 a b ∧ bits .xor .u32 a b < 4294967296 := by
    rw [u32_xor a b a0 a1 b0 b1]
    have := Nat.xor_lt_two_pow (n := 32) (x := a.toNat) (y := b.toNat) (by omega) (by omega)
    omega
  have an : 0 ≤ bits .and .u32 a b ∧ bits .and .u32 a b < 4294967296 := by
    rw [u32_and a b a0 a1 b0 b1]
    have : a.toNat &&& b.toNat ≤ a.toNat := Nat.and_le_left
    omega
  have oo := or_bd a b a0 a1 b0 b1
  unfold aluV
  split; · omega
  split; · omega
  split; · unfold oneV; split <;> decide
  split; · unfold oneV; split <;> decide
  split; · exact xo
  split; · exact oo
  split; · exact an
  split; · exact ⟨Int.emod_nonneg _ (by decide), Int.emod_lt_of_pos _ (by decide)⟩
  split
  · exact ⟨Int.ediv_nonneg a0 (Int.pow_nonneg (by decide)), Int.lt_of_le_of_lt (Int.ediv_le_self _ a0) a1⟩
  split; · exact ⟨Int.emod_nonneg _ (by decide), Int.emod_lt_of_pos _ (by decide)⟩
  decide
theorem Gd.cok {s : RSt} (h : Gd s) : Cok (cOf s) := ⟨h.z, h.x, h.pc.1, h.pc.2, by have := h.mode; show 0 ≤ s.mode; omega, by have := h.mode; show s.mode ≤ 3; omega⟩
theorem Gd.jump {s : RSt} (h : Gd s) (rd : Nat) (tg : Int) (ht : W32 tg) : Gd (jumpR s rd tg) := by
  unfold jumpR
  split
  · rename_i h4
    exact (h.put rd _ ⟨by omega, by omega⟩).setPc _ ht h4
  · exact h.fail 0 (by decide) tg ht
theorem cOf_jump {s : RSt} (h : Gd s) (rd : Nat) (tg : Int) : cOf (jumpR s rd tg) = jumpC (cOf s) rd tg := by
  unfold jumpR jumpC
  by_cases h4 : tg % 4 = 0
  · rw [if_pos h4, if_pos h4]
    rfl
  · rw [if_neg h4, if_neg h4]
    exact cOf_fail h 0 tg
theorem cOf_go {s : RSt} (h : Gd s) (tg : Int) : cOf (jumpR s 0 tg) = goC (cOf s) tg := by
  unfold jumpR goC
  by_cases h4 : tg % 4 = 0
  · rw [if_pos h4, if_pos h4]
    rfl
  · rw [if_neg h4, if_neg h4]
    exact cOf_fail h 0 tg
theorem cOf_np (s : RSt) (rd : Nat) (v : Int) : cOf (next1 (putR s rd v)) = resC (cOf s) rd v := rfl

def GoodDo (s : RSt) (_m : Nat) : Prop := ∃ s', Gd s' ∧ (s'.asleep = s.asleep ∨ s'.pc ≠ s.pc) ∧ CNext (cOf s) (cOf s')

theorem good_of {s : RSt} {m : Nat} (hm : s.pc = m) (ho : m + 4 ≤ s.ram.length) (s' : RSt) (G' : Gd s') (op rd r1 r2 imm : Int) (hd : D.dec (leV s.ram m 4) = ⟨op, rd, r1, r2, imm⟩) (h0 : op ≠ 0)
    (CO : ∀ (W : World) (x r : Nat), CodeAt W x r (cOf s) → x ≠ r → T19 W → Calls Tryz.prog 81 #[.pointer (some ⟨x, 0, none⟩), .agg #[.int .i64 op, .int .i64 rd, .int .i64 r1, .int .i64 r2, .int .u32 imm], .int .u32 (leV s.ram m 4)] W fun e W' => e = .returned (.tuple #[]) ∧ CodeAt W' x r (cOf s') ∧ Offs [x, r] W W')
    (ha : s'.asleep = s.asleep ∨ s'.pc ≠ s.pc := by first | exact .inl rfl | exact .inl (asl_fail _ _ _) | exact .inl (asl_jump _ _ _) | exact .inl (asl_ld _ _ _) | exact .inl (asl_st _ _ _) | exact .inl (asl_ctl _ _ _ _ _ _ _ _) | exact .inr (asl_wfi ‹_›)) : GoodDo s m :=
  ⟨s', G', ha, fun W x r h A T T9 => next_do W x r _ h T m hm ho op rd r1 r2 imm hd (by simpa using h0) _ fun W' h' hb => CO W' x r h' A (T9.below hb)⟩

structure Jns (s : RSt) (m : Nat) (op : Int) (nd n1 n2 : Nat) (imm : Int) : Prop where
  G : Gd s
  hm : s.pc = m
  ho : m + 4 ≤ s.ram.length
  K : InsOk op nd n1 n2 imm
  hd : D.dec (leV s.ram m 4) = ⟨op, nd, n1, n2, imm⟩
theorem Jns.all {s : RSt} {m : Nat} {op : Int} {nd n1 n2 : Nat} {imm : Int} (J : Jns s m op nd n1 n2 imm) : Gd s ∧ s.pc = m ∧ m + 4 ≤ s.ram.length ∧ InsOk op nd n1 n2 imm ∧ D.dec (leV s.ram m 4) = ⟨op, nd, n1, n2, imm⟩ ∧ W32 (leV s.ram m 4) ∧ W32 (s.x[n1]?.getD 0) ∧ W32 (s.x[n2]?.getD 0) ∧ 0 ≤ imm ∧ imm < 4294967296 ∧ Iok nd n1 n2 imm := by
  obtain ⟨G, hm, ho, K, hd⟩ := J
  exact ⟨G, hm, ho, K, hd, (leV_bd G.b m).2.2, G.x n1, G.x n2, K.i0, K.i1, by have := K.d1; omega, by have := K.s1; omega, by have := K.t1; omega, K.i0, K.i1⟩
theorem stp_alu {s : RSt} {m : Nat} {op : Int} {nd n1 n2 : Nat} {imm : Int} (J : Jns s m op nd n1 n2 imm) (h19 : 19 ≤ op) (v : Int) (hv : W32 v)
    (CO : ∀ (W : World) (x r : Nat), Din W x r (cOf s) nd n1 n2 imm → CDo W x r op nd n1 n2 imm (leV s.ram m 4) (resC (cOf s) nd v)) : GoodDo s m := by
  obtain ⟨G, hm, ho, K, hd, lv, xa, xb, i0, i1, hI⟩ := J.all
  exact good_of hm ho (next1 (putR s nd v)) ((G.put nd _ hv).next) op nd n1 n2 imm hd (by omega) (fun W x r h A _ => CO W x r ⟨h, A, G.cok, hI⟩)
theorem dev_w {s : RSt} (h : Dvs s) (a : Nat) : W32 (devR s a).2.1 := by
  have z : W32 0 := W32.lit (n := 0) (by decide)
  have b : ∀ c, W32 ((bestR s c 7 : Nat) : Int) := fun c => W32.lit (Nat.lt_of_le_of_lt (bestR_le s c 7) (by decide))
  unfold devR
  by_cases c0 : a = 4096
  · rw [if_pos c0]; exact (by rcases h.msip with e | e <;> rw [e] <;> exact W32.lit (by decide))
  rw [if_neg c0]
  by_cases c1 : a = 4100
  · rw [if_pos c1]; exact h.mtc
  rw [if_neg c1]
  by_cases c2 : a = 4104
  · rw [if_pos c2]; exact h.mtm
  rw [if_neg c2]
  by_cases c3 : a = 8224
  · rw [if_pos c3]; exact mk_w (fun i => (srcAt s i).waits)
  rw [if_neg c3]
  by_cases c4 : 8192 ≤ a ∧ a < 8224 ∧ a % 4 = 0
  · rw [if_pos c4]; exact h.pr _
  rw [if_neg c4]
  by_cases c5 : a = 8228
  · rw [if_pos c5]; exact h.en0
  rw [if_neg c5]
  by_cases c6 : a = 8240
  · rw [if_pos c6]; exact h.li0
  rw [if_neg c6]
  by_cases c7 : a = 8244
  · rw [if_pos c7]; exact b 0
  rw [if_neg c7]
  by_cases c8 : a = 8232
  · rw [if_pos c8]; exact h.en1
  rw [if_neg c8]
  by_cases c9 : a = 8248
  · rw [if_pos c9]; exact h.li1
  rw [if_neg c9]
  by_cases c10 : a = 8252
  · rw [if_pos c10]; exact b 1
  rw [if_neg c10]
  exact z
theorem Gd.ldOut {s : RSt} (h : Gd s) (rd a : Nat) (ha : a < 4294967296) : Gd (ldOut s rd a) := by
  unfold Go.Proofs.YteiideeechnekaaGreatDoor.ldOut
  split
  · exact ((h.dvr.dev a).put rd _ (dev_w h.dvr.dv a)).next
  · exact (h.dvr.dev a).fail 5 (by decide) a (W32.lit ha)
theorem Gd.cOf_ld {s : RSt} (h : Gd s) (rd a : Nat) : cOf (Go.Proofs.YteiideeechnekaaGreatDoor.ldOut s rd a) = ldC (cOf s) rd a := by
  have D : devC (cOf s) a = (cOf (devR (dvR s) a).1, (devR (dvR s) a).2) := dev_of h.dvr.dv a
  unfold Go.Proofs.YteiideeechnekaaGreatDoor.ldOut ldC
  rw [D]
  by_cases e : (devR (dvR s) a).2.2 = true
  · rw [if_pos e, if_pos e]; rfl
  · rw [if_neg e, if_neg e]; exact cOf_fail (h.dvr.dev a) 5 a
theorem Gd.stOut {s : RSt} (h : Gd s) (a : Nat) (ha : a < 4294967296) (v : Int) (hv : W32 v) : Gd (stOut s a v) := by
  unfold Go.Proofs.YteiideeechnekaaGreatDoor.stOut
  split
  · exact (h.dvr.set a v hv).next
  · exact (h.dvr.set a v hv).fail 7 (by decide) a (W32.lit ha)
theorem Gd.cOf_st {s : RSt} (h : Gd s) (a : Nat) (v : Int) (hv : W32 v) : cOf (Go.Proofs.YteiideeechnekaaGreatDoor.stOut s a v) = stC (cOf s) a v := by
  have D : setD (cOf s) a v = (cOf (setR (dvR s) a v).1, (setR (dvR s) a v).2) := set_of h.dvr.dv a v
  unfold Go.Proofs.YteiideeechnekaaGreatDoor.stOut stC
  rw [D]
  by_cases e : (setR (dvR s) a v).2 = true
  · rw [if_pos e, if_pos e]; rfl
  · rw [if_neg e, if_neg e]; exact cOf_fail (h.dvr.set a v hv) 7 a
theorem stp_1 {s : RSt} {m nd n1 n2 : Nat} {imm : Int} (J : Jns s m 1 nd n1 n2 imm) : GoodDo s m := by
  obtain ⟨G, hm, ho, K, hd, lv, xa, xb, i0, i1, hI⟩ := J.all
  exact good_of hm ho (next1 (putR s nd imm)) ((G.put nd _ ⟨i0, i1⟩).next) 1 nd n1 n2 imm hd (by decide) (fun W x r h A _ => cdo_1 ⟨h, A, G.cok, hI⟩ _)
theorem stp_2 {s : RSt} {m nd n1 n2 : Nat} {imm : Int} (J : Jns s m 2 nd n1 n2 imm) : GoodDo s m := by
  obtain ⟨G, hm, ho, K, hd, lv, xa, xb, i0, i1, hI⟩ := J.all
  exact good_of hm ho (next1 (putR s nd ((s.pc + imm) % 4294967296))) ((G.put nd _ ⟨by omega, by omega⟩).next) 2 nd n1 n2 imm hd (by decide) (fun W x r h A _ => cdo_2 ⟨h, A, G.cok, hI⟩ _)
theorem stp_19 {s : RSt} {m nd n1 n2 : Nat} {imm : Int} (J : Jns s m 19 nd n1 n2 imm) : GoodDo s m := stp_alu J (by decide) (aluV 19 (s.x[n1]?.getD 0) imm) (alu_bd 19 _ _ (J.G.x n1).1 (J.G.x n1).2 J.K.i0 J.K.i1) fun _ _ _ D => cdo_19 D _
theorem stp_20 {s : RSt} {m nd n1 n2 : Nat} {imm : Int} (J : Jns s m 20 nd n1 n2 imm) : GoodDo s m := stp_alu J (by decide) (aluV 20 (s.x[n1]?.getD 0) imm) (alu_bd 20 _ _ (J.G.x n1).1 (J.G.x n1).2 J.K.i0 J.K.i1) fun _ _ _ D => cdo_20 D _
theorem stp_21 {s : RSt} {m nd n1 n2 : Nat} {imm : Int} (J : Jns s m 21 nd n1 n2 imm) : GoodDo s m := stp_alu J (by decide) (aluV 21 (s.x[n1]?.getD 0) imm) (alu_bd 21 _ _ (J.G.x n1).1 (J.G.x n1).2 J.K.i0 J.K.i1) fun _ _ _ D => cdo_21 D _
theorem stp_22 {s : RSt} {m nd n1 n2 : Nat} {imm : Int} (J : Jns s m 22 nd n1 n2 imm) : GoodDo s m := stp_alu J (by decide) (aluV 22 (s.x[n1]?.getD 0) imm) (alu_bd 22 _ _ (J.G.x n1).1 (J.G.x n1).2 J.K.i0 J.K.i1) fun _ _ _ D => cdo_22 D _
theorem stp_23 {s : RSt} {m nd n1 n2 : Nat} {imm : Int} (J : Jns s m 23 nd n1 n2 imm) : GoodDo s m := stp_alu J (by decide) (aluV 23 (s.x[n1]?.getD 0) imm) (alu_bd 23 _ _ (J.G.x n1).1 (J.G.x n1).2 J.K.i0 J.K.i1) fun _ _ _ D => cdo_23 D _
theorem stp_24 {s : RSt} {m nd n1 n2 : Nat} {imm : Int} (J : Jns s m 24 nd n1 n2 imm) : GoodDo s m := stp_alu J (by decide) (aluV 24 (s.x[n1]?.getD 0) imm) (alu_bd 24 _ _ (J.G.x n1).1 (J.G.x n1).2 J.K.i0 J.K.i1) fun _ _ _ D => cdo_24 D _
theorem stp_25 {s : RSt} {m nd n1 n2 : Nat} {imm : Int} (J : Jns s m 25 nd n1 n2 imm) : GoodDo s m := stp_alu J (by decide) (aluV 25 (s.x[n1]?.getD 0) imm) (alu_bd 25 _ _ (J.G.x n1).1 (J.G.x n1).2 J.K.i0 J.K.i1) fun _ _ _ D => cdo_25 D _
theorem stp_26 {s : RSt} {m nd n1 n2 : Nat} {imm : Int} (J : Jns s m 26 nd n1 n2 imm) : GoodDo s m := stp_alu J (by decide) (aluV 26 (s.x[n1]?.getD 0) imm) (alu_bd 26 _ _ (J.G.x n1).1 (J.G.x n1).2 J.K.i0 J.K.i1) fun _ _ _ D => cdo_26 D _
theorem stp_27 {s : RSt} {m nd n1 n2 : Nat} {imm : Int} (J : Jns s m 27 nd n1 n2 imm) : GoodDo s m := stp_alu J (by decide) (aluV 27 (s.x[n1]?.getD 0) imm) (alu_bd 27 _ _ (J.G.x n1).1 (J.G.x n1).2 J.K.i0 J.K.i1) fun _ _ _ D => cdo_27 D _
theorem stp_28 {s : RSt} {m nd n1 n2 : Nat} {imm : Int} (J : Jns s m 28 nd n1 n2 imm) : GoodDo s m := stp_alu J (by decide) (aluV 28 (s.x[n1]?.getD 0) (s.x[n2]?.getD 0)) (alu_bd 28 _ _ (J.G.x n1).1 (J.G.x n1).2 (J.G.x n2).1 (J.G.x n2).2) fun _ _ _ D => cdo_28 D _
theorem stp_29 {s : RSt} {m nd n1 n2 : Nat} {imm : Int} (J : Jns s m 29 nd n1 n2 imm) : GoodDo s m := stp_alu J (by decide) (aluV 29 (s.x[n1]?.getD 0) (s.x[n2]?.getD 0)) (alu_bd 29 _ _ (J.G.x n1).1 (J.G.x n1).2 (J.G.x n2).1 (J.G.x n2).2) fun _ _ _ D => cdo_29 D _
theorem stp_30 {s : RSt} {m nd n1 n2 : Nat} {imm : Int} (J : Jns s m 30 nd n1 n2 imm) : GoodDo s m := stp_alu J (by decide) (aluV 30 (s.x[n1]?.getD 0) (s.x[n2]?.getD 0)) (alu_bd 30 _ _ (J.G.x n1).1 (J.G.x n1).2 (J.G.x n2).1 (J.G.x n2).2) fun _ _ _ D => cdo_30 D _
theorem stp_31 {s : RSt} {m nd n1 n2 : Nat} {imm : Int} (J : Jns s m 31 nd n1 n2 imm) : GoodDo s m := stp_alu J (by decide) (aluV 31 (s.x[n1]?.getD 0) (s.x[n2]?.getD 0)) (alu_bd 31 _ _ (J.G.x n1).1 (J.G.x n1).2 (J.G.x n2).1 (J.G.x n2).2) fun _ _ _ D => cdo_31 D _
theorem stp_32 {s : RSt} {m nd n1 n2 : Nat} {imm : Int} (J : Jns s m 32 nd n1 n2 imm) : GoodDo s m := stp_alu J (by decide) (aluV 32 (s.x[n1]?.getD 0) (s.x[n2]?.getD 0)) (alu_bd 32 _ _ (J.G.x n1).1 (J.G.x n1).2 (J.G.x n2).1 (J.G.x n2).2) fun _ _ _ D => cdo_32 D _
theorem stp_33 {s : RSt} {m nd n1 n2 : Nat} {imm : Int} (J : Jns s m 33 nd n1 n2 imm) : GoodDo s m := stp_alu J (by decide) (aluV 33 (s.x[n1]?.getD 0) (s.x[n2]?.getD 0)) (alu_bd 33 _ _ (J.G.x n1).1 (J.G.x n1).2 (J.G.x n2).1 (J.G.x n2).2) fun _ _ _ D => cdo_33 D _
theorem stp_34 {s : RSt} {m nd n1 n2 : Nat} {imm : Int} (J : Jns s m 34 nd n1 n2 imm) : GoodDo s m := stp_alu J (by decide) (aluV 34 (s.x[n1]?.getD 0) (s.x[n2]?.getD 0)) (alu_bd 34 _ _ (J.G.x n1).1 (J.G.x n1).2 (J.G.x n2).1 (J.G.x n2).2) fun _ _ _ D => cdo_34 D _
theorem stp_35 {s : RSt} {m nd n1 n2 : Nat} {imm : Int} (J : Jns s m 35 nd n1 n2 imm) : GoodDo s m := stp_alu J (by decide) (aluV 35 (s.x[n1]?.getD 0) (s.x[n2]?.getD 0)) (alu_bd 35 _ _ (J.G.x n1).1 (J.G.x n1).2 (J.G.x n2).1 (J.G.x n2).2) fun _ _ _ D => cdo_35 D _
theorem stp_36 {s : RSt} {m nd n1 n2 : Nat} {imm : Int} (J : Jns s m 36 nd n1 n2 imm) : GoodDo s m := stp_alu J (by decide) (aluV 36 (s.x[n1]?.getD 0) (s.x[n2]?.getD 0)) (alu_bd 36 _ _ (J.G.x n1).1 (J.G.x n1).2 (J.G.x n2).1 (J.G.x n2).2) fun _ _ _ D => cdo_36 D _
theorem stp_37 {s : RSt} {m nd n1 n2 : Nat} {imm : Int} (J : Jns s m 37 nd n1 n2 imm) : GoodDo s m := stp_alu J (by decide) (aluV 37 (s.x[n1]?.getD 0) (s.x[n2]?.getD 0)) (alu_bd 37 _ _ (J.G.x n1).1 (J.G.x n1).2 (J.G.x n2).1 (J.G.x n2).2) fun _ _ _ D => cdo_37 D _
theorem stp_38 {s : RSt} {m nd n1 n2 : Nat} {imm : Int} (J : Jns s m 38 nd n1 n2 imm) : GoodDo s m := by
  obtain ⟨G, hm, ho, K, hd, lv, xa, xb, i0, i1, hI⟩ := J.all
  have z : nd = 0 := by have := K.fe rfl; omega
  exact good_of hm ho (next1 s) G.next 38 nd n1 n2 imm hd (by decide) (fun W x r h A _ => cdo_38 ⟨h, A, G.cok, hI⟩ _)
theorem stp_3 {s : RSt} {m nd n1 n2 : Nat} {imm : Int} (J : Jns s m 3 nd n1 n2 imm) : GoodDo s m := by
  obtain ⟨G, hm, ho, K, hd, lv, xa, xb, i0, i1, hI⟩ := J.all
  exact good_of hm ho (jumpR s nd ((s.pc + imm) % 4294967296)) (G.jump nd _ ⟨by omega, by omega⟩) 3 nd n1 n2 imm hd (by decide) (fun W x r h A _ => by rw [cOf_jump G]; exact cdo_3 ⟨h, A, G.cok, hI⟩ _)
theorem stp_4 {s : RSt} {m nd n1 n2 : Nat} {imm : Int} (J : Jns s m 4 nd n1 n2 imm) : GoodDo s m := by
  obtain ⟨G, hm, ho, K, hd, lv, xa, xb, i0, i1, hI⟩ := J.all
  exact good_of hm ho (jumpR s nd (bits .andNot .u32 ((s.x[n1]?.getD 0 + imm) % 4294967296) 1)) (G.jump nd _ (an_bd _ (by omega) (by omega))) 4 nd n1 n2 imm hd (by decide) (fun W x r h A _ => by rw [cOf_jump G]; exact cdo_4 ⟨h, A, G.cok, hI⟩ _)
theorem stp_5_n {s : RSt} {m nd n1 n2 : Nat} {imm : Int} (J : Jns s m 5 nd n1 n2 imm) (ht : takenB 5 (s.x[n1]?.getD 0) (s.x[n2]?.getD 0) = false) : GoodDo s m := by
  obtain ⟨G, hm, ho, K, hd, lv, xa, xb, i0, i1, hI⟩ := J.all
  exact good_of hm ho (next1 s) G.next 5 nd n1 n2 imm hd (by decide) (fun W x r h A _ => cdo_5_n ⟨h, A, G.cok, hI⟩ _ ht (by have := G.p4; show (s.pc + 4) % 4294967296 % 4 = 0; omega))
theorem stp_5_y {s : RSt} {m nd n1 n2 : Nat} {imm : Int} (J : Jns s m 5 nd n1 n2 imm) (ht : takenB 5 (s.x[n1]?.getD 0) (s.x[n2]?.getD 0) = true) : GoodDo s m := by
  obtain ⟨G, hm, ho, K, hd, lv, xa, xb, i0, i1, hI⟩ := J.all
  exact good_of hm ho (jumpR s 0 ((s.pc + imm) % 4294967296)) (G.jump 0 _ ⟨by omega, by omega⟩) 5 nd n1 n2 imm hd (by decide) (fun W x r h A _ => by rw [cOf_go G]; exact cdo_5_y ⟨h, A, G.cok, hI⟩ _ ht)
theorem stp_6_n {s : RSt} {m nd n1 n2 : Nat} {imm : Int} (J : Jns s m 6 nd n1 n2 imm) (ht : takenB 6 (s.x[n1]?.getD 0) (s.x[n2]?.getD 0) = false) : GoodDo s m := by
  obtain ⟨G, hm, ho, K, hd, lv, xa, xb, i0, i1, hI⟩ := J.all
  exact good_of hm ho (next1 s) G.next 6 nd n1 n2 imm hd (by decide) (fun W x r h A _ => cdo_6_n ⟨h, A, G.cok, hI⟩ _ ht (by have := G.p4; show (s.pc + 4) % 4294967296 % 4 = 0; omega))
theorem stp_6_y {s : RSt} {m nd n1 n2 : Nat} {imm : Int} (J : Jns s m 6 nd n1 n2 imm) (ht : takenB 6 (s.x[n1]?.getD 0) (s.x[n2]?.getD 0) = true) : GoodDo s m := by
  obtain ⟨G, hm, ho, K, hd, lv, xa, xb, i0, i1, hI⟩ := J.all
  exact good_of hm ho (jumpR s 0 ((s.pc + imm) % 4294967296)) (G.jump 0 _ ⟨by omega, by omega⟩) 6 nd n1 n2 imm hd (by decide) (fun W x r h A _ => by rw [cOf_go G]; exact cdo_6_y ⟨h, A, G.cok, hI⟩ _ ht)
theorem stp_7_n {s : RSt} {m nd n1 n2 : Nat} {imm : Int} (J : Jns s m 7 nd n1 n2 imm) (ht : takenB 7 (s.x[n1]?.getD 0) (s.x[n2]?.getD 0) = false) : GoodDo s m := by
  obtain ⟨G, hm, ho, K, hd, lv, xa, xb, i0, i1, hI⟩ := J.all
  exact good_of hm ho (next1 s) G.next 7 nd n1 n2 imm hd (by decide) (fun W x r h A _ => cdo_7_n ⟨h, A, G.cok, hI⟩ _ ht (by have := G.p4; show (s.pc + 4) % 4294967296 % 4 = 0; omega))
theorem stp_7_y {s : RSt} {m nd n1 n2 : Nat} {imm : Int} (J : Jns s m 7 nd n1 n2 imm) (ht : takenB 7 (s.x[n1]?.getD 0) (s.x[n2]?.getD 0) = true) : GoodDo s m := by
  obtain ⟨G, hm, ho, K, hd, lv, xa, xb, i0, i1, hI⟩ := J.all
  exact good_of hm ho (jumpR s 0 ((s.pc + imm) % 4294967296)) (G.jump 0 _ ⟨by omega, by omega⟩) 7 nd n1 n2 imm hd (by decide) (fun W x r h A _ => by rw [cOf_go G]; exact cdo_7_y ⟨h, A, G.cok, hI⟩ _ ht)
theorem stp_8_n {s : RSt} {m nd n1 n2 : Nat} {imm : Int} (J : Jns s m 8 nd n1 n2 imm) (ht : takenB 8 (s.x[n1]?.getD 0) (s.x[n2]?.getD 0) = false) : GoodDo s m := by
  obtain ⟨G, hm, ho, K, hd, lv, xa, xb, i0, i1, hI⟩ := J.all
  exact good_of hm ho (next1 s) G.next 8 nd n1 n2 imm hd (by decide) (fun W x r h A _ => cdo_8_n ⟨h, A, G.cok, hI⟩ _ ht (by have := G.p4; show (s.pc + 4) % 4294967296 % 4 = 0; omega))
theorem stp_8_y {s : RSt} {m nd n1 n2 : Nat} {imm : Int} (J : Jns s m 8 nd n1 n2 imm) (ht : takenB 8 (s.x[n1]?.getD 0) (s.x[n2]?.getD 0) = true) : GoodDo s m := by
  obtain ⟨G, hm, ho, K, hd, lv, xa, xb, i0, i1, hI⟩ := J.all
  exact good_of hm ho (jumpR s 0 ((s.pc + imm) % 4294967296)) (G.jump 0 _ ⟨by omega, by omega⟩) 8 nd n1 n2 imm hd (by decide) (fun W x r h A _ => by rw [cOf_go G]; exact cdo_8_y ⟨h, A, G.cok, hI⟩ _ ht)
theorem stp_9_n {s : RSt} {m nd n1 n2 : Nat} {imm : Int} (J : Jns s m 9 nd n1 n2 imm) (ht : takenB 9 (s.x[n1]?.getD 0) (s.x[n2]?.getD 0) = false) : GoodDo s m := by
  obtain ⟨G, hm, ho, K, hd, lv, xa, xb, i0, i1, hI⟩ := J.all
  exact good_of hm ho (next1 s) G.next 9 nd n1 n2 imm hd (by decide) (fun W x r h A _ => cdo_9_n ⟨h, A, G.cok, hI⟩ _ ht (by have := G.p4; show (s.pc + 4) % 4294967296 % 4 = 0; omega))
theorem stp_9_y {s : RSt} {m nd n1 n2 : Nat} {imm : Int} (J : Jns s m 9 nd n1 n2 imm) (ht : takenB 9 (s.x[n1]?.getD 0) (s.x[n2]?.getD 0) = true) : GoodDo s m := by
  obtain ⟨G, hm, ho, K, hd, lv, xa, xb, i0, i1, hI⟩ := J.all
  exact good_of hm ho (jumpR s 0 ((s.pc + imm) % 4294967296)) (G.jump 0 _ ⟨by omega, by omega⟩) 9 nd n1 n2 imm hd (by decide) (fun W x r h A _ => by rw [cOf_go G]; exact cdo_9_y ⟨h, A, G.cok, hI⟩ _ ht)
theorem stp_10_n {s : RSt} {m nd n1 n2 : Nat} {imm : Int} (J : Jns s m 10 nd n1 n2 imm) (ht : takenB 10 (s.x[n1]?.getD 0) (s.x[n2]?.getD 0) = false) : GoodDo s m := by
  obtain ⟨G, hm, ho, K, hd, lv, xa, xb, i0, i1, hI⟩ := J.all
  exact good_of hm ho (next1 s) G.next 10 nd n1 n2 imm hd (by decide) (fun W x r h A _ => cdo_10_n ⟨h, A, G.cok, hI⟩ _ ht (by have := G.p4; show (s.pc + 4) % 4294967296 % 4 = 0; omega))
theorem stp_10_y {s : RSt} {m nd n1 n2 : Nat} {imm : Int} (J : Jns s m 10 nd n1 n2 imm) (ht : takenB 10 (s.x[n1]?.getD 0) (s.x[n2]?.getD 0) = true) : GoodDo s m := by
  obtain ⟨G, hm, ho, K, hd, lv, xa, xb, i0, i1, hI⟩ := J.all
  exact good_of hm ho (jumpR s 0 ((s.pc + imm) % 4294967296)) (G.jump 0 _ ⟨by omega, by omega⟩) 10 nd n1 n2 imm hd (by decide) (fun W x r h A _ => by rw [cOf_go G]; exact cdo_10_y ⟨h, A, G.cok, hI⟩ _ ht)
theorem stp_11_lo {s : RSt} {m nd n1 n2 : Nat} {imm : Int} (J : Jns s m 11 nd n1 n2 imm) (a : Nat) (ea : ((s.x[n1]?.getD 0) + imm) % 4294967296 = a) (ha : a + 1 ≤ s.ram.length) (hc : leV s.ram a 1 < 128) : GoodDo s m := by
  obtain ⟨G, hm, ho, K, hd, lv, xa, xb, i0, i1, hI⟩ := J.all
  have bd := leV_bd G.b a
  exact good_of hm ho (next1 (putR s nd (leV s.ram a 1))) ((G.put nd _ ⟨by omega, by omega⟩).next) 11 nd n1 n2 imm hd (by decide) (fun W x r h A _ => cdo_11_lo ⟨h, A, G.cok, hI⟩ _ a ea ha hc)
theorem stp_11_hi {s : RSt} {m nd n1 n2 : Nat} {imm : Int} (J : Jns s m 11 nd n1 n2 imm) (a : Nat) (ea : ((s.x[n1]?.getD 0) + imm) % 4294967296 = a) (ha : a + 1 ≤ s.ram.length) (hc : ¬ leV s.ram a 1 < 128) : GoodDo s m := by
  obtain ⟨G, hm, ho, K, hd, lv, xa, xb, i0, i1, hI⟩ := J.all
  have bd := leV_bd G.b a
  exact good_of hm ho (next1 (putR s nd (leV s.ram a 1 + 4294967040))) ((G.put nd _ ⟨by omega, by omega⟩).next) 11 nd n1 n2 imm hd (by decide) (fun W x r h A _ => cdo_11_hi ⟨h, A, G.cok, hI⟩ _ a ea ha hc)
theorem far_11 {s : RSt} {m nd n1 n2 : Nat} {imm : Int} (J : Jns s m 11 nd n1 n2 imm) (a : Nat) (ea : ((s.x[n1]?.getD 0) + imm) % 4294967296 = a) (ha : ¬ a + 1 ≤ s.ram.length) : GoodDo s m := by
  obtain ⟨G, hm, ho, K, hd, lv, xa, xb, i0, i1, hI⟩ := J.all
  exact good_of hm ho (failR (dvR s) 5 a) (G.dvr.fail 5 (by decide) a ⟨by omega, by omega⟩) 11 nd n1 n2 imm hd (by decide) (fun W x r h A _ => by rw [show cOf (failR (dvR s) 5 a) = excC (cOf s) 5 a from cOf_fail G.dvr 5 a]; exact cdo_11_far ⟨h, A, G.cok, hI⟩ _ a ea ha)
theorem stp_12_lo {s : RSt} {m nd n1 n2 : Nat} {imm : Int} (J : Jns s m 12 nd n1 n2 imm) (a : Nat) (ea : ((s.x[n1]?.getD 0) + imm) % 4294967296 = a) (ha : a + 2 ≤ s.ram.length) (hc : leV s.ram a 2 < 32768) : GoodDo s m := by
  obtain ⟨G, hm, ho, K, hd, lv, xa, xb, i0, i1, hI⟩ := J.all
  have bd := leV_bd G.b a
  exact good_of hm ho (next1 (putR s nd (leV s.ram a 2))) ((G.put nd _ ⟨by omega, by omega⟩).next) 12 nd n1 n2 imm hd (by decide) (fun W x r h A _ => cdo_12_lo ⟨h, A, G.cok, hI⟩ _ a ea ha hc)
theorem stp_12_hi {s : RSt} {m nd n1 n2 : Nat} {imm : Int} (J : Jns s m 12 nd n1 n2 imm) (a : Nat) (ea : ((s.x[n1]?.getD 0) + imm) % 4294967296 = a) (ha : a + 2 ≤ s.ram.length) (hc : ¬ leV s.ram a 2 < 32768) : GoodDo s m := by
  obtain ⟨G, hm, ho, K, hd, lv, xa, xb, i0, i1, hI⟩ := J.all
  have bd := leV_bd G.b a
  exact good_of hm ho (next1 (putR s nd (leV s.ram a 2 + 4294901760))) ((G.put nd _ ⟨by omega, by omega⟩).next) 12 nd n1 n2 imm hd (by decide) (fun W x r h A _ => cdo_12_hi ⟨h, A, G.cok, hI⟩ _ a ea ha hc)
theorem far_12 {s : RSt} {m nd n1 n2 : Nat} {imm : Int} (J : Jns s m 12 nd n1 n2 imm) (a : Nat) (ea : ((s.x[n1]?.getD 0) + imm) % 4294967296 = a) (ha : ¬ a + 2 ≤ s.ram.length) : GoodDo s m := by
  obtain ⟨G, hm, ho, K, hd, lv, xa, xb, i0, i1, hI⟩ := J.all
  exact good_of hm ho (failR (dvR s) 5 a) (G.dvr.fail 5 (by decide) a ⟨by omega, by omega⟩) 12 nd n1 n2 imm hd (by decide) (fun W x r h A _ => by rw [show cOf (failR (dvR s) 5 a) = excC (cOf s) 5 a from cOf_fail G.dvr 5 a]; exact cdo_12_far ⟨h, A, G.cok, hI⟩ _ a ea ha)
theorem stp_13 {s : RSt} {m nd n1 n2 : Nat} {imm : Int} (J : Jns s m 13 nd n1 n2 imm) (a : Nat) (ea : ((s.x[n1]?.getD 0) + imm) % 4294967296 = a) (ha : a + 4 ≤ s.ram.length) : GoodDo s m := by
  obtain ⟨G, hm, ho, K, hd, lv, xa, xb, i0, i1, hI⟩ := J.all
  have bd := leV_bd G.b a
  exact good_of hm ho (next1 (putR s nd (leV s.ram a 4))) ((G.put nd _ ⟨by omega, by omega⟩).next) 13 nd n1 n2 imm hd (by decide) (fun W x r h A _ => cdo_13 ⟨h, A, G.cok, hI⟩ _ a ea ha)
theorem far_13 {s : RSt} {m nd n1 n2 : Nat} {imm : Int} (J : Jns s m 13 nd n1 n2 imm) (a : Nat) (ea : ((s.x[n1]?.getD 0) + imm) % 4294967296 = a) (ha : ¬ a + 4 ≤ s.ram.length) : GoodDo s m := by
  obtain ⟨G, hm, ho, K, hd, lv, xa, xb, i0, i1, hI⟩ := J.all
  exact good_of hm ho (ldOut s nd a) (G.ldOut nd a (by omega)) 13 nd n1 n2 imm hd (by decide) (fun W x r h A _ => by rw [G.cOf_ld nd a]; exact cdo_13_far ⟨h, A, G.cok, hI⟩ _ a ea ha)
theorem stp_14 {s : RSt} {m nd n1 n2 : Nat} {imm : Int} (J : Jns s m 14 nd n1 n2 imm) (a : Nat) (ea : ((s.x[n1]?.getD 0) + imm) % 4294967296 = a) (ha : a + 1 ≤ s.ram.length) : GoodDo s m := by
  obtain ⟨G, hm, ho, K, hd, lv, xa, xb, i0, i1, hI⟩ := J.all
  have bd := leV_bd G.b a
  exact good_of hm ho (next1 (putR s nd (leV s.ram a 1))) ((G.put nd _ ⟨by omega, by omega⟩).next) 14 nd n1 n2 imm hd (by decide) (fun W x r h A _ => cdo_14 ⟨h, A, G.cok, hI⟩ _ a ea ha)
theorem far_14 {s : RSt} {m nd n1 n2 : Nat} {imm : Int} (J : Jns s m 14 nd n1 n2 imm) (a : Nat) (ea : ((s.x[n1]?.getD 0) + imm) % 4294967296 = a) (ha : ¬ a + 1 ≤ s.ram.length) : GoodDo s m := by
  obtain ⟨G, hm, ho, K, hd, lv, xa, xb, i0, i1, hI⟩ := J.all
  exact good_of hm ho (failR (dvR s) 5 a) (G.dvr.fail 5 (by decide) a ⟨by omega, by omega⟩) 14 nd n1 n2 imm hd (by decide) (fun W x r h A _ => by rw [show cOf (failR (dvR s) 5 a) = excC (cOf s) 5 a from cOf_fail G.dvr 5 a]; exact cdo_14_far ⟨h, A, G.cok, hI⟩ _ a ea ha)
theorem stp_15 {s : RSt} {m nd n1 n2 : Nat} {imm : Int} (J : Jns s m 15 nd n1 n2 imm) (a : Nat) (ea : ((s.x[n1]?.getD 0) + imm) % 4294967296 = a) (ha : a + 2 ≤ s.ram.length) : GoodDo s m := by
  obtain ⟨G, hm, ho, K, hd, lv, xa, xb, i0, i1, hI⟩ := J.all
  have bd := leV_bd G.b a
  exact good_of hm ho (next1 (putR s nd (leV s.ram a 2))) ((G.put nd _ ⟨by omega, by omega⟩).next) 15 nd n1 n2 imm hd (by decide) (fun W x r h A _ => cdo_15 ⟨h, A, G.cok, hI⟩ _ a ea ha)
theorem far_15 {s : RSt} {m nd n1 n2 : Nat} {imm : Int} (J : Jns s m 15 nd n1 n2 imm) (a : Nat) (ea : ((s.x[n1]?.getD 0) + imm) % 4294967296 = a) (ha : ¬ a + 2 ≤ s.ram.length) : GoodDo s m := by
  obtain ⟨G, hm, ho, K, hd, lv, xa, xb, i0, i1, hI⟩ := J.all
  exact good_of hm ho (failR (dvR s) 5 a) (G.dvr.fail 5 (by decide) a ⟨by omega, by omega⟩) 15 nd n1 n2 imm hd (by decide) (fun W x r h A _ => by rw [show cOf (failR (dvR s) 5 a) = excC (cOf s) 5 a from cOf_fail G.dvr 5 a]; exact cdo_15_far ⟨h, A, G.cok, hI⟩ _ a ea ha)
theorem stp_16 {s : RSt} {m nd n1 n2 : Nat} {imm : Int} (J : Jns s m 16 nd n1 n2 imm) (a : Nat) (ea : ((s.x[n1]?.getD 0) + imm) % 4294967296 = a) (ha : a + 1 ≤ s.ram.length) : GoodDo s m := by
  obtain ⟨G, hm, ho, K, hd, lv, xa, xb, i0, i1, hI⟩ := J.all
  exact good_of hm ho (next1 { s with ram := stV s.ram a (s.x[n2]?.getD 0) 1 }) ((G.ram a 1 _).next) 16 nd n1 n2 imm hd (by decide) (fun W x r h A _ => cdo_16 ⟨h, A, G.cok, hI⟩ _ a ea ha)
theorem far_16 {s : RSt} {m nd n1 n2 : Nat} {imm : Int} (J : Jns s m 16 nd n1 n2 imm) (a : Nat) (ea : ((s.x[n1]?.getD 0) + imm) % 4294967296 = a) (ha : ¬ a + 1 ≤ s.ram.length) : GoodDo s m := by
  obtain ⟨G, hm, ho, K, hd, lv, xa, xb, i0, i1, hI⟩ := J.all
  exact good_of hm ho (failR (dvR s) 7 a) (G.dvr.fail 7 (by decide) a ⟨by omega, by omega⟩) 16 nd n1 n2 imm hd (by decide) (fun W x r h A _ => by rw [show cOf (failR (dvR s) 7 a) = excC (cOf s) 7 a from cOf_fail G.dvr 7 a]; exact cdo_16_far ⟨h, A, G.cok, hI⟩ _ a ea ha)
theorem stp_17 {s : RSt} {m nd n1 n2 : Nat} {imm : Int} (J : Jns s m 17 nd n1 n2 imm) (a : Nat) (ea : ((s.x[n1]?.getD 0) + imm) % 4294967296 = a) (ha : a + 2 ≤ s.ram.length) : GoodDo s m := by
  obtain ⟨G, hm, ho, K, hd, lv, xa, xb, i0, i1, hI⟩ := J.all
  exact good_of hm ho (next1 { s with ram := stV s.ram a (s.x[n2]?.getD 0) 2 }) ((G.ram a 2 _).next) 17 nd n1 n2 imm hd (by decide) (fun W x r h A _ => cdo_17 ⟨h, A, G.cok, hI⟩ _ a ea ha)
theorem far_17 {s : RSt} {m nd n1 n2 : Nat} {imm : Int} (J : Jns s m 17 nd n1 n2 imm) (a : Nat) (ea : ((s.x[n1]?.getD 0) + imm) % 4294967296 = a) (ha : ¬ a + 2 ≤ s.ram.length) : GoodDo s m := by
  obtain ⟨G, hm, ho, K, hd, lv, xa, xb, i0, i1, hI⟩ := J.all
  exact good_of hm ho (failR (dvR s) 7 a) (G.dvr.fail 7 (by decide) a ⟨by omega, by omega⟩) 17 nd n1 n2 imm hd (by decide) (fun W x r h A _ => by rw [show cOf (failR (dvR s) 7 a) = excC (cOf s) 7 a from cOf_fail G.dvr 7 a]; exact cdo_17_far ⟨h, A, G.cok, hI⟩ _ a ea ha)
theorem stp_18 {s : RSt} {m nd n1 n2 : Nat} {imm : Int} (J : Jns s m 18 nd n1 n2 imm) (a : Nat) (ea : ((s.x[n1]?.getD 0) + imm) % 4294967296 = a) (ha : a + 4 ≤ s.ram.length) : GoodDo s m := by
  obtain ⟨G, hm, ho, K, hd, lv, xa, xb, i0, i1, hI⟩ := J.all
  exact good_of hm ho (next1 { s with ram := stV s.ram a (s.x[n2]?.getD 0) 4 }) ((G.ram a 4 _).next) 18 nd n1 n2 imm hd (by decide) (fun W x r h A _ => cdo_18 ⟨h, A, G.cok, hI⟩ _ a ea ha)
theorem far_18 {s : RSt} {m nd n1 n2 : Nat} {imm : Int} (J : Jns s m 18 nd n1 n2 imm) (a : Nat) (ea : ((s.x[n1]?.getD 0) + imm) % 4294967296 = a) (ha : ¬ a + 4 ≤ s.ram.length) : GoodDo s m := by
  obtain ⟨G, hm, ho, K, hd, lv, xa, xb, i0, i1, hI⟩ := J.all
  exact good_of hm ho (stOut s a (s.x[n2]?.getD 0)) (G.stOut a (by omega) _ xb) 18 nd n1 n2 imm hd (by decide) (fun W x r h A _ => by rw [G.cOf_st a _ xb]; exact cdo_18_far ⟨h, A, G.cok, hI⟩ _ a ea ha)
theorem stp_0 {s : RSt} {m nd n1 n2 : Nat} {imm : Int} (J : Jns s m 0 nd n1 n2 imm) : GoodDo s m := by
  obtain ⟨G, hm, ho, K, hd, lv, xa, xb, i0, i1, hI⟩ := J.all
  have C := G.cok
  refine ⟨failR s 2 (leV s.ram m 4), G.fail 2 (by decide) _ lv, .inl (asl_fail _ _ _), fun W x r h A T _ => ?_⟩
  rw [cOf_fail G 2 (leV s.ram m 4)]
  exact next_none W x r _ h A T C.m0 C.m3 m hm ho nd n1 n2 imm hd
theorem lev_39_0' {s : RSt} {m nd n1 n2 : Nat} {imm : Int} (J : Jns s m 39 nd n1 n2 imm) (hm_ : s.mode = 0) : GoodDo s m := by
  obtain ⟨G, hm, ho, K, hd, lv, xa, xb, i0, i1, hI⟩ := J.all
  have C := G.cok
  have E : levR s 39 (leV s.ram m 4) = failR (sys1 s) 8 0 := by simp [levR, hm_]
  refine good_of hm ho (failR (sys1 s) 8 0) (G.sys1.fail 8 (by decide) 0 ⟨by decide, by decide⟩) 39 nd n1 n2 imm hd (by decide) (fun W x r h A _ => ?_)
  · rw [cOf_fail G.sys1 8 0]
    obtain ⟨k, rfl⟩ : ∃ k : Nat, imm = k := ⟨imm.toNat, by omega⟩
    exact cdo_39 ⟨h, A, C, hI⟩ _ _ fun W' h' _ => sys_39_0 W' x r _ h' A nd n1 n2 k _ hm_
theorem lev_39_1' {s : RSt} {m nd n1 n2 : Nat} {imm : Int} (J : Jns s m 39 nd n1 n2 imm) (hm_ : s.mode = 1) : GoodDo s m := by
  obtain ⟨G, hm, ho, K, hd, lv, xa, xb, i0, i1, hI⟩ := J.all
  have C := G.cok
  have E : levR s 39 (leV s.ram m 4) = failR (sys1 s) 9 0 := by simp [levR, hm_]
  refine good_of hm ho (failR (sys1 s) 9 0) (G.sys1.fail 9 (by decide) 0 ⟨by decide, by decide⟩) 39 nd n1 n2 imm hd (by decide) (fun W x r h A _ => ?_)
  · rw [cOf_fail G.sys1 9 0]
    obtain ⟨k, rfl⟩ : ∃ k : Nat, imm = k := ⟨imm.toNat, by omega⟩
    exact cdo_39 ⟨h, A, C, hI⟩ _ _ fun W' h' _ => sys_39_1 W' x r _ h' A nd n1 n2 k _ hm_
theorem lev_39_3' {s : RSt} {m nd n1 n2 : Nat} {imm : Int} (J : Jns s m 39 nd n1 n2 imm) (hm_ : s.mode = 3) : GoodDo s m := by
  obtain ⟨G, hm, ho, K, hd, lv, xa, xb, i0, i1, hI⟩ := J.all
  have C := G.cok
  have E : levR s 39 (leV s.ram m 4) = failR (sys1 s) 11 0 := by simp [levR, hm_]
  refine good_of hm ho (failR (sys1 s) 11 0) (G.sys1.fail 11 (by decide) 0 ⟨by decide, by decide⟩) 39 nd n1 n2 imm hd (by decide) (fun W x r h A _ => ?_)
  · rw [cOf_fail G.sys1 11 0]
    obtain ⟨k, rfl⟩ : ∃ k : Nat, imm = k := ⟨imm.toNat, by omega⟩
    exact cdo_39 ⟨h, A, C, hI⟩ _ _ fun W' h' _ => sys_39_3 W' x r _ h' A nd n1 n2 k _ hm_
theorem lev_40_a' {s : RSt} {m nd n1 n2 : Nat} {imm : Int} (J : Jns s m 40 nd n1 n2 imm) : GoodDo s m := by
  obtain ⟨G, hm, ho, K, hd, lv, xa, xb, i0, i1, hI⟩ := J.all
  have C := G.cok
  have E : levR s 40 (leV s.ram m 4) = failR (sys1 s) 3 s.pc := by simp [levR]
  refine good_of hm ho (failR (sys1 s) 3 s.pc) (G.sys1.fail 3 (by decide) s.pc G.pc) 40 nd n1 n2 imm hd (by decide) (fun W x r h A _ => ?_)
  · rw [cOf_fail G.sys1 3 s.pc]
    obtain ⟨k, rfl⟩ : ∃ k : Nat, imm = k := ⟨imm.toNat, by omega⟩
    exact cdo_40 ⟨h, A, C, hI⟩ _ _ fun W' h' _ => sys_40 W' x r _ h' A nd n1 n2 k _ C.m0 C.m3
theorem lev_41_3' {s : RSt} {m nd n1 n2 : Nat} {imm : Int} (J : Jns s m 41 nd n1 n2 imm) (hm_ : s.mode = 3) : GoodDo s m := by
  obtain ⟨G, hm, ho, K, hd, lv, xa, xb, i0, i1, hI⟩ := J.all
  have C := G.cok
  have E : levR s 41 (leV s.ram m 4) = mretR (sys1 s) := by simp [levR, hm_]
  refine good_of hm ho (mretR (sys1 s)) (G.sys1.mret) 41 nd n1 n2 imm hd (by decide) (fun W x r h A _ => ?_)
  · rw [cOf_mret G.sys1]
    obtain ⟨k, rfl⟩ : ∃ k : Nat, imm = k := ⟨imm.toNat, by omega⟩
    exact cdo_41 ⟨h, A, C, hI⟩ _ _ fun W' h' _ => sys_41_3 W' x r _ h' A nd n1 n2 k _ G.ms hm_
theorem lev_41_n' {s : RSt} {m nd n1 n2 : Nat} {imm : Int} (J : Jns s m 41 nd n1 n2 imm) (hm_ : s.mode ≠ 3) : GoodDo s m := by
  obtain ⟨G, hm, ho, K, hd, lv, xa, xb, i0, i1, hI⟩ := J.all
  have C := G.cok
  have E : levR s 41 (leV s.ram m 4) = failR (sys1 s) 2 (leV s.ram m 4) := by simp [levR, hm_]
  refine good_of hm ho (failR (sys1 s) 2 (leV s.ram m 4)) (G.sys1.fail 2 (by decide) (leV s.ram m 4) lv) 41 nd n1 n2 imm hd (by decide) (fun W x r h A _ => ?_)
  · rw [cOf_fail G.sys1 2 (leV s.ram m 4)]
    obtain ⟨k, rfl⟩ : ∃ k : Nat, imm = k := ⟨imm.toNat, by omega⟩
    exact cdo_41 ⟨h, A, C, hI⟩ _ _ fun W' h' _ => sys_41_n W' x r _ h' A nd n1 n2 k _ C.m0 C.m3 hm_
theorem lev_42_3' {s : RSt} {m nd n1 n2 : Nat} {imm : Int} (J : Jns s m 42 nd n1 n2 imm) (hm_ : s.mode = 3) : GoodDo s m := by
  obtain ⟨G, hm, ho, K, hd, lv, xa, xb, i0, i1, hI⟩ := J.all
  have C := G.cok
  have E : levR s 42 (leV s.ram m 4) = sretR (sys1 s) := by simp [levR, hm_]
  refine good_of hm ho (sretR (sys1 s)) (G.sys1.sret) 42 nd n1 n2 imm hd (by decide) (fun W x r h A _ => ?_)
  · rw [cOf_sret G.sys1]
    obtain ⟨k, rfl⟩ : ∃ k : Nat, imm = k := ⟨imm.toNat, by omega⟩
    exact cdo_42 ⟨h, A, C, hI⟩ _ _ fun W' h' _ => sys_42_3 W' x r _ h' A nd n1 n2 k _ G.ms hm_
theorem lev_42_0' {s : RSt} {m nd n1 n2 : Nat} {imm : Int} (J : Jns s m 42 nd n1 n2 imm) (hm_ : s.mode = 0) : GoodDo s m := by
  obtain ⟨G, hm, ho, K, hd, lv, xa, xb, i0, i1, hI⟩ := J.all
  have C := G.cok
  have E : levR s 42 (leV s.ram m 4) = failR (sys1 s) 2 (leV s.ram m 4) := by simp [levR, hm_]
  refine good_of hm ho (failR (sys1 s) 2 (leV s.ram m 4)) (G.sys1.fail 2 (by decide) (leV s.ram m 4) lv) 42 nd n1 n2 imm hd (by decide) (fun W x r h A _ => ?_)
  · rw [cOf_fail G.sys1 2 (leV s.ram m 4)]
    obtain ⟨k, rfl⟩ : ∃ k : Nat, imm = k := ⟨imm.toNat, by omega⟩
    exact cdo_42 ⟨h, A, C, hI⟩ _ _ fun W' h' _ => sys_42_0 W' x r _ h' A nd n1 n2 k _ hm_
theorem lev_42_1t' {s : RSt} {m nd n1 n2 : Nat} {imm : Int} (J : Jns s m 42 nd n1 n2 imm) (hm_ : s.mode = 1) (hb : s.tsr = true) : GoodDo s m := by
  obtain ⟨G, hm, ho, K, hd, lv, xa, xb, i0, i1, hI⟩ := J.all
  have C := G.cok
  have E : levR s 42 (leV s.ram m 4) = failR (sys1 s) 2 (leV s.ram m 4) := by simp [levR, hm_, hb]
  refine good_of hm ho (failR (sys1 s) 2 (leV s.ram m 4)) (G.sys1.fail 2 (by decide) (leV s.ram m 4) lv) 42 nd n1 n2 imm hd (by decide) (fun W x r h A _ => ?_)
  · rw [cOf_fail G.sys1 2 (leV s.ram m 4)]
    obtain ⟨k, rfl⟩ : ∃ k : Nat, imm = k := ⟨imm.toNat, by omega⟩
    exact cdo_42 ⟨h, A, C, hI⟩ _ _ fun W' h' _ => sys_42_1t W' x r _ h' A nd n1 n2 k _ hm_ ((tsr_bit G).trans hb)
theorem lev_42_1f' {s : RSt} {m nd n1 n2 : Nat} {imm : Int} (J : Jns s m 42 nd n1 n2 imm) (hm_ : s.mode = 1) (hb : s.tsr = false) : GoodDo s m := by
  obtain ⟨G, hm, ho, K, hd, lv, xa, xb, i0, i1, hI⟩ := J.all
  have C := G.cok
  have E : levR s 42 (leV s.ram m 4) = sretR (sys1 s) := by simp [levR, hm_, hb]
  refine good_of hm ho (sretR (sys1 s)) (G.sys1.sret) 42 nd n1 n2 imm hd (by decide) (fun W x r h A _ => ?_)
  · rw [cOf_sret G.sys1]
    obtain ⟨k, rfl⟩ : ∃ k : Nat, imm = k := ⟨imm.toNat, by omega⟩
    exact cdo_42 ⟨h, A, C, hI⟩ _ _ fun W' h' _ => sys_42_1f W' x r _ h' A nd n1 n2 k _ G.ms hm_ ((tsr_bit G).trans hb)
theorem lev_43_3' {s : RSt} {m nd n1 n2 : Nat} {imm : Int} (J : Jns s m 43 nd n1 n2 imm) (hm_ : s.mode = 3) : GoodDo s m := by
  obtain ⟨G, hm, ho, K, hd, lv, xa, xb, i0, i1, hI⟩ := J.all
  have C := G.cok
  have E : levR s 43 (leV s.ram m 4) = wfiR (sys1 s) := by simp [levR, hm_]
  refine good_of hm ho (wfiR (sys1 s)) (G.sys1.wfi) 43 nd n1 n2 imm hd (by decide) (fun W x r h A _ => ?_)
  · rw [show cOf (wfiR (sys1 s)) = { cOf s with pc := (s.pc + 4) % 4294967296, asleep := true } from rfl]
    obtain ⟨k, rfl⟩ : ∃ k : Nat, imm = k := ⟨imm.toNat, by omega⟩
    exact cdo_43 ⟨h, A, C, hI⟩ _ _ fun W' h' _ => sys_43_3 W' x r _ h' A nd n1 n2 k _ hm_
theorem lev_43_0' {s : RSt} {m nd n1 n2 : Nat} {imm : Int} (J : Jns s m 43 nd n1 n2 imm) (hm_ : s.mode = 0) : GoodDo s m := by
  obtain ⟨G, hm, ho, K, hd, lv, xa, xb, i0, i1, hI⟩ := J.all
  have C := G.cok
  have E : levR s 43 (leV s.ram m 4) = failR (sys1 s) 2 (leV s.ram m 4) := by simp [levR, hm_]
  refine good_of hm ho (failR (sys1 s) 2 (leV s.ram m 4)) (G.sys1.fail 2 (by decide) (leV s.ram m 4) lv) 43 nd n1 n2 imm hd (by decide) (fun W x r h A _ => ?_)
  · rw [cOf_fail G.sys1 2 (leV s.ram m 4)]
    obtain ⟨k, rfl⟩ : ∃ k : Nat, imm = k := ⟨imm.toNat, by omega⟩
    exact cdo_43 ⟨h, A, C, hI⟩ _ _ fun W' h' _ => sys_43_0 W' x r _ h' A nd n1 n2 k _ hm_
theorem lev_43_1t' {s : RSt} {m nd n1 n2 : Nat} {imm : Int} (J : Jns s m 43 nd n1 n2 imm) (hm_ : s.mode = 1) (hb : s.tw = true) : GoodDo s m := by
  obtain ⟨G, hm, ho, K, hd, lv, xa, xb, i0, i1, hI⟩ := J.all
  have C := G.cok
  have E : levR s 43 (leV s.ram m 4) = failR (sys1 s) 2 (leV s.ram m 4) := by simp [levR, hm_, hb]
  refine good_of hm ho (failR (sys1 s) 2 (leV s.ram m 4)) (G.sys1.fail 2 (by decide) (leV s.ram m 4) lv) 43 nd n1 n2 imm hd (by decide) (fun W x r h A _ => ?_)
  · rw [cOf_fail G.sys1 2 (leV s.ram m 4)]
    obtain ⟨k, rfl⟩ : ∃ k : Nat, imm = k := ⟨imm.toNat, by omega⟩
    exact cdo_43 ⟨h, A, C, hI⟩ _ _ fun W' h' _ => sys_43_1t W' x r _ h' A nd n1 n2 k _ hm_ ((tw_bit G).trans hb)
theorem lev_43_1f' {s : RSt} {m nd n1 n2 : Nat} {imm : Int} (J : Jns s m 43 nd n1 n2 imm) (hm_ : s.mode = 1) (hb : s.tw = false) : GoodDo s m := by
  obtain ⟨G, hm, ho, K, hd, lv, xa, xb, i0, i1, hI⟩ := J.all
  have C := G.cok
  have E : levR s 43 (leV s.ram m 4) = wfiR (sys1 s) := by simp [levR, hm_, hb]
  refine good_of hm ho (wfiR (sys1 s)) (G.sys1.wfi) 43 nd n1 n2 imm hd (by decide) (fun W x r h A _ => ?_)
  · rw [show cOf (wfiR (sys1 s)) = { cOf s with pc := (s.pc + 4) % 4294967296, asleep := true } from rfl]
    obtain ⟨k, rfl⟩ : ∃ k : Nat, imm = k := ⟨imm.toNat, by omega⟩
    exact cdo_43 ⟨h, A, C, hI⟩ _ _ fun W' h' _ => sys_43_1f W' x r _ h' A nd n1 n2 k _ hm_ ((tw_bit G).trans hb)
theorem Gd.csr {s : RSt} (h : Gd s) (j : Nat) (hj : j < 19) : W32 ((csrsR s).getD j 0) := by
  have e := h.mip
  have ms := h.ms
  match j, hj with
  | 0, _ => exact ms.and (W32.lit (n := 290) (by decide))
  | 1, _ => exact h.mie.and h.mideleg
  | 2, _ => exact h.stvec
  | 3, _ => exact h.sscratch
  | 4, _ => exact h.sepc
  | 5, _ => exact h.scause
  | 6, _ => exact h.stval
  | 7, _ => exact e.and h.mideleg
  | 8, _ => exact ms
  | 9, _ => exact h.medeleg
  | 10, _ => exact h.mideleg
  | 11, _ => exact h.mie
  | 12, _ => exact h.mtvec
  | 13, _ => exact h.mscratch
  | 14, _ => exact h.mepc
  | 15, _ => exact h.mcause
  | 16, _ => exact h.mtval
  | 17, _ => exact e
  | 18, _ => exact W32.lit (n := 0) (by decide)
  | j + 19, hj => exact absurd hj (by omega)
def numsN : List Nat := [256, 260, 261, 320, 321, 322, 323, 324, 768, 770, 771, 772, 773, 832, 833, 834, 835, 836, 3860]
theorem nums_at (n : Nat) (hn : n ∈ numsN) : ∃ k, k < 19 ∧ ((n : Nat) : Int) = numsR.getD k 0 := by
  simp only [numsN, List.mem_cons, List.not_mem_nil, or_false] at hn
  rcases hn with rfl | rfl | rfl | rfl | rfl | rfl | rfl | rfl | rfl | rfl | rfl | rfl | rfl | rfl | rfl | rfl | rfl | rfl | rfl
  · exact ⟨0, by decide, rfl⟩
  · exact ⟨1, by decide, rfl⟩
  · exact ⟨2, by decide, rfl⟩
  · exact ⟨3, by decide, rfl⟩
  · exact ⟨4, by decide, rfl⟩
  · exact ⟨5, by decide, rfl⟩
  · exact ⟨6, by decide, rfl⟩
  · exact ⟨7, by decide, rfl⟩
  · exact ⟨8, by decide, rfl⟩
  · exact ⟨9, by decide, rfl⟩
  · exact ⟨10, by decide, rfl⟩
  · exact ⟨11, by decide, rfl⟩
  · exact ⟨12, by decide, rfl⟩
  · exact ⟨13, by decide, rfl⟩
  · exact ⟨14, by decide, rfl⟩
  · exact ⟨15, by decide, rfl⟩
  · exact ⟨16, by decide, rfl⟩
  · exact ⟨17, by decide, rfl⟩
  · exact ⟨18, by decide, rfl⟩
theorem nums_no (n : Nat) (hn : n ∉ numsN) (k : Nat) (hk : k < 19) : numsR.getD k 0 ≠ (n : Int) := by
  intro e
  have hm : ∀ k : Fin 19, (numsR.getD k.val 0).toNat ∈ numsN := by decide
  have := hm ⟨k, hk⟩
  rw [show numsR.getD (⟨k, hk⟩ : Fin 19).val 0 = (n : Int) from e] at this
  exact hn (by simpa using this)
theorem set_res (c : CSt) (n : Nat) (hn : n ∈ numsN) (v : Int) (rd : Nat) (old : Int) : resC (setC c n v) rd old = setC (resC c rd old) n v := by
  simp only [numsN, List.mem_cons, List.not_mem_nil, or_false] at hn
  rcases hn with rfl | rfl | rfl | rfl | rfl | rfl | rfl | rfl | rfl | rfl | rfl | rfl | rfl | rfl | rfl | rfl | rfl | rfl | rfl
  · rw [setC_256, setC_256]
    rfl
  · rw [setC_260, setC_260]
    rfl
  · rw [setC_261, setC_261]
    rfl
  · rw [setC_320, setC_320]
    rfl
  · rw [setC_321, setC_321]
    rfl
  · rw [setC_322, setC_322]
    rfl
  · rw [setC_323, setC_323]
    rfl
  · rw [setC_324, setC_324]
    rfl
  · rw [setC_768, setC_768]
    rfl
  · rw [setC_770, setC_770]
    rfl
  · rw [setC_771, setC_771]
    rfl
  · rw [setC_772, setC_772]
    rfl
  · rw [setC_773, setC_773]
    rfl
  · rw [setC_832, setC_832]
    rfl
  · rw [setC_833, setC_833]
    rfl
  · rw [setC_834, setC_834]
    rfl
  · rw [setC_835, setC_835]
    rfl
  · rw [setC_836, setC_836]
    rfl
  · rw [setC_3860, setC_3860]
theorem ctlV_bd (op old a r1 : Int) (ho : W32 old) (ha : W32 a) (h1 : W32 r1) : W32 (ctlV op old a r1) := by
  unfold ctlV
  split; · exact ha
  split; · exact ho.or ha
  split; · exact ho.andNot ha
  split; · exact h1
  split; · exact ho.or h1
  exact ho.andNot h1
theorem cOf_ctl {s : RSt} (G : Gd s) (op : Int) (rd r1 n : Nat) (hn : n ∈ numsN) (w : Int) (j : Nat) (hv : W32 (ctlV op ((csrsR s).getD j 0) (s.x[r1]?.getD 0) r1)) :
    cOf (ctlR s op rd r1 n w (s.x[r1]?.getD 0) ((csrsR s).getD j 0) (stR (sysR s) n)) = accC (cOf s) op rd r1 n w ((csrsC (cOf s)).getD j 0) := by
  rw [G.csrs]
  unfold ctlR accC
  rw [show mayC (cOf s) n (wrB op r1) = mayB s n (wrB op r1) from rfl]
  by_cases hm : mayB s n (wrB op r1) = true
  · rw [if_pos hm, if_pos hm]
    by_cases hw : wrB op r1 = true
    · rw [if_pos hw, if_pos hw, ← set_res _ n hn]
      show resC (cOf (stR (sysR s) n _)) rd _ = _
      rw [cOf_st G.sys n hn _ hv]
      rfl
    · rw [if_neg hw, if_neg hw]
      rfl
  · rw [if_neg hm, if_neg hm]
    exact cOf_fail G.sys 2 w
theorem Gd.ctl {s : RSt} (G : Gd s) (op : Int) (rd r1 n : Nat) (hn : n ∈ numsN) (w : Int) (hw : W32 w) (j : Nat) (hj : j < 19) (hv : W32 (ctlV op ((csrsR s).getD j 0) (s.x[r1]?.getD 0) r1)) :
    Gd (ctlR s op rd r1 n w (s.x[r1]?.getD 0) ((csrsR s).getD j 0) (stR (sysR s) n)) := by
  unfold ctlR
  split
  · split
    · exact ((G.sys.st n hn _ hv).put rd _ (G.csr j hj)).next
    · exact (G.sys.put rd _ (G.csr j hj)).next
  · exact G.sys.fail 2 (by decide) w hw
theorem stp_44 {s : RSt} {m nd n1 n2 : Nat} {imm : Int} (J : Jns s m 44 nd n1 n2 imm) : GoodDo s m := by
  obtain ⟨G, hm, ho, K, hd, lv, xa, xb, i0, i1, hI⟩ := J.all
  have C := G.cok
  have hk := K.cs (by decide)
  obtain ⟨k, rfl⟩ : ∃ k : Nat, imm = k := ⟨imm.toNat, by omega⟩
  have hk' : k < 4096 := by omega
  by_cases hn : k ∈ numsN
  · obtain ⟨j, hj, ej⟩ := nums_at k hn
    have hv : W32 (ctlV 44 ((csrsR s).getD j 0) (s.x[n1]?.getD 0) n1) := ctlV_bd _ _ _ _ (G.csr j hj) xa ⟨by omega, by have := hI.s; omega⟩
    refine good_of hm ho (ctlR s 44 nd n1 k (leV s.ram m 4) (s.x[n1]?.getD 0) ((csrsR s).getD j 0) (stR (sysR s) k)) (G.ctl 44 nd n1 k hn _ lv j hj hv) 44 nd n1 n2 k hd (by decide) (fun W x r h A T9 => ?_)
    · rw [cOf_ctl G 44 nd n1 k hn _ j hv]
      exact cdo_44 ⟨h, A, C, hI⟩ _ _ fun W' h' hb => sys_44 W' x r _ h' nd n1 n2 k _ _ fun W'' h'' hb' => acc_any W'' x r _ h'' A ((T9.below hb).below hb') C.m0 C.m3 44 nd n1 n2 k _ ⟨by decide, by decide⟩ G.z j hj ej hk' hI.d hI.s hn
  · refine good_of hm ho (failR (sysR s) 2 (leV s.ram m 4)) (G.sys.fail 2 (by decide) _ lv) 44 nd n1 n2 k hd (by decide) (fun W x r h A T9 => ?_)
    · rw [cOf_fail G.sys 2 (leV s.ram m 4)]
      exact cdo_44 ⟨h, A, C, hI⟩ _ _ fun W' h' hb => sys_44 W' x r _ h' nd n1 n2 k _ _ fun W'' h'' hb' => acc_no W'' x r _ h'' A ((T9.below hb).below hb') C.m0 C.m3 44 nd n1 n2 k _ (nums_no k hn)
theorem stp_45 {s : RSt} {m nd n1 n2 : Nat} {imm : Int} (J : Jns s m 45 nd n1 n2 imm) : GoodDo s m := by
  obtain ⟨G, hm, ho, K, hd, lv, xa, xb, i0, i1, hI⟩ := J.all
  have C := G.cok
  have hk := K.cs (by decide)
  obtain ⟨k, rfl⟩ : ∃ k : Nat, imm = k := ⟨imm.toNat, by omega⟩
  have hk' : k < 4096 := by omega
  by_cases hn : k ∈ numsN
  · obtain ⟨j, hj, ej⟩ := nums_at k hn
    have hv : W32 (ctlV 45 ((csrsR s).getD j 0) (s.x[n1]?.getD 0) n1) := ctlV_bd _ _ _ _ (G.csr j hj) xa ⟨by omega, by have := hI.s; omega⟩
    refine good_of hm ho (ctlR s 45 nd n1 k (leV s.ram m 4) (s.x[n1]?.getD 0) ((csrsR s).getD j 0) (stR (sysR s) k)) (G.ctl 45 nd n1 k hn _ lv j hj hv) 45 nd n1 n2 k hd (by decide) (fun W x r h A T9 => ?_)
    · rw [cOf_ctl G 45 nd n1 k hn _ j hv]
      exact cdo_45 ⟨h, A, C, hI⟩ _ _ fun W' h' hb => sys_45 W' x r _ h' nd n1 n2 k _ _ fun W'' h'' hb' => acc_any W'' x r _ h'' A ((T9.below hb).below hb') C.m0 C.m3 45 nd n1 n2 k _ ⟨by decide, by decide⟩ G.z j hj ej hk' hI.d hI.s hn
  · refine good_of hm ho (failR (sysR s) 2 (leV s.ram m 4)) (G.sys.fail 2 (by decide) _ lv) 45 nd n1 n2 k hd (by decide) (fun W x r h A T9 => ?_)
    · rw [cOf_fail G.sys 2 (leV s.ram m 4)]
      exact cdo_45 ⟨h, A, C, hI⟩ _ _ fun W' h' hb => sys_45 W' x r _ h' nd n1 n2 k _ _ fun W'' h'' hb' => acc_no W'' x r _ h'' A ((T9.below hb).below hb') C.m0 C.m3 45 nd n1 n2 k _ (nums_no k hn)
theorem stp_46 {s : RSt} {m nd n1 n2 : Nat} {imm : Int} (J : Jns s m 46 nd n1 n2 imm) : GoodDo s m := by
  obtain ⟨G, hm, ho, K, hd, lv, xa, xb, i0, i1, hI⟩ := J.all
  have C := G.cok
  have hk := K.cs (by decide)
  obtain ⟨k, rfl⟩ : ∃ k : Nat, imm = k := ⟨imm.toNat, by omega⟩
  have hk' : k < 4096 := by omega
  by_cases hn : k ∈ numsN
  · obtain ⟨j, hj, ej⟩ := nums_at k hn
    have hv : W32 (ctlV 46 ((csrsR s).getD j 0) (s.x[n1]?.getD 0) n1) := ctlV_bd _ _ _ _ (G.csr j hj) xa ⟨by omega, by have := hI.s; omega⟩
    refine good_of hm ho (ctlR s 46 nd n1 k (leV s.ram m 4) (s.x[n1]?.getD 0) ((csrsR s).getD j 0) (stR (sysR s) k)) (G.ctl 46 nd n1 k hn _ lv j hj hv) 46 nd n1 n2 k hd (by decide) (fun W x r h A T9 => ?_)
    · rw [cOf_ctl G 46 nd n1 k hn _ j hv]
      exact cdo_46 ⟨h, A, C, hI⟩ _ _ fun W' h' hb => sys_46 W' x r _ h' nd n1 n2 k _ _ fun W'' h'' hb' => acc_any W'' x r _ h'' A ((T9.below hb).below hb') C.m0 C.m3 46 nd n1 n2 k _ ⟨by decide, by decide⟩ G.z j hj ej hk' hI.d hI.s hn
  · refine good_of hm ho (failR (sysR s) 2 (leV s.ram m 4)) (G.sys.fail 2 (by decide) _ lv) 46 nd n1 n2 k hd (by decide) (fun W x r h A T9 => ?_)
    · rw [cOf_fail G.sys 2 (leV s.ram m 4)]
      exact cdo_46 ⟨h, A, C, hI⟩ _ _ fun W' h' hb => sys_46 W' x r _ h' nd n1 n2 k _ _ fun W'' h'' hb' => acc_no W'' x r _ h'' A ((T9.below hb).below hb') C.m0 C.m3 46 nd n1 n2 k _ (nums_no k hn)
theorem stp_47 {s : RSt} {m nd n1 n2 : Nat} {imm : Int} (J : Jns s m 47 nd n1 n2 imm) : GoodDo s m := by
  obtain ⟨G, hm, ho, K, hd, lv, xa, xb, i0, i1, hI⟩ := J.all
  have C := G.cok
  have hk := K.cs (by decide)
  obtain ⟨k, rfl⟩ : ∃ k : Nat, imm = k := ⟨imm.toNat, by omega⟩
  have hk' : k < 4096 := by omega
  by_cases hn : k ∈ numsN
  · obtain ⟨j, hj, ej⟩ := nums_at k hn
    have hv : W32 (ctlV 47 ((csrsR s).getD j 0) (s.x[n1]?.getD 0) n1) := ctlV_bd _ _ _ _ (G.csr j hj) xa ⟨by omega, by have := hI.s; omega⟩
    refine good_of hm ho (ctlR s 47 nd n1 k (leV s.ram m 4) (s.x[n1]?.getD 0) ((csrsR s).getD j 0) (stR (sysR s) k)) (G.ctl 47 nd n1 k hn _ lv j hj hv) 47 nd n1 n2 k hd (by decide) (fun W x r h A T9 => ?_)
    · rw [cOf_ctl G 47 nd n1 k hn _ j hv]
      exact cdo_47 ⟨h, A, C, hI⟩ _ _ fun W' h' hb => sys_47 W' x r _ h' nd n1 n2 k _ _ fun W'' h'' hb' => acc_any W'' x r _ h'' A ((T9.below hb).below hb') C.m0 C.m3 47 nd n1 n2 k _ ⟨by decide, by decide⟩ G.z j hj ej hk' hI.d hI.s hn
  · refine good_of hm ho (failR (sysR s) 2 (leV s.ram m 4)) (G.sys.fail 2 (by decide) _ lv) 47 nd n1 n2 k hd (by decide) (fun W x r h A T9 => ?_)
    · rw [cOf_fail G.sys 2 (leV s.ram m 4)]
      exact cdo_47 ⟨h, A, C, hI⟩ _ _ fun W' h' hb => sys_47 W' x r _ h' nd n1 n2 k _ _ fun W'' h'' hb' => acc_no W'' x r _ h'' A ((T9.below hb).below hb') C.m0 C.m3 47 nd n1 n2 k _ (nums_no k hn)
theorem stp_48 {s : RSt} {m nd n1 n2 : Nat} {imm : Int} (J : Jns s m 48 nd n1 n2 imm) : GoodDo s m := by
  obtain ⟨G, hm, ho, K, hd, lv, xa, xb, i0, i1, hI⟩ := J.all
  have C := G.cok
  have hk := K.cs (by decide)
  obtain ⟨k, rfl⟩ : ∃ k : Nat, imm = k := ⟨imm.toNat, by omega⟩
  have hk' : k < 4096 := by omega
  by_cases hn : k ∈ numsN
  · obtain ⟨j, hj, ej⟩ := nums_at k hn
    have hv : W32 (ctlV 48 ((csrsR s).getD j 0) (s.x[n1]?.getD 0) n1) := ctlV_bd _ _ _ _ (G.csr j hj) xa ⟨by omega, by have := hI.s; omega⟩
    refine good_of hm ho (ctlR s 48 nd n1 k (leV s.ram m 4) (s.x[n1]?.getD 0) ((csrsR s).getD j 0) (stR (sysR s) k)) (G.ctl 48 nd n1 k hn _ lv j hj hv) 48 nd n1 n2 k hd (by decide) (fun W x r h A T9 => ?_)
    · rw [cOf_ctl G 48 nd n1 k hn _ j hv]
      exact cdo_48 ⟨h, A, C, hI⟩ _ _ fun W' h' hb => sys_48 W' x r _ h' nd n1 n2 k _ _ fun W'' h'' hb' => acc_any W'' x r _ h'' A ((T9.below hb).below hb') C.m0 C.m3 48 nd n1 n2 k _ ⟨by decide, by decide⟩ G.z j hj ej hk' hI.d hI.s hn
  · refine good_of hm ho (failR (sysR s) 2 (leV s.ram m 4)) (G.sys.fail 2 (by decide) _ lv) 48 nd n1 n2 k hd (by decide) (fun W x r h A T9 => ?_)
    · rw [cOf_fail G.sys 2 (leV s.ram m 4)]
      exact cdo_48 ⟨h, A, C, hI⟩ _ _ fun W' h' hb => sys_48 W' x r _ h' nd n1 n2 k _ _ fun W'' h'' hb' => acc_no W'' x r _ h'' A ((T9.below hb).below hb') C.m0 C.m3 48 nd n1 n2 k _ (nums_no k hn)
theorem stp_49 {s : RSt} {m nd n1 n2 : Nat} {imm : Int} (J : Jns s m 49 nd n1 n2 imm) : GoodDo s m := by
  obtain ⟨G, hm, ho, K, hd, lv, xa, xb, i0, i1, hI⟩ := J.all
  have C := G.cok
  have hk := K.cs (by decide)
  obtain ⟨k, rfl⟩ : ∃ k : Nat, imm = k := ⟨imm.toNat, by omega⟩
  have hk' : k < 4096 := by omega
  by_cases hn : k ∈ numsN
  · obtain ⟨j, hj, ej⟩ := nums_at k hn
    have hv : W32 (ctlV 49 ((csrsR s).getD j 0) (s.x[n1]?.getD 0) n1) := ctlV_bd _ _ _ _ (G.csr j hj) xa ⟨by omega, by have := hI.s; omega⟩
    refine good_of hm ho (ctlR s 49 nd n1 k (leV s.ram m 4) (s.x[n1]?.getD 0) ((csrsR s).getD j 0) (stR (sysR s) k)) (G.ctl 49 nd n1 k hn _ lv j hj hv) 49 nd n1 n2 k hd (by decide) (fun W x r h A T9 => ?_)
    · rw [cOf_ctl G 49 nd n1 k hn _ j hv]
      exact cdo_49 ⟨h, A, C, hI⟩ _ _ fun W' h' hb => sys_49 W' x r _ h' nd n1 n2 k _ _ fun W'' h'' hb' => acc_any W'' x r _ h'' A ((T9.below hb).below hb') C.m0 C.m3 49 nd n1 n2 k _ ⟨by decide, by decide⟩ G.z j hj ej hk' hI.d hI.s hn
  · refine good_of hm ho (failR (sysR s) 2 (leV s.ram m 4)) (G.sys.fail 2 (by decide) _ lv) 49 nd n1 n2 k hd (by decide) (fun W x r h A T9 => ?_)
    · rw [cOf_fail G.sys 2 (leV s.ram m 4)]
      exact cdo_49 ⟨h, A, C, hI⟩ _ _ fun W' h' hb => sys_49 W' x r _ h' nd n1 n2 k _ _ fun W'' h'' hb' => acc_no W'' x r _ h'' A ((T9.below hb).below hb') C.m0 C.m3 49 nd n1 n2 k _ (nums_no k hn)
theorem do_one {s : RSt} {m : Nat} (G : Gd s) (hm : s.pc = m) (ho : m + 4 ≤ s.ram.length) : GoodDo s m := by
  have lv := (leV_bd G.b m).2.2
  have K0 := dec_ok (leV s.ram m 4) lv.1 lv.2
  obtain ⟨op, rd, r1, r2, imm, hd⟩ : ∃ op rd r1 r2 imm, D.dec (leV s.ram m 4) = ⟨op, rd, r1, r2, imm⟩ := ⟨_, _, _, _, _, rfl⟩
  rw [hd] at K0
  have K : InsOk op rd r1 r2 imm := K0
  clear K0
  obtain ⟨nd, rfl⟩ : ∃ k : Nat, rd = k := ⟨rd.toNat, by have := K.d0; omega⟩
  obtain ⟨n1, rfl⟩ : ∃ k : Nat, r1 = k := ⟨r1.toNat, by have := K.s0; omega⟩
  obtain ⟨n2, rfl⟩ : ∃ k : Nat, r2 = k := ⟨r2.toNat, by have := K.t0; omega⟩
  obtain ⟨a, ea⟩ : ∃ a : Nat, (s.x[n1]?.getD 0 + imm) % 4294967296 = a := ⟨((s.x[n1]?.getD 0 + imm) % 4294967296).toNat, by omega⟩
  have o0 := K.o0
  have o1 := K.o1
  have hop : op = 0 ∨ op = 1 ∨ op = 2 ∨ op = 3 ∨ op = 4 ∨ op = 5 ∨ op = 6 ∨ op = 7 ∨ op = 8 ∨ op = 9 ∨ op = 10 ∨ op = 11 ∨ op = 12 ∨ op = 13 ∨ op = 14 ∨ op = 15 ∨ op = 16 ∨ op = 17 ∨ op = 18 ∨ op = 19 ∨ op = 20 ∨ op = 21 ∨ op = 22 ∨ op = 23 ∨ op = 24 ∨ op = 25 ∨ op = 26 ∨ op = 27 ∨ op = 28 ∨ op = 29 ∨ op = 30 ∨ op = 31 ∨ op = 32 ∨ op = 33 ∨ op = 34 ∨ op = 35 ∨ op = 36 ∨ op = 37 ∨ op = 38 ∨ op = 39 ∨ op = 40 ∨ op = 41 ∨ op = 42 ∨ op = 43 ∨ op = 44 ∨ op = 45 ∨ op = 46 ∨ op = 47 ∨ op = 48 ∨ op = 49 := by omega
  have J : Jns s m op nd n1 n2 imm := ⟨G, hm, ho, K, hd⟩
  clear K hd
  rcases hop with rfl | rfl | rfl | rfl | rfl | rfl | rfl | rfl | rfl | rfl | rfl | rfl | rfl | rfl | rfl | rfl | rfl | rfl | rfl | rfl | rfl | rfl | rfl | rfl | rfl | rfl | rfl | rfl | rfl | rfl | rfl | rfl | rfl | rfl | rfl | rfl | rfl | rfl | rfl | rfl | rfl | rfl | rfl | rfl | rfl | rfl | rfl | rfl | rfl | rfl
  · exact stp_0 J
  · exact stp_1 J
  · exact stp_2 J
  · exact stp_3 J
  · exact stp_4 J
  · by_cases ht : takenB 5 (s.x[n1]?.getD 0) (s.x[n2]?.getD 0) = true
    · exact stp_5_y J ht
    · exact stp_5_n J (by simpa using ht)
  · by_cases ht : takenB 6 (s.x[n1]?.getD 0) (s.x[n2]?.getD 0) = true
    · exact stp_6_y J ht
    · exact stp_6_n J (by simpa using ht)
  · by_cases ht : takenB 7 (s.x[n1]?.getD 0) (s.x[n2]?.getD 0) = true
    · exact stp_7_y J ht
    · exact stp_7_n J (by simpa using ht)
  · by_cases ht : takenB 8 (s.x[n1]?.getD 0) (s.x[n2]?.getD 0) = true
    · exact stp_8_y J ht
    · exact stp_8_n J (by simpa using ht)
  · by_cases ht : takenB 9 (s.x[n1]?.getD 0) (s.x[n2]?.getD 0) = true
    · exact stp_9_y J ht
    · exact stp_9_n J (by simpa using ht)
  · by_cases ht : takenB 10 (s.x[n1]?.getD 0) (s.x[n2]?.getD 0) = true
    · exact stp_10_y J ht
    · exact stp_10_n J (by simpa using ht)
  · by_cases ha : a + 1 ≤ s.ram.length
    · by_cases hc : leV s.ram a 1 < 128
      · exact stp_11_lo J a ea ha hc
      · exact stp_11_hi J a ea ha hc
    · exact far_11 J a ea ha
  · by_cases ha : a + 2 ≤ s.ram.length
    · by_cases hc : leV s.ram a 2 < 32768
      · exact stp_12_lo J a ea ha hc
      · exact stp_12_hi J a ea ha hc
    · exact far_12 J a ea ha
  · by_cases ha : a + 4 ≤ s.ram.length
    · exact stp_13 J a ea ha
    · exact far_13 J a ea ha
  · by_cases ha : a + 1 ≤ s.ram.length
    · exact stp_14 J a ea ha
    · exact far_14 J a ea ha
  · by_cases ha : a + 2 ≤ s.ram.length
    · exact stp_15 J a ea ha
    · exact far_15 J a ea ha
  · by_cases ha : a + 1 ≤ s.ram.length
    · exact stp_16 J a ea ha
    · exact far_16 J a ea ha
  · by_cases ha : a + 2 ≤ s.ram.length
    · exact stp_17 J a ea ha
    · exact far_17 J a ea ha
  · by_cases ha : a + 4 ≤ s.ram.length
    · exact stp_18 J a ea ha
    · exact far_18 J a ea ha
  · exact stp_19 J
  · exact stp_20 J
  · exact stp_21 J
  · exact stp_22 J
  · exact stp_23 J
  · exact stp_24 J
  · exact stp_25 J
  · exact stp_26 J
  · exact stp_27 J
  · exact stp_28 J
  · exact stp_29 J
  · exact stp_30 J
  · exact stp_31 J
  · exact stp_32 J
  · exact stp_33 J
  · exact stp_34 J
  · exact stp_35 J
  · exact stp_36 J
  · exact stp_37 J
  · exact stp_38 J
  · rcases G.mode with h | h | h
    · exact lev_39_0' J h
    · exact lev_39_1' J h
    · exact lev_39_3' J h
  · exact lev_40_a' J
  · by_cases h : s.mode = 3
    · exact lev_41_3' J h
    · exact lev_41_n' J h
  · rcases G.mode with h | h | h
    · exact lev_42_0' J h
    · by_cases hb : s.tsr = true
      · exact lev_42_1t' J h hb
      · exact lev_42_1f' J h (by simpa using hb)
    · exact lev_42_3' J h
  · rcases G.mode with h | h | h
    · exact lev_43_0' J h
    · by_cases hb : s.tw = true
      · exact lev_43_1t' J h hb
      · exact lev_43_1f' J h (by simpa using hb)
    · exact lev_43_3' J h
  · exact stp_44 J
  · exact stp_45 J
  · exact stp_46 J
  · exact stp_47 J
  · exact stp_48 J
  · exact stp_49 J
theorem nx_0 {s : RSt} {m nd n1 n2 : Nat} {imm : Int} (J : Jns s m 0 nd n1 n2 imm) : Gd (failR s 2 (leV s.ram m 4)) ∧ CNext (cOf s) (cOf (failR s 2 (leV s.ram m 4))) := by
  obtain ⟨G, hm, ho, K, hd, lv, xa, xb, i0, i1, hI⟩ := J.all
  have C := G.cok
  refine ⟨G.fail 2 (by decide) _ lv, fun W x r h A T _ => ?_⟩
  rw [cOf_fail G 2 (leV s.ram m 4)]
  exact next_none W x r _ h A T C.m0 C.m3 m hm ho nd n1 n2 imm hd
theorem nx_19 {s : RSt} {m nd n1 n2 : Nat} {imm : Int} (J : Jns s m 19 nd n1 n2 imm) : Gd (next1 (putR s nd (aluV 19 (s.x[n1]?.getD 0) imm))) ∧ CNext (cOf s) (cOf (next1 (putR s nd (aluV 19 (s.x[n1]?.getD 0) imm)))) := by
  obtain ⟨G, hm, ho, K, hd, lv, xa, xb, i0, i1, hI⟩ := J.all
  refine ⟨(G.put nd _ (alu_bd 19 _ _ xa.1 xa.2 i0 i1)).next, fun W x r h A T T9 => ?_⟩
  exact next_do W x r _ h T m hm ho 19 nd n1 n2 imm hd (by decide) _ fun W' h' _ => cdo_19 ⟨h', A, G.cok, hI⟩ _
end Go.Proofs.YteiideeechnekaaGreatDoor

/-
  hartkeep.call: one step of a script that is no Step.
-/
namespace Go.Proofs.YteiideeechnekaaGreatDoor
open Go.RowKit

set_option maxHeartbeats 1000000 in
theorem kcall_2 (W : World) (x r : Nat) (s : RSt) (h : CodeAt W x r (cOf s)) (A : x ≠ r) (G : Gd s) (a b : Int) (v : Nat) : Calls Tryz.prog 19 #[.pointer (some ⟨x, 0, none⟩), .agg #[.int .i64 2, .int .i64 a, .int .i64 b, .int .u32 v]] W fun e W' => e = .returned (.tuple #[]) ∧ ∃ s', CodeAt W' x r (cOf s') ∧ Gd s' ∧ Core s s' ∧ Offs [x, r] W W' := by
  obtain ⟨s1, HC, HG, HK⟩ : ∃ s1 , Hid (∀ w, CodeAt w x r (cOf s) → Calls Tryz.prog 44 #[.pointer (some ⟨x, 0, none⟩), .int .i64 a, .bool (b != 0)] w fun e w' => e = .returned (.tuple #[]) ∧ CodeAt w' x r (cOf s1) ∧ Offs [x, r] w w') ∧ Hid (Gd s1) ∧ Hid (Core s s1) := by
    by_cases hk : a < 1 ∨ 7 < a
    · refine ⟨s, fun w h => ?_, G, Core.refl s⟩
      refine (hline_no w x a _ hk).mono ?_
      rintro e w' ⟨rfl, rfl⟩
      exact ⟨rfl, h, Offs.refl _ _⟩
    · obtain ⟨k, rfl⟩ : ∃ k : Nat, a = k := ⟨a.toNat, by omega⟩
      refine ⟨lineR s k (b != 0), fun w h => ?_, G.line k (by omega) _, line_core s k _⟩
      rw [cOf_line G.dv k (by omega) (by omega)]
      exact hline_any w x r _ h A k (by omega) (by omega) _
  have HN : Hid (∀ o, CodeAt (W.alloc o) x r (cOf s)) := fun o => h.below ((Below.refl _ _).alloc (Nat.le_refl _) o) h.lt.1 h.lt.2
  clear h G
  go_enter Tryz.func19, Tryz.ntmps19
  go_wp2_with fail
  refine (HC.out _ (HN.out _)).mono ?_
  rintro e w1 ⟨rfl, h1, o1⟩
  go_wp2_with fail
  go_end0
  exact ⟨rfl, s1, h1, HG.out, HK.out, ((Offs.refl _ _).new _).trans o1⟩
set_option maxHeartbeats 1000000 in
theorem kcall_3 (W : World) (x r : Nat) (s : RSt) (h : CodeAt W x r (cOf s)) (A : x ≠ r) (G : Gd s) (a b : Int) (v : Nat) : Calls Tryz.prog 19 #[.pointer (some ⟨x, 0, none⟩), .agg #[.int .i64 3, .int .i64 a, .int .i64 b, .int .u32 v]] W fun e W' => e = .returned (.tuple #[]) ∧ ∃ s', CodeAt W' x r (cOf s') ∧ Gd s' ∧ Core s s' ∧ Offs [x, r] W W' := by
  obtain ⟨s1, HC, HG, HK⟩ : ∃ s1 , Hid (∀ w, CodeAt w x r (cOf s) → Calls Tryz.prog 45 #[.pointer (some ⟨x, 0, none⟩)] w fun e w' => e = .returned (.tuple #[]) ∧ CodeAt w' x r (cOf s1) ∧ Offs [x, r] w w') ∧ Hid (Gd s1) ∧ Hid (Core s s1) := by
    exact ⟨tickR s, fun w h => htick_any w x r _ h A, G.tick, tick_core s⟩
  have HN : Hid (∀ o, CodeAt (W.alloc o) x r (cOf s)) := fun o => h.below ((Below.refl _ _).alloc (Nat.le_refl _) o) h.lt.1 h.lt.2
  clear h G
  go_enter Tryz.func19, Tryz.ntmps19
  go_wp2_with fail
  refine (HC.out _ (HN.out _)).mono ?_
  rintro e w1 ⟨rfl, h1, o1⟩
  go_wp2_with fail
  go_end0
  exact ⟨rfl, s1, h1, HG.out, HK.out, ((Offs.refl _ _).new _).trans o1⟩
set_option maxHeartbeats 1000000 in
theorem kcall_4 (W : World) (x r : Nat) (s : RSt) (h : CodeAt W x r (cOf s)) (A : x ≠ r) (G : Gd s) (a b : Int) (v : Nat) (hv : v < 4294967296) : Calls Tryz.prog 19 #[.pointer (some ⟨x, 0, none⟩), .agg #[.int .i64 4, .int .i64 a, .int .i64 b, .int .u32 v]] W fun e W' => e = .returned (.tuple #[]) ∧ ∃ s', CodeAt W' x r (cOf s') ∧ Gd s' ∧ Core s s' ∧ Offs [x, r] W W' := by
  obtain ⟨s1, z, ok, HC, HG, HK⟩ : ∃ s1 z ok , Hid (∀ w, CodeAt w x r (cOf s) → Calls Tryz.prog 46 #[.pointer (some ⟨x, 0, none⟩), .int .u32 v, .int .i64 a] w fun e w' => e = .returned (.tuple #[.int .u32 z, .bool ok]) ∧ CodeAt w' x r (cOf s1) ∧ Offs [x, r] w w') ∧ Hid (Gd s1) ∧ Hid (Core s s1) := by
    obtain ⟨e, g⟩ := read_of G v a
    refine ⟨(readR s v a).1, (readR s v a).2.1, (readR s v a).2.2, fun w h => ?_, g, read_core s v a⟩
    have := cread_any w x r _ h A v hv a
    rw [e] at this
    exact this
  have HN : Hid (∀ o, CodeAt (W.alloc o) x r (cOf s)) := fun o => h.below ((Below.refl _ _).alloc (Nat.le_refl _) o) h.lt.1 h.lt.2
  clear h G
  go_enter Tryz.func19, Tryz.ntmps19
  go_wp2_with fail
  refine (HC.out _ (HN.out _)).mono ?_
  rintro e w1 ⟨rfl, h1, o1⟩
  go_wp2_with fail
  go_end0
  exact ⟨rfl, s1, h1, HG.out, HK.out, ((Offs.refl _ _).new _).trans o1⟩
set_option maxHeartbeats 1000000 in
theorem kcall_5 (W : World) (x r : Nat) (s : RSt) (h : CodeAt W x r (cOf s)) (A : x ≠ r) (G : Gd s) (a b : Int) (v : Nat) (hv : v < 4294967296) : Calls Tryz.prog 19 #[.pointer (some ⟨x, 0, none⟩), .agg #[.int .i64 5, .int .i64 a, .int .i64 b, .int .u32 v]] W fun e W' => e = .returned (.tuple #[]) ∧ ∃ s', CodeAt W' x r (cOf s') ∧ Gd s' ∧ Core s s' ∧ Offs [x, r] W W' := by
  obtain ⟨s1, ok, HC, HG, HK⟩ : ∃ s1 ok , Hid (∀ w, CodeAt w x r (cOf s) → Calls Tryz.prog 47 #[.pointer (some ⟨x, 0, none⟩), .int .u32 v, .int .i64 a, .int .u32 (b % 4294967296)] w fun e w' => e = .returned (.bool ok) ∧ CodeAt w' x r (cOf s1) ∧ Offs [x, r] w w') ∧ Hid (Gd s1) ∧ Hid (Core s s1) := by
    have b0 : 0 ≤ b % 4294967296 := by omega
    have b1 : b % 4294967296 < 4294967296 := by omega
    obtain ⟨e, g⟩ := write_of G v a (b % 4294967296) ⟨b0, b1⟩
    refine ⟨(writeR s v a (b % 4294967296)).1, (writeR s v a (b % 4294967296)).2, fun w h => ?_, g, write_core s v a _⟩
    have := cwrite_any w x r _ h A v hv a _ b0 b1
    rw [e] at this
    exact this
  have HN : Hid (∀ o, CodeAt (W.alloc o) x r (cOf s)) := fun o => h.below ((Below.refl _ _).alloc (Nat.le_refl _) o) h.lt.1 h.lt.2
  clear h G
  go_enter Tryz.func19, Tryz.ntmps19
  go_wp2_with fail
  refine (HC.out _ (HN.out _)).mono ?_
  rintro e w1 ⟨rfl, h1, o1⟩
  go_wp2_with fail
  go_end0
  exact ⟨rfl, s1, h1, HG.out, HK.out, ((Offs.refl _ _).new _).trans o1⟩
theorem kcall_none (W : World) (x r : Nat) (s : RSt) (h : CodeAt W x r (cOf s)) (_A : x ≠ r) (G : Gd s) (k a b : Int) (v : Nat) (h2 : (k == 2) = false) (h3 : (k == 3) = false) (h4 : (k == 4) = false) (h5 : (k == 5) = false) : Calls Tryz.prog 19 #[.pointer (some ⟨x, 0, none⟩), .agg #[.int .i64 k, .int .i64 a, .int .i64 b, .int .u32 v]] W fun e W' => e = .returned (.tuple #[]) ∧ ∃ s', CodeAt W' x r (cOf s') ∧ Gd s' ∧ Core s s' ∧ Offs [x, r] W W' := by
  have HN : Hid (∀ o, CodeAt (W.alloc o) x r (cOf s)) := fun o => h.below ((Below.refl _ _).alloc (Nat.le_refl _) o) h.lt.1 h.lt.2
  have HG : Hid (Gd s) := G
  clear h G
  go_enter Tryz.func19, Tryz.ntmps19
  go_wp2
  go_end0
  exact ⟨rfl, s, HN.out _, HG.out, Core.refl s, (Offs.refl _ _).new _⟩
theorem kcall_any (W : World) (x r : Nat) (s : RSt) (h : CodeAt W x r (cOf s)) (A : x ≠ r) (G : Gd s) (k a b : Int) (v : Nat) (hv : v < 4294967296) : Calls Tryz.prog 19 #[.pointer (some ⟨x, 0, none⟩), .agg #[.int .i64 k, .int .i64 a, .int .i64 b, .int .u32 v]] W fun e W' => e = .returned (.tuple #[]) ∧ ∃ s', CodeAt W' x r (cOf s') ∧ Gd s' ∧ Core s s' ∧ Offs [x, r] W W' := by
  by_cases h2 : k = 2
  · subst h2; exact kcall_2 W x r s h A G a b v
  by_cases h3 : k = 3
  · subst h3; exact kcall_3 W x r s h A G a b v
  by_cases h4 : k = 4
  · subst h4; exact kcall_4 W x r s h A G a b v hv
  by_cases h5 : k = 5
  · subst h5; exact kcall_5 W x r s h A G a b v hv
  exact kcall_none W x r s h A G k a b v (by simpa using h2) (by simpa using h3) (by simpa using h4) (by simpa using h5)
end Go.Proofs.YteiideeechnekaaGreatDoor

/-
  One Step of the code's, and what it makes of the computer.
-/
namespace Go.Proofs.YteiideeechnekaaGreatDoor
open Go.RowKit

theorem asl_int (s : RSt) (i : Nat) : (intR s i).asleep = s.asleep := by
  unfold intR trapR
  split <;> rfl
structure KSp (s s' : RSt) : Prop where
  sleep : s.asleep = true → bits .and .u32 (mipR s) s.mie = 0 → s' = s
  int : Aw s → ∀ i : Nat, chosenR (wakeR s) = i → s' = intR (wakeR s) i
  wakes : s.asleep = true → bits .and .u32 (mipR s) s.mie ≠ 0 → s'.asleep = false ∨ s'.pc ≠ s.pc
  addi : s.asleep = false → chosenR s = -1 → ∀ m nd n1 n2 : Nat, ∀ imm : Int, s.pc = m → m + 4 ≤ s.ram.length → D.dec (leV s.ram m 4) = ⟨19, nd, n1, n2, imm⟩ → s' = next1 (putR s nd (aluV 19 (s.x[n1]?.getD 0) imm))
  none : s.asleep = false → chosenR s = -1 → ∀ m nd n1 n2 : Nat, ∀ imm : Int, s.pc = m → m + 4 ≤ s.ram.length → D.dec (leV s.ram m 4) = ⟨0, nd, n1, n2, imm⟩ → s' = failR s 2 (leV s.ram m 4)
theorem jns_of {s : RSt} {m : Nat} (G : Gd s) (hm : s.pc = m) (ho : m + 4 ≤ s.ram.length) : ∃ (op : Int) (nd n1 n2 : Nat) (imm : Int), Jns s m op nd n1 n2 imm := by
  have lv := (leV_bd G.b m).2.2
  have K0 := dec_ok (leV s.ram m 4) lv.1 lv.2
  obtain ⟨op, rd, r1, r2, imm, hd⟩ : ∃ op rd r1 r2 imm, D.dec (leV s.ram m 4) = ⟨op, rd, r1, r2, imm⟩ := ⟨_, _, _, _, _, rfl⟩
  rw [hd] at K0
  have K : InsOk op rd r1 r2 imm := K0
  clear K0
  obtain ⟨nd, rfl⟩ : ∃ k : Nat, rd = k := ⟨rd.toNat, by have := K.d0; omega⟩
  obtain ⟨n1, rfl⟩ : ∃ k : Nat, r1 = k := ⟨r1.toNat, by have := K.s0; omega⟩
  obtain ⟨n2, rfl⟩ : ∃ k : Nat, r2 = k := ⟨r2.toNat, by have := K.t0; omega⟩
  exact ⟨op, nd, n1, n2, imm, G, hm, ho, K, hd⟩
theorem kstep {s : RSt} (G : Gd s) : ∃ s', Gd s' ∧ CStep (cOf s) (cOf s') ∧ KSp s s' := by
  obtain ⟨m, hp⟩ : ∃ m : Nat, s.pc = m := ⟨s.pc.toNat, by have := G.pc.1; omega⟩
  have h32 : m < 4294967296 := by have := G.pc.2; omega
  rcases aw_or s with A | ⟨ha, hm⟩
  · have U := A.up G
    have nos : s.asleep = true → bits .and .u32 (mipR s) s.mie = 0 → False := fun h1 h2 => by
      rcases A with h | ⟨_, h⟩
      · rw [h1] at h; cases h
      · exact h h2
    rcases chosenR_cases (wakeR s) with hc | ⟨i, hi, hc⟩
    · obtain ⟨e1, e2⟩ := int_none G.wake hc
      have noi : ∀ i : Nat, chosenR (wakeR s) = i → False := fun i h => by rw [hc] at h; omega
      by_cases ho : m + 4 ≤ s.ram.length
      · obtain ⟨op, nd, n1, n2, imm, J⟩ := jns_of G.wake (m := m) hp ho
        have hd : D.dec (leV s.ram m 4) = ⟨op, nd, n1, n2, imm⟩ := J.hd
        have mm : ∀ m' : Nat, s.pc = m' → m' = m := fun m' h => by omega
        by_cases h19 : op = 19
        · subst h19
          obtain ⟨G', N⟩ := nx_19 J
          refine ⟨_, G', cstep_next U e1 e2 N, fun h1 h2 => (nos h1 h2).elim, fun _ i h => (noi i h).elim, fun _ _ => .inl rfl, fun h1 _ m' nd' n1' n2' imm' h3 _ h5 => ?_, fun _ _ m' nd' n1' n2' imm' h3 _ h5 => ?_⟩
          · rw [mm m' h3, hd] at h5
            have h6 : (nd : Int) = nd' ∧ (n1 : Int) = n1' ∧ (n2 : Int) = n2' ∧ imm = imm' := by simpa using h5
            obtain rfl : nd = nd' := by omega
            obtain rfl : n1 = n1' := by omega
            obtain rfl := h6.2.2.2
            rw [wake_awake h1]
          · rw [mm m' h3, hd] at h5
            simp at h5
        by_cases h0 : op = 0
        · subst h0
          obtain ⟨G', N⟩ := nx_0 J
          refine ⟨_, G', cstep_next U e1 e2 N, fun h1 h2 => (nos h1 h2).elim, fun _ i h => (noi i h).elim, fun _ _ => .inl (asl_fail _ _ _), fun _ _ m' nd' n1' n2' imm' h3 _ h5 => ?_, fun h1 _ m' nd' n1' n2' imm' h3 _ h5 => ?_⟩
          · rw [mm m' h3, hd] at h5
            simp at h5
          · rw [mm m' h3, wake_awake h1]
        obtain ⟨s', G', W', N⟩ := do_one G.wake (m := m) hp ho
        refine ⟨s', G', cstep_next U e1 e2 N, fun h1 h2 => (nos h1 h2).elim, fun _ i h => (noi i h).elim, fun _ _ => W', fun _ _ m' nd' n1' n2' imm' h3 _ h5 => ?_, fun _ _ m' nd' n1' n2' imm' h3 _ h5 => ?_⟩
        · rw [mm m' h3, hd] at h5
          simp at h5
          exact absurd h5.1 h19
        · rw [mm m' h3, hd] at h5
          simp at h5
          exact absurd h5.1 h0
      · have C := G.wake.cok
        refine ⟨failR (wakeR s) 1 s.pc, G.wake.fail 1 (by decide) _ G.pc, cstep_next U e1 e2 fun W x r h A T T9 => ?_, fun h1 h2 => (nos h1 h2).elim, fun _ i h => (noi i h).elim, fun _ _ => .inl (asl_fail _ _ _), fun _ _ m' nd' n1' n2' imm' h3 h4 _ => absurd h4 (by omega), fun _ _ m' nd' n1' n2' imm' h3 h4 _ => absurd h4 (by omega)⟩
        rw [cOf_fail G.wake 1 s.pc]
        exact next_fault W x r _ h A C.m0 C.m3 m hp h32 ho
    · obtain ⟨_, G', C'⟩ := int_both G.wake (cOf s) U i hc
      have noc : s.asleep = false → chosenR s = -1 → False := fun h1 h2 => by rw [wake_awake h1] at hc; omega
      refine ⟨_, G', C', fun h1 h2 => (nos h1 h2).elim, fun _ j h => ?_, fun _ _ => .inl (asl_int _ _), fun h1 h2 => (noc h1 h2).elim, fun h1 h2 => (noc h1 h2).elim⟩
      obtain rfl : i = j := by omega
      rfl
  · have noa : s.asleep = false → False := fun h => by rw [ha] at h; cases h
    refine ⟨s, G, fun W x r h _ _ _ => cstep_sleep W x r _ h ha (by rw [G.pend]; exact hm), fun _ _ => rfl, fun A => ?_, fun _ h => absurd hm h, fun h => (noa h).elim, fun h => (noa h).elim⟩
    rcases A with h | ⟨_, h⟩
    · exact (noa h).elim
    · exact absurd hm h
end Go.Proofs.YteiideeechnekaaGreatDoor
