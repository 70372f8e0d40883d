import Derived.Test.YteiideeechnekaaGreatDoorRefSum
import Derived.Test.YteiideeechnekaaGreatDoorDRefDecode
import Derived.Test.YteiideeechnekaaGreatDoorRefOut
import Derived.Test.YteiideeechnekaaGreatDoorRefCtl
import Derived.Test.YteiideeechnekaaGreatDoorRefLev
/-
  The document's do: plain instructions.
-/
namespace Go.Proofs.YteiideeechnekaaGreatDoor
open Go.RowKit

structure InsOk (op rd r1 r2 imm : Int) : Prop where
  o0 : 0 ≤ op
  o1 : op ≤ 49
  d0 : 0 ≤ rd
  d1 : rd < 32
  s0 : 0 ≤ r1
  s1 : r1 < 32
  t0 : 0 ≤ r2
  t1 : r2 < 32
  i0 : 0 ≤ imm
  i1 : imm < 4294967296
  cs : 44 ≤ op → imm < 4096
  fe : op = 38 → rd = 0
def Ok (d : D.Ins) : Prop := InsOk d.op d.rd d.r1 d.r2 d.imm
theorem tabs_ok : ∀ f : Fin 8, (D.tJ f = 0 ∨ D.tJ f = 4) ∧ (D.tB f = 0 ∨ 5 ≤ D.tB f ∧ D.tB f ≤ 10) ∧ (D.tL f = 0 ∨ 11 ≤ D.tL f ∧ D.tL f ≤ 15) ∧ (D.tS f = 0 ∨ 16 ≤ D.tS f ∧ D.tS f ≤ 18) ∧ (D.tF f = 0 ∨ D.tF f = 38) ∧ (D.tI f = 0 ∨ 19 ≤ D.tI f ∧ D.tI f ≤ 24) ∧ (D.tH0 f = 0 ∨ 25 ≤ D.tH0 f ∧ D.tH0 f ≤ 26) ∧ (D.tH2 f = 0 ∨ D.tH2 f = 27) ∧ (28 ≤ D.tR0 f ∧ D.tR0 f ≤ 37) ∧ (D.tR2 f = 0 ∨ 28 ≤ D.tR2 f ∧ D.tR2 f ≤ 37) ∧ (D.tC f = 0 ∨ 44 ≤ D.tC f ∧ D.tC f ≤ 49) := by decide
theorem dec_ok (w : Int) (h0 : 0 ≤ w) (h1 : w < 4294967296) : InsOk (D.dec w).op (D.dec w).rd (D.dec w).r1 (D.dec w).r2 (D.dec w).imm := by
  have hf := tabs_ok ⟨D.f3 w, D.f3_lt w⟩
  simp only at hf
  obtain ⟨a1, a2, a3, a4, a5, a6, a7, a8, a9, a10, a11⟩ := hf
  have z : Ok D.Ins.zero := ⟨by decide, by decide, by decide, by decide, by decide, by decide, by decide, by decide, by decide, by decide, fun h => by revert h; decide, fun _ => rfl⟩
  show Ok (D.dec w)
  unfold D.dec
  by_cases hz : (D.apartI w).op = 0
  · rw [if_pos hz]; exact z
  rw [if_neg hz]
  clear hz
  unfold D.apartI
  by_cases c55 : w % 128 = 55
  · rw [if_pos c55]; exact ⟨by simp, by simp, by simp; omega, by simp; omega, by simp, by simp, by simp, by simp, by simp; omega, by simp; omega, by simp, by simp⟩
  rw [if_neg c55]
  by_cases c23 : w % 128 = 23
  · rw [if_pos c23]; exact ⟨by simp, by simp, by simp; omega, by simp; omega, by simp, by simp, by simp, by simp, by simp; omega, by simp; omega, by simp, by simp⟩
  rw [if_neg c23]
  by_cases c111 : w % 128 = 111
  · rw [if_pos c111]; exact ⟨by simp, by simp, by simp; omega, by simp; omega, by simp, by simp, by simp, by simp, by simp [D.immJ]; omega, by simp [D.immJ]; omega, by simp, by simp⟩
  rw [if_neg c111]
  by_cases c103 : w % 128 = 103
  · rw [if_pos c103]; exact ⟨by simp; omega, by simp; omega, by simp; omega, by simp; omega, by simp; omega, by simp; omega, by simp, by simp, by simp [D.immI]; omega, by simp [D.immI]; omega, by simp; omega, by simp; omega⟩
  rw [if_neg c103]
  by_cases c99 : w % 128 = 99
  · rw [if_pos c99]; exact ⟨by simp; omega, by simp; omega, by simp, by simp, by simp; omega, by simp; omega, by simp; omega, by simp; omega, by simp [D.immB]; omega, by simp [D.immB]; omega, by simp; omega, by simp⟩
  rw [if_neg c99]
  by_cases c3 : w % 128 = 3
  · rw [if_pos c3]; exact ⟨by simp; omega, by simp; omega, by simp; omega, by simp; omega, by simp; omega, by simp; omega, by simp, by simp, by simp [D.immI]; omega, by simp [D.immI]; omega, by simp; omega, by simp; omega⟩
  rw [if_neg c3]
  by_cases c35 : w % 128 = 35
  · rw [if_pos c35]; exact ⟨by simp; omega, by simp; omega, by simp, by simp, by simp; omega, by simp; omega, by simp; omega, by simp; omega, by simp [D.immS]; omega, by simp [D.immS]; omega, by simp; omega, by simp⟩
  rw [if_neg c35]
  by_cases c19 : w % 128 = 19
  · rw [if_pos c19]
    by_cases ci : D.tI (D.f3 w) = 0
    · rw [if_pos ci]; unfold D.pick7; exact ⟨by first | (simp; done) | (simp; split <;> (try split) <;> omega), by first | (simp; done) | (simp; split <;> (try split) <;> omega), by first | (simp; done) | (simp; omega), by first | (simp; done) | (simp; omega), by first | (simp; done) | (simp; omega), by first | (simp; done) | (simp; omega), by simp, by simp, by first | (simp; done) | (simp; omega), by first | (simp; done) | (simp; omega), by first | (simp; done) | (simp; split <;> (try split) <;> omega), by first | (simp; done) | (simp; split <;> (try split) <;> omega)⟩
    · rw [if_neg ci]; exact ⟨by simp; omega, by simp; omega, by simp; omega, by simp; omega, by simp; omega, by simp; omega, by simp, by simp, by simp [D.immI]; omega, by simp [D.immI]; omega, by simp; omega, by simp; omega⟩
  rw [if_neg c19]
  by_cases c51 : w % 128 = 51
  · rw [if_pos c51]; unfold D.pick7; exact ⟨by first | (simp; done) | (simp; split <;> (try split) <;> omega), by first | (simp; done) | (simp; split <;> (try split) <;> omega), by first | (simp; done) | (simp; omega), by first | (simp; done) | (simp; omega), by first | (simp; done) | (simp; omega), by first | (simp; done) | (simp; omega), by first | (simp; done) | (simp; omega), by first | (simp; done) | (simp; omega), by simp, by simp, by first | (simp; done) | (simp; split <;> (try split) <;> omega), by first | (simp; done) | (simp; split <;> (try split) <;> omega)⟩
  rw [if_neg c51]
  by_cases c15 : w % 128 = 15
  · rw [if_pos c15]; exact ⟨by first | (simp; done) | (simp; omega), by first | (simp; done) | (simp; omega), by simp, by simp, by simp, by simp, by simp, by simp, by simp, by simp, by simp, by simp⟩
  rw [if_neg c15]
  by_cases c115 : w % 128 = 115
  · rw [if_pos c115]
    by_cases e115 : w = 115
    · rw [if_pos e115]; exact ⟨by simp, by simp, by simp, by simp, by simp, by simp, by simp, by simp, by simp, by simp, by simp, by simp⟩
    rw [if_neg e115]
    by_cases e1048691 : w = 1048691
    · rw [if_pos e1048691]; exact ⟨by simp, by simp, by simp, by simp, by simp, by simp, by simp, by simp, by simp, by simp, by simp, by simp⟩
    rw [if_neg e1048691]
    by_cases e270532723 : w = 270532723
    · rw [if_pos e270532723]; exact ⟨by simp, by simp, by simp, by simp, by simp, by simp, by simp, by simp, by simp, by simp, by simp, by simp⟩
    rw [if_neg e270532723]
    by_cases e273678451 : w = 273678451
    · rw [if_pos e273678451]; exact ⟨by simp, by simp, by simp, by simp, by simp, by simp, by simp, by simp, by simp, by simp, by simp, by simp⟩
    rw [if_neg e273678451]
    by_cases e807403635 : w = 807403635
    · rw [if_pos e807403635]; exact ⟨by simp, by simp, by simp, by simp, by simp, by simp, by simp, by simp, by simp, by simp, by simp, by simp⟩
    rw [if_neg e807403635]
    exact ⟨by simp; omega, by simp; omega, by simp; omega, by simp; omega, by simp; omega, by simp; omega, by simp, by simp, by simp; omega, by simp; omega, by simp; omega, by simp; omega⟩
  rw [if_neg c115]
  exact z

theorem rdec_is (w : Int) (op rd r1 r2 imm : Int) (h0 : 0 ≤ w) (h1 : w < 4294967296) (hd : D.dec w = ⟨op, rd, r1, r2, imm⟩) (W : World) :
    Calls Tryz.prog 43 #[.int .u32 w] W fun e W' => e = .returned (.agg #[.int .i64 op, .int .i64 rd, .int .i64 r1, .int .i64 r2, .int .u32 imm]) ∧ Below W.heap.size W W' := by
  refine (D.rdecode_any w W h0 h1).mono ?_
  rintro e W' ⟨⟨op', rd', r1', r2', imm', rfl, he⟩, hb⟩
  rw [hd] at he
  injection he with e1 e2 e3 e4 e5
  subst e1 e2 e3 e4 e5
  exact ⟨rfl, hb⟩
end Go.Proofs.YteiideeechnekaaGreatDoor

/-
  The document's do, by kinds of instructions.
-/
namespace Go.Proofs.YteiideeechnekaaGreatDoor
open Go.RowKit

def xAt (s : RSt) (r : Int) : Int := s.x[r.toNat]?.getD 0
structure Xok (s : RSt) : Prop where
  p0 : 0 ≤ s.pc
  p1 : s.pc < 4294967296
  x : ∀ i : Nat, 0 ≤ s.x[i]?.getD 0 ∧ s.x[i]?.getD 0 < 4294967296

theorem an_bd (x : Int) (h0 : 0 ≤ x) (h1 : x < 4294967296) : 0 ≤ bits .andNot .u32 x 1 ∧ bits .andNot .u32 x 1 < 4294967296 := by
  rw [u32_andNot x 1 h0 h1 (by decide) (by decide)]
  have : x.toNat &&& (4294967295 - (1 : Int).toNat) ≤ x.toNat := Nat.and_le_left
  omega

/-- What a walk of do needs of the world behind Decode. -/
structure DoAt (W W' : World) (p : Nat) (b : RBl) (s : RSt) (op rd r1 r2 imm : Int) (q : Nat) : Prop where
  ref : RefAt W' p b s
  offs : Offs (b.l p) W W'
  c0 : W'.cell? ⟨q, 0, none⟩ = some (.int .i64 op)
  c1 : W'.cell? ⟨q, 1, none⟩ = some (.int .i64 rd)
  c2 : W'.cell? ⟨q, 2, none⟩ = some (.int .i64 r1)
  c3 : W'.cell? ⟨q, 3, none⟩ = some (.int .i64 r2)
  c4 : W'.cell? ⟨q, 4, none⟩ = some (.int .u32 imm)
  out : q ∉ b.l p
theorem doAt_of {W w1 : World} {p : Nat} {b : RBl} {s : RSt} {op rd r1 r2 imm : Int} {t : TypeId} (h : RefAt W p b s) (hb : Below W.heap.size W w1) :
    DoAt W (w1.alloc (.cells #[.int .i64 op, .int .i64 rd, .int .i64 r1, .int .i64 r2, .int .u32 imm] t)) p b s op rd r1 r2 imm w1.heap.size := by
  have l := h.lt
  have hs := hb.size
  have c := fun j => cell_of_row (w1.alloc (.cells #[.int .i64 op, .int .i64 rd, .int .i64 r1, .int .i64 r2, .int .u32 imm] t)) w1.heap.size j _ _ (0, 0) (heap_alloc_new w1 _)
  exact ⟨(h.below hb (Nat.le_refl _)).below ((Below.refl _ _).alloc (Nat.le_refl _) _) (Nat.le_refl _), (Offs.of_below hb).new _, (c 0).trans rfl, (c 1).trans rfl, (c 2).trans rfl, (c 3).trans rfl, (c 4).trans rfl, fun hk => by simp [RBl.l] at hk; omega⟩
set_option maxHeartbeats 4000000 in
set_option maxRecDepth 100000 in
theorem do_none (W : World) (p : Nat) (b : RBl) (s : RSt) (h : RefAt W p b s) (A : b.Apart p) (X : Xok s) (w : Int) (w0 : 0 ≤ w) (w1 : w < 4294967296) (rd r1 r2 imm : Int) (hd : D.dec w = ⟨0, rd, r1, r2, imm⟩) (K : InsOk 0 rd r1 r2 imm) :
    Calls Tryz.prog 32 #[.pointer (some ⟨p, 0, none⟩), .int .u32 w] W (RP W p b (failR s 2 w)) := by
  have HF : Hid (RefAt W p b s) := h
  have HD := rdec_is w 0 rd r1 r2 imm w0 w1 hd W
  have s0 := K.s0
  have s1 := K.s1
  have t0 := K.t0
  have t1 := K.t1
  obtain ⟨n1, rfl⟩ : ∃ n : Nat, r1 = n := ⟨r1.toNat, by omega⟩
  obtain ⟨n2, rfl⟩ : ∃ n : Nat, r2 = n := ⟨r2.toNat, by omega⟩
  obtain ⟨nd, rfl⟩ : ∃ n : Nat, rd = n := ⟨rd.toNat, by have := K.d0; omega⟩
  have xa := X.x n1
  have xb := X.x n2
  have p0 := X.p0
  have p1 := X.p1
  have d1 := K.d1
  have i0 := K.i0
  have i1 := K.i1
  clear h hd
  go_enter Tryz.func32, Tryz.ntmps32
  go_wp2_with fail
  refine HD.mono ?_
  rintro e wd ⟨rfl, hb⟩
  have DA := doAt_of (op := 0) (rd := nd) (r1 := n1) (r2 := n2) (imm := imm) (t := 72) HF.out hb
  have HA : Hid (DoAt W (wd.alloc (.cells #[.int .i64 0, .int .i64 nd, .int .i64 n1, .int .i64 n2, .int .u32 imm] 72)) p b s 0 nd n1 n2 imm wd.heap.size) := DA
  have hq := DA.c0
  have hq1 := DA.c1
  have hq2 := DA.c2
  have hq3 := DA.c3
  have hq4 := DA.c4
  have hx := DA.ref.cx
  have hpc := DA.ref.pc
  have hx1 : (wd.alloc (.cells #[.int .i64 0, .int .i64 nd, .int .i64 n1, .int .i64 n2, .int .u32 imm] 72)).cell? ⟨b.x, n1, none⟩ = some (.int .u32 (s.x[n1]?.getD 0)) := by have := DA.ref.x.cell n1 (by rw [DA.ref.nx]; omega); simpa [List.getD] using this
  have hx2 : (wd.alloc (.cells #[.int .i64 0, .int .i64 nd, .int .i64 n1, .int .i64 n2, .int .u32 imm] 72)).cell? ⟨b.x, n2, none⟩ = some (.int .u32 (s.x[n2]?.getD 0)) := by have := DA.ref.x.cell n2 (by rw [DA.ref.nx]; omega); simpa [List.getD] using this
  clear DA HD HF hb
  go_wp2_with fail
  go_quiet (fail)
  go_wp2_with fail
  go_quiet (fail)
  go_wp2_with (go_at_call 30; refine (fails_any _ p b s (HA.out.ref.drawn _) A 2 (by decide) _).mono ?_; rintro e w2 ⟨rfl, h2, o2⟩)
  go_end0
  exact ⟨rfl, h2, ((HA.out.offs.drawn _).trans o2)⟩
set_option maxHeartbeats 4000000 in
set_option maxRecDepth 100000 in
theorem do_jal (W : World) (p : Nat) (b : RBl) (s : RSt) (h : RefAt W p b s) (A : b.Apart p) (X : Xok s) (w : Int) (w0 : 0 ≤ w) (w1 : w < 4294967296) (rd r1 r2 imm : Int) (hd : D.dec w = ⟨3, rd, r1, r2, imm⟩) (K : InsOk 3 rd r1 r2 imm) :
    Calls Tryz.prog 32 #[.pointer (some ⟨p, 0, none⟩), .int .u32 w] W (RP W p b (jumpR s rd.toNat ((s.pc + imm) % 4294967296))) := by
  have HF : Hid (RefAt W p b s) := h
  have HD := rdec_is w 3 rd r1 r2 imm w0 w1 hd W
  have s0 := K.s0
  have s1 := K.s1
  have t0 := K.t0
  have t1 := K.t1
  obtain ⟨n1, rfl⟩ : ∃ n : Nat, r1 = n := ⟨r1.toNat, by omega⟩
  obtain ⟨n2, rfl⟩ : ∃ n : Nat, r2 = n := ⟨r2.toNat, by omega⟩
  obtain ⟨nd, rfl⟩ : ∃ n : Nat, rd = n := ⟨rd.toNat, by have := K.d0; omega⟩
  have xa := X.x n1
  have xb := X.x n2
  have p0 := X.p0
  have p1 := X.p1
  have d1 := K.d1
  have i0 := K.i0
  have i1 := K.i1
  have wpi : IntKind.u32.wrap (s.pc + imm) = (s.pc + imm) % 4294967296 := IntKind.wrap_u32 _
  clear h hd
  go_enter Tryz.func32, Tryz.ntmps32
  go_wp2_with fail
  refine HD.mono ?_
  rintro e wd ⟨rfl, hb⟩
  have DA := doAt_of (op := 3) (rd := nd) (r1 := n1) (r2 := n2) (imm := imm) (t := 72) HF.out hb
  have HA : Hid (DoAt W (wd.alloc (.cells #[.int .i64 3, .int .i64 nd, .int .i64 n1, .int .i64 n2, .int .u32 imm] 72)) p b s 3 nd n1 n2 imm wd.heap.size) := DA
  have hq := DA.c0
  have hq1 := DA.c1
  have hq2 := DA.c2
  have hq3 := DA.c3
  have hq4 := DA.c4
  have hx := DA.ref.cx
  have hpc := DA.ref.pc
  have hx1 : (wd.alloc (.cells #[.int .i64 3, .int .i64 nd, .int .i64 n1, .int .i64 n2, .int .u32 imm] 72)).cell? ⟨b.x, n1, none⟩ = some (.int .u32 (s.x[n1]?.getD 0)) := by have := DA.ref.x.cell n1 (by rw [DA.ref.nx]; omega); simpa [List.getD] using this
  have hx2 : (wd.alloc (.cells #[.int .i64 3, .int .i64 nd, .int .i64 n1, .int .i64 n2, .int .u32 imm] 72)).cell? ⟨b.x, n2, none⟩ = some (.int .u32 (s.x[n2]?.getD 0)) := by have := DA.ref.x.cell n2 (by rw [DA.ref.nx]; omega); simpa [List.getD] using this
  clear DA HD HF hb
  go_wp2_with fail
  go_quiet (fail)
  go_wp2_with fail
  go_quiet (fail)
  go_wp2_with fail
  go_region_with (go_at_call 59; refine (jump_any _ p b s (HA.out.ref.drawn _) A nd (by omega) _ (by omega)).mono ?_; rintro e w2 ⟨rfl, h2, o2⟩)
  all_goals go_wp2_with fail
  all_goals go_end0
  all_goals exact ⟨rfl, h2, ((HA.out.offs.drawn _).trans o2)⟩
set_option maxHeartbeats 4000000 in
set_option maxRecDepth 100000 in
theorem do_jalr (W : World) (p : Nat) (b : RBl) (s : RSt) (h : RefAt W p b s) (A : b.Apart p) (X : Xok s) (w : Int) (w0 : 0 ≤ w) (w1 : w < 4294967296) (rd r1 r2 imm : Int) (hd : D.dec w = ⟨4, rd, r1, r2, imm⟩) (K : InsOk 4 rd r1 r2 imm) :
    Calls Tryz.prog 32 #[.pointer (some ⟨p, 0, none⟩), .int .u32 w] W (RP W p b (jumpR s rd.toNat (bits .andNot .u32 ((xAt s r1 + imm) % 4294967296) 1))) := by
  have HF : Hid (RefAt W p b s) := h
  have HD := rdec_is w 4 rd r1 r2 imm w0 w1 hd W
  have s0 := K.s0
  have s1 := K.s1
  have t0 := K.t0
  have t1 := K.t1
  obtain ⟨n1, rfl⟩ : ∃ n : Nat, r1 = n := ⟨r1.toNat, by omega⟩
  obtain ⟨n2, rfl⟩ : ∃ n : Nat, r2 = n := ⟨r2.toNat, by omega⟩
  obtain ⟨nd, rfl⟩ : ∃ n : Nat, rd = n := ⟨rd.toNat, by have := K.d0; omega⟩
  have xa := X.x n1
  have xb := X.x n2
  have p0 := X.p0
  have p1 := X.p1
  have d1 := K.d1
  have i0 := K.i0
  have i1 := K.i1
  clear h hd
  go_enter Tryz.func32, Tryz.ntmps32
  go_wp2_with fail
  refine HD.mono ?_
  rintro e wd ⟨rfl, hb⟩
  have DA := doAt_of (op := 4) (rd := nd) (r1 := n1) (r2 := n2) (imm := imm) (t := 72) HF.out hb
  have HA : Hid (DoAt W (wd.alloc (.cells #[.int .i64 4, .int .i64 nd, .int .i64 n1, .int .i64 n2, .int .u32 imm] 72)) p b s 4 nd n1 n2 imm wd.heap.size) := DA
  have hq := DA.c0
  have hq1 := DA.c1
  have hq2 := DA.c2
  have hq3 := DA.c3
  have hq4 := DA.c4
  have hx := DA.ref.cx
  have hpc := DA.ref.pc
  have hx1 : (wd.alloc (.cells #[.int .i64 4, .int .i64 nd, .int .i64 n1, .int .i64 n2, .int .u32 imm] 72)).cell? ⟨b.x, n1, none⟩ = some (.int .u32 (s.x[n1]?.getD 0)) := by have := DA.ref.x.cell n1 (by rw [DA.ref.nx]; omega); simpa [List.getD] using this
  have hx2 : (wd.alloc (.cells #[.int .i64 4, .int .i64 nd, .int .i64 n1, .int .i64 n2, .int .u32 imm] 72)).cell? ⟨b.x, n2, none⟩ = some (.int .u32 (s.x[n2]?.getD 0)) := by have := DA.ref.x.cell n2 (by rw [DA.ref.nx]; omega); simpa [List.getD] using this
  clear DA HD HF hb
  go_wp2_with fail
  go_quiet (fail)
  go_wp2_with fail
  go_quiet (fail)
  go_wp2_with fail
  refine (jump_any _ p b s (HA.out.ref.drawn _) A nd (by omega) _ (an_bd _ (by omega) (by omega)).1).mono ?_
  rintro e w2 ⟨rfl, h2, o2⟩
  go_wp2_with fail
  go_end0
  exact ⟨rfl, h2, ((HA.out.offs.drawn _).trans o2)⟩
set_option maxHeartbeats 4000000 in
set_option maxRecDepth 100000 in
theorem do_br_yes (W : World) (p : Nat) (b : RBl) (s : RSt) (h : RefAt W p b s) (A : b.Apart p) (X : Xok s) (w : Int) (w0 : 0 ≤ w) (w1 : w < 4294967296) (op rd r1 r2 imm : Int) (hd : D.dec w = ⟨op, rd, r1, r2, imm⟩) (K : InsOk op rd r1 r2 imm) (b5 : 5 ≤ op) (b10 : op ≤ 10) (hb : takenB op (xAt s r1) (xAt s r2) = true) :
    Calls Tryz.prog 32 #[.pointer (some ⟨p, 0, none⟩), .int .u32 w] W (RP W p b (jumpR s 0 ((s.pc + imm) % 4294967296))) := by
  have HF : Hid (RefAt W p b s) := h
  have HD := rdec_is w op rd r1 r2 imm w0 w1 hd W
  have s0 := K.s0
  have s1 := K.s1
  have t0 := K.t0
  have t1 := K.t1
  obtain ⟨n1, rfl⟩ : ∃ n : Nat, r1 = n := ⟨r1.toNat, by omega⟩
  obtain ⟨n2, rfl⟩ : ∃ n : Nat, r2 = n := ⟨r2.toNat, by omega⟩
  obtain ⟨nd, rfl⟩ : ∃ n : Nat, rd = n := ⟨rd.toNat, by have := K.d0; omega⟩
  have xa := X.x n1
  have xb := X.x n2
  have p0 := X.p0
  have p1 := X.p1
  have d1 := K.d1
  have i0 := K.i0
  have i1 := K.i1
  have n0 : (op == 0) = false := by simp; omega
  have n3 : (op == 3) = false := by simp; omega
  have n4 : (op == 4) = false := by simp; omega
  have wpi : IntKind.u32.wrap (s.pc + imm) = (s.pc + imm) % 4294967296 := IntKind.wrap_u32 _
  have hb' : takenB op (s.x[n1]?.getD 0) (s.x[n2]?.getD 0) = true := hb
  clear hb
  clear h hd
  go_enter Tryz.func32, Tryz.ntmps32
  go_wp2_with fail
  refine HD.mono ?_
  rintro e wd ⟨rfl, hb⟩
  have DA := doAt_of (op := op) (rd := nd) (r1 := n1) (r2 := n2) (imm := imm) (t := 72) HF.out hb
  have HA : Hid (DoAt W (wd.alloc (.cells #[.int .i64 op, .int .i64 nd, .int .i64 n1, .int .i64 n2, .int .u32 imm] 72)) p b s op nd n1 n2 imm wd.heap.size) := DA
  have hq := DA.c0
  have hq1 := DA.c1
  have hq2 := DA.c2
  have hq3 := DA.c3
  have hq4 := DA.c4
  have hx := DA.ref.cx
  have hpc := DA.ref.pc
  have hx1 : (wd.alloc (.cells #[.int .i64 op, .int .i64 nd, .int .i64 n1, .int .i64 n2, .int .u32 imm] 72)).cell? ⟨b.x, n1, none⟩ = some (.int .u32 (s.x[n1]?.getD 0)) := by have := DA.ref.x.cell n1 (by rw [DA.ref.nx]; omega); simpa [List.getD] using this
  have hx2 : (wd.alloc (.cells #[.int .i64 op, .int .i64 nd, .int .i64 n1, .int .i64 n2, .int .u32 imm] 72)).cell? ⟨b.x, n2, none⟩ = some (.int .u32 (s.x[n2]?.getD 0)) := by have := DA.ref.x.cell n2 (by rw [DA.ref.nx]; omega); simpa [List.getD] using this
  clear DA HD HF hb
  go_wp2_with fail
  go_quiet (fail)
  go_wp2_with fail
  go_quiet (fail)
  go_wp2_with (go_at_call 60; refine (meets_any _ op _ _ (by omega) (by omega) xa.1 xa.2 xb.1 xb.2).mono ?_; rintro e w' ⟨rfl, rfl⟩)
  go_region_with (go_at_call 59; refine (jump_any _ p b s (HA.out.ref.drawn _) A 0 (by decide) _ (by omega)).mono ?_; rintro e w2 ⟨rfl, h2, o2⟩)
  all_goals go_wp2_with fail
  all_goals go_end0
  all_goals exact ⟨rfl, h2, ((HA.out.offs.drawn _).trans o2)⟩
set_option maxHeartbeats 4000000 in
set_option maxRecDepth 100000 in
theorem do_br_no (W : World) (p : Nat) (b : RBl) (s : RSt) (h : RefAt W p b s) (A : b.Apart p) (X : Xok s) (w : Int) (w0 : 0 ≤ w) (w1 : w < 4294967296) (op rd r1 r2 imm : Int) (hd : D.dec w = ⟨op, rd, r1, r2, imm⟩) (K : InsOk op rd r1 r2 imm) (b5 : 5 ≤ op) (b10 : op ≤ 10) (hb : takenB op (xAt s r1) (xAt s r2) = false) :
    Calls Tryz.prog 32 #[.pointer (some ⟨p, 0, none⟩), .int .u32 w] W (RP W p b (next1 s)) := by
  have HF : Hid (RefAt W p b s) := h
  have HD := rdec_is w op rd r1 r2 imm w0 w1 hd W
  have s0 := K.s0
  have s1 := K.s1
  have t0 := K.t0
  have t1 := K.t1
  obtain ⟨n1, rfl⟩ : ∃ n : Nat, r1 = n := ⟨r1.toNat, by omega⟩
  obtain ⟨n2, rfl⟩ : ∃ n : Nat, r2 = n := ⟨r2.toNat, by omega⟩
  obtain ⟨nd, rfl⟩ : ∃ n : Nat, rd = n := ⟨rd.toNat, by have := K.d0; omega⟩
  have xa := X.x n1
  have xb := X.x n2
  have p0 := X.p0
  have p1 := X.p1
  have d1 := K.d1
  have i0 := K.i0
  have i1 := K.i1
  have n0 : (op == 0) = false := by simp; omega
  have n3 : (op == 3) = false := by simp; omega
  have n4 : (op == 4) = false := by simp; omega
  have hb' : takenB op (s.x[n1]?.getD 0) (s.x[n2]?.getD 0) = false := hb
  clear hb
  clear h hd
  go_enter Tryz.func32, Tryz.ntmps32
  go_wp2_with fail
  refine HD.mono ?_
  rintro e wd ⟨rfl, hb⟩
  have DA := doAt_of (op := op) (rd := nd) (r1 := n1) (r2 := n2) (imm := imm) (t := 72) HF.out hb
  have HA : Hid (DoAt W (wd.alloc (.cells #[.int .i64 op, .int .i64 nd, .int .i64 n1, .int .i64 n2, .int .u32 imm] 72)) p b s op nd n1 n2 imm wd.heap.size) := DA
  have hq := DA.c0
  have hq1 := DA.c1
  have hq2 := DA.c2
  have hq3 := DA.c3
  have hq4 := DA.c4
  have hx := DA.ref.cx
  have hpc := DA.ref.pc
  have hfz := DA.ref.fp
  have hx1 : (wd.alloc (.cells #[.int .i64 op, .int .i64 nd, .int .i64 n1, .int .i64 n2, .int .u32 imm] 72)).cell? ⟨b.x, n1, none⟩ = some (.int .u32 (s.x[n1]?.getD 0)) := by have := DA.ref.x.cell n1 (by rw [DA.ref.nx]; omega); simpa [List.getD] using this
  have hx2 : (wd.alloc (.cells #[.int .i64 op, .int .i64 nd, .int .i64 n1, .int .i64 n2, .int .u32 imm] 72)).cell? ⟨b.x, n2, none⟩ = some (.int .u32 (s.x[n2]?.getD 0)) := by have := DA.ref.x.cell n2 (by rw [DA.ref.nx]; omega); simpa [List.getD] using this
  clear DA HD HF hb
  go_wp2_with fail
  go_quiet (fail)
  go_wp2_with fail
  go_quiet (fail)
  go_wp2_with (go_at_call 60; refine (meets_any _ op _ _ (by omega) (by omega) xa.1 xa.2 xb.1 xb.2).mono ?_; rintro e w' ⟨rfl, rfl⟩)
  go_end0
  exact ⟨rfl, ((HA.out.ref.drawn _)).put_pc A _, (HA.out.offs.drawn _).put (by simp [RBl.l]) _⟩
set_option maxHeartbeats 4000000 in
set_option maxRecDepth 100000 in
theorem do_load (W : World) (p : Nat) (b : RBl) (s : RSt) (h : RefAt W p b s) (_A : b.Apart p) (X : Xok s) (w : Int) (w0 : 0 ≤ w) (w1 : w < 4294967296) (op rd r1 r2 imm : Int) (hd : D.dec w = ⟨op, rd, r1, r2, imm⟩) (K : InsOk op rd r1 r2 imm) (b5 : 11 ≤ op) (b10 : op ≤ 15) (st : RSt) (LD : ∀ W', RefAt W' p b s → Calls Tryz.prog 61 #[.pointer (some ⟨p, 0, none⟩), .agg #[.int .i64 op, .int .i64 rd, .int .i64 r1, .int .i64 r2, .int .u32 imm], .int .u32 ((xAt s r1 + imm) % 4294967296)] W' (RP W' p b st)) :
    Calls Tryz.prog 32 #[.pointer (some ⟨p, 0, none⟩), .int .u32 w] W (RP W p b (st)) := by
  have HF : Hid (RefAt W p b s) := h
  have HD := rdec_is w op rd r1 r2 imm w0 w1 hd W
  have s0 := K.s0
  have s1 := K.s1
  have t0 := K.t0
  have t1 := K.t1
  obtain ⟨n1, rfl⟩ : ∃ n : Nat, r1 = n := ⟨r1.toNat, by omega⟩
  obtain ⟨n2, rfl⟩ : ∃ n : Nat, r2 = n := ⟨r2.toNat, by omega⟩
  obtain ⟨nd, rfl⟩ : ∃ n : Nat, rd = n := ⟨rd.toNat, by have := K.d0; omega⟩
  have xa := X.x n1
  have xb := X.x n2
  have p0 := X.p0
  have p1 := X.p1
  have d1 := K.d1
  have i0 := K.i0
  have i1 := K.i1
  have n0 : (op == 0) = false := by simp; omega
  have n3 : (op == 3) = false := by simp; omega
  have n4 : (op == 4) = false := by simp; omega
  have HC : Hid (∀ W', RefAt W' p b s → Calls Tryz.prog 61 #[.pointer (some ⟨p, 0, none⟩), .agg #[.int .i64 op, .int .i64 nd, .int .i64 n1, .int .i64 n2, .int .u32 imm], .int .u32 ((s.x[n1]?.getD 0 + imm) % 4294967296)] W' (RP W' p b st)) := LD
  clear LD
  clear h hd
  go_enter Tryz.func32, Tryz.ntmps32
  go_wp2_with fail
  refine HD.mono ?_
  rintro e wd ⟨rfl, hb⟩
  have DA := doAt_of (op := op) (rd := nd) (r1 := n1) (r2 := n2) (imm := imm) (t := 72) HF.out hb
  have HA : Hid (DoAt W (wd.alloc (.cells #[.int .i64 op, .int .i64 nd, .int .i64 n1, .int .i64 n2, .int .u32 imm] 72)) p b s op nd n1 n2 imm wd.heap.size) := DA
  have hq := DA.c0
  have hq1 := DA.c1
  have hq2 := DA.c2
  have hq3 := DA.c3
  have hq4 := DA.c4
  have hx := DA.ref.cx
  have hpc := DA.ref.pc
  have hx1 : (wd.alloc (.cells #[.int .i64 op, .int .i64 nd, .int .i64 n1, .int .i64 n2, .int .u32 imm] 72)).cell? ⟨b.x, n1, none⟩ = some (.int .u32 (s.x[n1]?.getD 0)) := by have := DA.ref.x.cell n1 (by rw [DA.ref.nx]; omega); simpa [List.getD] using this
  have hx2 : (wd.alloc (.cells #[.int .i64 op, .int .i64 nd, .int .i64 n1, .int .i64 n2, .int .u32 imm] 72)).cell? ⟨b.x, n2, none⟩ = some (.int .u32 (s.x[n2]?.getD 0)) := by have := DA.ref.x.cell n2 (by rw [DA.ref.nx]; omega); simpa [List.getD] using this
  clear DA HD HF hb
  go_wp2_with fail
  go_quiet (fail)
  go_wp2_with fail
  go_quiet (fail)
  go_wp2_with fail
  refine (HC.out _ (HA.out.ref.drawn _)).mono ?_
  rintro e w2 ⟨rfl, h2, o2⟩
  go_wp2_with fail
  go_end0
  exact ⟨rfl, h2, ((HA.out.offs.drawn _).trans o2)⟩
set_option maxHeartbeats 4000000 in
set_option maxRecDepth 100000 in
theorem do_store (W : World) (p : Nat) (b : RBl) (s : RSt) (h : RefAt W p b s) (_A : b.Apart p) (X : Xok s) (w : Int) (w0 : 0 ≤ w) (w1 : w < 4294967296) (op rd r1 r2 imm : Int) (hd : D.dec w = ⟨op, rd, r1, r2, imm⟩) (K : InsOk op rd r1 r2 imm) (b5 : 16 ≤ op) (b10 : op ≤ 18) (st : RSt) (LD : ∀ W', RefAt W' p b s → Calls Tryz.prog 62 #[.pointer (some ⟨p, 0, none⟩), .int .i64 op, .int .u32 ((xAt s r1 + imm) % 4294967296), .int .u32 (xAt s r2)] W' (RP W' p b st)) :
    Calls Tryz.prog 32 #[.pointer (some ⟨p, 0, none⟩), .int .u32 w] W (RP W p b (st)) := by
  have HF : Hid (RefAt W p b s) := h
  have HD := rdec_is w op rd r1 r2 imm w0 w1 hd W
  have s0 := K.s0
  have s1 := K.s1
  have t0 := K.t0
  have t1 := K.t1
  obtain ⟨n1, rfl⟩ : ∃ n : Nat, r1 = n := ⟨r1.toNat, by omega⟩
  obtain ⟨n2, rfl⟩ : ∃ n : Nat, r2 = n := ⟨r2.toNat, by omega⟩
  obtain ⟨nd, rfl⟩ : ∃ n : Nat, rd = n := ⟨rd.toNat, by have := K.d0; omega⟩
  have xa := X.x n1
  have xb := X.x n2
  have p0 := X.p0
  have p1 := X.p1
  have d1 := K.d1
  have i0 := K.i0
  have i1 := K.i1
  have n0 : (op == 0) = false := by simp; omega
  have n3 : (op == 3) = false := by simp; omega
  have n4 : (op == 4) = false := by simp; omega
  have HC : Hid (∀ W', RefAt W' p b s → Calls Tryz.prog 62 #[.pointer (some ⟨p, 0, none⟩), .int .i64 op, .int .u32 ((s.x[n1]?.getD 0 + imm) % 4294967296), .int .u32 (s.x[n2]?.getD 0)] W' (RP W' p b st)) := LD
  clear LD
  clear h hd
  go_enter Tryz.func32, Tryz.ntmps32
  go_wp2_with fail
  refine HD.mono ?_
  rintro e wd ⟨rfl, hb⟩
  have DA := doAt_of (op := op) (rd := nd) (r1 := n1) (r2 := n2) (imm := imm) (t := 72) HF.out hb
  have HA : Hid (DoAt W (wd.alloc (.cells #[.int .i64 op, .int .i64 nd, .int .i64 n1, .int .i64 n2, .int .u32 imm] 72)) p b s op nd n1 n2 imm wd.heap.size) := DA
  have hq := DA.c0
  have hq1 := DA.c1
  have hq2 := DA.c2
  have hq3 := DA.c3
  have hq4 := DA.c4
  have hx := DA.ref.cx
  have hpc := DA.ref.pc
  have hx1 : (wd.alloc (.cells #[.int .i64 op, .int .i64 nd, .int .i64 n1, .int .i64 n2, .int .u32 imm] 72)).cell? ⟨b.x, n1, none⟩ = some (.int .u32 (s.x[n1]?.getD 0)) := by have := DA.ref.x.cell n1 (by rw [DA.ref.nx]; omega); simpa [List.getD] using this
  have hx2 : (wd.alloc (.cells #[.int .i64 op, .int .i64 nd, .int .i64 n1, .int .i64 n2, .int .u32 imm] 72)).cell? ⟨b.x, n2, none⟩ = some (.int .u32 (s.x[n2]?.getD 0)) := by have := DA.ref.x.cell n2 (by rw [DA.ref.nx]; omega); simpa [List.getD] using this
  clear DA HD HF hb
  go_wp2_with fail
  go_quiet (fail)
  go_wp2_with fail
  go_quiet (fail)
  go_wp2_with fail
  refine (HC.out _ (HA.out.ref.drawn _)).mono ?_
  rintro e w2 ⟨rfl, h2, o2⟩
  go_wp2_with fail
  go_end0
  exact ⟨rfl, h2, ((HA.out.offs.drawn _).trans o2)⟩
set_option maxHeartbeats 4000000 in
set_option maxRecDepth 100000 in
theorem do_ctl (W : World) (p : Nat) (b : RBl) (s : RSt) (h : RefAt W p b s) (_A : b.Apart p) (X : Xok s) (w : Int) (w0 : 0 ≤ w) (w1 : w < 4294967296) (op rd r1 r2 imm : Int) (hd : D.dec w = ⟨op, rd, r1, r2, imm⟩) (K : InsOk op rd r1 r2 imm) (b5 : 44 ≤ op) (st : RSt) (LD : ∀ W', RefAt W' p b s → Calls Tryz.prog 63 #[.pointer (some ⟨p, 0, none⟩), .agg #[.int .i64 op, .int .i64 rd, .int .i64 r1, .int .i64 r2, .int .u32 imm], .int .u32 w, .int .u32 (xAt s r1)] W' (RP W' p b st)) :
    Calls Tryz.prog 32 #[.pointer (some ⟨p, 0, none⟩), .int .u32 w] W (RP W p b (st)) := by
  have HF : Hid (RefAt W p b s) := h
  have HD := rdec_is w op rd r1 r2 imm w0 w1 hd W
  have s0 := K.s0
  have s1 := K.s1
  have t0 := K.t0
  have t1 := K.t1
  obtain ⟨n1, rfl⟩ : ∃ n : Nat, r1 = n := ⟨r1.toNat, by omega⟩
  obtain ⟨n2, rfl⟩ : ∃ n : Nat, r2 = n := ⟨r2.toNat, by omega⟩
  obtain ⟨nd, rfl⟩ : ∃ n : Nat, rd = n := ⟨rd.toNat, by have := K.d0; omega⟩
  have xa := X.x n1
  have xb := X.x n2
  have p0 := X.p0
  have p1 := X.p1
  have d1 := K.d1
  have i0 := K.i0
  have i1 := K.i1
  have n0 : (op == 0) = false := by simp; omega
  have n3 : (op == 3) = false := by simp; omega
  have n4 : (op == 4) = false := by simp; omega
  have HC : Hid (∀ W', RefAt W' p b s → Calls Tryz.prog 63 #[.pointer (some ⟨p, 0, none⟩), .agg #[.int .i64 op, .int .i64 nd, .int .i64 n1, .int .i64 n2, .int .u32 imm], .int .u32 w, .int .u32 (s.x[n1]?.getD 0)] W' (RP W' p b st)) := LD
  clear LD
  clear h hd
  go_enter Tryz.func32, Tryz.ntmps32
  go_wp2_with fail
  refine HD.mono ?_
  rintro e wd ⟨rfl, hb⟩
  have DA := doAt_of (op := op) (rd := nd) (r1 := n1) (r2 := n2) (imm := imm) (t := 72) HF.out hb
  have HA : Hid (DoAt W (wd.alloc (.cells #[.int .i64 op, .int .i64 nd, .int .i64 n1, .int .i64 n2, .int .u32 imm] 72)) p b s op nd n1 n2 imm wd.heap.size) := DA
  have hq := DA.c0
  have hq1 := DA.c1
  have hq2 := DA.c2
  have hq3 := DA.c3
  have hq4 := DA.c4
  have hx := DA.ref.cx
  have hpc := DA.ref.pc
  have hx1 : (wd.alloc (.cells #[.int .i64 op, .int .i64 nd, .int .i64 n1, .int .i64 n2, .int .u32 imm] 72)).cell? ⟨b.x, n1, none⟩ = some (.int .u32 (s.x[n1]?.getD 0)) := by have := DA.ref.x.cell n1 (by rw [DA.ref.nx]; omega); simpa [List.getD] using this
  have hx2 : (wd.alloc (.cells #[.int .i64 op, .int .i64 nd, .int .i64 n1, .int .i64 n2, .int .u32 imm] 72)).cell? ⟨b.x, n2, none⟩ = some (.int .u32 (s.x[n2]?.getD 0)) := by have := DA.ref.x.cell n2 (by rw [DA.ref.nx]; omega); simpa [List.getD] using this
  clear DA HD HF hb
  go_wp2_with fail
  go_quiet (fail)
  go_wp2_with fail
  go_quiet (fail)
  go_wp2_with fail
  refine (HC.out _ (HA.out.ref.drawn _)).mono ?_
  rintro e w2 ⟨rfl, h2, o2⟩
  go_wp2_with fail
  go_end0
  exact ⟨rfl, h2, ((HA.out.offs.drawn _).trans o2)⟩
set_option maxHeartbeats 4000000 in
set_option maxRecDepth 100000 in
theorem do_lev (W : World) (p : Nat) (b : RBl) (s : RSt) (h : RefAt W p b s) (_A : b.Apart p) (X : Xok s) (w : Int) (w0 : 0 ≤ w) (w1 : w < 4294967296) (op rd r1 r2 imm : Int) (hd : D.dec w = ⟨op, rd, r1, r2, imm⟩) (K : InsOk op rd r1 r2 imm) (b5 : 39 ≤ op) (b10 : op ≤ 43) (st : RSt) (LD : ∀ W', RefAt W' p b s → Calls Tryz.prog 64 #[.pointer (some ⟨p, 0, none⟩), .int .i64 op, .int .u32 w] W' (RP W' p b st)) :
    Calls Tryz.prog 32 #[.pointer (some ⟨p, 0, none⟩), .int .u32 w] W (RP W p b (st)) := by
  have HF : Hid (RefAt W p b s) := h
  have HD := rdec_is w op rd r1 r2 imm w0 w1 hd W
  have s0 := K.s0
  have s1 := K.s1
  have t0 := K.t0
  have t1 := K.t1
  obtain ⟨n1, rfl⟩ : ∃ n : Nat, r1 = n := ⟨r1.toNat, by omega⟩
  obtain ⟨n2, rfl⟩ : ∃ n : Nat, r2 = n := ⟨r2.toNat, by omega⟩
  obtain ⟨nd, rfl⟩ : ∃ n : Nat, rd = n := ⟨rd.toNat, by have := K.d0; omega⟩
  have xa := X.x n1
  have xb := X.x n2
  have p0 := X.p0
  have p1 := X.p1
  have d1 := K.d1
  have i0 := K.i0
  have i1 := K.i1
  have n0 : (op == 0) = false := by simp; omega
  have n3 : (op == 3) = false := by simp; omega
  have n4 : (op == 4) = false := by simp; omega
  have HC : Hid (∀ W', RefAt W' p b s → Calls Tryz.prog 64 #[.pointer (some ⟨p, 0, none⟩), .int .i64 op, .int .u32 w] W' (RP W' p b st)) := LD
  clear LD
  clear h hd
  go_enter Tryz.func32, Tryz.ntmps32
  go_wp2_with fail
  refine HD.mono ?_
  rintro e wd ⟨rfl, hb⟩
  have DA := doAt_of (op := op) (rd := nd) (r1 := n1) (r2 := n2) (imm := imm) (t := 72) HF.out hb
  have HA : Hid (DoAt W (wd.alloc (.cells #[.int .i64 op, .int .i64 nd, .int .i64 n1, .int .i64 n2, .int .u32 imm] 72)) p b s op nd n1 n2 imm wd.heap.size) := DA
  have hq := DA.c0
  have hq1 := DA.c1
  have hq2 := DA.c2
  have hq3 := DA.c3
  have hq4 := DA.c4
  have hx := DA.ref.cx
  have hpc := DA.ref.pc
  have hx1 : (wd.alloc (.cells #[.int .i64 op, .int .i64 nd, .int .i64 n1, .int .i64 n2, .int .u32 imm] 72)).cell? ⟨b.x, n1, none⟩ = some (.int .u32 (s.x[n1]?.getD 0)) := by have := DA.ref.x.cell n1 (by rw [DA.ref.nx]; omega); simpa [List.getD] using this
  have hx2 : (wd.alloc (.cells #[.int .i64 op, .int .i64 nd, .int .i64 n1, .int .i64 n2, .int .u32 imm] 72)).cell? ⟨b.x, n2, none⟩ = some (.int .u32 (s.x[n2]?.getD 0)) := by have := DA.ref.x.cell n2 (by rw [DA.ref.nx]; omega); simpa [List.getD] using this
  clear DA HD HF hb
  go_wp2_with fail
  go_quiet (fail)
  go_wp2_with fail
  go_quiet (fail)
  go_wp2_with fail
  refine (HC.out _ (HA.out.ref.drawn _)).mono ?_
  rintro e w2 ⟨rfl, h2, o2⟩
  go_wp2_with fail
  go_end0
  exact ⟨rfl, h2, ((HA.out.offs.drawn _).trans o2)⟩
set_option maxHeartbeats 4000000 in
set_option maxRecDepth 100000 in
theorem do_lui (W : World) (p : Nat) (b : RBl) (s : RSt) (h : RefAt W p b s) (A : b.Apart p) (X : Xok s) (w : Int) (w0 : 0 ≤ w) (w1 : w < 4294967296) (rd r1 r2 imm : Int) (hd : D.dec w = ⟨1, rd, r1, r2, imm⟩) (K : InsOk 1 rd r1 r2 imm) :
    Calls Tryz.prog 32 #[.pointer (some ⟨p, 0, none⟩), .int .u32 w] W (RP W p b (next1 (putR s rd.toNat (sumV 1 (xAt s r1) (xAt s r2) imm s.pc)))) := by
  have HF : Hid (RefAt W p b s) := h
  have HD := rdec_is w 1 rd r1 r2 imm w0 w1 hd W
  have s0 := K.s0
  have s1 := K.s1
  have t0 := K.t0
  have t1 := K.t1
  obtain ⟨n1, rfl⟩ : ∃ n : Nat, r1 = n := ⟨r1.toNat, by omega⟩
  obtain ⟨n2, rfl⟩ : ∃ n : Nat, r2 = n := ⟨r2.toNat, by omega⟩
  obtain ⟨nd, rfl⟩ : ∃ n : Nat, rd = n := ⟨rd.toNat, by have := K.d0; omega⟩
  have xa := X.x n1
  have xb := X.x n2
  have p0 := X.p0
  have p1 := X.p1
  have d1 := K.d1
  have i0 := K.i0
  have i1 := K.i1
  clear h hd
  go_enter Tryz.func32, Tryz.ntmps32
  go_wp2_with fail
  refine HD.mono ?_
  rintro e wd ⟨rfl, hb⟩
  have DA := doAt_of (op := 1) (rd := nd) (r1 := n1) (r2 := n2) (imm := imm) (t := 72) HF.out hb
  have HA : Hid (DoAt W (wd.alloc (.cells #[.int .i64 1, .int .i64 nd, .int .i64 n1, .int .i64 n2, .int .u32 imm] 72)) p b s 1 nd n1 n2 imm wd.heap.size) := DA
  have hq := DA.c0
  have hq1 := DA.c1
  have hq2 := DA.c2
  have hq3 := DA.c3
  have hq4 := DA.c4
  have hx := DA.ref.cx
  have hpc := DA.ref.pc
  have hx1 : (wd.alloc (.cells #[.int .i64 1, .int .i64 nd, .int .i64 n1, .int .i64 n2, .int .u32 imm] 72)).cell? ⟨b.x, n1, none⟩ = some (.int .u32 (s.x[n1]?.getD 0)) := by have := DA.ref.x.cell n1 (by rw [DA.ref.nx]; omega); simpa [List.getD] using this
  have hx2 : (wd.alloc (.cells #[.int .i64 1, .int .i64 nd, .int .i64 n1, .int .i64 n2, .int .u32 imm] 72)).cell? ⟨b.x, n2, none⟩ = some (.int .u32 (s.x[n2]?.getD 0)) := by have := DA.ref.x.cell n2 (by rw [DA.ref.nx]; omega); simpa [List.getD] using this
  clear DA HD HF hb
  go_wp2_with fail
  go_quiet (fail)
  go_wp2_with fail
  go_quiet (fail)
  go_wp2_with fail
  go_region_with (go_at_call 65; refine (sum_any _ 1 _ _ _ imm _ _ _ (by omega) xa.1 xa.2 xb.1 xb.2 i0 i1).mono ?_; rintro e ws ⟨rfl, hbs⟩)
  all_goals
    have RS := ((HA.out.ref.drawn _)).below hbs (Nat.le_refl _)
    have OS := (HA.out.offs.drawn _).trans (Offs.of_below hbs)
    have ds := (hbs.cell (p := ⟨wd.heap.size, 1, none⟩) (World.block_lt_of_cell? _ _ hq1)).trans hq1
    clear hbs
    go_wp2_with (go_at_call 66; refine (put_any _ p b s RS A nd (by omega) _).mono ?_; rintro e w2 ⟨rfl, h2, o2⟩; have c9 := h2.pc; have f9 := h2.fp)
    go_end0
    exact ⟨rfl, h2.put_pc A _, (OS.trans o2).put (by simp [RBl.l]) _⟩
set_option maxHeartbeats 4000000 in
set_option maxRecDepth 100000 in
theorem do_auipc (W : World) (p : Nat) (b : RBl) (s : RSt) (h : RefAt W p b s) (A : b.Apart p) (X : Xok s) (w : Int) (w0 : 0 ≤ w) (w1 : w < 4294967296) (rd r1 r2 imm : Int) (hd : D.dec w = ⟨2, rd, r1, r2, imm⟩) (K : InsOk 2 rd r1 r2 imm) :
    Calls Tryz.prog 32 #[.pointer (some ⟨p, 0, none⟩), .int .u32 w] W (RP W p b (next1 (putR s rd.toNat (sumV 2 (xAt s r1) (xAt s r2) imm s.pc)))) := by
  have HF : Hid (RefAt W p b s) := h
  have HD := rdec_is w 2 rd r1 r2 imm w0 w1 hd W
  have s0 := K.s0
  have s1 := K.s1
  have t0 := K.t0
  have t1 := K.t1
  obtain ⟨n1, rfl⟩ : ∃ n : Nat, r1 = n := ⟨r1.toNat, by omega⟩
  obtain ⟨n2, rfl⟩ : ∃ n : Nat, r2 = n := ⟨r2.toNat, by omega⟩
  obtain ⟨nd, rfl⟩ : ∃ n : Nat, rd = n := ⟨rd.toNat, by have := K.d0; omega⟩
  have xa := X.x n1
  have xb := X.x n2
  have p0 := X.p0
  have p1 := X.p1
  have d1 := K.d1
  have i0 := K.i0
  have i1 := K.i1
  clear h hd
  go_enter Tryz.func32, Tryz.ntmps32
  go_wp2_with fail
  refine HD.mono ?_
  rintro e wd ⟨rfl, hb⟩
  have DA := doAt_of (op := 2) (rd := nd) (r1 := n1) (r2 := n2) (imm := imm) (t := 72) HF.out hb
  have HA : Hid (DoAt W (wd.alloc (.cells #[.int .i64 2, .int .i64 nd, .int .i64 n1, .int .i64 n2, .int .u32 imm] 72)) p b s 2 nd n1 n2 imm wd.heap.size) := DA
  have hq := DA.c0
  have hq1 := DA.c1
  have hq2 := DA.c2
  have hq3 := DA.c3
  have hq4 := DA.c4
  have hx := DA.ref.cx
  have hpc := DA.ref.pc
  have hx1 : (wd.alloc (.cells #[.int .i64 2, .int .i64 nd, .int .i64 n1, .int .i64 n2, .int .u32 imm] 72)).cell? ⟨b.x, n1, none⟩ = some (.int .u32 (s.x[n1]?.getD 0)) := by have := DA.ref.x.cell n1 (by rw [DA.ref.nx]; omega); simpa [List.getD] using this
  have hx2 : (wd.alloc (.cells #[.int .i64 2, .int .i64 nd, .int .i64 n1, .int .i64 n2, .int .u32 imm] 72)).cell? ⟨b.x, n2, none⟩ = some (.int .u32 (s.x[n2]?.getD 0)) := by have := DA.ref.x.cell n2 (by rw [DA.ref.nx]; omega); simpa [List.getD] using this
  clear DA HD HF hb
  go_wp2_with fail
  go_quiet (fail)
  go_wp2_with fail
  go_quiet (fail)
  go_wp2_with fail
  go_region_with (go_at_call 65; refine (sum_any _ 2 _ _ _ imm _ _ _ (by omega) xa.1 xa.2 xb.1 xb.2 i0 i1).mono ?_; rintro e ws ⟨rfl, hbs⟩)
  all_goals
    have RS := ((HA.out.ref.drawn _)).below hbs (Nat.le_refl _)
    have OS := (HA.out.offs.drawn _).trans (Offs.of_below hbs)
    have ds := (hbs.cell (p := ⟨wd.heap.size, 1, none⟩) (World.block_lt_of_cell? _ _ hq1)).trans hq1
    clear hbs
    go_wp2_with (go_at_call 66; refine (put_any _ p b s RS A nd (by omega) _).mono ?_; rintro e w2 ⟨rfl, h2, o2⟩; have c9 := h2.pc; have f9 := h2.fp)
    go_end0
    exact ⟨rfl, h2.put_pc A _, (OS.trans o2).put (by simp [RBl.l]) _⟩
set_option maxHeartbeats 4000000 in
set_option maxRecDepth 100000 in
theorem do_sum (W : World) (p : Nat) (b : RBl) (s : RSt) (h : RefAt W p b s) (A : b.Apart p) (X : Xok s) (w : Int) (w0 : 0 ≤ w) (w1 : w < 4294967296) (op rd r1 r2 imm : Int) (hd : D.dec w = ⟨op, rd, r1, r2, imm⟩) (K : InsOk op rd r1 r2 imm) (b5 : 19 ≤ op) (b10 : op ≤ 38) :
    Calls Tryz.prog 32 #[.pointer (some ⟨p, 0, none⟩), .int .u32 w] W (RP W p b (next1 (putR s rd.toNat (sumV op (xAt s r1) (xAt s r2) imm s.pc)))) := by
  have HF : Hid (RefAt W p b s) := h
  have HD := rdec_is w op rd r1 r2 imm w0 w1 hd W
  have s0 := K.s0
  have s1 := K.s1
  have t0 := K.t0
  have t1 := K.t1
  obtain ⟨n1, rfl⟩ : ∃ n : Nat, r1 = n := ⟨r1.toNat, by omega⟩
  obtain ⟨n2, rfl⟩ : ∃ n : Nat, r2 = n := ⟨r2.toNat, by omega⟩
  obtain ⟨nd, rfl⟩ : ∃ n : Nat, rd = n := ⟨rd.toNat, by have := K.d0; omega⟩
  have xa := X.x n1
  have xb := X.x n2
  have p0 := X.p0
  have p1 := X.p1
  have d1 := K.d1
  have i0 := K.i0
  have i1 := K.i1
  have n0 : (op == 0) = false := by simp; omega
  have n3 : (op == 3) = false := by simp; omega
  have n4 : (op == 4) = false := by simp; omega
  clear h hd
  go_enter Tryz.func32, Tryz.ntmps32
  go_wp2_with fail
  refine HD.mono ?_
  rintro e wd ⟨rfl, hb⟩
  have DA := doAt_of (op := op) (rd := nd) (r1 := n1) (r2 := n2) (imm := imm) (t := 72) HF.out hb
  have HA : Hid (DoAt W (wd.alloc (.cells #[.int .i64 op, .int .i64 nd, .int .i64 n1, .int .i64 n2, .int .u32 imm] 72)) p b s op nd n1 n2 imm wd.heap.size) := DA
  have hq := DA.c0
  have hq1 := DA.c1
  have hq2 := DA.c2
  have hq3 := DA.c3
  have hq4 := DA.c4
  have hx := DA.ref.cx
  have hpc := DA.ref.pc
  have hx1 : (wd.alloc (.cells #[.int .i64 op, .int .i64 nd, .int .i64 n1, .int .i64 n2, .int .u32 imm] 72)).cell? ⟨b.x, n1, none⟩ = some (.int .u32 (s.x[n1]?.getD 0)) := by have := DA.ref.x.cell n1 (by rw [DA.ref.nx]; omega); simpa [List.getD] using this
  have hx2 : (wd.alloc (.cells #[.int .i64 op, .int .i64 nd, .int .i64 n1, .int .i64 n2, .int .u32 imm] 72)).cell? ⟨b.x, n2, none⟩ = some (.int .u32 (s.x[n2]?.getD 0)) := by have := DA.ref.x.cell n2 (by rw [DA.ref.nx]; omega); simpa [List.getD] using this
  clear DA HD HF hb
  go_wp2_with fail
  go_quiet (fail)
  go_wp2_with fail
  go_quiet (fail)
  go_wp2_with fail
  go_region_with (go_at_call 65; refine (sum_any _ op _ _ _ imm _ _ _ (by omega) xa.1 xa.2 xb.1 xb.2 i0 i1).mono ?_; rintro e ws ⟨rfl, hbs⟩)
  all_goals
    have RS := ((HA.out.ref.drawn _)).below hbs (Nat.le_refl _)
    have OS := (HA.out.offs.drawn _).trans (Offs.of_below hbs)
    have ds := (hbs.cell (p := ⟨wd.heap.size, 1, none⟩) (World.block_lt_of_cell? _ _ hq1)).trans hq1
    clear hbs
    go_wp2_with (go_at_call 66; refine (put_any _ p b s RS A nd (by omega) _).mono ?_; rintro e w2 ⟨rfl, h2, o2⟩; have c9 := h2.pc; have f9 := h2.fp)
    go_end0
    exact ⟨rfl, h2.put_pc A _, (OS.trans o2).put (by simp [RBl.l]) _⟩
end Go.Proofs.YteiideeechnekaaGreatDoor
