/-
  The document's do: plain instructions.
-/
import Derived.Test.YtfdokajjlkcdgaaGreatDoorRefSum
import Derived.Test.YtfdokajjlkcdgaaGreatDoorDRefDecode
namespace Go.Proofs.YtfdokajjlkcdgaaGreatDoor
open Go.RowKit

structure InsOk (op rd r1 r2 imm : Int) : Prop where
  o0 : 0 ≤ op
  o1 : op ≤ 49
  d0 : 0 ≤ rd
  d1 : rd < 32
  s0 : 0 ≤ r1
  s1 : r1 < 32
  t0 : 0 ≤ r2
  t1 : r2 < 32
  i0 : 0 ≤ imm
  i1 : imm < 4294967296
  cs : 44 ≤ op → imm < 4096
  fe : op = 38 → rd = 0
def Ok (d : D.Ins) : Prop := InsOk d.op d.rd d.r1 d.r2 d.imm
theorem tabs_ok : ∀ f : Fin 8, (D.tJ f = 0 ∨ D.tJ f = 4) ∧ (D.tB f = 0 ∨ 5 ≤ D.tB f ∧ D.tB f ≤ 10) ∧ (D.tL f = 0 ∨ 11 ≤ D.tL f ∧ D.tL f ≤ 15) ∧ (D.tS f = 0 ∨ 16 ≤ D.tS f ∧ D.tS f ≤ 18) ∧ (D.tF f = 0 ∨ D.tF f = 38) ∧ (D.tI f = 0 ∨ 19 ≤ D.tI f ∧ D.tI f ≤ 24) ∧ (D.tH0 f = 0 ∨ 25 ≤ D.tH0 f ∧ D.tH0 f ≤ 26) ∧ (D.tH2 f = 0 ∨ D.tH2 f = 27) ∧ (28 ≤ D.tR0 f ∧ D.tR0 f ≤ 37) ∧ (D.tR2 f = 0 ∨ 28 ≤ D.tR2 f ∧ D.tR2 f ≤ 37) ∧ (D.tC f = 0 ∨ 44 ≤ D.tC f ∧ D.tC f ≤ 49) := by decide
theorem dec_ok (w : Int) (h0 : 0 ≤ w) (h1 : w < 4294967296) : InsOk (D.dec w).op (D.dec w).rd (D.dec w).r1 (D.dec w).r2 (D.dec w).imm := by
  have hf := tabs_ok ⟨D.f3 w, D.f3_lt w⟩
  simp only at hf
  obtain ⟨a1, a2, a3, a4, a5, a6, a7, a8, a9, a10, a11⟩ := hf
  have z : Ok D.Ins.zero := ⟨by decide, by decide, by decide, by decide, by decide, by decide, by decide, by decide, by decide, by decide, fun h => by revert h; decide, fun _ => rfl⟩
  show Ok (D.dec w)
  unfold D.dec
  by_cases hz : (D.apartI w).op = 0
  · rw [if_pos hz]; exact z
  rw [if_neg hz]
  clear hz
  unfold D.apartI
  by_cases c55 : w % 128 = 55
  · rw [if_pos c55]; exact ⟨by simp, by simp, by simp; omega, by simp; omega, by simp, by simp, by simp, by simp, by simp; omega, by simp; omega, by simp, by simp⟩
  rw [if_neg c55]
  by_cases c23 : w % 128 = 23
  · rw [if_pos c23]; exact ⟨by simp, by simp, by simp; omega, by simp; omega, by simp, by simp, by simp, by simp, by simp; omega, by simp; omega, by simp, by simp⟩
  rw [if_neg c23]
  by_cases c111 : w % 128 = 111
  · rw [if_pos c111]; exact ⟨by simp, by simp, by simp; omega, by simp; omega, by simp, by simp, by simp, by simp, by simp [D.immJ]; omega, by simp [D.immJ]; omega, by simp, by simp⟩
  rw [if_neg c111]
  by_cases c103 : w % 128 = 103
  · rw [if_pos c103]; exact ⟨by simp; omega, by simp; omega, by simp; omega, by simp; omega, by simp; omega, by simp; omega, by simp, by simp, by simp [D.immI]; omega, by simp [D.immI]; omega, by simp; omega, by simp; omega⟩
  rw [if_neg c103]
  by_cases c99 : w % 128 = 99
  · rw [if_pos c99]; exact ⟨by simp; omega, by simp; omega, by simp, by simp, by simp; omega, by simp; omega, by simp; omega, by simp; omega, by simp [D.immB]; omega, by simp [D.immB]; omega, by simp; omega, by simp⟩
  rw [if_neg c99]
  by_cases c3 : w % 128 = 3
  · rw [if_pos c3]; exact ⟨by simp; omega, by simp; omega, by simp; omega, by simp; omega, by simp; omega, by simp; omega, by simp, by simp, by simp [D.immI]; omega, by simp [D.immI]; omega, by simp; omega, by simp; omega⟩
  rw [if_neg c3]
  by_cases c35 : w % 128 = 35
  · rw [if_pos c35]; exact ⟨by simp; omega, by simp; omega, by simp, by simp, by simp; omega, by simp; omega, by simp; omega, by simp; omega, by simp [D.immS]; omega, by simp [D.immS]; omega, by simp; omega, by simp⟩
  rw [if_neg c35]
  by_cases c19 : w % 128 = 19
  · rw [if_pos c19]
    by_cases ci : D.tI (D.f3 w) = 0
    · rw [if_pos ci]; unfold D.pick7; exact ⟨by first | (simp; done) | (simp; split <;> (try split) <;> omega), by first | (simp; done) | (simp; split <;> (try split) <;> omega), by first | (simp; done) | (simp; omega), by first | (simp; done) | (simp; omega), by first | (simp; done) | (simp; omega), by first | (simp; done) | (simp; omega), by simp, by simp, by first | (simp; done) | (simp; omega), by first | (simp; done) | (simp; omega), by first | (simp; done) | (simp; split <;> (try split) <;> omega), by first | (simp; done) | (simp; split <;> (try split) <;> omega)⟩
    · rw [if_neg ci]; exact ⟨by simp; omega, by simp; omega, by simp; omega, by simp; omega, by simp; omega, by simp; omega, by simp, by simp, by simp [D.immI]; omega, by simp [D.immI]; omega, by simp; omega, by simp; omega⟩
  rw [if_neg c19]
  by_cases c51 : w % 128 = 51
  · rw [if_pos c51]; unfold D.pick7; exact ⟨by first | (simp; done) | (simp; split <;> (try split) <;> omega), by first | (simp; done) | (simp; split <;> (try split) <;> omega), by first | (simp; done) | (simp; omega), by first | (simp; done) | (simp; omega), by first | (simp; done) | (simp; omega), by first | (simp; done) | (simp; omega), by first | (simp; done) | (simp; omega), by first | (simp; done) | (simp; omega), by simp, by simp, by first | (simp; done) | (simp; split <;> (try split) <;> omega), by first | (simp; done) | (simp; split <;> (try split) <;> omega)⟩
  rw [if_neg c51]
  by_cases c15 : w % 128 = 15
  · rw [if_pos c15]; exact ⟨by first | (simp; done) | (simp; omega), by first | (simp; done) | (simp; omega), by simp, by simp, by simp, by simp, by simp, by simp, by simp, by simp, by simp, by simp⟩
  rw [if_neg c15]
  by_cases c115 : w % 128 = 115
  · rw [if_pos c115]
    by_cases e115 : w = 115
    · rw [if_pos e115]; exact ⟨by simp, by simp, by simp, by simp, by simp, by simp, by simp, by simp, by simp, by simp, by simp, by simp⟩
    rw [if_neg e115]
    by_cases e1048691 : w = 1048691
    · rw [if_pos e1048691]; exact ⟨by simp, by simp, by simp, by simp, by simp, by simp, by simp, by simp, by simp, by simp, by simp, by simp⟩
    rw [if_neg e1048691]
    by_cases e270532723 : w = 270532723
    · rw [if_pos e270532723]; exact ⟨by simp, by simp, by simp, by simp, by simp, by simp, by simp, by simp, by simp, by simp, by simp, by simp⟩
    rw [if_neg e270532723]
    by_cases e273678451 : w = 273678451
    · rw [if_pos e273678451]; exact ⟨by simp, by simp, by simp, by simp, by simp, by simp, by simp, by simp, by simp, by simp, by simp, by simp⟩
    rw [if_neg e273678451]
    by_cases e807403635 : w = 807403635
    · rw [if_pos e807403635]; exact ⟨by simp, by simp, by simp, by simp, by simp, by simp, by simp, by simp, by simp, by simp, by simp, by simp⟩
    rw [if_neg e807403635]
    exact ⟨by simp; omega, by simp; omega, by simp; omega, by simp; omega, by simp; omega, by simp; omega, by simp, by simp, by simp; omega, by simp; omega, by simp; omega, by simp; omega⟩
  rw [if_neg c115]
  exact z

theorem rdec_is (w : Int) (op rd r1 r2 imm : Int) (h0 : 0 ≤ w) (h1 : w < 4294967296) (hd : D.dec w = ⟨op, rd, r1, r2, imm⟩) (W : World) :
    Calls Tryz.prog 39 #[.int .u32 w] W fun e W' => e = .returned (.agg #[.int .i64 op, .int .i64 rd, .int .i64 r1, .int .i64 r2, .int .u32 imm]) ∧ Below W.heap.size W W' := by
  refine (D.rdecode_any w W h0 h1).mono ?_
  rintro e W' ⟨⟨op', rd', r1', r2', imm', rfl, he⟩, hb⟩
  rw [hd] at he
  injection he with e1 e2 e3 e4 e5
  subst e1 e2 e3 e4 e5
  exact ⟨rfl, hb⟩
end Go.Proofs.YtfdokajjlkcdgaaGreatDoor
