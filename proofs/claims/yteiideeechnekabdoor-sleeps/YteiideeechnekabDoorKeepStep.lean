/-
  One Step of the code's, and what it makes of the computer.
-/
import Derived.Test.YteiideeechnekabDoorKeepCall
import Derived.Test.YteiideeechnekabDoorIntPure
namespace Go.Proofs.YteiideeechnekabDoor
open Go.RowKit

theorem asl_int (s : RSt) (i : Nat) : (intR s i).asleep = s.asleep := by
  unfold intR trapR
  split <;> rfl
structure KSp (s s' : RSt) : Prop where
  sleep : s.asleep = true → bits .and .u32 (mipR s) s.mie = 0 → s' = s
  int : Aw s → ∀ i : Nat, chosenR (wakeR s) = i → s' = intR (wakeR s) i
  wakes : s.asleep = true → bits .and .u32 (mipR s) s.mie ≠ 0 → s'.asleep = false ∨ s'.pc ≠ s.pc
  addi : s.asleep = false → chosenR s = -1 → ∀ m nd n1 n2 : Nat, ∀ imm : Int, s.pc = m → m + 4 ≤ s.ram.length → D.dec (leV s.ram m 4) = ⟨19, nd, n1, n2, imm⟩ → s' = next1 (putR s nd (aluV 19 (s.x[n1]?.getD 0) imm))
  none : s.asleep = false → chosenR s = -1 → ∀ m nd n1 n2 : Nat, ∀ imm : Int, s.pc = m → m + 4 ≤ s.ram.length → D.dec (leV s.ram m 4) = ⟨0, nd, n1, n2, imm⟩ → s' = failR s 2 (leV s.ram m 4)
theorem jns_of {s : RSt} {m : Nat} (G : Gd s) (hm : s.pc = m) (ho : m + 4 ≤ s.ram.length) : ∃ (op : Int) (nd n1 n2 : Nat) (imm : Int), Jns s m op nd n1 n2 imm := by
  have lv := (leV_bd G.b m).2.2
  have K0 := dec_ok (leV s.ram m 4) lv.1 lv.2
  obtain ⟨op, rd, r1, r2, imm, hd⟩ : ∃ op rd r1 r2 imm, D.dec (leV s.ram m 4) = ⟨op, rd, r1, r2, imm⟩ := ⟨_, _, _, _, _, rfl⟩
  rw [hd] at K0
  have K : InsOk op rd r1 r2 imm := K0
  clear K0
  obtain ⟨nd, rfl⟩ : ∃ k : Nat, rd = k := ⟨rd.toNat, by have := K.d0; omega⟩
  obtain ⟨n1, rfl⟩ : ∃ k : Nat, r1 = k := ⟨r1.toNat, by have := K.s0; omega⟩
  obtain ⟨n2, rfl⟩ : ∃ k : Nat, r2 = k := ⟨r2.toNat, by have := K.t0; omega⟩
  exact ⟨op, nd, n1, n2, imm, G, hm, ho, K, hd⟩
theorem kstep {s : RSt} (G : Gd s) : ∃ s', Gd s' ∧ CStep (cOf s) (cOf s') ∧ KSp s s' := by
  obtain ⟨m, hp⟩ : ∃ m : Nat, s.pc = m := ⟨s.pc.toNat, by have := G.pc.1; omega⟩
  have h32 : m < 4294967296 := by have := G.pc.2; omega
  rcases aw_or s with A | ⟨ha, hm⟩
  · have U := A.up G
    have nos : s.asleep = true → bits .and .u32 (mipR s) s.mie = 0 → False := fun h1 h2 => by
      rcases A with h | ⟨_, h⟩
      · rw [h1] at h; cases h
      · exact h h2
    rcases chosenR_cases (wakeR s) with hc | ⟨i, hi, hc⟩
    · obtain ⟨e1, e2⟩ := int_none G.wake hc
      have noi : ∀ i : Nat, chosenR (wakeR s) = i → False := fun i h => by rw [hc] at h; omega
      by_cases ho : m + 4 ≤ s.ram.length
      · obtain ⟨op, nd, n1, n2, imm, J⟩ := jns_of G.wake (m := m) hp ho
        have hd : D.dec (leV s.ram m 4) = ⟨op, nd, n1, n2, imm⟩ := J.hd
        have mm : ∀ m' : Nat, s.pc = m' → m' = m := fun m' h => by omega
        by_cases h19 : op = 19
        · subst h19
          obtain ⟨G', N⟩ := nx_19 J
          refine ⟨_, G', cstep_next U e1 e2 N, fun h1 h2 => (nos h1 h2).elim, fun _ i h => (noi i h).elim, fun _ _ => .inl rfl, fun h1 _ m' nd' n1' n2' imm' h3 _ h5 => ?_, fun _ _ m' nd' n1' n2' imm' h3 _ h5 => ?_⟩
          · rw [mm m' h3, hd] at h5
            have h6 : (nd : Int) = nd' ∧ (n1 : Int) = n1' ∧ (n2 : Int) = n2' ∧ imm = imm' := by simpa using h5
            obtain rfl : nd = nd' := by omega
            obtain rfl : n1 = n1' := by omega
            obtain rfl := h6.2.2.2
            rw [wake_awake h1]
          · rw [mm m' h3, hd] at h5
            simp at h5
        by_cases h0 : op = 0
        · subst h0
          obtain ⟨G', N⟩ := nx_0 J
          refine ⟨_, G', cstep_next U e1 e2 N, fun h1 h2 => (nos h1 h2).elim, fun _ i h => (noi i h).elim, fun _ _ => .inl (asl_fail _ _ _), fun _ _ m' nd' n1' n2' imm' h3 _ h5 => ?_, fun h1 _ m' nd' n1' n2' imm' h3 _ h5 => ?_⟩
          · rw [mm m' h3, hd] at h5
            simp at h5
          · rw [mm m' h3, wake_awake h1]
        obtain ⟨s', G', W', N⟩ := do_one G.wake (m := m) hp ho
        refine ⟨s', G', cstep_next U e1 e2 N, fun h1 h2 => (nos h1 h2).elim, fun _ i h => (noi i h).elim, fun _ _ => W', fun _ _ m' nd' n1' n2' imm' h3 _ h5 => ?_, fun _ _ m' nd' n1' n2' imm' h3 _ h5 => ?_⟩
        · rw [mm m' h3, hd] at h5
          simp at h5
          exact absurd h5.1 h19
        · rw [mm m' h3, hd] at h5
          simp at h5
          exact absurd h5.1 h0
      · have C := G.wake.cok
        refine ⟨failR (wakeR s) 1 s.pc, G.wake.fail 1 (by decide) _ G.pc, cstep_next U e1 e2 fun W x r h A T T9 => ?_, fun h1 h2 => (nos h1 h2).elim, fun _ i h => (noi i h).elim, fun _ _ => .inl (asl_fail _ _ _), fun _ _ m' nd' n1' n2' imm' h3 h4 _ => absurd h4 (by omega), fun _ _ m' nd' n1' n2' imm' h3 h4 _ => absurd h4 (by omega)⟩
        rw [cOf_fail G.wake 1 s.pc]
        exact next_fault W x r _ h A C.m0 C.m3 m hp h32 ho
    · obtain ⟨_, G', C'⟩ := int_both G.wake (cOf s) U i hc
      have noc : s.asleep = false → chosenR s = -1 → False := fun h1 h2 => by rw [wake_awake h1] at hc; omega
      refine ⟨_, G', C', fun h1 h2 => (nos h1 h2).elim, fun _ j h => ?_, fun _ _ => .inl (asl_int _ _), fun h1 h2 => (noc h1 h2).elim, fun h1 h2 => (noc h1 h2).elim⟩
      obtain rfl : i = j := by omega
      rfl
  · have noa : s.asleep = false → False := fun h => by rw [ha] at h; cases h
    refine ⟨s, G, fun W x r h _ _ _ => cstep_sleep W x r _ h ha (by rw [G.pend]; exact hm), fun _ _ => rfl, fun A => ?_, fun _ h => absurd hm h, fun h => (noa h).elim, fun h => (noa h).elim⟩
    rcases A with h | ⟨_, h⟩
    · exact (noa h).elim
    · exact absurd hm h
end Go.Proofs.YteiideeechnekabDoor
