/-
  The document's claim and device.
-/
import Derived.Test.YtfdokajjlkcdgaaGreatDoorRefPut2
import Derived.Test.YtfdokajjlkcdgaaGreatDoorRefMask
import Derived.Test.YtfdokajjlkcdgaaGreatDoorRefTrap
namespace Go.Proofs.YtfdokajjlkcdgaaGreatDoor
open Go.RowKit

def pickB (s : RSt) (c j m : Nat) : Bool := (srcAt s j).waits && (bits .and .u32 (enAt s c / 2 ^ j) 1 == 1) && decide ((srcAt s m).prio < (srcAt s j).prio)
def bestR (s : RSt) (c : Nat) : Nat → Nat
  | 0 => 0
  | k + 1 => if pickB s c (k + 1) (bestR s c k) then k + 1 else bestR s c k
theorem bestR_le (s : RSt) (c k : Nat) : bestR s c k ≤ k := by
  induction k with
  | zero => exact Nat.le_refl _
  | succ k ih => unfold bestR; split <;> omega
theorem best_yes {s : RSt} {c k : Nat} (h1 : 1 ≤ k) (h : pickB s c k (bestR s c (k - 1)) = true) : bestR s c k = k := by
  obtain ⟨n, rfl⟩ : ∃ n, k = n + 1 := ⟨k - 1, by omega⟩
  rw [show n + 1 - 1 = n from rfl] at h
  unfold bestR; rw [if_pos h]
theorem best_no {s : RSt} {c k : Nat} (h1 : 1 ≤ k) (h : pickB s c k (bestR s c (k - 1)) = false) : bestR s c k = bestR s c (k - 1) := by
  obtain ⟨n, rfl⟩ : ∃ n, k = n + 1 := ⟨k - 1, by omega⟩
  conv => lhs; unfold bestR
  rw [if_neg (by rw [show n + 1 - 1 = n from rfl] at h; rw [h]; decide)]; rfl
def setW (s : RSt) (m : Nat) (v : Bool) : RSt := { s with src := s.src.set m { srcAt s m with waits := v } }
def setV (s : RSt) (m : Nat) (v : Bool) : RSt := { s with src := s.src.set m { srcAt s m with served := v } }
def claimS (s : RSt) (m : Nat) : RSt := if m = 0 then s else setV (setW s m false) m true

set_option maxHeartbeats 1000000 in
theorem claim_any (W : World) (p : Nat) (b : RBl) (s : RSt) (h : RefAt W p b s) (A : b.Apart p) (c : Nat) (hc : c < 2) :
    Calls Tryz.prog 84 #[.pointer (some ⟨p, 0, none⟩), .int .i64 c] W fun e W' => e = .returned (.int .u32 (bestR s c 7 : Nat)) ∧ RefAt W' p b (claimS s (bestR s c 7)) ∧ Offs (b.l p) W W' := by
  have HF : Hid (RefAt W p b s) := h
  have k1 := h.csrc
  have k2 := h.cen
  have e1 : W.cell? ⟨b.en, c, none⟩ = some (.int .u32 (enAt s c)) := by have := h.en.cell c (by rw [h.nen]; exact hc); simpa [enAt, List.getD] using this
  have HW : Hid (∀ i, i < 8 → W.cell? ⟨b.src, i * 4 + 1, none⟩ = some (.bool (srcAt s i).waits) ∧ W.cell? ⟨b.src, i * 4 + 3, none⟩ = some (.int .u32 (srcAt s i).prio)) := fun i hi => ⟨h.waits i hi, h.prio i hi⟩
  have hci : (c : Int) < 2 := by omega
  clear h hc
  obtain ⟨R, hR⟩ : ∃ R, R = bestR s c 7 := ⟨_, rfl⟩
  have R7 : R ≤ 7 := by rw [hR]; exact bestR_le _ _ _
  rw [← hR]
  have HR : Hid (R = bestR s c 7) := hR
  clear hR
  go_enter Tryz.func84, Tryz.ntmps84
  go_wp2
  go_loopw [5, 6] (fun m i wr => ∃ k q : Nat, 1 ≤ k ∧ k ≤ 8 ∧ i = .int .i64 k ∧ m = .int .i64 (bestR s c (k - 1) : Nat) ∧ wr = W.drewN q) (fun _ i _ => 8 - (intOf i).toNat)
  case atStart => exact ⟨1, 0, Nat.le_refl _, by decide, rfl, rfl, rfl⟩
  case round =>
    obtain ⟨k, q, hk1, hk8, rfl, rfl, rfl⟩ := hrel
    by_cases hlt : k < 8
    · obtain ⟨c1, c2⟩ := HW.out k hlt
      have ml : bestR s c (k - 1) ≤ k - 1 := bestR_le _ _ _
      have BY := fun h => best_yes (s := s) (c := c) hk1 h
      have BN := fun h => best_no (s := s) (c := c) hk1 h
      obtain ⟨m, hm⟩ : ∃ m, m = bestR s c (k - 1) := ⟨_, rfl⟩
      rw [← hm] at ml BY BN ⊢
      obtain ⟨_, c3⟩ := HW.out m (by omega)
      have HY : Hid (pickB s c k m = true → bestR s c k = k) := BY
      have HN : Hid (pickB s c k m = false → bestR s c k = m) := BN
      clear BY BN hm
      have hi : (k : Int) < 8 := by omega
      have hm8 : (m : Int) < 8 := by omega
      by_cases hw : (srcAt s k).waits = true
      · by_cases hb : (bits .and .u32 (enAt s c / 2 ^ k) 1 == 1) = true
        · by_cases hg : (srcAt s m).prio < (srcAt s k).prio
          · have Q := HY.out (by unfold pickB; rw [hw, hb, Bool.true_and, Bool.true_and]; exact decide_eq_true hg)
            have HQ : Hid (bestR s c k = k) := Q
            clear Q
            go_wp2_with fail
            go_quiet (fail)
            go_wp2
            go_roundw
            case rel => exact ⟨k + 1, _, by omega, by omega, by go_num, by rw [show k + 1 - 1 = k from rfl, HQ.out], rfl⟩
            case measure => simp [intOf]; omega
          · have hg' : (srcAt s k).prio ≤ (srcAt s m).prio := by omega
            have Q := HN.out (by unfold pickB; rw [Bool.and_eq_false_iff, decide_eq_false_iff_not]; exact .inr hg)
            have HQ : Hid (bestR s c k = m) := Q
            clear hg Q
            go_wp2_with fail
            go_quiet (fail)
            go_wp2
            go_roundw
            case rel => exact ⟨k + 1, _, by omega, by omega, by go_num, by rw [show k + 1 - 1 = k from rfl, HQ.out], rfl⟩
            case measure => simp [intOf]; omega
        · have hb' : (bits .and .u32 (enAt s c / 2 ^ k) 1 == 1) = false := by simpa using hb
          have Q := HN.out (by unfold pickB; rw [hb', Bool.and_false, Bool.false_and])
          have HQ : Hid (bestR s c k = m) := Q
          clear hb Q
          go_wp2_with fail
          go_quiet (fail)
          go_wp2
          go_roundw
          case rel => exact ⟨k + 1, _, by omega, by omega, by go_num, by rw [show k + 1 - 1 = k from rfl, HQ.out], rfl⟩
          case measure => simp [intOf]; omega
      · have hw' : (srcAt s k).waits = false := by simpa using hw
        have Q := HN.out (by unfold pickB; rw [hw', Bool.false_and, Bool.false_and])
        have HQ : Hid (bestR s c k = m) := Q
        clear hw Q
        go_wp2_with fail
        go_quiet (fail)
        go_wp2
        go_roundw
        case rel => exact ⟨k + 1, _, by omega, by omega, by go_num, by rw [show k + 1 - 1 = k from rfl, HQ.out], rfl⟩
        case measure => simp [intOf]; omega
    · obtain rfl : k = 8 := by omega
      have eR : bestR s c (8 - 1) = R := HR.out.symm
      rw [eR]
      clear eR
      have f1 := HF.out.fs
      by_cases h0 : R = 0
      · subst h0
        go_wp2
        go_ret
        exact ⟨rfl, HF.out.drawn q, (Offs.refl _ _).drawn q⟩
      · obtain ⟨c1, c2⟩ := HW.out R (by omega)
        have c3 := HF.out.served R (by omega)
        have h0' : (0 : Int) < R := by omega
        have hr8 : (R : Int) < 8 := by omega
        have e : claimS s R = setV (setW s R false) R true := by unfold claimS; rw [if_neg h0]
        have HE : Hid (claimS s R = setV (setW s R false) R true) := e
        clear e h0
        go_wp2
        go_ret
        exact ⟨rfl, by rw [HE.out]; exact ((HF.out.drawn q).put_waits A R (by omega) false).put_served A R (by omega) true, (((Offs.refl _ _).drawn q).put (by simp [RBl.l]) _).put (by simp [RBl.l]) _⟩
end Go.Proofs.YtfdokajjlkcdgaaGreatDoor
