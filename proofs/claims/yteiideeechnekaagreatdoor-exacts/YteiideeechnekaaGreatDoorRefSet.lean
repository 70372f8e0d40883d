import Derived.Test.YteiideeechnekaaGreatDoorRefPut2
import Derived.Test.YteiideeechnekaaGreatDoorRefMask
import Derived.Test.YteiideeechnekaaGreatDoorRefTrap
/-
  The document's claim and device.
-/
namespace Go.Proofs.YteiideeechnekaaGreatDoor
open Go.RowKit

def pickB (s : RSt) (c j m : Nat) : Bool := (srcAt s j).waits && (bits .and .u32 (enAt s c / 2 ^ j) 1 == 1) && decide ((srcAt s m).prio < (srcAt s j).prio)
def bestR (s : RSt) (c : Nat) : Nat → Nat
  | 0 => 0
  | k + 1 => if pickB s c (k + 1) (bestR s c k) then k + 1 else bestR s c k
theorem bestR_le (s : RSt) (c k : Nat) : bestR s c k ≤ k := by
  induction k with
  | zero => exact Nat.le_refl _
  | succ k ih => unfold bestR; split <;> omega
theorem best_yes {s : RSt} {c k : Nat} (h1 : 1 ≤ k) (h : pickB s c k (bestR s c (k - 1)) = true) : bestR s c k = k := by
  obtain ⟨n, rfl⟩ : ∃ n, k = n + 1 := ⟨k - 1, by omega⟩
  rw [show n + 1 - 1 = n from rfl] at h
  unfold bestR; rw [if_pos h]
theorem best_no {s : RSt} {c k : Nat} (h1 : 1 ≤ k) (h : pickB s c k (bestR s c (k - 1)) = false) : bestR s c k = bestR s c (k - 1) := by
  obtain ⟨n, rfl⟩ : ∃ n, k = n + 1 := ⟨k - 1, by omega⟩
  conv => lhs; unfold bestR
  rw [if_neg (by rw [show n + 1 - 1 = n from rfl] at h; rw [h]; decide)]; rfl
def setW (s : RSt) (m : Nat) (v : Bool) : RSt := { s with src := s.src.set m { srcAt s m with waits := v } }
def setV (s : RSt) (m : Nat) (v : Bool) : RSt := { s with src := s.src.set m { srcAt s m with served := v } }
def claimS (s : RSt) (m : Nat) : RSt := if m = 0 then s else setV (setW s m false) m true

end Go.Proofs.YteiideeechnekaaGreatDoor

/-
  The document's device: a word of a device is read.
-/
namespace Go.Proofs.YteiideeechnekaaGreatDoor
open Go.RowKit

def devR (s : RSt) (a : Nat) : RSt × Int × Bool :=
  if a = 4096 then (s, s.msip, true) else if a = 4100 then (s, s.mtimecmp, true) else if a = 4104 then (s, s.mtime, true)
  else if a = 8224 then (s, mk (fun i => (srcAt s i).waits) 7, true)
  else if 8192 ≤ a ∧ a < 8224 ∧ a % 4 = 0 then (s, (srcAt s ((a - 8192) / 4)).prio, true)
  else if a = 8228 then (s, enAt s 0, true) else if a = 8240 then (s, liAt s 0, true) else if a = 8244 then (claimS s (bestR s 0 7), (bestR s 0 7 : Nat), true)
  else if a = 8232 then (s, enAt s 1, true) else if a = 8248 then (s, liAt s 1, true) else if a = 8252 then (claimS s (bestR s 1 7), (bestR s 1 7 : Nat), true)
  else (s, 0, false)

end Go.Proofs.YteiideeechnekaaGreatDoor

/-
  The document's complete.
-/
namespace Go.Proofs.YteiideeechnekaaGreatDoor
open Go.RowKit

def complR (s : RSt) (c : Nat) (v : Int) : RSt :=
  if v < 1 ∨ 7 < v then s else if (bits .and .u32 (enAt s c / 2 ^ v.toNat) 1 == 0) = true then s
  else if (srcAt s v.toNat).served then setW (setV s v.toNat false) v.toNat ((srcAt s v.toNat).high || (srcAt s v.toNat).waits) else s

end Go.Proofs.YteiideeechnekaaGreatDoor

/-
  The document's set: a word of a device is written.
-/
namespace Go.Proofs.YteiideeechnekaaGreatDoor
open Go.RowKit

def setP (s : RSt) (m : Nat) (v : Int) : RSt := { s with src := s.src.set m { srcAt s m with prio := v } }
def setR (s : RSt) (a : Nat) (v : Int) : RSt × Bool :=
  if a = 4096 then ({ s with msip := bits .and .u32 v 1 }, true) else if a = 4100 then ({ s with mtimecmp := v }, true) else if a = 4104 then ({ s with mtime := v }, true)
  else if a = 8224 then (s, true) else if a = 8192 then (s, true)
  else if 8192 < a ∧ a < 8224 ∧ a % 4 = 0 then (setP s ((a - 8192) / 4) (bits .and .u32 v 7), true)
  else if a = 8228 then ({ s with enable := s.enable.set 0 (bits .and .u32 v 254) }, true) else if a = 8240 then ({ s with limit := s.limit.set 0 (bits .and .u32 v 7) }, true) else if a = 8244 then (complR s 0 v, true)
  else if a = 8232 then ({ s with enable := s.enable.set 1 (bits .and .u32 v 254) }, true) else if a = 8248 then ({ s with limit := s.limit.set 1 (bits .and .u32 v 7) }, true) else if a = 8252 then (complR s 1 v, true)
  else (s, false)
end Go.Proofs.YteiideeechnekaaGreatDoor
