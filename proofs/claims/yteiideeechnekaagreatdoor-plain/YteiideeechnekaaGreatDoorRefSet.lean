import Derived.Test.YteiideeechnekaaGreatDoorRefPut2
import Derived.Test.YteiideeechnekaaGreatDoorRefMask
import Derived.Test.YteiideeechnekaaGreatDoorRefTrap
/-
  The document's claim and device.
-/
namespace Go.Proofs.YteiideeechnekaaGreatDoor
open Go.RowKit

def pickB (s : RSt) (c j m : Nat) : Bool := (srcAt s j).waits && (bits .and .u32 (enAt s c / 2 ^ j) 1 == 1) && decide ((srcAt s m).prio < (srcAt s j).prio)
def bestR (s : RSt) (c : Nat) : Nat → Nat
  | 0 => 0
  | k + 1 => if pickB s c (k + 1) (bestR s c k) then k + 1 else bestR s c k
theorem bestR_le (s : RSt) (c k : Nat) : bestR s c k ≤ k := by
  induction k with
  | zero => exact Nat.le_refl _
  | succ k ih => unfold bestR; split <;> omega
theorem best_yes {s : RSt} {c k : Nat} (h1 : 1 ≤ k) (h : pickB s c k (bestR s c (k - 1)) = true) : bestR s c k = k := by
  obtain ⟨n, rfl⟩ : ∃ n, k = n + 1 := ⟨k - 1, by omega⟩
  rw [show n + 1 - 1 = n from rfl] at h
  unfold bestR; rw [if_pos h]
theorem best_no {s : RSt} {c k : Nat} (h1 : 1 ≤ k) (h : pickB s c k (bestR s c (k - 1)) = false) : bestR s c k = bestR s c (k - 1) := by
  obtain ⟨n, rfl⟩ : ∃ n, k = n + 1 := ⟨k - 1, by omega⟩
  conv => lhs; unfold bestR
  rw [if_neg (by rw [show n + 1 - 1 = n from rfl] at h; rw [h]; decide)]; rfl
def setW (s : RSt) (m : Nat) (v : Bool) : RSt := { s with src := s.src.set m { srcAt s m with waits := v } }
def setV (s : RSt) (m : Nat) (v : Bool) : RSt := { s with src := s.src.set m { srcAt s m with served := v } }
def claimS (s : RSt) (m : Nat) : RSt := if m = 0 then s else setV (setW s m false) m true

set_option maxHeartbeats 1000000 in
theorem claim_any (W : World) (p : Nat) (b : RBl) (s : RSt) (h : RefAt W p b s) (A : b.Apart p) (c : Nat) (hc : c < 2) :
    Calls Tryz.prog 97 #[.pointer (some ⟨p, 0, none⟩), .int .i64 c] W fun e W' => e = .returned (.int .u32 (bestR s c 7 : Nat)) ∧ RefAt W' p b (claimS s (bestR s c 7)) ∧ Offs (b.l p) W W' := by
  have HF : Hid (RefAt W p b s) := h
  have k1 := h.csrc
  have k2 := h.cen
  have e1 : W.cell? ⟨b.en, c, none⟩ = some (.int .u32 (enAt s c)) := by have := h.en.cell c (by rw [h.nen]; exact hc); simpa [enAt, List.getD] using this
  have HW : Hid (∀ i, i < 8 → W.cell? ⟨b.src, i * 4 + 1, none⟩ = some (.bool (srcAt s i).waits) ∧ W.cell? ⟨b.src, i * 4 + 3, none⟩ = some (.int .u32 (srcAt s i).prio)) := fun i hi => ⟨h.waits i hi, h.prio i hi⟩
  have hci : (c : Int) < 2 := by omega
  clear h hc
  obtain ⟨R, hR⟩ : ∃ R, R = bestR s c 7 := ⟨_, rfl⟩
  have R7 : R ≤ 7 := by rw [hR]; exact bestR_le _ _ _
  rw [← hR]
  have HR : Hid (R = bestR s c 7) := hR
  clear hR
  go_enter Tryz.func97, Tryz.ntmps97
  go_wp2
  go_loopw [5, 6] (fun m i wr => ∃ k q : Nat, 1 ≤ k ∧ k ≤ 8 ∧ i = .int .i64 k ∧ m = .int .i64 (bestR s c (k - 1) : Nat) ∧ wr = W.drewN q) (fun _ i _ => 8 - (intOf i).toNat)
  case atStart => exact ⟨1, 0, Nat.le_refl _, by decide, rfl, rfl, rfl⟩
  case round =>
    obtain ⟨k, q, hk1, hk8, rfl, rfl, rfl⟩ := hrel
    by_cases hlt : k < 8
    · obtain ⟨c1, c2⟩ := HW.out k hlt
      have ml : bestR s c (k - 1) ≤ k - 1 := bestR_le _ _ _
      have BY := fun h => best_yes (s := s) (c := c) hk1 h
      have BN := fun h => best_no (s := s) (c := c) hk1 h
      obtain ⟨m, hm⟩ : ∃ m, m = bestR s c (k - 1) := ⟨_, rfl⟩
      rw [← hm] at ml BY BN ⊢
      obtain ⟨_, c3⟩ := HW.out m (by omega)
      have HY : Hid (pickB s c k m = true → bestR s c k = k) := BY
      have HN : Hid (pickB s c k m = false → bestR s c k = m) := BN
      clear BY BN hm
      have hi : (k : Int) < 8 := by omega
      have hm8 : (m : Int) < 8 := by omega
      by_cases hw : (srcAt s k).waits = true
      · by_cases hb : (bits .and .u32 (enAt s c / 2 ^ k) 1 == 1) = true
        · by_cases hg : (srcAt s m).prio < (srcAt s k).prio
          · have Q := HY.out (by unfold pickB; rw [hw, hb, Bool.true_and, Bool.true_and]; exact decide_eq_true hg)
            have HQ : Hid (bestR s c k = k) := Q
            clear Q
            go_wp2_with fail
            go_quiet (fail)
            go_wp2
            go_roundw
            case rel => exact ⟨k + 1, _, by omega, by omega, by go_num, by rw [show k + 1 - 1 = k from rfl, HQ.out], rfl⟩
            case measure => simp [intOf]; omega
          · have hg' : (srcAt s k).prio ≤ (srcAt s m).prio := by omega
            have Q := HN.out (by unfold pickB; rw [Bool.and_eq_false_iff, decide_eq_false_iff_not]; exact .inr hg)
            have HQ : Hid (bestR s c k = m) := Q
            clear hg Q
            go_wp2_with fail
            go_quiet (fail)
            go_wp2
            go_roundw
            case rel => exact ⟨k + 1, _, by omega, by omega, by go_num, by rw [show k + 1 - 1 = k from rfl, HQ.out], rfl⟩
            case measure => simp [intOf]; omega
        · have hb' : (bits .and .u32 (enAt s c / 2 ^ k) 1 == 1) = false := by simpa using hb
          have Q := HN.out (by unfold pickB; rw [hb', Bool.and_false, Bool.false_and])
          have HQ : Hid (bestR s c k = m) := Q
          clear hb Q
          go_wp2_with fail
          go_quiet (fail)
          go_wp2
          go_roundw
          case rel => exact ⟨k + 1, _, by omega, by omega, by go_num, by rw [show k + 1 - 1 = k from rfl, HQ.out], rfl⟩
          case measure => simp [intOf]; omega
      · have hw' : (srcAt s k).waits = false := by simpa using hw
        have Q := HN.out (by unfold pickB; rw [hw', Bool.false_and, Bool.false_and])
        have HQ : Hid (bestR s c k = m) := Q
        clear hw Q
        go_wp2_with fail
        go_quiet (fail)
        go_wp2
        go_roundw
        case rel => exact ⟨k + 1, _, by omega, by omega, by go_num, by rw [show k + 1 - 1 = k from rfl, HQ.out], rfl⟩
        case measure => simp [intOf]; omega
    · obtain rfl : k = 8 := by omega
      have eR : bestR s c (8 - 1) = R := HR.out.symm
      rw [eR]
      clear eR
      have f1 := HF.out.fs
      by_cases h0 : R = 0
      · subst h0
        go_wp2
        go_ret
        exact ⟨rfl, HF.out.drawn q, (Offs.refl _ _).drawn q⟩
      · obtain ⟨c1, c2⟩ := HW.out R (by omega)
        have c3 := HF.out.served R (by omega)
        have h0' : (0 : Int) < R := by omega
        have hr8 : (R : Int) < 8 := by omega
        have e : claimS s R = setV (setW s R false) R true := by unfold claimS; rw [if_neg h0]
        have HE : Hid (claimS s R = setV (setW s R false) R true) := e
        clear e h0
        go_wp2
        go_ret
        exact ⟨rfl, by rw [HE.out]; exact ((HF.out.drawn q).put_waits A R (by omega) false).put_served A R (by omega) true, (((Offs.refl _ _).drawn q).put (by simp [RBl.l]) _).put (by simp [RBl.l]) _⟩
end Go.Proofs.YteiideeechnekaaGreatDoor

/-
  The document's device: a word of a device is read.
-/
namespace Go.Proofs.YteiideeechnekaaGreatDoor
open Go.RowKit

def devR (s : RSt) (a : Nat) : RSt × Int × Bool :=
  if a = 4096 then (s, s.msip, true) else if a = 4100 then (s, s.mtimecmp, true) else if a = 4104 then (s, s.mtime, true)
  else if a = 8224 then (s, mk (fun i => (srcAt s i).waits) 7, true)
  else if 8192 ≤ a ∧ a < 8224 ∧ a % 4 = 0 then (s, (srcAt s ((a - 8192) / 4)).prio, true)
  else if a = 8228 then (s, enAt s 0, true) else if a = 8240 then (s, liAt s 0, true) else if a = 8244 then (claimS s (bestR s 0 7), (bestR s 0 7 : Nat), true)
  else if a = 8232 then (s, enAt s 1, true) else if a = 8248 then (s, liAt s 1, true) else if a = 8252 then (claimS s (bestR s 1 7), (bestR s 1 7 : Nat), true)
  else (s, 0, false)

theorem dev_fin {p : Nat} {b : RBl} {s : RSt} {a : Nat} {W W' : World} (s' : RSt) (v : Int) (ok : Bool) (E : devR s a = (s', v, ok)) (h : RefAt W' p b s') (ho : Offs (b.l p) W W') :
    Ending.returned (.tuple #[.int .u32 v, .bool ok]) = .returned (.tuple #[.int .u32 (devR s a).2.1, .bool (devR s a).2.2]) ∧ RefAt W' p b (devR s a).1 ∧ Offs (b.l p) W W' := by
  rw [E]; exact ⟨rfl, h, ho⟩

set_option maxHeartbeats 4000000 in
set_option maxRecDepth 100000 in
theorem device_any (W : World) (p : Nat) (b : RBl) (s : RSt) (h : RefAt W p b s) (A : b.Apart p) (a : Nat) (ha : a < 4294967296) :
    Calls Tryz.prog 58 #[.pointer (some ⟨p, 0, none⟩), .int .u32 a] W fun e W' => e = .returned (.tuple #[.int .u32 (devR s a).2.1, .bool (devR s a).2.2]) ∧ RefAt W' p b (devR s a).1 ∧ Offs (b.l p) W W' := by
  have HF : Hid (RefAt W p b s) := h
  have k1 := h.csrc
  have k2 := h.cen
  have k3 := h.cli
  have c1 := h.msip
  have c2 := h.mtimecmp
  have c3 := h.mtime
  have e0 : W.cell? ⟨b.en, 0, none⟩ = some (.int .u32 (enAt s 0)) := by have := h.en.cell 0 (by rw [h.nen]; decide); simpa [enAt, List.getD] using this
  have e1 : W.cell? ⟨b.en, 1, none⟩ = some (.int .u32 (enAt s 1)) := by have := h.en.cell 1 (by rw [h.nen]; decide); simpa [enAt, List.getD] using this
  have l0 : W.cell? ⟨b.li, 0, none⟩ = some (.int .u32 (liAt s 0)) := by have := h.li.cell 0 (by rw [h.nli]; decide); simpa [liAt, List.getD] using this
  have l1 : W.cell? ⟨b.li, 1, none⟩ = some (.int .u32 (liAt s 1)) := by have := h.li.cell 1 (by rw [h.nli]; decide); simpa [liAt, List.getD] using this
  have HP : Hid (∀ i, i < 8 → W.cell? ⟨b.src, i * 4 + 3, none⟩ = some (.int .u32 (srcAt s i).prio)) := h.prio
  clear h
  have ha' : (a : Int) < 4294967296 := by omega
  by_cases a1 : a = 4096
  · subst a1
    go_enter Tryz.func58, Tryz.ntmps58
    go_wp2
    go_ret2
    exact dev_fin s (s.msip) true (by simp [devR]) (HF.out) (Offs.refl _ _)
  by_cases a2 : a = 4100
  · subst a2
    go_enter Tryz.func58, Tryz.ntmps58
    go_wp2
    go_ret2
    exact dev_fin s (s.mtimecmp) true (by simp [devR]) (HF.out) (Offs.refl _ _)
  by_cases a3 : a = 4104
  · subst a3
    go_enter Tryz.func58, Tryz.ntmps58
    go_wp2
    go_ret2
    exact dev_fin s (s.mtime) true (by simp [devR]) (HF.out) (Offs.refl _ _)
  by_cases a4 : a = 8224
  · subst a4
    go_enter Tryz.func58, Tryz.ntmps58
    go_wp2_with (go_at_call 69; refine (mask_0 _ p b s HF.out).mono ?_; rintro e w' ⟨rfl, q, rfl⟩)
    go_ret2
    exact dev_fin s (_) true (by simp [devR]) (HF.out.drawn q) ((Offs.refl _ _).drawn q)
  have b1 : ((a : Int) == 4096) = false := by simp; omega
  have b2 : ((a : Int) == 4100) = false := by simp; omega
  have b3 : ((a : Int) == 4104) = false := by simp; omega
  have b4 : ((a : Int) == 8224) = false := by simp; omega
  have HA : Hid (a ≠ 4096 ∧ a ≠ 4100 ∧ a ≠ 4104 ∧ a ≠ 8224) := ⟨a1, a2, a3, a4⟩
  clear a1 a2 a3 a4
  go_enter Tryz.func58, Tryz.ntmps58
  go_wp2
  go_loop [7] (fun i => ∃ k : Nat, k ≤ 8 ∧ i = .int .i64 k ∧ Hid (∀ j, j < k → a ≠ 8192 + 4 * j)) (fun i => 8 - (intOf i).toNat)
  case atStart => exact ⟨0, by decide, rfl, fun j h => absurd h (by omega)⟩
  case round =>
    obtain ⟨k, hk8, rfl, hno⟩ := hrel
    by_cases hlt : k < 8
    · have hk : k = 0 ∨ k = 1 ∨ k = 2 ∨ k = 3 ∨ k = 4 ∨ k = 5 ∨ k = 6 ∨ k = 7 := by omega
      rcases hk with rfl | rfl | rfl | rfl | rfl | rfl | rfl | rfl
      · have cp := HP.out 0 (by decide)
        by_cases he : a = 8192
        · subst he
          go_wp2
          go_ret2
          exact dev_fin s ((srcAt s 0).prio) true (by simp [devR]) (HF.out) (Offs.refl _ _)
        · have e5 : ((a : Int) == 8192) = false := by simp; omega
          have HE : Hid (∀ j, j < 1 → a ≠ 8192 + 4 * j) := fun j hj => by
            by_cases e : j = 0
            · rw [e]; exact he
            · exact hno.out j (by omega)
          clear he hno
          go_wp2
          go_round
          case rel => exact ⟨1, by decide, rfl, HE⟩
          case measure => simp [intOf]
      · have cp := HP.out 1 (by decide)
        by_cases he : a = 8196
        · subst he
          go_wp2
          go_ret2
          exact dev_fin s ((srcAt s 1).prio) true (by simp [devR]) (HF.out) (Offs.refl _ _)
        · have e5 : ((a : Int) == 8196) = false := by simp; omega
          have HE : Hid (∀ j, j < 2 → a ≠ 8192 + 4 * j) := fun j hj => by
            by_cases e : j = 1
            · rw [e]; exact he
            · exact hno.out j (by omega)
          clear he hno
          go_wp2
          go_round
          case rel => exact ⟨2, by decide, rfl, HE⟩
          case measure => simp [intOf]
      · have cp := HP.out 2 (by decide)
        by_cases he : a = 8200
        · subst he
          go_wp2
          go_ret2
          exact dev_fin s ((srcAt s 2).prio) true (by simp [devR]) (HF.out) (Offs.refl _ _)
        · have e5 : ((a : Int) == 8200) = false := by simp; omega
          have HE : Hid (∀ j, j < 3 → a ≠ 8192 + 4 * j) := fun j hj => by
            by_cases e : j = 2
            · rw [e]; exact he
            · exact hno.out j (by omega)
          clear he hno
          go_wp2
          go_round
          case rel => exact ⟨3, by decide, rfl, HE⟩
          case measure => simp [intOf]
      · have cp := HP.out 3 (by decide)
        by_cases he : a = 8204
        · subst he
          go_wp2
          go_ret2
          exact dev_fin s ((srcAt s 3).prio) true (by simp [devR]) (HF.out) (Offs.refl _ _)
        · have e5 : ((a : Int) == 8204) = false := by simp; omega
          have HE : Hid (∀ j, j < 4 → a ≠ 8192 + 4 * j) := fun j hj => by
            by_cases e : j = 3
            · rw [e]; exact he
            · exact hno.out j (by omega)
          clear he hno
          go_wp2
          go_round
          case rel => exact ⟨4, by decide, rfl, HE⟩
          case measure => simp [intOf]
      · have cp := HP.out 4 (by decide)
        by_cases he : a = 8208
        · subst he
          go_wp2
          go_ret2
          exact dev_fin s ((srcAt s 4).prio) true (by simp [devR]) (HF.out) (Offs.refl _ _)
        · have e5 : ((a : Int) == 8208) = false := by simp; omega
          have HE : Hid (∀ j, j < 5 → a ≠ 8192 + 4 * j) := fun j hj => by
            by_cases e : j = 4
            · rw [e]; exact he
            · exact hno.out j (by omega)
          clear he hno
          go_wp2
          go_round
          case rel => exact ⟨5, by decide, rfl, HE⟩
          case measure => simp [intOf]
      · have cp := HP.out 5 (by decide)
        by_cases he : a = 8212
        · subst he
          go_wp2
          go_ret2
          exact dev_fin s ((srcAt s 5).prio) true (by simp [devR]) (HF.out) (Offs.refl _ _)
        · have e5 : ((a : Int) == 8212) = false := by simp; omega
          have HE : Hid (∀ j, j < 6 → a ≠ 8192 + 4 * j) := fun j hj => by
            by_cases e : j = 5
            · rw [e]; exact he
            · exact hno.out j (by omega)
          clear he hno
          go_wp2
          go_round
          case rel => exact ⟨6, by decide, rfl, HE⟩
          case measure => simp [intOf]
      · have cp := HP.out 6 (by decide)
        by_cases he : a = 8216
        · subst he
          go_wp2
          go_ret2
          exact dev_fin s ((srcAt s 6).prio) true (by simp [devR]) (HF.out) (Offs.refl _ _)
        · have e5 : ((a : Int) == 8216) = false := by simp; omega
          have HE : Hid (∀ j, j < 7 → a ≠ 8192 + 4 * j) := fun j hj => by
            by_cases e : j = 6
            · rw [e]; exact he
            · exact hno.out j (by omega)
          clear he hno
          go_wp2
          go_round
          case rel => exact ⟨7, by decide, rfl, HE⟩
          case measure => simp [intOf]
      · have cp := HP.out 7 (by decide)
        by_cases he : a = 8220
        · subst he
          go_wp2
          go_ret2
          exact dev_fin s ((srcAt s 7).prio) true (by simp [devR]) (HF.out) (Offs.refl _ _)
        · have e5 : ((a : Int) == 8220) = false := by simp; omega
          have HE : Hid (∀ j, j < 8 → a ≠ 8192 + 4 * j) := fun j hj => by
            by_cases e : j = 7
            · rw [e]; exact he
            · exact hno.out j (by omega)
          clear he hno
          go_wp2
          go_round
          case rel => exact ⟨8, by decide, rfl, HE⟩
          case measure => simp [intOf]
    · obtain rfl : k = 8 := by omega
      have HB : Hid (¬ (8192 ≤ a ∧ a < 8224 ∧ a % 4 = 0)) := fun hb => hno.out ((a - 8192) / 4) (by omega) (by omega)
      clear hno
      have HD : Hid (devR s a = if a = 8228 then (s, enAt s 0, true) else if a = 8240 then (s, liAt s 0, true) else if a = 8244 then (claimS s (bestR s 0 7), (bestR s 0 7 : Nat), true)
          else if a = 8232 then (s, enAt s 1, true) else if a = 8248 then (s, liAt s 1, true) else if a = 8252 then (claimS s (bestR s 1 7), (bestR s 1 7 : Nat), true) else (s, 0, false)) := by
        have ha := HA.out
        unfold Hid devR
        rw [if_neg ha.1, if_neg ha.2.1, if_neg ha.2.2.1, if_neg ha.2.2.2, if_neg HB.out]
      by_cases n8228 : a = 8228
      · subst n8228
        go_wp2
        go_loop [8] (fun i => ∃ k : Nat, k ≤ 0 ∧ i = .int .i64 k) (fun i => 2 - (intOf i).toNat)
        case atStart => exact ⟨0, by decide, rfl⟩
        case round =>
          obtain ⟨k, hk8, rfl⟩ := hrel
          obtain rfl : k = 0 := by omega
          go_wp2
          go_ret2
          exact dev_fin s (enAt s 0) true (HD.out.trans (by simp)) (HF.out) (Offs.refl _ _)
      by_cases n8240 : a = 8240
      · subst n8240
        go_wp2
        go_loop [8] (fun i => ∃ k : Nat, k ≤ 0 ∧ i = .int .i64 k) (fun i => 2 - (intOf i).toNat)
        case atStart => exact ⟨0, by decide, rfl⟩
        case round =>
          obtain ⟨k, hk8, rfl⟩ := hrel
          obtain rfl : k = 0 := by omega
          go_wp2
          go_ret2
          exact dev_fin s (liAt s 0) true (HD.out.trans (by simp)) (HF.out) (Offs.refl _ _)
      by_cases n8244 : a = 8244
      · subst n8244
        go_wp2
        go_loop [8] (fun i => ∃ k : Nat, k ≤ 0 ∧ i = .int .i64 k) (fun i => 2 - (intOf i).toNat)
        case atStart => exact ⟨0, by decide, rfl⟩
        case round =>
          obtain ⟨k, hk8, rfl⟩ := hrel
          obtain rfl : k = 0 := by omega
          go_wp2_with (go_at_call 97; refine (claim_any _ p b s HF.out A 0 (by decide)).mono ?_; rintro e w' ⟨rfl, hr, ho⟩)
          go_ret2
          exact dev_fin _ (_) true (HD.out.trans (by simp)) (hr) (ho)
      by_cases n8232 : a = 8232
      · subst n8232
        go_wp2
        go_loop [8] (fun i => ∃ k : Nat, k ≤ 1 ∧ i = .int .i64 k) (fun i => 2 - (intOf i).toNat)
        case atStart => exact ⟨0, by decide, rfl⟩
        case round =>
          obtain ⟨k, hk8, rfl⟩ := hrel
          have hk : k = 0 ∨ k = 1 := by omega
          rcases hk with rfl | rfl
          · go_wp2
            go_round
            case rel => exact ⟨1, by decide, rfl⟩
            case measure => simp [intOf]
          · go_wp2
            go_ret2
            exact dev_fin s (enAt s 1) true (HD.out.trans (by simp)) (HF.out) (Offs.refl _ _)
      by_cases n8248 : a = 8248
      · subst n8248
        go_wp2
        go_loop [8] (fun i => ∃ k : Nat, k ≤ 1 ∧ i = .int .i64 k) (fun i => 2 - (intOf i).toNat)
        case atStart => exact ⟨0, by decide, rfl⟩
        case round =>
          obtain ⟨k, hk8, rfl⟩ := hrel
          have hk : k = 0 ∨ k = 1 := by omega
          rcases hk with rfl | rfl
          · go_wp2
            go_round
            case rel => exact ⟨1, by decide, rfl⟩
            case measure => simp [intOf]
          · go_wp2
            go_ret2
            exact dev_fin s (liAt s 1) true (HD.out.trans (by simp)) (HF.out) (Offs.refl _ _)
      by_cases n8252 : a = 8252
      · subst n8252
        go_wp2
        go_loop [8] (fun i => ∃ k : Nat, k ≤ 1 ∧ i = .int .i64 k) (fun i => 2 - (intOf i).toNat)
        case atStart => exact ⟨0, by decide, rfl⟩
        case round =>
          obtain ⟨k, hk8, rfl⟩ := hrel
          have hk : k = 0 ∨ k = 1 := by omega
          rcases hk with rfl | rfl
          · go_wp2
            go_round
            case rel => exact ⟨1, by decide, rfl⟩
            case measure => simp [intOf]
          · go_wp2_with (go_at_call 97; refine (claim_any _ p b s HF.out A 1 (by decide)).mono ?_; rintro e w' ⟨rfl, hr, ho⟩)
            go_ret2
            exact dev_fin _ (_) true (HD.out.trans (by simp)) (hr) (ho)
      have d1 : ((a : Int) == 8228) = false := by simp; omega
      have d2 : ((a : Int) == 8240) = false := by simp; omega
      have d3 : ((a : Int) == 8244) = false := by simp; omega
      have d4 : ((a : Int) == 8232) = false := by simp; omega
      have d5 : ((a : Int) == 8248) = false := by simp; omega
      have d6 : ((a : Int) == 8252) = false := by simp; omega
      have HZ : Hid (devR s a = (s, 0, false)) := by unfold Hid; rw [HD.out, if_neg n8228, if_neg n8240, if_neg n8244, if_neg n8232, if_neg n8248, if_neg n8252]
      clear n8228 n8240 n8244 n8232 n8248 n8252
      go_wp2
      go_loop [8] (fun i => ∃ k : Nat, k ≤ 2 ∧ i = .int .i64 k) (fun i => 2 - (intOf i).toNat)
      case atStart => exact ⟨0, by decide, rfl⟩
      case round =>
        obtain ⟨k, hk8, rfl⟩ := hrel
        have hk : k = 0 ∨ k = 1 ∨ k = 2 := by omega
        rcases hk with rfl | rfl | rfl
        · go_wp2
          go_round
          case rel => exact ⟨1, by decide, rfl⟩
          case measure => simp [intOf]
        · go_wp2
          go_round
          case rel => exact ⟨2, by decide, rfl⟩
          case measure => simp [intOf]
        · go_wp2
          go_ret2
          exact dev_fin s (0) false (HZ.out) (HF.out) (Offs.refl _ _)
end Go.Proofs.YteiideeechnekaaGreatDoor

/-
  The document's complete.
-/
namespace Go.Proofs.YteiideeechnekaaGreatDoor
open Go.RowKit

theorem tSl {ops : Array Oper} {Q : Exit → Act → World → Prop} {S : World → Prop} (i : Nat) {v : Value} {A : Addr} {X : Operand} {oi : Oper} {fuel : Nat} {listed : Array Bool} {a : Act} {w : World} (hi : ops[i]? = some oi) (hop : oi.op = .load 31 X)
    (h4 : (Region.noSelect ops && Region.free .any ops listed i && (Region.ready .any ops listed).contains i && Region.wanted oi (yielded ops a.tmps)) = true) (hQ : ∀ c a w, Q (.panic c) (a.put oi.dst v) w → Q (.panic c) a w)
    (he : a.eval X = .pointer (some A)) (hc : ∀ w, S w → w.cell? A = some v) (hS : S w) (h : wpAnyH Tryz.prog .any ops Q S fuel (listed.setIfInBounds i true) (a.put oi.dst v) w) : wpAnyH Tryz.prog .any ops Q S (fuel + 1) listed a w :=
  tL i hi hop h4 hQ he (fun w h => by simp [Instr.loadAt, go_sem, h]) hc hS h
theorem tBo {ops : Array Oper} {Q : Exit → Act → World → Prop} {S : World → Prop} (i : Nat) {v : Value} {A : Addr} {X : Operand} {oi : Oper} {fuel : Nat} {listed : Array Bool} {a : Act} {w : World} (hi : ops[i]? = some oi) (hop : oi.op = .load 4 X)
    (h4 : (Region.noSelect ops && Region.free .any ops listed i && (Region.ready .any ops listed).contains i && Region.wanted oi (yielded ops a.tmps)) = true) (hQ : ∀ c a w, Q (.panic c) (a.put oi.dst v) w → Q (.panic c) a w)
    (he : a.eval X = .pointer (some A)) (hc : ∀ w, S w → w.cell? A = some v) (hS : S w) (h : wpAnyH Tryz.prog .any ops Q S fuel (listed.setIfInBounds i true) (a.put oi.dst v) w) : wpAnyH Tryz.prog .any ops Q S (fuel + 1) listed a w :=
  tL i hi hop h4 hQ he (fun w h => by simp [Instr.loadAt, go_sem, h]) hc hS h
theorem tX {ops : Array Oper} {Q : Exit → Act → World → Prop} {S : World → Prop} (i : Nat) {g k cap : Nat} {X Y : Operand} {oi : Oper} {fuel : Nat} {listed : Array Bool} {a : Act} {w : World} (hi : ops[i]? = some oi) (hop : oi.op = .indexAddr 31 X Y)
    (h4 : (Region.noSelect ops && Region.free .any ops listed i && (Region.ready .any ops listed).contains i && Region.wanted oi (yielded ops a.tmps)) = true) (hQ : ∀ c a w, Q (.panic c) (a.put oi.dst (.pointer (some ⟨g, k * 4, none⟩))) w → Q (.panic c) a w)
    (hx : a.eval X = .slice (some ⟨g, 0, none⟩) 8 cap) (hy : a.eval Y = .int .u32 k) (hk8 : (k : Int) < 8) (hS : S w) (h : wpAnyH Tryz.prog .any ops Q S fuel (listed.setIfInBounds i true) (a.put oi.dst (.pointer (some ⟨g, k * 4, none⟩))) w) : wpAnyH Tryz.prog .any ops Q S (fuel + 1) listed a w := by
  simp only [Bool.and_eq_true] at h4
  exact wpAnyH_take hi h4.1.1.1 h4.1.1.2 h4.1.2 hQ (Or.inl ⟨h4.2, fun w _ => by
    unfold execOp
    rw [hop]
    simp [hx, hy]
    go_simp⟩) hS h
def complR (s : RSt) (c : Nat) (v : Int) : RSt :=
  if v < 1 ∨ 7 < v then s else if (bits .and .u32 (enAt s c / 2 ^ v.toNat) 1 == 0) = true then s
  else if (srcAt s v.toNat).served then setW (setV s v.toNat false) v.toNat ((srcAt s v.toNat).high || (srcAt s v.toNat).waits) else s

set_option maxHeartbeats 4000000 in
set_option maxRecDepth 100000 in
theorem compl_any (W : World) (p : Nat) (b : RBl) (s : RSt) (h : RefAt W p b s) (A : b.Apart p) (c : Nat) (hc : c < 2) (v : Int) (v0 : 0 ≤ v) :
    Calls Tryz.prog 156 #[.pointer (some ⟨p, 0, none⟩), .int .i64 c, .int .u32 v] W (RP W p b (complR s c v)) := by
  have HF : Hid (RefAt W p b s) := h
  have k1 := h.csrc
  have k2 := h.cen
  have f1 := h.fs
  have e1 : W.cell? ⟨b.en, c, none⟩ = some (.int .u32 (enAt s c)) := by have := h.en.cell c (by rw [h.nen]; exact hc); simpa [enAt, List.getD] using this
  have hci : (c : Int) < 2 := by omega
  clear h hc
  by_cases h1 : v < 1
  · have HE : Hid (complR s c v = s) := by unfold Hid complR; rw [if_pos (Or.inl h1)]
    go_enter Tryz.func156, Tryz.ntmps156
    go_wp2
    exact bodyPost_ret (v := .tuple #[]) (by simp [results, Tryz.results156, go_sem]) rfl ⟨rfl, by rw [HE.out]; exact HF.out, Offs.refl _ _⟩
  by_cases h7 : 7 < v
  · have HE : Hid (complR s c v = s) := by unfold Hid complR; rw [if_pos (Or.inr h7)]
    go_enter Tryz.func156, Tryz.ntmps156
    go_wp2
    exact bodyPost_ret (v := .tuple #[]) (by simp [results, Tryz.results156, go_sem]) rfl ⟨rfl, by rw [HE.out]; exact HF.out, Offs.refl _ _⟩
  obtain ⟨k, rfl⟩ : ∃ k : Nat, v = k := ⟨v.toNat, by omega⟩
  have h1' : ¬ ((k : Int) < 1) := h1
  have hk8 : (k : Int) < 8 := by omega
  have ce : complR s c (k : Int) = if (bits .and .u32 (enAt s c / 2 ^ k) 1 == 0) = true then s else if (srcAt s k).served then setW (setV s k false) k ((srcAt s k).high || (srcAt s k).waits) else s := by
    unfold complR; rw [if_neg (by omega)]; rfl
  by_cases hb : (bits .and .u32 (enAt s c / 2 ^ k) 1 == 0) = true
  · have HE : Hid (complR s c k = s) := by unfold Hid; rw [ce, if_pos hb]
    clear ce
    go_enter Tryz.func156, Tryz.ntmps156
    go_wp2
    exact bodyPost_ret (v := .tuple #[]) (by simp [results, Tryz.results156, go_sem]) rfl ⟨rfl, by rw [HE.out]; exact HF.out, Offs.refl _ _⟩
  have hb' : (bits .and .u32 (enAt s c / 2 ^ k) 1 == 0) = false := by simpa using hb
  rw [if_neg hb] at ce
  clear hb
  have c1 := HF.out.served k (by omega)
  have c2 := HF.out.high k (by omega)
  have c3 := HF.out.waits k (by omega)
  by_cases hs : (srcAt s k).served = true
  · have HE : Hid (complR s c k = setW (setV s k false) k ((srcAt s k).high || (srcAt s k).waits)) := by unfold Hid; rw [ce, if_pos hs]
    clear ce
    obtain ⟨hi, ehi⟩ : ∃ x, x = (srcAt s k).high := ⟨_, rfl⟩
    obtain ⟨wa, ewa⟩ : ∃ x, x = (srcAt s k).waits := ⟨_, rfl⟩
    rw [← ehi] at c2
    rw [← ewa] at c3
    have HI : Hid (hi = (srcAt s k).high) := ehi
    have HA : Hid (wa = (srcAt s k).waits) := ewa
    clear ehi ewa
    have R1 := HF.out.put_served A k (by omega) false
    have d1 : (W.setCell ⟨b.src, k * 4 + 2, none⟩ (.bool false)).cell? ⟨b.src, k * 4, none⟩ = some (.bool hi) := (World.cell?_setCell_other _ _ _ _ (by intro e; injection e with e1 e2; omega)).trans c2
    have d2 : (W.setCell ⟨b.src, k * 4 + 2, none⟩ (.bool false)).cell? ⟨b.src, k * 4 + 1, none⟩ = some (.bool wa) := (World.cell?_setCell_other _ _ _ _ (by intro e; injection e with e1 e2; omega)).trans c3
    have d3 : (W.setCell ⟨b.src, k * 4 + 2, none⟩ (.bool false)).cell? ⟨p, 30, none⟩ = some (.slice (some ⟨b.src, 0, none⟩) 8 b.ksrc) := R1.csrc
    have HR : Hid (RefAt (W.setCell ⟨b.src, k * 4 + 2, none⟩ (.bool false)) p b (setV s k false)) := R1
    have O1 : Hid (Offs (b.l p) W (W.setCell ⟨b.src, k * 4 + 2, none⟩ (.bool false))) := (Offs.refl _ _).put (by simp [RBl.l]) _
    clear R1
    cases hi
    · go_enter Tryz.func156, Tryz.ntmps156
      go_wp2_with fail
      have f3 := HR.out.fs
      generalize W.setCell ⟨b.src, k * 4 + 2, none⟩ (.bool false) = w0 at HR d1 d2 d3 f3 O1 ⊢
      have hS : w0.drew.cell? ⟨p, 30, none⟩ = some (.slice (some ⟨b.src, 0, none⟩) 8 b.ksrc) ∧ w0.drew.cell? ⟨b.src, k * 4, none⟩ = some (.bool false) ∧ w0.drew.cell? ⟨b.src, k * 4 + 1, none⟩ = some (.bool wa) := ⟨d3, d1, d2⟩
      refine wp_region_held (S := fun w' => w'.cell? ⟨p, 30, none⟩ = some (.slice (some ⟨b.src, 0, none⟩) 8 b.ksrc) ∧ w'.cell? ⟨b.src, k * 4, none⟩ = some (.bool false) ∧ w'.cell? ⟨b.src, k * 4 + 1, none⟩ = some (.bool wa)) (by kernel_rfl) ?_
      change wpAnyH _ _ _ _ _ _ _ _ (w0.drew)
      refine yK 0 (.pointer (some ⟨p, 0, none⟩)) hS ?_
      refine yK 1 (.pointer (some ⟨p, 0, none⟩)) hS ?_
      refine yK 2 (.pointer (some ⟨p, 30, none⟩)) hS ?_
      refine tSl 3 rfl rfl (by kernel_rfl) (fun _ _ _ h => h) (by kernel_rfl) (fun _ h => h.1) hS ?_
      refine yK 4 (.int .u32 k) hS ?_
      refine yK 5 (.pointer (some ⟨p, 0, none⟩)) hS ?_
      refine yK 6 (.pointer (some ⟨p, 0, none⟩)) hS ?_
      refine yK 7 (.pointer (some ⟨p, 30, none⟩)) hS ?_
      refine tSl 8 rfl rfl (by kernel_rfl) (fun _ _ _ h => h) (by kernel_rfl) (fun _ h => h.1) hS ?_
      refine yK 9 (.int .u32 k) hS ?_
      refine tX 10 (g := b.src) (k := k) (cap := b.ksrc) rfl rfl (by kernel_rfl) (fun _ _ _ h => h) (by kernel_rfl) (by kernel_rfl) hk8 hS ?_
      refine yK 11 (.pointer (some ⟨b.src, k * 4, none⟩)) hS ?_
      refine tBo 12 rfl rfl (by kernel_rfl) (fun _ _ _ h => h) (by kernel_rfl) (fun _ h => h.2.1) hS ?_
      refine yK 13 (.bool false) hS ?_
      refine yK 14 (.pointer (some ⟨p, 0, none⟩)) hS ?_
      refine yK 15 (.pointer (some ⟨p, 0, none⟩)) hS ?_
      refine yK 16 (.pointer (some ⟨p, 30, none⟩)) hS ?_
      refine tSl 17 rfl rfl (by kernel_rfl) (fun _ _ _ h => h) (by kernel_rfl) (fun _ h => h.1) hS ?_
      refine yK 18 (.int .u32 k) hS ?_
      refine tX 19 (g := b.src) (k := k) (cap := b.ksrc) rfl rfl (by kernel_rfl) (fun _ _ _ h => h) (by kernel_rfl) (by kernel_rfl) hk8 hS ?_
      refine yK 20 (.pointer (some ⟨b.src, k * 4 + 1, none⟩)) hS ?_
      refine tBo 21 rfl rfl (by kernel_rfl) (fun _ _ _ h => h) (by kernel_rfl) (fun _ h => h.2.2) hS ?_
      refine yK 22 (.bool wa) hS ?_
      refine tX 23 (g := b.src) (k := k) (cap := b.ksrc) rfl rfl (by kernel_rfl) (fun _ _ _ h => h) (by kernel_rfl) (by kernel_rfl) hk8 hS ?_
      refine yK 24 (.pointer (some ⟨b.src, k * 4 + 1, none⟩)) hS ?_
      refine tA 25 (by kernel_rfl) (wpOp_step rfl fun K hK => ?_)
      go_simp
      have P := HR.out.put_waits A k (by omega) wa
      have q2 : (w0.setCell ⟨b.src, k * 4 + 1, none⟩ (.bool wa)).cell? ⟨b.src, k * 4, none⟩ = some (.bool false) := (World.cell?_setCell_other _ _ _ _ (by intro e; injection e with e1 e2; omega)).trans d1
      refine hK _ _ ⟨⟨P.csrc, q2, World.cell?_setCell_same _ _ _ d2⟩, wpAnyH_done (by kernel_rfl) ?_ _⟩
      clear hK K
      go_wp2_with fail
      go_end0
      exact ⟨rfl, by rw [HE.out, ← HI.out, ← HA.out]; exact P.drawn 1, (O1.out.put (by simp [RBl.l]) _).drawn 1⟩
    · go_enter Tryz.func156, Tryz.ntmps156
      go_wp2_with fail
      have f3 := HR.out.fs
      generalize W.setCell ⟨b.src, k * 4 + 2, none⟩ (.bool false) = w0 at HR d1 d2 d3 f3 O1 ⊢
      have hS : w0.drew.cell? ⟨p, 30, none⟩ = some (.slice (some ⟨b.src, 0, none⟩) 8 b.ksrc) ∧ w0.drew.cell? ⟨b.src, k * 4, none⟩ = some (.bool true) := ⟨d3, d1⟩
      refine wp_region_held (S := fun w' => w'.cell? ⟨p, 30, none⟩ = some (.slice (some ⟨b.src, 0, none⟩) 8 b.ksrc) ∧ w'.cell? ⟨b.src, k * 4, none⟩ = some (.bool true)) (by kernel_rfl) ?_
      change wpAnyH _ _ _ _ _ _ _ _ (w0.drew)
      refine yK 0 (.pointer (some ⟨p, 0, none⟩)) hS ?_
      refine yK 1 (.pointer (some ⟨p, 0, none⟩)) hS ?_
      refine yK 2 (.pointer (some ⟨p, 30, none⟩)) hS ?_
      refine tSl 3 rfl rfl (by kernel_rfl) (fun _ _ _ h => h) (by kernel_rfl) (fun _ h => h.1) hS ?_
      refine yK 4 (.int .u32 k) hS ?_
      refine yK 5 (.pointer (some ⟨p, 0, none⟩)) hS ?_
      refine yK 6 (.pointer (some ⟨p, 0, none⟩)) hS ?_
      refine yK 7 (.pointer (some ⟨p, 30, none⟩)) hS ?_
      refine tSl 8 rfl rfl (by kernel_rfl) (fun _ _ _ h => h) (by kernel_rfl) (fun _ h => h.1) hS ?_
      refine yK 9 (.int .u32 k) hS ?_
      refine tX 10 (g := b.src) (k := k) (cap := b.ksrc) rfl rfl (by kernel_rfl) (fun _ _ _ h => h) (by kernel_rfl) (by kernel_rfl) hk8 hS ?_
      refine yK 11 (.pointer (some ⟨b.src, k * 4, none⟩)) hS ?_
      refine tBo 12 rfl rfl (by kernel_rfl) (fun _ _ _ h => h) (by kernel_rfl) (fun _ h => h.2) hS ?_
      refine yK 13 (.bool true) hS ?_
      refine yN 14 hS ?_
      refine yN 15 hS ?_
      refine yN 16 hS ?_
      refine yN 17 hS ?_
      refine yN 18 hS ?_
      refine yN 19 hS ?_
      refine yN 20 hS ?_
      refine yN 21 hS ?_
      refine yK 22 (.bool true) hS ?_
      refine tX 23 (g := b.src) (k := k) (cap := b.ksrc) rfl rfl (by kernel_rfl) (fun _ _ _ h => h) (by kernel_rfl) (by kernel_rfl) hk8 hS ?_
      refine yK 24 (.pointer (some ⟨b.src, k * 4 + 1, none⟩)) hS ?_
      refine tA 25 (by kernel_rfl) (wpOp_step rfl fun K hK => ?_)
      go_simp
      have P := HR.out.put_waits A k (by omega) true
      have q2 : (w0.setCell ⟨b.src, k * 4 + 1, none⟩ (.bool true)).cell? ⟨b.src, k * 4, none⟩ = some (.bool true) := (World.cell?_setCell_other _ _ _ _ (by intro e; injection e with e1 e2; omega)).trans d1
      refine hK _ _ ⟨⟨P.csrc, q2⟩, wpAnyH_done (by kernel_rfl) ?_ _⟩
      clear hK K
      go_wp2_with fail
      go_end0
      exact ⟨rfl, by rw [HE.out, ← HI.out, ← HA.out]; exact P.drawn 1, (O1.out.put (by simp [RBl.l]) _).drawn 1⟩
  · have hs' : (srcAt s k).served = false := by simpa using hs
    have HE : Hid (complR s c k = s) := by unfold Hid; rw [ce, if_neg hs]
    clear ce hs
    go_enter Tryz.func156, Tryz.ntmps156
    go_wp2
    exact bodyPost_ret (v := .tuple #[]) (by simp [results, Tryz.results156, go_sem]) rfl ⟨rfl, by rw [HE.out]; exact HF.out, Offs.refl _ _⟩
end Go.Proofs.YteiideeechnekaaGreatDoor

/-
  The document's set: a word of a device is written.
-/
namespace Go.Proofs.YteiideeechnekaaGreatDoor
open Go.RowKit

def setP (s : RSt) (m : Nat) (v : Int) : RSt := { s with src := s.src.set m { srcAt s m with prio := v } }
def setR (s : RSt) (a : Nat) (v : Int) : RSt × Bool :=
  if a = 4096 then ({ s with msip := bits .and .u32 v 1 }, true) else if a = 4100 then ({ s with mtimecmp := v }, true) else if a = 4104 then ({ s with mtime := v }, true)
  else if a = 8224 then (s, true) else if a = 8192 then (s, true)
  else if 8192 < a ∧ a < 8224 ∧ a % 4 = 0 then (setP s ((a - 8192) / 4) (bits .and .u32 v 7), true)
  else if a = 8228 then ({ s with enable := s.enable.set 0 (bits .and .u32 v 254) }, true) else if a = 8240 then ({ s with limit := s.limit.set 0 (bits .and .u32 v 7) }, true) else if a = 8244 then (complR s 0 v, true)
  else if a = 8232 then ({ s with enable := s.enable.set 1 (bits .and .u32 v 254) }, true) else if a = 8248 then ({ s with limit := s.limit.set 1 (bits .and .u32 v 7) }, true) else if a = 8252 then (complR s 1 v, true)
  else (s, false)
theorem set_fin {p : Nat} {b : RBl} {s : RSt} {a : Nat} {v : Int} {W W' : World} (s' : RSt) (ok : Bool) (E : setR s a v = (s', ok)) (h : RefAt W' p b s') (ho : Offs (b.l p) W W') :
    Ending.returned (.bool ok) = .returned (.bool (setR s a v).2) ∧ RefAt W' p b (setR s a v).1 ∧ Offs (b.l p) W W' := by
  rw [E]; exact ⟨rfl, h, ho⟩

set_option maxHeartbeats 4000000 in
set_option maxRecDepth 100000 in
theorem set_any (W : World) (p : Nat) (b : RBl) (s : RSt) (h : RefAt W p b s) (A : b.Apart p) (a : Nat) (ha : a < 4294967296) (v : Int)
    (CO : ∀ c : Nat, c < 2 → Calls Tryz.prog 156 #[.pointer (some ⟨p, 0, none⟩), .int .i64 c, .int .u32 v] W (RP W p b (complR s c v))) :
    Calls Tryz.prog 119 #[.pointer (some ⟨p, 0, none⟩), .int .u32 a, .int .u32 v] W fun e W' => e = .returned (.bool (setR s a v).2) ∧ RefAt W' p b (setR s a v).1 ∧ Offs (b.l p) W W' := by
  have HF : Hid (RefAt W p b s) := h
  have HK : Hid (∀ c : Nat, c < 2 → Calls Tryz.prog 156 #[.pointer (some ⟨p, 0, none⟩), .int .i64 c, .int .u32 v] W (RP W p b (complR s c v))) := CO
  clear CO
  have k1 := h.csrc
  have k2 := h.cen
  have k3 := h.cli
  have c1 := h.msip
  have c2 := h.mtimecmp
  have c3 := h.mtime
  have fz := h.fp
  have fz2 := h.fs
  have fe : ∀ j, W.frozen? ⟨b.en, j, none⟩ = false := fun j => by obtain ⟨cur, h1, _⟩ := h.en; simp [World.frozen?, h1]
  have fl : ∀ j, W.frozen? ⟨b.li, j, none⟩ = false := fun j => by obtain ⟨cur, h1, _⟩ := h.li; simp [World.frozen?, h1]
  have e0 : W.cell? ⟨b.en, 0, none⟩ = some (.int .u32 (enAt s 0)) := by have := h.en.cell 0 (by rw [h.nen]; decide); simpa [enAt, List.getD] using this
  have e1 : W.cell? ⟨b.en, 1, none⟩ = some (.int .u32 (enAt s 1)) := by have := h.en.cell 1 (by rw [h.nen]; decide); simpa [enAt, List.getD] using this
  have l0 : W.cell? ⟨b.li, 0, none⟩ = some (.int .u32 (liAt s 0)) := by have := h.li.cell 0 (by rw [h.nli]; decide); simpa [liAt, List.getD] using this
  have l1 : W.cell? ⟨b.li, 1, none⟩ = some (.int .u32 (liAt s 1)) := by have := h.li.cell 1 (by rw [h.nli]; decide); simpa [liAt, List.getD] using this
  have HP : Hid (∀ i, i < 8 → W.cell? ⟨b.src, i * 4 + 3, none⟩ = some (.int .u32 (srcAt s i).prio)) := h.prio
  clear h
  have ha' : (a : Int) < 4294967296 := by omega
  by_cases a4096 : a = 4096
  · subst a4096
    go_enter Tryz.func119, Tryz.ntmps119
    go_wp2
    go_ret
    exact set_fin _ true (by simp [setR]) (HF.out.put_msip A _) ((Offs.refl _ _).put (by simp [RBl.l]) _)
  by_cases a4100 : a = 4100
  · subst a4100
    go_enter Tryz.func119, Tryz.ntmps119
    go_wp2
    go_ret
    exact set_fin _ true (by simp [setR]) (HF.out.put_mtimecmp A _) ((Offs.refl _ _).put (by simp [RBl.l]) _)
  by_cases a4104 : a = 4104
  · subst a4104
    go_enter Tryz.func119, Tryz.ntmps119
    go_wp2
    go_ret
    exact set_fin _ true (by simp [setR]) (HF.out.put_mtime A _) ((Offs.refl _ _).put (by simp [RBl.l]) _)
  by_cases a8224 : a = 8224
  · subst a8224
    go_enter Tryz.func119, Tryz.ntmps119
    go_wp2
    go_ret
    exact set_fin _ true (by simp [setR]) (HF.out) (Offs.refl _ _)
  by_cases a8192 : a = 8192
  · subst a8192
    go_enter Tryz.func119, Tryz.ntmps119
    go_wp2
    go_ret
    exact set_fin _ true (by simp [setR]) (HF.out) (Offs.refl _ _)
  have b4096 : ((a : Int) == 4096) = false := by simp; omega
  have b4100 : ((a : Int) == 4100) = false := by simp; omega
  have b4104 : ((a : Int) == 4104) = false := by simp; omega
  have b8224 : ((a : Int) == 8224) = false := by simp; omega
  have b8192 : ((a : Int) == 8192) = false := by simp; omega
  have HA : Hid (a ≠ 4096 ∧ a ≠ 4100 ∧ a ≠ 4104 ∧ a ≠ 8224 ∧ a ≠ 8192) := ⟨a4096, a4100, a4104, a8224, a8192⟩
  clear a4096 a4100 a4104 a8224 a8192
  go_enter Tryz.func119, Tryz.ntmps119
  go_wp2
  go_loop [7] (fun i => ∃ k : Nat, 1 ≤ k ∧ k ≤ 8 ∧ i = .int .i64 k ∧ Hid (∀ j, 1 ≤ j → j < k → a ≠ 8192 + 4 * j)) (fun i => 8 - (intOf i).toNat)
  case atStart => exact ⟨1, by decide, by decide, rfl, fun j h1 h => absurd h (by omega)⟩
  case round =>
    obtain ⟨k, hk1, hk8, rfl, hno⟩ := hrel
    by_cases hlt : k < 8
    · have hk : k = 1 ∨ k = 2 ∨ k = 3 ∨ k = 4 ∨ k = 5 ∨ k = 6 ∨ k = 7 := by omega
      rcases hk with rfl | rfl | rfl | rfl | rfl | rfl | rfl
      · have cp := HP.out 1 (by decide)
        by_cases he : a = 8196
        · subst he
          go_wp2
          go_ret
          exact set_fin _ true (by simp [setR]; rfl) (HF.out.put_prio A 1 (by decide) _) ((Offs.refl _ _).put (by simp [RBl.l]) _)
        · have e5 : ((a : Int) == 8196) = false := by simp; omega
          have HE : Hid (∀ j, 1 ≤ j → j < 2 → a ≠ 8192 + 4 * j) := fun j h1 hj => by
            by_cases e : j = 1
            · rw [e]; exact he
            · exact hno.out j h1 (by omega)
          clear he hno
          go_wp2
          go_round
          case rel => exact ⟨2, by decide, by decide, rfl, HE⟩
          case measure => simp [intOf]
      · have cp := HP.out 2 (by decide)
        by_cases he : a = 8200
        · subst he
          go_wp2
          go_ret
          exact set_fin _ true (by simp [setR]; rfl) (HF.out.put_prio A 2 (by decide) _) ((Offs.refl _ _).put (by simp [RBl.l]) _)
        · have e5 : ((a : Int) == 8200) = false := by simp; omega
          have HE : Hid (∀ j, 1 ≤ j → j < 3 → a ≠ 8192 + 4 * j) := fun j h1 hj => by
            by_cases e : j = 2
            · rw [e]; exact he
            · exact hno.out j h1 (by omega)
          clear he hno
          go_wp2
          go_round
          case rel => exact ⟨3, by decide, by decide, rfl, HE⟩
          case measure => simp [intOf]
      · have cp := HP.out 3 (by decide)
        by_cases he : a = 8204
        · subst he
          go_wp2
          go_ret
          exact set_fin _ true (by simp [setR]; rfl) (HF.out.put_prio A 3 (by decide) _) ((Offs.refl _ _).put (by simp [RBl.l]) _)
        · have e5 : ((a : Int) == 8204) = false := by simp; omega
          have HE : Hid (∀ j, 1 ≤ j → j < 4 → a ≠ 8192 + 4 * j) := fun j h1 hj => by
            by_cases e : j = 3
            · rw [e]; exact he
            · exact hno.out j h1 (by omega)
          clear he hno
          go_wp2
          go_round
          case rel => exact ⟨4, by decide, by decide, rfl, HE⟩
          case measure => simp [intOf]
      · have cp := HP.out 4 (by decide)
        by_cases he : a = 8208
        · subst he
          go_wp2
          go_ret
          exact set_fin _ true (by simp [setR]; rfl) (HF.out.put_prio A 4 (by decide) _) ((Offs.refl _ _).put (by simp [RBl.l]) _)
        · have e5 : ((a : Int) == 8208) = false := by simp; omega
          have HE : Hid (∀ j, 1 ≤ j → j < 5 → a ≠ 8192 + 4 * j) := fun j h1 hj => by
            by_cases e : j = 4
            · rw [e]; exact he
            · exact hno.out j h1 (by omega)
          clear he hno
          go_wp2
          go_round
          case rel => exact ⟨5, by decide, by decide, rfl, HE⟩
          case measure => simp [intOf]
      · have cp := HP.out 5 (by decide)
        by_cases he : a = 8212
        · subst he
          go_wp2
          go_ret
          exact set_fin _ true (by simp [setR]; rfl) (HF.out.put_prio A 5 (by decide) _) ((Offs.refl _ _).put (by simp [RBl.l]) _)
        · have e5 : ((a : Int) == 8212) = false := by simp; omega
          have HE : Hid (∀ j, 1 ≤ j → j < 6 → a ≠ 8192 + 4 * j) := fun j h1 hj => by
            by_cases e : j = 5
            · rw [e]; exact he
            · exact hno.out j h1 (by omega)
          clear he hno
          go_wp2
          go_round
          case rel => exact ⟨6, by decide, by decide, rfl, HE⟩
          case measure => simp [intOf]
      · have cp := HP.out 6 (by decide)
        by_cases he : a = 8216
        · subst he
          go_wp2
          go_ret
          exact set_fin _ true (by simp [setR]; rfl) (HF.out.put_prio A 6 (by decide) _) ((Offs.refl _ _).put (by simp [RBl.l]) _)
        · have e5 : ((a : Int) == 8216) = false := by simp; omega
          have HE : Hid (∀ j, 1 ≤ j → j < 7 → a ≠ 8192 + 4 * j) := fun j h1 hj => by
            by_cases e : j = 6
            · rw [e]; exact he
            · exact hno.out j h1 (by omega)
          clear he hno
          go_wp2
          go_round
          case rel => exact ⟨7, by decide, by decide, rfl, HE⟩
          case measure => simp [intOf]
      · have cp := HP.out 7 (by decide)
        by_cases he : a = 8220
        · subst he
          go_wp2
          go_ret
          exact set_fin _ true (by simp [setR]; rfl) (HF.out.put_prio A 7 (by decide) _) ((Offs.refl _ _).put (by simp [RBl.l]) _)
        · have e5 : ((a : Int) == 8220) = false := by simp; omega
          have HE : Hid (∀ j, 1 ≤ j → j < 8 → a ≠ 8192 + 4 * j) := fun j h1 hj => by
            by_cases e : j = 7
            · rw [e]; exact he
            · exact hno.out j h1 (by omega)
          clear he hno
          go_wp2
          go_round
          case rel => exact ⟨8, by decide, by decide, rfl, HE⟩
          case measure => simp [intOf]
    · obtain rfl : k = 8 := by omega
      have HB : Hid (¬ (8192 < a ∧ a < 8224 ∧ a % 4 = 0)) := fun hb => hno.out ((a - 8192) / 4) (by omega) (by omega) (by omega)
      clear hno
      have HD : Hid (setR s a v = if a = 8228 then ({ s with enable := s.enable.set 0 (bits .and .u32 v 254) }, true) else if a = 8240 then ({ s with limit := s.limit.set 0 (bits .and .u32 v 7) }, true) else if a = 8244 then (complR s 0 v, true)
          else if a = 8232 then ({ s with enable := s.enable.set 1 (bits .and .u32 v 254) }, true) else if a = 8248 then ({ s with limit := s.limit.set 1 (bits .and .u32 v 7) }, true) else if a = 8252 then (complR s 1 v, true) else (s, false)) := by
        have ha := HA.out
        unfold Hid setR
        rw [if_neg ha.1, if_neg ha.2.1, if_neg ha.2.2.1, if_neg ha.2.2.2.1, if_neg ha.2.2.2.2, if_neg HB.out]
      by_cases n8228 : a = 8228
      · subst n8228
        go_wp2
        go_loop [8] (fun i => ∃ k : Nat, k ≤ 0 ∧ i = .int .i64 k) (fun i => 2 - (intOf i).toNat)
        case atStart => exact ⟨0, by decide, rfl⟩
        case round =>
          obtain ⟨k, hk8, rfl⟩ := hrel
          obtain rfl : k = 0 := by omega
          go_wp2
          go_ret
          exact set_fin _ true (HD.out.trans (by simp)) (HF.out.put_en A 0 _) ((Offs.refl _ _).put (by simp [RBl.l]) _)
      by_cases n8240 : a = 8240
      · subst n8240
        go_wp2
        go_loop [8] (fun i => ∃ k : Nat, k ≤ 0 ∧ i = .int .i64 k) (fun i => 2 - (intOf i).toNat)
        case atStart => exact ⟨0, by decide, rfl⟩
        case round =>
          obtain ⟨k, hk8, rfl⟩ := hrel
          obtain rfl : k = 0 := by omega
          go_wp2
          go_ret
          exact set_fin _ true (HD.out.trans (by simp)) (HF.out.put_li A 0 _) ((Offs.refl _ _).put (by simp [RBl.l]) _)
      by_cases n8244 : a = 8244
      · subst n8244
        go_wp2
        go_loop [8] (fun i => ∃ k : Nat, k ≤ 0 ∧ i = .int .i64 k) (fun i => 2 - (intOf i).toNat)
        case atStart => exact ⟨0, by decide, rfl⟩
        case round =>
          obtain ⟨k, hk8, rfl⟩ := hrel
          obtain rfl : k = 0 := by omega
          go_wp2_with (go_at_call 156; refine (HK.out 0 (by decide)).mono ?_; rintro e w' ⟨rfl, hr, ho⟩)
          go_ret
          exact set_fin _ true (HD.out.trans (by simp)) (hr) ho
      by_cases n8232 : a = 8232
      · subst n8232
        go_wp2
        go_loop [8] (fun i => ∃ k : Nat, k ≤ 1 ∧ i = .int .i64 k) (fun i => 2 - (intOf i).toNat)
        case atStart => exact ⟨0, by decide, rfl⟩
        case round =>
          obtain ⟨k, hk8, rfl⟩ := hrel
          have hk : k = 0 ∨ k = 1 := by omega
          rcases hk with rfl | rfl
          · go_wp2
            go_round
            case rel => exact ⟨1, by decide, rfl⟩
            case measure => simp [intOf]
          · go_wp2
            go_ret
            exact set_fin _ true (HD.out.trans (by simp)) (HF.out.put_en A 1 _) ((Offs.refl _ _).put (by simp [RBl.l]) _)
      by_cases n8248 : a = 8248
      · subst n8248
        go_wp2
        go_loop [8] (fun i => ∃ k : Nat, k ≤ 1 ∧ i = .int .i64 k) (fun i => 2 - (intOf i).toNat)
        case atStart => exact ⟨0, by decide, rfl⟩
        case round =>
          obtain ⟨k, hk8, rfl⟩ := hrel
          have hk : k = 0 ∨ k = 1 := by omega
          rcases hk with rfl | rfl
          · go_wp2
            go_round
            case rel => exact ⟨1, by decide, rfl⟩
            case measure => simp [intOf]
          · go_wp2
            go_ret
            exact set_fin _ true (HD.out.trans (by simp)) (HF.out.put_li A 1 _) ((Offs.refl _ _).put (by simp [RBl.l]) _)
      by_cases n8252 : a = 8252
      · subst n8252
        go_wp2
        go_loop [8] (fun i => ∃ k : Nat, k ≤ 1 ∧ i = .int .i64 k) (fun i => 2 - (intOf i).toNat)
        case atStart => exact ⟨0, by decide, rfl⟩
        case round =>
          obtain ⟨k, hk8, rfl⟩ := hrel
          have hk : k = 0 ∨ k = 1 := by omega
          rcases hk with rfl | rfl
          · go_wp2
            go_round
            case rel => exact ⟨1, by decide, rfl⟩
            case measure => simp [intOf]
          · go_wp2_with (go_at_call 156; refine (HK.out 1 (by decide)).mono ?_; rintro e w' ⟨rfl, hr, ho⟩)
            go_ret
            exact set_fin _ true (HD.out.trans (by simp)) (hr) ho
      have d1 : ((a : Int) == 8228) = false := by simp; omega
      have d2 : ((a : Int) == 8240) = false := by simp; omega
      have d3 : ((a : Int) == 8244) = false := by simp; omega
      have d4 : ((a : Int) == 8232) = false := by simp; omega
      have d5 : ((a : Int) == 8248) = false := by simp; omega
      have d6 : ((a : Int) == 8252) = false := by simp; omega
      have HZ : Hid (setR s a v = (s, false)) := by unfold Hid; rw [HD.out, if_neg n8228, if_neg n8240, if_neg n8244, if_neg n8232, if_neg n8248, if_neg n8252]
      clear n8228 n8240 n8244 n8232 n8248 n8252
      go_wp2
      go_loop [8] (fun i => ∃ k : Nat, k ≤ 2 ∧ i = .int .i64 k) (fun i => 2 - (intOf i).toNat)
      case atStart => exact ⟨0, by decide, rfl⟩
      case round =>
        obtain ⟨k, hk8, rfl⟩ := hrel
        have hk : k = 0 ∨ k = 1 ∨ k = 2 := by omega
        rcases hk with rfl | rfl | rfl
        · go_wp2
          go_round
          case rel => exact ⟨1, by decide, rfl⟩
          case measure => simp [intOf]
        · go_wp2
          go_round
          case rel => exact ⟨2, by decide, rfl⟩
          case measure => simp [intOf]
        · go_wp2
          go_ret
          exact set_fin s false HZ.out HF.out (Offs.refl _ _)
end Go.Proofs.YteiideeechnekaaGreatDoor
