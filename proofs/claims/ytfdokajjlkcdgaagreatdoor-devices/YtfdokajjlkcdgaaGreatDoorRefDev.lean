/-
  The document's device: a word of a device is read.
-/
import Derived.Test.YtfdokajjlkcdgaaGreatDoorRefClaim
namespace Go.Proofs.YtfdokajjlkcdgaaGreatDoor
open Go.RowKit

def devR (s : RSt) (a : Nat) : RSt × Int × Bool :=
  if a = 4096 then (s, s.msip, true) else if a = 4100 then (s, s.mtimecmp, true) else if a = 4104 then (s, s.mtime, true)
  else if a = 8224 then (s, mk (fun i => (srcAt s i).waits) 7, true)
  else if 8192 ≤ a ∧ a < 8224 ∧ a % 4 = 0 then (s, (srcAt s ((a - 8192) / 4)).prio, true)
  else if a = 8228 then (s, enAt s 0, true) else if a = 8240 then (s, liAt s 0, true) else if a = 8244 then (claimS s (bestR s 0 7), (bestR s 0 7 : Nat), true)
  else if a = 8232 then (s, enAt s 1, true) else if a = 8248 then (s, liAt s 1, true) else if a = 8252 then (claimS s (bestR s 1 7), (bestR s 1 7 : Nat), true)
  else (s, 0, false)

theorem dev_fin {p : Nat} {b : RBl} {s : RSt} {a : Nat} {W W' : World} (s' : RSt) (v : Int) (ok : Bool) (E : devR s a = (s', v, ok)) (h : RefAt W' p b s') (ho : Offs (b.l p) W W') :
    Ending.returned (.tuple #[.int .u32 v, .bool ok]) = .returned (.tuple #[.int .u32 (devR s a).2.1, .bool (devR s a).2.2]) ∧ RefAt W' p b (devR s a).1 ∧ Offs (b.l p) W W' := by
  rw [E]; exact ⟨rfl, h, ho⟩

set_option maxHeartbeats 4000000 in
set_option maxRecDepth 100000 in
theorem device_any (W : World) (p : Nat) (b : RBl) (s : RSt) (h : RefAt W p b s) (A : b.Apart p) (a : Nat) (ha : a < 4294967296) :
    Calls Tryz.prog 42 #[.pointer (some ⟨p, 0, none⟩), .int .u32 a] W fun e W' => e = .returned (.tuple #[.int .u32 (devR s a).2.1, .bool (devR s a).2.2]) ∧ RefAt W' p b (devR s a).1 ∧ Offs (b.l p) W W' := by
  have HF : Hid (RefAt W p b s) := h
  have k1 := h.csrc
  have k2 := h.cen
  have k3 := h.cli
  have c1 := h.msip
  have c2 := h.mtimecmp
  have c3 := h.mtime
  have e0 : W.cell? ⟨b.en, 0, none⟩ = some (.int .u32 (enAt s 0)) := by have := h.en.cell 0 (by rw [h.nen]; decide); simpa [enAt, List.getD] using this
  have e1 : W.cell? ⟨b.en, 1, none⟩ = some (.int .u32 (enAt s 1)) := by have := h.en.cell 1 (by rw [h.nen]; decide); simpa [enAt, List.getD] using this
  have l0 : W.cell? ⟨b.li, 0, none⟩ = some (.int .u32 (liAt s 0)) := by have := h.li.cell 0 (by rw [h.nli]; decide); simpa [liAt, List.getD] using this
  have l1 : W.cell? ⟨b.li, 1, none⟩ = some (.int .u32 (liAt s 1)) := by have := h.li.cell 1 (by rw [h.nli]; decide); simpa [liAt, List.getD] using this
  have HP : Hid (∀ i, i < 8 → W.cell? ⟨b.src, i * 4 + 3, none⟩ = some (.int .u32 (srcAt s i).prio)) := h.prio
  clear h
  have ha' : (a : Int) < 4294967296 := by omega
  by_cases a1 : a = 4096
  · subst a1
    go_enter Tryz.func42, Tryz.ntmps42
    go_wp2
    go_ret2
    exact dev_fin s (s.msip) true (by simp [devR]) (HF.out) (Offs.refl _ _)
  by_cases a2 : a = 4100
  · subst a2
    go_enter Tryz.func42, Tryz.ntmps42
    go_wp2
    go_ret2
    exact dev_fin s (s.mtimecmp) true (by simp [devR]) (HF.out) (Offs.refl _ _)
  by_cases a3 : a = 4104
  · subst a3
    go_enter Tryz.func42, Tryz.ntmps42
    go_wp2
    go_ret2
    exact dev_fin s (s.mtime) true (by simp [devR]) (HF.out) (Offs.refl _ _)
  by_cases a4 : a = 8224
  · subst a4
    go_enter Tryz.func42, Tryz.ntmps42
    go_wp2_with (go_at_call 53; refine (mask_0 _ p b s HF.out).mono ?_; rintro e w' ⟨rfl, q, rfl⟩)
    go_ret2
    exact dev_fin s (_) true (by simp [devR]) (HF.out.drawn q) ((Offs.refl _ _).drawn q)
  have b1 : ((a : Int) == 4096) = false := by simp; omega
  have b2 : ((a : Int) == 4100) = false := by simp; omega
  have b3 : ((a : Int) == 4104) = false := by simp; omega
  have b4 : ((a : Int) == 8224) = false := by simp; omega
  have HA : Hid (a ≠ 4096 ∧ a ≠ 4100 ∧ a ≠ 4104 ∧ a ≠ 8224) := ⟨a1, a2, a3, a4⟩
  clear a1 a2 a3 a4
  go_enter Tryz.func42, Tryz.ntmps42
  go_wp2
  go_loop [7] (fun i => ∃ k : Nat, k ≤ 8 ∧ i = .int .i64 k ∧ Hid (∀ j, j < k → a ≠ 8192 + 4 * j)) (fun i => 8 - (intOf i).toNat)
  case atStart => exact ⟨0, by decide, rfl, fun j h => absurd h (by omega)⟩
  case round =>
    obtain ⟨k, hk8, rfl, hno⟩ := hrel
    by_cases hlt : k < 8
    · have hk : k = 0 ∨ k = 1 ∨ k = 2 ∨ k = 3 ∨ k = 4 ∨ k = 5 ∨ k = 6 ∨ k = 7 := by omega
      rcases hk with rfl | rfl | rfl | rfl | rfl | rfl | rfl | rfl
      · have cp := HP.out 0 (by decide)
        by_cases he : a = 8192
        · subst he
          go_wp2
          go_ret2
          exact dev_fin s ((srcAt s 0).prio) true (by simp [devR]) (HF.out) (Offs.refl _ _)
        · have e5 : ((a : Int) == 8192) = false := by simp; omega
          have HE : Hid (∀ j, j < 1 → a ≠ 8192 + 4 * j) := fun j hj => by
            by_cases e : j = 0
            · rw [e]; exact he
            · exact hno.out j (by omega)
          clear he hno
          go_wp2
          go_round
          case rel => exact ⟨1, by decide, rfl, HE⟩
          case measure => simp [intOf]
      · have cp := HP.out 1 (by decide)
        by_cases he : a = 8196
        · subst he
          go_wp2
          go_ret2
          exact dev_fin s ((srcAt s 1).prio) true (by simp [devR]) (HF.out) (Offs.refl _ _)
        · have e5 : ((a : Int) == 8196) = false := by simp; omega
          have HE : Hid (∀ j, j < 2 → a ≠ 8192 + 4 * j) := fun j hj => by
            by_cases e : j = 1
            · rw [e]; exact he
            · exact hno.out j (by omega)
          clear he hno
          go_wp2
          go_round
          case rel => exact ⟨2, by decide, rfl, HE⟩
          case measure => simp [intOf]
      · have cp := HP.out 2 (by decide)
        by_cases he : a = 8200
        · subst he
          go_wp2
          go_ret2
          exact dev_fin s ((srcAt s 2).prio) true (by simp [devR]) (HF.out) (Offs.refl _ _)
        · have e5 : ((a : Int) == 8200) = false := by simp; omega
          have HE : Hid (∀ j, j < 3 → a ≠ 8192 + 4 * j) := fun j hj => by
            by_cases e : j = 2
            · rw [e]; exact he
            · exact hno.out j (by omega)
          clear he hno
          go_wp2
          go_round
          case rel => exact ⟨3, by decide, rfl, HE⟩
          case measure => simp [intOf]
      · have cp := HP.out 3 (by decide)
        by_cases he : a = 8204
        · subst he
          go_wp2
          go_ret2
          exact dev_fin s ((srcAt s 3).prio) true (by simp [devR]) (HF.out) (Offs.refl _ _)
        · have e5 : ((a : Int) == 8204) = false := by simp; omega
          have HE : Hid (∀ j, j < 4 → a ≠ 8192 + 4 * j) := fun j hj => by
            by_cases e : j = 3
            · rw [e]; exact he
            · exact hno.out j (by omega)
          clear he hno
          go_wp2
          go_round
          case rel => exact ⟨4, by decide, rfl, HE⟩
          case measure => simp [intOf]
      · have cp := HP.out 4 (by decide)
        by_cases he : a = 8208
        · subst he
          go_wp2
          go_ret2
          exact dev_fin s ((srcAt s 4).prio) true (by simp [devR]) (HF.out) (Offs.refl _ _)
        · have e5 : ((a : Int) == 8208) = false := by simp; omega
          have HE : Hid (∀ j, j < 5 → a ≠ 8192 + 4 * j) := fun j hj => by
            by_cases e : j = 4
            · rw [e]; exact he
            · exact hno.out j (by omega)
          clear he hno
          go_wp2
          go_round
          case rel => exact ⟨5, by decide, rfl, HE⟩
          case measure => simp [intOf]
      · have cp := HP.out 5 (by decide)
        by_cases he : a = 8212
        · subst he
          go_wp2
          go_ret2
          exact dev_fin s ((srcAt s 5).prio) true (by simp [devR]) (HF.out) (Offs.refl _ _)
        · have e5 : ((a : Int) == 8212) = false := by simp; omega
          have HE : Hid (∀ j, j < 6 → a ≠ 8192 + 4 * j) := fun j hj => by
            by_cases e : j = 5
            · rw [e]; exact he
            · exact hno.out j (by omega)
          clear he hno
          go_wp2
          go_round
          case rel => exact ⟨6, by decide, rfl, HE⟩
          case measure => simp [intOf]
      · have cp := HP.out 6 (by decide)
        by_cases he : a = 8216
        · subst he
          go_wp2
          go_ret2
          exact dev_fin s ((srcAt s 6).prio) true (by simp [devR]) (HF.out) (Offs.refl _ _)
        · have e5 : ((a : Int) == 8216) = false := by simp; omega
          have HE : Hid (∀ j, j < 7 → a ≠ 8192 + 4 * j) := fun j hj => by
            by_cases e : j = 6
            · rw [e]; exact he
            · exact hno.out j (by omega)
          clear he hno
          go_wp2
          go_round
          case rel => exact ⟨7, by decide, rfl, HE⟩
          case measure => simp [intOf]
      · have cp := HP.out 7 (by decide)
        by_cases he : a = 8220
        · subst he
          go_wp2
          go_ret2
          exact dev_fin s ((srcAt s 7).prio) true (by simp [devR]) (HF.out) (Offs.refl _ _)
        · have e5 : ((a : Int) == 8220) = false := by simp; omega
          have HE : Hid (∀ j, j < 8 → a ≠ 8192 + 4 * j) := fun j hj => by
            by_cases e : j = 7
            · rw [e]; exact he
            · exact hno.out j (by omega)
          clear he hno
          go_wp2
          go_round
          case rel => exact ⟨8, by decide, rfl, HE⟩
          case measure => simp [intOf]
    · obtain rfl : k = 8 := by omega
      have HB : Hid (¬ (8192 ≤ a ∧ a < 8224 ∧ a % 4 = 0)) := fun hb => hno.out ((a - 8192) / 4) (by omega) (by omega)
      clear hno
      have HD : Hid (devR s a = if a = 8228 then (s, enAt s 0, true) else if a = 8240 then (s, liAt s 0, true) else if a = 8244 then (claimS s (bestR s 0 7), (bestR s 0 7 : Nat), true)
          else if a = 8232 then (s, enAt s 1, true) else if a = 8248 then (s, liAt s 1, true) else if a = 8252 then (claimS s (bestR s 1 7), (bestR s 1 7 : Nat), true) else (s, 0, false)) := by
        have ha := HA.out
        unfold Hid devR
        rw [if_neg ha.1, if_neg ha.2.1, if_neg ha.2.2.1, if_neg ha.2.2.2, if_neg HB.out]
      by_cases n8228 : a = 8228
      · subst n8228
        go_wp2
        go_loop [8] (fun i => ∃ k : Nat, k ≤ 0 ∧ i = .int .i64 k) (fun i => 2 - (intOf i).toNat)
        case atStart => exact ⟨0, by decide, rfl⟩
        case round =>
          obtain ⟨k, hk8, rfl⟩ := hrel
          obtain rfl : k = 0 := by omega
          go_wp2
          go_ret2
          exact dev_fin s (enAt s 0) true (HD.out.trans (by simp)) (HF.out) (Offs.refl _ _)
      by_cases n8240 : a = 8240
      · subst n8240
        go_wp2
        go_loop [8] (fun i => ∃ k : Nat, k ≤ 0 ∧ i = .int .i64 k) (fun i => 2 - (intOf i).toNat)
        case atStart => exact ⟨0, by decide, rfl⟩
        case round =>
          obtain ⟨k, hk8, rfl⟩ := hrel
          obtain rfl : k = 0 := by omega
          go_wp2
          go_ret2
          exact dev_fin s (liAt s 0) true (HD.out.trans (by simp)) (HF.out) (Offs.refl _ _)
      by_cases n8244 : a = 8244
      · subst n8244
        go_wp2
        go_loop [8] (fun i => ∃ k : Nat, k ≤ 0 ∧ i = .int .i64 k) (fun i => 2 - (intOf i).toNat)
        case atStart => exact ⟨0, by decide, rfl⟩
        case round =>
          obtain ⟨k, hk8, rfl⟩ := hrel
          obtain rfl : k = 0 := by omega
          go_wp2_with (go_at_call 84; refine (claim_any _ p b s HF.out A 0 (by decide)).mono ?_; rintro e w' ⟨rfl, hr, ho⟩)
          go_ret2
          exact dev_fin _ (_) true (HD.out.trans (by simp)) (hr) (ho)
      by_cases n8232 : a = 8232
      · subst n8232
        go_wp2
        go_loop [8] (fun i => ∃ k : Nat, k ≤ 1 ∧ i = .int .i64 k) (fun i => 2 - (intOf i).toNat)
        case atStart => exact ⟨0, by decide, rfl⟩
        case round =>
          obtain ⟨k, hk8, rfl⟩ := hrel
          have hk : k = 0 ∨ k = 1 := by omega
          rcases hk with rfl | rfl
          · go_wp2
            go_round
            case rel => exact ⟨1, by decide, rfl⟩
            case measure => simp [intOf]
          · go_wp2
            go_ret2
            exact dev_fin s (enAt s 1) true (HD.out.trans (by simp)) (HF.out) (Offs.refl _ _)
      by_cases n8248 : a = 8248
      · subst n8248
        go_wp2
        go_loop [8] (fun i => ∃ k : Nat, k ≤ 1 ∧ i = .int .i64 k) (fun i => 2 - (intOf i).toNat)
        case atStart => exact ⟨0, by decide, rfl⟩
        case round =>
          obtain ⟨k, hk8, rfl⟩ := hrel
          have hk : k = 0 ∨ k = 1 := by omega
          rcases hk with rfl | rfl
          · go_wp2
            go_round
            case rel => exact ⟨1, by decide, rfl⟩
            case measure => simp [intOf]
          · go_wp2
            go_ret2
            exact dev_fin s (liAt s 1) true (HD.out.trans (by simp)) (HF.out) (Offs.refl _ _)
      by_cases n8252 : a = 8252
      · subst n8252
        go_wp2
        go_loop [8] (fun i => ∃ k : Nat, k ≤ 1 ∧ i = .int .i64 k) (fun i => 2 - (intOf i).toNat)
        case atStart => exact ⟨0, by decide, rfl⟩
        case round =>
          obtain ⟨k, hk8, rfl⟩ := hrel
          have hk : k = 0 ∨ k = 1 := by omega
          rcases hk with rfl | rfl
          · go_wp2
            go_round
            case rel => exact ⟨1, by decide, rfl⟩
            case measure => simp [intOf]
          · go_wp2_with (go_at_call 84; refine (claim_any _ p b s HF.out A 1 (by decide)).mono ?_; rintro e w' ⟨rfl, hr, ho⟩)
            go_ret2
            exact dev_fin _ (_) true (HD.out.trans (by simp)) (hr) (ho)
      have d1 : ((a : Int) == 8228) = false := by simp; omega
      have d2 : ((a : Int) == 8240) = false := by simp; omega
      have d3 : ((a : Int) == 8244) = false := by simp; omega
      have d4 : ((a : Int) == 8232) = false := by simp; omega
      have d5 : ((a : Int) == 8248) = false := by simp; omega
      have d6 : ((a : Int) == 8252) = false := by simp; omega
      have HZ : Hid (devR s a = (s, 0, false)) := by unfold Hid; rw [HD.out, if_neg n8228, if_neg n8240, if_neg n8244, if_neg n8232, if_neg n8248, if_neg n8252]
      clear n8228 n8240 n8244 n8232 n8248 n8252
      go_wp2
      go_loop [8] (fun i => ∃ k : Nat, k ≤ 2 ∧ i = .int .i64 k) (fun i => 2 - (intOf i).toNat)
      case atStart => exact ⟨0, by decide, rfl⟩
      case round =>
        obtain ⟨k, hk8, rfl⟩ := hrel
        have hk : k = 0 ∨ k = 1 ∨ k = 2 := by omega
        rcases hk with rfl | rfl | rfl
        · go_wp2
          go_round
          case rel => exact ⟨1, by decide, rfl⟩
          case measure => simp [intOf]
        · go_wp2
          go_round
          case rel => exact ⟨2, by decide, rfl⟩
          case measure => simp [intOf]
        · go_wp2
          go_ret2
          exact dev_fin s (0) false (HZ.out) (HF.out) (Offs.refl _ _)
end Go.Proofs.YtfdokajjlkcdgaaGreatDoor
