/-
  The document's set: a word of a device is written.
-/
import Derived.Test.YtfdokajjlkcdgaaGreatDoorRefCompl
namespace Go.Proofs.YtfdokajjlkcdgaaGreatDoor
open Go.RowKit

def setP (s : RSt) (m : Nat) (v : Int) : RSt := { s with src := s.src.set m { srcAt s m with prio := v } }
def setR (s : RSt) (a : Nat) (v : Int) : RSt × Bool :=
  if a = 4096 then ({ s with msip := bits .and .u32 v 1 }, true) else if a = 4100 then ({ s with mtimecmp := v }, true) else if a = 4104 then ({ s with mtime := v }, true)
  else if a = 8224 then (s, true) else if a = 8192 then (s, true)
  else if 8192 < a ∧ a < 8224 ∧ a % 4 = 0 then (setP s ((a - 8192) / 4) (bits .and .u32 v 7), true)
  else if a = 8228 then ({ s with enable := s.enable.set 0 (bits .and .u32 v 254) }, true) else if a = 8240 then ({ s with limit := s.limit.set 0 (bits .and .u32 v 7) }, true) else if a = 8244 then (complR s 0 v, true)
  else if a = 8232 then ({ s with enable := s.enable.set 1 (bits .and .u32 v 254) }, true) else if a = 8248 then ({ s with limit := s.limit.set 1 (bits .and .u32 v 7) }, true) else if a = 8252 then (complR s 1 v, true)
  else (s, false)
theorem set_fin {p : Nat} {b : RBl} {s : RSt} {a : Nat} {v : Int} {W W' : World} (s' : RSt) (ok : Bool) (E : setR s a v = (s', ok)) (h : RefAt W' p b s') (ho : Offs (b.l p) W W') :
    Ending.returned (.bool ok) = .returned (.bool (setR s a v).2) ∧ RefAt W' p b (setR s a v).1 ∧ Offs (b.l p) W W' := by
  rw [E]; exact ⟨rfl, h, ho⟩

set_option maxHeartbeats 4000000 in
set_option maxRecDepth 100000 in
theorem set_any (W : World) (p : Nat) (b : RBl) (s : RSt) (h : RefAt W p b s) (A : b.Apart p) (a : Nat) (ha : a < 4294967296) (v : Int)
    (CO : ∀ c : Nat, c < 2 → Calls Tryz.prog 150 #[.pointer (some ⟨p, 0, none⟩), .int .i64 c, .int .u32 v] W fun e W' => e = .returned (.tuple #[]) ∧ RefAt W' p b (complR s c v) ∧ Offs (b.l p) W W') :
    Calls Tryz.prog 124 #[.pointer (some ⟨p, 0, none⟩), .int .u32 a, .int .u32 v] W fun e W' => e = .returned (.bool (setR s a v).2) ∧ RefAt W' p b (setR s a v).1 ∧ Offs (b.l p) W W' := by
  have HF : Hid (RefAt W p b s) := h
  have HK : Hid (∀ c : Nat, c < 2 → Calls Tryz.prog 150 #[.pointer (some ⟨p, 0, none⟩), .int .i64 c, .int .u32 v] W fun e W' => e = .returned (.tuple #[]) ∧ RefAt W' p b (complR s c v) ∧ Offs (b.l p) W W') := CO
  clear CO
  have k1 := h.csrc
  have k2 := h.cen
  have k3 := h.cli
  have c1 := h.msip
  have c2 := h.mtimecmp
  have c3 := h.mtime
  have fz := h.fp
  have fz2 := h.fs
  have fe : ∀ j, W.frozen? ⟨b.en, j, none⟩ = false := fun j => by obtain ⟨cur, h1, _⟩ := h.en; simp [World.frozen?, h1]
  have fl : ∀ j, W.frozen? ⟨b.li, j, none⟩ = false := fun j => by obtain ⟨cur, h1, _⟩ := h.li; simp [World.frozen?, h1]
  have e0 : W.cell? ⟨b.en, 0, none⟩ = some (.int .u32 (enAt s 0)) := by have := h.en.cell 0 (by rw [h.nen]; decide); simpa [enAt, List.getD] using this
  have e1 : W.cell? ⟨b.en, 1, none⟩ = some (.int .u32 (enAt s 1)) := by have := h.en.cell 1 (by rw [h.nen]; decide); simpa [enAt, List.getD] using this
  have l0 : W.cell? ⟨b.li, 0, none⟩ = some (.int .u32 (liAt s 0)) := by have := h.li.cell 0 (by rw [h.nli]; decide); simpa [liAt, List.getD] using this
  have l1 : W.cell? ⟨b.li, 1, none⟩ = some (.int .u32 (liAt s 1)) := by have := h.li.cell 1 (by rw [h.nli]; decide); simpa [liAt, List.getD] using this
  have HP : Hid (∀ i, i < 8 → W.cell? ⟨b.src, i * 4 + 3, none⟩ = some (.int .u32 (srcAt s i).prio)) := h.prio
  clear h
  have ha' : (a : Int) < 4294967296 := by omega
  by_cases a4096 : a = 4096
  · subst a4096
    go_enter Tryz.func124, Tryz.ntmps124
    go_wp2
    go_ret
    exact set_fin _ true (by simp [setR]) (HF.out.put_msip A _) ((Offs.refl _ _).put (by simp [RBl.l]) _)
  by_cases a4100 : a = 4100
  · subst a4100
    go_enter Tryz.func124, Tryz.ntmps124
    go_wp2
    go_ret
    exact set_fin _ true (by simp [setR]) (HF.out.put_mtimecmp A _) ((Offs.refl _ _).put (by simp [RBl.l]) _)
  by_cases a4104 : a = 4104
  · subst a4104
    go_enter Tryz.func124, Tryz.ntmps124
    go_wp2
    go_ret
    exact set_fin _ true (by simp [setR]) (HF.out.put_mtime A _) ((Offs.refl _ _).put (by simp [RBl.l]) _)
  by_cases a8224 : a = 8224
  · subst a8224
    go_enter Tryz.func124, Tryz.ntmps124
    go_wp2
    go_ret
    exact set_fin _ true (by simp [setR]) (HF.out) (Offs.refl _ _)
  by_cases a8192 : a = 8192
  · subst a8192
    go_enter Tryz.func124, Tryz.ntmps124
    go_wp2
    go_ret
    exact set_fin _ true (by simp [setR]) (HF.out) (Offs.refl _ _)
  have b4096 : ((a : Int) == 4096) = false := by simp; omega
  have b4100 : ((a : Int) == 4100) = false := by simp; omega
  have b4104 : ((a : Int) == 4104) = false := by simp; omega
  have b8224 : ((a : Int) == 8224) = false := by simp; omega
  have b8192 : ((a : Int) == 8192) = false := by simp; omega
  have HA : Hid (a ≠ 4096 ∧ a ≠ 4100 ∧ a ≠ 4104 ∧ a ≠ 8224 ∧ a ≠ 8192) := ⟨a4096, a4100, a4104, a8224, a8192⟩
  clear a4096 a4100 a4104 a8224 a8192
  go_enter Tryz.func124, Tryz.ntmps124
  go_wp2
  go_loop [7] (fun i => ∃ k : Nat, 1 ≤ k ∧ k ≤ 8 ∧ i = .int .i64 k ∧ Hid (∀ j, 1 ≤ j → j < k → a ≠ 8192 + 4 * j)) (fun i => 8 - (intOf i).toNat)
  case atStart => exact ⟨1, by decide, by decide, rfl, fun j h1 h => absurd h (by omega)⟩
  case round =>
    obtain ⟨k, hk1, hk8, rfl, hno⟩ := hrel
    by_cases hlt : k < 8
    · have hk : k = 1 ∨ k = 2 ∨ k = 3 ∨ k = 4 ∨ k = 5 ∨ k = 6 ∨ k = 7 := by omega
      rcases hk with rfl | rfl | rfl | rfl | rfl | rfl | rfl
      · have cp := HP.out 1 (by decide)
        by_cases he : a = 8196
        · subst he
          go_wp2
          go_ret
          exact set_fin _ true (by simp [setR]; rfl) (HF.out.put_prio A 1 (by decide) _) ((Offs.refl _ _).put (by simp [RBl.l]) _)
        · have e5 : ((a : Int) == 8196) = false := by simp; omega
          have HE : Hid (∀ j, 1 ≤ j → j < 2 → a ≠ 8192 + 4 * j) := fun j h1 hj => by
            by_cases e : j = 1
            · rw [e]; exact he
            · exact hno.out j h1 (by omega)
          clear he hno
          go_wp2
          go_round
          case rel => exact ⟨2, by decide, by decide, rfl, HE⟩
          case measure => simp [intOf]
      · have cp := HP.out 2 (by decide)
        by_cases he : a = 8200
        · subst he
          go_wp2
          go_ret
          exact set_fin _ true (by simp [setR]; rfl) (HF.out.put_prio A 2 (by decide) _) ((Offs.refl _ _).put (by simp [RBl.l]) _)
        · have e5 : ((a : Int) == 8200) = false := by simp; omega
          have HE : Hid (∀ j, 1 ≤ j → j < 3 → a ≠ 8192 + 4 * j) := fun j h1 hj => by
            by_cases e : j = 2
            · rw [e]; exact he
            · exact hno.out j h1 (by omega)
          clear he hno
          go_wp2
          go_round
          case rel => exact ⟨3, by decide, by decide, rfl, HE⟩
          case measure => simp [intOf]
      · have cp := HP.out 3 (by decide)
        by_cases he : a = 8204
        · subst he
          go_wp2
          go_ret
          exact set_fin _ true (by simp [setR]; rfl) (HF.out.put_prio A 3 (by decide) _) ((Offs.refl _ _).put (by simp [RBl.l]) _)
        · have e5 : ((a : Int) == 8204) = false := by simp; omega
          have HE : Hid (∀ j, 1 ≤ j → j < 4 → a ≠ 8192 + 4 * j) := fun j h1 hj => by
            by_cases e : j = 3
            · rw [e]; exact he
            · exact hno.out j h1 (by omega)
          clear he hno
          go_wp2
          go_round
          case rel => exact ⟨4, by decide, by decide, rfl, HE⟩
          case measure => simp [intOf]
      · have cp := HP.out 4 (by decide)
        by_cases he : a = 8208
        · subst he
          go_wp2
          go_ret
          exact set_fin _ true (by simp [setR]; rfl) (HF.out.put_prio A 4 (by decide) _) ((Offs.refl _ _).put (by simp [RBl.l]) _)
        · have e5 : ((a : Int) == 8208) = false := by simp; omega
          have HE : Hid (∀ j, 1 ≤ j → j < 5 → a ≠ 8192 + 4 * j) := fun j h1 hj => by
            by_cases e : j = 4
            · rw [e]; exact he
            · exact hno.out j h1 (by omega)
          clear he hno
          go_wp2
          go_round
          case rel => exact ⟨5, by decide, by decide, rfl, HE⟩
          case measure => simp [intOf]
      · have cp := HP.out 5 (by decide)
        by_cases he : a = 8212
        · subst he
          go_wp2
          go_ret
          exact set_fin _ true (by simp [setR]; rfl) (HF.out.put_prio A 5 (by decide) _) ((Offs.refl _ _).put (by simp [RBl.l]) _)
        · have e5 : ((a : Int) == 8212) = false := by simp; omega
          have HE : Hid (∀ j, 1 ≤ j → j < 6 → a ≠ 8192 + 4 * j) := fun j h1 hj => by
            by_cases e : j = 5
            · rw [e]; exact he
            · exact hno.out j h1 (by omega)
          clear he hno
          go_wp2
          go_round
          case rel => exact ⟨6, by decide, by decide, rfl, HE⟩
          case measure => simp [intOf]
      · have cp := HP.out 6 (by decide)
        by_cases he : a = 8216
        · subst he
          go_wp2
          go_ret
          exact set_fin _ true (by simp [setR]; rfl) (HF.out.put_prio A 6 (by decide) _) ((Offs.refl _ _).put (by simp [RBl.l]) _)
        · have e5 : ((a : Int) == 8216) = false := by simp; omega
          have HE : Hid (∀ j, 1 ≤ j → j < 7 → a ≠ 8192 + 4 * j) := fun j h1 hj => by
            by_cases e : j = 6
            · rw [e]; exact he
            · exact hno.out j h1 (by omega)
          clear he hno
          go_wp2
          go_round
          case rel => exact ⟨7, by decide, by decide, rfl, HE⟩
          case measure => simp [intOf]
      · have cp := HP.out 7 (by decide)
        by_cases he : a = 8220
        · subst he
          go_wp2
          go_ret
          exact set_fin _ true (by simp [setR]; rfl) (HF.out.put_prio A 7 (by decide) _) ((Offs.refl _ _).put (by simp [RBl.l]) _)
        · have e5 : ((a : Int) == 8220) = false := by simp; omega
          have HE : Hid (∀ j, 1 ≤ j → j < 8 → a ≠ 8192 + 4 * j) := fun j h1 hj => by
            by_cases e : j = 7
            · rw [e]; exact he
            · exact hno.out j h1 (by omega)
          clear he hno
          go_wp2
          go_round
          case rel => exact ⟨8, by decide, by decide, rfl, HE⟩
          case measure => simp [intOf]
    · obtain rfl : k = 8 := by omega
      have HB : Hid (¬ (8192 < a ∧ a < 8224 ∧ a % 4 = 0)) := fun hb => hno.out ((a - 8192) / 4) (by omega) (by omega) (by omega)
      clear hno
      have HD : Hid (setR s a v = if a = 8228 then ({ s with enable := s.enable.set 0 (bits .and .u32 v 254) }, true) else if a = 8240 then ({ s with limit := s.limit.set 0 (bits .and .u32 v 7) }, true) else if a = 8244 then (complR s 0 v, true)
          else if a = 8232 then ({ s with enable := s.enable.set 1 (bits .and .u32 v 254) }, true) else if a = 8248 then ({ s with limit := s.limit.set 1 (bits .and .u32 v 7) }, true) else if a = 8252 then (complR s 1 v, true) else (s, false)) := by
        have ha := HA.out
        unfold Hid setR
        rw [if_neg ha.1, if_neg ha.2.1, if_neg ha.2.2.1, if_neg ha.2.2.2.1, if_neg ha.2.2.2.2, if_neg HB.out]
      by_cases n8228 : a = 8228
      · subst n8228
        go_wp2
        go_loop [8] (fun i => ∃ k : Nat, k ≤ 0 ∧ i = .int .i64 k) (fun i => 2 - (intOf i).toNat)
        case atStart => exact ⟨0, by decide, rfl⟩
        case round =>
          obtain ⟨k, hk8, rfl⟩ := hrel
          obtain rfl : k = 0 := by omega
          go_wp2
          go_ret
          exact set_fin _ true (HD.out.trans (by simp)) (HF.out.put_en A 0 _) ((Offs.refl _ _).put (by simp [RBl.l]) _)
      by_cases n8240 : a = 8240
      · subst n8240
        go_wp2
        go_loop [8] (fun i => ∃ k : Nat, k ≤ 0 ∧ i = .int .i64 k) (fun i => 2 - (intOf i).toNat)
        case atStart => exact ⟨0, by decide, rfl⟩
        case round =>
          obtain ⟨k, hk8, rfl⟩ := hrel
          obtain rfl : k = 0 := by omega
          go_wp2
          go_ret
          exact set_fin _ true (HD.out.trans (by simp)) (HF.out.put_li A 0 _) ((Offs.refl _ _).put (by simp [RBl.l]) _)
      by_cases n8244 : a = 8244
      · subst n8244
        go_wp2
        go_loop [8] (fun i => ∃ k : Nat, k ≤ 0 ∧ i = .int .i64 k) (fun i => 2 - (intOf i).toNat)
        case atStart => exact ⟨0, by decide, rfl⟩
        case round =>
          obtain ⟨k, hk8, rfl⟩ := hrel
          obtain rfl : k = 0 := by omega
          go_wp2_with (go_at_call 150; refine (HK.out 0 (by decide)).mono ?_; rintro e w' ⟨rfl, hr, ho⟩)
          go_ret
          exact set_fin _ true (HD.out.trans (by simp)) (hr) ho
      by_cases n8232 : a = 8232
      · subst n8232
        go_wp2
        go_loop [8] (fun i => ∃ k : Nat, k ≤ 1 ∧ i = .int .i64 k) (fun i => 2 - (intOf i).toNat)
        case atStart => exact ⟨0, by decide, rfl⟩
        case round =>
          obtain ⟨k, hk8, rfl⟩ := hrel
          have hk : k = 0 ∨ k = 1 := by omega
          rcases hk with rfl | rfl
          · go_wp2
            go_round
            case rel => exact ⟨1, by decide, rfl⟩
            case measure => simp [intOf]
          · go_wp2
            go_ret
            exact set_fin _ true (HD.out.trans (by simp)) (HF.out.put_en A 1 _) ((Offs.refl _ _).put (by simp [RBl.l]) _)
      by_cases n8248 : a = 8248
      · subst n8248
        go_wp2
        go_loop [8] (fun i => ∃ k : Nat, k ≤ 1 ∧ i = .int .i64 k) (fun i => 2 - (intOf i).toNat)
        case atStart => exact ⟨0, by decide, rfl⟩
        case round =>
          obtain ⟨k, hk8, rfl⟩ := hrel
          have hk : k = 0 ∨ k = 1 := by omega
          rcases hk with rfl | rfl
          · go_wp2
            go_round
            case rel => exact ⟨1, by decide, rfl⟩
            case measure => simp [intOf]
          · go_wp2
            go_ret
            exact set_fin _ true (HD.out.trans (by simp)) (HF.out.put_li A 1 _) ((Offs.refl _ _).put (by simp [RBl.l]) _)
      by_cases n8252 : a = 8252
      · subst n8252
        go_wp2
        go_loop [8] (fun i => ∃ k : Nat, k ≤ 1 ∧ i = .int .i64 k) (fun i => 2 - (intOf i).toNat)
        case atStart => exact ⟨0, by decide, rfl⟩
        case round =>
          obtain ⟨k, hk8, rfl⟩ := hrel
          have hk : k = 0 ∨ k = 1 := by omega
          rcases hk with rfl | rfl
          · go_wp2
            go_round
            case rel => exact ⟨1, by decide, rfl⟩
            case measure => simp [intOf]
          · go_wp2_with (go_at_call 150; refine (HK.out 1 (by decide)).mono ?_; rintro e w' ⟨rfl, hr, ho⟩)
            go_ret
            exact set_fin _ true (HD.out.trans (by simp)) (hr) ho
      have d1 : ((a : Int) == 8228) = false := by simp; omega
      have d2 : ((a : Int) == 8240) = false := by simp; omega
      have d3 : ((a : Int) == 8244) = false := by simp; omega
      have d4 : ((a : Int) == 8232) = false := by simp; omega
      have d5 : ((a : Int) == 8248) = false := by simp; omega
      have d6 : ((a : Int) == 8252) = false := by simp; omega
      have HZ : Hid (setR s a v = (s, false)) := by unfold Hid; rw [HD.out, if_neg n8228, if_neg n8240, if_neg n8244, if_neg n8232, if_neg n8248, if_neg n8252]
      clear n8228 n8240 n8244 n8232 n8248 n8252
      go_wp2
      go_loop [8] (fun i => ∃ k : Nat, k ≤ 2 ∧ i = .int .i64 k) (fun i => 2 - (intOf i).toNat)
      case atStart => exact ⟨0, by decide, rfl⟩
      case round =>
        obtain ⟨k, hk8, rfl⟩ := hrel
        have hk : k = 0 ∨ k = 1 ∨ k = 2 := by omega
        rcases hk with rfl | rfl | rfl
        · go_wp2
          go_round
          case rel => exact ⟨1, by decide, rfl⟩
          case measure => simp [intOf]
        · go_wp2
          go_round
          case rel => exact ⟨2, by decide, rfl⟩
          case measure => simp [intOf]
        · go_wp2
          go_ret
          exact set_fin s false HZ.out HF.out (Offs.refl _ _)
end Go.Proofs.YtfdokajjlkcdgaaGreatDoor
