/-
  The document's ram, Read and Write, within the memory.
-/
import Derived.Test.YteiideeechnekaaGreatDoorRefTrap
import Derived.Test.YteiideeechnekaaGreatDoorMach
namespace Go.Proofs.YteiideeechnekaaGreatDoor
open Go.RowKit

theorem rram_any (W : World) (p : Nat) (b : RBl) (s : RSt) (h : RefAt W p b s) (a w : Nat) (ha : a < 4294967296) (hw : w ≤ 4) :
    Calls Tryz.prog 29 #[.pointer (some ⟨p, 0, none⟩), .int .u32 a, .int .i64 w] W fun e W' => e = .returned (.bool (decide (a + w ≤ s.ram.length))) ∧ ∃ q, W' = W.drewN q := by
  have c1 := h.cram
  have hl : s.ram.length ≤ 512 := by obtain ⟨_, _, _, _, _, _, h6, _⟩ := h.ram; exact h6
  have ha' : (a : Int) < 4294967296 := by omega
  have hw' : (w : Int) ≤ 4 := by omega
  clear h
  by_cases hc : a + w ≤ s.ram.length
  · have hc' : (a : Int) + w ≤ s.ram.length := by omega
    rw [decide_eq_true hc]
    clear hc
    go_enter Tryz.func29, Tryz.ntmps29
    go_wp2
    go_ret
    exact ⟨rfl, 0, rfl⟩
  · have hc' : decide ((a : Int) + w ≤ s.ram.length) = false := decide_eq_false (by omega)
    rw [decide_eq_false hc]
    clear hc
    go_enter Tryz.func29, Tryz.ntmps29
    go_wp2
    go_ret
    exact ⟨rfl, 0, rfl⟩

set_option maxHeartbeats 1000000 in
theorem rread_1 (W : World) (p : Nat) (b : RBl) (s : RSt) (h : RefAt W p b s) (a : Nat) (ha : a + 1 ≤ s.ram.length) :
    Calls Tryz.prog 31 #[.pointer (some ⟨p, 0, none⟩), .int .u32 a, .int .i64 1] W fun e W' => e = .returned (.tuple #[.int .u32 (leV s.ram a 1), .bool true]) ∧ ∃ q, W' = W.drewN q := by
  have HF : Hid (RefAt W p b s) := h
  have c1 := h.cram
  obtain ⟨hl, hby⟩ : s.ram.length ≤ 512 ∧ Byt s.ram := by obtain ⟨_, _, _, _, _, _, h6, h7⟩ := h.ram; exact ⟨h6, h7⟩
  have ha' : (a : Int) + 1 ≤ s.ram.length := by omega
  have HC : Hid (∀ i, i < s.ram.length → W.cell? ⟨b.ram, i, none⟩ = some (.int .u8 (s.ram[i]?.getD 0))) := fun i hi => by rw [h.ram.cell i hi]; simp [List.getD]
  have HB : Hid (Byt s.ram) := hby
  clear h hby
  go_enter Tryz.func31, Tryz.ntmps31
  go_wp2_with (go_at_call 29; refine (rram_any _ p b s HF.out a 1 (by omega) (by decide)).mono ?_; rw [decide_eq_true ha]; rintro e w' ⟨rfl, q0, rfl⟩)
  go_loopw [9, 10] (fun v i wr => ∃ k q : Nat, k ≤ 1 ∧ v = .int .u32 (leV s.ram a k) ∧ i = .int .i64 k ∧ wr = W.drewN q) (fun _ i _ => 1 - (intOf i).toNat)
  case atStart => exact ⟨0, q0, by decide, rfl, rfl, rfl⟩
  case round =>
    obtain ⟨k, q, hk, rfl, rfl, rfl⟩ := hrel
    by_cases hlt : k < 1
    · have hk4 : k = 0 := by omega
      obtain rfl := hk4
      · have c2 : W.cell? ⟨b.ram, a, none⟩ = some (.int .u8 (s.ram[a]?.getD 0)) := HC.out (a) (by omega)
        have b2 := HB.out.at (a)
        have lv : leV s.ram a 0 = 0 := by simp [leV]
        skip
        rw [lv]
        clear lv
        go_wp2
        go_roundw
        case rel => exact ⟨1, _, by decide, congrArg (Value.int .u32) (by rw [leV_1]), rfl, rfl⟩
        case measure => simp [intOf]
    · obtain rfl : k = 1 := by omega
      go_wp2
      go_ret2
      exact ⟨rfl, q, rfl⟩

set_option maxHeartbeats 1000000 in
theorem rread_2 (W : World) (p : Nat) (b : RBl) (s : RSt) (h : RefAt W p b s) (a : Nat) (ha : a + 2 ≤ s.ram.length) :
    Calls Tryz.prog 31 #[.pointer (some ⟨p, 0, none⟩), .int .u32 a, .int .i64 2] W fun e W' => e = .returned (.tuple #[.int .u32 (leV s.ram a 2), .bool true]) ∧ ∃ q, W' = W.drewN q := by
  have HF : Hid (RefAt W p b s) := h
  have c1 := h.cram
  obtain ⟨hl, hby⟩ : s.ram.length ≤ 512 ∧ Byt s.ram := by obtain ⟨_, _, _, _, _, _, h6, h7⟩ := h.ram; exact ⟨h6, h7⟩
  have ha' : (a : Int) + 2 ≤ s.ram.length := by omega
  have HC : Hid (∀ i, i < s.ram.length → W.cell? ⟨b.ram, i, none⟩ = some (.int .u8 (s.ram[i]?.getD 0))) := fun i hi => by rw [h.ram.cell i hi]; simp [List.getD]
  have HB : Hid (Byt s.ram) := hby
  clear h hby
  go_enter Tryz.func31, Tryz.ntmps31
  go_wp2_with (go_at_call 29; refine (rram_any _ p b s HF.out a 2 (by omega) (by decide)).mono ?_; rw [decide_eq_true ha]; rintro e w' ⟨rfl, q0, rfl⟩)
  go_loopw [9, 10] (fun v i wr => ∃ k q : Nat, k ≤ 2 ∧ v = .int .u32 (leV s.ram a k) ∧ i = .int .i64 k ∧ wr = W.drewN q) (fun _ i _ => 2 - (intOf i).toNat)
  case atStart => exact ⟨0, q0, by decide, rfl, rfl, rfl⟩
  case round =>
    obtain ⟨k, q, hk, rfl, rfl, rfl⟩ := hrel
    by_cases hlt : k < 2
    · have hk4 : k = 0 ∨ k = 1 := by omega
      rcases hk4 with rfl | rfl
      · have c2 : W.cell? ⟨b.ram, a, none⟩ = some (.int .u8 (s.ram[a]?.getD 0)) := HC.out (a) (by omega)
        have b2 := HB.out.at (a)
        have lv : leV s.ram a 0 = 0 := by simp [leV]
        skip
        rw [lv]
        clear lv
        go_wp2
        go_roundw
        case rel => exact ⟨1, _, by decide, congrArg (Value.int .u32) (by rw [leV_1]), rfl, rfl⟩
        case measure => simp [intOf]
      · have c2 : W.cell? ⟨b.ram, a + 1, none⟩ = some (.int .u8 (s.ram[a + 1]?.getD 0)) := HC.out (a + 1) (by omega)
        have b2 := HB.out.at (a + 1)
        have lv : leV s.ram a 1 = s.ram[a]?.getD 0 := by simp [leV]
        have d0 := HB.out.at (a)
        rw [lv]
        clear lv
        go_wp2
        go_roundw
        case rel => exact ⟨2, _, by decide, congrArg (Value.int .u32) (by rw [leV_2]), rfl, rfl⟩
        case measure => simp [intOf]
    · obtain rfl : k = 2 := by omega
      go_wp2
      go_ret2
      exact ⟨rfl, q, rfl⟩

set_option maxHeartbeats 1000000 in
theorem rread_4 (W : World) (p : Nat) (b : RBl) (s : RSt) (h : RefAt W p b s) (a : Nat) (ha : a + 4 ≤ s.ram.length) :
    Calls Tryz.prog 31 #[.pointer (some ⟨p, 0, none⟩), .int .u32 a, .int .i64 4] W fun e W' => e = .returned (.tuple #[.int .u32 (leV s.ram a 4), .bool true]) ∧ ∃ q, W' = W.drewN q := by
  have HF : Hid (RefAt W p b s) := h
  have c1 := h.cram
  obtain ⟨hl, hby⟩ : s.ram.length ≤ 512 ∧ Byt s.ram := by obtain ⟨_, _, _, _, _, _, h6, h7⟩ := h.ram; exact ⟨h6, h7⟩
  have ha' : (a : Int) + 4 ≤ s.ram.length := by omega
  have HC : Hid (∀ i, i < s.ram.length → W.cell? ⟨b.ram, i, none⟩ = some (.int .u8 (s.ram[i]?.getD 0))) := fun i hi => by rw [h.ram.cell i hi]; simp [List.getD]
  have HB : Hid (Byt s.ram) := hby
  clear h hby
  go_enter Tryz.func31, Tryz.ntmps31
  go_wp2_with (go_at_call 29; refine (rram_any _ p b s HF.out a 4 (by omega) (by decide)).mono ?_; rw [decide_eq_true ha]; rintro e w' ⟨rfl, q0, rfl⟩)
  go_loopw [9, 10] (fun v i wr => ∃ k q : Nat, k ≤ 4 ∧ v = .int .u32 (leV s.ram a k) ∧ i = .int .i64 k ∧ wr = W.drewN q) (fun _ i _ => 4 - (intOf i).toNat)
  case atStart => exact ⟨0, q0, by decide, rfl, rfl, rfl⟩
  case round =>
    obtain ⟨k, q, hk, rfl, rfl, rfl⟩ := hrel
    by_cases hlt : k < 4
    · have hk4 : k = 0 ∨ k = 1 ∨ k = 2 ∨ k = 3 := by omega
      rcases hk4 with rfl | rfl | rfl | rfl
      · have c2 : W.cell? ⟨b.ram, a, none⟩ = some (.int .u8 (s.ram[a]?.getD 0)) := HC.out (a) (by omega)
        have b2 := HB.out.at (a)
        have lv : leV s.ram a 0 = 0 := by simp [leV]
        skip
        rw [lv]
        clear lv
        go_wp2
        go_roundw
        case rel => exact ⟨1, _, by decide, congrArg (Value.int .u32) (by rw [leV_1]), rfl, rfl⟩
        case measure => simp [intOf]
      · have c2 : W.cell? ⟨b.ram, a + 1, none⟩ = some (.int .u8 (s.ram[a + 1]?.getD 0)) := HC.out (a + 1) (by omega)
        have b2 := HB.out.at (a + 1)
        have lv : leV s.ram a 1 = s.ram[a]?.getD 0 := by simp [leV]
        have d0 := HB.out.at (a)
        rw [lv]
        clear lv
        go_wp2
        go_roundw
        case rel => exact ⟨2, _, by decide, congrArg (Value.int .u32) (by rw [leV_2]), rfl, rfl⟩
        case measure => simp [intOf]
      · have c2 : W.cell? ⟨b.ram, a + 2, none⟩ = some (.int .u8 (s.ram[a + 2]?.getD 0)) := HC.out (a + 2) (by omega)
        have b2 := HB.out.at (a + 2)
        have lv : leV s.ram a 2 = s.ram[a]?.getD 0 + s.ram[a + 1]?.getD 0 * 256 := by simp [leV]
        have d0 := HB.out.at (a); have d1 := HB.out.at (a + 1)
        rw [lv]
        clear lv
        go_wp2
        go_roundw
        case rel => exact ⟨3, _, by decide, congrArg (Value.int .u32) (by rw [leV_3]), rfl, rfl⟩
        case measure => simp [intOf]
      · have c2 : W.cell? ⟨b.ram, a + 3, none⟩ = some (.int .u8 (s.ram[a + 3]?.getD 0)) := HC.out (a + 3) (by omega)
        have b2 := HB.out.at (a + 3)
        have lv : leV s.ram a 3 = s.ram[a]?.getD 0 + s.ram[a + 1]?.getD 0 * 256 + s.ram[a + 2]?.getD 0 * 65536 := by simp [leV]
        have d0 := HB.out.at (a); have d1 := HB.out.at (a + 1); have d2 := HB.out.at (a + 2)
        rw [lv]
        clear lv
        go_wp2
        go_roundw
        case rel => exact ⟨4, _, by decide, congrArg (Value.int .u32) (by rw [leV_4]), rfl, rfl⟩
        case measure => simp [intOf]
    · obtain rfl : k = 4 := by omega
      go_wp2
      go_ret2
      exact ⟨rfl, q, rfl⟩

set_option maxHeartbeats 1000000 in
theorem rwrite_1 (W : World) (p : Nat) (b : RBl) (s : RSt) (h : RefAt W p b s) (A : b.Apart p) (a : Nat) (v : Int) (_v0 : 0 ≤ v) (_v1 : v < 4294967296) (ha : a + 1 ≤ s.ram.length) :
    Calls Tryz.prog 84 #[.pointer (some ⟨p, 0, none⟩), .int .u32 a, .int .i64 1, .int .u32 v] W fun e W' => e = .returned (.bool true) ∧ RefAt W' p b { s with ram := stV s.ram a v 1 } ∧ Offs (b.l p) W W' := by
  have HF : Hid (RefAt W p b s) := h
  have hl : s.ram.length ≤ 512 := by obtain ⟨_, _, _, _, _, _, h6, h7⟩ := h.ram; exact h6
  have ha' : (a : Int) + 1 ≤ s.ram.length := by omega
  clear h
  go_enter Tryz.func84, Tryz.ntmps84
  go_wp2_with (go_at_call 29; refine (rram_any _ p b s HF.out a 1 (by omega) (by decide)).mono ?_; rw [decide_eq_true ha]; rintro e w' ⟨rfl, q0, rfl⟩)
  go_loopw [10] (fun i wr => ∃ k : Nat, k ≤ 1 ∧ i = .int .i64 k ∧ RefAt wr p b { s with ram := stV s.ram a v k } ∧ Offs (b.l p) W wr) (fun i _ => 1 - (intOf i).toNat)
  case atStart => exact ⟨0, by decide, rfl, HF.out.drawn q0, (Offs.refl _ _).drawn q0⟩
  case round =>
    obtain ⟨k, hk, rfl, hr, ho⟩ := hrel
    have c1 : wr.cell? ⟨p, 4, none⟩ = some (.slice (some ⟨b.ram, 0, none⟩) s.ram.length b.kram) := by have := hr.cram; simp only [stV_len] at this; exact this
    have f1 : ∀ j, wr.frozen? ⟨b.ram, j, none⟩ = false := fun j => by obtain ⟨cur, h1, _⟩ := hr.ram; simp [World.frozen?, h1]
    have HR : Hid (RefAt wr p b { s with ram := stV s.ram a v k }) := hr
    clear hr
    by_cases hlt : k < 1
    · have hk4 : k = 0 := by omega
      obtain rfl := hk4
      · obtain ⟨old, c2⟩ : ∃ old, wr.cell? ⟨b.ram, a, none⟩ = some old := ⟨_, HR.out.ram.cell (a) (by show a < (stV s.ram a v 0).length; rw [stV_len]; omega)⟩
        have w1 : IntKind.i64.wrap (a : Int) = a := by rw [IntKind.wrap_i64]; omega
        have w2 : IntKind.i64.wrap (0 : Int) = 0 := by rw [IntKind.wrap_i64]; omega
        skip
        go_wp2_with fail
        go_region_with fail
        go_wp2
        go_roundw
        case rel =>
          have e : stV s.ram a v 1 = (stV s.ram a v 0).set (a) (v % 256) := by
            simp [stV]
          refine ⟨1, by decide, rfl, ?_, (ho.put (by simp [RBl.l]) _).drawn 1⟩
          rw [e]
          exact (HR.out.put_ram A (a) (v % 256) (by omega) (by omega)).drawn 1
        case measure => simp [intOf]
    · obtain rfl : k = 1 := by omega
      go_wp2
      go_ret
      exact ⟨rfl, HR.out, ho⟩

set_option maxHeartbeats 1000000 in
theorem rwrite_2 (W : World) (p : Nat) (b : RBl) (s : RSt) (h : RefAt W p b s) (A : b.Apart p) (a : Nat) (v : Int) (_v0 : 0 ≤ v) (_v1 : v < 4294967296) (ha : a + 2 ≤ s.ram.length) :
    Calls Tryz.prog 84 #[.pointer (some ⟨p, 0, none⟩), .int .u32 a, .int .i64 2, .int .u32 v] W fun e W' => e = .returned (.bool true) ∧ RefAt W' p b { s with ram := stV s.ram a v 2 } ∧ Offs (b.l p) W W' := by
  have HF : Hid (RefAt W p b s) := h
  have hl : s.ram.length ≤ 512 := by obtain ⟨_, _, _, _, _, _, h6, h7⟩ := h.ram; exact h6
  have ha' : (a : Int) + 2 ≤ s.ram.length := by omega
  clear h
  go_enter Tryz.func84, Tryz.ntmps84
  go_wp2_with (go_at_call 29; refine (rram_any _ p b s HF.out a 2 (by omega) (by decide)).mono ?_; rw [decide_eq_true ha]; rintro e w' ⟨rfl, q0, rfl⟩)
  go_loopw [10] (fun i wr => ∃ k : Nat, k ≤ 2 ∧ i = .int .i64 k ∧ RefAt wr p b { s with ram := stV s.ram a v k } ∧ Offs (b.l p) W wr) (fun i _ => 2 - (intOf i).toNat)
  case atStart => exact ⟨0, by decide, rfl, HF.out.drawn q0, (Offs.refl _ _).drawn q0⟩
  case round =>
    obtain ⟨k, hk, rfl, hr, ho⟩ := hrel
    have c1 : wr.cell? ⟨p, 4, none⟩ = some (.slice (some ⟨b.ram, 0, none⟩) s.ram.length b.kram) := by have := hr.cram; simp only [stV_len] at this; exact this
    have f1 : ∀ j, wr.frozen? ⟨b.ram, j, none⟩ = false := fun j => by obtain ⟨cur, h1, _⟩ := hr.ram; simp [World.frozen?, h1]
    have HR : Hid (RefAt wr p b { s with ram := stV s.ram a v k }) := hr
    clear hr
    by_cases hlt : k < 2
    · have hk4 : k = 0 ∨ k = 1 := by omega
      rcases hk4 with rfl | rfl
      · obtain ⟨old, c2⟩ : ∃ old, wr.cell? ⟨b.ram, a, none⟩ = some old := ⟨_, HR.out.ram.cell (a) (by show a < (stV s.ram a v 0).length; rw [stV_len]; omega)⟩
        have w1 : IntKind.i64.wrap (a : Int) = a := by rw [IntKind.wrap_i64]; omega
        have w2 : IntKind.i64.wrap (0 : Int) = 0 := by rw [IntKind.wrap_i64]; omega
        skip
        go_wp2_with fail
        go_region_with fail
        go_wp2
        go_roundw
        case rel =>
          have e : stV s.ram a v 1 = (stV s.ram a v 0).set (a) (v % 256) := by
            simp [stV]
          refine ⟨1, by decide, rfl, ?_, (ho.put (by simp [RBl.l]) _).drawn 1⟩
          rw [e]
          exact (HR.out.put_ram A (a) (v % 256) (by omega) (by omega)).drawn 1
        case measure => simp [intOf]
      · obtain ⟨old, c2⟩ : ∃ old, wr.cell? ⟨b.ram, a + 1, none⟩ = some old := ⟨_, HR.out.ram.cell (a + 1) (by show a + 1 < (stV s.ram a v 1).length; rw [stV_len]; omega)⟩
        have w1 : IntKind.i64.wrap (a : Int) = a := by rw [IntKind.wrap_i64]; omega
        have w2 : IntKind.i64.wrap (8 : Int) = 8 := by rw [IntKind.wrap_i64]; omega
        have w3 : IntKind.i64.wrap ((a : Int) + 1) = (a : Int) + 1 := by rw [IntKind.wrap_i64]; omega
        go_wp2_with fail
        go_region_with fail
        go_wp2
        go_roundw
        case rel =>
          have e : stV s.ram a v 2 = (stV s.ram a v 1).set (a + 1) (v / 256 % 256) := by
            simp [stV]
          refine ⟨2, by decide, rfl, ?_, (ho.put (by simp [RBl.l]) _).drawn 1⟩
          rw [e]
          exact (HR.out.put_ram A (a + 1) (v / 256 % 256) (by omega) (by omega)).drawn 1
        case measure => simp [intOf]
    · obtain rfl : k = 2 := by omega
      go_wp2
      go_ret
      exact ⟨rfl, HR.out, ho⟩

set_option maxHeartbeats 1000000 in
theorem rwrite_4 (W : World) (p : Nat) (b : RBl) (s : RSt) (h : RefAt W p b s) (A : b.Apart p) (a : Nat) (v : Int) (v0 : 0 ≤ v) (v1 : v < 4294967296) (ha : a + 4 ≤ s.ram.length) :
    Calls Tryz.prog 84 #[.pointer (some ⟨p, 0, none⟩), .int .u32 a, .int .i64 4, .int .u32 v] W fun e W' => e = .returned (.bool true) ∧ RefAt W' p b { s with ram := stV s.ram a v 4 } ∧ Offs (b.l p) W W' := by
  have HF : Hid (RefAt W p b s) := h
  have hl : s.ram.length ≤ 512 := by obtain ⟨_, _, _, _, _, _, h6, h7⟩ := h.ram; exact h6
  have ha' : (a : Int) + 4 ≤ s.ram.length := by omega
  clear h
  go_enter Tryz.func84, Tryz.ntmps84
  go_wp2_with (go_at_call 29; refine (rram_any _ p b s HF.out a 4 (by omega) (by decide)).mono ?_; rw [decide_eq_true ha]; rintro e w' ⟨rfl, q0, rfl⟩)
  go_loopw [10] (fun i wr => ∃ k : Nat, k ≤ 4 ∧ i = .int .i64 k ∧ RefAt wr p b { s with ram := stV s.ram a v k } ∧ Offs (b.l p) W wr) (fun i _ => 4 - (intOf i).toNat)
  case atStart => exact ⟨0, by decide, rfl, HF.out.drawn q0, (Offs.refl _ _).drawn q0⟩
  case round =>
    obtain ⟨k, hk, rfl, hr, ho⟩ := hrel
    have c1 : wr.cell? ⟨p, 4, none⟩ = some (.slice (some ⟨b.ram, 0, none⟩) s.ram.length b.kram) := by have := hr.cram; simp only [stV_len] at this; exact this
    have f1 : ∀ j, wr.frozen? ⟨b.ram, j, none⟩ = false := fun j => by obtain ⟨cur, h1, _⟩ := hr.ram; simp [World.frozen?, h1]
    have HR : Hid (RefAt wr p b { s with ram := stV s.ram a v k }) := hr
    clear hr
    by_cases hlt : k < 4
    · have hk4 : k = 0 ∨ k = 1 ∨ k = 2 ∨ k = 3 := by omega
      rcases hk4 with rfl | rfl | rfl | rfl
      · obtain ⟨old, c2⟩ : ∃ old, wr.cell? ⟨b.ram, a, none⟩ = some old := ⟨_, HR.out.ram.cell (a) (by show a < (stV s.ram a v 0).length; rw [stV_len]; omega)⟩
        have w1 : IntKind.i64.wrap (a : Int) = a := by rw [IntKind.wrap_i64]; omega
        have w2 : IntKind.i64.wrap (0 : Int) = 0 := by rw [IntKind.wrap_i64]; omega
        skip
        go_wp2_with fail
        go_region_with fail
        go_wp2
        go_roundw
        case rel =>
          have e : stV s.ram a v 1 = (stV s.ram a v 0).set (a) (v % 256) := by
            simp [stV]
          refine ⟨1, by decide, rfl, ?_, (ho.put (by simp [RBl.l]) _).drawn 1⟩
          rw [e]
          exact (HR.out.put_ram A (a) (v % 256) (by omega) (by omega)).drawn 1
        case measure => simp [intOf]
      · obtain ⟨old, c2⟩ : ∃ old, wr.cell? ⟨b.ram, a + 1, none⟩ = some old := ⟨_, HR.out.ram.cell (a + 1) (by show a + 1 < (stV s.ram a v 1).length; rw [stV_len]; omega)⟩
        have w1 : IntKind.i64.wrap (a : Int) = a := by rw [IntKind.wrap_i64]; omega
        have w2 : IntKind.i64.wrap (8 : Int) = 8 := by rw [IntKind.wrap_i64]; omega
        have w3 : IntKind.i64.wrap ((a : Int) + 1) = (a : Int) + 1 := by rw [IntKind.wrap_i64]; omega
        go_wp2_with fail
        go_region_with fail
        go_wp2
        go_roundw
        case rel =>
          have e : stV s.ram a v 2 = (stV s.ram a v 1).set (a + 1) (v / 256 % 256) := by
            simp [stV]
          refine ⟨2, by decide, rfl, ?_, (ho.put (by simp [RBl.l]) _).drawn 1⟩
          rw [e]
          exact (HR.out.put_ram A (a + 1) (v / 256 % 256) (by omega) (by omega)).drawn 1
        case measure => simp [intOf]
      · obtain ⟨old, c2⟩ : ∃ old, wr.cell? ⟨b.ram, a + 2, none⟩ = some old := ⟨_, HR.out.ram.cell (a + 2) (by show a + 2 < (stV s.ram a v 2).length; rw [stV_len]; omega)⟩
        have w1 : IntKind.i64.wrap (a : Int) = a := by rw [IntKind.wrap_i64]; omega
        have w2 : IntKind.i64.wrap (16 : Int) = 16 := by rw [IntKind.wrap_i64]; omega
        have w3 : IntKind.i64.wrap ((a : Int) + 2) = (a : Int) + 2 := by rw [IntKind.wrap_i64]; omega
        go_wp2_with fail
        go_region_with fail
        go_wp2
        go_roundw
        case rel =>
          have e : stV s.ram a v 3 = (stV s.ram a v 2).set (a + 2) (v / 65536 % 256) := by
            simp [stV]
          refine ⟨3, by decide, rfl, ?_, (ho.put (by simp [RBl.l]) _).drawn 1⟩
          rw [e]
          exact (HR.out.put_ram A (a + 2) (v / 65536 % 256) (by omega) (by omega)).drawn 1
        case measure => simp [intOf]
      · obtain ⟨old, c2⟩ : ∃ old, wr.cell? ⟨b.ram, a + 3, none⟩ = some old := ⟨_, HR.out.ram.cell (a + 3) (by show a + 3 < (stV s.ram a v 3).length; rw [stV_len]; omega)⟩
        have w1 : IntKind.i64.wrap (a : Int) = a := by rw [IntKind.wrap_i64]; omega
        have w2 : IntKind.i64.wrap (24 : Int) = 24 := by rw [IntKind.wrap_i64]; omega
        have w3 : IntKind.i64.wrap ((a : Int) + 3) = (a : Int) + 3 := by rw [IntKind.wrap_i64]; omega
        go_wp2_with fail
        go_region_with fail
        go_wp2
        go_roundw
        case rel =>
          have e : stV s.ram a v 4 = (stV s.ram a v 3).set (a + 3) (v / 16777216) := by
            have e' : v / 16777216 % 256 = v / 16777216 := by omega
            simp [stV, e']
          refine ⟨4, by decide, rfl, ?_, (ho.put (by simp [RBl.l]) _).drawn 1⟩
          rw [e]
          exact (HR.out.put_ram A (a + 3) (v / 16777216) (by omega) (by omega)).drawn 1
        case measure => simp [intOf]
    · obtain rfl : k = 4 := by omega
      go_wp2
      go_ret
      exact ⟨rfl, HR.out, ho⟩
end Go.Proofs.YteiideeechnekaaGreatDoor
