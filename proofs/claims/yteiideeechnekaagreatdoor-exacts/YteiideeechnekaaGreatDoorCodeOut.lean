import Derived.Test.YteiideeechnekaaGreatDoorCodePut
import Derived.Test.YteiideeechnekaaGreatDoorMach
import Derived.Deep.RegionHeld3
/-
  The code's inRam, loadRam and storeRam, within the memory.
-/
namespace Go.Proofs.YteiideeechnekaaGreatDoor
open Go.RowKit

theorem inRam_1 (W : World) (x r : Nat) (s : CSt) (h : CodeAt W x r s) (a : Nat) (ha : a + 1 ≤ s.ram.length) :
    Calls Tryz.prog 108 #[.pointer (some ⟨x, 0, none⟩), .int .u32 a, .int .i64 1] W fun e W' => e = .returned (.bool true) ∧ ∃ q, W' = W.drewN q := by
  have c1 := h.ram
  have hl := h.bytes.2.1
  have ha' : (a : Int) + 1 ≤ s.ram.length := by omega
  clear h
  go_enter Tryz.func108, Tryz.ntmps108
  go_wp2
  go_ret
  exact ⟨rfl, 0, rfl⟩
theorem inRam_2 (W : World) (x r : Nat) (s : CSt) (h : CodeAt W x r s) (a : Nat) (ha : a + 2 ≤ s.ram.length) :
    Calls Tryz.prog 108 #[.pointer (some ⟨x, 0, none⟩), .int .u32 a, .int .i64 2] W fun e W' => e = .returned (.bool true) ∧ ∃ q, W' = W.drewN q := by
  have c1 := h.ram
  have hl := h.bytes.2.1
  have ha' : (a : Int) + 2 ≤ s.ram.length := by omega
  clear h
  go_enter Tryz.func108, Tryz.ntmps108
  go_wp2
  go_ret
  exact ⟨rfl, 0, rfl⟩
theorem inRam_4 (W : World) (x r : Nat) (s : CSt) (h : CodeAt W x r s) (a : Nat) (ha : a + 4 ≤ s.ram.length) :
    Calls Tryz.prog 108 #[.pointer (some ⟨x, 0, none⟩), .int .u32 a, .int .i64 4] W fun e W' => e = .returned (.bool true) ∧ ∃ q, W' = W.drewN q := by
  have c1 := h.ram
  have hl := h.bytes.2.1
  have ha' : (a : Int) + 4 ≤ s.ram.length := by omega
  clear h
  go_enter Tryz.func108, Tryz.ntmps108
  go_wp2
  go_ret
  exact ⟨rfl, 0, rfl⟩

set_option maxHeartbeats 1000000 in
theorem loadRam_1 (W : World) (x r : Nat) (s : CSt) (h : CodeAt W x r s) (a : Nat) (ha : a + 1 ≤ s.ram.length) :
    Calls Tryz.prog 78 #[.pointer (some ⟨x, 0, none⟩), .int .u32 a, .int .i64 1] W fun e W' => e = .returned (.tuple #[.int .u32 (leV s.ram a 1), .bool true]) ∧ ∃ q, W' = W.drewN q := by
  have HF : Hid (CodeAt W x r s) := h
  have c1 := h.ram
  have hl := h.bytes.2.1
  have ha' : (a : Int) + 1 ≤ s.ram.length := by omega
  have HC : Hid (∀ i, i < s.ram.length → W.cell? ⟨r, i, none⟩ = some (.int .u8 (s.ram[i]?.getD 0))) := fun i hi => by rw [h.bytes.room.cell i hi]; simp [List.getD]
  have HB : Hid (Byt s.ram) := h.bytes.2.2
  clear h
  go_enter Tryz.func78, Tryz.ntmps78
  go_wp2_with (go_at_call 108; refine (inRam_1 _ x r s HF.out a ha).mono ?_; rintro e w' ⟨rfl, q0, rfl⟩)
  go_loopw [8, 9] (fun v i wr => ∃ k q : Nat, ∃ V : Int, k ≤ 1 ∧ v = .int .u32 V ∧ i = .int .i64 (0 - (k : Int)) ∧ wr = W.drewN q ∧ Hid (V = leV s.ram (a + 1 - k) k) ∧ 0 ≤ V ∧ V < 256 ^ k) (fun _ i _ => (intOf i + 1).toNat)
  case atStart => exact ⟨0, q0, 0, by decide, rfl, by simp, rfl, rfl, by decide, by decide⟩
  case round =>
    obtain ⟨k, q, V, hk, rfl, rfl, rfl, HV, V0, V1⟩ := hrel
    by_cases hlt : k < 1
    · have hk4 : k = 0 := by omega
      obtain rfl := hk4
      · have c2 : W.cell? ⟨r, a, none⟩ = some (.int .u8 (s.ram[a]?.getD 0)) := HC.out (a) (by omega)
        have b2 := HB.out.at (a)
        have hor : bits .or .u32 (V * 256) (s.ram[a]?.getD 0) = V * 256 + s.ram[a]?.getD 0 := join_w 8 _ _ (by omega) (by simp) (by omega) (by omega) (by omega) (by omega)
        have HV2 : Hid (V * 256 + s.ram[a]?.getD 0 = leV s.ram (a) 1) := by
          have e := HV.out
          rw [show a + 1 - 0 = a + 1 from rfl] at e
          unfold Hid
          rw [e]
          simp [leV]
          skip
        go_wp2_with fail
        go_roundw
        case rel => exact ⟨1, _, _, by decide, rfl, by first | rfl | go_num | (congr 1; omega), rfl, HV2, by omega, by omega⟩
        case measure => simp [intOf]
    · obtain rfl : k = 1 := by omega
      have HV2 : Hid (V = leV s.ram a 1) := by have := HV.out; rwa [show a + 1 - 1 = a by omega] at this
      go_wp2
      go_ret2
      exact ⟨by rw [HV2.out]; rfl, q, rfl⟩

set_option maxHeartbeats 1000000 in
theorem loadRam_2 (W : World) (x r : Nat) (s : CSt) (h : CodeAt W x r s) (a : Nat) (ha : a + 2 ≤ s.ram.length) :
    Calls Tryz.prog 78 #[.pointer (some ⟨x, 0, none⟩), .int .u32 a, .int .i64 2] W fun e W' => e = .returned (.tuple #[.int .u32 (leV s.ram a 2), .bool true]) ∧ ∃ q, W' = W.drewN q := by
  have HF : Hid (CodeAt W x r s) := h
  have c1 := h.ram
  have hl := h.bytes.2.1
  have ha' : (a : Int) + 2 ≤ s.ram.length := by omega
  have HC : Hid (∀ i, i < s.ram.length → W.cell? ⟨r, i, none⟩ = some (.int .u8 (s.ram[i]?.getD 0))) := fun i hi => by rw [h.bytes.room.cell i hi]; simp [List.getD]
  have HB : Hid (Byt s.ram) := h.bytes.2.2
  clear h
  go_enter Tryz.func78, Tryz.ntmps78
  go_wp2_with (go_at_call 108; refine (inRam_2 _ x r s HF.out a ha).mono ?_; rintro e w' ⟨rfl, q0, rfl⟩)
  go_loopw [8, 9] (fun v i wr => ∃ k q : Nat, ∃ V : Int, k ≤ 2 ∧ v = .int .u32 V ∧ i = .int .i64 (1 - (k : Int)) ∧ wr = W.drewN q ∧ Hid (V = leV s.ram (a + 2 - k) k) ∧ 0 ≤ V ∧ V < 256 ^ k) (fun _ i _ => (intOf i + 1).toNat)
  case atStart => exact ⟨0, q0, 0, by decide, rfl, by simp, rfl, rfl, by decide, by decide⟩
  case round =>
    obtain ⟨k, q, V, hk, rfl, rfl, rfl, HV, V0, V1⟩ := hrel
    by_cases hlt : k < 2
    · have hk4 : k = 0 ∨ k = 1 := by omega
      rcases hk4 with rfl | rfl
      · have c2 : W.cell? ⟨r, a + 1, none⟩ = some (.int .u8 (s.ram[a + 1]?.getD 0)) := HC.out (a + 1) (by omega)
        have b2 := HB.out.at (a + 1)
        have hor : bits .or .u32 (V * 256) (s.ram[a + 1]?.getD 0) = V * 256 + s.ram[a + 1]?.getD 0 := join_w 8 _ _ (by omega) (by simp) (by omega) (by omega) (by omega) (by omega)
        have HV2 : Hid (V * 256 + s.ram[a + 1]?.getD 0 = leV s.ram (a + 1) 1) := by
          have e := HV.out
          rw [show a + 2 - 0 = a + 2 from rfl] at e
          unfold Hid
          rw [e]
          simp [leV]
          skip
        go_wp2_with fail
        go_roundw
        case rel => exact ⟨1, _, _, by decide, rfl, by first | rfl | go_num | (congr 1; omega), rfl, HV2, by omega, by omega⟩
        case measure => simp [intOf]
      · have c2 : W.cell? ⟨r, a, none⟩ = some (.int .u8 (s.ram[a]?.getD 0)) := HC.out (a) (by omega)
        have b2 := HB.out.at (a)
        have hor : bits .or .u32 (V * 256) (s.ram[a]?.getD 0) = V * 256 + s.ram[a]?.getD 0 := join_w 8 _ _ (by omega) (by simp) (by omega) (by omega) (by omega) (by omega)
        have HV2 : Hid (V * 256 + s.ram[a]?.getD 0 = leV s.ram (a) 2) := by
          have e := HV.out
          rw [show a + 2 - 1 = a + 1 from rfl] at e
          unfold Hid
          rw [e]
          simp [leV]
          omega
        go_wp2_with fail
        go_roundw
        case rel => exact ⟨2, _, _, by decide, rfl, by first | rfl | go_num | (congr 1; omega), rfl, HV2, by omega, by omega⟩
        case measure => simp [intOf]
    · obtain rfl : k = 2 := by omega
      have HV2 : Hid (V = leV s.ram a 2) := by have := HV.out; rwa [show a + 2 - 2 = a by omega] at this
      go_wp2
      go_ret2
      exact ⟨by rw [HV2.out]; rfl, q, rfl⟩

set_option maxHeartbeats 1000000 in
theorem loadRam_4 (W : World) (x r : Nat) (s : CSt) (h : CodeAt W x r s) (a : Nat) (ha : a + 4 ≤ s.ram.length) :
    Calls Tryz.prog 78 #[.pointer (some ⟨x, 0, none⟩), .int .u32 a, .int .i64 4] W fun e W' => e = .returned (.tuple #[.int .u32 (leV s.ram a 4), .bool true]) ∧ ∃ q, W' = W.drewN q := by
  have HF : Hid (CodeAt W x r s) := h
  have c1 := h.ram
  have hl := h.bytes.2.1
  have ha' : (a : Int) + 4 ≤ s.ram.length := by omega
  have HC : Hid (∀ i, i < s.ram.length → W.cell? ⟨r, i, none⟩ = some (.int .u8 (s.ram[i]?.getD 0))) := fun i hi => by rw [h.bytes.room.cell i hi]; simp [List.getD]
  have HB : Hid (Byt s.ram) := h.bytes.2.2
  clear h
  go_enter Tryz.func78, Tryz.ntmps78
  go_wp2_with (go_at_call 108; refine (inRam_4 _ x r s HF.out a ha).mono ?_; rintro e w' ⟨rfl, q0, rfl⟩)
  go_loopw [8, 9] (fun v i wr => ∃ k q : Nat, ∃ V : Int, k ≤ 4 ∧ v = .int .u32 V ∧ i = .int .i64 (3 - (k : Int)) ∧ wr = W.drewN q ∧ Hid (V = leV s.ram (a + 4 - k) k) ∧ 0 ≤ V ∧ V < 256 ^ k) (fun _ i _ => (intOf i + 1).toNat)
  case atStart => exact ⟨0, q0, 0, by decide, rfl, by simp, rfl, rfl, by decide, by decide⟩
  case round =>
    obtain ⟨k, q, V, hk, rfl, rfl, rfl, HV, V0, V1⟩ := hrel
    by_cases hlt : k < 4
    · have hk4 : k = 0 ∨ k = 1 ∨ k = 2 ∨ k = 3 := by omega
      rcases hk4 with rfl | rfl | rfl | rfl
      · have c2 : W.cell? ⟨r, a + 3, none⟩ = some (.int .u8 (s.ram[a + 3]?.getD 0)) := HC.out (a + 3) (by omega)
        have b2 := HB.out.at (a + 3)
        have hor : bits .or .u32 (V * 256) (s.ram[a + 3]?.getD 0) = V * 256 + s.ram[a + 3]?.getD 0 := join_w 8 _ _ (by omega) (by simp) (by omega) (by omega) (by omega) (by omega)
        have HV2 : Hid (V * 256 + s.ram[a + 3]?.getD 0 = leV s.ram (a + 3) 1) := by
          have e := HV.out
          rw [show a + 4 - 0 = a + 4 from rfl] at e
          unfold Hid
          rw [e]
          simp [leV]
          skip
        go_wp2_with fail
        go_roundw
        case rel => exact ⟨1, _, _, by decide, rfl, by first | rfl | go_num | (congr 1; omega), rfl, HV2, by omega, by omega⟩
        case measure => simp [intOf]
      · have c2 : W.cell? ⟨r, a + 2, none⟩ = some (.int .u8 (s.ram[a + 2]?.getD 0)) := HC.out (a + 2) (by omega)
        have b2 := HB.out.at (a + 2)
        have hor : bits .or .u32 (V * 256) (s.ram[a + 2]?.getD 0) = V * 256 + s.ram[a + 2]?.getD 0 := join_w 8 _ _ (by omega) (by simp) (by omega) (by omega) (by omega) (by omega)
        have HV2 : Hid (V * 256 + s.ram[a + 2]?.getD 0 = leV s.ram (a + 2) 2) := by
          have e := HV.out
          rw [show a + 4 - 1 = a + 3 from rfl] at e
          unfold Hid
          rw [e]
          simp [leV, Nat.add_assoc]
          omega
        go_wp2_with fail
        go_roundw
        case rel => exact ⟨2, _, _, by decide, rfl, by first | rfl | go_num | (congr 1; omega), rfl, HV2, by omega, by omega⟩
        case measure => simp [intOf]
      · have c2 : W.cell? ⟨r, a + 1, none⟩ = some (.int .u8 (s.ram[a + 1]?.getD 0)) := HC.out (a + 1) (by omega)
        have b2 := HB.out.at (a + 1)
        have hor : bits .or .u32 (V * 256) (s.ram[a + 1]?.getD 0) = V * 256 + s.ram[a + 1]?.getD 0 := join_w 8 _ _ (by omega) (by simp) (by omega) (by omega) (by omega) (by omega)
        have HV2 : Hid (V * 256 + s.ram[a + 1]?.getD 0 = leV s.ram (a + 1) 3) := by
          have e := HV.out
          rw [show a + 4 - 2 = a + 2 from rfl] at e
          unfold Hid
          rw [e]
          simp [leV, Nat.add_assoc]
          omega
        go_wp2_with fail
        go_roundw
        case rel => exact ⟨3, _, _, by decide, rfl, by first | rfl | go_num | (congr 1; omega), rfl, HV2, by omega, by omega⟩
        case measure => simp [intOf]
      · have c2 : W.cell? ⟨r, a, none⟩ = some (.int .u8 (s.ram[a]?.getD 0)) := HC.out (a) (by omega)
        have b2 := HB.out.at (a)
        have hor : bits .or .u32 (V * 256) (s.ram[a]?.getD 0) = V * 256 + s.ram[a]?.getD 0 := join_w 8 _ _ (by omega) (by simp) (by omega) (by omega) (by omega) (by omega)
        have HV2 : Hid (V * 256 + s.ram[a]?.getD 0 = leV s.ram (a) 4) := by
          have e := HV.out
          rw [show a + 4 - 3 = a + 1 from rfl] at e
          unfold Hid
          rw [e]
          simp [leV, Nat.add_assoc]
          omega
        go_wp2_with fail
        go_roundw
        case rel => exact ⟨4, _, _, by decide, rfl, by first | rfl | go_num | (congr 1; omega), rfl, HV2, by omega, by omega⟩
        case measure => simp [intOf]
    · obtain rfl : k = 4 := by omega
      have HV2 : Hid (V = leV s.ram a 4) := by have := HV.out; rwa [show a + 4 - 4 = a by omega] at this
      go_wp2
      go_ret2
      exact ⟨by rw [HV2.out]; rfl, q, rfl⟩

set_option maxHeartbeats 1000000 in
theorem storeRam_1 (W : World) (x r : Nat) (s : CSt) (h : CodeAt W x r s) (A : x ≠ r) (a : Nat) (v : Int) (_v0 : 0 ≤ v) (_v1 : v < 4294967296) (ha : a + 1 ≤ s.ram.length) :
    Calls Tryz.prog 94 #[.pointer (some ⟨x, 0, none⟩), .int .u32 a, .int .i64 1, .int .u32 v] W fun e W' => e = .returned (.bool true) ∧ CodeAt W' x r { s with ram := stV s.ram a v 1 } ∧ Offs [x, r] W W' := by
  have HF : Hid (CodeAt W x r s) := h
  have hl := h.bytes.2.1
  have ha' : (a : Int) + 1 ≤ s.ram.length := by omega
  clear h
  go_enter Tryz.func94, Tryz.ntmps94
  go_wp2_with (go_at_call 108; refine (inRam_1 _ x r s HF.out a ha).mono ?_; rintro e w' ⟨rfl, q0, rfl⟩)
  go_loopw [3, 9] (fun vv i wr => ∃ k : Nat, k ≤ 1 ∧ i = .int .i64 k ∧ vv = .int .u32 (v / 256 ^ k) ∧ CodeAt wr x r { s with ram := stV s.ram a v k } ∧ Offs [x, r] W wr) (fun _ i _ => 1 - (intOf i).toNat)
  case atStart => exact ⟨0, by decide, rfl, by simp, HF.out.drawn q0, (Offs.refl _ _).drawn q0⟩
  case round =>
    obtain ⟨k, hk, rfl, rfl, hr, ho⟩ := hrel
    have c1 : wr.cell? ⟨x, 50, none⟩ = some (.slice (some ⟨r, 0, none⟩) s.ram.length s.ram.length) := by have := hr.ram; simp only [stV_len] at this; exact this
    have f1 : ∀ j, wr.frozen? ⟨r, j, none⟩ = false := fun j => by have h1 := hr.bytes.1; simp [World.frozen?, h1]
    have HR : Hid (CodeAt wr x r { s with ram := stV s.ram a v k }) := hr
    clear hr
    by_cases hlt : k < 1
    · have hk4 : k = 0 := by omega
      obtain rfl := hk4
      · obtain ⟨old, c2⟩ : ∃ old, wr.cell? ⟨r, a, none⟩ = some old := ⟨_, HR.out.bytes.room.cell (a) (by show a < (stV s.ram a v 0).length; rw [stV_len]; omega)⟩
        go_wp2_with fail
        go_roundw
        case rel =>
          have e : stV s.ram a v 1 = (stV s.ram a v 0).set (a) (v % 256) := by
            skip
            simp [stV]
          refine ⟨1, by decide, rfl, congrArg (Value.int .u32) (by show _ = v / 256; omega), ?_, ho.put (by simp) _⟩
          rw [e]
          exact HR.out.put_ram A (a) (v % 256) (by omega) (by omega)
        case measure => simp [intOf]
    · obtain rfl : k = 1 := by omega
      go_wp2
      go_ret
      exact ⟨rfl, HR.out, ho⟩

set_option maxHeartbeats 1000000 in
theorem storeRam_2 (W : World) (x r : Nat) (s : CSt) (h : CodeAt W x r s) (A : x ≠ r) (a : Nat) (v : Int) (_v0 : 0 ≤ v) (_v1 : v < 4294967296) (ha : a + 2 ≤ s.ram.length) :
    Calls Tryz.prog 94 #[.pointer (some ⟨x, 0, none⟩), .int .u32 a, .int .i64 2, .int .u32 v] W fun e W' => e = .returned (.bool true) ∧ CodeAt W' x r { s with ram := stV s.ram a v 2 } ∧ Offs [x, r] W W' := by
  have HF : Hid (CodeAt W x r s) := h
  have hl := h.bytes.2.1
  have ha' : (a : Int) + 2 ≤ s.ram.length := by omega
  clear h
  go_enter Tryz.func94, Tryz.ntmps94
  go_wp2_with (go_at_call 108; refine (inRam_2 _ x r s HF.out a ha).mono ?_; rintro e w' ⟨rfl, q0, rfl⟩)
  go_loopw [3, 9] (fun vv i wr => ∃ k : Nat, k ≤ 2 ∧ i = .int .i64 k ∧ vv = .int .u32 (v / 256 ^ k) ∧ CodeAt wr x r { s with ram := stV s.ram a v k } ∧ Offs [x, r] W wr) (fun _ i _ => 2 - (intOf i).toNat)
  case atStart => exact ⟨0, by decide, rfl, by simp, HF.out.drawn q0, (Offs.refl _ _).drawn q0⟩
  case round =>
    obtain ⟨k, hk, rfl, rfl, hr, ho⟩ := hrel
    have c1 : wr.cell? ⟨x, 50, none⟩ = some (.slice (some ⟨r, 0, none⟩) s.ram.length s.ram.length) := by have := hr.ram; simp only [stV_len] at this; exact this
    have f1 : ∀ j, wr.frozen? ⟨r, j, none⟩ = false := fun j => by have h1 := hr.bytes.1; simp [World.frozen?, h1]
    have HR : Hid (CodeAt wr x r { s with ram := stV s.ram a v k }) := hr
    clear hr
    by_cases hlt : k < 2
    · have hk4 : k = 0 ∨ k = 1 := by omega
      rcases hk4 with rfl | rfl
      · obtain ⟨old, c2⟩ : ∃ old, wr.cell? ⟨r, a, none⟩ = some old := ⟨_, HR.out.bytes.room.cell (a) (by show a < (stV s.ram a v 0).length; rw [stV_len]; omega)⟩
        go_wp2_with fail
        go_roundw
        case rel =>
          have e : stV s.ram a v 1 = (stV s.ram a v 0).set (a) (v % 256) := by
            skip
            simp [stV]
          refine ⟨1, by decide, rfl, congrArg (Value.int .u32) (by show _ = v / 256; omega), ?_, ho.put (by simp) _⟩
          rw [e]
          exact HR.out.put_ram A (a) (v % 256) (by omega) (by omega)
        case measure => simp [intOf]
      · obtain ⟨old, c2⟩ : ∃ old, wr.cell? ⟨r, a + 1, none⟩ = some old := ⟨_, HR.out.bytes.room.cell (a + 1) (by show a + 1 < (stV s.ram a v 1).length; rw [stV_len]; omega)⟩
        go_wp2_with fail
        go_roundw
        case rel =>
          have e : stV s.ram a v 2 = (stV s.ram a v 1).set (a + 1) (v / 256 % 256) := by
            skip
            simp [stV]
          refine ⟨2, by decide, rfl, congrArg (Value.int .u32) (by show _ = v / 65536; omega), ?_, ho.put (by simp) _⟩
          rw [e]
          exact HR.out.put_ram A (a + 1) (v / 256 % 256) (by omega) (by omega)
        case measure => simp [intOf]
    · obtain rfl : k = 2 := by omega
      go_wp2
      go_ret
      exact ⟨rfl, HR.out, ho⟩

set_option maxHeartbeats 1000000 in
theorem storeRam_4 (W : World) (x r : Nat) (s : CSt) (h : CodeAt W x r s) (A : x ≠ r) (a : Nat) (v : Int) (v0 : 0 ≤ v) (v1 : v < 4294967296) (ha : a + 4 ≤ s.ram.length) :
    Calls Tryz.prog 94 #[.pointer (some ⟨x, 0, none⟩), .int .u32 a, .int .i64 4, .int .u32 v] W fun e W' => e = .returned (.bool true) ∧ CodeAt W' x r { s with ram := stV s.ram a v 4 } ∧ Offs [x, r] W W' := by
  have HF : Hid (CodeAt W x r s) := h
  have hl := h.bytes.2.1
  have ha' : (a : Int) + 4 ≤ s.ram.length := by omega
  clear h
  go_enter Tryz.func94, Tryz.ntmps94
  go_wp2_with (go_at_call 108; refine (inRam_4 _ x r s HF.out a ha).mono ?_; rintro e w' ⟨rfl, q0, rfl⟩)
  go_loopw [3, 9] (fun vv i wr => ∃ k : Nat, k ≤ 4 ∧ i = .int .i64 k ∧ vv = .int .u32 (v / 256 ^ k) ∧ CodeAt wr x r { s with ram := stV s.ram a v k } ∧ Offs [x, r] W wr) (fun _ i _ => 4 - (intOf i).toNat)
  case atStart => exact ⟨0, by decide, rfl, by simp, HF.out.drawn q0, (Offs.refl _ _).drawn q0⟩
  case round =>
    obtain ⟨k, hk, rfl, rfl, hr, ho⟩ := hrel
    have c1 : wr.cell? ⟨x, 50, none⟩ = some (.slice (some ⟨r, 0, none⟩) s.ram.length s.ram.length) := by have := hr.ram; simp only [stV_len] at this; exact this
    have f1 : ∀ j, wr.frozen? ⟨r, j, none⟩ = false := fun j => by have h1 := hr.bytes.1; simp [World.frozen?, h1]
    have HR : Hid (CodeAt wr x r { s with ram := stV s.ram a v k }) := hr
    clear hr
    by_cases hlt : k < 4
    · have hk4 : k = 0 ∨ k = 1 ∨ k = 2 ∨ k = 3 := by omega
      rcases hk4 with rfl | rfl | rfl | rfl
      · obtain ⟨old, c2⟩ : ∃ old, wr.cell? ⟨r, a, none⟩ = some old := ⟨_, HR.out.bytes.room.cell (a) (by show a < (stV s.ram a v 0).length; rw [stV_len]; omega)⟩
        go_wp2_with fail
        go_roundw
        case rel =>
          have e : stV s.ram a v 1 = (stV s.ram a v 0).set (a) (v % 256) := by
            skip
            simp [stV]
          refine ⟨1, by decide, rfl, congrArg (Value.int .u32) (by show _ = v / 256; omega), ?_, ho.put (by simp) _⟩
          rw [e]
          exact HR.out.put_ram A (a) (v % 256) (by omega) (by omega)
        case measure => simp [intOf]
      · obtain ⟨old, c2⟩ : ∃ old, wr.cell? ⟨r, a + 1, none⟩ = some old := ⟨_, HR.out.bytes.room.cell (a + 1) (by show a + 1 < (stV s.ram a v 1).length; rw [stV_len]; omega)⟩
        go_wp2_with fail
        go_roundw
        case rel =>
          have e : stV s.ram a v 2 = (stV s.ram a v 1).set (a + 1) (v / 256 % 256) := by
            skip
            simp [stV]
          refine ⟨2, by decide, rfl, congrArg (Value.int .u32) (by show _ = v / 65536; omega), ?_, ho.put (by simp) _⟩
          rw [e]
          exact HR.out.put_ram A (a + 1) (v / 256 % 256) (by omega) (by omega)
        case measure => simp [intOf]
      · obtain ⟨old, c2⟩ : ∃ old, wr.cell? ⟨r, a + 2, none⟩ = some old := ⟨_, HR.out.bytes.room.cell (a + 2) (by show a + 2 < (stV s.ram a v 2).length; rw [stV_len]; omega)⟩
        go_wp2_with fail
        go_roundw
        case rel =>
          have e : stV s.ram a v 3 = (stV s.ram a v 2).set (a + 2) (v / 65536 % 256) := by
            skip
            simp [stV]
          refine ⟨3, by decide, rfl, congrArg (Value.int .u32) (by show _ = v / 16777216; omega), ?_, ho.put (by simp) _⟩
          rw [e]
          exact HR.out.put_ram A (a + 2) (v / 65536 % 256) (by omega) (by omega)
        case measure => simp [intOf]
      · obtain ⟨old, c2⟩ : ∃ old, wr.cell? ⟨r, a + 3, none⟩ = some old := ⟨_, HR.out.bytes.room.cell (a + 3) (by show a + 3 < (stV s.ram a v 3).length; rw [stV_len]; omega)⟩
        go_wp2_with fail
        go_roundw
        case rel =>
          have e : stV s.ram a v 4 = (stV s.ram a v 3).set (a + 3) (v / 16777216) := by
            have e' : v / 16777216 % 256 = v / 16777216 := by omega
            simp [stV, e']
          refine ⟨4, by decide, rfl, congrArg (Value.int .u32) (by show _ = v / 4294967296; omega), ?_, ho.put (by simp) _⟩
          rw [e]
          exact HR.out.put_ram A (a + 3) (v / 16777216) (by omega) (by omega)
        case measure => simp [intOf]
    · obtain rfl : k = 4 := by omega
      go_wp2
      go_ret
      exact ⟨rfl, HR.out, ho⟩
end Go.Proofs.YteiideeechnekaaGreatDoor

/-
  The code's devices.
-/
namespace Go.Proofs.YteiideeechnekaaGreatDoor
open Go.RowKit

-- the code's devices
def claimC (c : CSt) (m : Nat) : CSt := if m = 0 then c else { c with pend := bits .andNot .u32 c.pend ((2 ^ m : Nat) : Int), served := bits .or .u32 c.served ((2 ^ m : Nat) : Int) }
def complC (c : CSt) (en v : Int) : CSt :=
  if v < 1 ∨ 7 < v then c else
    let bit := bits .and .u32 (bits .and .u32 c.served en) ((2 ^ v.toNat : Nat) : Int)
    { c with served := bits .andNot .u32 c.served bit, pend := bits .or .u32 c.pend (bits .and .u32 bit c.level) }
def lineC (c : CSt) (k : Nat) (hi : Bool) : CSt :=
  if hi then { c with level := bits .or .u32 c.level ((2 ^ k : Nat) : Int), pend := bits .or .u32 c.pend (bits .andNot .u32 ((2 ^ k : Nat) : Int) c.served) }
  else { c with level := bits .andNot .u32 c.level ((2 ^ k : Nat) : Int) }
def tickC (c : CSt) : CSt := { c with mtime := (c.mtime + 1) % 4294967296 }
def clkV (c : CSt) (a : Nat) : Int × Bool := if a = 4096 then (c.msip, true) else if a = 4100 then (c.mtimecmp, true) else if a = 4104 then (c.mtime, true) else (0, false)
def clkW (c : CSt) (a : Nat) (v : Int) : CSt × Bool := if a = 4096 then ({ c with msip := bits .and .u32 v 1 }, true) else if a = 4100 then ({ c with mtimecmp := v }, true) else if a = 4104 then ({ c with mtime := v }, true) else (c, false)
def prC (a : Nat) : Prop := 8192 ≤ a ∧ a < 8224 ∧ a % 4 = 0
def prD (a : Nat) : Decidable (prC a) := if h : 8192 ≤ a ∧ a < 8224 ∧ a % 4 = 0 then .isTrue h else .isFalse h
def linV (c : CSt) (a : Nat) : CSt × Int × Bool :=
  if a = 8224 then (c, c.pend, true) else if a = 8228 then (c, c.en0, true) else if a = 8232 then (c, c.en1, true) else if a = 8240 then (c, c.li0, true) else if a = 8248 then (c, c.li1, true)
  else if a = 8244 then (claimC c (bestC c.pend c.en0 0 c.prio 7).1, ((bestC c.pend c.en0 0 c.prio 7).1 : Nat), true) else if a = 8252 then (claimC c (bestC c.pend c.en1 0 c.prio 7).1, ((bestC c.pend c.en1 0 c.prio 7).1 : Nat), true)
  else @ite _ (prC a) (prD a) (c, c.prio[(a - 8192) / 4]?.getD 0, true) (c, 0, false)
def linW (c : CSt) (a : Nat) (v : Int) : CSt × Bool :=
  if a = 8224 then (c, true) else if a = 8228 then ({ c with en0 := bits .and .u32 v 254 }, true) else if a = 8232 then ({ c with en1 := bits .and .u32 v 254 }, true) else if a = 8240 then ({ c with li0 := bits .and .u32 v 7 }, true) else if a = 8248 then ({ c with li1 := bits .and .u32 v 7 }, true)
  else if a = 8244 then (complC c c.en0 v, true) else if a = 8252 then (complC c c.en1 v, true)
  else @ite _ (prC a) (prD a) (if a = 8192 then c else { c with prio := c.prio.set ((a - 8192) / 4) (bits .and .u32 v 7) }, true) (c, false)
def devC (c : CSt) (a : Nat) : CSt × Int × Bool := if (clkV c a).2 then (c, clkV c a) else linV c a
def setD (c : CSt) (a : Nat) (v : Int) : CSt × Bool := if (clkW c a v).2 then clkW c a v else linW c a v
theorem p2_int (m : Nat) (h : m ≤ 7) : (2 : Int) ^ m % 4294967296 = ((2 ^ m : Nat) : Int) := by
  have h2 : (2 : Nat) ^ m < 4294967296 := Nat.lt_of_le_of_lt (Nat.pow_le_pow_right (by decide) h) (by decide)
  rw [show (2 : Int) ^ m = ((2 ^ m : Nat) : Int) by simp]
  exact Int.emod_eq_of_lt (Int.natCast_nonneg _) (Int.ofNat_lt.2 h2)
-- the clock
theorem clkR_any (W : World) (x r : Nat) (s : CSt) (h : CodeAt W x r s) (a : Nat) :
    Calls Tryz.prog 92 #[.pointer (some ⟨x, 51, none⟩), .int .u32 a] W fun e W' => e = .returned (.tuple #[.int .u32 (clkV s a).1, .bool (clkV s a).2]) ∧ W' = W := by
  have c1 := h.msip
  have c2 := h.mtimecmp
  have c3 := h.mtime
  clear h
  by_cases a4096 : a = 4096
  · subst a4096
    go_enter Tryz.func92, Tryz.ntmps92
    go_wp2
    go_ret2
    exact ⟨rfl, rfl⟩
  by_cases a4100 : a = 4100
  · subst a4100
    go_enter Tryz.func92, Tryz.ntmps92
    go_wp2
    go_ret2
    exact ⟨rfl, rfl⟩
  by_cases a4104 : a = 4104
  · subst a4104
    go_enter Tryz.func92, Tryz.ntmps92
    go_wp2
    go_ret2
    exact ⟨rfl, rfl⟩
  have HE : Hid (clkV s a = (0, false)) := by unfold Hid clkV; rw [if_neg a4096, if_neg a4100, if_neg a4104]
  have b1 : ((a : Int) == 4096) = false := by simp; omega
  have b2 : ((a : Int) == 4100) = false := by simp; omega
  have b3 : ((a : Int) == 4104) = false := by simp; omega
  clear a4096 a4100 a4104
  go_enter Tryz.func92, Tryz.ntmps92
  go_wp2
  go_ret2
  exact ⟨by rw [HE.out]; rfl, rfl⟩
theorem clkW_any (W : World) (x r : Nat) (s : CSt) (h : CodeAt W x r s) (A : x ≠ r) (a : Nat) (v : Int) :
    Calls Tryz.prog 95 #[.pointer (some ⟨x, 51, none⟩), .int .u32 a, .int .u32 v] W fun e W' => e = .returned (.bool (clkW s a v).2) ∧ CodeAt W' x r (clkW s a v).1 ∧ Offs [x, r] W W' := by
  have HF : Hid (CodeAt W x r s) := h
  have c1 := h.msip
  have c2 := h.mtimecmp
  have c3 := h.mtime
  have fz := h.fx
  clear h
  by_cases a4096 : a = 4096
  · subst a4096
    go_enter Tryz.func95, Tryz.ntmps95
    go_wp2
    go_ret
    exact ⟨rfl, HF.out.put_msip A _, (Offs.refl _ _).put (by simp) _⟩
  by_cases a4100 : a = 4100
  · subst a4100
    go_enter Tryz.func95, Tryz.ntmps95
    go_wp2
    go_ret
    exact ⟨rfl, HF.out.put_mtimecmp A _, (Offs.refl _ _).put (by simp) _⟩
  by_cases a4104 : a = 4104
  · subst a4104
    go_enter Tryz.func95, Tryz.ntmps95
    go_wp2
    go_ret
    exact ⟨rfl, HF.out.put_mtime A _, (Offs.refl _ _).put (by simp) _⟩
  have HE : Hid (clkW s a v = (s, false)) := by unfold Hid clkW; rw [if_neg a4096, if_neg a4100, if_neg a4104]
  have b1 : ((a : Int) == 4096) = false := by simp; omega
  have b2 : ((a : Int) == 4100) = false := by simp; omega
  have b3 : ((a : Int) == 4104) = false := by simp; omega
  clear a4096 a4100 a4104
  go_enter Tryz.func95, Tryz.ntmps95
  go_wp2
  go_ret
  exact ⟨by rw [HE.out]; rfl, by rw [HE.out]; exact HF.out, Offs.refl _ _⟩
theorem ctick_any (W : World) (x r : Nat) (s : CSt) (h : CodeAt W x r s) (A : x ≠ r) :
    Calls Tryz.prog 91 #[.pointer (some ⟨x, 51, none⟩)] W (CP W x r (tickC s)) := by
  have HF : Hid (CodeAt W x r s) := h
  have c3 := h.mtime
  have fz := h.fx
  clear h
  go_enter Tryz.func91, Tryz.ntmps91
  go_wp2
  go_end0
  exact ⟨rfl, HF.out.put_mtime A _, (Offs.refl _ _).put (by simp) _⟩

-- the controller: whose priority stands at an address
theorem psrc_yes (W : World) (a k : Nat) (h : a = 8192 + 4 * k) (h7 : k ≤ 7) : Calls Tryz.prog 126 #[.int .u32 a] W fun e W' => e = .returned (.tuple #[.int .u32 k, .bool true]) ∧ W' = W := by
  have e1 : ¬ ((a : Int) < 8192) := by omega
  have e2 : ¬ (8220 < (a : Int)) := by omega
  have e3 : (((a : Int) % 4) != 0) = false := by simp; omega
  have HE : Hid (((a : Int) - 8192) / 4 = (k : Int)) := by unfold Hid; omega
  have h32 : (a : Int) < 4294967296 := by omega
  clear h h7
  go_enter Tryz.func126, Tryz.ntmps126
  go_wp2
  go_ret2
  exact ⟨by rw [← HE.out]; rfl, rfl⟩
theorem psrc_no (W : World) (a : Nat) (h : ¬ prC a) : Calls Tryz.prog 126 #[.int .u32 a] W fun e W' => e = .returned (.tuple #[.int .u32 0, .bool false]) ∧ W' = W := by
  unfold prC at h
  by_cases h1 : (a : Int) < 8192
  · clear h
    go_enter Tryz.func126, Tryz.ntmps126
    go_wp2
    go_ret2
    exact ⟨rfl, rfl⟩
  · by_cases h2 : 8220 < (a : Int)
    · clear h
      go_enter Tryz.func126, Tryz.ntmps126
      go_wp2
      go_ret2
      exact ⟨rfl, rfl⟩
    · have h3 : (((a : Int) % 4) != 0) = true := by simp; omega
      clear h
      go_enter Tryz.func126, Tryz.ntmps126
      go_wp2
      go_ret2
      exact ⟨rfl, rfl⟩
-- claims
set_option maxHeartbeats 1000000 in
theorem cclaim_0 (W : World) (x r : Nat) (s : CSt) (h : CodeAt W x r s) (A : x ≠ r) :
    Calls Tryz.prog 125 #[.pointer (some ⟨x, 54, none⟩), .int .i64 0] W fun e W' => e = .returned (.int .u32 ((bestC s.pend s.en0 0 s.prio 7).1 : Nat)) ∧ CodeAt W' x r (claimC s (bestC s.pend s.en0 0 s.prio 7).1) ∧ Offs [x, r] W W' := by
  have HF : Hid (CodeAt W x r s) := h
  have HB := best_any W x 54 s.pend s.en0 0 s.prio h.pend h.prio
  have c1 := h.en0
  have c2 := h.pend
  have c3 := h.served
  have fz := h.fx
  have h7 := bestC_le s.pend s.en0 0 s.prio 7
  generalize (bestC s.pend s.en0 0 s.prio 7).1 = m at HB h7 ⊢
  clear h
  by_cases h0 : m = 0
  · subst h0
    go_enter Tryz.func125, Tryz.ntmps125
    go_wp2_with (go_at_call 130; refine HB.mono ?_; rintro e w1 ⟨rfl, q, rfl⟩)
    go_ret
    exact ⟨rfl, HF.out.drawn q, (Offs.refl _ _).drawn q⟩
  · have hn : ((m : Int) == 0) = false := by simp; omega
    have hk : (2 : Int) ^ m % 4294967296 = ((2 ^ m : Nat) : Int) := p2_int m h7
    have HE : Hid (claimC s m = { s with pend := bits .andNot .u32 s.pend ((2 ^ m : Nat) : Int), served := bits .or .u32 s.served ((2 ^ m : Nat) : Int) }) := by unfold Hid claimC; rw [if_neg h0]
    clear h0
    go_enter Tryz.func125, Tryz.ntmps125
    go_wp2_with (go_at_call 130; refine HB.mono ?_; rintro e w1 ⟨rfl, q, rfl⟩)
    go_ret
    have P := ((HF.out.drawn q).put_pend A (bits .andNot .u32 s.pend ((2 ^ m : Nat) : Int))).put_served A (bits .or .u32 s.served ((2 ^ m : Nat) : Int))
    exact ⟨rfl, by rw [HE.out]; first | exact P | (rw [hk]; exact P) | (simp only [← hk] at P; exact P), (((Offs.refl _ _).drawn q).put (by simp) _).put (by simp) _⟩
set_option maxHeartbeats 1000000 in
theorem cclaim_1 (W : World) (x r : Nat) (s : CSt) (h : CodeAt W x r s) (A : x ≠ r) :
    Calls Tryz.prog 125 #[.pointer (some ⟨x, 54, none⟩), .int .i64 1] W fun e W' => e = .returned (.int .u32 ((bestC s.pend s.en1 0 s.prio 7).1 : Nat)) ∧ CodeAt W' x r (claimC s (bestC s.pend s.en1 0 s.prio 7).1) ∧ Offs [x, r] W W' := by
  have HF : Hid (CodeAt W x r s) := h
  have HB := best_any W x 54 s.pend s.en1 0 s.prio h.pend h.prio
  have c1 := h.en1
  have c2 := h.pend
  have c3 := h.served
  have fz := h.fx
  have h7 := bestC_le s.pend s.en1 0 s.prio 7
  generalize (bestC s.pend s.en1 0 s.prio 7).1 = m at HB h7 ⊢
  clear h
  by_cases h0 : m = 0
  · subst h0
    go_enter Tryz.func125, Tryz.ntmps125
    go_wp2_with (go_at_call 130; refine HB.mono ?_; rintro e w1 ⟨rfl, q, rfl⟩)
    go_ret
    exact ⟨rfl, HF.out.drawn q, (Offs.refl _ _).drawn q⟩
  · have hn : ((m : Int) == 0) = false := by simp; omega
    have hk : (2 : Int) ^ m % 4294967296 = ((2 ^ m : Nat) : Int) := p2_int m h7
    have HE : Hid (claimC s m = { s with pend := bits .andNot .u32 s.pend ((2 ^ m : Nat) : Int), served := bits .or .u32 s.served ((2 ^ m : Nat) : Int) }) := by unfold Hid claimC; rw [if_neg h0]
    clear h0
    go_enter Tryz.func125, Tryz.ntmps125
    go_wp2_with (go_at_call 130; refine HB.mono ?_; rintro e w1 ⟨rfl, q, rfl⟩)
    go_ret
    have P := ((HF.out.drawn q).put_pend A (bits .andNot .u32 s.pend ((2 ^ m : Nat) : Int))).put_served A (bits .or .u32 s.served ((2 ^ m : Nat) : Int))
    exact ⟨rfl, by rw [HE.out]; first | exact P | (rw [hk]; exact P) | (simp only [← hk] at P; exact P), (((Offs.refl _ _).drawn q).put (by simp) _).put (by simp) _⟩
set_option maxHeartbeats 4000000 in
set_option maxRecDepth 100000 in
theorem cline_any (W : World) (x r : Nat) (s : CSt) (h : CodeAt W x r s) (A : x ≠ r) (k : Nat) (h1 : 1 ≤ k) (h7 : k ≤ 7) (hi : Bool) :
    Calls Tryz.prog 90 #[.pointer (some ⟨x, 54, none⟩), .int .i64 k, .bool hi] W (CP W x r (lineC s k hi)) := by
  have HF : Hid (CodeAt W x r s) := h
  have c1 := h.level
  have fz := h.fx
  have h1' : ¬ ((k : Int) < 1) := by omega
  have h7' : ¬ (7 < (k : Int)) := by omega
  have hk : (2 : Int) ^ k % 4294967296 = ((2 ^ k : Nat) : Int) := p2_int k h7
  unfold lineC
  generalize ((2 ^ k : Nat) : Int) = b at hk ⊢
  clear h h1 h7
  cases hi
  · rw [if_neg (by decide)]
    go_enter Tryz.func90, Tryz.ntmps90
    go_wp2
    exact bodyPost_ret (v := .tuple #[]) (by simp [results, Tryz.results90, go_sem]) rfl ⟨rfl, HF.out.put_level A _, (Offs.refl _ _).put (by simp) _⟩
  · rw [if_pos rfl]
    go_enter Tryz.func90, Tryz.ntmps90
    go_wp2_with fail
    have P1 := HF.out.put_level A (bits .or .u32 s.level b)
    have O1 : Hid (Offs [x, r] W (W.setCell ⟨x, 64, none⟩ (.int .u32 (bits .or .u32 s.level b)))) := (Offs.refl _ _).put (by simp) _
    generalize W.setCell ⟨x, 64, none⟩ (.int .u32 (bits .or .u32 s.level b)) = w0 at P1 O1 ⊢
    have HP : Hid (CodeAt w0 x r { s with level := bits .or .u32 s.level b }) := P1
    have d1 : w0.cell? ⟨x, 62, none⟩ = some (.int .u32 s.pend) := P1.pend
    have fz2 := P1.fx
    have hS : w0.drew.cell? ⟨x, 63, none⟩ = some (.int .u32 (s.served)) := P1.served
    clear P1
    refine wp_region_held (S := fun w' => w'.cell? ⟨x, 63, none⟩ = some (.int .u32 (s.served))) (by kernel_rfl) ?_
    change wpAnyH _ _ _ _ _ _ _ _ (w0.drew)
    refine yK 0 (.pointer (some ⟨x, 54, none⟩)) hS ?_
    refine yK 1 (.pointer (some ⟨x, 54, none⟩)) hS ?_
    refine yK 2 (.pointer (some ⟨x, 62, none⟩)) hS ?_
    refine yK 4 (.int .u32 (b)) hS ?_
    refine yK 5 (.pointer (some ⟨x, 54, none⟩)) hS ?_
    refine yK 6 (.pointer (some ⟨x, 54, none⟩)) hS ?_
    refine yK 7 (.pointer (some ⟨x, 63, none⟩)) hS ?_
    refine yU 8 (fun _ h => h) hS ?_
    refine yK 9 (.int .u32 (bits .andNot .u32 (b) (s.served))) hS ?_
    refine tA 3 (by kernel_rfl) (wpOp_step rfl fun K hK => ?_)
    go_simp
    refine hK _ _ ⟨hS, ?_⟩
    clear hK K
    refine yK 10 (.int .u32 (bits .or .u32 s.pend ((bits .andNot .u32 (b) (s.served))))) hS ?_
    refine yK 11 (.pointer (some ⟨x, 54, none⟩)) hS ?_
    refine yK 12 (.pointer (some ⟨x, 62, none⟩)) hS ?_
    refine tA 13 (by kernel_rfl) (wpOp_step rfl fun K hK => ?_)
    go_simp
    have P := HP.out.put_pend A (bits .or .u32 s.pend (bits .andNot .u32 b s.served))
    refine hK _ _ ⟨P.served, wpAnyH_done (by kernel_rfl) ?_ _⟩
    clear hK K
    go_wp2_with fail
    go_end0
    exact ⟨rfl, P.drawn 1, (O1.out.put (by simp) _).drawn 1⟩
theorem cline_no (W : World) (x : Nat) (k : Int) (hi : Bool) (hk : k < 1 ∨ 7 < k) :
    Calls Tryz.prog 90 #[.pointer (some ⟨x, 54, none⟩), .int .i64 k, .bool hi] W fun e W' => e = .returned (.tuple #[]) ∧ W' = W := by
  by_cases h1 : k < 1
  · clear hk
    go_enter Tryz.func90, Tryz.ntmps90
    go_wp2
    exact bodyPost_ret (v := .tuple #[]) (by simp [results, Tryz.results90, go_sem]) rfl ⟨rfl, rfl⟩
  · have h7 : 7 < k := by omega
    clear hk
    go_enter Tryz.func90, Tryz.ntmps90
    go_wp2
    exact bodyPost_ret (v := .tuple #[]) (by simp [results, Tryz.results90, go_sem]) rfl ⟨rfl, rfl⟩
set_option maxHeartbeats 4000000 in
set_option maxRecDepth 100000 in
theorem ccompl_0 (W : World) (x r : Nat) (s : CSt) (h : CodeAt W x r s) (A : x ≠ r) (v : Int) (v0 : 0 ≤ v) :
    Calls Tryz.prog 127 #[.pointer (some ⟨x, 54, none⟩), .int .i64 0, .int .u32 v] W (CP W x r (complC s s.en0 v)) := by
  have HF : Hid (CodeAt W x r s) := h
  by_cases h1 : v < 1
  · have HE : Hid (complC s s.en0 v = s) := by unfold Hid complC; rw [if_pos (.inl h1)]
    clear h
    go_enter Tryz.func127, Tryz.ntmps127
    go_wp2
    exact bodyPost_ret (v := .tuple #[]) (by simp [results, Tryz.results127, go_sem]) rfl ⟨rfl, by rw [HE.out]; exact HF.out, Offs.refl _ _⟩
  by_cases h7 : 7 < v
  · have HE : Hid (complC s s.en0 v = s) := by unfold Hid complC; rw [if_pos (.inr h7)]
    clear h
    go_enter Tryz.func127, Tryz.ntmps127
    go_wp2
    exact bodyPost_ret (v := .tuple #[]) (by simp [results, Tryz.results127, go_sem]) rfl ⟨rfl, by rw [HE.out]; exact HF.out, Offs.refl _ _⟩
  have HE : Hid (complC s s.en0 v = { s with served := bits .andNot .u32 s.served (bits .and .u32 (bits .and .u32 s.served s.en0) ((2 ^ v.toNat : Nat) : Int)), pend := bits .or .u32 s.pend (bits .and .u32 (bits .and .u32 (bits .and .u32 s.served s.en0) ((2 ^ v.toNat : Nat) : Int)) s.level) }) := by unfold Hid complC; rw [if_neg (by omega)]
  obtain ⟨m, rfl⟩ : ∃ m : Nat, v = m := ⟨v.toNat, by omega⟩
  have hk : (2 : Int) ^ m % 4294967296 = ((2 ^ m : Nat) : Int) := p2_int m (by omega)
  rw [show ((m : Int)).toNat = m from rfl] at HE
  generalize ((2 ^ m : Nat) : Int) = z at hk HE
  have c1 := h.served
  have c2 := h.en0
  have fz := h.fx
  clear h
  go_enter Tryz.func127, Tryz.ntmps127
  go_wp2_with fail
  go_quiet (fail)
  generalize hb : bits .and .u32 (bits .and .u32 s.served s.en0) z = b at HE ⊢
  go_wp2_with fail
  generalize hw0 : World.setCell (World.drewN W _) _ _ = w0
  have P1 : CodeAt w0 x r { s with served := bits .andNot .u32 s.served b } := by rw [← hw0]; exact (HF.out.drawn _).put_served A _
  have O1 : Hid (Offs [x, r] W w0) := by unfold Hid; rw [← hw0]; exact ((Offs.refl _ _).drawn _).put (by simp) _
  clear hw0
  have HP : Hid (CodeAt w0 x r { s with served := bits .andNot .u32 s.served b }) := P1
  have d1 : w0.cell? ⟨x, 62, none⟩ = some (.int .u32 s.pend) := P1.pend
  have fz2 := P1.fx
  have hS : w0.drew.cell? ⟨x, 64, none⟩ = some (.int .u32 (s.level)) := P1.level
  clear P1
  refine wp_region_held (S := fun w' => w'.cell? ⟨x, 64, none⟩ = some (.int .u32 (s.level))) (by kernel_rfl) ?_
  change wpAnyH _ _ _ _ _ _ _ _ (w0.drew)
  refine yK 0 (.pointer (some ⟨x, 54, none⟩)) hS ?_
  refine yK 1 (.pointer (some ⟨x, 54, none⟩)) hS ?_
  refine yK 2 (.pointer (some ⟨x, 62, none⟩)) hS ?_
  refine yK 4 (.int .u32 (b)) hS ?_
  refine yK 5 (.pointer (some ⟨x, 54, none⟩)) hS ?_
  refine yK 6 (.pointer (some ⟨x, 54, none⟩)) hS ?_
  refine yK 7 (.pointer (some ⟨x, 64, none⟩)) hS ?_
  refine yU 8 (fun _ h => h) hS ?_
  refine yK 9 (.int .u32 (bits .and .u32 (b) (s.level))) hS ?_
  refine tA 3 (by kernel_rfl) (wpOp_step rfl fun K hK => ?_)
  go_simp
  refine hK _ _ ⟨hS, ?_⟩
  clear hK K
  refine yK 10 (.int .u32 (bits .or .u32 s.pend ((bits .and .u32 (b) (s.level))))) hS ?_
  refine yK 11 (.pointer (some ⟨x, 54, none⟩)) hS ?_
  refine yK 12 (.pointer (some ⟨x, 62, none⟩)) hS ?_
  refine tA 13 (by kernel_rfl) (wpOp_step rfl fun K hK => ?_)
  go_simp
  have P := HP.out.put_pend A (bits .or .u32 s.pend (bits .and .u32 b s.level))
  refine hK _ _ ⟨P.level, wpAnyH_done (by kernel_rfl) ?_ _⟩
  clear hK K
  go_wp2_with fail
  go_end0
  exact ⟨rfl, by rw [HE.out]; exact P.drawn 1, (O1.out.put (by simp) _).drawn 1⟩
set_option maxHeartbeats 4000000 in
set_option maxRecDepth 100000 in
theorem ccompl_1 (W : World) (x r : Nat) (s : CSt) (h : CodeAt W x r s) (A : x ≠ r) (v : Int) (v0 : 0 ≤ v) :
    Calls Tryz.prog 127 #[.pointer (some ⟨x, 54, none⟩), .int .i64 1, .int .u32 v] W (CP W x r (complC s s.en1 v)) := by
  have HF : Hid (CodeAt W x r s) := h
  by_cases h1 : v < 1
  · have HE : Hid (complC s s.en1 v = s) := by unfold Hid complC; rw [if_pos (.inl h1)]
    clear h
    go_enter Tryz.func127, Tryz.ntmps127
    go_wp2
    exact bodyPost_ret (v := .tuple #[]) (by simp [results, Tryz.results127, go_sem]) rfl ⟨rfl, by rw [HE.out]; exact HF.out, Offs.refl _ _⟩
  by_cases h7 : 7 < v
  · have HE : Hid (complC s s.en1 v = s) := by unfold Hid complC; rw [if_pos (.inr h7)]
    clear h
    go_enter Tryz.func127, Tryz.ntmps127
    go_wp2
    exact bodyPost_ret (v := .tuple #[]) (by simp [results, Tryz.results127, go_sem]) rfl ⟨rfl, by rw [HE.out]; exact HF.out, Offs.refl _ _⟩
  have HE : Hid (complC s s.en1 v = { s with served := bits .andNot .u32 s.served (bits .and .u32 (bits .and .u32 s.served s.en1) ((2 ^ v.toNat : Nat) : Int)), pend := bits .or .u32 s.pend (bits .and .u32 (bits .and .u32 (bits .and .u32 s.served s.en1) ((2 ^ v.toNat : Nat) : Int)) s.level) }) := by unfold Hid complC; rw [if_neg (by omega)]
  obtain ⟨m, rfl⟩ : ∃ m : Nat, v = m := ⟨v.toNat, by omega⟩
  have hk : (2 : Int) ^ m % 4294967296 = ((2 ^ m : Nat) : Int) := p2_int m (by omega)
  rw [show ((m : Int)).toNat = m from rfl] at HE
  generalize ((2 ^ m : Nat) : Int) = z at hk HE
  have c1 := h.served
  have c2 := h.en1
  have fz := h.fx
  clear h
  go_enter Tryz.func127, Tryz.ntmps127
  go_wp2_with fail
  go_quiet (fail)
  generalize hb : bits .and .u32 (bits .and .u32 s.served s.en1) z = b at HE ⊢
  go_wp2_with fail
  generalize hw0 : World.setCell (World.drewN W _) _ _ = w0
  have P1 : CodeAt w0 x r { s with served := bits .andNot .u32 s.served b } := by rw [← hw0]; exact (HF.out.drawn _).put_served A _
  have O1 : Hid (Offs [x, r] W w0) := by unfold Hid; rw [← hw0]; exact ((Offs.refl _ _).drawn _).put (by simp) _
  clear hw0
  have HP : Hid (CodeAt w0 x r { s with served := bits .andNot .u32 s.served b }) := P1
  have d1 : w0.cell? ⟨x, 62, none⟩ = some (.int .u32 s.pend) := P1.pend
  have fz2 := P1.fx
  have hS : w0.drew.cell? ⟨x, 64, none⟩ = some (.int .u32 (s.level)) := P1.level
  clear P1
  refine wp_region_held (S := fun w' => w'.cell? ⟨x, 64, none⟩ = some (.int .u32 (s.level))) (by kernel_rfl) ?_
  change wpAnyH _ _ _ _ _ _ _ _ (w0.drew)
  refine yK 0 (.pointer (some ⟨x, 54, none⟩)) hS ?_
  refine yK 1 (.pointer (some ⟨x, 54, none⟩)) hS ?_
  refine yK 2 (.pointer (some ⟨x, 62, none⟩)) hS ?_
  refine yK 4 (.int .u32 (b)) hS ?_
  refine yK 5 (.pointer (some ⟨x, 54, none⟩)) hS ?_
  refine yK 6 (.pointer (some ⟨x, 54, none⟩)) hS ?_
  refine yK 7 (.pointer (some ⟨x, 64, none⟩)) hS ?_
  refine yU 8 (fun _ h => h) hS ?_
  refine yK 9 (.int .u32 (bits .and .u32 (b) (s.level))) hS ?_
  refine tA 3 (by kernel_rfl) (wpOp_step rfl fun K hK => ?_)
  go_simp
  refine hK _ _ ⟨hS, ?_⟩
  clear hK K
  refine yK 10 (.int .u32 (bits .or .u32 s.pend ((bits .and .u32 (b) (s.level))))) hS ?_
  refine yK 11 (.pointer (some ⟨x, 54, none⟩)) hS ?_
  refine yK 12 (.pointer (some ⟨x, 62, none⟩)) hS ?_
  refine tA 13 (by kernel_rfl) (wpOp_step rfl fun K hK => ?_)
  go_simp
  have P := HP.out.put_pend A (bits .or .u32 s.pend (bits .and .u32 b s.level))
  refine hK _ _ ⟨P.level, wpAnyH_done (by kernel_rfl) ?_ _⟩
  clear hK K
  go_wp2_with fail
  go_end0
  exact ⟨rfl, by rw [HE.out]; exact P.drawn 1, (O1.out.put (by simp) _).drawn 1⟩
theorem wprio_yes (W : World) (x r : Nat) (s : CSt) (h : CodeAt W x r s) (A : x ≠ r) (a k : Nat) (ha : a = 8192 + 4 * k) (h7 : k ≤ 7) (v : Int) :
    Calls Tryz.prog 128 #[.pointer (some ⟨x, 54, none⟩), .int .u32 a, .int .u32 v] W fun e W' => e = .returned (.bool true) ∧ CodeAt W' x r (if a = 8192 then s else { s with prio := s.prio.set k (bits .and .u32 v 7) }) ∧ Offs [x, r] W W' := by
  have HF : Hid (CodeAt W x r s) := h
  have HS := psrc_yes W a k ha h7
  have c1 := h.prio k (by omega)
  have fz := h.fx
  have hk8 : (k : Int) < 8 := by omega
  by_cases h0 : k = 0
  · rw [if_pos (by omega)]
    subst h0
    clear h ha h7 c1
    go_enter Tryz.func128, Tryz.ntmps128
    go_wp2_with (go_at_call 126; refine HS.mono ?_; rintro e w1 ⟨rfl, rfl⟩)
    go_ret
    exact ⟨rfl, HF.out, Offs.refl _ _⟩
  · rw [if_neg (by omega)]
    have hn : ((k : Int) != 0) = true := by simp; omega
    have HK : Hid (k < 8) := by unfold Hid; omega
    clear h ha h7 h0
    go_enter Tryz.func128, Tryz.ntmps128
    go_wp2_with (go_at_call 126; refine HS.mono ?_; rintro e w1 ⟨rfl, hw⟩; rw [hw]; clear hw w1)
    go_ret
    exact ⟨rfl, HF.out.put_prio A k HK.out _, (Offs.refl _ _).put (by simp) _⟩
theorem wprio_no (W : World) (x a : Nat) (h : ¬ prC a) (v : Int) :
    Calls Tryz.prog 128 #[.pointer (some ⟨x, 54, none⟩), .int .u32 a, .int .u32 v] W fun e W' => e = .returned (.bool false) ∧ W' = W := by
  have HS := psrc_no W a h
  clear h
  go_enter Tryz.func128, Tryz.ntmps128
  go_wp2_with (go_at_call 126; refine HS.mono ?_; rintro e w1 ⟨rfl, hw⟩; rw [hw]; clear hw w1)
  go_ret
  exact ⟨rfl, rfl⟩
set_option maxHeartbeats 1000000 in
theorem linR_any (W : World) (x r : Nat) (s : CSt) (h : CodeAt W x r s) (A : x ≠ r) (a : Nat) :
    Calls Tryz.prog 93 #[.pointer (some ⟨x, 54, none⟩), .int .u32 a] W fun e W' => e = .returned (.tuple #[.int .u32 (linV s a).2.1, .bool (linV s a).2.2]) ∧ CodeAt W' x r (linV s a).1 ∧ Offs [x, r] W W' := by
  have HF : Hid (CodeAt W x r s) := h
  have K0 := cclaim_0 W x r s h A
  have K1 := cclaim_1 W x r s h A
  by_cases a8224 : a = 8224
  · subst a8224
    have c1 := h.pend
    clear h K0 K1
    go_enter Tryz.func93, Tryz.ntmps93
    go_wp2
    go_ret2
    exact ⟨rfl, HF.out, Offs.refl _ _⟩
  by_cases a8228 : a = 8228
  · subst a8228
    have c1 := h.en0
    clear h K0 K1
    go_enter Tryz.func93, Tryz.ntmps93
    go_wp2
    go_ret2
    exact ⟨rfl, HF.out, Offs.refl _ _⟩
  by_cases a8232 : a = 8232
  · subst a8232
    have c1 := h.en1
    clear h K0 K1
    go_enter Tryz.func93, Tryz.ntmps93
    go_wp2
    go_ret2
    exact ⟨rfl, HF.out, Offs.refl _ _⟩
  by_cases a8240 : a = 8240
  · subst a8240
    have c1 := h.li0
    clear h K0 K1
    go_enter Tryz.func93, Tryz.ntmps93
    go_wp2
    go_ret2
    exact ⟨rfl, HF.out, Offs.refl _ _⟩
  by_cases a8248 : a = 8248
  · subst a8248
    have c1 := h.li1
    clear h K0 K1
    go_enter Tryz.func93, Tryz.ntmps93
    go_wp2
    go_ret2
    exact ⟨rfl, HF.out, Offs.refl _ _⟩
  by_cases a8244 : a = 8244
  · subst a8244
    clear h
    go_enter Tryz.func93, Tryz.ntmps93
    go_wp2_with (go_at_call 125; refine K0.mono ?_; rintro e w1 ⟨rfl, h1, o1⟩)
    go_ret2
    exact ⟨rfl, h1, o1⟩
  by_cases a8252 : a = 8252
  · subst a8252
    clear h
    go_enter Tryz.func93, Tryz.ntmps93
    go_wp2_with (go_at_call 125; refine K1.mono ?_; rintro e w1 ⟨rfl, h1, o1⟩)
    go_ret2
    exact ⟨rfl, h1, o1⟩
  clear K0 K1
  have b8224 : ((a : Int) == 8224) = false := by simp; omega
  have b8228 : ((a : Int) == 8228) = false := by simp; omega
  have b8232 : ((a : Int) == 8232) = false := by simp; omega
  have b8240 : ((a : Int) == 8240) = false := by simp; omega
  have b8248 : ((a : Int) == 8248) = false := by simp; omega
  have b8244 : ((a : Int) == 8244) = false := by simp; omega
  have b8252 : ((a : Int) == 8252) = false := by simp; omega
  by_cases hp : prC a
  · obtain ⟨k, hk, h7⟩ : ∃ k, a = 8192 + 4 * k ∧ k ≤ 7 := ⟨(a - 8192) / 4, by unfold prC at hp; omega, by unfold prC at hp; omega⟩
    have HE : Hid (linV s a = (s, s.prio[k]?.getD 0, true)) := by
      unfold Hid linV
      rw [if_neg a8224, if_neg a8228, if_neg a8232, if_neg a8240, if_neg a8248, if_neg a8244, if_neg a8252, if_pos hp, show (a - 8192) / 4 = k by omega]
    have HS := psrc_yes W a k hk h7
    have c1 := h.prio k (by omega)
    have hk8 : (k : Int) < 8 := by omega
    clear h hk h7 hp a8224 a8228 a8232 a8240 a8248 a8244 a8252
    go_enter Tryz.func93, Tryz.ntmps93
    go_wp2_with (go_at_call 126; refine HS.mono ?_; rintro e w1 ⟨rfl, hw⟩; rw [hw]; clear hw w1)
    go_ret2
    exact ⟨by rw [HE.out]; rfl, by rw [HE.out]; exact HF.out, Offs.refl _ _⟩
  · have HE : Hid (linV s a = (s, 0, false)) := by
      unfold Hid linV
      rw [if_neg a8224, if_neg a8228, if_neg a8232, if_neg a8240, if_neg a8248, if_neg a8244, if_neg a8252, if_neg hp]
    have HS := psrc_no W a hp
    clear h hp a8224 a8228 a8232 a8240 a8248 a8244 a8252
    go_enter Tryz.func93, Tryz.ntmps93
    go_wp2_with (go_at_call 126; refine HS.mono ?_; rintro e w1 ⟨rfl, hw⟩; rw [hw]; clear hw w1)
    go_ret2
    exact ⟨by rw [HE.out]; rfl, by rw [HE.out]; exact HF.out, Offs.refl _ _⟩
set_option maxHeartbeats 1000000 in
theorem linW_any (W : World) (x r : Nat) (s : CSt) (h : CodeAt W x r s) (A : x ≠ r) (a : Nat) (v : Int) (v0 : 0 ≤ v) :
    Calls Tryz.prog 96 #[.pointer (some ⟨x, 54, none⟩), .int .u32 a, .int .u32 v] W fun e W' => e = .returned (.bool (linW s a v).2) ∧ CodeAt W' x r (linW s a v).1 ∧ Offs [x, r] W W' := by
  have HF : Hid (CodeAt W x r s) := h
  have K0 := ccompl_0 W x r s h A v v0
  have K1 := ccompl_1 W x r s h A v v0
  have fz := h.fx
  clear v0
  by_cases a8224 : a = 8224
  · subst a8224
    clear h K0 K1
    go_enter Tryz.func96, Tryz.ntmps96
    go_wp2
    go_ret
    exact ⟨rfl, HF.out, Offs.refl _ _⟩
  by_cases a8228 : a = 8228
  · subst a8228
    have c1 := h.en0
    clear h K0 K1
    go_enter Tryz.func96, Tryz.ntmps96
    go_wp2
    go_ret
    exact ⟨rfl, HF.out.put_en0 A _, (Offs.refl _ _).put (by simp) _⟩
  by_cases a8232 : a = 8232
  · subst a8232
    have c1 := h.en1
    clear h K0 K1
    go_enter Tryz.func96, Tryz.ntmps96
    go_wp2
    go_ret
    exact ⟨rfl, HF.out.put_en1 A _, (Offs.refl _ _).put (by simp) _⟩
  by_cases a8240 : a = 8240
  · subst a8240
    have c1 := h.li0
    clear h K0 K1
    go_enter Tryz.func96, Tryz.ntmps96
    go_wp2
    go_ret
    exact ⟨rfl, HF.out.put_li0 A _, (Offs.refl _ _).put (by simp) _⟩
  by_cases a8248 : a = 8248
  · subst a8248
    have c1 := h.li1
    clear h K0 K1
    go_enter Tryz.func96, Tryz.ntmps96
    go_wp2
    go_ret
    exact ⟨rfl, HF.out.put_li1 A _, (Offs.refl _ _).put (by simp) _⟩
  by_cases a8244 : a = 8244
  · subst a8244
    clear h
    go_enter Tryz.func96, Tryz.ntmps96
    go_wp2_with (go_at_call 127; refine K0.mono ?_; rintro e w1 ⟨rfl, h1, o1⟩)
    go_ret
    exact ⟨rfl, h1, o1⟩
  by_cases a8252 : a = 8252
  · subst a8252
    clear h
    go_enter Tryz.func96, Tryz.ntmps96
    go_wp2_with (go_at_call 127; refine K1.mono ?_; rintro e w1 ⟨rfl, h1, o1⟩)
    go_ret
    exact ⟨rfl, h1, o1⟩
  clear K0 K1
  have b8224 : ((a : Int) == 8224) = false := by simp; omega
  have b8228 : ((a : Int) == 8228) = false := by simp; omega
  have b8232 : ((a : Int) == 8232) = false := by simp; omega
  have b8240 : ((a : Int) == 8240) = false := by simp; omega
  have b8248 : ((a : Int) == 8248) = false := by simp; omega
  have b8244 : ((a : Int) == 8244) = false := by simp; omega
  have b8252 : ((a : Int) == 8252) = false := by simp; omega
  by_cases hp : prC a
  · obtain ⟨k, hk, h7⟩ : ∃ k, a = 8192 + 4 * k ∧ k ≤ 7 := ⟨(a - 8192) / 4, by unfold prC at hp; omega, by unfold prC at hp; omega⟩
    have HE : Hid (linW s a v = (if a = 8192 then s else { s with prio := s.prio.set k (bits .and .u32 v 7) }, true)) := by
      unfold Hid linW
      rw [if_neg a8224, if_neg a8228, if_neg a8232, if_neg a8240, if_neg a8248, if_neg a8244, if_neg a8252, if_pos hp, show (a - 8192) / 4 = k by omega]
    have HS := wprio_yes W x r s h A a k hk h7 v
    clear h hk h7 hp a8224 a8228 a8232 a8240 a8248 a8244 a8252
    go_enter Tryz.func96, Tryz.ntmps96
    go_wp2_with (go_at_call 128; refine HS.mono ?_; rintro e w1 ⟨rfl, h1, o1⟩)
    go_ret
    exact ⟨by rw [HE.out]; rfl, by rw [HE.out]; exact h1, o1⟩
  · have HE : Hid (linW s a v = (s, false)) := by
      unfold Hid linW
      rw [if_neg a8224, if_neg a8228, if_neg a8232, if_neg a8240, if_neg a8248, if_neg a8244, if_neg a8252, if_neg hp]
    have HS := wprio_no W x a hp v
    clear h hp a8224 a8228 a8232 a8240 a8248 a8244 a8252
    go_enter Tryz.func96, Tryz.ntmps96
    go_wp2_with (go_at_call 128; refine HS.mono ?_; rintro e w1 ⟨rfl, hw⟩; rw [hw]; clear hw w1)
    go_ret
    exact ⟨by rw [HE.out]; rfl, by rw [HE.out]; exact HF.out, Offs.refl _ _⟩
end Go.Proofs.YteiideeechnekaaGreatDoor

/-
  The code's calls from outside: Read, Write, Line, Tick.
-/
namespace Go.Proofs.YteiideeechnekaaGreatDoor
open Go.RowKit

def readC (c : CSt) (a : Nat) (w : Int) : CSt × Int × Bool :=
  if w = 1 then (if a + 1 ≤ c.ram.length then (c, leV c.ram a 1, true) else (c, 0, false))
  else if w = 2 then (if a + 2 ≤ c.ram.length then (c, leV c.ram a 2, true) else (c, 0, false))
  else if w = 4 then (if a + 4 ≤ c.ram.length then (c, leV c.ram a 4, true) else devC c a)
  else (c, 0, false)
def writeC (c : CSt) (a : Nat) (w v : Int) : CSt × Bool :=
  if w = 1 then (if a + 1 ≤ c.ram.length then ({ c with ram := stV c.ram a v 1 }, true) else (c, false))
  else if w = 2 then (if a + 2 ≤ c.ram.length then ({ c with ram := stV c.ram a v 2 }, true) else (c, false))
  else if w = 4 then (if a + 4 ≤ c.ram.length then ({ c with ram := stV c.ram a v 4 }, true) else setD c a v)
  else (c, false)
theorem inRam_odd (W : World) (x a : Nat) (w : Int) (h1 : (w != 1) = true) (h2 : (w != 2) = true) (h4 : (w != 4) = true) :
    Calls Tryz.prog 108 #[.pointer (some ⟨x, 0, none⟩), .int .u32 a, .int .i64 w] W fun e W' => e = .returned (.bool false) ∧ ∃ q, W' = W.drewN q := by
  go_enter Tryz.func108, Tryz.ntmps108
  go_wp2
  go_ret
  exact ⟨rfl, 0, rfl⟩
theorem inRam_out_1 (W : World) (x r : Nat) (s : CSt) (h : CodeAt W x r s) (a : Nat) (h32 : a < 4294967296) (ha : ¬ a + 1 ≤ s.ram.length) :
    Calls Tryz.prog 108 #[.pointer (some ⟨x, 0, none⟩), .int .u32 a, .int .i64 1] W fun e W' => e = .returned (.bool false) ∧ ∃ q, W' = W.drewN q := by
  have c1 := h.ram
  have hl := h.bytes.2.1
  have ha' : (s.ram.length : Int) < (a : Int) + 1 := by omega
  have h32' : (a : Int) < 4294967296 := by omega
  have HD : Hid (decide ((a : Int) + 1 ≤ s.ram.length) = false) := decide_eq_false (by omega)
  clear h ha ha'
  go_enter Tryz.func108, Tryz.ntmps108
  go_wp2
  go_ret
  refine ⟨?_, 0, rfl⟩
  show Ending.returned (.bool (decide ((a : Int) + 1 ≤ s.ram.length))) = _
  rw [HD.out]
theorem inRam_out_2 (W : World) (x r : Nat) (s : CSt) (h : CodeAt W x r s) (a : Nat) (h32 : a < 4294967296) (ha : ¬ a + 2 ≤ s.ram.length) :
    Calls Tryz.prog 108 #[.pointer (some ⟨x, 0, none⟩), .int .u32 a, .int .i64 2] W fun e W' => e = .returned (.bool false) ∧ ∃ q, W' = W.drewN q := by
  have c1 := h.ram
  have hl := h.bytes.2.1
  have ha' : (s.ram.length : Int) < (a : Int) + 2 := by omega
  have h32' : (a : Int) < 4294967296 := by omega
  have HD : Hid (decide ((a : Int) + 2 ≤ s.ram.length) = false) := decide_eq_false (by omega)
  clear h ha ha'
  go_enter Tryz.func108, Tryz.ntmps108
  go_wp2
  go_ret
  refine ⟨?_, 0, rfl⟩
  show Ending.returned (.bool (decide ((a : Int) + 2 ≤ s.ram.length))) = _
  rw [HD.out]
theorem inRam_out_4 (W : World) (x r : Nat) (s : CSt) (h : CodeAt W x r s) (a : Nat) (h32 : a < 4294967296) (ha : ¬ a + 4 ≤ s.ram.length) :
    Calls Tryz.prog 108 #[.pointer (some ⟨x, 0, none⟩), .int .u32 a, .int .i64 4] W fun e W' => e = .returned (.bool false) ∧ ∃ q, W' = W.drewN q := by
  have c1 := h.ram
  have hl := h.bytes.2.1
  have ha' : (s.ram.length : Int) < (a : Int) + 4 := by omega
  have h32' : (a : Int) < 4294967296 := by omega
  have HD : Hid (decide ((a : Int) + 4 ≤ s.ram.length) = false) := decide_eq_false (by omega)
  clear h ha ha'
  go_enter Tryz.func108, Tryz.ntmps108
  go_wp2
  go_ret
  refine ⟨?_, 0, rfl⟩
  show Ending.returned (.bool (decide ((a : Int) + 4 ≤ s.ram.length))) = _
  rw [HD.out]
theorem loadRam_no (W : World) (x a : Nat) (w : Int) (HI : Calls Tryz.prog 108 #[.pointer (some ⟨x, 0, none⟩), .int .u32 a, .int .i64 w] W fun e W' => e = .returned (.bool false) ∧ ∃ q, W' = W.drewN q) :
    Calls Tryz.prog 78 #[.pointer (some ⟨x, 0, none⟩), .int .u32 a, .int .i64 w] W fun e W' => e = .returned (.tuple #[.int .u32 0, .bool false]) ∧ ∃ q, W' = W.drewN q := by
  go_enter Tryz.func78, Tryz.ntmps78
  go_wp2_with (go_at_call 108; refine HI.mono ?_; rintro e w' ⟨rfl, q0, rfl⟩)
  go_ret2
  exact ⟨rfl, q0, rfl⟩
theorem storeRam_no (W : World) (x a : Nat) (w v : Int) (HI : Calls Tryz.prog 108 #[.pointer (some ⟨x, 0, none⟩), .int .u32 a, .int .i64 w] W fun e W' => e = .returned (.bool false) ∧ ∃ q, W' = W.drewN q) :
    Calls Tryz.prog 94 #[.pointer (some ⟨x, 0, none⟩), .int .u32 a, .int .i64 w, .int .u32 v] W fun e W' => e = .returned (.bool false) ∧ ∃ q, W' = W.drewN q := by
  go_enter Tryz.func94, Tryz.ntmps94
  go_wp2_with (go_at_call 108; refine HI.mono ?_; rintro e w' ⟨rfl, q0, rfl⟩)
  go_ret
  exact ⟨rfl, q0, rfl⟩
-- Read
theorem cread_in (W : World) (x a : Nat) (w v : Int) (HL : Calls Tryz.prog 78 #[.pointer (some ⟨x, 0, none⟩), .int .u32 a, .int .i64 w] W fun e W' => e = .returned (.tuple #[.int .u32 v, .bool true]) ∧ ∃ q, W' = W.drewN q) :
    Calls Tryz.prog 46 #[.pointer (some ⟨x, 0, none⟩), .int .u32 a, .int .i64 w] W fun e W' => e = .returned (.tuple #[.int .u32 v, .bool true]) ∧ ∃ q, W' = W.drewN q := by
  go_enter Tryz.func46, Tryz.ntmps46
  go_wp2_with (go_at_call 78; refine HL.mono ?_; rintro e w' ⟨rfl, q0, rfl⟩)
  go_ret2
  exact ⟨rfl, q0, rfl⟩
theorem cread_no (W : World) (x a : Nat) (w : Int) (h4 : (w != 4) = true) (HL : Calls Tryz.prog 78 #[.pointer (some ⟨x, 0, none⟩), .int .u32 a, .int .i64 w] W fun e W' => e = .returned (.tuple #[.int .u32 0, .bool false]) ∧ ∃ q, W' = W.drewN q) :
    Calls Tryz.prog 46 #[.pointer (some ⟨x, 0, none⟩), .int .u32 a, .int .i64 w] W fun e W' => e = .returned (.tuple #[.int .u32 0, .bool false]) ∧ ∃ q, W' = W.drewN q := by
  go_enter Tryz.func46, Tryz.ntmps46
  go_wp2_with (go_at_call 78; refine HL.mono ?_; rintro e w' ⟨rfl, q0, rfl⟩)
  go_ret2
  exact ⟨rfl, q0, rfl⟩
theorem cread_4 (W : World) (x r : Nat) (s : CSt) (h : CodeAt W x r s) (A : x ≠ r) (a : Nat) (HL : Calls Tryz.prog 78 #[.pointer (some ⟨x, 0, none⟩), .int .u32 a, .int .i64 4] W fun e W' => e = .returned (.tuple #[.int .u32 0, .bool false]) ∧ ∃ q, W' = W.drewN q) :
    Calls Tryz.prog 46 #[.pointer (some ⟨x, 0, none⟩), .int .u32 a, .int .i64 4] W fun e W' => e = .returned (.tuple #[.int .u32 (devC s a).2.1, .bool (devC s a).2.2]) ∧ CodeAt W' x r (devC s a).1 ∧ Offs [x, r] W W' := by
  have HF : Hid (CodeAt W x r s) := h
  have HK : Hid (∀ q, Calls Tryz.prog 92 #[.pointer (some ⟨x, 51, none⟩), .int .u32 a] (W.drewN q) fun e W' => e = .returned (.tuple #[.int .u32 (clkV s a).1, .bool (clkV s a).2]) ∧ W' = W.drewN q) := fun q => clkR_any _ x r s (h.drawn q) a
  have HC : Hid (∀ q, Calls Tryz.prog 93 #[.pointer (some ⟨x, 54, none⟩), .int .u32 a] (W.drewN q) fun e W' => e = .returned (.tuple #[.int .u32 (linV s a).2.1, .bool (linV s a).2.2]) ∧ CodeAt W' x r (linV s a).1 ∧ Offs [x, r] (W.drewN q) W') := fun q => linR_any _ x r s (h.drawn q) A a
  have HE : Hid (devC s a = if (clkV s a).2 then (s, clkV s a) else linV s a) := rfl
  clear h
  obtain ⟨v, ok, hD⟩ : ∃ v ok, clkV s a = (v, ok) := ⟨_, _, rfl⟩
  rw [hD] at HK HE
  clear hD
  cases ok
  · have HE2 : Hid (devC s a = linV s a) := HE.out
    go_enter Tryz.func46, Tryz.ntmps46
    go_wp2_with (first | (go_at_call 78; refine HL.mono ?_; rintro e w' ⟨rfl, q0, rfl⟩) | (go_at_call 92; refine (HK.out _).mono ?_; rintro e w2 ⟨rfl, rfl⟩) | (go_at_call 93; refine (HC.out _).mono ?_; rintro e w2 ⟨rfl, h2, o2⟩))
    go_ret2
    exact ⟨by rw [HE2.out]; rfl, by rw [HE2.out]; exact h2, ((Offs.refl _ _).drawn _).trans o2⟩
  · have HE2 : Hid (devC s a = (s, v, true)) := HE.out
    go_enter Tryz.func46, Tryz.ntmps46
    go_wp2_with (first | (go_at_call 78; refine HL.mono ?_; rintro e w' ⟨rfl, q0, rfl⟩) | (go_at_call 92; refine (HK.out _).mono ?_; rintro e w2 ⟨rfl, rfl⟩))
    go_ret2
    exact ⟨by rw [HE2.out]; rfl, by rw [HE2.out]; exact HF.out.drawn _, (Offs.refl _ _).drawn _⟩
theorem cread_any (W : World) (x r : Nat) (s : CSt) (h : CodeAt W x r s) (A : x ≠ r) (a : Nat) (ha : a < 4294967296) (w : Int) :
    Calls Tryz.prog 46 #[.pointer (some ⟨x, 0, none⟩), .int .u32 a, .int .i64 w] W fun e W' => e = .returned (.tuple #[.int .u32 (readC s a w).2.1, .bool (readC s a w).2.2]) ∧ CodeAt W' x r (readC s a w).1 ∧ Offs [x, r] W W' := by
  unfold readC
  by_cases w1 : w = 1
  · rw [if_pos w1]
    subst w1
    by_cases ho : a + 1 ≤ s.ram.length
    · rw [if_pos ho]
      refine (cread_in W x a 1 _ (loadRam_1 W x r s h a ho)).mono ?_
      rintro e w' ⟨rfl, q, rfl⟩
      exact ⟨rfl, h.drawn q, (Offs.refl _ _).drawn q⟩
    · rw [if_neg ho]
      refine (cread_no W x a 1 (by decide) (loadRam_no W x a 1 (inRam_out_1 W x r s h a ha ho))).mono ?_
      rintro e w' ⟨rfl, q, rfl⟩
      exact ⟨rfl, h.drawn q, (Offs.refl _ _).drawn q⟩
  by_cases w2 : w = 2
  · rw [if_neg w1, if_pos w2]
    subst w2
    by_cases ho : a + 2 ≤ s.ram.length
    · rw [if_pos ho]
      refine (cread_in W x a 2 _ (loadRam_2 W x r s h a ho)).mono ?_
      rintro e w' ⟨rfl, q, rfl⟩
      exact ⟨rfl, h.drawn q, (Offs.refl _ _).drawn q⟩
    · rw [if_neg ho]
      refine (cread_no W x a 2 (by decide) (loadRam_no W x a 2 (inRam_out_2 W x r s h a ha ho))).mono ?_
      rintro e w' ⟨rfl, q, rfl⟩
      exact ⟨rfl, h.drawn q, (Offs.refl _ _).drawn q⟩
  by_cases w4 : w = 4
  · rw [if_neg w1, if_neg w2, if_pos w4]
    subst w4
    by_cases ho : a + 4 ≤ s.ram.length
    · rw [if_pos ho]
      refine (cread_in W x a 4 _ (loadRam_4 W x r s h a ho)).mono ?_
      rintro e w' ⟨rfl, q, rfl⟩
      exact ⟨rfl, h.drawn q, (Offs.refl _ _).drawn q⟩
    · rw [if_neg ho]
      exact cread_4 W x r s h A a (loadRam_no W x a 4 (inRam_out_4 W x r s h a ha ho))
  · rw [if_neg w1, if_neg w2, if_neg w4]
    refine (cread_no W x a w (by simpa using w4) (loadRam_no W x a w (inRam_odd W x a w (by simpa using w1) (by simpa using w2) (by simpa using w4)))).mono ?_
    rintro e w' ⟨rfl, q, rfl⟩
    exact ⟨rfl, h.drawn q, (Offs.refl _ _).drawn q⟩
-- Write
theorem cwrite_in (W : World) (x : Nat) (a : Nat) (w v : Int) (Q : World → Prop) (HL : Calls Tryz.prog 94 #[.pointer (some ⟨x, 0, none⟩), .int .u32 a, .int .i64 w, .int .u32 v] W fun e W' => e = .returned (.bool true) ∧ Q W') :
    Calls Tryz.prog 47 #[.pointer (some ⟨x, 0, none⟩), .int .u32 a, .int .i64 w, .int .u32 v] W fun e W' => e = .returned (.bool true) ∧ Q W' := by
  go_enter Tryz.func47, Tryz.ntmps47
  go_wp2_with (go_at_call 94; refine HL.mono ?_; rintro e w' ⟨rfl, hq⟩)
  go_ret
  exact ⟨rfl, hq⟩
theorem cwrite_no (W : World) (x a : Nat) (w v : Int) (h4 : (w != 4) = true) (HL : Calls Tryz.prog 94 #[.pointer (some ⟨x, 0, none⟩), .int .u32 a, .int .i64 w, .int .u32 v] W fun e W' => e = .returned (.bool false) ∧ ∃ q, W' = W.drewN q) :
    Calls Tryz.prog 47 #[.pointer (some ⟨x, 0, none⟩), .int .u32 a, .int .i64 w, .int .u32 v] W fun e W' => e = .returned (.bool false) ∧ ∃ q, W' = W.drewN q := by
  go_enter Tryz.func47, Tryz.ntmps47
  go_wp2_with (go_at_call 94; refine HL.mono ?_; rintro e w' ⟨rfl, q0, rfl⟩)
  go_ret
  exact ⟨rfl, q0, rfl⟩
theorem cwrite_4 (W : World) (x r : Nat) (s : CSt) (h : CodeAt W x r s) (A : x ≠ r) (a : Nat) (v : Int) (v0 : 0 ≤ v) (HL : Calls Tryz.prog 94 #[.pointer (some ⟨x, 0, none⟩), .int .u32 a, .int .i64 4, .int .u32 v] W fun e W' => e = .returned (.bool false) ∧ ∃ q, W' = W.drewN q) :
    Calls Tryz.prog 47 #[.pointer (some ⟨x, 0, none⟩), .int .u32 a, .int .i64 4, .int .u32 v] W fun e W' => e = .returned (.bool (setD s a v).2) ∧ CodeAt W' x r (setD s a v).1 ∧ Offs [x, r] W W' := by
  have HK : Hid (∀ q, Calls Tryz.prog 95 #[.pointer (some ⟨x, 51, none⟩), .int .u32 a, .int .u32 v] (W.drewN q) fun e W' => e = .returned (.bool (clkW s a v).2) ∧ CodeAt W' x r (clkW s a v).1 ∧ Offs [x, r] (W.drewN q) W') := fun q => clkW_any _ x r s (h.drawn q) A a v
  have HC : Hid (∀ w, CodeAt w x r s → Calls Tryz.prog 96 #[.pointer (some ⟨x, 54, none⟩), .int .u32 a, .int .u32 v] w fun e W' => e = .returned (.bool (linW s a v).2) ∧ CodeAt W' x r (linW s a v).1 ∧ Offs [x, r] w W') := fun w hw => linW_any _ x r s hw A a v v0
  have HE : Hid (setD s a v = if (clkW s a v).2 then clkW s a v else linW s a v) := rfl
  have HN : Hid ((clkW s a v).2 = false → (clkW s a v).1 = s) := fun e => by
    unfold clkW at e ⊢
    by_cases a4096 : a = 4096
    · rw [if_pos a4096] at e; cases e
    by_cases a4100 : a = 4100
    · rw [if_neg a4096, if_pos a4100] at e; cases e
    by_cases a4104 : a = 4104
    · rw [if_neg a4096, if_neg a4100, if_pos a4104] at e; cases e
    rw [if_neg a4096, if_neg a4100, if_neg a4104]
  clear h v0
  obtain ⟨s', ok, hD⟩ : ∃ s' ok, clkW s a v = (s', ok) := ⟨_, _, rfl⟩
  rw [hD] at HK HE HN
  clear hD
  cases ok
  · obtain rfl : s' = s := HN.out rfl
    have HE2 : Hid (setD s' a v = linW s' a v) := HE.out
    go_enter Tryz.func47, Tryz.ntmps47
    go_wp2_with (first | (go_at_call 94; refine HL.mono ?_; rintro e w' ⟨rfl, q0, rfl⟩) | (go_at_call 95; refine (HK.out _).mono ?_; rintro e w2 ⟨rfl, h2, o2⟩) | (go_at_call 96; refine (HC.out _ h2).mono ?_; rintro e w3 ⟨rfl, h3, o3⟩))
    go_ret
    exact ⟨by rw [HE2.out]; rfl, by rw [HE2.out]; exact h3, (((Offs.refl _ _).drawn _).trans o2).trans o3⟩
  · have HE2 : Hid (setD s a v = (s', true)) := HE.out
    go_enter Tryz.func47, Tryz.ntmps47
    go_wp2_with (first | (go_at_call 94; refine HL.mono ?_; rintro e w' ⟨rfl, q0, rfl⟩) | (go_at_call 95; refine (HK.out _).mono ?_; rintro e w2 ⟨rfl, h2, o2⟩))
    go_ret
    exact ⟨by rw [HE2.out]; rfl, by rw [HE2.out]; exact h2, ((Offs.refl _ _).drawn _).trans o2⟩
theorem cwrite_any (W : World) (x r : Nat) (s : CSt) (h : CodeAt W x r s) (A : x ≠ r) (a : Nat) (ha : a < 4294967296) (w v : Int) (v0 : 0 ≤ v) (v1 : v < 4294967296) :
    Calls Tryz.prog 47 #[.pointer (some ⟨x, 0, none⟩), .int .u32 a, .int .i64 w, .int .u32 v] W fun e W' => e = .returned (.bool (writeC s a w v).2) ∧ CodeAt W' x r (writeC s a w v).1 ∧ Offs [x, r] W W' := by
  unfold writeC
  by_cases w1 : w = 1
  · rw [if_pos w1]
    subst w1
    by_cases ho : a + 1 ≤ s.ram.length
    · rw [if_pos ho]
      exact cwrite_in W x a 1 v _ (storeRam_1 W x r s h A a v v0 v1 ho)
    · rw [if_neg ho]
      refine (cwrite_no W x a 1 v (by decide) (storeRam_no W x a 1 v (inRam_out_1 W x r s h a ha ho))).mono ?_
      rintro e w' ⟨rfl, q, rfl⟩
      exact ⟨rfl, h.drawn q, (Offs.refl _ _).drawn q⟩
  by_cases w2 : w = 2
  · rw [if_neg w1, if_pos w2]
    subst w2
    by_cases ho : a + 2 ≤ s.ram.length
    · rw [if_pos ho]
      exact cwrite_in W x a 2 v _ (storeRam_2 W x r s h A a v v0 v1 ho)
    · rw [if_neg ho]
      refine (cwrite_no W x a 2 v (by decide) (storeRam_no W x a 2 v (inRam_out_2 W x r s h a ha ho))).mono ?_
      rintro e w' ⟨rfl, q, rfl⟩
      exact ⟨rfl, h.drawn q, (Offs.refl _ _).drawn q⟩
  by_cases w4 : w = 4
  · rw [if_neg w1, if_neg w2, if_pos w4]
    subst w4
    by_cases ho : a + 4 ≤ s.ram.length
    · rw [if_pos ho]
      exact cwrite_in W x a 4 v _ (storeRam_4 W x r s h A a v v0 v1 ho)
    · rw [if_neg ho]
      exact cwrite_4 W x r s h A a v v0 (storeRam_no W x a 4 v (inRam_out_4 W x r s h a ha ho))
  · rw [if_neg w1, if_neg w2, if_neg w4]
    refine (cwrite_no W x a w v (by simpa using w4) (storeRam_no W x a w v (inRam_odd W x a w (by simpa using w1) (by simpa using w2) (by simpa using w4)))).mono ?_
    rintro e w' ⟨rfl, q, rfl⟩
    exact ⟨rfl, h.drawn q, (Offs.refl _ _).drawn q⟩
-- Line, Tick
theorem hline_any (W : World) (x r : Nat) (s : CSt) (h : CodeAt W x r s) (A : x ≠ r) (k : Nat) (h1 : 1 ≤ k) (h7 : k ≤ 7) (hi : Bool) :
    Calls Tryz.prog 44 #[.pointer (some ⟨x, 0, none⟩), .int .i64 k, .bool hi] W (CP W x r (lineC s k hi)) := by
  have HL := cline_any W x r s h A k h1 h7 hi
  clear h h1 h7
  go_enter Tryz.func44, Tryz.ntmps44
  go_wp2_with (go_at_call 90; refine HL.mono ?_; rintro e w' ⟨rfl, h2, o2⟩)
  go_end0
  exact ⟨rfl, h2, o2⟩
theorem hline_no (W : World) (x : Nat) (k : Int) (hi : Bool) (hk : k < 1 ∨ 7 < k) :
    Calls Tryz.prog 44 #[.pointer (some ⟨x, 0, none⟩), .int .i64 k, .bool hi] W fun e W' => e = .returned (.tuple #[]) ∧ W' = W := by
  have HL := cline_no W x k hi hk
  clear hk
  go_enter Tryz.func44, Tryz.ntmps44
  go_wp2_with (go_at_call 90; refine HL.mono ?_; rintro e w' ⟨rfl, rfl⟩)
  go_end0
  exact ⟨rfl, rfl⟩
theorem htick_any (W : World) (x r : Nat) (s : CSt) (h : CodeAt W x r s) (A : x ≠ r) :
    Calls Tryz.prog 45 #[.pointer (some ⟨x, 0, none⟩)] W (CP W x r (tickC s)) := by
  have HL := ctick_any W x r s h A
  clear h
  go_enter Tryz.func45, Tryz.ntmps45
  go_wp2_with (go_at_call 91; refine HL.mono ?_; rintro e w' ⟨rfl, h2, o2⟩)
  go_end0
  exact ⟨rfl, h2, o2⟩
end Go.Proofs.YteiideeechnekaaGreatDoor
