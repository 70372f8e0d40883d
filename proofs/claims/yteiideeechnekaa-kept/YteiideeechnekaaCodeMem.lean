/-
  The code's inRam, loadRam and storeRam, within the memory.
-/
import Derived.Test.YteiideeechnekaaCodePut
import Derived.Test.YteiideeechnekaaMach
import Derived.Deep.RegionHeld3
namespace Go.Proofs.Yteiideeechnekaa
open Go.RowKit

theorem inRam_1 (W : World) (x r : Nat) (s : CSt) (h : CodeAt W x r s) (a : Nat) (ha : a + 1 ≤ s.ram.length) :
    Calls Try.prog 38 #[.pointer (some ⟨x, 0, none⟩), .int .u32 a, .int .i64 1] W fun e W' => e = .returned (.bool true) ∧ ∃ q, W' = W.drewN q := by
  have c1 := h.ram
  have hl := h.bytes.2.1
  have ha' : (a : Int) + 1 ≤ s.ram.length := by omega
  clear h
  go_enter Try.func38, Try.ntmps38
  go_wp2
  go_ret
  exact ⟨rfl, 0, rfl⟩
theorem inRam_2 (W : World) (x r : Nat) (s : CSt) (h : CodeAt W x r s) (a : Nat) (ha : a + 2 ≤ s.ram.length) :
    Calls Try.prog 38 #[.pointer (some ⟨x, 0, none⟩), .int .u32 a, .int .i64 2] W fun e W' => e = .returned (.bool true) ∧ ∃ q, W' = W.drewN q := by
  have c1 := h.ram
  have hl := h.bytes.2.1
  have ha' : (a : Int) + 2 ≤ s.ram.length := by omega
  clear h
  go_enter Try.func38, Try.ntmps38
  go_wp2
  go_ret
  exact ⟨rfl, 0, rfl⟩
theorem inRam_4 (W : World) (x r : Nat) (s : CSt) (h : CodeAt W x r s) (a : Nat) (ha : a + 4 ≤ s.ram.length) :
    Calls Try.prog 38 #[.pointer (some ⟨x, 0, none⟩), .int .u32 a, .int .i64 4] W fun e W' => e = .returned (.bool true) ∧ ∃ q, W' = W.drewN q := by
  have c1 := h.ram
  have hl := h.bytes.2.1
  have ha' : (a : Int) + 4 ≤ s.ram.length := by omega
  clear h
  go_enter Try.func38, Try.ntmps38
  go_wp2
  go_ret
  exact ⟨rfl, 0, rfl⟩

set_option maxHeartbeats 1000000 in
theorem loadRam_1 (W : World) (x r : Nat) (s : CSt) (h : CodeAt W x r s) (a : Nat) (ha : a + 1 ≤ s.ram.length) :
    Calls Try.prog 27 #[.pointer (some ⟨x, 0, none⟩), .int .u32 a, .int .i64 1] W fun e W' => e = .returned (.tuple #[.int .u32 (leV s.ram a 1), .bool true]) ∧ ∃ q, W' = W.drewN q := by
  have HF : Hid (CodeAt W x r s) := h
  have c1 := h.ram
  have hl := h.bytes.2.1
  have ha' : (a : Int) + 1 ≤ s.ram.length := by omega
  have HC : Hid (∀ i, i < s.ram.length → W.cell? ⟨r, i, none⟩ = some (.int .u8 (s.ram[i]?.getD 0))) := fun i hi => by rw [h.bytes.room.cell i hi]; simp [List.getD]
  have HB : Hid (Byt s.ram) := h.bytes.2.2
  clear h
  go_enter Try.func27, Try.ntmps27
  go_wp2_with (go_at_call 38; refine (inRam_1 _ x r s HF.out a ha).mono ?_; rintro e w' ⟨rfl, q0, rfl⟩)
  go_loopw [8, 9] (fun v i wr => ∃ k q : Nat, ∃ V : Int, k ≤ 1 ∧ v = .int .u32 V ∧ i = .int .i64 (0 - (k : Int)) ∧ wr = W.drewN q ∧ Hid (V = leV s.ram (a + 1 - k) k) ∧ 0 ≤ V ∧ V < 256 ^ k) (fun _ i _ => (intOf i + 1).toNat)
  case atStart => exact ⟨0, q0, 0, by decide, rfl, by simp, rfl, rfl, by decide, by decide⟩
  case round =>
    obtain ⟨k, q, V, hk, rfl, rfl, rfl, HV, V0, V1⟩ := hrel
    by_cases hlt : k < 1
    · have hk4 : k = 0 := by omega
      obtain rfl := hk4
      · have c2 : W.cell? ⟨r, a, none⟩ = some (.int .u8 (s.ram[a]?.getD 0)) := HC.out (a) (by omega)
        have b2 := HB.out.at (a)
        have hor : bits .or .u32 (V * 256) (s.ram[a]?.getD 0) = V * 256 + s.ram[a]?.getD 0 := join_w 8 _ _ (by omega) (by simp) (by omega) (by omega) (by omega) (by omega)
        have HV2 : Hid (V * 256 + s.ram[a]?.getD 0 = leV s.ram (a) 1) := by
          have e := HV.out
          rw [show a + 1 - 0 = a + 1 from rfl] at e
          unfold Hid
          rw [e]
          simp [leV]
          skip
        go_wp2_with fail
        go_roundw
        case rel => exact ⟨1, _, _, by decide, rfl, by first | rfl | go_num | (congr 1; omega), rfl, HV2, by omega, by omega⟩
        case measure => simp [intOf]
    · obtain rfl : k = 1 := by omega
      have HV2 : Hid (V = leV s.ram a 1) := by have := HV.out; rwa [show a + 1 - 1 = a by omega] at this
      go_wp2
      go_ret2
      exact ⟨by rw [HV2.out]; rfl, q, rfl⟩

set_option maxHeartbeats 1000000 in
theorem loadRam_2 (W : World) (x r : Nat) (s : CSt) (h : CodeAt W x r s) (a : Nat) (ha : a + 2 ≤ s.ram.length) :
    Calls Try.prog 27 #[.pointer (some ⟨x, 0, none⟩), .int .u32 a, .int .i64 2] W fun e W' => e = .returned (.tuple #[.int .u32 (leV s.ram a 2), .bool true]) ∧ ∃ q, W' = W.drewN q := by
  have HF : Hid (CodeAt W x r s) := h
  have c1 := h.ram
  have hl := h.bytes.2.1
  have ha' : (a : Int) + 2 ≤ s.ram.length := by omega
  have HC : Hid (∀ i, i < s.ram.length → W.cell? ⟨r, i, none⟩ = some (.int .u8 (s.ram[i]?.getD 0))) := fun i hi => by rw [h.bytes.room.cell i hi]; simp [List.getD]
  have HB : Hid (Byt s.ram) := h.bytes.2.2
  clear h
  go_enter Try.func27, Try.ntmps27
  go_wp2_with (go_at_call 38; refine (inRam_2 _ x r s HF.out a ha).mono ?_; rintro e w' ⟨rfl, q0, rfl⟩)
  go_loopw [8, 9] (fun v i wr => ∃ k q : Nat, ∃ V : Int, k ≤ 2 ∧ v = .int .u32 V ∧ i = .int .i64 (1 - (k : Int)) ∧ wr = W.drewN q ∧ Hid (V = leV s.ram (a + 2 - k) k) ∧ 0 ≤ V ∧ V < 256 ^ k) (fun _ i _ => (intOf i + 1).toNat)
  case atStart => exact ⟨0, q0, 0, by decide, rfl, by simp, rfl, rfl, by decide, by decide⟩
  case round =>
    obtain ⟨k, q, V, hk, rfl, rfl, rfl, HV, V0, V1⟩ := hrel
    by_cases hlt : k < 2
    · have hk4 : k = 0 ∨ k = 1 := by omega
      rcases hk4 with rfl | rfl
      · have c2 : W.cell? ⟨r, a + 1, none⟩ = some (.int .u8 (s.ram[a + 1]?.getD 0)) := HC.out (a + 1) (by omega)
        have b2 := HB.out.at (a + 1)
        have hor : bits .or .u32 (V * 256) (s.ram[a + 1]?.getD 0) = V * 256 + s.ram[a + 1]?.getD 0 := join_w 8 _ _ (by omega) (by simp) (by omega) (by omega) (by omega) (by omega)
        have HV2 : Hid (V * 256 + s.ram[a + 1]?.getD 0 = leV s.ram (a + 1) 1) := by
          have e := HV.out
          rw [show a + 2 - 0 = a + 2 from rfl] at e
          unfold Hid
          rw [e]
          simp [leV]
          skip
        go_wp2_with fail
        go_roundw
        case rel => exact ⟨1, _, _, by decide, rfl, by first | rfl | go_num | (congr 1; omega), rfl, HV2, by omega, by omega⟩
        case measure => simp [intOf]
      · have c2 : W.cell? ⟨r, a, none⟩ = some (.int .u8 (s.ram[a]?.getD 0)) := HC.out (a) (by omega)
        have b2 := HB.out.at (a)
        have hor : bits .or .u32 (V * 256) (s.ram[a]?.getD 0) = V * 256 + s.ram[a]?.getD 0 := join_w 8 _ _ (by omega) (by simp) (by omega) (by omega) (by omega) (by omega)
        have HV2 : Hid (V * 256 + s.ram[a]?.getD 0 = leV s.ram (a) 2) := by
          have e := HV.out
          rw [show a + 2 - 1 = a + 1 from rfl] at e
          unfold Hid
          rw [e]
          simp [leV]
          omega
        go_wp2_with fail
        go_roundw
        case rel => exact ⟨2, _, _, by decide, rfl, by first | rfl | go_num | (congr 1; omega), rfl, HV2, by omega, by omega⟩
        case measure => simp [intOf]
    · obtain rfl : k = 2 := by omega
      have HV2 : Hid (V = leV s.ram a 2) := by have := HV.out; rwa [show a + 2 - 2 = a by omega] at this
      go_wp2
      go_ret2
      exact ⟨by rw [HV2.out]; rfl, q, rfl⟩

set_option maxHeartbeats 1000000 in
theorem loadRam_4 (W : World) (x r : Nat) (s : CSt) (h : CodeAt W x r s) (a : Nat) (ha : a + 4 ≤ s.ram.length) :
    Calls Try.prog 27 #[.pointer (some ⟨x, 0, none⟩), .int .u32 a, .int .i64 4] W fun e W' => e = .returned (.tuple #[.int .u32 (leV s.ram a 4), .bool true]) ∧ ∃ q, W' = W.drewN q := by
  have HF : Hid (CodeAt W x r s) := h
  have c1 := h.ram
  have hl := h.bytes.2.1
  have ha' : (a : Int) + 4 ≤ s.ram.length := by omega
  have HC : Hid (∀ i, i < s.ram.length → W.cell? ⟨r, i, none⟩ = some (.int .u8 (s.ram[i]?.getD 0))) := fun i hi => by rw [h.bytes.room.cell i hi]; simp [List.getD]
  have HB : Hid (Byt s.ram) := h.bytes.2.2
  clear h
  go_enter Try.func27, Try.ntmps27
  go_wp2_with (go_at_call 38; refine (inRam_4 _ x r s HF.out a ha).mono ?_; rintro e w' ⟨rfl, q0, rfl⟩)
  go_loopw [8, 9] (fun v i wr => ∃ k q : Nat, ∃ V : Int, k ≤ 4 ∧ v = .int .u32 V ∧ i = .int .i64 (3 - (k : Int)) ∧ wr = W.drewN q ∧ Hid (V = leV s.ram (a + 4 - k) k) ∧ 0 ≤ V ∧ V < 256 ^ k) (fun _ i _ => (intOf i + 1).toNat)
  case atStart => exact ⟨0, q0, 0, by decide, rfl, by simp, rfl, rfl, by decide, by decide⟩
  case round =>
    obtain ⟨k, q, V, hk, rfl, rfl, rfl, HV, V0, V1⟩ := hrel
    by_cases hlt : k < 4
    · have hk4 : k = 0 ∨ k = 1 ∨ k = 2 ∨ k = 3 := by omega
      rcases hk4 with rfl | rfl | rfl | rfl
      · have c2 : W.cell? ⟨r, a + 3, none⟩ = some (.int .u8 (s.ram[a + 3]?.getD 0)) := HC.out (a + 3) (by omega)
        have b2 := HB.out.at (a + 3)
        have hor : bits .or .u32 (V * 256) (s.ram[a + 3]?.getD 0) = V * 256 + s.ram[a + 3]?.getD 0 := join_w 8 _ _ (by omega) (by simp) (by omega) (by omega) (by omega) (by omega)
        have HV2 : Hid (V * 256 + s.ram[a + 3]?.getD 0 = leV s.ram (a + 3) 1) := by
          have e := HV.out
          rw [show a + 4 - 0 = a + 4 from rfl] at e
          unfold Hid
          rw [e]
          simp [leV]
          skip
        go_wp2_with fail
        go_roundw
        case rel => exact ⟨1, _, _, by decide, rfl, by first | rfl | go_num | (congr 1; omega), rfl, HV2, by omega, by omega⟩
        case measure => simp [intOf]
      · have c2 : W.cell? ⟨r, a + 2, none⟩ = some (.int .u8 (s.ram[a + 2]?.getD 0)) := HC.out (a + 2) (by omega)
        have b2 := HB.out.at (a + 2)
        have hor : bits .or .u32 (V * 256) (s.ram[a + 2]?.getD 0) = V * 256 + s.ram[a + 2]?.getD 0 := join_w 8 _ _ (by omega) (by simp) (by omega) (by omega) (by omega) (by omega)
        have HV2 : Hid (V * 256 + s.ram[a + 2]?.getD 0 = leV s.ram (a + 2) 2) := by
          have e := HV.out
          rw [show a + 4 - 1 = a + 3 from rfl] at e
          unfold Hid
          rw [e]
          simp [leV, Nat.add_assoc]
          omega
        go_wp2_with fail
        go_roundw
        case rel => exact ⟨2, _, _, by decide, rfl, by first | rfl | go_num | (congr 1; omega), rfl, HV2, by omega, by omega⟩
        case measure => simp [intOf]
      · have c2 : W.cell? ⟨r, a + 1, none⟩ = some (.int .u8 (s.ram[a + 1]?.getD 0)) := HC.out (a + 1) (by omega)
        have b2 := HB.out.at (a + 1)
        have hor : bits .or .u32 (V * 256) (s.ram[a + 1]?.getD 0) = V * 256 + s.ram[a + 1]?.getD 0 := join_w 8 _ _ (by omega) (by simp) (by omega) (by omega) (by omega) (by omega)
        have HV2 : Hid (V * 256 + s.ram[a + 1]?.getD 0 = leV s.ram (a + 1) 3) := by
          have e := HV.out
          rw [show a + 4 - 2 = a + 2 from rfl] at e
          unfold Hid
          rw [e]
          simp [leV, Nat.add_assoc]
          omega
        go_wp2_with fail
        go_roundw
        case rel => exact ⟨3, _, _, by decide, rfl, by first | rfl | go_num | (congr 1; omega), rfl, HV2, by omega, by omega⟩
        case measure => simp [intOf]
      · have c2 : W.cell? ⟨r, a, none⟩ = some (.int .u8 (s.ram[a]?.getD 0)) := HC.out (a) (by omega)
        have b2 := HB.out.at (a)
        have hor : bits .or .u32 (V * 256) (s.ram[a]?.getD 0) = V * 256 + s.ram[a]?.getD 0 := join_w 8 _ _ (by omega) (by simp) (by omega) (by omega) (by omega) (by omega)
        have HV2 : Hid (V * 256 + s.ram[a]?.getD 0 = leV s.ram (a) 4) := by
          have e := HV.out
          rw [show a + 4 - 3 = a + 1 from rfl] at e
          unfold Hid
          rw [e]
          simp [leV, Nat.add_assoc]
          omega
        go_wp2_with fail
        go_roundw
        case rel => exact ⟨4, _, _, by decide, rfl, by first | rfl | go_num | (congr 1; omega), rfl, HV2, by omega, by omega⟩
        case measure => simp [intOf]
    · obtain rfl : k = 4 := by omega
      have HV2 : Hid (V = leV s.ram a 4) := by have := HV.out; rwa [show a + 4 - 4 = a by omega] at this
      go_wp2
      go_ret2
      exact ⟨by rw [HV2.out]; rfl, q, rfl⟩

set_option maxHeartbeats 1000000 in
theorem storeRam_1 (W : World) (x r : Nat) (s : CSt) (h : CodeAt W x r s) (A : x ≠ r) (a : Nat) (v : Int) (_v0 : 0 ≤ v) (_v1 : v < 4294967296) (ha : a + 1 ≤ s.ram.length) :
    Calls Try.prog 24 #[.pointer (some ⟨x, 0, none⟩), .int .u32 a, .int .i64 1, .int .u32 v] W fun e W' => e = .returned (.bool true) ∧ CodeAt W' x r { s with ram := stV s.ram a v 1 } ∧ Offs [x, r] W W' := by
  have HF : Hid (CodeAt W x r s) := h
  have hl := h.bytes.2.1
  have ha' : (a : Int) + 1 ≤ s.ram.length := by omega
  clear h
  go_enter Try.func24, Try.ntmps24
  go_wp2_with (go_at_call 38; refine (inRam_1 _ x r s HF.out a ha).mono ?_; rintro e w' ⟨rfl, q0, rfl⟩)
  go_loopw [3, 9] (fun vv i wr => ∃ k : Nat, k ≤ 1 ∧ i = .int .i64 k ∧ vv = .int .u32 (v / 256 ^ k) ∧ CodeAt wr x r { s with ram := stV s.ram a v k } ∧ Offs [x, r] W wr) (fun _ i _ => 1 - (intOf i).toNat)
  case atStart => exact ⟨0, by decide, rfl, by simp, HF.out.drawn q0, (Offs.refl _ _).drawn q0⟩
  case round =>
    obtain ⟨k, hk, rfl, rfl, hr, ho⟩ := hrel
    have c1 : wr.cell? ⟨x, 50, none⟩ = some (.slice (some ⟨r, 0, none⟩) s.ram.length s.ram.length) := by have := hr.ram; simp only [stV_len] at this; exact this
    have f1 : ∀ j, wr.frozen? ⟨r, j, none⟩ = false := fun j => by have h1 := hr.bytes.1; simp [World.frozen?, h1]
    have HR : Hid (CodeAt wr x r { s with ram := stV s.ram a v k }) := hr
    clear hr
    by_cases hlt : k < 1
    · have hk4 : k = 0 := by omega
      obtain rfl := hk4
      · obtain ⟨old, c2⟩ : ∃ old, wr.cell? ⟨r, a, none⟩ = some old := ⟨_, HR.out.bytes.room.cell (a) (by show a < (stV s.ram a v 0).length; rw [stV_len]; omega)⟩
        go_wp2_with fail
        go_roundw
        case rel =>
          have e : stV s.ram a v 1 = (stV s.ram a v 0).set (a) (v % 256) := by
            skip
            simp [stV]
          refine ⟨1, by decide, rfl, congrArg (Value.int .u32) (by show _ = v / 256; omega), ?_, ho.put (by simp) _⟩
          rw [e]
          exact HR.out.put_ram A (a) (v % 256) (by omega) (by omega)
        case measure => simp [intOf]
    · obtain rfl : k = 1 := by omega
      go_wp2
      go_ret
      exact ⟨rfl, HR.out, ho⟩

set_option maxHeartbeats 1000000 in
theorem storeRam_2 (W : World) (x r : Nat) (s : CSt) (h : CodeAt W x r s) (A : x ≠ r) (a : Nat) (v : Int) (_v0 : 0 ≤ v) (_v1 : v < 4294967296) (ha : a + 2 ≤ s.ram.length) :
    Calls Try.prog 24 #[.pointer (some ⟨x, 0, none⟩), .int .u32 a, .int .i64 2, .int .u32 v] W fun e W' => e = .returned (.bool true) ∧ CodeAt W' x r { s with ram := stV s.ram a v 2 } ∧ Offs [x, r] W W' := by
  have HF : Hid (CodeAt W x r s) := h
  have hl := h.bytes.2.1
  have ha' : (a : Int) + 2 ≤ s.ram.length := by omega
  clear h
  go_enter Try.func24, Try.ntmps24
  go_wp2_with (go_at_call 38; refine (inRam_2 _ x r s HF.out a ha).mono ?_; rintro e w' ⟨rfl, q0, rfl⟩)
  go_loopw [3, 9] (fun vv i wr => ∃ k : Nat, k ≤ 2 ∧ i = .int .i64 k ∧ vv = .int .u32 (v / 256 ^ k) ∧ CodeAt wr x r { s with ram := stV s.ram a v k } ∧ Offs [x, r] W wr) (fun _ i _ => 2 - (intOf i).toNat)
  case atStart => exact ⟨0, by decide, rfl, by simp, HF.out.drawn q0, (Offs.refl _ _).drawn q0⟩
  case round =>
    obtain ⟨k, hk, rfl, rfl, hr, ho⟩ := hrel
    have c1 : wr.cell? ⟨x, 50, none⟩ = some (.slice (some ⟨r, 0, none⟩) s.ram.length s.ram.length) := by have := hr.ram; simp only [stV_len] at this; exact this
    have f1 : ∀ j, wr.frozen? ⟨r, j, none⟩ = false := fun j => by have h1 := hr.bytes.1; simp [World.frozen?, h1]
    have HR : Hid (CodeAt wr x r { s with ram := stV s.ram a v k }) := hr
    clear hr
    by_cases hlt : k < 2
    · have hk4 : k = 0 ∨ k = 1 := by omega
      rcases hk4 with rfl | rfl
      · obtain ⟨old, c2⟩ : ∃ old, wr.cell? ⟨r, a, none⟩ = some old := ⟨_, HR.out.bytes.room.cell (a) (by show a < (stV s.ram a v 0).length; rw [stV_len]; omega)⟩
        go_wp2_with fail
        go_roundw
        case rel =>
          have e : stV s.ram a v 1 = (stV s.ram a v 0).set (a) (v % 256) := by
            skip
            simp [stV]
          refine ⟨1, by decide, rfl, congrArg (Value.int .u32) (by show _ = v / 256; omega), ?_, ho.put (by simp) _⟩
          rw [e]
          exact HR.out.put_ram A (a) (v % 256) (by omega) (by omega)
        case measure => simp [intOf]
      · obtain ⟨old, c2⟩ : ∃ old, wr.cell? ⟨r, a + 1, none⟩ = some old := ⟨_, HR.out.bytes.room.cell (a + 1) (by show a + 1 < (stV s.ram a v 1).length; rw [stV_len]; omega)⟩
        go_wp2_with fail
        go_roundw
        case rel =>
          have e : stV s.ram a v 2 = (stV s.ram a v 1).set (a + 1) (v / 256 % 256) := by
            skip
            simp [stV]
          refine ⟨2, by decide, rfl, congrArg (Value.int .u32) (by show _ = v / 65536; omega), ?_, ho.put (by simp) _⟩
          rw [e]
          exact HR.out.put_ram A (a + 1) (v / 256 % 256) (by omega) (by omega)
        case measure => simp [intOf]
    · obtain rfl : k = 2 := by omega
      go_wp2
      go_ret
      exact ⟨rfl, HR.out, ho⟩

set_option maxHeartbeats 1000000 in
theorem storeRam_4 (W : World) (x r : Nat) (s : CSt) (h : CodeAt W x r s) (A : x ≠ r) (a : Nat) (v : Int) (v0 : 0 ≤ v) (v1 : v < 4294967296) (ha : a + 4 ≤ s.ram.length) :
    Calls Try.prog 24 #[.pointer (some ⟨x, 0, none⟩), .int .u32 a, .int .i64 4, .int .u32 v] W fun e W' => e = .returned (.bool true) ∧ CodeAt W' x r { s with ram := stV s.ram a v 4 } ∧ Offs [x, r] W W' := by
  have HF : Hid (CodeAt W x r s) := h
  have hl := h.bytes.2.1
  have ha' : (a : Int) + 4 ≤ s.ram.length := by omega
  clear h
  go_enter Try.func24, Try.ntmps24
  go_wp2_with (go_at_call 38; refine (inRam_4 _ x r s HF.out a ha).mono ?_; rintro e w' ⟨rfl, q0, rfl⟩)
  go_loopw [3, 9] (fun vv i wr => ∃ k : Nat, k ≤ 4 ∧ i = .int .i64 k ∧ vv = .int .u32 (v / 256 ^ k) ∧ CodeAt wr x r { s with ram := stV s.ram a v k } ∧ Offs [x, r] W wr) (fun _ i _ => 4 - (intOf i).toNat)
  case atStart => exact ⟨0, by decide, rfl, by simp, HF.out.drawn q0, (Offs.refl _ _).drawn q0⟩
  case round =>
    obtain ⟨k, hk, rfl, rfl, hr, ho⟩ := hrel
    have c1 : wr.cell? ⟨x, 50, none⟩ = some (.slice (some ⟨r, 0, none⟩) s.ram.length s.ram.length) := by have := hr.ram; simp only [stV_len] at this; exact this
    have f1 : ∀ j, wr.frozen? ⟨r, j, none⟩ = false := fun j => by have h1 := hr.bytes.1; simp [World.frozen?, h1]
    have HR : Hid (CodeAt wr x r { s with ram := stV s.ram a v k }) := hr
    clear hr
    by_cases hlt : k < 4
    · have hk4 : k = 0 ∨ k = 1 ∨ k = 2 ∨ k = 3 := by omega
      rcases hk4 with rfl | rfl | rfl | rfl
      · obtain ⟨old, c2⟩ : ∃ old, wr.cell? ⟨r, a, none⟩ = some old := ⟨_, HR.out.bytes.room.cell (a) (by show a < (stV s.ram a v 0).length; rw [stV_len]; omega)⟩
        go_wp2_with fail
        go_roundw
        case rel =>
          have e : stV s.ram a v 1 = (stV s.ram a v 0).set (a) (v % 256) := by
            skip
            simp [stV]
          refine ⟨1, by decide, rfl, congrArg (Value.int .u32) (by show _ = v / 256; omega), ?_, ho.put (by simp) _⟩
          rw [e]
          exact HR.out.put_ram A (a) (v % 256) (by omega) (by omega)
        case measure => simp [intOf]
      · obtain ⟨old, c2⟩ : ∃ old, wr.cell? ⟨r, a + 1, none⟩ = some old := ⟨_, HR.out.bytes.room.cell (a + 1) (by show a + 1 < (stV s.ram a v 1).length; rw [stV_len]; omega)⟩
        go_wp2_with fail
        go_roundw
        case rel =>
          have e : stV s.ram a v 2 = (stV s.ram a v 1).set (a + 1) (v / 256 % 256) := by
            skip
            simp [stV]
          refine ⟨2, by decide, rfl, congrArg (Value.int .u32) (by show _ = v / 65536; omega), ?_, ho.put (by simp) _⟩
          rw [e]
          exact HR.out.put_ram A (a + 1) (v / 256 % 256) (by omega) (by omega)
        case measure => simp [intOf]
      · obtain ⟨old, c2⟩ : ∃ old, wr.cell? ⟨r, a + 2, none⟩ = some old := ⟨_, HR.out.bytes.room.cell (a + 2) (by show a + 2 < (stV s.ram a v 2).length; rw [stV_len]; omega)⟩
        go_wp2_with fail
        go_roundw
        case rel =>
          have e : stV s.ram a v 3 = (stV s.ram a v 2).set (a + 2) (v / 65536 % 256) := by
            skip
            simp [stV]
          refine ⟨3, by decide, rfl, congrArg (Value.int .u32) (by show _ = v / 16777216; omega), ?_, ho.put (by simp) _⟩
          rw [e]
          exact HR.out.put_ram A (a + 2) (v / 65536 % 256) (by omega) (by omega)
        case measure => simp [intOf]
      · obtain ⟨old, c2⟩ : ∃ old, wr.cell? ⟨r, a + 3, none⟩ = some old := ⟨_, HR.out.bytes.room.cell (a + 3) (by show a + 3 < (stV s.ram a v 3).length; rw [stV_len]; omega)⟩
        go_wp2_with fail
        go_roundw
        case rel =>
          have e : stV s.ram a v 4 = (stV s.ram a v 3).set (a + 3) (v / 16777216) := by
            have e' : v / 16777216 % 256 = v / 16777216 := by omega
            simp [stV, e']
          refine ⟨4, by decide, rfl, congrArg (Value.int .u32) (by show _ = v / 4294967296; omega), ?_, ho.put (by simp) _⟩
          rw [e]
          exact HR.out.put_ram A (a + 3) (v / 16777216) (by omega) (by omega)
        case measure => simp [intOf]
    · obtain rfl : k = 4 := by omega
      go_wp2
      go_ret
      exact ⟨rfl, HR.out, ho⟩
end Go.Proofs.Yteiideeechnekaa
