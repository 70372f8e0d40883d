/-
  The document's mask.
-/
import Derived.Test.YteiideeechnekaaRefCsr
namespace Go.Proofs.Yteiideeechnekaa
open Go.RowKit

def mk (f : Nat → Bool) : Nat → Int
  | 0 => 0
  | n + 1 => if f (n + 1) then bits .or .u32 (mk f n) (2 ^ (n + 1) % 4294967296) else mk f n
theorem mk_yes {f : Nat → Bool} {k : Nat} (h1 : 1 ≤ k) (h : f k = true) : mk f k = bits .or .u32 (mk f (k - 1)) (2 ^ k % 4294967296) := by
  obtain ⟨n, rfl⟩ : ∃ n, k = n + 1 := ⟨k - 1, by omega⟩
  simp [mk, h]
theorem mk_no {f : Nat → Bool} {k : Nat} (h1 : 1 ≤ k) (h : f k = false) : mk f k = mk f (k - 1) := by
  obtain ⟨n, rfl⟩ : ∃ n, k = n + 1 := ⟨k - 1, by omega⟩
  simp [mk, h]

set_option maxHeartbeats 1000000 in
theorem mask_0 (W : World) (p : Nat) (b : RBl) (s : RSt) (h : RefAt W p b s) :
    Calls Try.prog 45 #[.pointer (some ⟨p, 0, none⟩), .int .i64 0] W fun e W' => e = .returned (.int .u32 (mk (fun i => (srcAt s i).waits) 7)) ∧ ∃ q, W' = W.drewN q := by
  have k1 := h.csrc
  have HW : Hid (∀ i, i < 8 → W.cell? ⟨b.src, i * 4 + 1, none⟩ = some (.bool (srcAt s i).waits)) := h.waits
  obtain ⟨f, hf⟩ : ∃ f : Nat → Bool, f = fun i => (srcAt s i).waits := ⟨_, rfl⟩
  have HF : Hid (∀ i, i < 8 → W.cell? ⟨b.src, i * 4 + 1, none⟩ = some (.bool (f i))) := by rw [hf]; exact HW.out
  rw [← hf]
  clear h HW hf
  go_enter Try.func45, Try.ntmps45
  go_wp2
  go_loopw [5, 6] (fun v i wr => ∃ k q : Nat, 1 ≤ k ∧ k ≤ 8 ∧ i = .int .i64 k ∧ v = .int .u32 (mk f (k - 1)) ∧ wr = W.drewN q) (fun _ i _ => 8 - (intOf i).toNat)
  case atStart => exact ⟨1, 0, Nat.le_refl _, by decide, rfl, rfl, rfl⟩
  case round =>
    obtain ⟨k, q, hk1, hk8, rfl, rfl, rfl⟩ := hrel
    by_cases hlt : k < 8
    · have c1 := HF.out k hlt
      have hi : (k : Int) < 8 := by omega
      by_cases hw : f k = true
      · have HM : Hid (mk f (k + 1 - 1) = bits .or .u32 (mk f (k - 1)) (2 ^ k % 4294967296)) := mk_yes hk1 hw
        go_wp2
        go_roundw
        case rel => exact ⟨k + 1, _, by omega, by omega, by go_num, by rw [HM.out], rfl⟩
        case measure => simp [intOf]; omega
      · have hw' : f k = false := by simpa using hw
        have HM : Hid (mk f (k + 1 - 1) = mk f (k - 1)) := mk_no hk1 hw'
        clear hw
        go_wp2
        go_roundw
        case rel => exact ⟨k + 1, _, by omega, by omega, by go_num, by rw [HM.out], rfl⟩
        case measure => simp [intOf]; omega
    · obtain rfl : k = 8 := by omega
      go_wp2
      go_ret
      exact ⟨rfl, _, rfl⟩
set_option maxHeartbeats 1000000 in
theorem mask_1 (W : World) (p : Nat) (b : RBl) (s : RSt) (h : RefAt W p b s) :
    Calls Try.prog 45 #[.pointer (some ⟨p, 0, none⟩), .int .i64 1] W fun e W' => e = .returned (.int .u32 (mk (fun i => (srcAt s i).served) 7)) ∧ ∃ q, W' = W.drewN q := by
  have k1 := h.csrc
  have HW : Hid (∀ i, i < 8 → W.cell? ⟨b.src, i * 4 + 2, none⟩ = some (.bool (srcAt s i).served)) := h.served
  obtain ⟨f, hf⟩ : ∃ f : Nat → Bool, f = fun i => (srcAt s i).served := ⟨_, rfl⟩
  have HF : Hid (∀ i, i < 8 → W.cell? ⟨b.src, i * 4 + 2, none⟩ = some (.bool (f i))) := by rw [hf]; exact HW.out
  rw [← hf]
  clear h HW hf
  go_enter Try.func45, Try.ntmps45
  go_wp2
  go_loopw [5, 6] (fun v i wr => ∃ k q : Nat, 1 ≤ k ∧ k ≤ 8 ∧ i = .int .i64 k ∧ v = .int .u32 (mk f (k - 1)) ∧ wr = W.drewN q) (fun _ i _ => 8 - (intOf i).toNat)
  case atStart => exact ⟨1, 0, Nat.le_refl _, by decide, rfl, rfl, rfl⟩
  case round =>
    obtain ⟨k, q, hk1, hk8, rfl, rfl, rfl⟩ := hrel
    by_cases hlt : k < 8
    · have c1 := HF.out k hlt
      have hi : (k : Int) < 8 := by omega
      by_cases hw : f k = true
      · have HM : Hid (mk f (k + 1 - 1) = bits .or .u32 (mk f (k - 1)) (2 ^ k % 4294967296)) := mk_yes hk1 hw
        go_wp2
        go_roundw
        case rel => exact ⟨k + 1, _, by omega, by omega, by go_num, by rw [HM.out], rfl⟩
        case measure => simp [intOf]; omega
      · have hw' : f k = false := by simpa using hw
        have HM : Hid (mk f (k + 1 - 1) = mk f (k - 1)) := mk_no hk1 hw'
        clear hw
        go_wp2
        go_roundw
        case rel => exact ⟨k + 1, _, by omega, by omega, by go_num, by rw [HM.out], rfl⟩
        case measure => simp [intOf]; omega
    · obtain rfl : k = 8 := by omega
      go_wp2
      go_ret
      exact ⟨rfl, _, rfl⟩
set_option maxHeartbeats 1000000 in
theorem mask_2 (W : World) (p : Nat) (b : RBl) (s : RSt) (h : RefAt W p b s) :
    Calls Try.prog 45 #[.pointer (some ⟨p, 0, none⟩), .int .i64 2] W fun e W' => e = .returned (.int .u32 (mk (fun i => (srcAt s i).high) 7)) ∧ ∃ q, W' = W.drewN q := by
  have k1 := h.csrc
  have HW : Hid (∀ i, i < 8 → W.cell? ⟨b.src, i * 4, none⟩ = some (.bool (srcAt s i).high)) := h.high
  obtain ⟨f, hf⟩ : ∃ f : Nat → Bool, f = fun i => (srcAt s i).high := ⟨_, rfl⟩
  have HF : Hid (∀ i, i < 8 → W.cell? ⟨b.src, i * 4, none⟩ = some (.bool (f i))) := by rw [hf]; exact HW.out
  rw [← hf]
  clear h HW hf
  go_enter Try.func45, Try.ntmps45
  go_wp2
  go_loopw [5, 6] (fun v i wr => ∃ k q : Nat, 1 ≤ k ∧ k ≤ 8 ∧ i = .int .i64 k ∧ v = .int .u32 (mk f (k - 1)) ∧ wr = W.drewN q) (fun _ i _ => 8 - (intOf i).toNat)
  case atStart => exact ⟨1, 0, Nat.le_refl _, by decide, rfl, rfl, rfl⟩
  case round =>
    obtain ⟨k, q, hk1, hk8, rfl, rfl, rfl⟩ := hrel
    by_cases hlt : k < 8
    · have c1 := HF.out k hlt
      have hi : (k : Int) < 8 := by omega
      by_cases hw : f k = true
      · have HM : Hid (mk f (k + 1 - 1) = bits .or .u32 (mk f (k - 1)) (2 ^ k % 4294967296)) := mk_yes hk1 hw
        go_wp2
        go_roundw
        case rel => exact ⟨k + 1, _, by omega, by omega, by go_num, by rw [HM.out], rfl⟩
        case measure => simp [intOf]; omega
      · have hw' : f k = false := by simpa using hw
        have HM : Hid (mk f (k + 1 - 1) = mk f (k - 1)) := mk_no hk1 hw'
        clear hw
        go_wp2
        go_roundw
        case rel => exact ⟨k + 1, _, by omega, by omega, by go_num, by rw [HM.out], rfl⟩
        case measure => simp [intOf]; omega
    · obtain rfl : k = 8 := by omega
      go_wp2
      go_ret
      exact ⟨rfl, _, rfl⟩
end Go.Proofs.Yteiideeechnekaa
