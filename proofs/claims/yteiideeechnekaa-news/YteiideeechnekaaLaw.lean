/-
  hartlaw's small functions: words, spoil, spoilt: over rows of numbers.
-/
import Derived.Test.YteiideeechnekaaBase
namespace Go.Proofs.Yteiideeechnekaa
open Go.RowKit

theorem words_true (W : World) (g g' c c' : Nat) (xs : List Int) (h : RowAt W g c xs) (h' : RowAt W g' c' xs) :
    Calls Try.prog 46 #[.slice (some ⟨g, 0, none⟩) xs.length c, .slice (some ⟨g', 0, none⟩) xs.length c'] W fun e W' => e = .returned (.bool true) ∧ ∃ q, W' = W.drewN q := by
  obtain ⟨n, hn⟩ : ∃ n, n = xs.length := ⟨_, rfl⟩
  have hm : n ≤ maxLen := by obtain ⟨_, _, _, a, b, _⟩ := h; omega
  have HC : Hid (∀ i, i < n → W.cell? ⟨g, i, none⟩ = some (.int .u32 (xs.getD i 0))) := fun i hi => h.cell i (by omega)
  have HC' : Hid (∀ i, i < n → W.cell? ⟨g', i, none⟩ = some (.int .u32 (xs.getD i 0))) := fun i hi => h'.cell i (by omega)
  rw [← hn]
  clear h h' hn
  unfold maxLen at hm
  go_enter Try.func46, Try.ntmps46
  go_wp2
  go_loopw [5] (fun i wr => ∃ k q : Nat, k ≤ n ∧ i = .int .i64 k ∧ wr = W.drewN q) (fun i _ => n - (intOf i).toNat)
  case atStart => exact ⟨0, 0, Nat.zero_le _, rfl, rfl⟩
  case round =>
    obtain ⟨k, q, hk, rfl, rfl⟩ := hrel
    by_cases hlt : k < n
    · have c1 := HC.out k hlt
      have c2 := HC'.out k hlt
      have hi : (k : Int) < (n : Int) := by omega
      go_wp2
      go_quiet (fail)
      go_wp2
      go_roundw
      case rel => exact ⟨k + 1, _, by omega, by go_num, rfl⟩
      case measure => simp [intOf]; omega
    · go_wp2
      go_ret
      exact ⟨rfl, _, rfl⟩
end Go.Proofs.Yteiideeechnekaa
