/-
  hartlaw's small functions: words, spoil, spoilt: over rows of numbers.
-/
import Derived.Test.YtonlmogclejfaaaProg
import Derived.WalkKit
import Derived.WalkSpells
import Derived.WalkLawsBesides
import Derived.Laws.BitsAllLaws
import Derived.Deep.QuietTactic
import Derived.BigQuiet
import Derived.Deep.RegionWith
import Derived.Deep.RegionHeld3
namespace Go.Proofs.Ytonlmogclejfaaa
open Go.RowKit

/-- Block g holds a row of cap words, the first of them xs. -/
def RowAt (W : World) (g cap : Nat) (xs : List Int) : Prop :=
  ∃ cur : Array Value, W.heap[g]? = some (.cells cur 34 (0, 0)) ∧ cur.size = cap ∧ xs.length ≤ cap ∧ cap ≤ maxLen ∧ cur.toList.take xs.length = xs.map (Value.int .u32)

theorem RowAt.cell {W : World} {g cap : Nat} {xs : List Int} (h : RowAt W g cap xs) (i : Nat) (hi : i < xs.length) : W.cell? ⟨g, i, none⟩ = some (.int .u32 (xs.getD i 0)) := by
  obtain ⟨cur, hg, hs, hl, _, ht⟩ := h
  rw [cell_of_row W g i cur _ (0, 0) hg]
  have e : cur.toList[i]? = (cur.toList.take xs.length)[i]? := by rw [List.getElem?_take, if_pos hi]
  have : cur[i]? = cur.toList[i]? := by simp
  rw [this, e, ht]
  simp [List.getD, hi]
theorem RowAt.below {W W' : World} {g cap : Nat} {xs : List Int} (h : RowAt W g cap xs) {B : Nat} (hb : Below B W W') (hg : g < B) : RowAt W' g cap xs := by
  obtain ⟨cur, h1, r⟩ := h
  exact ⟨cur, (hb.block g hg).trans h1, r⟩
theorem RowAt.lt {W : World} {g cap : Nat} {xs : List Int} (h : RowAt W g cap xs) : g < W.heap.size := by
  obtain ⟨cur, h1, r⟩ := h
  exact (Array.getElem?_eq_some_iff.1 h1).1

theorem words_true (W : World) (g g' c c' : Nat) (xs : List Int) (h : RowAt W g c xs) (h' : RowAt W g' c' xs) :
    Calls Try.prog 18 #[.slice (some ⟨g, 0, none⟩) xs.length c, .slice (some ⟨g', 0, none⟩) xs.length c'] W fun e W' => e = .returned (.bool true) ∧ ∃ q, W' = W.drewN q := by
  obtain ⟨n, hn⟩ : ∃ n, n = xs.length := ⟨_, rfl⟩
  have hm : n ≤ maxLen := by obtain ⟨_, _, _, a, b, _⟩ := h; omega
  have HC : Hid (∀ i, i < n → W.cell? ⟨g, i, none⟩ = some (.int .u32 (xs.getD i 0))) := fun i hi => h.cell i (by omega)
  have HC' : Hid (∀ i, i < n → W.cell? ⟨g', i, none⟩ = some (.int .u32 (xs.getD i 0))) := fun i hi => h'.cell i (by omega)
  rw [← hn]
  clear h h' hn
  unfold maxLen at hm
  go_enter Try.func18, Try.ntmps18
  go_wp2
  go_loopw [5] (fun i wr => ∃ k q : Nat, k ≤ n ∧ i = .int .i64 k ∧ wr = W.drewN q) (fun i _ => n - (intOf i).toNat)
  case atStart => exact ⟨0, 0, Nat.zero_le _, rfl, rfl⟩
  case round =>
    obtain ⟨k, q, hk, rfl, rfl⟩ := hrel
    by_cases hlt : k < n
    · have c1 := HC.out k hlt
      have c2 := HC'.out k hlt
      have hi : (k : Int) < (n : Int) := by omega
      go_wp2
      go_quiet (fail)
      go_wp2
      go_roundw
      case rel => exact ⟨k + 1, _, by omega, by go_num, rfl⟩
      case measure => simp [intOf]; omega
    · go_wp2
      go_ret
      exact ⟨rfl, _, rfl⟩
end Go.Proofs.Ytonlmogclejfaaa
