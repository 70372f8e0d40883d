/-
  hartlaw's spoil and spoilt.
-/
import Derived.Test.YteiideeechnekaaLaw
namespace Go.Proofs.Yteiideeechnekaa
open Go.RowKit

def spv (v : Int) (j : Nat) : Int := (v + (j : Int)) % 4294967296
def SpoiltTo (W : World) (g cap : Nat) (v : Int) (k : Nat) : Prop :=
  ∃ cur : Array Value, W.heap[g]? = some (.cells cur 27 (0, 0)) ∧ cur.size = cap ∧ cap ≤ maxLen ∧ ∀ j, j < k → cur[j]? = some (.int .u32 (spv v j))
structure Only (g : Nat) (W W' : World) : Prop where
  os : W'.os = W.os
  tape : W'.tape = W.tape
  output : W'.output = W.output
  size : W'.heap.size = W.heap.size
  block : ∀ k, k ≠ g → W'.heap[k]? = W.heap[k]?
theorem Only.refl (g : Nat) (W : World) : Only g W W := ⟨rfl, rfl, rfl, rfl, fun _ _ => rfl⟩

theorem heap_setCell_at (w : World) (g k : Nat) (cur : Array Value) (t : TypeId) (fz : Nat × Nat) (h : w.heap[g]? = some (.cells cur t fz)) (x : Value) : (w.setCell ⟨g, k, none⟩ x).heap[g]? = some (.cells (cur.setIfInBounds k x) t fz) := by
  simp [World.setCell, Array.getElem?_modify, h]
theorem Only.setCell {g : Nat} {W W' : World} (h : Only g W W') (k : Nat) (x : Value) : Only g W (W'.setCell ⟨g, k, none⟩ x) :=
  ⟨h.os, h.tape, h.output, by simp [World.setCell, h.size], fun b hb => (Below.heap_setCell W' ⟨g, k, none⟩ x b hb).trans (h.block b hb)⟩
theorem spoilt_step {W : World} {g c : Nat} {v : Int} {k : Nat} {cur : Array Value} (h1 : W.heap[g]? = some (.cells cur 27 (0, 0))) (h2 : cur.size = c) (h3 : c ≤ maxLen) (h4 : ∀ j, j < k → cur[j]? = some (.int .u32 (spv v j))) (hk : k < c) :
    SpoiltTo (W.setCell ⟨g, k, none⟩ (.int .u32 ((v + (k : Int)) % 4294967296))) g c v (k + 1) := by
  refine ⟨_, heap_setCell_at W g k cur _ (0, 0) h1 _, by simp [h2], h3, fun j hj => ?_⟩
  by_cases e : j = k
  · subst e
    rw [Array.getElem?_setIfInBounds_self_of_lt (by omega)]; rfl
  · rw [Array.getElem?_setIfInBounds_ne (by omega)]
    exact h4 j (by omega)

theorem spoil_any (W : World) (g c n : Nat) (v : Int) (hn : n ≤ c) (h : SpoiltTo W g c v 0) :
    Calls Try.prog 47 #[.slice (some ⟨g, 0, none⟩) n c, .int .u32 v] W fun e W' => e = .returned (.tuple #[]) ∧ SpoiltTo W' g c v c ∧ Only g W W' := by
  have hm : c ≤ maxLen := by obtain ⟨_, _, _, a, _⟩ := h; exact a
  unfold maxLen at hm
  go_enter Try.func47, Try.ntmps47
  go_wp2
  go_loopw [5] (fun i wr => ∃ k : Nat, k ≤ c ∧ i = .int .i64 k ∧ SpoiltTo wr g c v k ∧ Only g W wr) (fun i _ => c - (intOf i).toNat)
  case atStart => exact ⟨0, Nat.zero_le _, rfl, h, Only.refl _ _⟩
  case round =>
    obtain ⟨k, hk, rfl, hs, ho⟩ := hrel
    by_cases hlt : k < c
    · obtain ⟨cur, h1, h2, h3, h4⟩ := hs
      have hi : (k : Int) < (c : Int) := by omega
      obtain ⟨old, c1⟩ : ∃ old, wr.cell? ⟨g, k, none⟩ = some old := ⟨_, (cell_of_row wr g k cur _ (0, 0) h1).trans (Array.getElem?_eq_getElem (by omega))⟩
      have f1 : wr.frozen? ⟨g, k, none⟩ = false := by simp [World.frozen?, h1]
      go_wp2
      go_roundw
      case rel => exact ⟨k + 1, by omega, by go_num, spoilt_step h1 h2 h3 h4 hlt, ho.setCell k _⟩
      case measure => simp [intOf]; omega
    · obtain rfl : k = c := by omega
      go_wp2
      go_end0
      exact ⟨rfl, hs, ho⟩

theorem spoilt_any (W : World) (g c n : Nat) (v : Int) (_hn : n ≤ c) (h : SpoiltTo W g c v c) :
    Calls Try.prog 48 #[.slice (some ⟨g, 0, none⟩) n c, .int .u32 v] W fun e W' => e = .returned (.bool true) ∧ W' = W := by
  obtain ⟨cur, h1, h2, h3, h4⟩ := h
  have hm := h3
  unfold maxLen at hm
  have HC : Hid (∀ j, j < c → W.cell? ⟨g, j, none⟩ = some (.int .u32 ((v + (j : Int)) % 4294967296))) := fun j hj => (cell_of_row W g j cur _ (0, 0) h1).trans (h4 j hj)
  clear h1 h2 h3 h4
  go_enter Try.func48, Try.ntmps48
  go_wp2
  go_loop [6] (fun i => ∃ k : Nat, k ≤ c ∧ i = .int .i64 k) (fun i => c - (intOf i).toNat)
  case atStart => exact ⟨0, Nat.zero_le _, rfl⟩
  case round =>
    obtain ⟨k, hk, rfl⟩ := hrel
    by_cases hlt : k < c
    · have c1 := HC.out k hlt
      have hi : (k : Int) < (c : Int) := by omega
      go_wp2
      go_round
      case rel => exact ⟨k + 1, by omega, by go_num⟩
      case measure => simp [intOf]; omega
    · go_wp2
      go_ret
      exact ⟨rfl, rfl⟩
end Go.Proofs.Yteiideeechnekaa
