/-
  hartkeep's made.
-/
import Derived.Test.YteiideeechnekaaCodeNew
import Derived.Test.YteiideeechnekaaCodeLook
import Derived.Test.YteiideeechnekaaCodeOut
namespace Go.Proofs.Yteiideeechnekaa
open Go.RowKit

theorem i64_mask (n : Int) (j : Nat) (k : Int) (h1 : (BitVec.ofInt 64 k).toNat = 2 ^ j - 1) (hj : j ≤ 12) : bits .and .i64 n k = n % 2 ^ j := by
  have key : (BitVec.ofInt 64 n &&& BitVec.ofInt 64 k).toNat = (n % ((2 ^ 64 : Nat) : Int)).toNat % 2 ^ j := by
    rw [BitVec.toNat_and, BitVec.toNat_ofInt, h1, Nat.and_two_pow_sub_one_eq_mod]
  show IntKind.i64.wrap ((BitVec.ofInt 64 n &&& BitVec.ofInt 64 k).toNat : Nat) = n % 2 ^ j
  rw [key, IntKind.wrap_i64]
  have : j = 0 ∨ j = 1 ∨ j = 2 ∨ j = 3 ∨ j = 4 ∨ j = 5 ∨ j = 6 ∨ j = 7 ∨ j = 8 ∨ j = 9 ∨ j = 10 ∨ j = 11 ∨ j = 12 := by omega
  rcases this with rfl | rfl | rfl | rfl | rfl | rfl | rfl | rfl | rfl | rfl | rfl | rfl | rfl <;> omega
theorem box_kept {W w2 : World} {L : List Nat} {c : Array Value} {t : TypeId} (hL : W.heap.size ∉ L) (o2 : Offs L (W.alloc (.cells c t)) w2) (j : Nat) : w2.cell? ⟨W.heap.size, j, none⟩ = c[j]? := by
  have e : w2.heap[W.heap.size]? = some (.cells c t (0, 0)) := (o2.block _ (by simp) hL).trans (heap_alloc_new W _)
  exact cell_of_row w2 _ j c _ (0, 0) e
/-- A new computer of the code's. -/
structure KNew (W w : World) (x r n : Nat) (im : ByteArray) : Prop where
  c : CodeAt w x r (newC n im)
  n4 : 4 ≤ n
  n5 : n ≤ 512
  im : im.size ≤ n
  ne : x ≠ r
  wx : W.heap.size ≤ x
  wr : W.heap.size ≤ r
  bel : Below W.heap.size W w
set_option maxRecDepth 100000 in
theorem kmade_any (W : World) (size : Int) (img : ByteArray) :
    Calls Try.prog 8 #[.int .i64 size, .string img] W fun e w => ∃ x : Nat, e = .returned (.pointer (some ⟨x, 0, none⟩)) ∧ ∃ r n im, KNew W w x r n im := by
  have hA : bits .and .i64 size 127 = size % 128 := i64_mask size 7 127 (by decide) (by decide)
  obtain ⟨m, hm⟩ : ∃ m : Nat, size % 128 = m := ⟨(size % 128).toNat, by omega⟩
  have hm8 : (m : Int) < 128 := by omega
  rw [hm] at hA
  clear hm
  by_cases hi : img.size ≤ 4 + 4 * m
  · have HN := new_any W (4 + 4 * m) img (by omega) (by omega) (by omega) hi
    have hi' : ¬ (4 + 4 * (m : Int) < (img.size : Int)) := by omega
    have HI : Hid (img.size ≤ 4 + 4 * m ∧ m < 128) := ⟨hi, by omega⟩
    have e : ((4 + 4 * m : Nat) : Int) = 4 + 4 * (m : Int) := by omega
    rw [e] at HN
    clear hi e
    go_enter Try.func8, Try.ntmps8
    go_wp2_with fail
    refine HN.mono ?_
    rintro e w1 ⟨x, rfl, ⟨r, hc, hne, hx, hr⟩, hb⟩
    have HK : Hid (KNew W w1 x r (4 + 4 * m) img) := ⟨hc, by omega, by have := HI.out.2; omega, HI.out.1, hne, hx, hr, hb⟩
    clear hc hne hx hr hb
    go_wp2
    go_ret
    exact ⟨x, rfl, r, _, img, HK.out⟩
  · have hz : (img.extract 0 (4 + 4 * m)).size ≤ 4 + 4 * m := by simp; omega
    have HN := new_any W (4 + 4 * m) (img.extract 0 (4 + 4 * m)) (by omega) (by omega) (by omega) hz
    have hi' : 4 + 4 * (m : Int) < (img.size : Int) := by omega
    have HI : Hid ((img.extract 0 (4 + 4 * m)).size ≤ 4 + 4 * m ∧ m < 128) := ⟨hz, by omega⟩
    have e : ((4 + 4 * m : Nat) : Int) = 4 + 4 * (m : Int) := by omega
    rw [e] at HN
    clear hi e hz
    go_enter Try.func8, Try.ntmps8
    go_wp2_with fail
    refine HN.mono ?_
    rintro e w1 ⟨x, rfl, ⟨r, hc, hne, hx, hr⟩, hb⟩
    have HK : Hid (KNew W w1 x r (4 + 4 * m) (img.extract 0 (4 + 4 * m))) := ⟨hc, by omega, by have := HI.out.2; omega, HI.out.1, hne, hx, hr, hb⟩
    clear hc hne hx hr hb
    go_wp2
    go_ret
    exact ⟨x, rfl, r, _, _, HK.out⟩
end Go.Proofs.Yteiideeechnekaa
