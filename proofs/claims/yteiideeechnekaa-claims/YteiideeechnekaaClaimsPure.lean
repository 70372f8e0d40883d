/-
  hartkeep.Claims: what a claim and a completion leave, in the law's own words.
-/
import Derived.Test.YteiideeechnekaaKeepPure
namespace Go.Proofs.Yteiideeechnekaa
open Go.RowKit

theorem u32and_comm {a b : Int} (ha : W32 a) (hb : W32 b) : bits .and .u32 a b = bits .and .u32 b a := by
  rw [u32_and a b ha.1 ha.2 hb.1 hb.2, u32_and b a hb.1 hb.2 ha.1 ha.2, Nat.and_comm]
theorem u32and_assoc {a b c : Int} (ha : W32 a) (hb : W32 b) (hc : W32 c) : bits .and .u32 (bits .and .u32 a b) c = bits .and .u32 a (bits .and .u32 b c) := by
  obtain ⟨l, rfl⟩ : ∃ n : Nat, a = n := ⟨a.toNat, by have := ha.1; omega⟩
  obtain ⟨m, rfl⟩ : ∃ n : Nat, b = n := ⟨b.toNat, by have := hb.1; omega⟩
  obtain ⟨n, rfl⟩ : ∃ n : Nat, c = n := ⟨c.toNat, by have := hc.1; omega⟩
  have h1 : l < 4294967296 := by have := ha.2; omega
  have h2 : m < 4294967296 := by have := hb.2; omega
  have h3 : n < 4294967296 := by have := hc.2; omega
  rw [u32_and_nat l m h1 h2, u32_and_nat m n h2 h3, u32_and_nat _ n (Nat.lt_of_le_of_lt Nat.and_le_left h1) h3, u32_and_nat l _ h1 (Nat.lt_of_le_of_lt Nat.and_le_left h2), Nat.and_assoc]
theorem low_off : ∀ m : Fin 8, m.val ≠ 0 → bits .andNot .u32 ((2 ^ m.val : Nat) : Int) 1 = ((2 ^ m.val : Nat) : Int) := by decide +kernel
/-- What a claim of m leaves. -/
theorem claim_bits {s : RSt} (D : Dvs s) (m : Nat) (h7 : m ≤ 7) : (cOf (claimS s m)).pend = bits .andNot .u32 (cOf s).pend (bits .andNot .u32 ((2 ^ m : Nat) : Int) 1) ∧ (cOf (claimS s m)).served = bits .or .u32 (cOf s).served (bits .andNot .u32 ((2 ^ m : Nat) : Int) 1) := by
  have wp : W32 (cOf s).pend := mk_w (fun i => (srcAt s i).waits)
  have ws : W32 (cOf s).served := mk_w (fun i => (srcAt s i).served)
  rw [cOf_claim D m h7]
  unfold claimC
  by_cases h : m = 0
  · subst h
    rw [if_pos rfl, show bits .andNot .u32 ((2 ^ 0 : Nat) : Int) 1 = 0 by decide, andNot_zero wp, zero_or ws]
    exact ⟨rfl, rfl⟩
  · rw [if_neg h, low_off ⟨m, by omega⟩ h]
    exact ⟨rfl, rfl⟩
theorem read_claim {s : RSt} (D : Dvs s) (hr : s.ram.length = 4) (c : Nat) (hc : c < 2) (a : Nat) (ha : a = 8244 + 8 * c) : readC (cOf s) a 4 = (cOf (claimS s (topT s c 7)), ((topT s c 7 : Nat) : Int), true) := by
  rw [top_best D]
  unfold readC
  rw [if_neg (by decide), if_neg (by decide), if_pos rfl, if_neg (show ¬ a + 4 ≤ (cOf s).ram.length by show ¬ a + 4 ≤ s.ram.length; omega), dev_of D a]
  have hcc : c = 0 ∨ c = 1 := by omega
  rcases hcc with rfl | rfl <;> subst ha <;> rfl
/-- What a completion leaves. -/
theorem compl_bits {s : RSt} (D : Dvs s) (c : Nat) (he : W32 (enAt s c)) (v : Nat) (h7 : v ≤ 7) : (cOf (complR s c v)).served = bits .andNot .u32 (cOf s).served (bits .and .u32 (bits .and .u32 ((2 ^ v : Nat) : Int) (cOf s).served) (enAt s c)) ∧ (cOf (complR s c v)).pend = bits .or .u32 (cOf s).pend (bits .and .u32 (bits .and .u32 (bits .and .u32 ((2 ^ v : Nat) : Int) (cOf s).served) (enAt s c)) (cOf s).level) := by
  have wp : W32 (cOf s).pend := mk_w (fun i => (srcAt s i).waits)
  have ws : W32 (cOf s).served := mk_w (fun i => (srcAt s i).served)
  have wl : W32 (cOf s).level := mk_w (fun i => (srcAt s i).high)
  have w2 := p2_w h7
  rw [cOf_compl D c he v]
  unfold complC
  by_cases h : v = 0
  · subst h
    have z : bits .and .u32 ((2 ^ 0 : Nat) : Int) (cOf s).served = 0 := by
      rw [one_and ws 0 (by decide)]
      have e : isB (cOf s).served 0 = false := by
        have t := mk_tb (fun i => (srcAt s i).served) 0
        have e : (((cOf s).served.toNat : Nat) : Int) = (cOf s).served := by have := ws.1; omega
        rw [← e, isB_tb _ 0 (by have := ws.2; omega)]
        exact t.trans rfl
      rw [e]
      rfl
    have z0 : ∀ a : Int, W32 a → bits .and .u32 0 a = 0 := fun a h => by rw [u32_and 0 a (by decide) (by decide) h.1 h.2]; simp
    rw [if_pos (by omega), z, z0 _ he, z0 _ wl, andNot_zero ws, zero_or wp]
    exact ⟨rfl, rfl⟩
  · have e : bits .and .u32 (bits .and .u32 ((2 ^ v : Nat) : Int) (cOf s).served) (enAt s c) = bits .and .u32 (bits .and .u32 (cOf s).served (enAt s c)) ((2 ^ v : Nat) : Int) := by
      rw [u32and_assoc w2 ws he, u32and_comm w2 (ws.and he)]
    rw [if_neg (by omega), e]
    exact ⟨rfl, rfl⟩
theorem compl_far {s : RSt} (c : Nat) (v : Nat) (h7 : ¬ v ≤ 7) : (cOf (complR s c v)).served = bits .andNot .u32 (cOf s).served 0 ∧ (cOf (complR s c v)).pend = bits .or .u32 (cOf s).pend (bits .and .u32 0 (cOf s).level) := by
  have wp : W32 (cOf s).pend := mk_w (fun i => (srcAt s i).waits)
  have ws : W32 (cOf s).served := mk_w (fun i => (srcAt s i).served)
  have wl : W32 (cOf s).level := mk_w (fun i => (srcAt s i).high)
  have z0 : bits .and .u32 0 (cOf s).level = 0 := by rw [u32_and 0 _ (by decide) (by decide) wl.1 wl.2]; simp
  rw [show complR s c v = s from if_pos (by omega), z0, andNot_zero ws, zero_or wp]
  exact ⟨rfl, rfl⟩
theorem write_claim {s : RSt} (D : Dvs s) (hr : s.ram.length = 4) (c : Nat) (hc : c < 2) (a : Nat) (ha : a = 8244 + 8 * c) (v : Int) : writeC (cOf s) a 4 v = (cOf (complR s c v), true) := by
  unfold writeC
  rw [if_neg (by decide), if_neg (by decide), if_pos rfl, if_neg (show ¬ a + 4 ≤ (cOf s).ram.length by show ¬ a + 4 ≤ s.ram.length; omega), set_of D a]
  have hcc : c = 0 ∨ c = 1 := by omega
  rcases hcc with rfl | rfl <;> subst ha <;> rfl
theorem write_word {s : RSt} (D : Dvs s) (hr : s.ram.length = 4) (a : Nat) (ha : 8192 ≤ a) (v : Int) : writeC (cOf s) a 4 v = (cOf (setR s a v).1, (setR s a v).2) := by
  unfold writeC
  rw [if_neg (by decide), if_neg (by decide), if_pos rfl, if_neg (show ¬ a + 4 ≤ (cOf s).ram.length by show ¬ a + 4 ≤ s.ram.length; omega), set_of D a]
theorem compl_soft (s : RSt) (c : Nat) (v : Int) : (complR s c v).soft = s.soft ∧ (complR s c v).ram = s.ram := by
  unfold complR
  split
  · exact ⟨rfl, rfl⟩
  · split
    · exact ⟨rfl, rfl⟩
    · split <;> exact ⟨rfl, rfl⟩
theorem claim_soft (s : RSt) (m : Nat) : (claimS s m).soft = s.soft ∧ (claimS s m).ram = s.ram := by
  unfold claimS
  split <;> exact ⟨rfl, rfl⟩
theorem enAt_w {s : RSt} (D : Dvs s) (c : Nat) (hc : c < 2) : W32 (enAt s c) := by
  have hcc : c = 0 ∨ c = 1 := by omega
  rcases hcc with rfl | rfl
  · exact D.en0
  · exact D.en1
end Go.Proofs.Yteiideeechnekaa
