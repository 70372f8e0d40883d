/-
  Words in memory, and numbers, in plain arithmetic.
-/
import GoSem.Claim
import Derived.Laws.BitsAllLaws
import Derived.Laws.BitsLemmas
namespace Go.Proofs.YteiideeechnekaaGreatDoor

theorem join_w (i : Nat) (x y : Int) (hx0 : 0 ≤ x) (hx : x % 2 ^ i = 0) (hx1 : x < 2 ^ 32) (hy0 : 0 ≤ y) (hy : y < 2 ^ i) (hy1 : y < 2 ^ 32) : bits .or .u32 x y = x + y :=
  bits_join .u32 32 (by decide) (fun n h0 h1 => by rw [IntKind.wrap_u32]; omega) i x y hx0 hx hx1 hy0 hy hy1
/-- The number that w bytes at place a are, the low byte first. -/
def leV (bs : List Int) (a : Nat) : Nat → Int
  | 0 => 0
  | w + 1 => leV bs a w + (bs[a + w]?.getD 0) * 256 ^ w
/-- The bytes with the low w bytes of v at place a. -/
def stV (bs : List Int) (a : Nat) (v : Int) : Nat → List Int
  | 0 => bs
  | w + 1 => (stV bs a v w).set (a + w) (v / 256 ^ w % 256)
def Byt (bs : List Int) : Prop := ∀ b ∈ bs, 0 ≤ b ∧ b < 256
theorem Byt.at {bs : List Int} (h : Byt bs) (i : Nat) : 0 ≤ bs[i]?.getD 0 ∧ bs[i]?.getD 0 < 256 := by
  by_cases hi : i < bs.length
  · have := h (bs[i]?.getD 0) (by simp [hi]); exact this
  · simp [show bs[i]? = none by simp; omega]
theorem leV_1 (bs : List Int) (a : Nat) : leV bs a 1 = bs[a]?.getD 0 := by simp [leV]
theorem leV_2 (bs : List Int) (a : Nat) : leV bs a 2 = bs[a]?.getD 0 + bs[a + 1]?.getD 0 * 256 := by simp [leV]
theorem leV_3 (bs : List Int) (a : Nat) : leV bs a 3 = bs[a]?.getD 0 + bs[a + 1]?.getD 0 * 256 + bs[a + 2]?.getD 0 * 65536 := by simp [leV]
theorem leV_4 (bs : List Int) (a : Nat) : leV bs a 4 = bs[a]?.getD 0 + bs[a + 1]?.getD 0 * 256 + bs[a + 2]?.getD 0 * 65536 + bs[a + 3]?.getD 0 * 16777216 := by simp [leV]
theorem leV_bd {bs : List Int} (h : Byt bs) (a : Nat) : (0 ≤ leV bs a 1 ∧ leV bs a 1 < 256) ∧ (0 ≤ leV bs a 2 ∧ leV bs a 2 < 65536) ∧ (0 ≤ leV bs a 4 ∧ leV bs a 4 < 4294967296) := by
  have b0 := h.at a
  have b1 := h.at (a + 1)
  have b2 := h.at (a + 2)
  have b3 := h.at (a + 3)
  rw [leV_1, leV_2, leV_4]
  omega
theorem stV_len (bs : List Int) (a : Nat) (v : Int) (w : Nat) : (stV bs a v w).length = bs.length := by
  induction w with
  | zero => rfl
  | succ w ih => simp [stV, ih]
theorem stV_byt {bs : List Int} (h : Byt bs) (a : Nat) (v : Int) (w : Nat) : Byt (stV bs a v w) := by
  induction w with
  | zero => exact h
  | succ w ih =>
    intro b hb
    rcases List.mem_or_eq_of_mem_set hb with hb | rfl
    · exact ih b hb
    · omega

/-- A word read as signed. -/
def sgn (v : Int) : Int := if v < 2147483648 then v else v - 4294967296
theorem sgn_bd (v : Int) (h0 : 0 ≤ v) (h1 : v < 4294967296) : -2147483648 ≤ sgn v ∧ sgn v < 2147483648 := by unfold sgn; split <;> omega
end Go.Proofs.YteiideeechnekaaGreatDoor
