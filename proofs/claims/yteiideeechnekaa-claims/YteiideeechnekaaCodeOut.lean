/-
  The code's calls from outside: Read, Write, Line, Tick.
-/
import Derived.Test.YteiideeechnekaaCodeMem
import Derived.Test.YteiideeechnekaaCodeDev
namespace Go.Proofs.Yteiideeechnekaa
open Go.RowKit

def readC (c : CSt) (a : Nat) (w : Int) : CSt × Int × Bool :=
  if w = 1 then (if a + 1 ≤ c.ram.length then (c, leV c.ram a 1, true) else (c, 0, false))
  else if w = 2 then (if a + 2 ≤ c.ram.length then (c, leV c.ram a 2, true) else (c, 0, false))
  else if w = 4 then (if a + 4 ≤ c.ram.length then (c, leV c.ram a 4, true) else devC c a)
  else (c, 0, false)
def writeC (c : CSt) (a : Nat) (w v : Int) : CSt × Bool :=
  if w = 1 then (if a + 1 ≤ c.ram.length then ({ c with ram := stV c.ram a v 1 }, true) else (c, false))
  else if w = 2 then (if a + 2 ≤ c.ram.length then ({ c with ram := stV c.ram a v 2 }, true) else (c, false))
  else if w = 4 then (if a + 4 ≤ c.ram.length then ({ c with ram := stV c.ram a v 4 }, true) else setD c a v)
  else (c, false)
theorem inRam_odd (W : World) (x a : Nat) (w : Int) (h1 : (w != 1) = true) (h2 : (w != 2) = true) (h4 : (w != 4) = true) :
    Calls Try.prog 38 #[.pointer (some ⟨x, 0, none⟩), .int .u32 a, .int .i64 w] W fun e W' => e = .returned (.bool false) ∧ ∃ q, W' = W.drewN q := by
  go_enter Try.func38, Try.ntmps38
  go_wp2
  go_ret
  exact ⟨rfl, 0, rfl⟩
theorem inRam_out_1 (W : World) (x r : Nat) (s : CSt) (h : CodeAt W x r s) (a : Nat) (h32 : a < 4294967296) (ha : ¬ a + 1 ≤ s.ram.length) :
    Calls Try.prog 38 #[.pointer (some ⟨x, 0, none⟩), .int .u32 a, .int .i64 1] W fun e W' => e = .returned (.bool false) ∧ ∃ q, W' = W.drewN q := by
  have c1 := h.ram
  have hl := h.bytes.2.1
  have ha' : (s.ram.length : Int) < (a : Int) + 1 := by omega
  have h32' : (a : Int) < 4294967296 := by omega
  have HD : Hid (decide ((a : Int) + 1 ≤ s.ram.length) = false) := decide_eq_false (by omega)
  clear h ha ha'
  go_enter Try.func38, Try.ntmps38
  go_wp2
  go_ret
  refine ⟨?_, 0, rfl⟩
  show Ending.returned (.bool (decide ((a : Int) + 1 ≤ s.ram.length))) = _
  rw [HD.out]
theorem inRam_out_2 (W : World) (x r : Nat) (s : CSt) (h : CodeAt W x r s) (a : Nat) (h32 : a < 4294967296) (ha : ¬ a + 2 ≤ s.ram.length) :
    Calls Try.prog 38 #[.pointer (some ⟨x, 0, none⟩), .int .u32 a, .int .i64 2] W fun e W' => e = .returned (.bool false) ∧ ∃ q, W' = W.drewN q := by
  have c1 := h.ram
  have hl := h.bytes.2.1
  have ha' : (s.ram.length : Int) < (a : Int) + 2 := by omega
  have h32' : (a : Int) < 4294967296 := by omega
  have HD : Hid (decide ((a : Int) + 2 ≤ s.ram.length) = false) := decide_eq_false (by omega)
  clear h ha ha'
  go_enter Try.func38, Try.ntmps38
  go_wp2
  go_ret
  refine ⟨?_, 0, rfl⟩
  show Ending.returned (.bool (decide ((a : Int) + 2 ≤ s.ram.length))) = _
  rw [HD.out]
theorem inRam_out_4 (W : World) (x r : Nat) (s : CSt) (h : CodeAt W x r s) (a : Nat) (h32 : a < 4294967296) (ha : ¬ a + 4 ≤ s.ram.length) :
    Calls Try.prog 38 #[.pointer (some ⟨x, 0, none⟩), .int .u32 a, .int .i64 4] W fun e W' => e = .returned (.bool false) ∧ ∃ q, W' = W.drewN q := by
  have c1 := h.ram
  have hl := h.bytes.2.1
  have ha' : (s.ram.length : Int) < (a : Int) + 4 := by omega
  have h32' : (a : Int) < 4294967296 := by omega
  have HD : Hid (decide ((a : Int) + 4 ≤ s.ram.length) = false) := decide_eq_false (by omega)
  clear h ha ha'
  go_enter Try.func38, Try.ntmps38
  go_wp2
  go_ret
  refine ⟨?_, 0, rfl⟩
  show Ending.returned (.bool (decide ((a : Int) + 4 ≤ s.ram.length))) = _
  rw [HD.out]
theorem loadRam_no (W : World) (x a : Nat) (w : Int) (HI : Calls Try.prog 38 #[.pointer (some ⟨x, 0, none⟩), .int .u32 a, .int .i64 w] W fun e W' => e = .returned (.bool false) ∧ ∃ q, W' = W.drewN q) :
    Calls Try.prog 27 #[.pointer (some ⟨x, 0, none⟩), .int .u32 a, .int .i64 w] W fun e W' => e = .returned (.tuple #[.int .u32 0, .bool false]) ∧ ∃ q, W' = W.drewN q := by
  go_enter Try.func27, Try.ntmps27
  go_wp2_with (go_at_call 38; refine HI.mono ?_; rintro e w' ⟨rfl, q0, rfl⟩)
  go_ret2
  exact ⟨rfl, q0, rfl⟩
theorem storeRam_no (W : World) (x a : Nat) (w v : Int) (HI : Calls Try.prog 38 #[.pointer (some ⟨x, 0, none⟩), .int .u32 a, .int .i64 w] W fun e W' => e = .returned (.bool false) ∧ ∃ q, W' = W.drewN q) :
    Calls Try.prog 24 #[.pointer (some ⟨x, 0, none⟩), .int .u32 a, .int .i64 w, .int .u32 v] W fun e W' => e = .returned (.bool false) ∧ ∃ q, W' = W.drewN q := by
  go_enter Try.func24, Try.ntmps24
  go_wp2_with (go_at_call 38; refine HI.mono ?_; rintro e w' ⟨rfl, q0, rfl⟩)
  go_ret
  exact ⟨rfl, q0, rfl⟩
-- Read
theorem cread_in (W : World) (x a : Nat) (w v : Int) (HL : Calls Try.prog 27 #[.pointer (some ⟨x, 0, none⟩), .int .u32 a, .int .i64 w] W fun e W' => e = .returned (.tuple #[.int .u32 v, .bool true]) ∧ ∃ q, W' = W.drewN q) :
    Calls Try.prog 11 #[.pointer (some ⟨x, 0, none⟩), .int .u32 a, .int .i64 w] W fun e W' => e = .returned (.tuple #[.int .u32 v, .bool true]) ∧ ∃ q, W' = W.drewN q := by
  go_enter Try.func11, Try.ntmps11
  go_wp2_with (go_at_call 27; refine HL.mono ?_; rintro e w' ⟨rfl, q0, rfl⟩)
  go_ret2
  exact ⟨rfl, q0, rfl⟩
theorem cread_no (W : World) (x a : Nat) (w : Int) (h4 : (w != 4) = true) (HL : Calls Try.prog 27 #[.pointer (some ⟨x, 0, none⟩), .int .u32 a, .int .i64 w] W fun e W' => e = .returned (.tuple #[.int .u32 0, .bool false]) ∧ ∃ q, W' = W.drewN q) :
    Calls Try.prog 11 #[.pointer (some ⟨x, 0, none⟩), .int .u32 a, .int .i64 w] W fun e W' => e = .returned (.tuple #[.int .u32 0, .bool false]) ∧ ∃ q, W' = W.drewN q := by
  go_enter Try.func11, Try.ntmps11
  go_wp2_with (go_at_call 27; refine HL.mono ?_; rintro e w' ⟨rfl, q0, rfl⟩)
  go_ret2
  exact ⟨rfl, q0, rfl⟩
theorem cread_4 (W : World) (x r : Nat) (s : CSt) (h : CodeAt W x r s) (A : x ≠ r) (a : Nat) (HL : Calls Try.prog 27 #[.pointer (some ⟨x, 0, none⟩), .int .u32 a, .int .i64 4] W fun e W' => e = .returned (.tuple #[.int .u32 0, .bool false]) ∧ ∃ q, W' = W.drewN q) :
    Calls Try.prog 11 #[.pointer (some ⟨x, 0, none⟩), .int .u32 a, .int .i64 4] W fun e W' => e = .returned (.tuple #[.int .u32 (devC s a).2.1, .bool (devC s a).2.2]) ∧ CodeAt W' x r (devC s a).1 ∧ Offs [x, r] W W' := by
  have HF : Hid (CodeAt W x r s) := h
  have HK : Hid (∀ q, Calls Try.prog 28 #[.pointer (some ⟨x, 51, none⟩), .int .u32 a] (W.drewN q) fun e W' => e = .returned (.tuple #[.int .u32 (clkV s a).1, .bool (clkV s a).2]) ∧ W' = W.drewN q) := fun q => clkR_any _ x r s (h.drawn q) a
  have HC : Hid (∀ q, Calls Try.prog 29 #[.pointer (some ⟨x, 54, none⟩), .int .u32 a] (W.drewN q) fun e W' => e = .returned (.tuple #[.int .u32 (linV s a).2.1, .bool (linV s a).2.2]) ∧ CodeAt W' x r (linV s a).1 ∧ Offs [x, r] (W.drewN q) W') := fun q => linR_any _ x r s (h.drawn q) A a
  have HE : Hid (devC s a = if (clkV s a).2 then (s, clkV s a) else linV s a) := rfl
  clear h
  obtain ⟨v, ok, hD⟩ : ∃ v ok, clkV s a = (v, ok) := ⟨_, _, rfl⟩
  rw [hD] at HK HE
  clear hD
  cases ok
  · have HE2 : Hid (devC s a = linV s a) := HE.out
    go_enter Try.func11, Try.ntmps11
    go_wp2_with (first | (go_at_call 27; refine HL.mono ?_; rintro e w' ⟨rfl, q0, rfl⟩) | (go_at_call 28; refine (HK.out _).mono ?_; rintro e w2 ⟨rfl, rfl⟩) | (go_at_call 29; refine (HC.out _).mono ?_; rintro e w2 ⟨rfl, h2, o2⟩))
    go_ret2
    exact ⟨by rw [HE2.out]; rfl, by rw [HE2.out]; exact h2, ((Offs.refl _ _).drawn _).trans o2⟩
  · have HE2 : Hid (devC s a = (s, v, true)) := HE.out
    go_enter Try.func11, Try.ntmps11
    go_wp2_with (first | (go_at_call 27; refine HL.mono ?_; rintro e w' ⟨rfl, q0, rfl⟩) | (go_at_call 28; refine (HK.out _).mono ?_; rintro e w2 ⟨rfl, rfl⟩))
    go_ret2
    exact ⟨by rw [HE2.out]; rfl, by rw [HE2.out]; exact HF.out.drawn _, (Offs.refl _ _).drawn _⟩
theorem cread_any (W : World) (x r : Nat) (s : CSt) (h : CodeAt W x r s) (A : x ≠ r) (a : Nat) (ha : a < 4294967296) (w : Int) :
    Calls Try.prog 11 #[.pointer (some ⟨x, 0, none⟩), .int .u32 a, .int .i64 w] W fun e W' => e = .returned (.tuple #[.int .u32 (readC s a w).2.1, .bool (readC s a w).2.2]) ∧ CodeAt W' x r (readC s a w).1 ∧ Offs [x, r] W W' := by
  unfold readC
  by_cases w1 : w = 1
  · rw [if_pos w1]
    subst w1
    by_cases ho : a + 1 ≤ s.ram.length
    · rw [if_pos ho]
      refine (cread_in W x a 1 _ (loadRam_1 W x r s h a ho)).mono ?_
      rintro e w' ⟨rfl, q, rfl⟩
      exact ⟨rfl, h.drawn q, (Offs.refl _ _).drawn q⟩
    · rw [if_neg ho]
      refine (cread_no W x a 1 (by decide) (loadRam_no W x a 1 (inRam_out_1 W x r s h a ha ho))).mono ?_
      rintro e w' ⟨rfl, q, rfl⟩
      exact ⟨rfl, h.drawn q, (Offs.refl _ _).drawn q⟩
  by_cases w2 : w = 2
  · rw [if_neg w1, if_pos w2]
    subst w2
    by_cases ho : a + 2 ≤ s.ram.length
    · rw [if_pos ho]
      refine (cread_in W x a 2 _ (loadRam_2 W x r s h a ho)).mono ?_
      rintro e w' ⟨rfl, q, rfl⟩
      exact ⟨rfl, h.drawn q, (Offs.refl _ _).drawn q⟩
    · rw [if_neg ho]
      refine (cread_no W x a 2 (by decide) (loadRam_no W x a 2 (inRam_out_2 W x r s h a ha ho))).mono ?_
      rintro e w' ⟨rfl, q, rfl⟩
      exact ⟨rfl, h.drawn q, (Offs.refl _ _).drawn q⟩
  by_cases w4 : w = 4
  · rw [if_neg w1, if_neg w2, if_pos w4]
    subst w4
    by_cases ho : a + 4 ≤ s.ram.length
    · rw [if_pos ho]
      refine (cread_in W x a 4 _ (loadRam_4 W x r s h a ho)).mono ?_
      rintro e w' ⟨rfl, q, rfl⟩
      exact ⟨rfl, h.drawn q, (Offs.refl _ _).drawn q⟩
    · rw [if_neg ho]
      exact cread_4 W x r s h A a (loadRam_no W x a 4 (inRam_out_4 W x r s h a ha ho))
  · rw [if_neg w1, if_neg w2, if_neg w4]
    refine (cread_no W x a w (by simpa using w4) (loadRam_no W x a w (inRam_odd W x a w (by simpa using w1) (by simpa using w2) (by simpa using w4)))).mono ?_
    rintro e w' ⟨rfl, q, rfl⟩
    exact ⟨rfl, h.drawn q, (Offs.refl _ _).drawn q⟩
-- Write
theorem cwrite_in (W : World) (x : Nat) (a : Nat) (w v : Int) (Q : World → Prop) (HL : Calls Try.prog 24 #[.pointer (some ⟨x, 0, none⟩), .int .u32 a, .int .i64 w, .int .u32 v] W fun e W' => e = .returned (.bool true) ∧ Q W') :
    Calls Try.prog 10 #[.pointer (some ⟨x, 0, none⟩), .int .u32 a, .int .i64 w, .int .u32 v] W fun e W' => e = .returned (.bool true) ∧ Q W' := by
  go_enter Try.func10, Try.ntmps10
  go_wp2_with (go_at_call 24; refine HL.mono ?_; rintro e w' ⟨rfl, hq⟩)
  go_ret
  exact ⟨rfl, hq⟩
theorem cwrite_no (W : World) (x a : Nat) (w v : Int) (h4 : (w != 4) = true) (HL : Calls Try.prog 24 #[.pointer (some ⟨x, 0, none⟩), .int .u32 a, .int .i64 w, .int .u32 v] W fun e W' => e = .returned (.bool false) ∧ ∃ q, W' = W.drewN q) :
    Calls Try.prog 10 #[.pointer (some ⟨x, 0, none⟩), .int .u32 a, .int .i64 w, .int .u32 v] W fun e W' => e = .returned (.bool false) ∧ ∃ q, W' = W.drewN q := by
  go_enter Try.func10, Try.ntmps10
  go_wp2_with (go_at_call 24; refine HL.mono ?_; rintro e w' ⟨rfl, q0, rfl⟩)
  go_ret
  exact ⟨rfl, q0, rfl⟩
theorem cwrite_4 (W : World) (x r : Nat) (s : CSt) (h : CodeAt W x r s) (A : x ≠ r) (a : Nat) (v : Int) (v0 : 0 ≤ v) (HL : Calls Try.prog 24 #[.pointer (some ⟨x, 0, none⟩), .int .u32 a, .int .i64 4, .int .u32 v] W fun e W' => e = .returned (.bool false) ∧ ∃ q, W' = W.drewN q) :
    Calls Try.prog 10 #[.pointer (some ⟨x, 0, none⟩), .int .u32 a, .int .i64 4, .int .u32 v] W fun e W' => e = .returned (.bool (setD s a v).2) ∧ CodeAt W' x r (setD s a v).1 ∧ Offs [x, r] W W' := by
  have HK : Hid (∀ q, Calls Try.prog 25 #[.pointer (some ⟨x, 51, none⟩), .int .u32 a, .int .u32 v] (W.drewN q) fun e W' => e = .returned (.bool (clkW s a v).2) ∧ CodeAt W' x r (clkW s a v).1 ∧ Offs [x, r] (W.drewN q) W') := fun q => clkW_any _ x r s (h.drawn q) A a v
  have HC : Hid (∀ w, CodeAt w x r s → Calls Try.prog 26 #[.pointer (some ⟨x, 54, none⟩), .int .u32 a, .int .u32 v] w fun e W' => e = .returned (.bool (linW s a v).2) ∧ CodeAt W' x r (linW s a v).1 ∧ Offs [x, r] w W') := fun w hw => linW_any _ x r s hw A a v v0
  have HE : Hid (setD s a v = if (clkW s a v).2 then clkW s a v else linW s a v) := rfl
  have HN : Hid ((clkW s a v).2 = false → (clkW s a v).1 = s) := fun e => by
    unfold clkW at e ⊢
    by_cases a4096 : a = 4096
    · rw [if_pos a4096] at e; cases e
    by_cases a4100 : a = 4100
    · rw [if_neg a4096, if_pos a4100] at e; cases e
    by_cases a4104 : a = 4104
    · rw [if_neg a4096, if_neg a4100, if_pos a4104] at e; cases e
    rw [if_neg a4096, if_neg a4100, if_neg a4104]
  clear h v0
  obtain ⟨s', ok, hD⟩ : ∃ s' ok, clkW s a v = (s', ok) := ⟨_, _, rfl⟩
  rw [hD] at HK HE HN
  clear hD
  cases ok
  · obtain rfl : s' = s := HN.out rfl
    have HE2 : Hid (setD s' a v = linW s' a v) := HE.out
    go_enter Try.func10, Try.ntmps10
    go_wp2_with (first | (go_at_call 24; refine HL.mono ?_; rintro e w' ⟨rfl, q0, rfl⟩) | (go_at_call 25; refine (HK.out _).mono ?_; rintro e w2 ⟨rfl, h2, o2⟩) | (go_at_call 26; refine (HC.out _ h2).mono ?_; rintro e w3 ⟨rfl, h3, o3⟩))
    go_ret
    exact ⟨by rw [HE2.out]; rfl, by rw [HE2.out]; exact h3, (((Offs.refl _ _).drawn _).trans o2).trans o3⟩
  · have HE2 : Hid (setD s a v = (s', true)) := HE.out
    go_enter Try.func10, Try.ntmps10
    go_wp2_with (first | (go_at_call 24; refine HL.mono ?_; rintro e w' ⟨rfl, q0, rfl⟩) | (go_at_call 25; refine (HK.out _).mono ?_; rintro e w2 ⟨rfl, h2, o2⟩))
    go_ret
    exact ⟨by rw [HE2.out]; rfl, by rw [HE2.out]; exact h2, ((Offs.refl _ _).drawn _).trans o2⟩
theorem cwrite_any (W : World) (x r : Nat) (s : CSt) (h : CodeAt W x r s) (A : x ≠ r) (a : Nat) (ha : a < 4294967296) (w v : Int) (v0 : 0 ≤ v) (v1 : v < 4294967296) :
    Calls Try.prog 10 #[.pointer (some ⟨x, 0, none⟩), .int .u32 a, .int .i64 w, .int .u32 v] W fun e W' => e = .returned (.bool (writeC s a w v).2) ∧ CodeAt W' x r (writeC s a w v).1 ∧ Offs [x, r] W W' := by
  unfold writeC
  by_cases w1 : w = 1
  · rw [if_pos w1]
    subst w1
    by_cases ho : a + 1 ≤ s.ram.length
    · rw [if_pos ho]
      exact cwrite_in W x a 1 v _ (storeRam_1 W x r s h A a v v0 v1 ho)
    · rw [if_neg ho]
      refine (cwrite_no W x a 1 v (by decide) (storeRam_no W x a 1 v (inRam_out_1 W x r s h a ha ho))).mono ?_
      rintro e w' ⟨rfl, q, rfl⟩
      exact ⟨rfl, h.drawn q, (Offs.refl _ _).drawn q⟩
  by_cases w2 : w = 2
  · rw [if_neg w1, if_pos w2]
    subst w2
    by_cases ho : a + 2 ≤ s.ram.length
    · rw [if_pos ho]
      exact cwrite_in W x a 2 v _ (storeRam_2 W x r s h A a v v0 v1 ho)
    · rw [if_neg ho]
      refine (cwrite_no W x a 2 v (by decide) (storeRam_no W x a 2 v (inRam_out_2 W x r s h a ha ho))).mono ?_
      rintro e w' ⟨rfl, q, rfl⟩
      exact ⟨rfl, h.drawn q, (Offs.refl _ _).drawn q⟩
  by_cases w4 : w = 4
  · rw [if_neg w1, if_neg w2, if_pos w4]
    subst w4
    by_cases ho : a + 4 ≤ s.ram.length
    · rw [if_pos ho]
      exact cwrite_in W x a 4 v _ (storeRam_4 W x r s h A a v v0 v1 ho)
    · rw [if_neg ho]
      exact cwrite_4 W x r s h A a v v0 (storeRam_no W x a 4 v (inRam_out_4 W x r s h a ha ho))
  · rw [if_neg w1, if_neg w2, if_neg w4]
    refine (cwrite_no W x a w v (by simpa using w4) (storeRam_no W x a w v (inRam_odd W x a w (by simpa using w1) (by simpa using w2) (by simpa using w4)))).mono ?_
    rintro e w' ⟨rfl, q, rfl⟩
    exact ⟨rfl, h.drawn q, (Offs.refl _ _).drawn q⟩
-- Line, Tick
theorem hline_any (W : World) (x r : Nat) (s : CSt) (h : CodeAt W x r s) (A : x ≠ r) (k : Nat) (h1 : 1 ≤ k) (h7 : k ≤ 7) (hi : Bool) :
    Calls Try.prog 12 #[.pointer (some ⟨x, 0, none⟩), .int .i64 k, .bool hi] W fun e W' => e = .returned (.tuple #[]) ∧ CodeAt W' x r (lineC s k hi) ∧ Offs [x, r] W W' := by
  have HL := cline_any W x r s h A k h1 h7 hi
  clear h h1 h7
  go_enter Try.func12, Try.ntmps12
  go_wp2_with (go_at_call 30; refine HL.mono ?_; rintro e w' ⟨rfl, h2, o2⟩)
  go_end0
  exact ⟨rfl, h2, o2⟩
theorem hline_no (W : World) (x : Nat) (k : Int) (hi : Bool) (hk : k < 1 ∨ 7 < k) :
    Calls Try.prog 12 #[.pointer (some ⟨x, 0, none⟩), .int .i64 k, .bool hi] W fun e W' => e = .returned (.tuple #[]) ∧ W' = W := by
  have HL := cline_no W x k hi hk
  clear hk
  go_enter Try.func12, Try.ntmps12
  go_wp2_with (go_at_call 30; refine HL.mono ?_; rintro e w' ⟨rfl, rfl⟩)
  go_end0
  exact ⟨rfl, rfl⟩
theorem htick_any (W : World) (x r : Nat) (s : CSt) (h : CodeAt W x r s) (A : x ≠ r) :
    Calls Try.prog 13 #[.pointer (some ⟨x, 0, none⟩)] W fun e W' => e = .returned (.tuple #[]) ∧ CodeAt W' x r (tickC s) ∧ Offs [x, r] W W' := by
  have HL := ctick_any W x r s h A
  clear h
  go_enter Try.func13, Try.ntmps13
  go_wp2_with (go_at_call 31; refine HL.mono ?_; rintro e w' ⟨rfl, h2, o2⟩)
  go_end0
  exact ⟨rfl, h2, o2⟩
end Go.Proofs.Yteiideeechnekaa
