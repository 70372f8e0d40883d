/-
  The document's calls from outside: Line, Tick, Read and Write at every width.
-/
import Derived.Test.YtfdokajjlkcdgaaGreatDoorRefLds
namespace Go.Proofs.YtfdokajjlkcdgaaGreatDoor
open Go.RowKit

def tickR (s : RSt) : RSt := { s with mtime := (s.mtime + 1) % 4294967296 }
theorem tick_any (W : World) (p : Nat) (b : RBl) (s : RSt) (h : RefAt W p b s) (A : b.Apart p) :
    Calls Tryz.prog 75 #[.pointer (some ⟨p, 0, none⟩)] W fun e W' => e = .returned (.tuple #[]) ∧ RefAt W' p b (tickR s) ∧ Offs (b.l p) W W' := by
  have HF : Hid (RefAt W p b s) := h
  have c1 := h.mtime
  have f1 := h.fp
  clear h
  go_enter Tryz.func75, Tryz.ntmps75
  go_wp2
  go_end0
  exact ⟨rfl, HF.out.put_mtime A _, (Offs.refl _ _).put (by simp [RBl.l]) _⟩

def setH (s : RSt) (k : Nat) (v : Bool) : RSt := { s with src := s.src.set k { srcAt s k with high := v } }
/-- A line that there is. -/
def lineR (s : RSt) (k : Nat) (hi : Bool) : RSt := if hi then (if (srcAt s k).served then setH s k true else setW (setH s k true) k true) else setH s k false
theorem line_no (W : World) (p : Nat) (k : Int) (hi : Bool) (hk : k < 1 ∨ 7 < k) :
    Calls Tryz.prog 73 #[.pointer (some ⟨p, 0, none⟩), .int .i64 k, .bool hi] W fun e W' => e = .returned (.tuple #[]) ∧ W' = W := by
  by_cases h1 : k < 1
  · clear hk
    go_enter Tryz.func73, Tryz.ntmps73
    go_wp2
    exact bodyPost_ret (v := .tuple #[]) (by simp [results, Tryz.results73, go_sem]) rfl ⟨rfl, rfl⟩
  · have h7 : 7 < k := by omega
    clear hk
    go_enter Tryz.func73, Tryz.ntmps73
    go_wp2
    exact bodyPost_ret (v := .tuple #[]) (by simp [results, Tryz.results73, go_sem]) rfl ⟨rfl, rfl⟩
set_option maxHeartbeats 1000000 in
theorem line_any (W : World) (p : Nat) (b : RBl) (s : RSt) (h : RefAt W p b s) (A : b.Apart p) (k : Nat) (h1 : 1 ≤ k) (h7 : k ≤ 7) (hi : Bool) :
    Calls Tryz.prog 73 #[.pointer (some ⟨p, 0, none⟩), .int .i64 k, .bool hi] W fun e W' => e = .returned (.tuple #[]) ∧ RefAt W' p b (lineR s k hi) ∧ Offs (b.l p) W W' := by
  have HF : Hid (RefAt W p b s) := h
  have k1 := h.csrc
  have f1 := h.fs
  have c2 := h.high k (by omega)
  have h1' : ¬ ((k : Int) < 1) := by omega
  have h7' : ¬ (7 < (k : Int)) := by omega
  have hk8 : (k : Int) < 8 := by omega
  have R1 := h.put_high A k (by omega) hi
  have HR : Hid (RefAt (W.setCell ⟨b.src, k * 4, none⟩ (.bool hi)) p b (setH s k hi)) := R1
  have d1 : (W.setCell ⟨b.src, k * 4, none⟩ (.bool hi)).cell? ⟨p, 30, none⟩ = some (.slice (some ⟨b.src, 0, none⟩) 8 b.ksrc) := R1.csrc
  have d2 : (W.setCell ⟨b.src, k * 4, none⟩ (.bool hi)).cell? ⟨b.src, k * 4 + 2, none⟩ = some (.bool (srcAt s k).served) := (World.cell?_setCell_other _ _ _ _ (by intro e; injection e with e1 e2; omega)).trans (h.served k (by omega))
  have d3 : (W.setCell ⟨b.src, k * 4, none⟩ (.bool hi)).cell? ⟨b.src, k * 4 + 1, none⟩ = some (.bool (srcAt s k).waits) := (World.cell?_setCell_other _ _ _ _ (by intro e; injection e with e1 e2; omega)).trans (h.waits k (by omega))
  have f2 := R1.fs
  clear h R1
  cases hi
  · go_enter Tryz.func73, Tryz.ntmps73
    go_wp2
    go_end0
    exact ⟨rfl, HR.out, (Offs.refl _ _).put (by simp [RBl.l]) _⟩
  · by_cases hs : (srcAt s k).served = true
    · have HE : Hid (lineR s k true = setH s k true) := by unfold Hid lineR; rw [if_pos rfl, if_pos hs]
      rw [hs] at d2
      clear hs
      go_enter Tryz.func73, Tryz.ntmps73
      go_wp2
      go_end0
      exact ⟨rfl, by rw [HE.out]; exact HR.out, (Offs.refl _ _).put (by simp [RBl.l]) _⟩
    · have HE : Hid (lineR s k true = setW (setH s k true) k true) := by unfold Hid lineR; rw [if_pos rfl, if_neg hs]
      have hs' : (srcAt s k).served = false := by simpa using hs
      rw [hs'] at d2
      clear hs hs'
      go_enter Tryz.func73, Tryz.ntmps73
      go_wp2
      go_end0
      exact ⟨rfl, by rw [HE.out]; exact HR.out.put_waits A k (by omega) true, ((Offs.refl _ _).put (by simp [RBl.l]) _).put (by simp [RBl.l]) _⟩

theorem rread_odd (W : World) (p a : Nat) (w : Int) (h1 : (w != 1) = true) (h2 : (w != 2) = true) (h4 : (w != 4) = true) :
    Calls Tryz.prog 24 #[.pointer (some ⟨p, 0, none⟩), .int .u32 a, .int .i64 w] W fun e W' => e = .returned (.tuple #[.int .u32 0, .bool false]) ∧ W' = W := by
  go_enter Tryz.func24, Tryz.ntmps24
  go_wp2
  go_ret2
  exact ⟨rfl, rfl⟩
theorem rwrite_odd (W : World) (p a : Nat) (w v : Int) (h1 : (w != 1) = true) (h2 : (w != 2) = true) (h4 : (w != 4) = true) :
    Calls Tryz.prog 78 #[.pointer (some ⟨p, 0, none⟩), .int .u32 a, .int .i64 w, .int .u32 v] W fun e W' => e = .returned (.bool false) ∧ W' = W := by
  go_enter Tryz.func78, Tryz.ntmps78
  go_wp2
  go_ret
  exact ⟨rfl, rfl⟩
/-- A read from outside. -/
def readR (s : RSt) (a : Nat) (w : Int) : RSt × Int × Bool :=
  if w = 1 then (if a + 1 ≤ s.ram.length then (s, leV s.ram a 1, true) else (dvR s, 0, false))
  else if w = 2 then (if a + 2 ≤ s.ram.length then (s, leV s.ram a 2, true) else (dvR s, 0, false))
  else if w = 4 then (if a + 4 ≤ s.ram.length then (s, leV s.ram a 4, true) else devR (dvR s) a)
  else (s, 0, false)
theorem read_any (W : World) (p : Nat) (b : RBl) (s : RSt) (h : RefAt W p b s) (A : b.Apart p) (a : Nat) (ha : a < 4294967296) (w : Int) :
    Calls Tryz.prog 24 #[.pointer (some ⟨p, 0, none⟩), .int .u32 a, .int .i64 w] W fun e W' => e = .returned (.tuple #[.int .u32 (readR s a w).2.1, .bool (readR s a w).2.2]) ∧ RefAt W' p b (readR s a w).1 ∧ Offs (b.l p) W W' := by
  unfold readR
  by_cases w1 : w = 1
  · rw [if_pos w1]
    subst w1
    by_cases ho : a + 1 ≤ s.ram.length
    · rw [if_pos ho]
      refine (rread_1 W p b s h a ho).mono ?_
      rintro e w' ⟨rfl, q, rfl⟩
      exact ⟨rfl, h.drawn q, (Offs.refl _ _).drawn q⟩
    · rw [if_neg ho]
      exact rread_out_1 W p b s h A a ha ho
  by_cases w2 : w = 2
  · rw [if_neg w1, if_pos w2]
    subst w2
    by_cases ho : a + 2 ≤ s.ram.length
    · rw [if_pos ho]
      refine (rread_2 W p b s h a ho).mono ?_
      rintro e w' ⟨rfl, q, rfl⟩
      exact ⟨rfl, h.drawn q, (Offs.refl _ _).drawn q⟩
    · rw [if_neg ho]
      exact rread_out_2 W p b s h A a ha ho
  by_cases w4 : w = 4
  · rw [if_neg w1, if_neg w2, if_pos w4]
    subst w4
    by_cases ho : a + 4 ≤ s.ram.length
    · rw [if_pos ho]
      refine (rread_4 W p b s h a ho).mono ?_
      rintro e w' ⟨rfl, q, rfl⟩
      exact ⟨rfl, h.drawn q, (Offs.refl _ _).drawn q⟩
    · rw [if_neg ho]
      exact rread_out_4 W p b s h A a ha ho
  · rw [if_neg w1, if_neg w2, if_neg w4]
    refine (rread_odd W p a w (by simpa using w1) (by simpa using w2) (by simpa using w4)).mono ?_
    rintro e w' ⟨rfl, rfl⟩
    exact ⟨rfl, h, Offs.refl _ _⟩
/-- A write from outside. -/
def writeR (s : RSt) (a : Nat) (w v : Int) : RSt × Bool :=
  if w = 1 then (if a + 1 ≤ s.ram.length then ({ s with ram := stV s.ram a v 1 }, true) else (dvR s, false))
  else if w = 2 then (if a + 2 ≤ s.ram.length then ({ s with ram := stV s.ram a v 2 }, true) else (dvR s, false))
  else if w = 4 then (if a + 4 ≤ s.ram.length then ({ s with ram := stV s.ram a v 4 }, true) else setR (dvR s) a v)
  else (s, false)
theorem write_any (W : World) (p : Nat) (b : RBl) (s : RSt) (h : RefAt W p b s) (A : b.Apart p) (a : Nat) (ha : a < 4294967296) (w v : Int) (v0 : 0 ≤ v) (v1 : v < 4294967296)
    (CO : ∀ W', RefAt W' p b (dvR s) → ∀ c : Nat, c < 2 → Calls Tryz.prog 150 #[.pointer (some ⟨p, 0, none⟩), .int .i64 c, .int .u32 v] W' fun e W'' => e = .returned (.tuple #[]) ∧ RefAt W'' p b (complR (dvR s) c v) ∧ Offs (b.l p) W' W'') :
    Calls Tryz.prog 78 #[.pointer (some ⟨p, 0, none⟩), .int .u32 a, .int .i64 w, .int .u32 v] W fun e W' => e = .returned (.bool (writeR s a w v).2) ∧ RefAt W' p b (writeR s a w v).1 ∧ Offs (b.l p) W W' := by
  unfold writeR
  by_cases w1 : w = 1
  · rw [if_pos w1]
    subst w1
    by_cases ho : a + 1 ≤ s.ram.length
    · rw [if_pos ho]
      exact rwrite_1 W p b s h A a v v0 v1 ho
    · rw [if_neg ho]
      exact rwrite_out_1 W p b s h A a ha ho v
  by_cases w2 : w = 2
  · rw [if_neg w1, if_pos w2]
    subst w2
    by_cases ho : a + 2 ≤ s.ram.length
    · rw [if_pos ho]
      exact rwrite_2 W p b s h A a v v0 v1 ho
    · rw [if_neg ho]
      exact rwrite_out_2 W p b s h A a ha ho v
  by_cases w4 : w = 4
  · rw [if_neg w1, if_neg w2, if_pos w4]
    subst w4
    by_cases ho : a + 4 ≤ s.ram.length
    · rw [if_pos ho]
      exact rwrite_4 W p b s h A a v v0 v1 ho
    · rw [if_neg ho]
      exact rwrite_out_4 W p b s h A a ha ho v CO
  · rw [if_neg w1, if_neg w2, if_neg w4]
    refine (rwrite_odd W p a w v (by simpa using w1) (by simpa using w2) (by simpa using w4)).mono ?_
    rintro e w' ⟨rfl, rfl⟩
    exact ⟨rfl, h, Offs.refl _ _⟩
end Go.Proofs.YtfdokajjlkcdgaaGreatDoor
