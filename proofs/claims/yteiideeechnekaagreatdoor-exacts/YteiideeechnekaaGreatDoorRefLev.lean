/-
  The document's level.
-/
import Derived.Test.YteiideeechnekaaGreatDoorRefTrap
namespace Go.Proofs.YteiideeechnekaaGreatDoor
open Go.RowKit

def sys1 (s : RSt) : RSt := { s with system := wrap64 (s.system + 1) }
def mretR (s : RSt) : RSt := { s with pc := s.mepc, mode := s.mpp, mieb := s.mpie, mpie := true, mpp := 0 }
def sretR (s : RSt) : RSt := { s with pc := s.sepc, mode := s.spp, sie := s.spie, spie := true, spp := 0 }
def wfiR (s : RSt) : RSt := { s with pc := (s.pc + 4) % 4294967296, asleep := true }
def levR (s : RSt) (op w : Int) : RSt :=
  if op = 39 then failR (sys1 s) (if s.mode = 0 then 8 else if s.mode = 1 then 9 else 11) 0
  else if op = 40 then failR (sys1 s) 3 s.pc
  else if op = 41 then (if s.mode = 3 then mretR (sys1 s) else failR (sys1 s) 2 w)
  else if op = 42 then (if s.mode = 3 then sretR (sys1 s) else if s.mode = 1 then (if s.tsr then failR (sys1 s) 2 w else sretR (sys1 s)) else failR (sys1 s) 2 w)
  else (if s.mode = 3 then wfiR (sys1 s) else if s.mode = 1 then (if s.tw then failR (sys1 s) 2 w else wfiR (sys1 s)) else failR (sys1 s) 2 w)
set_option maxHeartbeats 1000000 in
set_option maxRecDepth 100000 in
theorem lev_39_0 (W : World) (p : Nat) (b : RBl) (s : RSt) (h : RefAt W p b s) (A : b.Apart p) (w : Int) (hm : s.mode = 0) :
    Calls Tryz.prog 64 #[.pointer (some ⟨p, 0, none⟩), .int .i64 39, .int .u32 w] W (RP W p b (levR s 39 w)) := by
  have HE : Hid (levR s 39 w = failR (sys1 s) 8 0) := by unfold Hid; simp [levR, hm]
  have HF : Hid (RefAt W p b s) := h
  have c0 := h.system
  have f0 := h.fp
  have c1 := h.pc
  have c2 := h.mode
  have c3 := h.mepc
  have c4 := h.mpp
  have c5 := h.mieb
  have c6 := h.mpie
  have c7 := h.sepc
  have c8 := h.spp
  have c9 := h.sie
  have c10 := h.spie
  have c11 := h.tsr
  have c12 := h.tw
  have c13 := h.asleep
  clear h
  go_enter Tryz.func64, Tryz.ntmps64
  go_wp2_with (go_at_call 30; refine (fails_any _ p b (sys1 s) (HF.out.put_system A _) A 8 (by decide) _).mono ?_; rintro e w2 ⟨rfl, h2, o2⟩)
  go_end0
  exact ⟨rfl, by rw [HE.out]; exact h2, ((Offs.refl _ _).put (by simp [RBl.l]) _).trans o2⟩
set_option maxHeartbeats 1000000 in
set_option maxRecDepth 100000 in
theorem lev_39_1 (W : World) (p : Nat) (b : RBl) (s : RSt) (h : RefAt W p b s) (A : b.Apart p) (w : Int) (hm : s.mode = 1) :
    Calls Tryz.prog 64 #[.pointer (some ⟨p, 0, none⟩), .int .i64 39, .int .u32 w] W (RP W p b (levR s 39 w)) := by
  have HE : Hid (levR s 39 w = failR (sys1 s) 9 0) := by unfold Hid; simp [levR, hm]
  have HF : Hid (RefAt W p b s) := h
  have c0 := h.system
  have f0 := h.fp
  have c1 := h.pc
  have c2 := h.mode
  have c3 := h.mepc
  have c4 := h.mpp
  have c5 := h.mieb
  have c6 := h.mpie
  have c7 := h.sepc
  have c8 := h.spp
  have c9 := h.sie
  have c10 := h.spie
  have c11 := h.tsr
  have c12 := h.tw
  have c13 := h.asleep
  clear h
  go_enter Tryz.func64, Tryz.ntmps64
  go_wp2_with (go_at_call 30; refine (fails_any _ p b (sys1 s) (HF.out.put_system A _) A 9 (by decide) _).mono ?_; rintro e w2 ⟨rfl, h2, o2⟩)
  go_end0
  exact ⟨rfl, by rw [HE.out]; exact h2, ((Offs.refl _ _).put (by simp [RBl.l]) _).trans o2⟩
set_option maxHeartbeats 1000000 in
set_option maxRecDepth 100000 in
theorem lev_39_3 (W : World) (p : Nat) (b : RBl) (s : RSt) (h : RefAt W p b s) (A : b.Apart p) (w : Int) (hm : s.mode = 3) :
    Calls Tryz.prog 64 #[.pointer (some ⟨p, 0, none⟩), .int .i64 39, .int .u32 w] W (RP W p b (levR s 39 w)) := by
  have HE : Hid (levR s 39 w = failR (sys1 s) 11 0) := by unfold Hid; simp [levR, hm]
  have HF : Hid (RefAt W p b s) := h
  have c0 := h.system
  have f0 := h.fp
  have c1 := h.pc
  have c2 := h.mode
  have c3 := h.mepc
  have c4 := h.mpp
  have c5 := h.mieb
  have c6 := h.mpie
  have c7 := h.sepc
  have c8 := h.spp
  have c9 := h.sie
  have c10 := h.spie
  have c11 := h.tsr
  have c12 := h.tw
  have c13 := h.asleep
  clear h
  go_enter Tryz.func64, Tryz.ntmps64
  go_wp2_with (go_at_call 30; refine (fails_any _ p b (sys1 s) (HF.out.put_system A _) A 11 (by decide) _).mono ?_; rintro e w2 ⟨rfl, h2, o2⟩)
  go_end0
  exact ⟨rfl, by rw [HE.out]; exact h2, ((Offs.refl _ _).put (by simp [RBl.l]) _).trans o2⟩
set_option maxHeartbeats 1000000 in
set_option maxRecDepth 100000 in
theorem lev_40_0 (W : World) (p : Nat) (b : RBl) (s : RSt) (h : RefAt W p b s) (A : b.Apart p) (w : Int) :
    Calls Tryz.prog 64 #[.pointer (some ⟨p, 0, none⟩), .int .i64 40, .int .u32 w] W (RP W p b (levR s 40 w)) := by
  have HE : Hid (levR s 40 w = failR (sys1 s) 3 s.pc) := by unfold Hid; simp [levR]
  have HF : Hid (RefAt W p b s) := h
  have c0 := h.system
  have f0 := h.fp
  have c1 := h.pc
  have c2 := h.mode
  have c3 := h.mepc
  have c4 := h.mpp
  have c5 := h.mieb
  have c6 := h.mpie
  have c7 := h.sepc
  have c8 := h.spp
  have c9 := h.sie
  have c10 := h.spie
  have c11 := h.tsr
  have c12 := h.tw
  have c13 := h.asleep
  clear h
  go_enter Tryz.func64, Tryz.ntmps64
  go_wp2_with (go_at_call 30; refine (fails_any _ p b (sys1 s) (HF.out.put_system A _) A 3 (by decide) _).mono ?_; rintro e w2 ⟨rfl, h2, o2⟩)
  go_end0
  exact ⟨rfl, by rw [HE.out]; exact h2, ((Offs.refl _ _).put (by simp [RBl.l]) _).trans o2⟩
set_option maxHeartbeats 1000000 in
set_option maxRecDepth 100000 in
theorem lev_41_0 (W : World) (p : Nat) (b : RBl) (s : RSt) (h : RefAt W p b s) (A : b.Apart p) (w : Int) (hm : s.mode = 0) :
    Calls Tryz.prog 64 #[.pointer (some ⟨p, 0, none⟩), .int .i64 41, .int .u32 w] W (RP W p b (levR s 41 w)) := by
  have HE : Hid (levR s 41 w = failR (sys1 s) 2 w) := by unfold Hid; simp [levR, hm]
  have HF : Hid (RefAt W p b s) := h
  have c0 := h.system
  have f0 := h.fp
  have c1 := h.pc
  have c2 := h.mode
  have c3 := h.mepc
  have c4 := h.mpp
  have c5 := h.mieb
  have c6 := h.mpie
  have c7 := h.sepc
  have c8 := h.spp
  have c9 := h.sie
  have c10 := h.spie
  have c11 := h.tsr
  have c12 := h.tw
  have c13 := h.asleep
  clear h
  go_enter Tryz.func64, Tryz.ntmps64
  go_wp2_with (go_at_call 30; refine (fails_any _ p b (sys1 s) (HF.out.put_system A _) A 2 (by decide) _).mono ?_; rintro e w2 ⟨rfl, h2, o2⟩)
  go_end0
  exact ⟨rfl, by rw [HE.out]; exact h2, ((Offs.refl _ _).put (by simp [RBl.l]) _).trans o2⟩
set_option maxHeartbeats 1000000 in
set_option maxRecDepth 100000 in
theorem lev_41_1 (W : World) (p : Nat) (b : RBl) (s : RSt) (h : RefAt W p b s) (A : b.Apart p) (w : Int) (hm : s.mode = 1) :
    Calls Tryz.prog 64 #[.pointer (some ⟨p, 0, none⟩), .int .i64 41, .int .u32 w] W (RP W p b (levR s 41 w)) := by
  have HE : Hid (levR s 41 w = failR (sys1 s) 2 w) := by unfold Hid; simp [levR, hm]
  have HF : Hid (RefAt W p b s) := h
  have c0 := h.system
  have f0 := h.fp
  have c1 := h.pc
  have c2 := h.mode
  have c3 := h.mepc
  have c4 := h.mpp
  have c5 := h.mieb
  have c6 := h.mpie
  have c7 := h.sepc
  have c8 := h.spp
  have c9 := h.sie
  have c10 := h.spie
  have c11 := h.tsr
  have c12 := h.tw
  have c13 := h.asleep
  clear h
  go_enter Tryz.func64, Tryz.ntmps64
  go_wp2_with (go_at_call 30; refine (fails_any _ p b (sys1 s) (HF.out.put_system A _) A 2 (by decide) _).mono ?_; rintro e w2 ⟨rfl, h2, o2⟩)
  go_end0
  exact ⟨rfl, by rw [HE.out]; exact h2, ((Offs.refl _ _).put (by simp [RBl.l]) _).trans o2⟩
set_option maxHeartbeats 1000000 in
set_option maxRecDepth 100000 in
theorem lev_41_3 (W : World) (p : Nat) (b : RBl) (s : RSt) (h : RefAt W p b s) (A : b.Apart p) (w : Int) (hm : s.mode = 3) :
    Calls Tryz.prog 64 #[.pointer (some ⟨p, 0, none⟩), .int .i64 41, .int .u32 w] W (RP W p b (levR s 41 w)) := by
  have HE : Hid (levR s 41 w = mretR (sys1 s)) := by unfold Hid; simp [levR, hm]
  have HF : Hid (RefAt W p b s) := h
  have c0 := h.system
  have f0 := h.fp
  have c1 := h.pc
  have c2 := h.mode
  have c3 := h.mepc
  have c4 := h.mpp
  have c5 := h.mieb
  have c6 := h.mpie
  have c7 := h.sepc
  have c8 := h.spp
  have c9 := h.sie
  have c10 := h.spie
  have c11 := h.tsr
  have c12 := h.tw
  have c13 := h.asleep
  clear h
  go_enter Tryz.func64, Tryz.ntmps64
  go_wp2
  go_end0
  exact ⟨rfl, by rw [HE.out]; exact ((((((HF.out.put_system A _).put_pc A _).put_mode A _).put_mieb A _).put_mpie A _).put_mpp A _), (((((((Offs.refl _ _).put (by simp [RBl.l]) _).put (by simp [RBl.l]) _).put (by simp [RBl.l]) _).put (by simp [RBl.l]) _).put (by simp [RBl.l]) _).put (by simp [RBl.l]) _)⟩
set_option maxHeartbeats 1000000 in
set_option maxRecDepth 100000 in
theorem lev_42_0 (W : World) (p : Nat) (b : RBl) (s : RSt) (h : RefAt W p b s) (A : b.Apart p) (w : Int) (hm : s.mode = 0) :
    Calls Tryz.prog 64 #[.pointer (some ⟨p, 0, none⟩), .int .i64 42, .int .u32 w] W (RP W p b (levR s 42 w)) := by
  have HE : Hid (levR s 42 w = failR (sys1 s) 2 w) := by unfold Hid; simp [levR, hm]
  have HF : Hid (RefAt W p b s) := h
  have c0 := h.system
  have f0 := h.fp
  have c1 := h.pc
  have c2 := h.mode
  have c3 := h.mepc
  have c4 := h.mpp
  have c5 := h.mieb
  have c6 := h.mpie
  have c7 := h.sepc
  have c8 := h.spp
  have c9 := h.sie
  have c10 := h.spie
  have c11 := h.tsr
  have c12 := h.tw
  have c13 := h.asleep
  clear h
  go_enter Tryz.func64, Tryz.ntmps64
  go_wp2_with (go_at_call 30; refine (fails_any _ p b (sys1 s) (HF.out.put_system A _) A 2 (by decide) _).mono ?_; rintro e w2 ⟨rfl, h2, o2⟩)
  go_end0
  exact ⟨rfl, by rw [HE.out]; exact h2, ((Offs.refl _ _).put (by simp [RBl.l]) _).trans o2⟩
set_option maxHeartbeats 1000000 in
set_option maxRecDepth 100000 in
theorem lev_42_1_t (W : World) (p : Nat) (b : RBl) (s : RSt) (h : RefAt W p b s) (A : b.Apart p) (w : Int) (hm : s.mode = 1) (hb : s.tsr = true) :
    Calls Tryz.prog 64 #[.pointer (some ⟨p, 0, none⟩), .int .i64 42, .int .u32 w] W (RP W p b (levR s 42 w)) := by
  have HE : Hid (levR s 42 w = failR (sys1 s) 2 w) := by unfold Hid; simp [levR, hm, hb]
  have HF : Hid (RefAt W p b s) := h
  have c0 := h.system
  have f0 := h.fp
  have c1 := h.pc
  have c2 := h.mode
  have c3 := h.mepc
  have c4 := h.mpp
  have c5 := h.mieb
  have c6 := h.mpie
  have c7 := h.sepc
  have c8 := h.spp
  have c9 := h.sie
  have c10 := h.spie
  have c11 := h.tsr
  have c12 := h.tw
  have c13 := h.asleep
  clear h
  go_enter Tryz.func64, Tryz.ntmps64
  go_wp2_with (go_at_call 30; refine (fails_any _ p b (sys1 s) (HF.out.put_system A _) A 2 (by decide) _).mono ?_; rintro e w2 ⟨rfl, h2, o2⟩)
  go_end0
  exact ⟨rfl, by rw [HE.out]; exact h2, ((Offs.refl _ _).put (by simp [RBl.l]) _).trans o2⟩
set_option maxHeartbeats 1000000 in
set_option maxRecDepth 100000 in
theorem lev_42_1_f (W : World) (p : Nat) (b : RBl) (s : RSt) (h : RefAt W p b s) (A : b.Apart p) (w : Int) (hm : s.mode = 1) (hb : s.tsr = false) :
    Calls Tryz.prog 64 #[.pointer (some ⟨p, 0, none⟩), .int .i64 42, .int .u32 w] W (RP W p b (levR s 42 w)) := by
  have HE : Hid (levR s 42 w = sretR (sys1 s)) := by unfold Hid; simp [levR, hm, hb]
  have HF : Hid (RefAt W p b s) := h
  have c0 := h.system
  have f0 := h.fp
  have c1 := h.pc
  have c2 := h.mode
  have c3 := h.mepc
  have c4 := h.mpp
  have c5 := h.mieb
  have c6 := h.mpie
  have c7 := h.sepc
  have c8 := h.spp
  have c9 := h.sie
  have c10 := h.spie
  have c11 := h.tsr
  have c12 := h.tw
  have c13 := h.asleep
  clear h
  go_enter Tryz.func64, Tryz.ntmps64
  go_wp2
  go_end0
  exact ⟨rfl, by rw [HE.out]; exact ((((((HF.out.put_system A _).put_pc A _).put_mode A _).put_sie A _).put_spie A _).put_spp A _), (((((((Offs.refl _ _).put (by simp [RBl.l]) _).put (by simp [RBl.l]) _).put (by simp [RBl.l]) _).put (by simp [RBl.l]) _).put (by simp [RBl.l]) _).put (by simp [RBl.l]) _)⟩
set_option maxHeartbeats 1000000 in
set_option maxRecDepth 100000 in
theorem lev_42_3 (W : World) (p : Nat) (b : RBl) (s : RSt) (h : RefAt W p b s) (A : b.Apart p) (w : Int) (hm : s.mode = 3) :
    Calls Tryz.prog 64 #[.pointer (some ⟨p, 0, none⟩), .int .i64 42, .int .u32 w] W (RP W p b (levR s 42 w)) := by
  have HE : Hid (levR s 42 w = sretR (sys1 s)) := by unfold Hid; simp [levR, hm]
  have HF : Hid (RefAt W p b s) := h
  have c0 := h.system
  have f0 := h.fp
  have c1 := h.pc
  have c2 := h.mode
  have c3 := h.mepc
  have c4 := h.mpp
  have c5 := h.mieb
  have c6 := h.mpie
  have c7 := h.sepc
  have c8 := h.spp
  have c9 := h.sie
  have c10 := h.spie
  have c11 := h.tsr
  have c12 := h.tw
  have c13 := h.asleep
  clear h
  go_enter Tryz.func64, Tryz.ntmps64
  go_wp2
  go_end0
  exact ⟨rfl, by rw [HE.out]; exact ((((((HF.out.put_system A _).put_pc A _).put_mode A _).put_sie A _).put_spie A _).put_spp A _), (((((((Offs.refl _ _).put (by simp [RBl.l]) _).put (by simp [RBl.l]) _).put (by simp [RBl.l]) _).put (by simp [RBl.l]) _).put (by simp [RBl.l]) _).put (by simp [RBl.l]) _)⟩
set_option maxHeartbeats 1000000 in
set_option maxRecDepth 100000 in
theorem lev_43_0 (W : World) (p : Nat) (b : RBl) (s : RSt) (h : RefAt W p b s) (A : b.Apart p) (w : Int) (hm : s.mode = 0) :
    Calls Tryz.prog 64 #[.pointer (some ⟨p, 0, none⟩), .int .i64 43, .int .u32 w] W (RP W p b (levR s 43 w)) := by
  have HE : Hid (levR s 43 w = failR (sys1 s) 2 w) := by unfold Hid; simp [levR, hm]
  have HF : Hid (RefAt W p b s) := h
  have c0 := h.system
  have f0 := h.fp
  have c1 := h.pc
  have c2 := h.mode
  have c3 := h.mepc
  have c4 := h.mpp
  have c5 := h.mieb
  have c6 := h.mpie
  have c7 := h.sepc
  have c8 := h.spp
  have c9 := h.sie
  have c10 := h.spie
  have c11 := h.tsr
  have c12 := h.tw
  have c13 := h.asleep
  clear h
  go_enter Tryz.func64, Tryz.ntmps64
  go_wp2_with (go_at_call 30; refine (fails_any _ p b (sys1 s) (HF.out.put_system A _) A 2 (by decide) _).mono ?_; rintro e w2 ⟨rfl, h2, o2⟩)
  go_end0
  exact ⟨rfl, by rw [HE.out]; exact h2, ((Offs.refl _ _).put (by simp [RBl.l]) _).trans o2⟩
set_option maxHeartbeats 1000000 in
set_option maxRecDepth 100000 in
theorem lev_43_1_t (W : World) (p : Nat) (b : RBl) (s : RSt) (h : RefAt W p b s) (A : b.Apart p) (w : Int) (hm : s.mode = 1) (hb : s.tw = true) :
    Calls Tryz.prog 64 #[.pointer (some ⟨p, 0, none⟩), .int .i64 43, .int .u32 w] W (RP W p b (levR s 43 w)) := by
  have HE : Hid (levR s 43 w = failR (sys1 s) 2 w) := by unfold Hid; simp [levR, hm, hb]
  have HF : Hid (RefAt W p b s) := h
  have c0 := h.system
  have f0 := h.fp
  have c1 := h.pc
  have c2 := h.mode
  have c3 := h.mepc
  have c4 := h.mpp
  have c5 := h.mieb
  have c6 := h.mpie
  have c7 := h.sepc
  have c8 := h.spp
  have c9 := h.sie
  have c10 := h.spie
  have c11 := h.tsr
  have c12 := h.tw
  have c13 := h.asleep
  clear h
  go_enter Tryz.func64, Tryz.ntmps64
  go_wp2_with (go_at_call 30; refine (fails_any _ p b (sys1 s) (HF.out.put_system A _) A 2 (by decide) _).mono ?_; rintro e w2 ⟨rfl, h2, o2⟩)
  go_end0
  exact ⟨rfl, by rw [HE.out]; exact h2, ((Offs.refl _ _).put (by simp [RBl.l]) _).trans o2⟩
set_option maxHeartbeats 1000000 in
set_option maxRecDepth 100000 in
theorem lev_43_1_f (W : World) (p : Nat) (b : RBl) (s : RSt) (h : RefAt W p b s) (A : b.Apart p) (w : Int) (hm : s.mode = 1) (hb : s.tw = false) :
    Calls Tryz.prog 64 #[.pointer (some ⟨p, 0, none⟩), .int .i64 43, .int .u32 w] W (RP W p b (levR s 43 w)) := by
  have HE : Hid (levR s 43 w = wfiR (sys1 s)) := by unfold Hid; simp [levR, hm, hb]
  have HF : Hid (RefAt W p b s) := h
  have c0 := h.system
  have f0 := h.fp
  have c1 := h.pc
  have c2 := h.mode
  have c3 := h.mepc
  have c4 := h.mpp
  have c5 := h.mieb
  have c6 := h.mpie
  have c7 := h.sepc
  have c8 := h.spp
  have c9 := h.sie
  have c10 := h.spie
  have c11 := h.tsr
  have c12 := h.tw
  have c13 := h.asleep
  clear h
  go_enter Tryz.func64, Tryz.ntmps64
  go_wp2
  go_end0
  exact ⟨rfl, by rw [HE.out]; exact (((HF.out.put_system A _).put_pc A _).put_asleep A _), ((((Offs.refl _ _).put (by simp [RBl.l]) _).put (by simp [RBl.l]) _).put (by simp [RBl.l]) _)⟩
set_option maxHeartbeats 1000000 in
set_option maxRecDepth 100000 in
theorem lev_43_3 (W : World) (p : Nat) (b : RBl) (s : RSt) (h : RefAt W p b s) (A : b.Apart p) (w : Int) (hm : s.mode = 3) :
    Calls Tryz.prog 64 #[.pointer (some ⟨p, 0, none⟩), .int .i64 43, .int .u32 w] W (RP W p b (levR s 43 w)) := by
  have HE : Hid (levR s 43 w = wfiR (sys1 s)) := by unfold Hid; simp [levR, hm]
  have HF : Hid (RefAt W p b s) := h
  have c0 := h.system
  have f0 := h.fp
  have c1 := h.pc
  have c2 := h.mode
  have c3 := h.mepc
  have c4 := h.mpp
  have c5 := h.mieb
  have c6 := h.mpie
  have c7 := h.sepc
  have c8 := h.spp
  have c9 := h.sie
  have c10 := h.spie
  have c11 := h.tsr
  have c12 := h.tw
  have c13 := h.asleep
  clear h
  go_enter Tryz.func64, Tryz.ntmps64
  go_wp2
  go_end0
  exact ⟨rfl, by rw [HE.out]; exact (((HF.out.put_system A _).put_pc A _).put_asleep A _), ((((Offs.refl _ _).put (by simp [RBl.l]) _).put (by simp [RBl.l]) _).put (by simp [RBl.l]) _)⟩
theorem lev_any (W : World) (p : Nat) (b : RBl) (s : RSt) (h : RefAt W p b s) (A : b.Apart p) (op w : Int) (ho : 39 ≤ op ∧ op ≤ 43) (hm : s.mode = 0 ∨ s.mode = 1 ∨ s.mode = 3) :
    Calls Tryz.prog 64 #[.pointer (some ⟨p, 0, none⟩), .int .i64 op, .int .u32 w] W (RP W p b (levR s op w)) := by
  have : op = 39 ∨ op = 40 ∨ op = 41 ∨ op = 42 ∨ op = 43 := by omega
  rcases this with rfl | rfl | rfl | rfl | rfl <;> rcases hm with hm | hm | hm
  · exact lev_39_0 W p b s h A w hm
  · exact lev_39_1 W p b s h A w hm
  · exact lev_39_3 W p b s h A w hm
  · exact lev_40_0 W p b s h A w
  · exact lev_40_0 W p b s h A w
  · exact lev_40_0 W p b s h A w
  · exact lev_41_0 W p b s h A w hm
  · exact lev_41_1 W p b s h A w hm
  · exact lev_41_3 W p b s h A w hm
  · exact lev_42_0 W p b s h A w hm
  · by_cases hb : s.tsr = true
    · exact lev_42_1_t W p b s h A w hm hb
    · exact lev_42_1_f W p b s h A w hm (by simpa using hb)
  · exact lev_42_3 W p b s h A w hm
  · exact lev_43_0 W p b s h A w hm
  · by_cases hb : s.tw = true
    · exact lev_43_1_t W p b s h A w hm hb
    · exact lev_43_1_f W p b s h A w hm (by simpa using hb)
  · exact lev_43_3 W p b s h A w hm
end Go.Proofs.YteiideeechnekaaGreatDoor
