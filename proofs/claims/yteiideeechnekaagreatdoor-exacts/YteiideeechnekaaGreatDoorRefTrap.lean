/-
  The document's is, trap, fails, put and jump.
-/
import Derived.Test.YteiideeechnekaaGreatDoorRefPut
import Derived.Deep.RegionHeld3
namespace Go.Proofs.YteiideeechnekaaGreatDoor
open Go.RowKit

def isB (v : Int) (i : Nat) : Bool := bits .and .u32 (v / 2 ^ i) 1 == 1
theorem is_any (W : World) (v : Int) (i : Nat) (hi : i < 32) :
    Calls Tryz.prog 27 #[.int .u32 v, .int .i64 i] W fun e W' => e = .returned (.bool (isB v i)) ∧ W' = W := by
  have hi' : (i : Int) < 32 := by omega
  go_enter Tryz.func27, Tryz.ntmps27
  go_wp2
  go_ret
  exact ⟨rfl, rfl⟩

def trapS (s : RSt) (cause tval by_ : Int) : RSt := { s with traps := wrap64 (s.traps + 1), sepc := s.pc, scause := cause, stval := tval, spie := s.sie, sie := false, spp := s.mode, mode := 1, pc := (bits .and .u32 s.stvec 4294967292 + by_) % 4294967296 }
def trapM (s : RSt) (cause tval by_ : Int) : RSt := { s with traps := wrap64 (s.traps + 1), mepc := s.pc, mcause := cause, mtval := tval, mpie := s.mieb, mieb := false, mpp := s.mode, mode := 3, pc := (bits .and .u32 s.mtvec 4294967292 + by_) % 4294967296 }
def trapR (s : RSt) (sup : Bool) (cause tval by_ : Int) : RSt := if sup then trapS s cause tval by_ else trapM s cause tval by_

set_option maxHeartbeats 1000000 in
theorem trap_s (W : World) (p : Nat) (b : RBl) (s : RSt) (h : RefAt W p b s) (A : b.Apart p) (cause tval by_ : Int) :
    Calls Tryz.prog 28 #[.pointer (some ⟨p, 0, none⟩), .bool true, .int .u32 cause, .int .u32 tval, .int .u32 by_] W (RP W p b (trapS s cause tval by_)) := by
  have HF : Hid (RefAt W p b s) := h
  have c_traps := h.traps
  have c_pc := h.pc
  have c_sepc := h.sepc
  have c_scause := h.scause
  have c_stval := h.stval
  have c_sie := h.sie
  have c_spie := h.spie
  have c_mode := h.mode
  have c_spp := h.spp
  have c_stvec := h.stvec
  have fz := h.fp
  clear h
  go_enter Tryz.func28, Tryz.ntmps28
  go_wp2
  refine bodyPost_ret (v := .tuple #[]) (by simp [results, Tryz.results28, go_sem]) rfl ?_
  exact ⟨rfl, ((((((((HF.out.put_traps A _).put_sepc A _).put_scause A _).put_stval A _).put_spie A _).put_sie A _).put_spp A _).put_mode A _).put_pc A _, (((((((((Offs.refl _ _).put (by simp [RBl.l]) _).put (by simp [RBl.l]) _).put (by simp [RBl.l]) _).put (by simp [RBl.l]) _).put (by simp [RBl.l]) _).put (by simp [RBl.l]) _).put (by simp [RBl.l]) _).put (by simp [RBl.l]) _).put (by simp [RBl.l]) _⟩
set_option maxHeartbeats 1000000 in
theorem trap_m (W : World) (p : Nat) (b : RBl) (s : RSt) (h : RefAt W p b s) (A : b.Apart p) (cause tval by_ : Int) :
    Calls Tryz.prog 28 #[.pointer (some ⟨p, 0, none⟩), .bool false, .int .u32 cause, .int .u32 tval, .int .u32 by_] W (RP W p b (trapM s cause tval by_)) := by
  have HF : Hid (RefAt W p b s) := h
  have c_traps := h.traps
  have c_pc := h.pc
  have c_mepc := h.mepc
  have c_mcause := h.mcause
  have c_mtval := h.mtval
  have c_mieb := h.mieb
  have c_mpie := h.mpie
  have c_mode := h.mode
  have c_mpp := h.mpp
  have c_mtvec := h.mtvec
  have fz := h.fp
  clear h
  go_enter Tryz.func28, Tryz.ntmps28
  go_wp2
  go_end0
  exact ⟨rfl, ((((((((HF.out.put_traps A _).put_mepc A _).put_mcause A _).put_mtval A _).put_mpie A _).put_mieb A _).put_mpp A _).put_mode A _).put_pc A _, (((((((((Offs.refl _ _).put (by simp [RBl.l]) _).put (by simp [RBl.l]) _).put (by simp [RBl.l]) _).put (by simp [RBl.l]) _).put (by simp [RBl.l]) _).put (by simp [RBl.l]) _).put (by simp [RBl.l]) _).put (by simp [RBl.l]) _).put (by simp [RBl.l]) _⟩
theorem trap_any (W : World) (p : Nat) (b : RBl) (s : RSt) (h : RefAt W p b s) (A : b.Apart p) (sup : Bool) (cause tval by_ : Int) :
    Calls Tryz.prog 28 #[.pointer (some ⟨p, 0, none⟩), .bool sup, .int .u32 cause, .int .u32 tval, .int .u32 by_] W (RP W p b (trapR s sup cause tval by_)) := by
  cases sup
  · exact trap_m W p b s h A cause tval by_
  · exact trap_s W p b s h A cause tval by_

/-- A cause goes to Supervisor. -/
def supB (s : RSt) (cause : Nat) : Bool := if s.mode = 3 then false else isB s.medeleg cause
def failR (s : RSt) (cause : Nat) (tval : Int) : RSt := trapR s (supB s cause) cause tval 0
set_option maxHeartbeats 1000000 in
theorem fails_any (W : World) (p : Nat) (b : RBl) (s : RSt) (h : RefAt W p b s) (A : b.Apart p) (cause : Nat) (hc : cause < 32) (tval : Int) :
    Calls Tryz.prog 30 #[.pointer (some ⟨p, 0, none⟩), .int .i64 cause, .int .u32 tval] W (RP W p b (failR s cause tval)) := by
  have HF : Hid (RefAt W p b s) := h
  have c1 := h.mode
  have c2 := h.medeleg
  have hc' : (cause : Int) < 32 := by omega
  clear h
  obtain ⟨sup, hs⟩ : ∃ sup, sup = supB s cause := ⟨_, rfl⟩
  unfold failR
  rw [← hs]
  by_cases hm : s.mode = 3
  · have e : sup = false := by rw [hs, supB, if_pos hm]
    clear hs
    subst e
    go_enter Tryz.func30, Tryz.ntmps30
    go_wp2_with (first | (go_at_call 28; refine (trap_any _ p b s HF.out A _ _ _ _).mono ?_; rintro e w' ⟨rfl, hr, ho⟩))
    go_end0
    exact ⟨rfl, hr, ho⟩
  · have hm' : (s.mode != 3) = true := by simpa using hm
    have e : isB s.medeleg cause = sup := by rw [hs, supB, if_neg hm]
    clear hs hm
    go_enter Tryz.func30, Tryz.ntmps30
    go_wp2_with (first | (go_at_call 27; refine (is_any _ _ cause hc).mono ?_; rintro e w' ⟨rfl, rfl⟩) | (go_at_call 28; refine (trap_any _ p b s HF.out A _ _ _ _).mono ?_; rintro e w' ⟨rfl, hr, ho⟩))
    go_end0
    exact ⟨rfl, hr, ho⟩

/-- x0 is written to no avail. -/
def putX (xs : List Int) (r : Nat) (v : Int) : List Int := if r = 0 then xs else xs.set r v
def putR (s : RSt) (r : Nat) (v : Int) : RSt := { s with x := putX s.x r v }
theorem put_any (W : World) (p : Nat) (b : RBl) (s : RSt) (h : RefAt W p b s) (A : b.Apart p) (r : Nat) (hr : r < 32) (v : Int) :
    Calls Tryz.prog 66 #[.pointer (some ⟨p, 0, none⟩), .int .i64 r, .int .u32 v] W (RP W p b (putR s r v)) := by
  have HF : Hid (RefAt W p b s) := h
  have c1 := h.cx
  have hr' : (r : Int) < 32 := by omega
  have c2 : W.cell? ⟨b.x, r, none⟩ = some (.int .u32 (s.x.getD r 0)) := h.x.cell r (by rw [h.nx]; exact hr)
  have f2 : W.frozen? ⟨b.x, r, none⟩ = false := by obtain ⟨cur, h1, _⟩ := h.x; simp [World.frozen?, h1]
  clear h
  by_cases h0 : r = 0
  · subst h0
    go_enter Tryz.func66, Tryz.ntmps66
    go_wp2
    go_end0
    exact ⟨rfl, HF.out, Offs.refl _ _⟩
  · have h0' : ((r : Int) != 0) = true := by simpa using h0
    have e : putR s r v = { s with x := s.x.set r v } := by unfold putR putX; rw [if_neg h0]
    rw [e]
    clear h0 e
    go_enter Tryz.func66, Tryz.ntmps66
    go_wp2
    go_end0
    exact ⟨rfl, HF.out.put_x A r v, (Offs.refl _ _).put (by simp [RBl.l]) _⟩

def jumpR (s : RSt) (rd : Nat) (to : Int) : RSt := if to % 4 = 0 then { putR s rd ((s.pc + 4) % 4294967296) with pc := to } else failR s 0 to
theorem jump_any (W : World) (p : Nat) (b : RBl) (s : RSt) (h : RefAt W p b s) (A : b.Apart p) (rd : Nat) (hr : rd < 32) (to : Int) (t0 : 0 ≤ to) :
    Calls Tryz.prog 59 #[.pointer (some ⟨p, 0, none⟩), .int .i64 rd, .int .u32 to] W (RP W p b (jumpR s rd to)) := by
  have HF : Hid (RefAt W p b s) := h
  have c1 := h.pc
  clear h
  by_cases hm : to % 4 = 0
  · have e : jumpR s rd to = { putR s rd ((s.pc + 4) % 4294967296) with pc := to } := by unfold jumpR; rw [if_pos hm]
    rw [e]
    clear e
    go_enter Tryz.func59, Tryz.ntmps59
    go_wp2_with (go_at_call 66; refine (put_any _ p b s HF.out A rd hr _).mono ?_; rintro e w' ⟨rfl, hr, ho⟩; have c2 := hr.pc; have f2 := hr.fp)
    go_end0
    exact ⟨rfl, hr.put_pc A _, ho.put (by simp [RBl.l]) _⟩
  · have hm' : (to % 4 != 0) = true := by simpa using hm
    have e : jumpR s rd to = failR s 0 to := by unfold jumpR; rw [if_neg hm]
    rw [e]
    clear e hm
    go_enter Tryz.func59, Tryz.ntmps59
    go_wp2_with (go_at_call 30; refine (fails_any _ p b s HF.out A 0 (by decide) _).mono ?_; rintro e w' ⟨rfl, hr, ho⟩)
    exact bodyPost_ret (v := .tuple #[]) (by simp [results, Tryz.results59, go_sem]) rfl ⟨rfl, hr, ho⟩
end Go.Proofs.YteiideeechnekaaGreatDoor
