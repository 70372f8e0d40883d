/-
  The code's computer out of the document's; what the steps of both have in common, in plain numbers.
-/
import Derived.Test.YtonlmogclejfaaaGreatDoorTrapBits
import Derived.Test.YtonlmogclejfaaaGreatDoorRefSetCsr2
import Derived.Test.YtonlmogclejfaaaGreatDoorRefStep
import Derived.Test.YtonlmogclejfaaaGreatDoorRefCtl
import Derived.Test.YtonlmogclejfaaaGreatDoorRefLev
import Derived.Test.YtonlmogclejfaaaGreatDoorCodeLook
import Derived.Test.YtonlmogclejfaaaGreatDoorRefLook
import Derived.Test.YtonlmogclejfaaaGreatDoorMach
namespace Go.Proofs.YtonlmogclejfaaaGreatDoor
open Go.RowKit


def cOf (s : RSt) : CSt :=
  { regs := s.x, pc := s.pc, mode := s.mode, asleep := s.asleep, mstatus := msV s, medeleg := s.medeleg, mideleg := s.mideleg, mie := s.mie, written := s.soft, stvec := s.stvec, sscratch := s.sscratch, sepc := s.sepc, scause := s.scause, stval := s.stval, mtvec := s.mtvec, mscratch := s.mscratch, mepc := s.mepc, mcause := s.mcause, mtval := s.mtval, ram := s.ram, msip := s.msip, mtimecmp := s.mtimecmp, mtime := s.mtime, prio := s.src.map (·.prio), pend := mk (fun i => (srcAt s i).waits) 7, served := mk (fun i => (srcAt s i).served) 7, level := mk (fun i => (srcAt s i).high) 7, en0 := enAt s 0, en1 := enAt s 1, li0 := liAt s 0, li1 := liAt s 1 }

theorem and_four {v : Int} (h : W32 v) : bits .and .u32 v 4294967292 % 4 = 0 := by
  rw [u32_and v 4294967292 h.1 h.2 (by decide) (by decide)]
  have e : (v.toNat &&& (4294967292 : Int).toNat) % 2 ^ 2 = 0 := by
    rw [← Nat.and_two_pow_sub_one_eq_mod, Nat.and_assoc, show ((4294967292 : Int).toNat &&& (2 ^ 2 - 1)) = 0 from rfl, Nat.and_zero]
  omega

structure Gd (s : RSt) : Prop where
  z : s.x[0]?.getD 0 = 0
  x : ∀ i : Nat, 0 ≤ s.x[i]?.getD 0 ∧ s.x[i]?.getD 0 < 4294967296
  pc : W32 s.pc
  p4 : s.pc % 4 = 0
  n4 : 4 ≤ s.ram.length
  b : Byt s.ram
  mode : s.mode = 0 ∨ s.mode = 1 ∨ s.mode = 3
  spp : s.spp = 0 ∨ s.spp = 1
  mpp : s.mpp = 0 ∨ s.mpp = 1 ∨ s.mpp = 3
  medeleg : W32 s.medeleg
  mideleg : W32 s.mideleg
  mie : W32 s.mie
  soft : W32 s.soft
  stvec : W32 s.stvec
  sscratch : W32 s.sscratch
  sepc : W32 s.sepc
  scause : W32 s.scause
  stval : W32 s.stval
  mtvec : W32 s.mtvec
  mscratch : W32 s.mscratch
  mepc : W32 s.mepc
  mcause : W32 s.mcause
  mtval : W32 s.mtval
  s4 : s.sepc % 4 = 0
  m4 : s.mepc % 4 = 0
  msip : s.msip = 0
  mtimecmp : s.mtimecmp = 4294967295
  mtime : s.mtime = 0
  src : s.src = List.replicate 8 ⟨false, false, false, 0⟩
  enable : s.enable = [0, 0]
  limit : s.limit = [0, 0]
  device : s.device = 0

theorem Gd.fine {s : RSt} (h : Gd s) : Fine s := by
  have := h.spp
  have := h.mpp
  exact ⟨by omega, by omega, by omega, by omega⟩
theorem Gd.ms {s : RSt} (h : Gd s) : W32 (msV s) := by
  have o : ∀ (b : Bool) (n : Nat), n < 4294967296 → W32 (oneV b n) := fun b n hn => by unfold oneV; split; exact W32.lit hn; exact W32.lit (n := 0) (by decide)
  have h1 : W32 (s.spp * 256) := by have := h.spp; unfold W32; omega
  have h2 : W32 (s.mpp * 2048) := by have := h.mpp; unfold W32; omega
  exact (((((((o s.sie 2 (by decide)).or (o s.mieb 8 (by decide))).or (o s.spie 32 (by decide))).or (o s.mpie 128 (by decide))).or (o s.tw 2097152 (by decide))).or (o s.tsr 4194304 (by decide))).or h1).or h2

theorem ask_none {s : RSt} (h : s.src = List.replicate 8 ⟨false, false, false, 0⟩) (c : Nat) : askR s c = false := by
  refine askR_false fun j _ h8 => ?_
  unfold askRB srcAt
  rw [h, List.getElem?_replicate, if_pos h8]
  rfl
theorem or_zero (a : Int) (h : W32 a) : bits .or .u32 a 0 = a := by
  rw [u32_or a 0 h.1 h.2 (by decide) (by decide)]
  simp
  have := h.1
  omega
theorem Gd.mip {s : RSt} (h : Gd s) : mipR s = s.soft := by
  unfold mipR
  rw [ask_none h.src 0, ask_none h.src 1, h.msip, h.mtimecmp, h.mtime]
  show bits .or .u32 (bits .or .u32 (bits .or .u32 (bits .or .u32 s.soft 0) 0) 0) 0 = s.soft
  rw [or_zero _ h.soft, or_zero _ h.soft, or_zero _ h.soft, or_zero _ h.soft]
theorem mk_none : Go.Proofs.YtonlmogclejfaaaGreatDoor.mk (fun _ => false) 7 = 0 := rfl
theorem Gd.pend {s : RSt} (h : Gd s) : Go.Proofs.YtonlmogclejfaaaGreatDoor.mk (fun i => (srcAt s i).waits) 7 = 0 ∧ Go.Proofs.YtonlmogclejfaaaGreatDoor.mk (fun i => (srcAt s i).served) 7 = 0 ∧ Go.Proofs.YtonlmogclejfaaaGreatDoor.mk (fun i => (srcAt s i).high) 7 = 0 := by
  have e : ∀ i, srcAt s i = ⟨false, false, false, 0⟩ := fun i => by
    unfold srcAt
    rw [h.src, List.getElem?_replicate]
    split <;> rfl
  refine ⟨?_, ?_, ?_⟩
  all_goals
    simp only [e]
    rfl
theorem Gd.mipC {s : RSt} (h : Gd s) : Go.Proofs.YtonlmogclejfaaaGreatDoor.mipC (cOf s) = s.soft := by
  have a : ∀ en, askC 0 en 0 (List.replicate 8 0) = false := fun en => by
    refine askC_false fun j _ h8 => ?_
    unfold askB
    rw [List.getElem?_replicate, if_pos h8]
    simp
  have pr : s.src.map (·.prio) = List.replicate 8 0 := by rw [h.src]; rfl
  have l0 : liAt s 0 = 0 := by unfold liAt; rw [h.limit]; rfl
  have l1 : liAt s 1 = 0 := by unfold liAt; rw [h.limit]; rfl
  unfold Go.Proofs.YtonlmogclejfaaaGreatDoor.mipC
  show orIf (askC (Go.Proofs.YtonlmogclejfaaaGreatDoor.mk (fun i => (srcAt s i).waits) 7) (enAt s 1) (liAt s 1) (s.src.map (·.prio))) (orIf (askC (Go.Proofs.YtonlmogclejfaaaGreatDoor.mk (fun i => (srcAt s i).waits) 7) (enAt s 0) (liAt s 0) (s.src.map (·.prio))) (orIf (decide (s.mtimecmp ≤ s.mtime)) (orIf (bits .and .u32 s.msip 1 == 1) s.soft 8) 128) 2048) 512 = s.soft
  rw [h.pend.1, pr, l0, l1, a, a, h.mtimecmp, h.mtime, h.msip]
  rfl
theorem Gd.csrs {s : RSt} (h : Gd s) : csrsC (cOf s) = csrsR s := by
  have e1 := h.mip
  have e2 := h.mipC
  unfold csrsC csrsR
  rw [e1, e2]
  rfl
theorem Gd.look {s : RSt} (h : Gd s) : lookC (cOf s) = lookR s := by
  unfold lookC lookR
  rw [h.csrs]
  show (⟨s.x, s.pc, s.mode, s.asleep, csrsR s, bytesOf s.ram, [s.msip, s.mtimecmp, s.mtime], s.src.map (·.prio), Go.Proofs.YtonlmogclejfaaaGreatDoor.mk (fun i => (srcAt s i).waits) 7, Go.Proofs.YtonlmogclejfaaaGreatDoor.mk (fun i => (srcAt s i).served) 7, Go.Proofs.YtonlmogclejfaaaGreatDoor.mk (fun i => (srcAt s i).high) 7, [enAt s 0, enAt s 1], [liAt s 0, liAt s 1]⟩ : LSt) = _
  rw [show [enAt s 0, enAt s 1] = s.enable by unfold enAt; rw [h.enable]; rfl, show [liAt s 0, liAt s 1] = s.limit by unfold liAt; rw [h.limit]; rfl]
theorem Gd.chosen {s : RSt} (h : Gd s) (hm : bits .and .u32 (mipR s) s.mie = 0) : chosenR s = -1 := by
  have hp : W32 (mipR s) := by rw [h.mip]; exact h.soft
  have e : ∀ i, enB s i = false := fun i => by
    unfold enB
    rcases none_en _ _ hp.1 hp.2 h.mie.1 h.mie.2 hm i with h1 | h1
    · rw [if_pos h1]
    · rw [if_pos h1]; split <;> rfl
  unfold chosenR
  generalize prs = l
  induction l with
  | nil => rfl
  | cons q l ih =>
    unfold chosenF okB
    rw [e]
    exact ih

-- exceptions
theorem fin2 {v : Int} (h : v = 0 ∨ v = 1) : ∃ i : Fin 2, v = (i.val : Int) := by rcases h with rfl | rfl; exact ⟨0, rfl⟩; exact ⟨1, rfl⟩
theorem fin4 {v : Int} (h : v = 0 ∨ v = 1 ∨ v = 3) : ∃ i : Fin 4, v = (i.val : Int) := by rcases h with rfl | rfl | rfl; exact ⟨0, rfl⟩; exact ⟨1, rfl⟩; exact ⟨3, rfl⟩
theorem sup_mode {s : RSt} {cause : Nat} (h : Gd s) (e : supB s cause = true) : s.mode = 0 ∨ s.mode = 1 := by
  unfold supB at e
  split at e
  · cases e
  · have := h.mode; omega
theorem msF_s (s : RSt) : msV s = msF s.sie s.mieb s.spie s.mpie s.tw s.tsr s.spp s.mpp := rfl
theorem cOf_trapS {s : RSt} (h : Gd s) (hm : s.mode = 0 ∨ s.mode = 1) (cause tval : Int) : cOf (trapS s cause tval 0) = entS (cOf s) cause tval := by
  have e1 : msV (trapS s cause tval 0) = layV (msV s) 2 32 256 8 s.mode := by
    obtain ⟨i, hi⟩ := fin2 h.spp
    obtain ⟨j, hj⟩ := fin4 h.mpp
    obtain ⟨k, hk⟩ := fin2 hm
    show msF false s.mieb s.sie s.mpie s.tw s.tsr s.mode s.mpp = layV (msF s.sie s.mieb s.spie s.mpie s.tw s.tsr s.spp s.mpp) 2 32 256 8 s.mode
    rw [hi, hj, hk]
    exact (lay_s _ _ _ _ _ _ i j k).symm
  have e2 : (bits .and .u32 s.stvec 4294967292 + 0) % 4294967296 = bits .and .u32 s.stvec 4294967292 := by
    have := h.stvec.and (W32.lit (n := 4294967292) (by decide))
    unfold W32 at this
    have e : ((4294967292 : Nat) : Int) = 4294967292 := rfl
    rw [e] at this
    omega
  show (⟨s.x, (bits .and .u32 s.stvec 4294967292 + 0) % 4294967296, 1, s.asleep, msV (trapS s cause tval 0), s.medeleg, s.mideleg, s.mie, s.soft, s.stvec, s.sscratch, s.pc, cause, tval, s.mtvec, s.mscratch, s.mepc, s.mcause, s.mtval, s.ram, s.msip, s.mtimecmp, s.mtime, _, _, _, _, _, _, _, _⟩ : CSt) = _
  rw [e1, e2]
  rfl
theorem cOf_trapM {s : RSt} (h : Gd s) (cause tval : Int) : cOf (trapM s cause tval 0) = entM (cOf s) cause tval := by
  have e1 : msV (trapM s cause tval 0) = layV (msV s) 8 128 6144 11 s.mode := by
    obtain ⟨i, hi⟩ := fin2 h.spp
    obtain ⟨j, hj⟩ := fin4 h.mpp
    obtain ⟨k, hk⟩ := fin4 h.mode
    show msF s.sie false s.spie s.mieb s.tw s.tsr s.spp s.mode = layV (msF s.sie s.mieb s.spie s.mpie s.tw s.tsr s.spp s.mpp) 8 128 6144 11 s.mode
    rw [hi, hj, hk]
    exact (lay_m _ _ _ _ _ _ i j k).symm
  have e2 : (bits .and .u32 s.mtvec 4294967292 + 0) % 4294967296 = bits .and .u32 s.mtvec 4294967292 := by
    have := h.mtvec.and (W32.lit (n := 4294967292) (by decide))
    unfold W32 at this
    have e : ((4294967292 : Nat) : Int) = 4294967292 := rfl
    rw [e] at this
    omega
  show (⟨s.x, (bits .and .u32 s.mtvec 4294967292 + 0) % 4294967296, 3, s.asleep, msV (trapM s cause tval 0), s.medeleg, s.mideleg, s.mie, s.soft, s.stvec, s.sscratch, s.sepc, s.scause, s.stval, s.mtvec, s.mscratch, s.pc, cause, tval, s.ram, s.msip, s.mtimecmp, s.mtime, _, _, _, _, _, _, _, _⟩ : CSt) = _
  rw [e1, e2]
  rfl
theorem cOf_fail {s : RSt} (h : Gd s) (cause : Nat) (tval : Int) : cOf (failR s cause tval) = excC (cOf s) cause tval := by
  unfold failR trapR excC
  rw [show supC (cOf s) cause = supB s cause from rfl]
  by_cases e : supB s cause = true
  · rw [if_pos e, if_pos e]
    exact cOf_trapS h (sup_mode h e) cause tval
  · rw [if_neg e, if_neg e]
    exact cOf_trapM h cause tval
theorem Gd.trapS {s : RSt} (h : Gd s) (hm : s.mode = 0 ∨ s.mode = 1) (cause tval : Int) (hc : W32 cause) (ht : W32 tval) : Gd (trapS s cause tval 0) := by
  have v := h.stvec.and (W32.lit (n := 4294967292) (by decide))
  have v4 := and_four h.stvec
  have e : ((4294967292 : Nat) : Int) = 4294967292 := rfl
  rw [e] at v
  have e2 : (bits .and .u32 s.stvec 4294967292 + 0) % 4294967296 = bits .and .u32 s.stvec 4294967292 := by unfold W32 at v; omega
  exact { z := h.z, x := h.x, pc := (by show W32 ((bits .and .u32 s.stvec 4294967292 + 0) % 4294967296); rw [e2]; exact v), p4 := (by show (bits .and .u32 s.stvec 4294967292 + 0) % 4294967296 % 4 = 0; rw [e2]; exact v4), n4 := h.n4, b := h.b, mode := .inr (.inl rfl), spp := hm, mpp := h.mpp, medeleg := h.medeleg, mideleg := h.mideleg, mie := h.mie, soft := h.soft, stvec := h.stvec, sscratch := h.sscratch, sepc := h.pc, scause := hc, stval := ht, mtvec := h.mtvec, mscratch := h.mscratch, mepc := h.mepc, mcause := h.mcause, mtval := h.mtval, s4 := h.p4, m4 := h.m4, msip := h.msip, mtimecmp := h.mtimecmp, mtime := h.mtime, src := h.src, enable := h.enable, limit := h.limit, device := h.device }
theorem Gd.trapM {s : RSt} (h : Gd s) (cause tval : Int) (hc : W32 cause) (ht : W32 tval) : Gd (trapM s cause tval 0) := by
  have v := h.mtvec.and (W32.lit (n := 4294967292) (by decide))
  have v4 := and_four h.mtvec
  have e : ((4294967292 : Nat) : Int) = 4294967292 := rfl
  rw [e] at v
  have e2 : (bits .and .u32 s.mtvec 4294967292 + 0) % 4294967296 = bits .and .u32 s.mtvec 4294967292 := by unfold W32 at v; omega
  exact { z := h.z, x := h.x, pc := (by show W32 ((bits .and .u32 s.mtvec 4294967292 + 0) % 4294967296); rw [e2]; exact v), p4 := (by show (bits .and .u32 s.mtvec 4294967292 + 0) % 4294967296 % 4 = 0; rw [e2]; exact v4), n4 := h.n4, b := h.b, mode := .inr (.inr rfl), spp := h.spp, mpp := h.mode, medeleg := h.medeleg, mideleg := h.mideleg, mie := h.mie, soft := h.soft, stvec := h.stvec, sscratch := h.sscratch, sepc := h.sepc, scause := h.scause, stval := h.stval, mtvec := h.mtvec, mscratch := h.mscratch, mepc := h.pc, mcause := hc, mtval := ht, s4 := h.s4, m4 := h.p4, msip := h.msip, mtimecmp := h.mtimecmp, mtime := h.mtime, src := h.src, enable := h.enable, limit := h.limit, device := h.device }
theorem Gd.fail {s : RSt} (h : Gd s) (cause : Nat) (hc : cause < 32) (tval : Int) (ht : W32 tval) : Gd (failR s cause tval) := by
  have c : W32 (cause : Int) := ⟨by omega, by omega⟩
  unfold failR trapR
  by_cases e : supB s cause = true
  · rw [if_pos e]; exact h.trapS (sup_mode h e) _ _ c ht
  · rw [if_neg e]; exact h.trapM _ _ c ht
theorem Gd.sys {s : RSt} (h : Gd s) : Gd (sysR s) := { h with }
theorem Gd.sys1 {s : RSt} (h : Gd s) : Gd (sys1 s) := { h with }
theorem Gd.setPc {s : RSt} (h : Gd s) (v : Int) (hv : W32 v) (h4 : v % 4 = 0) : Gd { s with pc := v } := { h with pc := hv, p4 := h4 }
theorem Gd.next {s : RSt} (h : Gd s) : Gd (nextR s) := h.setPc _ ⟨by omega, by omega⟩ (by have := h.p4; omega)
theorem Gd.put {s : RSt} (h : Gd s) (rd : Nat) (v : Int) (hv : W32 v) : Gd (putR s rd v) := by
  refine { h with z := ?_, x := ?_ }
  · show (putX s.x rd v)[0]?.getD 0 = 0
    unfold putX
    split
    · exact h.z
    · rename_i hr
      rw [List.getElem?_set]
      simp [hr]
      exact h.z
  · intro i
    show 0 ≤ (putX s.x rd v)[i]?.getD 0 ∧ (putX s.x rd v)[i]?.getD 0 < 4294967296
    unfold putX
    split
    · exact h.x i
    · rw [List.getElem?_set]
      split
      · split
        · simp; exact hv
        · simp
      · exact h.x i
theorem Gd.ram {s : RSt} (h : Gd s) (a w : Nat) (v : Int) : Gd { s with ram := stV s.ram a v w } := { h with n4 := (by show 4 ≤ (stV s.ram a v w).length; rw [stV_len]; exact h.n4), b := stV_byt h.b a v w }

-- Mret, Sret, Wfi
theorem cOf_mret {s : RSt} (h : Gd s) : cOf (mretR s) = leaM (cOf s) := by
  obtain ⟨i, hi⟩ := fin2 h.spp
  obtain ⟨j, hj⟩ := fin4 h.mpp
  have e := back_m s.sie s.mieb s.spie s.mpie s.tw s.tsr i j
  rw [← hi, ← hj] at e
  have e1 : msV (mretR s) = backV (msV s) 8 128 6144 := e.1.symm
  have e2 : bits .and .u32 (msV s) 6144 / 2048 = s.mpp := e.2
  show (⟨s.x, s.mepc, s.mpp, s.asleep, msV (mretR s), s.medeleg, s.mideleg, s.mie, s.soft, s.stvec, s.sscratch, s.sepc, s.scause, s.stval, s.mtvec, s.mscratch, s.mepc, s.mcause, s.mtval, s.ram, s.msip, s.mtimecmp, s.mtime, _, _, _, _, _, _, _, _⟩ : CSt) = _
  unfold leaM
  rw [show (cOf s).mstatus = msV s from rfl, e1, e2]
  rfl
theorem cOf_sret {s : RSt} (h : Gd s) : cOf (sretR s) = leaS (cOf s) := by
  obtain ⟨i, hi⟩ := fin2 h.spp
  obtain ⟨j, hj⟩ := fin4 h.mpp
  have e := back_s s.sie s.mieb s.spie s.mpie s.tw s.tsr i j
  rw [← hi, ← hj] at e
  have e1 : msV (sretR s) = backV (msV s) 2 32 256 := e.1.symm
  have e2 : bits .and .u32 (msV s) 256 / 256 = s.spp := e.2
  show (⟨s.x, s.sepc, s.spp, s.asleep, msV (sretR s), s.medeleg, s.mideleg, s.mie, s.soft, s.stvec, s.sscratch, s.sepc, s.scause, s.stval, s.mtvec, s.mscratch, s.mepc, s.mcause, s.mtval, s.ram, s.msip, s.mtimecmp, s.mtime, _, _, _, _, _, _, _, _⟩ : CSt) = _
  unfold leaS
  rw [show (cOf s).mstatus = msV s from rfl, e1, e2]
  rfl
theorem Gd.mret {s : RSt} (h : Gd s) : Gd (mretR s) := { h with pc := h.mepc, p4 := h.m4, mode := h.mpp, mpp := .inl rfl }
theorem Gd.sret {s : RSt} (h : Gd s) : Gd (sretR s) := { h with pc := h.sepc, p4 := h.s4, mode := (by have := h.spp; show s.spp = 0 ∨ s.spp = 1 ∨ s.spp = 3; omega), spp := .inl rfl }
theorem Gd.wfi {s : RSt} (h : Gd s) : Gd (wfiR s) := { h with pc := ⟨by show 0 ≤ (s.pc + 4) % 4294967296; omega, by show (s.pc + 4) % 4294967296 < 4294967296; omega⟩, p4 := (by have := h.p4; show (s.pc + 4) % 4294967296 % 4 = 0; omega) }
theorem tsr_bit {s : RSt} (h : Gd s) : (bits .and .u32 (msV s) 4194304 != 0) = s.tsr := by
  obtain ⟨i, hi⟩ := fin2 h.spp
  obtain ⟨j, hj⟩ := fin4 h.mpp
  rw [msF_s, hi, hj]
  exact (tw_tsr s.sie s.mieb s.spie s.mpie s.tw s.tsr i j).2
theorem tw_bit {s : RSt} (h : Gd s) : (bits .and .u32 (msV s) 2097152 != 0) = s.tw := by
  obtain ⟨i, hi⟩ := fin2 h.spp
  obtain ⟨j, hj⟩ := fin4 h.mpp
  rw [msF_s, hi, hj]
  exact (tw_tsr s.sie s.mieb s.spie s.mpie s.tw s.tsr i j).1

-- control registers are written
theorem setC_256 (c : CSt) (v : Int) : setC c 256 v = { c with mstatus := mixV c.mstatus v 290 } := by
  unfold setC
  rw [if_pos rfl]
theorem stR_256 (s : RSt) (v : Int) : stR s 256 v = { s with sie := isB v 1, spie := isB v 5, spp := v / 256 % 2 } := by
  unfold stR
  rw [if_pos rfl]
theorem setC_260 (c : CSt) (v : Int) : setC c 260 v = { c with mie := mixV c.mie v c.mideleg } := by
  unfold setC
  rw [if_neg (show ¬ (260 : Nat) = 256 by decide), if_pos rfl]
theorem stR_260 (s : RSt) (v : Int) : stR s 260 v = { s with mie := bits .or .u32 (bits .andNot .u32 s.mie s.mideleg) (bits .and .u32 v s.mideleg) } := by
  unfold stR
  rw [if_neg (show ¬ (260 : Nat) = 256 by decide), if_pos rfl]
theorem setC_261 (c : CSt) (v : Int) : setC c 261 v = { c with stvec := bits .and .u32 v 4294967293 } := by
  unfold setC
  rw [if_neg (show ¬ (261 : Nat) = 256 by decide), if_neg (show ¬ (261 : Nat) = 260 by decide), if_pos rfl]
theorem stR_261 (s : RSt) (v : Int) : stR s 261 v = { s with stvec := bits .and .u32 v 4294967293 } := by
  unfold stR
  rw [if_neg (show ¬ (261 : Nat) = 256 by decide), if_neg (show ¬ (261 : Nat) = 260 by decide), if_pos rfl]
theorem setC_320 (c : CSt) (v : Int) : setC c 320 v = { c with sscratch := v } := by
  unfold setC
  rw [if_neg (show ¬ (320 : Nat) = 256 by decide), if_neg (show ¬ (320 : Nat) = 260 by decide), if_neg (show ¬ (320 : Nat) = 261 by decide), if_pos rfl]
theorem stR_320 (s : RSt) (v : Int) : stR s 320 v = { s with sscratch := v } := by
  unfold stR
  rw [if_neg (show ¬ (320 : Nat) = 256 by decide), if_neg (show ¬ (320 : Nat) = 260 by decide), if_neg (show ¬ (320 : Nat) = 261 by decide), if_pos rfl]
theorem setC_321 (c : CSt) (v : Int) : setC c 321 v = { c with sepc := bits .and .u32 v 4294967292 } := by
  unfold setC
  rw [if_neg (show ¬ (321 : Nat) = 256 by decide), if_neg (show ¬ (321 : Nat) = 260 by decide), if_neg (show ¬ (321 : Nat) = 261 by decide), if_neg (show ¬ (321 : Nat) = 320 by decide), if_pos rfl]
theorem stR_321 (s : RSt) (v : Int) : stR s 321 v = { s with sepc := bits .and .u32 v 4294967292 } := by
  unfold stR
  rw [if_neg (show ¬ (321 : Nat) = 256 by decide), if_neg (show ¬ (321 : Nat) = 260 by decide), if_neg (show ¬ (321 : Nat) = 261 by decide), if_neg (show ¬ (321 : Nat) = 320 by decide), if_pos rfl]
theorem setC_322 (c : CSt) (v : Int) : setC c 322 v = { c with scause := bits .and .u32 v 2147483663 } := by
  unfold setC
  rw [if_neg (show ¬ (322 : Nat) = 256 by decide), if_neg (show ¬ (322 : Nat) = 260 by decide), if_neg (show ¬ (322 : Nat) = 261 by decide), if_neg (show ¬ (322 : Nat) = 320 by decide), if_neg (show ¬ (322 : Nat) = 321 by decide), if_pos rfl]
theorem stR_322 (s : RSt) (v : Int) : stR s 322 v = { s with scause := bits .and .u32 v 2147483663 } := by
  unfold stR
  rw [if_neg (show ¬ (322 : Nat) = 256 by decide), if_neg (show ¬ (322 : Nat) = 260 by decide), if_neg (show ¬ (322 : Nat) = 261 by decide), if_neg (show ¬ (322 : Nat) = 320 by decide), if_neg (show ¬ (322 : Nat) = 321 by decide), if_pos rfl]
theorem setC_323 (c : CSt) (v : Int) : setC c 323 v = { c with stval := v } := by
  unfold setC
  rw [if_neg (show ¬ (323 : Nat) = 256 by decide), if_neg (show ¬ (323 : Nat) = 260 by decide), if_neg (show ¬ (323 : Nat) = 261 by decide), if_neg (show ¬ (323 : Nat) = 320 by decide), if_neg (show ¬ (323 : Nat) = 321 by decide), if_neg (show ¬ (323 : Nat) = 322 by decide), if_pos rfl]
theorem stR_323 (s : RSt) (v : Int) : stR s 323 v = { s with stval := v } := by
  unfold stR
  rw [if_neg (show ¬ (323 : Nat) = 256 by decide), if_neg (show ¬ (323 : Nat) = 260 by decide), if_neg (show ¬ (323 : Nat) = 261 by decide), if_neg (show ¬ (323 : Nat) = 320 by decide), if_neg (show ¬ (323 : Nat) = 321 by decide), if_neg (show ¬ (323 : Nat) = 322 by decide), if_pos rfl]
theorem setC_324 (c : CSt) (v : Int) : setC c 324 v = { c with written := mixV c.written v (bits .and .u32 c.mideleg 2) } := by
  unfold setC
  rw [if_neg (show ¬ (324 : Nat) = 256 by decide), if_neg (show ¬ (324 : Nat) = 260 by decide), if_neg (show ¬ (324 : Nat) = 261 by decide), if_neg (show ¬ (324 : Nat) = 320 by decide), if_neg (show ¬ (324 : Nat) = 321 by decide), if_neg (show ¬ (324 : Nat) = 322 by decide), if_neg (show ¬ (324 : Nat) = 323 by decide), if_pos rfl]
theorem stR_324 (s : RSt) (v : Int) : stR s 324 v = { s with soft := bits .or .u32 (bits .andNot .u32 s.soft (bits .and .u32 s.mideleg 2)) (bits .and .u32 v (bits .and .u32 s.mideleg 2)) } := by
  unfold stR
  rw [if_neg (show ¬ (324 : Nat) = 256 by decide), if_neg (show ¬ (324 : Nat) = 260 by decide), if_neg (show ¬ (324 : Nat) = 261 by decide), if_neg (show ¬ (324 : Nat) = 320 by decide), if_neg (show ¬ (324 : Nat) = 321 by decide), if_neg (show ¬ (324 : Nat) = 322 by decide), if_neg (show ¬ (324 : Nat) = 323 by decide), if_pos rfl]
theorem setC_768 (c : CSt) (v : Int) : setC c 768 v = { c with mstatus := mixV c.mstatus v (keptV v) } := by
  unfold setC
  rw [if_neg (show ¬ (768 : Nat) = 256 by decide), if_neg (show ¬ (768 : Nat) = 260 by decide), if_neg (show ¬ (768 : Nat) = 261 by decide), if_neg (show ¬ (768 : Nat) = 320 by decide), if_neg (show ¬ (768 : Nat) = 321 by decide), if_neg (show ¬ (768 : Nat) = 322 by decide), if_neg (show ¬ (768 : Nat) = 323 by decide), if_neg (show ¬ (768 : Nat) = 324 by decide), if_pos rfl]
theorem stR_768 (s : RSt) (v : Int) : stR s 768 v = (if (v / 2048 % 4 != 2) = true then { s with sie := isB v 1, mieb := isB v 3, spie := isB v 5, mpie := isB v 7, spp := v / 256 % 2, mpp := v / 2048 % 4, tw := isB v 21, tsr := isB v 22 } else { s with sie := isB v 1, mieb := isB v 3, spie := isB v 5, mpie := isB v 7, spp := v / 256 % 2, tw := isB v 21, tsr := isB v 22 }) := by
  unfold stR
  rw [if_neg (show ¬ (768 : Nat) = 256 by decide), if_neg (show ¬ (768 : Nat) = 260 by decide), if_neg (show ¬ (768 : Nat) = 261 by decide), if_neg (show ¬ (768 : Nat) = 320 by decide), if_neg (show ¬ (768 : Nat) = 321 by decide), if_neg (show ¬ (768 : Nat) = 322 by decide), if_neg (show ¬ (768 : Nat) = 323 by decide), if_neg (show ¬ (768 : Nat) = 324 by decide), if_pos rfl]
theorem setC_770 (c : CSt) (v : Int) : setC c 770 v = { c with medeleg := bits .and .u32 v 943 } := by
  unfold setC
  rw [if_neg (show ¬ (770 : Nat) = 256 by decide), if_neg (show ¬ (770 : Nat) = 260 by decide), if_neg (show ¬ (770 : Nat) = 261 by decide), if_neg (show ¬ (770 : Nat) = 320 by decide), if_neg (show ¬ (770 : Nat) = 321 by decide), if_neg (show ¬ (770 : Nat) = 322 by decide), if_neg (show ¬ (770 : Nat) = 323 by decide), if_neg (show ¬ (770 : Nat) = 324 by decide), if_neg (show ¬ (770 : Nat) = 768 by decide), if_pos rfl]
theorem stR_770 (s : RSt) (v : Int) : stR s 770 v = { s with medeleg := bits .and .u32 v 943 } := by
  unfold stR
  rw [if_neg (show ¬ (770 : Nat) = 256 by decide), if_neg (show ¬ (770 : Nat) = 260 by decide), if_neg (show ¬ (770 : Nat) = 261 by decide), if_neg (show ¬ (770 : Nat) = 320 by decide), if_neg (show ¬ (770 : Nat) = 321 by decide), if_neg (show ¬ (770 : Nat) = 322 by decide), if_neg (show ¬ (770 : Nat) = 323 by decide), if_neg (show ¬ (770 : Nat) = 324 by decide), if_neg (show ¬ (770 : Nat) = 768 by decide), if_pos rfl]
theorem setC_771 (c : CSt) (v : Int) : setC c 771 v = { c with mideleg := bits .and .u32 v 546 } := by
  unfold setC
  rw [if_neg (show ¬ (771 : Nat) = 256 by decide), if_neg (show ¬ (771 : Nat) = 260 by decide), if_neg (show ¬ (771 : Nat) = 261 by decide), if_neg (show ¬ (771 : Nat) = 320 by decide), if_neg (show ¬ (771 : Nat) = 321 by decide), if_neg (show ¬ (771 : Nat) = 322 by decide), if_neg (show ¬ (771 : Nat) = 323 by decide), if_neg (show ¬ (771 : Nat) = 324 by decide), if_neg (show ¬ (771 : Nat) = 768 by decide), if_neg (show ¬ (771 : Nat) = 770 by decide), if_pos rfl]
theorem stR_771 (s : RSt) (v : Int) : stR s 771 v = { s with mideleg := bits .and .u32 v 546 } := by
  unfold stR
  rw [if_neg (show ¬ (771 : Nat) = 256 by decide), if_neg (show ¬ (771 : Nat) = 260 by decide), if_neg (show ¬ (771 : Nat) = 261 by decide), if_neg (show ¬ (771 : Nat) = 320 by decide), if_neg (show ¬ (771 : Nat) = 321 by decide), if_neg (show ¬ (771 : Nat) = 322 by decide), if_neg (show ¬ (771 : Nat) = 323 by decide), if_neg (show ¬ (771 : Nat) = 324 by decide), if_neg (show ¬ (771 : Nat) = 768 by decide), if_neg (show ¬ (771 : Nat) = 770 by decide), if_pos rfl]
theorem setC_772 (c : CSt) (v : Int) : setC c 772 v = { c with mie := bits .and .u32 v 2730 } := by
  unfold setC
  rw [if_neg (show ¬ (772 : Nat) = 256 by decide), if_neg (show ¬ (772 : Nat) = 260 by decide), if_neg (show ¬ (772 : Nat) = 261 by decide), if_neg (show ¬ (772 : Nat) = 320 by decide), if_neg (show ¬ (772 : Nat) = 321 by decide), if_neg (show ¬ (772 : Nat) = 322 by decide), if_neg (show ¬ (772 : Nat) = 323 by decide), if_neg (show ¬ (772 : Nat) = 324 by decide), if_neg (show ¬ (772 : Nat) = 768 by decide), if_neg (show ¬ (772 : Nat) = 770 by decide), if_neg (show ¬ (772 : Nat) = 771 by decide), if_pos rfl]
theorem stR_772 (s : RSt) (v : Int) : stR s 772 v = { s with mie := bits .and .u32 v 2730 } := by
  unfold stR
  rw [if_neg (show ¬ (772 : Nat) = 256 by decide), if_neg (show ¬ (772 : Nat) = 260 by decide), if_neg (show ¬ (772 : Nat) = 261 by decide), if_neg (show ¬ (772 : Nat) = 320 by decide), if_neg (show ¬ (772 : Nat) = 321 by decide), if_neg (show ¬ (772 : Nat) = 322 by decide), if_neg (show ¬ (772 : Nat) = 323 by decide), if_neg (show ¬ (772 : Nat) = 324 by decide), if_neg (show ¬ (772 : Nat) = 768 by decide), if_neg (show ¬ (772 : Nat) = 770 by decide), if_neg (show ¬ (772 : Nat) = 771 by decide), if_pos rfl]
theorem setC_773 (c : CSt) (v : Int) : setC c 773 v = { c with mtvec := bits .and .u32 v 4294967293 } := by
  unfold setC
  rw [if_neg (show ¬ (773 : Nat) = 256 by decide), if_neg (show ¬ (773 : Nat) = 260 by decide), if_neg (show ¬ (773 : Nat) = 261 by decide), if_neg (show ¬ (773 : Nat) = 320 by decide), if_neg (show ¬ (773 : Nat) = 321 by decide), if_neg (show ¬ (773 : Nat) = 322 by decide), if_neg (show ¬ (773 : Nat) = 323 by decide), if_neg (show ¬ (773 : Nat) = 324 by decide), if_neg (show ¬ (773 : Nat) = 768 by decide), if_neg (show ¬ (773 : Nat) = 770 by decide), if_neg (show ¬ (773 : Nat) = 771 by decide), if_neg (show ¬ (773 : Nat) = 772 by decide), if_pos rfl]
theorem stR_773 (s : RSt) (v : Int) : stR s 773 v = { s with mtvec := bits .and .u32 v 4294967293 } := by
  unfold stR
  rw [if_neg (show ¬ (773 : Nat) = 256 by decide), if_neg (show ¬ (773 : Nat) = 260 by decide), if_neg (show ¬ (773 : Nat) = 261 by decide), if_neg (show ¬ (773 : Nat) = 320 by decide), if_neg (show ¬ (773 : Nat) = 321 by decide), if_neg (show ¬ (773 : Nat) = 322 by decide), if_neg (show ¬ (773 : Nat) = 323 by decide), if_neg (show ¬ (773 : Nat) = 324 by decide), if_neg (show ¬ (773 : Nat) = 768 by decide), if_neg (show ¬ (773 : Nat) = 770 by decide), if_neg (show ¬ (773 : Nat) = 771 by decide), if_neg (show ¬ (773 : Nat) = 772 by decide), if_pos rfl]
theorem setC_832 (c : CSt) (v : Int) : setC c 832 v = { c with mscratch := v } := by
  unfold setC
  rw [if_neg (show ¬ (832 : Nat) = 256 by decide), if_neg (show ¬ (832 : Nat) = 260 by decide), if_neg (show ¬ (832 : Nat) = 261 by decide), if_neg (show ¬ (832 : Nat) = 320 by decide), if_neg (show ¬ (832 : Nat) = 321 by decide), if_neg (show ¬ (832 : Nat) = 322 by decide), if_neg (show ¬ (832 : Nat) = 323 by decide), if_neg (show ¬ (832 : Nat) = 324 by decide), if_neg (show ¬ (832 : Nat) = 768 by decide), if_neg (show ¬ (832 : Nat) = 770 by decide), if_neg (show ¬ (832 : Nat) = 771 by decide), if_neg (show ¬ (832 : Nat) = 772 by decide), if_neg (show ¬ (832 : Nat) = 773 by decide), if_pos rfl]
theorem stR_832 (s : RSt) (v : Int) : stR s 832 v = { s with mscratch := v } := by
  unfold stR
  rw [if_neg (show ¬ (832 : Nat) = 256 by decide), if_neg (show ¬ (832 : Nat) = 260 by decide), if_neg (show ¬ (832 : Nat) = 261 by decide), if_neg (show ¬ (832 : Nat) = 320 by decide), if_neg (show ¬ (832 : Nat) = 321 by decide), if_neg (show ¬ (832 : Nat) = 322 by decide), if_neg (show ¬ (832 : Nat) = 323 by decide), if_neg (show ¬ (832 : Nat) = 324 by decide), if_neg (show ¬ (832 : Nat) = 768 by decide), if_neg (show ¬ (832 : Nat) = 770 by decide), if_neg (show ¬ (832 : Nat) = 771 by decide), if_neg (show ¬ (832 : Nat) = 772 by decide), if_neg (show ¬ (832 : Nat) = 773 by decide), if_pos rfl]
theorem setC_833 (c : CSt) (v : Int) : setC c 833 v = { c with mepc := bits .and .u32 v 4294967292 } := by
  unfold setC
  rw [if_neg (show ¬ (833 : Nat) = 256 by decide), if_neg (show ¬ (833 : Nat) = 260 by decide), if_neg (show ¬ (833 : Nat) = 261 by decide), if_neg (show ¬ (833 : Nat) = 320 by decide), if_neg (show ¬ (833 : Nat) = 321 by decide), if_neg (show ¬ (833 : Nat) = 322 by decide), if_neg (show ¬ (833 : Nat) = 323 by decide), if_neg (show ¬ (833 : Nat) = 324 by decide), if_neg (show ¬ (833 : Nat) = 768 by decide), if_neg (show ¬ (833 : Nat) = 770 by decide), if_neg (show ¬ (833 : Nat) = 771 by decide), if_neg (show ¬ (833 : Nat) = 772 by decide), if_neg (show ¬ (833 : Nat) = 773 by decide), if_neg (show ¬ (833 : Nat) = 832 by decide), if_pos rfl]
theorem stR_833 (s : RSt) (v : Int) : stR s 833 v = { s with mepc := bits .and .u32 v 4294967292 } := by
  unfold stR
  rw [if_neg (show ¬ (833 : Nat) = 256 by decide), if_neg (show ¬ (833 : Nat) = 260 by decide), if_neg (show ¬ (833 : Nat) = 261 by decide), if_neg (show ¬ (833 : Nat) = 320 by decide), if_neg (show ¬ (833 : Nat) = 321 by decide), if_neg (show ¬ (833 : Nat) = 322 by decide), if_neg (show ¬ (833 : Nat) = 323 by decide), if_neg (show ¬ (833 : Nat) = 324 by decide), if_neg (show ¬ (833 : Nat) = 768 by decide), if_neg (show ¬ (833 : Nat) = 770 by decide), if_neg (show ¬ (833 : Nat) = 771 by decide), if_neg (show ¬ (833 : Nat) = 772 by decide), if_neg (show ¬ (833 : Nat) = 773 by decide), if_neg (show ¬ (833 : Nat) = 832 by decide), if_pos rfl]
theorem setC_834 (c : CSt) (v : Int) : setC c 834 v = { c with mcause := bits .and .u32 v 2147483663 } := by
  unfold setC
  rw [if_neg (show ¬ (834 : Nat) = 256 by decide), if_neg (show ¬ (834 : Nat) = 260 by decide), if_neg (show ¬ (834 : Nat) = 261 by decide), if_neg (show ¬ (834 : Nat) = 320 by decide), if_neg (show ¬ (834 : Nat) = 321 by decide), if_neg (show ¬ (834 : Nat) = 322 by decide), if_neg (show ¬ (834 : Nat) = 323 by decide), if_neg (show ¬ (834 : Nat) = 324 by decide), if_neg (show ¬ (834 : Nat) = 768 by decide), if_neg (show ¬ (834 : Nat) = 770 by decide), if_neg (show ¬ (834 : Nat) = 771 by decide), if_neg (show ¬ (834 : Nat) = 772 by decide), if_neg (show ¬ (834 : Nat) = 773 by decide), if_neg (show ¬ (834 : Nat) = 832 by decide), if_neg (show ¬ (834 : Nat) = 833 by decide), if_pos rfl]
theorem stR_834 (s : RSt) (v : Int) : stR s 834 v = { s with mcause := bits .and .u32 v 2147483663 } := by
  unfold stR
  rw [if_neg (show ¬ (834 : Nat) = 256 by decide), if_neg (show ¬ (834 : Nat) = 260 by decide), if_neg (show ¬ (834 : Nat) = 261 by decide), if_neg (show ¬ (834 : Nat) = 320 by decide), if_neg (show ¬ (834 : Nat) = 321 by decide), if_neg (show ¬ (834 : Nat) = 322 by decide), if_neg (show ¬ (834 : Nat) = 323 by decide), if_neg (show ¬ (834 : Nat) = 324 by decide), if_neg (show ¬ (834 : Nat) = 768 by decide), if_neg (show ¬ (834 : Nat) = 770 by decide), if_neg (show ¬ (834 : Nat) = 771 by decide), if_neg (show ¬ (834 : Nat) = 772 by decide), if_neg (show ¬ (834 : Nat) = 773 by decide), if_neg (show ¬ (834 : Nat) = 832 by decide), if_neg (show ¬ (834 : Nat) = 833 by decide), if_pos rfl]
theorem setC_835 (c : CSt) (v : Int) : setC c 835 v = { c with mtval := v } := by
  unfold setC
  rw [if_neg (show ¬ (835 : Nat) = 256 by decide), if_neg (show ¬ (835 : Nat) = 260 by decide), if_neg (show ¬ (835 : Nat) = 261 by decide), if_neg (show ¬ (835 : Nat) = 320 by decide), if_neg (show ¬ (835 : Nat) = 321 by decide), if_neg (show ¬ (835 : Nat) = 322 by decide), if_neg (show ¬ (835 : Nat) = 323 by decide), if_neg (show ¬ (835 : Nat) = 324 by decide), if_neg (show ¬ (835 : Nat) = 768 by decide), if_neg (show ¬ (835 : Nat) = 770 by decide), if_neg (show ¬ (835 : Nat) = 771 by decide), if_neg (show ¬ (835 : Nat) = 772 by decide), if_neg (show ¬ (835 : Nat) = 773 by decide), if_neg (show ¬ (835 : Nat) = 832 by decide), if_neg (show ¬ (835 : Nat) = 833 by decide), if_neg (show ¬ (835 : Nat) = 834 by decide), if_pos rfl]
theorem stR_835 (s : RSt) (v : Int) : stR s 835 v = { s with mtval := v } := by
  unfold stR
  rw [if_neg (show ¬ (835 : Nat) = 256 by decide), if_neg (show ¬ (835 : Nat) = 260 by decide), if_neg (show ¬ (835 : Nat) = 261 by decide), if_neg (show ¬ (835 : Nat) = 320 by decide), if_neg (show ¬ (835 : Nat) = 321 by decide), if_neg (show ¬ (835 : Nat) = 322 by decide), if_neg (show ¬ (835 : Nat) = 323 by decide), if_neg (show ¬ (835 : Nat) = 324 by decide), if_neg (show ¬ (835 : Nat) = 768 by decide), if_neg (show ¬ (835 : Nat) = 770 by decide), if_neg (show ¬ (835 : Nat) = 771 by decide), if_neg (show ¬ (835 : Nat) = 772 by decide), if_neg (show ¬ (835 : Nat) = 773 by decide), if_neg (show ¬ (835 : Nat) = 832 by decide), if_neg (show ¬ (835 : Nat) = 833 by decide), if_neg (show ¬ (835 : Nat) = 834 by decide), if_pos rfl]
theorem setC_836 (c : CSt) (v : Int) : setC c 836 v = { c with written := bits .and .u32 v 34 } := by
  unfold setC
  rw [if_neg (show ¬ (836 : Nat) = 256 by decide), if_neg (show ¬ (836 : Nat) = 260 by decide), if_neg (show ¬ (836 : Nat) = 261 by decide), if_neg (show ¬ (836 : Nat) = 320 by decide), if_neg (show ¬ (836 : Nat) = 321 by decide), if_neg (show ¬ (836 : Nat) = 322 by decide), if_neg (show ¬ (836 : Nat) = 323 by decide), if_neg (show ¬ (836 : Nat) = 324 by decide), if_neg (show ¬ (836 : Nat) = 768 by decide), if_neg (show ¬ (836 : Nat) = 770 by decide), if_neg (show ¬ (836 : Nat) = 771 by decide), if_neg (show ¬ (836 : Nat) = 772 by decide), if_neg (show ¬ (836 : Nat) = 773 by decide), if_neg (show ¬ (836 : Nat) = 832 by decide), if_neg (show ¬ (836 : Nat) = 833 by decide), if_neg (show ¬ (836 : Nat) = 834 by decide), if_neg (show ¬ (836 : Nat) = 835 by decide), if_pos rfl]
theorem stR_836 (s : RSt) (v : Int) : stR s 836 v = { s with soft := bits .and .u32 v 34 } := by
  unfold stR
  rw [if_neg (show ¬ (836 : Nat) = 256 by decide), if_neg (show ¬ (836 : Nat) = 260 by decide), if_neg (show ¬ (836 : Nat) = 261 by decide), if_neg (show ¬ (836 : Nat) = 320 by decide), if_neg (show ¬ (836 : Nat) = 321 by decide), if_neg (show ¬ (836 : Nat) = 322 by decide), if_neg (show ¬ (836 : Nat) = 323 by decide), if_neg (show ¬ (836 : Nat) = 324 by decide), if_neg (show ¬ (836 : Nat) = 768 by decide), if_neg (show ¬ (836 : Nat) = 770 by decide), if_neg (show ¬ (836 : Nat) = 771 by decide), if_neg (show ¬ (836 : Nat) = 772 by decide), if_neg (show ¬ (836 : Nat) = 773 by decide), if_neg (show ¬ (836 : Nat) = 832 by decide), if_neg (show ¬ (836 : Nat) = 833 by decide), if_neg (show ¬ (836 : Nat) = 834 by decide), if_neg (show ¬ (836 : Nat) = 835 by decide), if_pos rfl]
theorem setC_3860 (c : CSt) (v : Int) : setC c 3860 v = c := by
  unfold setC
  rw [if_neg (show ¬ (3860 : Nat) = 256 by decide), if_neg (show ¬ (3860 : Nat) = 260 by decide), if_neg (show ¬ (3860 : Nat) = 261 by decide), if_neg (show ¬ (3860 : Nat) = 320 by decide), if_neg (show ¬ (3860 : Nat) = 321 by decide), if_neg (show ¬ (3860 : Nat) = 322 by decide), if_neg (show ¬ (3860 : Nat) = 323 by decide), if_neg (show ¬ (3860 : Nat) = 324 by decide), if_neg (show ¬ (3860 : Nat) = 768 by decide), if_neg (show ¬ (3860 : Nat) = 770 by decide), if_neg (show ¬ (3860 : Nat) = 771 by decide), if_neg (show ¬ (3860 : Nat) = 772 by decide), if_neg (show ¬ (3860 : Nat) = 773 by decide), if_neg (show ¬ (3860 : Nat) = 832 by decide), if_neg (show ¬ (3860 : Nat) = 833 by decide), if_neg (show ¬ (3860 : Nat) = 834 by decide), if_neg (show ¬ (3860 : Nat) = 835 by decide), if_neg (show ¬ (3860 : Nat) = 836 by decide), if_pos rfl]
theorem stR_3860 (s : RSt) (v : Int) : stR s 3860 v = s := by
  unfold stR
  rw [if_neg (show ¬ (3860 : Nat) = 256 by decide), if_neg (show ¬ (3860 : Nat) = 260 by decide), if_neg (show ¬ (3860 : Nat) = 261 by decide), if_neg (show ¬ (3860 : Nat) = 320 by decide), if_neg (show ¬ (3860 : Nat) = 321 by decide), if_neg (show ¬ (3860 : Nat) = 322 by decide), if_neg (show ¬ (3860 : Nat) = 323 by decide), if_neg (show ¬ (3860 : Nat) = 324 by decide), if_neg (show ¬ (3860 : Nat) = 768 by decide), if_neg (show ¬ (3860 : Nat) = 770 by decide), if_neg (show ¬ (3860 : Nat) = 771 by decide), if_neg (show ¬ (3860 : Nat) = 772 by decide), if_neg (show ¬ (3860 : Nat) = 773 by decide), if_neg (show ¬ (3860 : Nat) = 832 by decide), if_neg (show ¬ (3860 : Nat) = 833 by decide), if_neg (show ¬ (3860 : Nat) = 834 by decide), if_neg (show ¬ (3860 : Nat) = 835 by decide), if_neg (show ¬ (3860 : Nat) = 836 by decide), if_pos rfl]
theorem cOf_st {s : RSt} (h : Gd s) (n : Nat) (hn : n ∈ [256, 260, 261, 320, 321, 322, 323, 324, 768, 770, 771, 772, 773, 832, 833, 834, 835, 836, 3860]) (v : Int) (hv : W32 v) : cOf (stR s n v) = setC (cOf s) n v := by
  simp only [List.mem_cons, List.not_mem_nil, or_false] at hn
  rcases hn with rfl | rfl | rfl | rfl | rfl | rfl | rfl | rfl | rfl | rfl | rfl | rfl | rfl | rfl | rfl | rfl | rfl | rfl | rfl
  · rw [stR_256, setC_256]
    have e : msV { s with sie := isB v 1, spie := isB v 5, spp := v / 256 % 2 } = mixV (msV s) v 290 := (set_ss s.sie s.mieb s.spie s.mpie s.tw s.tsr s.spp s.mpp v h.spp h.mpp hv.1 hv.2).symm
    show (⟨s.x, s.pc, s.mode, s.asleep, msV { s with sie := isB v 1, spie := isB v 5, spp := v / 256 % 2 }, s.medeleg, s.mideleg, s.mie, s.soft, s.stvec, s.sscratch, s.sepc, s.scause, s.stval, s.mtvec, s.mscratch, s.mepc, s.mcause, s.mtval, s.ram, s.msip, s.mtimecmp, s.mtime, _, _, _, _, _, _, _, _⟩ : CSt) = _
    rw [e]
    rfl
  · rw [stR_260, setC_260]
    rfl
  · rw [stR_261, setC_261]
    rfl
  · rw [stR_320, setC_320]
    rfl
  · rw [stR_321, setC_321]
    rfl
  · rw [stR_322, setC_322]
    rfl
  · rw [stR_323, setC_323]
    rfl
  · rw [stR_324, setC_324]
    rfl
  · rw [stR_768, setC_768]
    have e := set_ms s.sie s.mieb s.spie s.mpie s.tw s.tsr s.spp s.mpp v h.spp h.mpp hv.1 hv.2
    by_cases hm : (v / 2048 % 4 != 2) = true
    · rw [if_pos hm] at e ⊢
      show (⟨s.x, s.pc, s.mode, s.asleep, msV { s with sie := isB v 1, mieb := isB v 3, spie := isB v 5, mpie := isB v 7, spp := v / 256 % 2, mpp := v / 2048 % 4, tw := isB v 21, tsr := isB v 22 }, s.medeleg, s.mideleg, s.mie, s.soft, s.stvec, s.sscratch, s.sepc, s.scause, s.stval, s.mtvec, s.mscratch, s.mepc, s.mcause, s.mtval, s.ram, s.msip, s.mtimecmp, s.mtime, _, _, _, _, _, _, _, _⟩ : CSt) = _
      rw [show msV { s with sie := isB v 1, mieb := isB v 3, spie := isB v 5, mpie := isB v 7, spp := v / 256 % 2, mpp := v / 2048 % 4, tw := isB v 21, tsr := isB v 22 } = mixV (msV s) v (keptV v) from e.symm]
      rfl
    · rw [if_neg hm] at e ⊢
      show (⟨s.x, s.pc, s.mode, s.asleep, msV { s with sie := isB v 1, mieb := isB v 3, spie := isB v 5, mpie := isB v 7, spp := v / 256 % 2, tw := isB v 21, tsr := isB v 22 }, s.medeleg, s.mideleg, s.mie, s.soft, s.stvec, s.sscratch, s.sepc, s.scause, s.stval, s.mtvec, s.mscratch, s.mepc, s.mcause, s.mtval, s.ram, s.msip, s.mtimecmp, s.mtime, _, _, _, _, _, _, _, _⟩ : CSt) = _
      rw [show msV { s with sie := isB v 1, mieb := isB v 3, spie := isB v 5, mpie := isB v 7, spp := v / 256 % 2, tw := isB v 21, tsr := isB v 22 } = mixV (msV s) v (keptV v) from e.symm]
      rfl
  · rw [stR_770, setC_770]
    rfl
  · rw [stR_771, setC_771]
    rfl
  · rw [stR_772, setC_772]
    rfl
  · rw [stR_773, setC_773]
    rfl
  · rw [stR_832, setC_832]
    rfl
  · rw [stR_833, setC_833]
    rfl
  · rw [stR_834, setC_834]
    rfl
  · rw [stR_835, setC_835]
    rfl
  · rw [stR_836, setC_836]
    rfl
  · rw [stR_3860, setC_3860]
theorem Gd.st {s : RSt} (h : Gd s) (n : Nat) (hn : n ∈ [256, 260, 261, 320, 321, 322, 323, 324, 768, 770, 771, 772, 773, 832, 833, 834, 835, 836, 3860]) (v : Int) (hv : W32 v) : Gd (stR s n v) := by
  have b1 : ∀ k : Nat, k < 4294967296 → W32 (bits .and .u32 v k) := fun k hk => hv.and (W32.lit hk)
  simp only [List.mem_cons, List.not_mem_nil, or_false] at hn
  rcases hn with rfl | rfl | rfl | rfl | rfl | rfl | rfl | rfl | rfl | rfl | rfl | rfl | rfl | rfl | rfl | rfl | rfl | rfl | rfl
  · rw [stR_256]
    exact { h with spp := (by show v / 256 % 2 = 0 ∨ v / 256 % 2 = 1; omega) }
  · rw [stR_260]
    exact { h with mie := (h.mie.andNot h.mideleg).or (hv.and h.mideleg) }
  · rw [stR_261]
    exact { h with stvec := b1 4294967293 (by decide) }
  · rw [stR_320]
    exact { h with sscratch := hv }
  · rw [stR_321]
    exact { h with sepc := b1 4294967292 (by decide), s4 := and_four hv }
  · rw [stR_322]
    exact { h with scause := b1 2147483663 (by decide) }
  · rw [stR_323]
    exact { h with stval := hv }
  · rw [stR_324]
    exact { h with soft := (h.soft.andNot (h.mideleg.and (W32.lit (n := 2) (by decide)))).or (hv.and (h.mideleg.and (W32.lit (n := 2) (by decide)))) }
  · rw [stR_768]
    by_cases hm : (v / 2048 % 4 != 2) = true
    · rw [if_pos hm]
      have hm' : v / 2048 % 4 ≠ 2 := by simpa using hm
      exact { h with spp := (by show v / 256 % 2 = 0 ∨ v / 256 % 2 = 1; omega), mpp := (by show v / 2048 % 4 = 0 ∨ v / 2048 % 4 = 1 ∨ v / 2048 % 4 = 3; omega) }
    · rw [if_neg hm]
      exact { h with spp := (by show v / 256 % 2 = 0 ∨ v / 256 % 2 = 1; omega) }
  · rw [stR_770]
    exact { h with medeleg := b1 943 (by decide) }
  · rw [stR_771]
    exact { h with mideleg := b1 546 (by decide) }
  · rw [stR_772]
    exact { h with mie := b1 2730 (by decide) }
  · rw [stR_773]
    exact { h with mtvec := b1 4294967293 (by decide) }
  · rw [stR_832]
    exact { h with mscratch := hv }
  · rw [stR_833]
    exact { h with mepc := b1 4294967292 (by decide), m4 := and_four hv }
  · rw [stR_834]
    exact { h with mcause := b1 2147483663 (by decide) }
  · rw [stR_835]
    exact { h with mtval := hv }
  · rw [stR_836]
    exact { h with soft := b1 34 (by decide) }
  · rw [stR_3860]
    exact h
end Go.Proofs.YtonlmogclejfaaaGreatDoor
