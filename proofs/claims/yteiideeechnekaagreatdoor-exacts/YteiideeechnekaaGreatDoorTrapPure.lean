/-
  The code's computer out of the document's; what the steps of both have in common, in plain numbers.
-/
import Derived.Test.YteiideeechnekaaGreatDoorTrapOf
import Derived.Test.YteiideeechnekaaGreatDoorRefSetCsr2
import Derived.Test.YteiideeechnekaaGreatDoorRefStep
import Derived.Test.YteiideeechnekaaGreatDoorRefCtl
import Derived.Test.YteiideeechnekaaGreatDoorRefLev
import Derived.Test.YteiideeechnekaaGreatDoorCodeLook
import Derived.Test.YteiideeechnekaaGreatDoorRefLook
import Derived.Test.YteiideeechnekaaGreatDoorMach
namespace Go.Proofs.YteiideeechnekaaGreatDoor
open Go.RowKit


theorem still_fail (s : RSt) (c : Nat) (t : Int) : Still s (failR s c t) := by
  unfold failR trapR
  split
  · exact Still.refl s
  · exact Still.refl s
theorem Gd.chosen {s : RSt} (h : Gd s) (hm : bits .and .u32 (mipR s) s.mie = 0) : chosenR s = -1 := by
  have hp := h.mip
  have e : ∀ i, enB s i = false := fun i => by
    unfold enB
    rcases none_en _ _ hp.1 hp.2 h.mie.1 h.mie.2 hm i with h1 | h1
    · rw [if_pos h1]
    · rw [if_pos h1]; split <;> rfl
  unfold chosenR
  generalize prs = l
  induction l with
  | nil => rfl
  | cons q l ih =>
    unfold chosenF okB
    rw [e]
    exact ih

-- exceptions
theorem fin2 {v : Int} (h : v = 0 ∨ v = 1) : ∃ i : Fin 2, v = (i.val : Int) := by rcases h with rfl | rfl; exact ⟨0, rfl⟩; exact ⟨1, rfl⟩
theorem fin4 {v : Int} (h : v = 0 ∨ v = 1 ∨ v = 3) : ∃ i : Fin 4, v = (i.val : Int) := by rcases h with rfl | rfl | rfl; exact ⟨0, rfl⟩; exact ⟨1, rfl⟩; exact ⟨3, rfl⟩
theorem sup_mode {s : RSt} {cause : Nat} (h : Gd s) (e : supB s cause = true) : s.mode = 0 ∨ s.mode = 1 := by
  unfold supB at e
  split at e
  · cases e
  · have := h.mode; omega
theorem msF_s (s : RSt) : msV s = msF s.sie s.mieb s.spie s.mpie s.tw s.tsr s.spp s.mpp := rfl
theorem cOf_trapS {s : RSt} (h : Gd s) (hm : s.mode = 0 ∨ s.mode = 1) (cause tval : Int) : cOf (trapS s cause tval 0) = entS (cOf s) cause tval := by
  have e1 : msV (trapS s cause tval 0) = layV (msV s) 2 32 256 8 s.mode := by
    obtain ⟨i, hi⟩ := fin2 h.spp
    obtain ⟨j, hj⟩ := fin4 h.mpp
    obtain ⟨k, hk⟩ := fin2 hm
    show msF false s.mieb s.sie s.mpie s.tw s.tsr s.mode s.mpp = layV (msF s.sie s.mieb s.spie s.mpie s.tw s.tsr s.spp s.mpp) 2 32 256 8 s.mode
    rw [hi, hj, hk]
    exact (lay_s _ _ _ _ _ _ i j k).symm
  have e2 : (bits .and .u32 s.stvec 4294967292 + 0) % 4294967296 = bits .and .u32 s.stvec 4294967292 := by
    have := h.stvec.and (W32.lit (n := 4294967292) (by decide))
    unfold W32 at this
    have e : ((4294967292 : Nat) : Int) = 4294967292 := rfl
    rw [e] at this
    omega
  show (⟨s.x, (bits .and .u32 s.stvec 4294967292 + 0) % 4294967296, 1, s.asleep, msV (trapS s cause tval 0), s.medeleg, s.mideleg, s.mie, s.soft, s.stvec, s.sscratch, s.pc, cause, tval, s.mtvec, s.mscratch, s.mepc, s.mcause, s.mtval, s.ram, s.msip, s.mtimecmp, s.mtime, _, _, _, _, _, _, _, _⟩ : CSt) = _
  rw [e1, e2]
  rfl
theorem cOf_trapM {s : RSt} (h : Gd s) (cause tval : Int) : cOf (trapM s cause tval 0) = entM (cOf s) cause tval := by
  have e1 : msV (trapM s cause tval 0) = layV (msV s) 8 128 6144 11 s.mode := by
    obtain ⟨i, hi⟩ := fin2 h.spp
    obtain ⟨j, hj⟩ := fin4 h.mpp
    obtain ⟨k, hk⟩ := fin4 h.mode
    show msF s.sie false s.spie s.mieb s.tw s.tsr s.spp s.mode = layV (msF s.sie s.mieb s.spie s.mpie s.tw s.tsr s.spp s.mpp) 8 128 6144 11 s.mode
    rw [hi, hj, hk]
    exact (lay_m _ _ _ _ _ _ i j k).symm
  have e2 : (bits .and .u32 s.mtvec 4294967292 + 0) % 4294967296 = bits .and .u32 s.mtvec 4294967292 := by
    have := h.mtvec.and (W32.lit (n := 4294967292) (by decide))
    unfold W32 at this
    have e : ((4294967292 : Nat) : Int) = 4294967292 := rfl
    rw [e] at this
    omega
  show (⟨s.x, (bits .and .u32 s.mtvec 4294967292 + 0) % 4294967296, 3, s.asleep, msV (trapM s cause tval 0), s.medeleg, s.mideleg, s.mie, s.soft, s.stvec, s.sscratch, s.sepc, s.scause, s.stval, s.mtvec, s.mscratch, s.pc, cause, tval, s.ram, s.msip, s.mtimecmp, s.mtime, _, _, _, _, _, _, _, _⟩ : CSt) = _
  rw [e1, e2]
  rfl
theorem cOf_fail {s : RSt} (h : Gd s) (cause : Nat) (tval : Int) : cOf (failR s cause tval) = excC (cOf s) cause tval := by
  unfold failR trapR excC
  rw [show supC (cOf s) cause = supB s cause from rfl]
  by_cases e : supB s cause = true
  · rw [if_pos e, if_pos e]
    exact cOf_trapS h (sup_mode h e) cause tval
  · rw [if_neg e, if_neg e]
    exact cOf_trapM h cause tval
theorem Gd.trapS {s : RSt} (h : Gd s) (hm : s.mode = 0 ∨ s.mode = 1) (cause tval : Int) (hc : W32 cause) (ht : W32 tval) : Gd (trapS s cause tval 0) := by
  have v := h.stvec.and (W32.lit (n := 4294967292) (by decide))
  have v4 := and_four h.stvec
  have e : ((4294967292 : Nat) : Int) = 4294967292 := rfl
  rw [e] at v
  have e2 : (bits .and .u32 s.stvec 4294967292 + 0) % 4294967296 = bits .and .u32 s.stvec 4294967292 := by unfold W32 at v; omega
  exact { z := h.z, x := h.x, pc := (by show W32 ((bits .and .u32 s.stvec 4294967292 + 0) % 4294967296); rw [e2]; exact v), p4 := (by show (bits .and .u32 s.stvec 4294967292 + 0) % 4294967296 % 4 = 0; rw [e2]; exact v4), n4 := h.n4, b := h.b, mode := .inr (.inl rfl), spp := hm, mpp := h.mpp, medeleg := h.medeleg, mideleg := h.mideleg, mie := h.mie, soft := h.soft, stvec := h.stvec, sscratch := h.sscratch, sepc := h.pc, scause := hc, stval := ht, mtvec := h.mtvec, mscratch := h.mscratch, mepc := h.mepc, mcause := h.mcause, mtval := h.mtval, s4 := h.p4, m4 := h.m4, mb := h.mb, db := h.db, dv := { h.dv with } }
theorem Gd.trapM {s : RSt} (h : Gd s) (cause tval : Int) (hc : W32 cause) (ht : W32 tval) : Gd (trapM s cause tval 0) := by
  have v := h.mtvec.and (W32.lit (n := 4294967292) (by decide))
  have v4 := and_four h.mtvec
  have e : ((4294967292 : Nat) : Int) = 4294967292 := rfl
  rw [e] at v
  have e2 : (bits .and .u32 s.mtvec 4294967292 + 0) % 4294967296 = bits .and .u32 s.mtvec 4294967292 := by unfold W32 at v; omega
  exact { z := h.z, x := h.x, pc := (by show W32 ((bits .and .u32 s.mtvec 4294967292 + 0) % 4294967296); rw [e2]; exact v), p4 := (by show (bits .and .u32 s.mtvec 4294967292 + 0) % 4294967296 % 4 = 0; rw [e2]; exact v4), n4 := h.n4, b := h.b, mode := .inr (.inr rfl), spp := h.spp, mpp := h.mode, medeleg := h.medeleg, mideleg := h.mideleg, mie := h.mie, soft := h.soft, stvec := h.stvec, sscratch := h.sscratch, sepc := h.sepc, scause := h.scause, stval := h.stval, mtvec := h.mtvec, mscratch := h.mscratch, mepc := h.pc, mcause := hc, mtval := ht, s4 := h.s4, m4 := h.p4, mb := h.mb, db := h.db, dv := { h.dv with } }
theorem Gd.fail {s : RSt} (h : Gd s) (cause : Nat) (hc : cause < 32) (tval : Int) (ht : W32 tval) : Gd (failR s cause tval) := by
  have c : W32 (cause : Int) := ⟨by omega, by omega⟩
  unfold failR trapR
  by_cases e : supB s cause = true
  · rw [if_pos e]; exact h.trapS (sup_mode h e) _ _ c ht
  · rw [if_neg e]; exact h.trapM _ _ c ht
theorem Gd.sys {s : RSt} (h : Gd s) : Gd (sysR s) := { h with dv := { h.dv with } }
theorem Gd.sys1 {s : RSt} (h : Gd s) : Gd (sys1 s) := { h with dv := { h.dv with } }
theorem Gd.setPc {s : RSt} (h : Gd s) (v : Int) (hv : W32 v) (h4 : v % 4 = 0) : Gd { s with pc := v } := { h with dv := { h.dv with }, pc := hv, p4 := h4 }
theorem Gd.next {s : RSt} (h : Gd s) : Gd (nextR s) := h.setPc _ ⟨by omega, by omega⟩ (by have := h.p4; omega)
theorem Gd.put {s : RSt} (h : Gd s) (rd : Nat) (v : Int) (hv : W32 v) : Gd (putR s rd v) := by
  refine { h with dv := { h.dv with }, z := ?_, x := ?_ }
  · show (putX s.x rd v)[0]?.getD 0 = 0
    unfold putX
    split
    · exact h.z
    · rename_i hr
      rw [List.getElem?_set]
      simp [hr]
      exact h.z
  · intro i
    show 0 ≤ (putX s.x rd v)[i]?.getD 0 ∧ (putX s.x rd v)[i]?.getD 0 < 4294967296
    unfold putX
    split
    · exact h.x i
    · rw [List.getElem?_set]
      split
      · split
        · simp; exact hv
        · simp
      · exact h.x i
theorem Gd.ram {s : RSt} (h : Gd s) (a w : Nat) (v : Int) : Gd { s with ram := stV s.ram a v w } := { h with dv := { h.dv with }, n4 := (by show 4 ≤ (stV s.ram a v w).length; rw [stV_len]; exact h.n4), b := stV_byt h.b a v w }

-- Mret, Sret, Wfi
theorem cOf_mret {s : RSt} (h : Gd s) : cOf (mretR s) = leaM (cOf s) := by
  obtain ⟨i, hi⟩ := fin2 h.spp
  obtain ⟨j, hj⟩ := fin4 h.mpp
  have e := back_m s.sie s.mieb s.spie s.mpie s.tw s.tsr i j
  rw [← hi, ← hj] at e
  have e1 : msV (mretR s) = backV (msV s) 8 128 6144 := e.1.symm
  have e2 : bits .and .u32 (msV s) 6144 / 2048 = s.mpp := e.2
  show (⟨s.x, s.mepc, s.mpp, s.asleep, msV (mretR s), s.medeleg, s.mideleg, s.mie, s.soft, s.stvec, s.sscratch, s.sepc, s.scause, s.stval, s.mtvec, s.mscratch, s.mepc, s.mcause, s.mtval, s.ram, s.msip, s.mtimecmp, s.mtime, _, _, _, _, _, _, _, _⟩ : CSt) = _
  unfold leaM
  rw [show (cOf s).mstatus = msV s from rfl, e1, e2]
  rfl
theorem cOf_sret {s : RSt} (h : Gd s) : cOf (sretR s) = leaS (cOf s) := by
  obtain ⟨i, hi⟩ := fin2 h.spp
  obtain ⟨j, hj⟩ := fin4 h.mpp
  have e := back_s s.sie s.mieb s.spie s.mpie s.tw s.tsr i j
  rw [← hi, ← hj] at e
  have e1 : msV (sretR s) = backV (msV s) 2 32 256 := e.1.symm
  have e2 : bits .and .u32 (msV s) 256 / 256 = s.spp := e.2
  show (⟨s.x, s.sepc, s.spp, s.asleep, msV (sretR s), s.medeleg, s.mideleg, s.mie, s.soft, s.stvec, s.sscratch, s.sepc, s.scause, s.stval, s.mtvec, s.mscratch, s.mepc, s.mcause, s.mtval, s.ram, s.msip, s.mtimecmp, s.mtime, _, _, _, _, _, _, _, _⟩ : CSt) = _
  unfold leaS
  rw [show (cOf s).mstatus = msV s from rfl, e1, e2]
  rfl
theorem Gd.mret {s : RSt} (h : Gd s) : Gd (mretR s) := { h with dv := { h.dv with }, pc := h.mepc, p4 := h.m4, mode := h.mpp, mpp := .inl rfl }
theorem Gd.sret {s : RSt} (h : Gd s) : Gd (sretR s) := { h with dv := { h.dv with }, pc := h.sepc, p4 := h.s4, mode := (by have := h.spp; show s.spp = 0 ∨ s.spp = 1 ∨ s.spp = 3; omega), spp := .inl rfl }
theorem Gd.wfi {s : RSt} (h : Gd s) : Gd (wfiR s) := { h with dv := { h.dv with }, pc := ⟨by show 0 ≤ (s.pc + 4) % 4294967296; omega, by show (s.pc + 4) % 4294967296 < 4294967296; omega⟩, p4 := (by have := h.p4; show (s.pc + 4) % 4294967296 % 4 = 0; omega) }
theorem tsr_bit {s : RSt} (h : Gd s) : (bits .and .u32 (msV s) 4194304 != 0) = s.tsr := by
  obtain ⟨i, hi⟩ := fin2 h.spp
  obtain ⟨j, hj⟩ := fin4 h.mpp
  rw [msF_s, hi, hj]
  exact (tw_tsr s.sie s.mieb s.spie s.mpie s.tw s.tsr i j).2
theorem tw_bit {s : RSt} (h : Gd s) : (bits .and .u32 (msV s) 2097152 != 0) = s.tw := by
  obtain ⟨i, hi⟩ := fin2 h.spp
  obtain ⟨j, hj⟩ := fin4 h.mpp
  rw [msF_s, hi, hj]
  exact (tw_tsr s.sie s.mieb s.spie s.mpie s.tw s.tsr i j).1

-- control registers are written
theorem setC_256 (c : CSt) (v : Int) : setC c 256 v = { c with mstatus := mixV c.mstatus v 290 } := rfl
theorem stR_256 (s : RSt) (v : Int) : stR s 256 v = { s with sie := isB v 1, spie := isB v 5, spp := v / 256 % 2 } := rfl
theorem setC_260 (c : CSt) (v : Int) : setC c 260 v = { c with mie := mixV c.mie v c.mideleg } := rfl
theorem stR_260 (s : RSt) (v : Int) : stR s 260 v = { s with mie := bits .or .u32 (bits .andNot .u32 s.mie s.mideleg) (bits .and .u32 v s.mideleg) } := rfl
theorem setC_261 (c : CSt) (v : Int) : setC c 261 v = { c with stvec := bits .and .u32 v 4294967293 } := rfl
theorem stR_261 (s : RSt) (v : Int) : stR s 261 v = { s with stvec := bits .and .u32 v 4294967293 } := rfl
theorem setC_320 (c : CSt) (v : Int) : setC c 320 v = { c with sscratch := v } := rfl
theorem stR_320 (s : RSt) (v : Int) : stR s 320 v = { s with sscratch := v } := rfl
theorem setC_321 (c : CSt) (v : Int) : setC c 321 v = { c with sepc := bits .and .u32 v 4294967292 } := rfl
theorem stR_321 (s : RSt) (v : Int) : stR s 321 v = { s with sepc := bits .and .u32 v 4294967292 } := rfl
theorem setC_322 (c : CSt) (v : Int) : setC c 322 v = { c with scause := bits .and .u32 v 2147483663 } := rfl
theorem stR_322 (s : RSt) (v : Int) : stR s 322 v = { s with scause := bits .and .u32 v 2147483663 } := rfl
theorem setC_323 (c : CSt) (v : Int) : setC c 323 v = { c with stval := v } := rfl
theorem stR_323 (s : RSt) (v : Int) : stR s 323 v = { s with stval := v } := rfl
theorem setC_324 (c : CSt) (v : Int) : setC c 324 v = { c with written := mixV c.written v (bits .and .u32 c.mideleg 2) } := rfl
theorem stR_324 (s : RSt) (v : Int) : stR s 324 v = { s with soft := bits .or .u32 (bits .andNot .u32 s.soft (bits .and .u32 s.mideleg 2)) (bits .and .u32 v (bits .and .u32 s.mideleg 2)) } := rfl
theorem setC_768 (c : CSt) (v : Int) : setC c 768 v = { c with mstatus := mixV c.mstatus v (keptV v) } := rfl
theorem stR_768 (s : RSt) (v : Int) : stR s 768 v = (if (v / 2048 % 4 != 2) = true then { s with sie := isB v 1, mieb := isB v 3, spie := isB v 5, mpie := isB v 7, spp := v / 256 % 2, mpp := v / 2048 % 4, tw := isB v 21, tsr := isB v 22 } else { s with sie := isB v 1, mieb := isB v 3, spie := isB v 5, mpie := isB v 7, spp := v / 256 % 2, tw := isB v 21, tsr := isB v 22 }) := rfl
theorem setC_770 (c : CSt) (v : Int) : setC c 770 v = { c with medeleg := bits .and .u32 v 943 } := rfl
theorem stR_770 (s : RSt) (v : Int) : stR s 770 v = { s with medeleg := bits .and .u32 v 943 } := rfl
theorem setC_771 (c : CSt) (v : Int) : setC c 771 v = { c with mideleg := bits .and .u32 v 546 } := rfl
theorem stR_771 (s : RSt) (v : Int) : stR s 771 v = { s with mideleg := bits .and .u32 v 546 } := rfl
theorem setC_772 (c : CSt) (v : Int) : setC c 772 v = { c with mie := bits .and .u32 v 2730 } := rfl
theorem stR_772 (s : RSt) (v : Int) : stR s 772 v = { s with mie := bits .and .u32 v 2730 } := rfl
theorem setC_773 (c : CSt) (v : Int) : setC c 773 v = { c with mtvec := bits .and .u32 v 4294967293 } := rfl
theorem stR_773 (s : RSt) (v : Int) : stR s 773 v = { s with mtvec := bits .and .u32 v 4294967293 } := rfl
theorem setC_832 (c : CSt) (v : Int) : setC c 832 v = { c with mscratch := v } := rfl
theorem stR_832 (s : RSt) (v : Int) : stR s 832 v = { s with mscratch := v } := rfl
theorem setC_833 (c : CSt) (v : Int) : setC c 833 v = { c with mepc := bits .and .u32 v 4294967292 } := rfl
theorem stR_833 (s : RSt) (v : Int) : stR s 833 v = { s with mepc := bits .and .u32 v 4294967292 } := rfl
theorem setC_834 (c : CSt) (v : Int) : setC c 834 v = { c with mcause := bits .and .u32 v 2147483663 } := rfl
theorem stR_834 (s : RSt) (v : Int) : stR s 834 v = { s with mcause := bits .and .u32 v 2147483663 } := rfl
theorem setC_835 (c : CSt) (v : Int) : setC c 835 v = { c with mtval := v } := rfl
theorem stR_835 (s : RSt) (v : Int) : stR s 835 v = { s with mtval := v } := rfl
theorem setC_836 (c : CSt) (v : Int) : setC c 836 v = { c with written := bits .and .u32 v 34 } := rfl
theorem stR_836 (s : RSt) (v : Int) : stR s 836 v = { s with soft := bits .and .u32 v 34 } := rfl
theorem setC_3860 (c : CSt) (v : Int) : setC c 3860 v = c := rfl
theorem stR_3860 (s : RSt) (v : Int) : stR s 3860 v = s := rfl
theorem cOf_st {s : RSt} (h : Gd s) (n : Nat) (hn : n ∈ [256, 260, 261, 320, 321, 322, 323, 324, 768, 770, 771, 772, 773, 832, 833, 834, 835, 836, 3860]) (v : Int) (hv : W32 v) : cOf (stR s n v) = setC (cOf s) n v := by
  simp only [List.mem_cons, List.not_mem_nil, or_false] at hn
  rcases hn with rfl | rfl | rfl | rfl | rfl | rfl | rfl | rfl | rfl | rfl | rfl | rfl | rfl | rfl | rfl | rfl | rfl | rfl | rfl
  · rw [stR_256, setC_256]
    have e : msV { s with sie := isB v 1, spie := isB v 5, spp := v / 256 % 2 } = mixV (msV s) v 290 := (set_ss s.sie s.mieb s.spie s.mpie s.tw s.tsr s.spp s.mpp v h.spp h.mpp hv.1 hv.2).symm
    show (⟨s.x, s.pc, s.mode, s.asleep, msV { s with sie := isB v 1, spie := isB v 5, spp := v / 256 % 2 }, s.medeleg, s.mideleg, s.mie, s.soft, s.stvec, s.sscratch, s.sepc, s.scause, s.stval, s.mtvec, s.mscratch, s.mepc, s.mcause, s.mtval, s.ram, s.msip, s.mtimecmp, s.mtime, _, _, _, _, _, _, _, _⟩ : CSt) = _
    rw [e]
    rfl
  · rw [stR_260, setC_260]
    rfl
  · rw [stR_261, setC_261]
    rfl
  · rw [stR_320, setC_320]
    rfl
  · rw [stR_321, setC_321]
    rfl
  · rw [stR_322, setC_322]
    rfl
  · rw [stR_323, setC_323]
    rfl
  · rw [stR_324, setC_324]
    rfl
  · rw [stR_768, setC_768]
    have e := set_ms s.sie s.mieb s.spie s.mpie s.tw s.tsr s.spp s.mpp v h.spp h.mpp hv.1 hv.2
    by_cases hm : (v / 2048 % 4 != 2) = true
    · rw [if_pos hm] at e ⊢
      show (⟨s.x, s.pc, s.mode, s.asleep, msV { s with sie := isB v 1, mieb := isB v 3, spie := isB v 5, mpie := isB v 7, spp := v / 256 % 2, mpp := v / 2048 % 4, tw := isB v 21, tsr := isB v 22 }, s.medeleg, s.mideleg, s.mie, s.soft, s.stvec, s.sscratch, s.sepc, s.scause, s.stval, s.mtvec, s.mscratch, s.mepc, s.mcause, s.mtval, s.ram, s.msip, s.mtimecmp, s.mtime, _, _, _, _, _, _, _, _⟩ : CSt) = _
      rw [show msV { s with sie := isB v 1, mieb := isB v 3, spie := isB v 5, mpie := isB v 7, spp := v / 256 % 2, mpp := v / 2048 % 4, tw := isB v 21, tsr := isB v 22 } = mixV (msV s) v (keptV v) from e.symm]
      rfl
    · rw [if_neg hm] at e ⊢
      show (⟨s.x, s.pc, s.mode, s.asleep, msV { s with sie := isB v 1, mieb := isB v 3, spie := isB v 5, mpie := isB v 7, spp := v / 256 % 2, tw := isB v 21, tsr := isB v 22 }, s.medeleg, s.mideleg, s.mie, s.soft, s.stvec, s.sscratch, s.sepc, s.scause, s.stval, s.mtvec, s.mscratch, s.mepc, s.mcause, s.mtval, s.ram, s.msip, s.mtimecmp, s.mtime, _, _, _, _, _, _, _, _⟩ : CSt) = _
      rw [show msV { s with sie := isB v 1, mieb := isB v 3, spie := isB v 5, mpie := isB v 7, spp := v / 256 % 2, tw := isB v 21, tsr := isB v 22 } = mixV (msV s) v (keptV v) from e.symm]
      rfl
  · rw [stR_770, setC_770]
    rfl
  · rw [stR_771, setC_771]
    rfl
  · rw [stR_772, setC_772]
    rfl
  · rw [stR_773, setC_773]
    rfl
  · rw [stR_832, setC_832]
    rfl
  · rw [stR_833, setC_833]
    rfl
  · rw [stR_834, setC_834]
    rfl
  · rw [stR_835, setC_835]
    rfl
  · rw [stR_836, setC_836]
    rfl
  · rw [stR_3860, setC_3860]
theorem still_st (s : RSt) (n : Nat) (hn : n ∈ [256, 260, 261, 320, 321, 322, 323, 324, 768, 770, 771, 772, 773, 832, 833, 834, 835, 836, 3860]) (v : Int) : Still s (stR s n v) := by
  simp only [List.mem_cons, List.not_mem_nil, or_false] at hn
  rcases hn with rfl | rfl | rfl | rfl | rfl | rfl | rfl | rfl | rfl | rfl | rfl | rfl | rfl | rfl | rfl | rfl | rfl | rfl | rfl
  · rw [stR_256]
    exact Still.refl s
  · rw [stR_260]
    exact Still.refl s
  · rw [stR_261]
    exact Still.refl s
  · rw [stR_320]
    exact Still.refl s
  · rw [stR_321]
    exact Still.refl s
  · rw [stR_322]
    exact Still.refl s
  · rw [stR_323]
    exact Still.refl s
  · rw [stR_324]
    exact Still.refl s
  · rw [stR_768]
    split
    · exact Still.refl s
    · exact Still.refl s
  · rw [stR_770]
    exact Still.refl s
  · rw [stR_771]
    exact Still.refl s
  · rw [stR_772]
    exact Still.refl s
  · rw [stR_773]
    exact Still.refl s
  · rw [stR_832]
    exact Still.refl s
  · rw [stR_833]
    exact Still.refl s
  · rw [stR_834]
    exact Still.refl s
  · rw [stR_835]
    exact Still.refl s
  · rw [stR_836]
    exact Still.refl s
  · rw [stR_3860]
    exact Still.refl s
theorem Gd.st {s : RSt} (h : Gd s) (n : Nat) (hn : n ∈ [256, 260, 261, 320, 321, 322, 323, 324, 768, 770, 771, 772, 773, 832, 833, 834, 835, 836, 3860]) (v : Int) (hv : W32 v) : Gd (stR s n v) := by
  have b1 : ∀ k : Nat, k < 4294967296 → W32 (bits .and .u32 v k) := fun k hk => hv.and (W32.lit hk)
  simp only [List.mem_cons, List.not_mem_nil, or_false] at hn
  rcases hn with rfl | rfl | rfl | rfl | rfl | rfl | rfl | rfl | rfl | rfl | rfl | rfl | rfl | rfl | rfl | rfl | rfl | rfl | rfl
  · rw [stR_256]
    exact { h with dv := { h.dv with }, spp := (by show v / 256 % 2 = 0 ∨ v / 256 % 2 = 1; omega) }
  · rw [stR_260]
    exact { h with dv := { h.dv with }, mie := (h.mie.andNot h.mideleg).or (hv.and h.mideleg), mb := fun i hi => mix_in h.mie hv h.mideleg h.mb h.db i hi }
  · rw [stR_261]
    exact { h with dv := { h.dv with }, stvec := b1 4294967293 (by decide) }
  · rw [stR_320]
    exact { h with dv := { h.dv with }, sscratch := hv }
  · rw [stR_321]
    exact { h with dv := { h.dv with }, sepc := b1 4294967292 (by decide), s4 := and_four hv }
  · rw [stR_322]
    exact { h with dv := { h.dv with }, scause := b1 2147483663 (by decide) }
  · rw [stR_323]
    exact { h with dv := { h.dv with }, stval := hv }
  · rw [stR_324]
    exact { h with dv := { h.dv with }, soft := (h.soft.andNot (h.mideleg.and (W32.lit (n := 2) (by decide)))).or (hv.and (h.mideleg.and (W32.lit (n := 2) (by decide)))) }
  · rw [stR_768]
    by_cases hm : (v / 2048 % 4 != 2) = true
    · rw [if_pos hm]
      have hm' : v / 2048 % 4 ≠ 2 := by simpa using hm
      exact { h with dv := { h.dv with }, spp := (by show v / 256 % 2 = 0 ∨ v / 256 % 2 = 1; omega), mpp := (by show v / 2048 % 4 = 0 ∨ v / 2048 % 4 = 1 ∨ v / 2048 % 4 = 3; omega) }
    · rw [if_neg hm]
      exact { h with dv := { h.dv with }, spp := (by show v / 256 % 2 = 0 ∨ v / 256 % 2 = 1; omega) }
  · rw [stR_770]
    exact { h with dv := { h.dv with }, medeleg := b1 943 (by decide) }
  · rw [stR_771]
    exact { h with dv := { h.dv with }, mideleg := b1 546 (by decide), db := fun i hi => and_in2 hv i hi }
  · rw [stR_772]
    exact { h with dv := { h.dv with }, mie := b1 2730 (by decide), mb := fun i hi => and_in hv i hi }
  · rw [stR_773]
    exact { h with dv := { h.dv with }, mtvec := b1 4294967293 (by decide) }
  · rw [stR_832]
    exact { h with dv := { h.dv with }, mscratch := hv }
  · rw [stR_833]
    exact { h with dv := { h.dv with }, mepc := b1 4294967292 (by decide), m4 := and_four hv }
  · rw [stR_834]
    exact { h with dv := { h.dv with }, mcause := b1 2147483663 (by decide) }
  · rw [stR_835]
    exact { h with dv := { h.dv with }, mtval := hv }
  · rw [stR_836]
    exact { h with dv := { h.dv with }, soft := b1 34 (by decide) }
  · rw [stR_3860]
    exact h
end Go.Proofs.YteiideeechnekaaGreatDoor
