/-
  The document's control.
-/
import Derived.Test.YteiideeechnekaaGreatDoorRefTrap
import Derived.Test.YteiideeechnekaaGreatDoorDLeaf
namespace Go.Proofs.YteiideeechnekaaGreatDoor
open Go.RowKit

def sysR (s : RSt) : RSt := { s with system := wrap64 (s.system + 1) }
def wrB (op : Int) (r1 : Nat) : Bool := if op = 44 then true else if op = 47 then true else if r1 = 0 then false else true
def ctlV (op old a r1 : Int) : Int := if op = 44 then a else if op = 45 then bits .or .u32 old a else if op = 46 then bits .andNot .u32 old a else if op = 47 then r1 else if op = 48 then bits .or .u32 old r1 else bits .andNot .u32 old r1
def nextR (s : RSt) : RSt := { s with pc := (s.pc + 4) % 4294967296 }
def mayB (s : RSt) (n : Nat) (wr : Bool) : Bool := if s.mode < (n : Int) / 256 % 4 then false else if wr then (if (n : Int) / 1024 = 3 then false else true) else true
/-- Where control ends: old, ok: what Csr tells; st: what setCsr makes. -/
def ctlR (s : RSt) (op : Int) (rd r1 n : Nat) (w a old : Int) (st : Int → RSt) : RSt :=
  if mayB s n (wrB op r1) then nextR (putR (if wrB op r1 then st (ctlV op old a r1) else sysR s) rd old) else failR (sysR s) 2 w
def CsrIs (p : Nat) (b : RBl) (s : RSt) (n : Nat) (old : Int) (ok : Bool) : Prop := ∀ W', RefAt W' p b (sysR s) → Calls Tryz.prog 68 #[.pointer (some ⟨p, 0, none⟩), .int .u32 n] W' fun e W'' => e = .returned (.tuple #[.int .u32 old, .bool ok]) ∧ ∃ q, W'' = W'.drewN q
def SetIs (p : Nat) (b : RBl) (s : RSt) (n : Nat) (st : Int → RSt) : Prop := ∀ W' v, 0 ≤ v → v < 4294967296 → RefAt W' p b (sysR s) → Calls Tryz.prog 99 #[.pointer (some ⟨p, 0, none⟩), .int .u32 n, .int .u32 v] W' fun e W'' => e = .returned (.tuple #[]) ∧ RefAt W'' p b (st v) ∧ Offs (b.l p) W' W''
def CtlIs (W : World) (p : Nat) (b : RBl) (op : Int) (rd r1 : Nat) (r2 : Int) (n : Nat) (w a : Int) (st : RSt) : Prop := Calls Tryz.prog 63 #[.pointer (some ⟨p, 0, none⟩), .agg #[.int .i64 op, .int .i64 rd, .int .i64 r1, .int .i64 r2, .int .u32 n], .int .u32 w, .int .u32 a] W fun e W' => e = .returned (.tuple #[]) ∧ RefAt W' p b st ∧ Offs (b.l p) W W'
theorem or_bd (a b : Int) (a0 : 0 ≤ a) (a1 : a < 4294967296) (b0 : 0 ≤ b) (b1 : b < 4294967296) : 0 ≤ bits .or .u32 a b ∧ bits .or .u32 a b < 4294967296 := by
  rw [u32_or a b a0 a1 b0 b1]
  have := Nat.or_lt_two_pow (n := 32) (x := a.toNat) (y := b.toNat) (by omega) (by omega)
  omega
theorem an2_bd (a b : Int) (a0 : 0 ≤ a) (a1 : a < 4294967296) (b0 : 0 ≤ b) (b1 : b < 4294967296) : 0 ≤ bits .andNot .u32 a b ∧ bits .andNot .u32 a b < 4294967296 := by
  rw [u32_andNot a b a0 a1 b0 b1]
  have : a.toNat &&& (4294967295 - b.toNat) ≤ a.toNat := Nat.and_le_left
  omega
theorem box_kept {W w2 : World} {L : List Nat} {c : Array Value} {t : TypeId} {p k : Nat} {v : Value} {q : Nat} (hp : p ≠ W.heap.size) (hL : W.heap.size ∉ L) (o2 : Offs L (((W.alloc (.cells c t)).setCell ⟨p, k, none⟩ v).drewN q) w2) (j : Nat) : w2.cell? ⟨W.heap.size, j, none⟩ = c[j]? := by
  have e : w2.heap[W.heap.size]? = some (.cells c t (0, 0)) := (o2.block _ (by show _ < ((W.alloc (.cells c t)).setCell ⟨p, k, none⟩ v).heap.size; simp [World.setCell]) hL).trans ((Below.heap_setCell _ _ _ _ (Ne.symm hp)).trans (heap_alloc_new W _))
  exact cell_of_row w2 _ j c _ (0, 0) e
theorem boxed {W : World} {o : Obj} {p : Nat} {b : RBl} {s : RSt} (h : RefAt W p b s) : RefAt (W.alloc o) p b s := h.below ((Below.refl _ _).alloc (Nat.le_refl _) o) (Nat.le_refl _)
theorem ctl_facts (W : World) (p : Nat) (b : RBl) (s : RSt) (h : RefAt W p b s) (A : b.Apart p) (rd : Nat) (hrd : rd < 32) (r1 n : Nat) (hr1 : r1 < 32) (hn : n < 4096) : W.cell? ⟨p, 34, none⟩ = some (.int .i64 s.system) ∧ (∀ j, W.frozen? ⟨p, j, none⟩ = false) ∧ (∀ o, (W.alloc o).cell? ⟨p, 34, none⟩ = some (.int .i64 s.system)) ∧ (∀ o j, (W.alloc o).frozen? ⟨p, j, none⟩ = false) ∧ Hid (∀ o v, v = wrap64 (s.system + 1) → RefAt ((W.alloc o).setCell ⟨p, 34, none⟩ (.int .i64 v)) p b (sysR s)) ∧ (n : Int) < 4096 ∧ (r1 : Int) < 32 ∧ (rd : Int) < 32 ∧ p ≠ W.heap.size ∧ Hid (W.heap.size ∉ b.l p) := by
  have bp := h.lt
  exact ⟨h.system, h.fp, fun o => (boxed (o := o) h).system, fun o => (boxed (o := o) h).fp, fun o v hv => by rw [hv]; exact (boxed h).put_system A _, by omega, by omega, by omega, by omega, fun hk => by simp [RBl.l] at hk; omega⟩
set_option maxHeartbeats 2000000 in
theorem ctlno_44 (W : World) (p : Nat) (b : RBl) (s : RSt) (h : RefAt W p b s) (A : b.Apart p) (rd : Nat) (hrd : rd < 32) (r2 : Int) (r1 n : Nat) (hr1 : r1 < 32) (hn : n < 4096) (w a old : Int)
    (CS : CsrIs p b s n old false) :
    CtlIs W p b 44 rd r1 r2 n w a (failR (sysR s) 2 w) := by
  have HF : Hid (RefAt W p b s) := h
  obtain ⟨c0, f0, cs, fs, HS, hn', hr', hd', hW, HL⟩ := ctl_facts W p b s h A rd hrd r1 n hr1 hn
  have HC := CS
  clear CS h
  unfold CtlIs
  unfold CsrIs at HC
  go_enter Tryz.func63, Tryz.ntmps63
  go_wp2_with fail
  refine (HC _ (HS.out _ _ rfl)).mono ?_
  rintro e w1 ⟨rfl, q, rfl⟩
  go_wp2_with fail
  go_quiet (fail)
  go_wp2_with (go_at_call 30; refine (fails_any _ p b (sysR s) ((HS.out _ _ rfl).drawn _) A 2 (by decide) _).mono ?_; rintro e w2 ⟨rfl, h2, o2⟩)
  exact bodyPost_ret (v := .tuple #[]) (by simp [results, Tryz.results63, go_sem]) rfl ⟨rfl, h2, ((((Offs.refl _ _).new _).put (by simp [RBl.l]) _).drawn _).trans o2⟩
set_option maxHeartbeats 4000000 in
theorem ctl_44 (W : World) (p : Nat) (b : RBl) (s : RSt) (h : RefAt W p b s) (A : b.Apart p) (rd : Nat) (hrd : rd < 32) (r2 : Int) (r1 n : Nat) (hr1 : r1 < 32) (hn : n < 4096) (w a old : Int) (AO : 0 ≤ a ∧ a < 4294967296 ∧ 0 ≤ old ∧ old < 4294967296) (m0 : 0 ≤ s.mode) (m3 : s.mode ≤ 3) (st : Int → RSt)
    (CS : CsrIs p b s n old true)
    (ST : SetIs p b s n st) :
    CtlIs W p b 44 rd r1 r2 n w a (ctlR s 44 rd r1 n w a old st) := by
  have HF : Hid (RefAt W p b s) := h
  obtain ⟨c0, f0, cs, fs, HS, hn', hr', hd', hW, HL⟩ := ctl_facts W p b s h A rd hrd r1 n hr1 hn
  have HC := CS
  clear CS h
  unfold CtlIs
  unfold CsrIs at HC
  have HT : Hid (SetIs p b s n st) := ST
  clear ST
  have cm := HF.out.mode
  have cmo := fun o => (boxed (o := o) HF.out).mode
  have e8 : bits .and .u32 ((n : Int) / 256) 3 = (n : Int) / 256 % 4 := by have := D.mask_u32 2 (by decide) ((n : Int) / 256) (by omega) (by omega); simpa using this
  have ew : wrB 44 r1 = true := by simp [wrB]
  by_cases hl : s.mode < (n : Int) / 256 % 4
  · have HE : Hid (ctlR s 44 rd r1 n w a old st = failR (sysR s) 2 w) := by unfold Hid ctlR mayB; rw [if_pos hl]; rfl
    clear ew
    go_enter Tryz.func63, Tryz.ntmps63
    go_wp2_with fail
    refine (HC _ (HS.out _ _ rfl)).mono ?_
    rintro e w1 ⟨rfl, q, rfl⟩
    go_wp2_with fail
    go_quiet (fail)
    go_wp2_with (go_at_call 30; refine (fails_any _ p b (sysR s) ((HS.out _ _ rfl).drawn _) A 2 (by decide) _).mono ?_; rintro e w2 ⟨rfl, h2, o2⟩)
    exact bodyPost_ret (v := .tuple #[]) (by simp [results, Tryz.results63, go_sem]) rfl ⟨rfl, by rw [HE.out]; exact h2, ((((Offs.refl _ _).new _).put (by simp [RBl.l]) _).drawn _).trans o2⟩
  have hl' : decide (s.mode < (n : Int) / 256 % 4) = false := decide_eq_false hl
  by_cases h3 : (n : Int) / 1024 = 3
  · have HE : Hid (ctlR s 44 rd r1 n w a old st = failR (sysR s) 2 w) := by unfold Hid ctlR mayB; rw [if_neg hl, ew, if_pos rfl, if_pos h3]; rfl
    clear ew hl
    go_enter Tryz.func63, Tryz.ntmps63
    go_wp2_with fail
    refine (HC _ (HS.out _ _ rfl)).mono ?_
    rintro e w1 ⟨rfl, q, rfl⟩
    go_wp2_with fail
    go_quiet (fail)
    go_wp2_with (go_at_call 30; refine (fails_any _ p b (sysR s) ((HS.out _ _ rfl).drawn _) A 2 (by decide) _).mono ?_; rintro e w2 ⟨rfl, h2, o2⟩)
    exact bodyPost_ret (v := .tuple #[]) (by simp [results, Tryz.results63, go_sem]) rfl ⟨rfl, by rw [HE.out]; exact h2, ((((Offs.refl _ _).new _).put (by simp [RBl.l]) _).drawn _).trans o2⟩
  have h3' : ((n : Int) / 1024 == 3) = false := by simpa using h3
  have HE : Hid (ctlR s 44 rd r1 n w a old st = nextR (putR (st (ctlV 44 old a r1)) rd old)) := by unfold Hid ctlR mayB; rw [if_neg hl, ew, if_pos rfl, if_neg h3]; rfl
  clear ew hl h3
  go_enter Tryz.func63, Tryz.ntmps63
  go_wp2_with fail
  refine (HC _ (HS.out _ _ rfl)).mono ?_
  rintro e w1 ⟨rfl, q, rfl⟩
  go_wp2_with fail
  go_quiet (fail)
  go_wp2_with fail
  refine (HT.out _ _ AO.1 AO.2.1 ((HS.out _ _ rfl).drawn _)).mono ?_
  rintro e w2 ⟨rfl, h2, o2⟩
  have dc := box_kept hW HL.out o2 1
  simp at dc
  have O3 : Hid (Offs (b.l p) W w2) := ((((Offs.refl _ _).new _).put (by simp [RBl.l]) _).drawn _).trans o2
  have H2 : Hid (RefAt w2 p b _) := h2
  clear o2 h2
  go_wp2_with fail
  refine (put_any _ p b _ H2.out A rd hrd _).mono ?_
  rintro e w3 ⟨rfl, h3, o3⟩
  have c9 := h3.pc
  have f9 := h3.fp
  have H3 : Hid (RefAt w3 p b _) := h3
  clear h3
  go_wp2_with fail
  go_end0
  exact ⟨rfl, by rw [HE.out]; exact H3.out.put_pc A _, (O3.out.trans o3).put (by simp [RBl.l]) _⟩
set_option maxHeartbeats 2000000 in
theorem ctlno_45 (W : World) (p : Nat) (b : RBl) (s : RSt) (h : RefAt W p b s) (A : b.Apart p) (rd : Nat) (hrd : rd < 32) (r2 : Int) (r1 n : Nat) (hr1 : r1 < 32) (hn : n < 4096) (w a old : Int)
    (CS : CsrIs p b s n old false) :
    CtlIs W p b 45 rd r1 r2 n w a (failR (sysR s) 2 w) := by
  have HF : Hid (RefAt W p b s) := h
  obtain ⟨c0, f0, cs, fs, HS, hn', hr', hd', hW, HL⟩ := ctl_facts W p b s h A rd hrd r1 n hr1 hn
  have HC := CS
  clear CS h
  unfold CtlIs
  unfold CsrIs at HC
  go_enter Tryz.func63, Tryz.ntmps63
  go_wp2_with fail
  refine (HC _ (HS.out _ _ rfl)).mono ?_
  rintro e w1 ⟨rfl, q, rfl⟩
  go_wp2_with fail
  go_quiet (fail)
  go_wp2_with (go_at_call 30; refine (fails_any _ p b (sysR s) ((HS.out _ _ rfl).drawn _) A 2 (by decide) _).mono ?_; rintro e w2 ⟨rfl, h2, o2⟩)
  exact bodyPost_ret (v := .tuple #[]) (by simp [results, Tryz.results63, go_sem]) rfl ⟨rfl, h2, ((((Offs.refl _ _).new _).put (by simp [RBl.l]) _).drawn _).trans o2⟩
set_option maxHeartbeats 4000000 in
theorem ctl_45_z (W : World) (p : Nat) (b : RBl) (s : RSt) (h : RefAt W p b s) (A : b.Apart p) (rd : Nat) (hrd : rd < 32) (r2 : Int) (r1 n : Nat) (hr1 : r1 < 32) (hn : n < 4096) (w a old : Int) (hz : r1 = 0) (_AO : 0 ≤ a ∧ a < 4294967296 ∧ 0 ≤ old ∧ old < 4294967296) (m0 : 0 ≤ s.mode) (m3 : s.mode ≤ 3) (st : Int → RSt)
    (CS : CsrIs p b s n old true)
    (ST : SetIs p b s n st) :
    CtlIs W p b 45 rd r1 r2 n w a (ctlR s 45 rd r1 n w a old st) := by
  have HF : Hid (RefAt W p b s) := h
  obtain ⟨c0, f0, cs, fs, HS, hn', hr', hd', hW, HL⟩ := ctl_facts W p b s h A rd hrd r1 n hr1 hn
  have HC := CS
  clear CS h
  unfold CtlIs
  unfold CsrIs at HC
  have HT : Hid (SetIs p b s n st) := ST
  clear ST
  have cm := HF.out.mode
  have cmo := fun o => (boxed (o := o) HF.out).mode
  have e8 : bits .and .u32 ((n : Int) / 256) 3 = (n : Int) / 256 % 4 := by have := D.mask_u32 2 (by decide) ((n : Int) / 256) (by omega) (by omega); simpa using this
  have ew : wrB 45 r1 = false := by simp [wrB, hz]
  subst hz
  by_cases hl : s.mode < (n : Int) / 256 % 4
  · have HE : Hid (ctlR s 45 rd 0 n w a old st = failR (sysR s) 2 w) := by unfold Hid ctlR mayB; rw [if_pos hl]; rfl
    clear ew
    go_enter Tryz.func63, Tryz.ntmps63
    go_wp2_with fail
    refine (HC _ (HS.out _ _ rfl)).mono ?_
    rintro e w1 ⟨rfl, q, rfl⟩
    go_wp2_with fail
    go_quiet (fail)
    go_wp2_with (go_at_call 30; refine (fails_any _ p b (sysR s) ((HS.out _ _ rfl).drawn _) A 2 (by decide) _).mono ?_; rintro e w2 ⟨rfl, h2, o2⟩)
    exact bodyPost_ret (v := .tuple #[]) (by simp [results, Tryz.results63, go_sem]) rfl ⟨rfl, by rw [HE.out]; exact h2, ((((Offs.refl _ _).new _).put (by simp [RBl.l]) _).drawn _).trans o2⟩
  have hl' : decide (s.mode < (n : Int) / 256 % 4) = false := decide_eq_false hl
  have HE : Hid (ctlR s 45 rd 0 n w a old st = nextR (putR (sysR s) rd old)) := by unfold Hid ctlR mayB; rw [if_neg hl, ew]; rfl
  clear ew hl
  go_enter Tryz.func63, Tryz.ntmps63
  go_wp2_with fail
  refine (HC _ (HS.out _ _ rfl)).mono ?_
  rintro e w1 ⟨rfl, q, rfl⟩
  go_wp2_with fail
  go_quiet (fail)
  go_wp2_with fail
  refine (put_any _ p b (sysR s) ((HS.out _ _ rfl).drawn _) A rd hrd _).mono ?_
  rintro e w2 ⟨rfl, h2, o2⟩
  have c9 := h2.pc
  have f9 := h2.fp
  go_wp2_with fail
  go_end0
  exact ⟨rfl, by rw [HE.out]; exact h2.put_pc A _, (((((Offs.refl _ _).new _).put (by simp [RBl.l]) _).drawn _).trans o2).put (by simp [RBl.l]) _⟩
set_option maxHeartbeats 4000000 in
theorem ctl_45_n (W : World) (p : Nat) (b : RBl) (s : RSt) (h : RefAt W p b s) (A : b.Apart p) (rd : Nat) (hrd : rd < 32) (r2 : Int) (r1 n : Nat) (hr1 : r1 < 32) (hn : n < 4096) (w a old : Int) (hz : r1 ≠ 0) (AO : 0 ≤ a ∧ a < 4294967296 ∧ 0 ≤ old ∧ old < 4294967296) (m0 : 0 ≤ s.mode) (m3 : s.mode ≤ 3) (st : Int → RSt)
    (CS : CsrIs p b s n old true)
    (ST : SetIs p b s n st) :
    CtlIs W p b 45 rd r1 r2 n w a (ctlR s 45 rd r1 n w a old st) := by
  have HF : Hid (RefAt W p b s) := h
  obtain ⟨c0, f0, cs, fs, HS, hn', hr', hd', hW, HL⟩ := ctl_facts W p b s h A rd hrd r1 n hr1 hn
  have HC := CS
  clear CS h
  unfold CtlIs
  unfold CsrIs at HC
  have HT : Hid (SetIs p b s n st) := ST
  clear ST
  have cm := HF.out.mode
  have cmo := fun o => (boxed (o := o) HF.out).mode
  have e8 : bits .and .u32 ((n : Int) / 256) 3 = (n : Int) / 256 % 4 := by have := D.mask_u32 2 (by decide) ((n : Int) / 256) (by omega) (by omega); simpa using this
  have ew : wrB 45 r1 = true := by simp [wrB, hz]
  have hz' : ((r1 : Int) != 0) = true := by simpa using hz
  clear hz
  by_cases hl : s.mode < (n : Int) / 256 % 4
  · have HE : Hid (ctlR s 45 rd r1 n w a old st = failR (sysR s) 2 w) := by unfold Hid ctlR mayB; rw [if_pos hl]; rfl
    clear ew
    go_enter Tryz.func63, Tryz.ntmps63
    go_wp2_with fail
    refine (HC _ (HS.out _ _ rfl)).mono ?_
    rintro e w1 ⟨rfl, q, rfl⟩
    go_wp2_with fail
    go_quiet (fail)
    go_wp2_with (go_at_call 30; refine (fails_any _ p b (sysR s) ((HS.out _ _ rfl).drawn _) A 2 (by decide) _).mono ?_; rintro e w2 ⟨rfl, h2, o2⟩)
    exact bodyPost_ret (v := .tuple #[]) (by simp [results, Tryz.results63, go_sem]) rfl ⟨rfl, by rw [HE.out]; exact h2, ((((Offs.refl _ _).new _).put (by simp [RBl.l]) _).drawn _).trans o2⟩
  have hl' : decide (s.mode < (n : Int) / 256 % 4) = false := decide_eq_false hl
  by_cases h3 : (n : Int) / 1024 = 3
  · have HE : Hid (ctlR s 45 rd r1 n w a old st = failR (sysR s) 2 w) := by unfold Hid ctlR mayB; rw [if_neg hl, ew, if_pos rfl, if_pos h3]; rfl
    clear ew hl
    go_enter Tryz.func63, Tryz.ntmps63
    go_wp2_with fail
    refine (HC _ (HS.out _ _ rfl)).mono ?_
    rintro e w1 ⟨rfl, q, rfl⟩
    go_wp2_with fail
    go_quiet (fail)
    go_wp2_with (go_at_call 30; refine (fails_any _ p b (sysR s) ((HS.out _ _ rfl).drawn _) A 2 (by decide) _).mono ?_; rintro e w2 ⟨rfl, h2, o2⟩)
    exact bodyPost_ret (v := .tuple #[]) (by simp [results, Tryz.results63, go_sem]) rfl ⟨rfl, by rw [HE.out]; exact h2, ((((Offs.refl _ _).new _).put (by simp [RBl.l]) _).drawn _).trans o2⟩
  have h3' : ((n : Int) / 1024 == 3) = false := by simpa using h3
  have HE : Hid (ctlR s 45 rd r1 n w a old st = nextR (putR (st (ctlV 45 old a r1)) rd old)) := by unfold Hid ctlR mayB; rw [if_neg hl, ew, if_pos rfl, if_neg h3]; rfl
  clear ew hl h3
  go_enter Tryz.func63, Tryz.ntmps63
  go_wp2_with fail
  refine (HC _ (HS.out _ _ rfl)).mono ?_
  rintro e w1 ⟨rfl, q, rfl⟩
  go_wp2_with fail
  go_quiet (fail)
  go_wp2_with fail
  refine (HT.out _ _ (or_bd _ _ AO.2.2.1 AO.2.2.2 AO.1 AO.2.1).1 (or_bd _ _ AO.2.2.1 AO.2.2.2 AO.1 AO.2.1).2 ((HS.out _ _ rfl).drawn _)).mono ?_
  rintro e w2 ⟨rfl, h2, o2⟩
  have dc := box_kept hW HL.out o2 1
  simp at dc
  have O3 : Hid (Offs (b.l p) W w2) := ((((Offs.refl _ _).new _).put (by simp [RBl.l]) _).drawn _).trans o2
  have H2 : Hid (RefAt w2 p b _) := h2
  clear o2 h2
  go_wp2_with fail
  refine (put_any _ p b _ H2.out A rd hrd _).mono ?_
  rintro e w3 ⟨rfl, h3, o3⟩
  have c9 := h3.pc
  have f9 := h3.fp
  have H3 : Hid (RefAt w3 p b _) := h3
  clear h3
  go_wp2_with fail
  go_end0
  exact ⟨rfl, by rw [HE.out]; exact H3.out.put_pc A _, (O3.out.trans o3).put (by simp [RBl.l]) _⟩
set_option maxHeartbeats 2000000 in
theorem ctlno_46 (W : World) (p : Nat) (b : RBl) (s : RSt) (h : RefAt W p b s) (A : b.Apart p) (rd : Nat) (hrd : rd < 32) (r2 : Int) (r1 n : Nat) (hr1 : r1 < 32) (hn : n < 4096) (w a old : Int)
    (CS : CsrIs p b s n old false) :
    CtlIs W p b 46 rd r1 r2 n w a (failR (sysR s) 2 w) := by
  have HF : Hid (RefAt W p b s) := h
  obtain ⟨c0, f0, cs, fs, HS, hn', hr', hd', hW, HL⟩ := ctl_facts W p b s h A rd hrd r1 n hr1 hn
  have HC := CS
  clear CS h
  unfold CtlIs
  unfold CsrIs at HC
  go_enter Tryz.func63, Tryz.ntmps63
  go_wp2_with fail
  refine (HC _ (HS.out _ _ rfl)).mono ?_
  rintro e w1 ⟨rfl, q, rfl⟩
  go_wp2_with fail
  go_quiet (fail)
  go_wp2_with (go_at_call 30; refine (fails_any _ p b (sysR s) ((HS.out _ _ rfl).drawn _) A 2 (by decide) _).mono ?_; rintro e w2 ⟨rfl, h2, o2⟩)
  exact bodyPost_ret (v := .tuple #[]) (by simp [results, Tryz.results63, go_sem]) rfl ⟨rfl, h2, ((((Offs.refl _ _).new _).put (by simp [RBl.l]) _).drawn _).trans o2⟩
set_option maxHeartbeats 4000000 in
theorem ctl_46_z (W : World) (p : Nat) (b : RBl) (s : RSt) (h : RefAt W p b s) (A : b.Apart p) (rd : Nat) (hrd : rd < 32) (r2 : Int) (r1 n : Nat) (hr1 : r1 < 32) (hn : n < 4096) (w a old : Int) (hz : r1 = 0) (_AO : 0 ≤ a ∧ a < 4294967296 ∧ 0 ≤ old ∧ old < 4294967296) (m0 : 0 ≤ s.mode) (m3 : s.mode ≤ 3) (st : Int → RSt)
    (CS : CsrIs p b s n old true)
    (ST : SetIs p b s n st) :
    CtlIs W p b 46 rd r1 r2 n w a (ctlR s 46 rd r1 n w a old st) := by
  have HF : Hid (RefAt W p b s) := h
  obtain ⟨c0, f0, cs, fs, HS, hn', hr', hd', hW, HL⟩ := ctl_facts W p b s h A rd hrd r1 n hr1 hn
  have HC := CS
  clear CS h
  unfold CtlIs
  unfold CsrIs at HC
  have HT : Hid (SetIs p b s n st) := ST
  clear ST
  have cm := HF.out.mode
  have cmo := fun o => (boxed (o := o) HF.out).mode
  have e8 : bits .and .u32 ((n : Int) / 256) 3 = (n : Int) / 256 % 4 := by have := D.mask_u32 2 (by decide) ((n : Int) / 256) (by omega) (by omega); simpa using this
  have ew : wrB 46 r1 = false := by simp [wrB, hz]
  subst hz
  by_cases hl : s.mode < (n : Int) / 256 % 4
  · have HE : Hid (ctlR s 46 rd 0 n w a old st = failR (sysR s) 2 w) := by unfold Hid ctlR mayB; rw [if_pos hl]; rfl
    clear ew
    go_enter Tryz.func63, Tryz.ntmps63
    go_wp2_with fail
    refine (HC _ (HS.out _ _ rfl)).mono ?_
    rintro e w1 ⟨rfl, q, rfl⟩
    go_wp2_with fail
    go_quiet (fail)
    go_wp2_with (go_at_call 30; refine (fails_any _ p b (sysR s) ((HS.out _ _ rfl).drawn _) A 2 (by decide) _).mono ?_; rintro e w2 ⟨rfl, h2, o2⟩)
    exact bodyPost_ret (v := .tuple #[]) (by simp [results, Tryz.results63, go_sem]) rfl ⟨rfl, by rw [HE.out]; exact h2, ((((Offs.refl _ _).new _).put (by simp [RBl.l]) _).drawn _).trans o2⟩
  have hl' : decide (s.mode < (n : Int) / 256 % 4) = false := decide_eq_false hl
  have HE : Hid (ctlR s 46 rd 0 n w a old st = nextR (putR (sysR s) rd old)) := by unfold Hid ctlR mayB; rw [if_neg hl, ew]; rfl
  clear ew hl
  go_enter Tryz.func63, Tryz.ntmps63
  go_wp2_with fail
  refine (HC _ (HS.out _ _ rfl)).mono ?_
  rintro e w1 ⟨rfl, q, rfl⟩
  go_wp2_with fail
  go_quiet (fail)
  go_wp2_with fail
  refine (put_any _ p b (sysR s) ((HS.out _ _ rfl).drawn _) A rd hrd _).mono ?_
  rintro e w2 ⟨rfl, h2, o2⟩
  have c9 := h2.pc
  have f9 := h2.fp
  go_wp2_with fail
  go_end0
  exact ⟨rfl, by rw [HE.out]; exact h2.put_pc A _, (((((Offs.refl _ _).new _).put (by simp [RBl.l]) _).drawn _).trans o2).put (by simp [RBl.l]) _⟩
set_option maxHeartbeats 4000000 in
theorem ctl_46_n (W : World) (p : Nat) (b : RBl) (s : RSt) (h : RefAt W p b s) (A : b.Apart p) (rd : Nat) (hrd : rd < 32) (r2 : Int) (r1 n : Nat) (hr1 : r1 < 32) (hn : n < 4096) (w a old : Int) (hz : r1 ≠ 0) (AO : 0 ≤ a ∧ a < 4294967296 ∧ 0 ≤ old ∧ old < 4294967296) (m0 : 0 ≤ s.mode) (m3 : s.mode ≤ 3) (st : Int → RSt)
    (CS : CsrIs p b s n old true)
    (ST : SetIs p b s n st) :
    CtlIs W p b 46 rd r1 r2 n w a (ctlR s 46 rd r1 n w a old st) := by
  have HF : Hid (RefAt W p b s) := h
  obtain ⟨c0, f0, cs, fs, HS, hn', hr', hd', hW, HL⟩ := ctl_facts W p b s h A rd hrd r1 n hr1 hn
  have HC := CS
  clear CS h
  unfold CtlIs
  unfold CsrIs at HC
  have HT : Hid (SetIs p b s n st) := ST
  clear ST
  have cm := HF.out.mode
  have cmo := fun o => (boxed (o := o) HF.out).mode
  have e8 : bits .and .u32 ((n : Int) / 256) 3 = (n : Int) / 256 % 4 := by have := D.mask_u32 2 (by decide) ((n : Int) / 256) (by omega) (by omega); simpa using this
  have ew : wrB 46 r1 = true := by simp [wrB, hz]
  have hz' : ((r1 : Int) != 0) = true := by simpa using hz
  clear hz
  by_cases hl : s.mode < (n : Int) / 256 % 4
  · have HE : Hid (ctlR s 46 rd r1 n w a old st = failR (sysR s) 2 w) := by unfold Hid ctlR mayB; rw [if_pos hl]; rfl
    clear ew
    go_enter Tryz.func63, Tryz.ntmps63
    go_wp2_with fail
    refine (HC _ (HS.out _ _ rfl)).mono ?_
    rintro e w1 ⟨rfl, q, rfl⟩
    go_wp2_with fail
    go_quiet (fail)
    go_wp2_with (go_at_call 30; refine (fails_any _ p b (sysR s) ((HS.out _ _ rfl).drawn _) A 2 (by decide) _).mono ?_; rintro e w2 ⟨rfl, h2, o2⟩)
    exact bodyPost_ret (v := .tuple #[]) (by simp [results, Tryz.results63, go_sem]) rfl ⟨rfl, by rw [HE.out]; exact h2, ((((Offs.refl _ _).new _).put (by simp [RBl.l]) _).drawn _).trans o2⟩
  have hl' : decide (s.mode < (n : Int) / 256 % 4) = false := decide_eq_false hl
  by_cases h3 : (n : Int) / 1024 = 3
  · have HE : Hid (ctlR s 46 rd r1 n w a old st = failR (sysR s) 2 w) := by unfold Hid ctlR mayB; rw [if_neg hl, ew, if_pos rfl, if_pos h3]; rfl
    clear ew hl
    go_enter Tryz.func63, Tryz.ntmps63
    go_wp2_with fail
    refine (HC _ (HS.out _ _ rfl)).mono ?_
    rintro e w1 ⟨rfl, q, rfl⟩
    go_wp2_with fail
    go_quiet (fail)
    go_wp2_with (go_at_call 30; refine (fails_any _ p b (sysR s) ((HS.out _ _ rfl).drawn _) A 2 (by decide) _).mono ?_; rintro e w2 ⟨rfl, h2, o2⟩)
    exact bodyPost_ret (v := .tuple #[]) (by simp [results, Tryz.results63, go_sem]) rfl ⟨rfl, by rw [HE.out]; exact h2, ((((Offs.refl _ _).new _).put (by simp [RBl.l]) _).drawn _).trans o2⟩
  have h3' : ((n : Int) / 1024 == 3) = false := by simpa using h3
  have HE : Hid (ctlR s 46 rd r1 n w a old st = nextR (putR (st (ctlV 46 old a r1)) rd old)) := by unfold Hid ctlR mayB; rw [if_neg hl, ew, if_pos rfl, if_neg h3]; rfl
  clear ew hl h3
  go_enter Tryz.func63, Tryz.ntmps63
  go_wp2_with fail
  refine (HC _ (HS.out _ _ rfl)).mono ?_
  rintro e w1 ⟨rfl, q, rfl⟩
  go_wp2_with fail
  go_quiet (fail)
  go_wp2_with fail
  refine (HT.out _ _ (an2_bd _ _ AO.2.2.1 AO.2.2.2 AO.1 AO.2.1).1 (an2_bd _ _ AO.2.2.1 AO.2.2.2 AO.1 AO.2.1).2 ((HS.out _ _ rfl).drawn _)).mono ?_
  rintro e w2 ⟨rfl, h2, o2⟩
  have dc := box_kept hW HL.out o2 1
  simp at dc
  have O3 : Hid (Offs (b.l p) W w2) := ((((Offs.refl _ _).new _).put (by simp [RBl.l]) _).drawn _).trans o2
  have H2 : Hid (RefAt w2 p b _) := h2
  clear o2 h2
  go_wp2_with fail
  refine (put_any _ p b _ H2.out A rd hrd _).mono ?_
  rintro e w3 ⟨rfl, h3, o3⟩
  have c9 := h3.pc
  have f9 := h3.fp
  have H3 : Hid (RefAt w3 p b _) := h3
  clear h3
  go_wp2_with fail
  go_end0
  exact ⟨rfl, by rw [HE.out]; exact H3.out.put_pc A _, (O3.out.trans o3).put (by simp [RBl.l]) _⟩
set_option maxHeartbeats 2000000 in
theorem ctlno_47 (W : World) (p : Nat) (b : RBl) (s : RSt) (h : RefAt W p b s) (A : b.Apart p) (rd : Nat) (hrd : rd < 32) (r2 : Int) (r1 n : Nat) (hr1 : r1 < 32) (hn : n < 4096) (w a old : Int)
    (CS : CsrIs p b s n old false) :
    CtlIs W p b 47 rd r1 r2 n w a (failR (sysR s) 2 w) := by
  have HF : Hid (RefAt W p b s) := h
  obtain ⟨c0, f0, cs, fs, HS, hn', hr', hd', hW, HL⟩ := ctl_facts W p b s h A rd hrd r1 n hr1 hn
  have HC := CS
  clear CS h
  unfold CtlIs
  unfold CsrIs at HC
  go_enter Tryz.func63, Tryz.ntmps63
  go_wp2_with fail
  refine (HC _ (HS.out _ _ rfl)).mono ?_
  rintro e w1 ⟨rfl, q, rfl⟩
  go_wp2_with fail
  go_quiet (fail)
  go_wp2_with (go_at_call 30; refine (fails_any _ p b (sysR s) ((HS.out _ _ rfl).drawn _) A 2 (by decide) _).mono ?_; rintro e w2 ⟨rfl, h2, o2⟩)
  exact bodyPost_ret (v := .tuple #[]) (by simp [results, Tryz.results63, go_sem]) rfl ⟨rfl, h2, ((((Offs.refl _ _).new _).put (by simp [RBl.l]) _).drawn _).trans o2⟩
set_option maxHeartbeats 4000000 in
theorem ctl_47 (W : World) (p : Nat) (b : RBl) (s : RSt) (h : RefAt W p b s) (A : b.Apart p) (rd : Nat) (hrd : rd < 32) (r2 : Int) (r1 n : Nat) (hr1 : r1 < 32) (hn : n < 4096) (w a old : Int) (_AO : 0 ≤ a ∧ a < 4294967296 ∧ 0 ≤ old ∧ old < 4294967296) (m0 : 0 ≤ s.mode) (m3 : s.mode ≤ 3) (st : Int → RSt)
    (CS : CsrIs p b s n old true)
    (ST : SetIs p b s n st) :
    CtlIs W p b 47 rd r1 r2 n w a (ctlR s 47 rd r1 n w a old st) := by
  have HF : Hid (RefAt W p b s) := h
  obtain ⟨c0, f0, cs, fs, HS, hn', hr', hd', hW, HL⟩ := ctl_facts W p b s h A rd hrd r1 n hr1 hn
  have HC := CS
  clear CS h
  unfold CtlIs
  unfold CsrIs at HC
  have HT : Hid (SetIs p b s n st) := ST
  clear ST
  have cm := HF.out.mode
  have cmo := fun o => (boxed (o := o) HF.out).mode
  have e8 : bits .and .u32 ((n : Int) / 256) 3 = (n : Int) / 256 % 4 := by have := D.mask_u32 2 (by decide) ((n : Int) / 256) (by omega) (by omega); simpa using this
  have ew : wrB 47 r1 = true := by simp [wrB]
  by_cases hl : s.mode < (n : Int) / 256 % 4
  · have HE : Hid (ctlR s 47 rd r1 n w a old st = failR (sysR s) 2 w) := by unfold Hid ctlR mayB; rw [if_pos hl]; rfl
    clear ew
    go_enter Tryz.func63, Tryz.ntmps63
    go_wp2_with fail
    refine (HC _ (HS.out _ _ rfl)).mono ?_
    rintro e w1 ⟨rfl, q, rfl⟩
    go_wp2_with fail
    go_quiet (fail)
    go_wp2_with (go_at_call 30; refine (fails_any _ p b (sysR s) ((HS.out _ _ rfl).drawn _) A 2 (by decide) _).mono ?_; rintro e w2 ⟨rfl, h2, o2⟩)
    exact bodyPost_ret (v := .tuple #[]) (by simp [results, Tryz.results63, go_sem]) rfl ⟨rfl, by rw [HE.out]; exact h2, ((((Offs.refl _ _).new _).put (by simp [RBl.l]) _).drawn _).trans o2⟩
  have hl' : decide (s.mode < (n : Int) / 256 % 4) = false := decide_eq_false hl
  by_cases h3 : (n : Int) / 1024 = 3
  · have HE : Hid (ctlR s 47 rd r1 n w a old st = failR (sysR s) 2 w) := by unfold Hid ctlR mayB; rw [if_neg hl, ew, if_pos rfl, if_pos h3]; rfl
    clear ew hl
    go_enter Tryz.func63, Tryz.ntmps63
    go_wp2_with fail
    refine (HC _ (HS.out _ _ rfl)).mono ?_
    rintro e w1 ⟨rfl, q, rfl⟩
    go_wp2_with fail
    go_quiet (fail)
    go_wp2_with (go_at_call 30; refine (fails_any _ p b (sysR s) ((HS.out _ _ rfl).drawn _) A 2 (by decide) _).mono ?_; rintro e w2 ⟨rfl, h2, o2⟩)
    exact bodyPost_ret (v := .tuple #[]) (by simp [results, Tryz.results63, go_sem]) rfl ⟨rfl, by rw [HE.out]; exact h2, ((((Offs.refl _ _).new _).put (by simp [RBl.l]) _).drawn _).trans o2⟩
  have h3' : ((n : Int) / 1024 == 3) = false := by simpa using h3
  have HE : Hid (ctlR s 47 rd r1 n w a old st = nextR (putR (st (ctlV 47 old a r1)) rd old)) := by unfold Hid ctlR mayB; rw [if_neg hl, ew, if_pos rfl, if_neg h3]; rfl
  clear ew hl h3
  go_enter Tryz.func63, Tryz.ntmps63
  go_wp2_with fail
  refine (HC _ (HS.out _ _ rfl)).mono ?_
  rintro e w1 ⟨rfl, q, rfl⟩
  go_wp2_with fail
  go_quiet (fail)
  go_wp2_with fail
  refine (HT.out _ _ (by omega) (by omega) ((HS.out _ _ rfl).drawn _)).mono ?_
  rintro e w2 ⟨rfl, h2, o2⟩
  have dc := box_kept hW HL.out o2 1
  simp at dc
  have O3 : Hid (Offs (b.l p) W w2) := ((((Offs.refl _ _).new _).put (by simp [RBl.l]) _).drawn _).trans o2
  have H2 : Hid (RefAt w2 p b _) := h2
  clear o2 h2
  go_wp2_with fail
  refine (put_any _ p b _ H2.out A rd hrd _).mono ?_
  rintro e w3 ⟨rfl, h3, o3⟩
  have c9 := h3.pc
  have f9 := h3.fp
  have H3 : Hid (RefAt w3 p b _) := h3
  clear h3
  go_wp2_with fail
  go_end0
  exact ⟨rfl, by rw [HE.out]; exact H3.out.put_pc A _, (O3.out.trans o3).put (by simp [RBl.l]) _⟩
set_option maxHeartbeats 2000000 in
theorem ctlno_48 (W : World) (p : Nat) (b : RBl) (s : RSt) (h : RefAt W p b s) (A : b.Apart p) (rd : Nat) (hrd : rd < 32) (r2 : Int) (r1 n : Nat) (hr1 : r1 < 32) (hn : n < 4096) (w a old : Int)
    (CS : CsrIs p b s n old false) :
    CtlIs W p b 48 rd r1 r2 n w a (failR (sysR s) 2 w) := by
  have HF : Hid (RefAt W p b s) := h
  obtain ⟨c0, f0, cs, fs, HS, hn', hr', hd', hW, HL⟩ := ctl_facts W p b s h A rd hrd r1 n hr1 hn
  have HC := CS
  clear CS h
  unfold CtlIs
  unfold CsrIs at HC
  go_enter Tryz.func63, Tryz.ntmps63
  go_wp2_with fail
  refine (HC _ (HS.out _ _ rfl)).mono ?_
  rintro e w1 ⟨rfl, q, rfl⟩
  go_wp2_with fail
  go_quiet (fail)
  go_wp2_with (go_at_call 30; refine (fails_any _ p b (sysR s) ((HS.out _ _ rfl).drawn _) A 2 (by decide) _).mono ?_; rintro e w2 ⟨rfl, h2, o2⟩)
  exact bodyPost_ret (v := .tuple #[]) (by simp [results, Tryz.results63, go_sem]) rfl ⟨rfl, h2, ((((Offs.refl _ _).new _).put (by simp [RBl.l]) _).drawn _).trans o2⟩
set_option maxHeartbeats 4000000 in
theorem ctl_48_z (W : World) (p : Nat) (b : RBl) (s : RSt) (h : RefAt W p b s) (A : b.Apart p) (rd : Nat) (hrd : rd < 32) (r2 : Int) (r1 n : Nat) (hr1 : r1 < 32) (hn : n < 4096) (w a old : Int) (hz : r1 = 0) (_AO : 0 ≤ a ∧ a < 4294967296 ∧ 0 ≤ old ∧ old < 4294967296) (m0 : 0 ≤ s.mode) (m3 : s.mode ≤ 3) (st : Int → RSt)
    (CS : CsrIs p b s n old true)
    (ST : SetIs p b s n st) :
    CtlIs W p b 48 rd r1 r2 n w a (ctlR s 48 rd r1 n w a old st) := by
  have HF : Hid (RefAt W p b s) := h
  obtain ⟨c0, f0, cs, fs, HS, hn', hr', hd', hW, HL⟩ := ctl_facts W p b s h A rd hrd r1 n hr1 hn
  have HC := CS
  clear CS h
  unfold CtlIs
  unfold CsrIs at HC
  have HT : Hid (SetIs p b s n st) := ST
  clear ST
  have cm := HF.out.mode
  have cmo := fun o => (boxed (o := o) HF.out).mode
  have e8 : bits .and .u32 ((n : Int) / 256) 3 = (n : Int) / 256 % 4 := by have := D.mask_u32 2 (by decide) ((n : Int) / 256) (by omega) (by omega); simpa using this
  have ew : wrB 48 r1 = false := by simp [wrB, hz]
  subst hz
  by_cases hl : s.mode < (n : Int) / 256 % 4
  · have HE : Hid (ctlR s 48 rd 0 n w a old st = failR (sysR s) 2 w) := by unfold Hid ctlR mayB; rw [if_pos hl]; rfl
    clear ew
    go_enter Tryz.func63, Tryz.ntmps63
    go_wp2_with fail
    refine (HC _ (HS.out _ _ rfl)).mono ?_
    rintro e w1 ⟨rfl, q, rfl⟩
    go_wp2_with fail
    go_quiet (fail)
    go_wp2_with (go_at_call 30; refine (fails_any _ p b (sysR s) ((HS.out _ _ rfl).drawn _) A 2 (by decide) _).mono ?_; rintro e w2 ⟨rfl, h2, o2⟩)
    exact bodyPost_ret (v := .tuple #[]) (by simp [results, Tryz.results63, go_sem]) rfl ⟨rfl, by rw [HE.out]; exact h2, ((((Offs.refl _ _).new _).put (by simp [RBl.l]) _).drawn _).trans o2⟩
  have hl' : decide (s.mode < (n : Int) / 256 % 4) = false := decide_eq_false hl
  have HE : Hid (ctlR s 48 rd 0 n w a old st = nextR (putR (sysR s) rd old)) := by unfold Hid ctlR mayB; rw [if_neg hl, ew]; rfl
  clear ew hl
  go_enter Tryz.func63, Tryz.ntmps63
  go_wp2_with fail
  refine (HC _ (HS.out _ _ rfl)).mono ?_
  rintro e w1 ⟨rfl, q, rfl⟩
  go_wp2_with fail
  go_quiet (fail)
  go_wp2_with fail
  refine (put_any _ p b (sysR s) ((HS.out _ _ rfl).drawn _) A rd hrd _).mono ?_
  rintro e w2 ⟨rfl, h2, o2⟩
  have c9 := h2.pc
  have f9 := h2.fp
  go_wp2_with fail
  go_end0
  exact ⟨rfl, by rw [HE.out]; exact h2.put_pc A _, (((((Offs.refl _ _).new _).put (by simp [RBl.l]) _).drawn _).trans o2).put (by simp [RBl.l]) _⟩
set_option maxHeartbeats 4000000 in
theorem ctl_48_n (W : World) (p : Nat) (b : RBl) (s : RSt) (h : RefAt W p b s) (A : b.Apart p) (rd : Nat) (hrd : rd < 32) (r2 : Int) (r1 n : Nat) (hr1 : r1 < 32) (hn : n < 4096) (w a old : Int) (hz : r1 ≠ 0) (AO : 0 ≤ a ∧ a < 4294967296 ∧ 0 ≤ old ∧ old < 4294967296) (m0 : 0 ≤ s.mode) (m3 : s.mode ≤ 3) (st : Int → RSt)
    (CS : CsrIs p b s n old true)
    (ST : SetIs p b s n st) :
    CtlIs W p b 48 rd r1 r2 n w a (ctlR s 48 rd r1 n w a old st) := by
  have HF : Hid (RefAt W p b s) := h
  obtain ⟨c0, f0, cs, fs, HS, hn', hr', hd', hW, HL⟩ := ctl_facts W p b s h A rd hrd r1 n hr1 hn
  have HC := CS
  clear CS h
  unfold CtlIs
  unfold CsrIs at HC
  have HT : Hid (SetIs p b s n st) := ST
  clear ST
  have cm := HF.out.mode
  have cmo := fun o => (boxed (o := o) HF.out).mode
  have e8 : bits .and .u32 ((n : Int) / 256) 3 = (n : Int) / 256 % 4 := by have := D.mask_u32 2 (by decide) ((n : Int) / 256) (by omega) (by omega); simpa using this
  have ew : wrB 48 r1 = true := by simp [wrB, hz]
  have hz' : ((r1 : Int) != 0) = true := by simpa using hz
  clear hz
  by_cases hl : s.mode < (n : Int) / 256 % 4
  · have HE : Hid (ctlR s 48 rd r1 n w a old st = failR (sysR s) 2 w) := by unfold Hid ctlR mayB; rw [if_pos hl]; rfl
    clear ew
    go_enter Tryz.func63, Tryz.ntmps63
    go_wp2_with fail
    refine (HC _ (HS.out _ _ rfl)).mono ?_
    rintro e w1 ⟨rfl, q, rfl⟩
    go_wp2_with fail
    go_quiet (fail)
    go_wp2_with (go_at_call 30; refine (fails_any _ p b (sysR s) ((HS.out _ _ rfl).drawn _) A 2 (by decide) _).mono ?_; rintro e w2 ⟨rfl, h2, o2⟩)
    exact bodyPost_ret (v := .tuple #[]) (by simp [results, Tryz.results63, go_sem]) rfl ⟨rfl, by rw [HE.out]; exact h2, ((((Offs.refl _ _).new _).put (by simp [RBl.l]) _).drawn _).trans o2⟩
  have hl' : decide (s.mode < (n : Int) / 256 % 4) = false := decide_eq_false hl
  by_cases h3 : (n : Int) / 1024 = 3
  · have HE : Hid (ctlR s 48 rd r1 n w a old st = failR (sysR s) 2 w) := by unfold Hid ctlR mayB; rw [if_neg hl, ew, if_pos rfl, if_pos h3]; rfl
    clear ew hl
    go_enter Tryz.func63, Tryz.ntmps63
    go_wp2_with fail
    refine (HC _ (HS.out _ _ rfl)).mono ?_
    rintro e w1 ⟨rfl, q, rfl⟩
    go_wp2_with fail
    go_quiet (fail)
    go_wp2_with (go_at_call 30; refine (fails_any _ p b (sysR s) ((HS.out _ _ rfl).drawn _) A 2 (by decide) _).mono ?_; rintro e w2 ⟨rfl, h2, o2⟩)
    exact bodyPost_ret (v := .tuple #[]) (by simp [results, Tryz.results63, go_sem]) rfl ⟨rfl, by rw [HE.out]; exact h2, ((((Offs.refl _ _).new _).put (by simp [RBl.l]) _).drawn _).trans o2⟩
  have h3' : ((n : Int) / 1024 == 3) = false := by simpa using h3
  have HE : Hid (ctlR s 48 rd r1 n w a old st = nextR (putR (st (ctlV 48 old a r1)) rd old)) := by unfold Hid ctlR mayB; rw [if_neg hl, ew, if_pos rfl, if_neg h3]; rfl
  clear ew hl h3
  go_enter Tryz.func63, Tryz.ntmps63
  go_wp2_with fail
  refine (HC _ (HS.out _ _ rfl)).mono ?_
  rintro e w1 ⟨rfl, q, rfl⟩
  go_wp2_with fail
  go_quiet (fail)
  go_wp2_with fail
  refine (HT.out _ _ (or_bd _ _ AO.2.2.1 AO.2.2.2 (by omega) (by omega)).1 (or_bd _ _ AO.2.2.1 AO.2.2.2 (by omega) (by omega)).2 ((HS.out _ _ rfl).drawn _)).mono ?_
  rintro e w2 ⟨rfl, h2, o2⟩
  have dc := box_kept hW HL.out o2 1
  simp at dc
  have O3 : Hid (Offs (b.l p) W w2) := ((((Offs.refl _ _).new _).put (by simp [RBl.l]) _).drawn _).trans o2
  have H2 : Hid (RefAt w2 p b _) := h2
  clear o2 h2
  go_wp2_with fail
  refine (put_any _ p b _ H2.out A rd hrd _).mono ?_
  rintro e w3 ⟨rfl, h3, o3⟩
  have c9 := h3.pc
  have f9 := h3.fp
  have H3 : Hid (RefAt w3 p b _) := h3
  clear h3
  go_wp2_with fail
  go_end0
  exact ⟨rfl, by rw [HE.out]; exact H3.out.put_pc A _, (O3.out.trans o3).put (by simp [RBl.l]) _⟩
set_option maxHeartbeats 2000000 in
theorem ctlno_49 (W : World) (p : Nat) (b : RBl) (s : RSt) (h : RefAt W p b s) (A : b.Apart p) (rd : Nat) (hrd : rd < 32) (r2 : Int) (r1 n : Nat) (hr1 : r1 < 32) (hn : n < 4096) (w a old : Int)
    (CS : CsrIs p b s n old false) :
    CtlIs W p b 49 rd r1 r2 n w a (failR (sysR s) 2 w) := by
  have HF : Hid (RefAt W p b s) := h
  obtain ⟨c0, f0, cs, fs, HS, hn', hr', hd', hW, HL⟩ := ctl_facts W p b s h A rd hrd r1 n hr1 hn
  have HC := CS
  clear CS h
  unfold CtlIs
  unfold CsrIs at HC
  go_enter Tryz.func63, Tryz.ntmps63
  go_wp2_with fail
  refine (HC _ (HS.out _ _ rfl)).mono ?_
  rintro e w1 ⟨rfl, q, rfl⟩
  go_wp2_with fail
  go_quiet (fail)
  go_wp2_with (go_at_call 30; refine (fails_any _ p b (sysR s) ((HS.out _ _ rfl).drawn _) A 2 (by decide) _).mono ?_; rintro e w2 ⟨rfl, h2, o2⟩)
  exact bodyPost_ret (v := .tuple #[]) (by simp [results, Tryz.results63, go_sem]) rfl ⟨rfl, h2, ((((Offs.refl _ _).new _).put (by simp [RBl.l]) _).drawn _).trans o2⟩
set_option maxHeartbeats 4000000 in
theorem ctl_49_z (W : World) (p : Nat) (b : RBl) (s : RSt) (h : RefAt W p b s) (A : b.Apart p) (rd : Nat) (hrd : rd < 32) (r2 : Int) (r1 n : Nat) (hr1 : r1 < 32) (hn : n < 4096) (w a old : Int) (hz : r1 = 0) (_AO : 0 ≤ a ∧ a < 4294967296 ∧ 0 ≤ old ∧ old < 4294967296) (m0 : 0 ≤ s.mode) (m3 : s.mode ≤ 3) (st : Int → RSt)
    (CS : CsrIs p b s n old true)
    (ST : SetIs p b s n st) :
    CtlIs W p b 49 rd r1 r2 n w a (ctlR s 49 rd r1 n w a old st) := by
  have HF : Hid (RefAt W p b s) := h
  obtain ⟨c0, f0, cs, fs, HS, hn', hr', hd', hW, HL⟩ := ctl_facts W p b s h A rd hrd r1 n hr1 hn
  have HC := CS
  clear CS h
  unfold CtlIs
  unfold CsrIs at HC
  have HT : Hid (SetIs p b s n st) := ST
  clear ST
  have cm := HF.out.mode
  have cmo := fun o => (boxed (o := o) HF.out).mode
  have e8 : bits .and .u32 ((n : Int) / 256) 3 = (n : Int) / 256 % 4 := by have := D.mask_u32 2 (by decide) ((n : Int) / 256) (by omega) (by omega); simpa using this
  have ew : wrB 49 r1 = false := by simp [wrB, hz]
  subst hz
  by_cases hl : s.mode < (n : Int) / 256 % 4
  · have HE : Hid (ctlR s 49 rd 0 n w a old st = failR (sysR s) 2 w) := by unfold Hid ctlR mayB; rw [if_pos hl]; rfl
    clear ew
    go_enter Tryz.func63, Tryz.ntmps63
    go_wp2_with fail
    refine (HC _ (HS.out _ _ rfl)).mono ?_
    rintro e w1 ⟨rfl, q, rfl⟩
    go_wp2_with fail
    go_quiet (fail)
    go_wp2_with (go_at_call 30; refine (fails_any _ p b (sysR s) ((HS.out _ _ rfl).drawn _) A 2 (by decide) _).mono ?_; rintro e w2 ⟨rfl, h2, o2⟩)
    exact bodyPost_ret (v := .tuple #[]) (by simp [results, Tryz.results63, go_sem]) rfl ⟨rfl, by rw [HE.out]; exact h2, ((((Offs.refl _ _).new _).put (by simp [RBl.l]) _).drawn _).trans o2⟩
  have hl' : decide (s.mode < (n : Int) / 256 % 4) = false := decide_eq_false hl
  have HE : Hid (ctlR s 49 rd 0 n w a old st = nextR (putR (sysR s) rd old)) := by unfold Hid ctlR mayB; rw [if_neg hl, ew]; rfl
  clear ew hl
  go_enter Tryz.func63, Tryz.ntmps63
  go_wp2_with fail
  refine (HC _ (HS.out _ _ rfl)).mono ?_
  rintro e w1 ⟨rfl, q, rfl⟩
  go_wp2_with fail
  go_quiet (fail)
  go_wp2_with fail
  refine (put_any _ p b (sysR s) ((HS.out _ _ rfl).drawn _) A rd hrd _).mono ?_
  rintro e w2 ⟨rfl, h2, o2⟩
  have c9 := h2.pc
  have f9 := h2.fp
  go_wp2_with fail
  go_end0
  exact ⟨rfl, by rw [HE.out]; exact h2.put_pc A _, (((((Offs.refl _ _).new _).put (by simp [RBl.l]) _).drawn _).trans o2).put (by simp [RBl.l]) _⟩
set_option maxHeartbeats 4000000 in
theorem ctl_49_n (W : World) (p : Nat) (b : RBl) (s : RSt) (h : RefAt W p b s) (A : b.Apart p) (rd : Nat) (hrd : rd < 32) (r2 : Int) (r1 n : Nat) (hr1 : r1 < 32) (hn : n < 4096) (w a old : Int) (hz : r1 ≠ 0) (AO : 0 ≤ a ∧ a < 4294967296 ∧ 0 ≤ old ∧ old < 4294967296) (m0 : 0 ≤ s.mode) (m3 : s.mode ≤ 3) (st : Int → RSt)
    (CS : CsrIs p b s n old true)
    (ST : SetIs p b s n st) :
    CtlIs W p b 49 rd r1 r2 n w a (ctlR s 49 rd r1 n w a old st) := by
  have HF : Hid (RefAt W p b s) := h
  obtain ⟨c0, f0, cs, fs, HS, hn', hr', hd', hW, HL⟩ := ctl_facts W p b s h A rd hrd r1 n hr1 hn
  have HC := CS
  clear CS h
  unfold CtlIs
  unfold CsrIs at HC
  have HT : Hid (SetIs p b s n st) := ST
  clear ST
  have cm := HF.out.mode
  have cmo := fun o => (boxed (o := o) HF.out).mode
  have e8 : bits .and .u32 ((n : Int) / 256) 3 = (n : Int) / 256 % 4 := by have := D.mask_u32 2 (by decide) ((n : Int) / 256) (by omega) (by omega); simpa using this
  have ew : wrB 49 r1 = true := by simp [wrB, hz]
  have hz' : ((r1 : Int) != 0) = true := by simpa using hz
  clear hz
  by_cases hl : s.mode < (n : Int) / 256 % 4
  · have HE : Hid (ctlR s 49 rd r1 n w a old st = failR (sysR s) 2 w) := by unfold Hid ctlR mayB; rw [if_pos hl]; rfl
    clear ew
    go_enter Tryz.func63, Tryz.ntmps63
    go_wp2_with fail
    refine (HC _ (HS.out _ _ rfl)).mono ?_
    rintro e w1 ⟨rfl, q, rfl⟩
    go_wp2_with fail
    go_quiet (fail)
    go_wp2_with (go_at_call 30; refine (fails_any _ p b (sysR s) ((HS.out _ _ rfl).drawn _) A 2 (by decide) _).mono ?_; rintro e w2 ⟨rfl, h2, o2⟩)
    exact bodyPost_ret (v := .tuple #[]) (by simp [results, Tryz.results63, go_sem]) rfl ⟨rfl, by rw [HE.out]; exact h2, ((((Offs.refl _ _).new _).put (by simp [RBl.l]) _).drawn _).trans o2⟩
  have hl' : decide (s.mode < (n : Int) / 256 % 4) = false := decide_eq_false hl
  by_cases h3 : (n : Int) / 1024 = 3
  · have HE : Hid (ctlR s 49 rd r1 n w a old st = failR (sysR s) 2 w) := by unfold Hid ctlR mayB; rw [if_neg hl, ew, if_pos rfl, if_pos h3]; rfl
    clear ew hl
    go_enter Tryz.func63, Tryz.ntmps63
    go_wp2_with fail
    refine (HC _ (HS.out _ _ rfl)).mono ?_
    rintro e w1 ⟨rfl, q, rfl⟩
    go_wp2_with fail
    go_quiet (fail)
    go_wp2_with (go_at_call 30; refine (fails_any _ p b (sysR s) ((HS.out _ _ rfl).drawn _) A 2 (by decide) _).mono ?_; rintro e w2 ⟨rfl, h2, o2⟩)
    exact bodyPost_ret (v := .tuple #[]) (by simp [results, Tryz.results63, go_sem]) rfl ⟨rfl, by rw [HE.out]; exact h2, ((((Offs.refl _ _).new _).put (by simp [RBl.l]) _).drawn _).trans o2⟩
  have h3' : ((n : Int) / 1024 == 3) = false := by simpa using h3
  have HE : Hid (ctlR s 49 rd r1 n w a old st = nextR (putR (st (ctlV 49 old a r1)) rd old)) := by unfold Hid ctlR mayB; rw [if_neg hl, ew, if_pos rfl, if_neg h3]; rfl
  clear ew hl h3
  go_enter Tryz.func63, Tryz.ntmps63
  go_wp2_with fail
  refine (HC _ (HS.out _ _ rfl)).mono ?_
  rintro e w1 ⟨rfl, q, rfl⟩
  go_wp2_with fail
  go_quiet (fail)
  go_wp2_with fail
  refine (HT.out _ _ (an2_bd _ _ AO.2.2.1 AO.2.2.2 (by omega) (by omega)).1 (an2_bd _ _ AO.2.2.1 AO.2.2.2 (by omega) (by omega)).2 ((HS.out _ _ rfl).drawn _)).mono ?_
  rintro e w2 ⟨rfl, h2, o2⟩
  have dc := box_kept hW HL.out o2 1
  simp at dc
  have O3 : Hid (Offs (b.l p) W w2) := ((((Offs.refl _ _).new _).put (by simp [RBl.l]) _).drawn _).trans o2
  have H2 : Hid (RefAt w2 p b _) := h2
  clear o2 h2
  go_wp2_with fail
  refine (put_any _ p b _ H2.out A rd hrd _).mono ?_
  rintro e w3 ⟨rfl, h3, o3⟩
  have c9 := h3.pc
  have f9 := h3.fp
  have H3 : Hid (RefAt w3 p b _) := h3
  clear h3
  go_wp2_with fail
  go_end0
  exact ⟨rfl, by rw [HE.out]; exact H3.out.put_pc A _, (O3.out.trans o3).put (by simp [RBl.l]) _⟩
end Go.Proofs.YteiideeechnekaaGreatDoor
