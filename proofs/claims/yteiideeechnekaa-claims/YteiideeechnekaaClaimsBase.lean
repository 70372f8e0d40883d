/-
  hartkeep.Claims: the walk.
-/
import Derived.Test.YteiideeechnekaaKeepMade
import Derived.Test.YteiideeechnekaaKeepTop
namespace Go.Proofs.Yteiideeechnekaa
open Go.RowKit

/-- The box of a state. -/
structure B13 (w : World) (g : Nat) (p : Pl) (L : LSt) : Prop where
  c0 : w.cell? ⟨g, 0, none⟩ = some (.slice (some ⟨p.r, 0, none⟩) L.regs.length p.cr)
  c1 : w.cell? ⟨g, 1, none⟩ = some (.int .u32 L.pc)
  c2 : w.cell? ⟨g, 2, none⟩ = some (.int .i64 L.mode)
  c3 : w.cell? ⟨g, 3, none⟩ = some (.bool L.asleep)
  c4 : w.cell? ⟨g, 4, none⟩ = some (.slice (some ⟨p.c, 0, none⟩) L.csrs.length p.cc)
  c5 : w.cell? ⟨g, 5, none⟩ = some (.string L.ram)
  c6 : w.cell? ⟨g, 6, none⟩ = some (.slice (some ⟨p.k, 0, none⟩) L.clock.length p.ck)
  c7 : w.cell? ⟨g, 7, none⟩ = some (.slice (some ⟨p.p, 0, none⟩) L.prio.length p.cp)
  c8 : w.cell? ⟨g, 8, none⟩ = some (.int .u32 L.pend)
  c9 : w.cell? ⟨g, 9, none⟩ = some (.int .u32 L.served)
  c10 : w.cell? ⟨g, 10, none⟩ = some (.int .u32 L.level)
  c11 : w.cell? ⟨g, 11, none⟩ = some (.slice (some ⟨p.e, 0, none⟩) L.enable.length p.ce)
  c12 : w.cell? ⟨g, 12, none⟩ = some (.slice (some ⟨p.l, 0, none⟩) L.limit.length p.cl)
theorem B13.of {w w' : World} {g : Nat} {p : Pl} {L : LSt} (h : B13 w g p L) (e : w'.heap[g]? = w.heap[g]?) : B13 w' g p L := by
  have c : ∀ j, w'.cell? ⟨g, j, none⟩ = w.cell? ⟨g, j, none⟩ := fun j => World.cell?_of_block (w := w) e
  exact ⟨(c _).trans h.c0, (c _).trans h.c1, (c _).trans h.c2, (c _).trans h.c3, (c _).trans h.c4, (c _).trans h.c5, (c _).trans h.c6, (c _).trans h.c7, (c _).trans h.c8, (c _).trans h.c9, (c _).trans h.c10, (c _).trans h.c11, (c _).trans h.c12⟩
theorem B13.lt {w : World} {g : Nat} {p : Pl} {L : LSt} (h : B13 w g p L) : g < w.heap.size := World.block_lt_of_cell? w _ h.c0
theorem B13.below {w w' : World} {g : Nat} {p : Pl} {L : LSt} (h : B13 w g p L) (hb : Below w.heap.size w w') : B13 w' g p L := h.of (hb.block g h.lt)
theorem B13.new (w : World) (p : Pl) (L : LSt) : B13 (w.alloc (.cells #[.slice (some ⟨p.r, 0, none⟩) L.regs.length p.cr, .int .u32 L.pc, .int .i64 L.mode, .bool L.asleep, .slice (some ⟨p.c, 0, none⟩) L.csrs.length p.cc, .string L.ram, .slice (some ⟨p.k, 0, none⟩) L.clock.length p.ck, .slice (some ⟨p.p, 0, none⟩) L.prio.length p.cp, .int .u32 L.pend, .int .u32 L.served, .int .u32 L.level, .slice (some ⟨p.e, 0, none⟩) L.enable.length p.ce, .slice (some ⟨p.l, 0, none⟩) L.limit.length p.cl] 31)) w.heap.size p L := by
  have e := fun j => cell_of_row (w.alloc (.cells #[.slice (some ⟨p.r, 0, none⟩) L.regs.length p.cr, .int .u32 L.pc, .int .i64 L.mode, .bool L.asleep, .slice (some ⟨p.c, 0, none⟩) L.csrs.length p.cc, .string L.ram, .slice (some ⟨p.k, 0, none⟩) L.clock.length p.ck, .slice (some ⟨p.p, 0, none⟩) L.prio.length p.cp, .int .u32 L.pend, .int .u32 L.served, .int .u32 L.level, .slice (some ⟨p.e, 0, none⟩) L.enable.length p.ce, .slice (some ⟨p.l, 0, none⟩) L.limit.length p.cl] 31)) w.heap.size j _ _ (0, 0) (heap_alloc_new w _)
  exact ⟨(e 0).trans rfl, (e 1).trans rfl, (e 2).trans rfl, (e 3).trans rfl, (e 4).trans rfl, (e 5).trans rfl, (e 6).trans rfl, (e 7).trans rfl, (e 8).trans rfl, (e 9).trans rfl, (e 10).trans rfl, (e 11).trans rfl, (e 12).trans rfl⟩
theorem StAt.lt {w : World} {p : Pl} {L : LSt} (h : StAt w p L) : p.r < w.heap.size ∧ p.c < w.heap.size ∧ p.k < w.heap.size ∧ p.p < w.heap.size ∧ p.e < w.heap.size ∧ p.l < w.heap.size := ⟨h.regs.lt, h.csrs.lt, h.clock.lt, h.prio.lt, h.enable.lt, h.limit.lt⟩
theorem StAt.of {w w' : World} {p : Pl} {L : LSt} (h : StAt w p L) (e : ∀ g, g = p.r ∨ g = p.c ∨ g = p.k ∨ g = p.p ∨ g = p.e ∨ g = p.l → w'.heap[g]? = w.heap[g]?) : StAt w' p L :=
  ⟨row_keep h.regs (e _ (by simp)), row_keep h.csrs (e _ (by simp)), row_keep h.clock (e _ (by simp)), row_keep h.prio (e _ (by simp)), row_keep h.enable (e _ (by simp)), row_keep h.limit (e _ (by simp))⟩
/-- What holds of the code's computer between two steps. -/
structure CInv (W w : World) (x r : Nat) (s : RSt) : Prop where
  c : CodeAt w x r (cOf s)
  d : Dvs s
  e : Ex s
  soft : s.soft = 0
  ram : s.ram.length = 4
  ne : x ≠ r
  wx : W.heap.size ≤ x
  wr : W.heap.size ≤ r
  bel : Below W.heap.size W w
theorem CInv.below {W w w' : World} {x r : Nat} {s : RSt} (h : CInv W w x r s) (hb : Below w.heap.size w w') : CInv W w' x r s :=
  { h with c := h.c.below hb h.c.lt.1 h.c.lt.2, bel := h.bel.trans (hb.mono h.bel.size) }
theorem CInv.step {W w w' : World} {x r : Nat} {s s' : RSt} (h : CInv W w x r s) (hc : CodeAt w' x r (cOf s')) (o : Offs [x, r] w w') (d : Dvs s') (e : Ex s') (soft : s'.soft = 0) (ram : s'.ram.length = 4) : CInv W w' x r s' :=
  { h with c := hc, d := d, e := e, soft := soft, ram := ram, bel := h.bel.trans (o.below (fun k hk => by have := h.wx; have := h.wr; simp at hk; rcases hk with rfl | rfl <;> omega) h.bel.size) }
/-- A step and a look in their boxes. -/
structure Fr (W w : World) (x r go ga : Nat) (p : Pl) (L : LSt) (s : RSt) (k a b : Int) (v : Nat) : Prop where
  o0 : w.cell? ⟨go, 0, none⟩ = some (.int .i64 k)
  o1 : w.cell? ⟨go, 1, none⟩ = some (.int .i64 a)
  o2 : w.cell? ⟨go, 2, none⟩ = some (.int .i64 b)
  o3 : w.cell? ⟨go, 3, none⟩ = some (.int .u32 v)
  bA : B13 w ga p L
  st : StAt w p L
  ci : CInv W w x r s
  nx : ∀ z, z = x ∨ z = r → z ≠ go ∧ z ≠ ga ∧ z ≠ p.r ∧ z ≠ p.c ∧ z ≠ p.k ∧ z ≠ p.p ∧ z ≠ p.e ∧ z ≠ p.l
theorem Fr.of {W w w' : World} {x r go ga : Nat} {p : Pl} {L : LSt} {s s' : RSt} {k a b : Int} {v : Nat} (h : Fr W w x r go ga p L s k a b v) (e : ∀ g, g = go ∨ g = ga ∨ g = p.r ∨ g = p.c ∨ g = p.k ∨ g = p.p ∨ g = p.e ∨ g = p.l → w'.heap[g]? = w.heap[g]?) (ci : CInv W w' x r s') : Fr W w' x r go ga p L s' k a b v := by
  have c : ∀ j, w'.cell? ⟨go, j, none⟩ = w.cell? ⟨go, j, none⟩ := fun j => World.cell?_of_block (w := w) (e go (by simp))
  exact ⟨(c _).trans h.o0, (c _).trans h.o1, (c _).trans h.o2, (c _).trans h.o3, h.bA.of (e ga (by simp)), h.st.of fun g hg => e g (by rcases hg with h | h | h | h | h | h <;> simp [h]), ci, h.nx⟩
theorem Fr.lt {W w : World} {x r go ga : Nat} {p : Pl} {L : LSt} {s : RSt} {k a b : Int} {v : Nat} (h : Fr W w x r go ga p L s k a b v) : ∀ g, g = go ∨ g = ga ∨ g = p.r ∨ g = p.c ∨ g = p.k ∨ g = p.p ∨ g = p.e ∨ g = p.l → g < w.heap.size := by
  have a := h.st.lt
  have b := h.bA.lt
  have c := World.block_lt_of_cell? w _ h.o0
  intro g hg
  rcases hg with rfl | rfl | rfl | rfl | rfl | rfl | rfl | rfl <;> first | exact c | exact b | omega
theorem Fr.below {W w w' : World} {x r go ga : Nat} {p : Pl} {L : LSt} {s : RSt} {k a b : Int} {v : Nat} (h : Fr W w x r go ga p L s k a b v) (hb : Below w.heap.size w w') : Fr W w' x r go ga p L s k a b v :=
  h.of (fun g hg => hb.block g (h.lt g hg)) (h.ci.below hb)
theorem Fr.offs {W w w' : World} {x r go ga : Nat} {p : Pl} {L : LSt} {s s' : RSt} {k a b : Int} {v : Nat} (h : Fr W w x r go ga p L s k a b v) (o : Offs [x, r] w w') (ci : CInv W w' x r s') : Fr W w' x r go ga p L s' k a b v :=
  h.of (fun g hg => o.block g (h.lt g hg) (fun e => by
    have hz : g = x ∨ g = r := by simpa using e
    have := h.nx g hz
    rcases hg with h1 | h1 | h1 | h1 | h1 | h1 | h1 | h1 <;> simp_all)) ci
theorem two_list (l : List Int) (h : l.length = 2) : l = [l[0]?.getD 0, l[1]?.getD 0] := by
  match l, h with
  | [a, b], _ => rfl
/-- What a look tells of the devices. -/
structure Lk (L : LSt) (s : RSt) : Prop where
  f : LFull L
  pend : L.pend = (cOf s).pend
  served : L.served = (cOf s).served
  level : L.level = (cOf s).level
  enable : L.enable = s.enable
  limit : L.limit = s.limit
  prio : L.prio = s.src.map (·.prio)
  mip : L.csrs.getD 17 0 = mipC (cOf s)
theorem lk_look {W : World} {x r : Nat} {s : RSt} (h : CodeAt W x r (cOf s)) (D : Dvs s) : Lk (lookC (cOf s)) s :=
  { f := full_look h, pend := rfl, served := rfl, level := rfl, enable := (two_list s.enable D.nen).symm, limit := (two_list s.limit D.nli).symm, prio := rfl, mip := rfl }
/-- A script: empty, or a row of steps. -/
def Scr (W : World) (v : Value) : Prop := (∃ (a : Option Addr) (cap : Nat), v = .slice a 0 cap) ∨ ∃ sb so n cap : Nat, n ≤ maxLen ∧ (∀ i, i < n → ∃ (k a b : Int) (v : Nat), v < 4294967296 ∧ W.cell? ⟨sb, so + i * 4, none⟩ = some (.int .i64 k) ∧ W.cell? ⟨sb, so + i * 4 + 1, none⟩ = some (.int .i64 a) ∧ W.cell? ⟨sb, so + i * 4 + 2, none⟩ = some (.int .i64 b) ∧ W.cell? ⟨sb, so + i * 4 + 3, none⟩ = some (.int .u32 v)) ∧ v = .slice (some ⟨sb, so, none⟩) n cap
theorem Scr.nil {W : World} (a : Option Addr) (cap : Nat) : Scr W (.slice a 0 cap) := .inl ⟨a, cap, rfl⟩
theorem Scr.row {W : World} (sb so n cap : Nat) (hm : n ≤ maxLen) (h : ∀ i, i < n → ∃ (k a b : Int) (v : Nat), v < 4294967296 ∧ W.cell? ⟨sb, so + i * 4, none⟩ = some (.int .i64 k) ∧ W.cell? ⟨sb, so + i * 4 + 1, none⟩ = some (.int .i64 a) ∧ W.cell? ⟨sb, so + i * 4 + 2, none⟩ = some (.int .i64 b) ∧ W.cell? ⟨sb, so + i * 4 + 3, none⟩ = some (.int .u32 v)) : Scr W (.slice (some ⟨sb, so, none⟩) n cap) := .inr ⟨sb, so, n, cap, hm, h, rfl⟩
def newS : RSt :=
  { x := List.replicate 32 0, ram := ramOf 4 ⟨#[]⟩, src := List.replicate 8 ⟨false, false, false, 0⟩, enable := [0, 0], limit := [0, 0], pc := 0, mode := 3, asleep := false, sie := false, mieb := false, spie := false, mpie := false, spp := 0, mpp := 0, tw := false, tsr := false, medeleg := 0, mideleg := 0, mie := 0, soft := 0, mtvec := 0, stvec := 0, mscratch := 0, sscratch := 0, mepc := 0, sepc := 0, mcause := 0, scause := 0, mtval := 0, stval := 0, msip := 0, mtimecmp := 4294967295, mtime := 0, traps := 0, system := 0, device := 0 }
theorem newS_c : newC 4 ⟨#[]⟩ = cOf newS := by kernel_rfl
theorem newS_at (i : Nat) : srcAt newS i = ⟨false, false, false, 0⟩ := by
  show ((List.replicate 8 (⟨false, false, false, 0⟩ : Srce))[i]?).getD ⟨false, false, false, 0⟩ = _
  rw [List.getElem?_replicate]
  split <;> rfl
theorem newS_d : Dvs newS := ⟨rfl, rfl, rfl, .inl rfl, W32.lit (n := 0) (by decide), W32.lit (n := 0) (by decide), W32.lit (n := 0) (by decide), W32.lit (n := 0) (by decide), W32.lit (n := 4294967295) (by decide), W32.lit (n := 0) (by decide), fun i => by rw [newS_at]; exact W32.lit (n := 0) (by decide), rfl⟩
theorem newS_e : Ex newS := ⟨fun i => by rw [newS_at]; simp, fun i => by rw [newS_at]; simp⟩
theorem set_soft (s : RSt) (a : Nat) (v : Int) : (setR s a v).1.soft = s.soft ∧ (setR s a v).1.ram = s.ram := by
  unfold setR
  by_cases c0 : a = 4096
  · rw [if_pos c0]; exact ⟨rfl, rfl⟩
  rw [if_neg c0]
  by_cases c1 : a = 4100
  · rw [if_pos c1]; exact ⟨rfl, rfl⟩
  rw [if_neg c1]
  by_cases c2 : a = 4104
  · rw [if_pos c2]; exact ⟨rfl, rfl⟩
  rw [if_neg c2]
  by_cases c3 : a = 8224
  · rw [if_pos c3]; exact ⟨rfl, rfl⟩
  rw [if_neg c3]
  by_cases c4 : a = 8192
  · rw [if_pos c4]; exact ⟨rfl, rfl⟩
  rw [if_neg c4]
  by_cases c5 : 8192 < a ∧ a < 8224 ∧ a % 4 = 0
  · rw [if_pos c5]; exact ⟨rfl, rfl⟩
  rw [if_neg c5]
  by_cases c6 : a = 8228
  · rw [if_pos c6]; exact ⟨rfl, rfl⟩
  rw [if_neg c6]
  by_cases c7 : a = 8240
  · rw [if_pos c7]; exact ⟨rfl, rfl⟩
  rw [if_neg c7]
  by_cases c8 : a = 8244
  · rw [if_pos c8]; exact ⟨by unfold complR; split; rfl; split; rfl; split <;> rfl, by unfold complR; split; rfl; split; rfl; split <;> rfl⟩
  rw [if_neg c8]
  by_cases c9 : a = 8232
  · rw [if_pos c9]; exact ⟨rfl, rfl⟩
  rw [if_neg c9]
  by_cases c10 : a = 8248
  · rw [if_pos c10]; exact ⟨rfl, rfl⟩
  rw [if_neg c10]
  by_cases c11 : a = 8252
  · rw [if_pos c11]; exact ⟨by unfold complR; split; rfl; split; rfl; split <;> rfl, by unfold complR; split; rfl; split; rfl; split <;> rfl⟩
  rw [if_neg c11]
  exact ⟨rfl, rfl⟩
theorem dev_soft (s : RSt) (a : Nat) : (devR s a).1.soft = s.soft ∧ (devR s a).1.ram = s.ram := by
  unfold devR
  by_cases c0 : a = 4096
  · rw [if_pos c0]; exact ⟨rfl, rfl⟩
  rw [if_neg c0]
  by_cases c1 : a = 4100
  · rw [if_pos c1]; exact ⟨rfl, rfl⟩
  rw [if_neg c1]
  by_cases c2 : a = 4104
  · rw [if_pos c2]; exact ⟨rfl, rfl⟩
  rw [if_neg c2]
  by_cases c3 : a = 8224
  · rw [if_pos c3]; exact ⟨rfl, rfl⟩
  rw [if_neg c3]
  by_cases c4 : 8192 ≤ a ∧ a < 8224 ∧ a % 4 = 0
  · rw [if_pos c4]; exact ⟨rfl, rfl⟩
  rw [if_neg c4]
  by_cases c5 : a = 8228
  · rw [if_pos c5]; exact ⟨rfl, rfl⟩
  rw [if_neg c5]
  by_cases c6 : a = 8240
  · rw [if_pos c6]; exact ⟨rfl, rfl⟩
  rw [if_neg c6]
  by_cases c7 : a = 8244
  · rw [if_pos c7]; exact ⟨by unfold claimS; split <;> rfl, by unfold claimS; split <;> rfl⟩
  rw [if_neg c7]
  by_cases c8 : a = 8232
  · rw [if_pos c8]; exact ⟨rfl, rfl⟩
  rw [if_neg c8]
  by_cases c9 : a = 8248
  · rw [if_pos c9]; exact ⟨rfl, rfl⟩
  rw [if_neg c9]
  by_cases c10 : a = 8252
  · rw [if_pos c10]; exact ⟨by unfold claimS; split <;> rfl, by unfold claimS; split <;> rfl⟩
  rw [if_neg c10]
  exact ⟨rfl, rfl⟩
theorem line_soft (s : RSt) (k : Nat) (hi : Bool) : (lineR s k hi).soft = s.soft ∧ (lineR s k hi).ram = s.ram := by
  unfold lineR
  split
  · split <;> exact ⟨rfl, rfl⟩
  · exact ⟨rfl, rfl⟩
end Go.Proofs.Yteiideeechnekaa
