import Derived.Test.YteiideeechnekaaGreatDoorRefPut
import Derived.Test.YteiideeechnekaaGreatDoorMade
import Derived.Test.YteiideeechnekaaGreatDoorDRefDecode
import Derived.Deep.MidRow
/-
  The document's Clone.
-/
namespace Go.Proofs.YteiideeechnekaaGreatDoor
open Go.RowKit Go.Lib

def cellsR (s : RSt) (b : RBl) : Array Value := #[.slice (some ⟨b.x, 0, none⟩) 32 b.kx, .int .u32 s.pc, .int .i64 s.mode, .bool s.asleep, .slice (some ⟨b.ram, 0, none⟩) s.ram.length b.kram, .bool s.sie, .bool s.mieb, .bool s.spie, .bool s.mpie, .int .i64 s.spp, .int .i64 s.mpp, .bool s.tw, .bool s.tsr, .int .u32 s.medeleg, .int .u32 s.mideleg, .int .u32 s.mie, .int .u32 s.soft, .int .u32 s.mtvec, .int .u32 s.stvec, .int .u32 s.mscratch, .int .u32 s.sscratch, .int .u32 s.mepc, .int .u32 s.sepc, .int .u32 s.mcause, .int .u32 s.scause, .int .u32 s.mtval, .int .u32 s.stval, .int .u32 s.msip, .int .u32 s.mtimecmp, .int .u32 s.mtime, .slice (some ⟨b.src, 0, none⟩) 8 b.ksrc, .slice (some ⟨b.en, 0, none⟩) 2 b.ken, .slice (some ⟨b.li, 0, none⟩) 2 b.kli, .int .i64 s.traps, .int .i64 s.system, .int .i64 s.device]
structure SrcAt (w : World) (g : Nat) (s : RSt) : Prop where
  high : ∀ i, i < 8 → w.cell? ⟨g, i * 4, none⟩ = some (.bool (srcAt s i).high)
  waits : ∀ i, i < 8 → w.cell? ⟨g, i * 4 + 1, none⟩ = some (.bool (srcAt s i).waits)
  served : ∀ i, i < 8 → w.cell? ⟨g, i * 4 + 2, none⟩ = some (.bool (srcAt s i).served)
  prio : ∀ i, i < 8 → w.cell? ⟨g, i * 4 + 3, none⟩ = some (.int .u32 (srcAt s i).prio)
  fs : ∀ j, w.frozen? ⟨g, j, none⟩ = false
theorem SrcAt.of {w w' : World} {g : Nat} {s : RSt} (h : SrcAt w g s) (e : w'.heap[g]? = w.heap[g]?) : SrcAt w' g s :=
  ⟨fun i hi => (World.cell?_of_block (w := w) e).trans (h.high i hi), fun i hi => (World.cell?_of_block (w := w) e).trans (h.waits i hi), fun i hi => (World.cell?_of_block (w := w) e).trans (h.served i hi), fun i hi => (World.cell?_of_block (w := w) e).trans (h.prio i hi), fun j => (World.frozen?_of_block (w := w) (a := ⟨g, j, none⟩) e).trans (h.fs j)⟩
theorem ref_of_cells {w : World} {p : Nat} {b : RBl} {s : RSt} (hp : w.heap[p]? = some (.cells (cellsR s b) 33 (0, 0))) (nx : s.x.length = 32) (nsrc : s.src.length = 8) (nen : s.enable.length = 2) (nli : s.limit.length = 2)
    (x : RowAt w b.x b.kx s.x) (r : RamIn w b.ram b.kram s.ram) (sr : SrcAt w b.src s) (ks : 8 ≤ b.ksrc ∧ b.ksrc ≤ maxLen) (en : RowAt w b.en b.ken s.enable) (li : RowAt w b.li b.kli s.limit) : RefAt w p b s := by
  have c := fun j => cell_of_row w p j (cellsR s b) _ (0, 0) hp
  exact { nx := nx, nsrc := nsrc, nen := nen, nli := nli, cx := (c 0).trans rfl, cram := (c 4).trans rfl, csrc := (c 30).trans rfl, cen := (c 31).trans rfl, cli := (c 32).trans rfl, pc := (c 1).trans rfl, mode := (c 2).trans rfl, asleep := (c 3).trans rfl, sie := (c 5).trans rfl, mieb := (c 6).trans rfl, spie := (c 7).trans rfl, mpie := (c 8).trans rfl, spp := (c 9).trans rfl, mpp := (c 10).trans rfl, tw := (c 11).trans rfl, tsr := (c 12).trans rfl, medeleg := (c 13).trans rfl, mideleg := (c 14).trans rfl, mie := (c 15).trans rfl, soft := (c 16).trans rfl, mtvec := (c 17).trans rfl, stvec := (c 18).trans rfl, mscratch := (c 19).trans rfl, sscratch := (c 20).trans rfl, mepc := (c 21).trans rfl, sepc := (c 22).trans rfl, mcause := (c 23).trans rfl, scause := (c 24).trans rfl, mtval := (c 25).trans rfl, stval := (c 26).trans rfl, msip := (c 27).trans rfl, mtimecmp := (c 28).trans rfl, mtime := (c 29).trans rfl, traps := (c 33).trans rfl, system := (c 34).trans rfl, device := (c 35).trans rfl, x := x, ram := r, high := sr.high, waits := sr.waits, served := sr.served, prio := sr.prio, en := en, li := li, fp := (fun j => by simp [World.frozen?, hp]), fs := sr.fs, ksrc := ks }

/-- Clone on its way: what is there is as it was, and the new computer's cells. -/
structure Cl (W w : World) (p : Nat) (b : RBl) (s : RSt) (c : Array Value) : Prop where
  ref : RefAt w p b s
  bel : Below W.heap.size W w
  blk : w.heap[W.heap.size]? = some (.cells c 33 (0, 0))
  lt : W.heap.size < w.heap.size
  pl : ∀ k, k ∈ b.l p → k < W.heap.size
/-- A row that the append has made. -/
theorem Cl.step {W w w' : World} {p : Nat} {b : RBl} {s : RSt} {c : Array Value} (h : Cl W w p b s c) {o : Obj} (g : (w.alloc o).grownBy w' (some w.heap.size)) (j : Nat) (v : Value) :
    Cl W (w'.setCell ⟨W.heap.size, j, none⟩ v) p b s (c.setIfInBounds j v) ∧ (∀ k, k < w.heap.size → k ≠ W.heap.size → (w'.setCell ⟨W.heap.size, j, none⟩ v).heap[k]? = w.heap[k]?) := by
  have lt := h.lt
  have gs := g.size
  simp at gs
  have keep : ∀ k, k < w.heap.size → w'.heap[k]? = w.heap[k]? := fun k hk => (g.block k (by simp; omega) (by simp; omega)).trans (Below.heap_alloc w o k hk)
  have keep2 : ∀ k, k < w.heap.size → k ≠ W.heap.size → (w'.setCell ⟨W.heap.size, j, none⟩ v).heap[k]? = w.heap[k]? := fun k hk hn => (Below.heap_setCell _ _ _ _ hn).trans (keep k hk)
  have pl := fun k (hk : k ∈ b.l p) => h.pl k hk
  have kp := fun k (hk : k ∈ b.l p) => keep2 k (by have := pl k hk; omega) (by have := pl k hk; omega)
  refine ⟨⟨h.ref.of (kp _ (by simp [RBl.l])) (kp _ (by simp [RBl.l])) (kp _ (by simp [RBl.l])) (kp _ (by simp [RBl.l])) (kp _ (by simp [RBl.l])) (kp _ (by simp [RBl.l])), ?_, ?_, by simp [World.setCell]; omega, h.pl⟩, keep2⟩
  · have b1 : Below W.heap.size w w' := ⟨g.os, g.tape, g.output, by omega, fun k hk => keep k (by omega)⟩
    exact (h.bel.trans b1).setCell (Nat.le_refl _) _
  · exact heap_set_same w' W.heap.size j v c _ (0, 0) ((keep _ lt).trans h.blk)
theorem own_empty (w : World) (B : Nat) (hB : B ≤ w.heap.size) (e : TypeId) (size : Nat) : (w.alloc (.cells #[] e)).ownsRow B e size (.slice (some ⟨w.heap.size, 0, none⟩) 0 0) 0 [] :=
  ⟨by simp, .inr ⟨w.heap.size, 0, #[], rfl, hB, heap_alloc_new w _, Nat.le_refl _, by decide, by simp, by simp⟩⟩
theorem row_own {w : World} {B g cap n : Nat} {xs : List Int} (hn : xs.length = n) (h : w.ownsRow B 29 1 (.slice (some ⟨g, 0, none⟩) n cap) n (xs.map (Value.int .u32))) : B ≤ g ∧ RowAt w g cap xs := by
  subst hn
  rcases h.2 with ⟨hv, _⟩ | ⟨g', cap', cur, hv, hg, hh, h1, h2, h3, h4⟩
  · cases hv
  · injection hv with e1 e2 e3
    injection e1 with e1
    injection e1 with e1
    subst e1 e3
    exact ⟨hg, cur, hh, by omega, h1, h2, by simpa using h4⟩
theorem ram_own {w : World} {B g cap : Nat} {xs : List Int} (h : w.ownsRow B 5 1 (.slice (some ⟨g, 0, none⟩) xs.length cap) xs.length (xs.map (Value.int .u8))) (hl : xs.length ≤ 512) (hb : ∀ b ∈ xs, 0 ≤ b ∧ b < 256) : B ≤ g ∧ RamIn w g cap xs := by
  rcases h.2 with ⟨hv, _⟩ | ⟨g', cap', cur, hv, hg, hh, h1, h2, h3, h4⟩
  · cases hv
  · injection hv with e1 e2 e3
    injection e1 with e1
    injection e1 with e1
    subst e1 e3
    exact ⟨hg, cur, hh, by omega, h1, h2, by simpa using h4, hl, hb⟩
def srcCells (s : RSt) (i : Nat) : List Value := [.bool (srcAt s i).high, .bool (srcAt s i).waits, .bool (srcAt s i).served, .int .u32 (srcAt s i).prio]
def srcAll (s : RSt) : List Value := (List.range 8).flatMap (srcCells s)
theorem srcAll_at (s : RSt) (k j : Nat) (hk : k < 8) (hj : j < 4) : (srcAll s)[k * 4 + j]? = (srcCells s k)[j]? := D.flat_at (srcCells s) (fun _ => rfl) 8 k j hk hj
theorem src_own {w : World} {B g cap : Nat} {s : RSt} (h : w.ownsRow B 103 4 (.slice (some ⟨g, 0, none⟩) 8 cap) 8 (srcAll s)) : B ≤ g ∧ SrcAt w g s ∧ 8 ≤ cap ∧ cap ≤ maxLen := by
  have hc := h.cells (g := g) rfl
  have e : ∀ j, (⟨g, 0, none⟩ : Addr).add j = ⟨g, j, none⟩ := fun j => by unfold Addr.add; split <;> simp_all
  rcases h.2 with ⟨hv, _⟩ | ⟨g', cap', cur, hv, hg, hh, h1, h2, h3, h4⟩
  · cases hv
  · injection hv with e1 e2 e3
    injection e1 with e1
    injection e1 with e1
    subst e1 e3
    refine ⟨hg, ⟨fun i hi => ?_, fun i hi => ?_, fun i hi => ?_, fun i hi => ?_, fun j => by simp [World.frozen?, hh]⟩, h1, h2⟩
    · have := hc (i * 4 + 0) _ (srcAll_at s i 0 hi (by decide)); rwa [e] at this
    · have := hc (i * 4 + 1) _ (srcAll_at s i 1 hi (by decide)); rwa [e] at this
    · have := hc (i * 4 + 2) _ (srcAll_at s i 2 hi (by decide)); rwa [e] at this
    · have := hc (i * 4 + 3) _ (srcAll_at s i 3 hi (by decide)); rwa [e] at this
theorem src_news {w : World} {p : Nat} {b : RBl} {s : RSt} (h : RefAt w p b s) : ∀ j u, (srcAll s)[j]? = some u → w.cell? ((⟨b.src, 0, none⟩ : Addr).add j) = some u := by
  intro j u hj
  have e : (⟨b.src, 0, none⟩ : Addr).add j = ⟨b.src, j, none⟩ := by unfold Addr.add; split <;> simp_all
  rw [e]
  have hl : (srcAll s).length = 32 := by simp [srcAll, srcCells, List.range, List.range.loop]
  have hj32 : j < 32 := by have := (List.getElem?_eq_some_iff.1 hj).1; omega
  obtain ⟨k, r, hk, hr, rfl⟩ : ∃ k r, k < 8 ∧ r < 4 ∧ j = k * 4 + r := ⟨j / 4, j % 4, by omega, by omega, by omega⟩
  rw [srcAll_at s k r hk hr] at hj
  have hr4 : r = 0 ∨ r = 1 ∨ r = 2 ∨ r = 3 := by omega
  rcases hr4 with rfl | rfl | rfl | rfl
  · simp [srcCells] at hj; rw [← hj]; exact h.high k hk
  · simp [srcCells] at hj; rw [← hj]; exact h.waits k hk
  · simp [srcCells] at hj; rw [← hj]; exact h.served k hk
  · simp [srcCells] at hj; rw [← hj]; exact h.prio k hk
theorem row_news {w : World} {g cap : Nat} {xs : List Int} (h : RowAt w g cap xs) : ∀ j u, (xs.map (Value.int .u32))[j]? = some u → w.cell? ((⟨g, 0, none⟩ : Addr).add j) = some u := by
  intro j u hj
  have e : (⟨g, 0, none⟩ : Addr).add j = ⟨g, j, none⟩ := by unfold Addr.add; split <;> simp_all
  have hl : j < xs.length := by have := (List.getElem?_eq_some_iff.1 hj).1; simpa using this
  rw [e, h.cell j hl, ← hj]
  simp [List.getD, hl]
theorem ram_news {w : World} {g cap : Nat} {xs : List Int} (h : RamIn w g cap xs) : ∀ j u, (xs.map (Value.int .u8))[j]? = some u → w.cell? ((⟨g, 0, none⟩ : Addr).add j) = some u := by
  intro j u hj
  have e : (⟨g, 0, none⟩ : Addr).add j = ⟨g, j, none⟩ := by unfold Addr.add; split <;> simp_all
  have hl : j < xs.length := by have := (List.getElem?_eq_some_iff.1 hj).1; simpa using this
  rw [e, h.cell j hl, ← hj]
  simp [List.getD, hl]
theorem one_u32 (xs : List Int) : ∀ u ∈ xs.map (Value.int .u32), u.oneCell' = true := by intro u hu; simp only [List.mem_map] at hu; obtain ⟨z, _, rfl⟩ := hu; rfl
theorem one_u8 (xs : List Int) : ∀ u ∈ xs.map (Value.int .u8), u.oneCell' = true := by intro u hu; simp only [List.mem_map] at hu; obtain ⟨z, _, rfl⟩ := hu; rfl
theorem one_src (s : RSt) : ∀ u ∈ srcAll s, u.oneCell' = true := by
  intro u hu
  simp only [srcAll, srcCells, List.mem_flatMap, List.mem_cons, List.not_mem_nil, or_false] at hu
  obtain ⟨i, _, h⟩ := hu
  rcases h with rfl | rfl | rfl | rfl <;> rfl
end Go.Proofs.YteiideeechnekaaGreatDoor

/-
  The document's Clone: the walk.
-/
namespace Go.Proofs.YteiideeechnekaaGreatDoor
open Go.RowKit Go.Lib

theorem Cl.at {W w w' : World} {p : Nat} {b : RBl} {s : RSt} {c : Array Value} (h : Cl W w p b s c) {o : Obj} (g : (w.alloc o).grownBy w' (some w.heap.size)) : (∀ j, w'.cell? ⟨W.heap.size, j, none⟩ = c[j]?) ∧ (∀ j, w'.frozen? ⟨W.heap.size, j, none⟩ = false) := by
  have lt := h.lt
  have e : w'.heap[W.heap.size]? = some (.cells c 33 (0, 0)) := ((g.block _ (by simp; omega) (by simp; omega)).trans (Below.heap_alloc w o _ lt)).trans h.blk
  exact ⟨fun j => cell_of_row w' _ j c _ (0, 0) e, fun j => by simp [World.frozen?, e]⟩
theorem Cl.box {W w : World} {p : Nat} {b : RBl} {s : RSt} {c : Array Value} (h : Cl W w p b s c) (o : Obj) : RefAt (w.alloc o) p b s := h.ref.below ((Below.refl _ _).alloc (Nat.le_refl _) o) (Nat.le_refl _)
theorem info8 : ∃ i, Tryz.prog.info? 5 = some i ∧ i.zero = some (.int .u8 0) ∧ i.size = 1 ∧ i.bytes = 1 := by
  have h : (Tryz.prog.info? 5).map (fun i => (i.zero, i.size, i.bytes)) = some (some (.int .u8 0), 1, 1) := by kernel_rfl
  obtain ⟨i, hi, he⟩ := Option.map_eq_some_iff.1 h
  simp only [Prod.mk.injEq] at he
  exact ⟨i, hi, he.1, he.2.1, he.2.2⟩

theorem range_hart (W : World) (p : Nat) (b : RBl) (s : RSt) (h : RefAt W p b s) : W.rangeAt p 0 (cellsR s b).toList := by
  intro j v hv
  rw [Nat.zero_add]
  have hj : j < 36 := (List.getElem?_eq_some_iff.1 hv).1
  match j, hj with
  | 0, _ => exact h.cx.trans hv
  | 1, _ => exact h.pc.trans hv
  | 2, _ => exact h.mode.trans hv
  | 3, _ => exact h.asleep.trans hv
  | 4, _ => exact h.cram.trans hv
  | 5, _ => exact h.sie.trans hv
  | 6, _ => exact h.mieb.trans hv
  | 7, _ => exact h.spie.trans hv
  | 8, _ => exact h.mpie.trans hv
  | 9, _ => exact h.spp.trans hv
  | 10, _ => exact h.mpp.trans hv
  | 11, _ => exact h.tw.trans hv
  | 12, _ => exact h.tsr.trans hv
  | 13, _ => exact h.medeleg.trans hv
  | 14, _ => exact h.mideleg.trans hv
  | 15, _ => exact h.mie.trans hv
  | 16, _ => exact h.soft.trans hv
  | 17, _ => exact h.mtvec.trans hv
  | 18, _ => exact h.stvec.trans hv
  | 19, _ => exact h.mscratch.trans hv
  | 20, _ => exact h.sscratch.trans hv
  | 21, _ => exact h.mepc.trans hv
  | 22, _ => exact h.sepc.trans hv
  | 23, _ => exact h.mcause.trans hv
  | 24, _ => exact h.scause.trans hv
  | 25, _ => exact h.mtval.trans hv
  | 26, _ => exact h.stval.trans hv
  | 27, _ => exact h.msip.trans hv
  | 28, _ => exact h.mtimecmp.trans hv
  | 29, _ => exact h.mtime.trans hv
  | 30, _ => exact h.csrc.trans hv
  | 31, _ => exact h.cen.trans hv
  | 32, _ => exact h.cli.trans hv
  | 33, _ => exact h.traps.trans hv
  | 34, _ => exact h.system.trans hv
  | 35, _ => exact h.device.trans hv
  | k + 36, hk => exact absurd hk (by omega)
def setAll (c : Array Value) : Nat → List Value → Array Value
  | _, [] => c
  | o, v :: r => setAll (c.setIfInBounds o v) (o + 1) r
theorem setCells_block (g : Nat) (t : TypeId) (f : Nat × Nat) : ∀ (vs : List Value) (o : Nat) (w : World) (c : Array Value), w.heap[g]? = some (.cells c t f) → (w.setCells g o vs).heap[g]? = some (.cells (setAll c o vs) t f)
  | [], _, _, _, h => h
  | v :: r, o, w, c, h => setCells_block g t f r (o + 1) (w.setCell ⟨g, o, none⟩ v) (c.setIfInBounds o v) (heap_set_same w g o v c t f h)
theorem setCells_below {B g : Nat} (hg : B ≤ g) : ∀ (vs : List Value) (o : Nat) (a w : World), Below B a w → Below B a (w.setCells g o vs)
  | [], _, _, _, h => h
  | v :: r, o, a, w, h => setCells_below hg r (o + 1) a (w.setCell ⟨g, o, none⟩ v) (h.setCell hg v)
theorem setCells_size (g : Nat) : ∀ (vs : List Value) (o : Nat) (w : World), (w.setCells g o vs).heap.size = w.heap.size
  | [], _, _ => rfl
  | v :: r, o, w => (setCells_size g r (o + 1) (w.setCell ⟨g, o, none⟩ v)).trans (by simp [World.setCell])
def zeroR : Array Value := #[.slice none 0 0, .int .u32 0, .int .i64 0, .bool false, .slice none 0 0, .bool false, .bool false, .bool false, .bool false, .int .i64 0, .int .i64 0, .bool false, .bool false, .int .u32 0, .int .u32 0, .int .u32 0, .int .u32 0, .int .u32 0, .int .u32 0, .int .u32 0, .int .u32 0, .int .u32 0, .int .u32 0, .int .u32 0, .int .u32 0, .int .u32 0, .int .u32 0, .int .u32 0, .int .u32 0, .int .u32 0, .slice none 0 0, .slice none 0 0, .slice none 0 0, .int .i64 0, .int .i64 0, .int .i64 0]
theorem there_hart (W : World) : (W.alloc (.cells zeroR 33)).there W.heap.size 0 36 := by
  intro j hj
  have e := heap_alloc_new W (.cells zeroR 33 (0, 0))
  refine ⟨?_, by unfold World.frozen?; rw [e]; simp⟩
  rw [cell_of_row _ _ (0 + j) zeroR _ (0, 0) e]
  match j, hj with
  | 0, _ => rfl
  | 1, _ => rfl
  | 2, _ => rfl
  | 3, _ => rfl
  | 4, _ => rfl
  | 5, _ => rfl
  | 6, _ => rfl
  | 7, _ => rfl
  | 8, _ => rfl
  | 9, _ => rfl
  | 10, _ => rfl
  | 11, _ => rfl
  | 12, _ => rfl
  | 13, _ => rfl
  | 14, _ => rfl
  | 15, _ => rfl
  | 16, _ => rfl
  | 17, _ => rfl
  | 18, _ => rfl
  | 19, _ => rfl
  | 20, _ => rfl
  | 21, _ => rfl
  | 22, _ => rfl
  | 23, _ => rfl
  | 24, _ => rfl
  | 25, _ => rfl
  | 26, _ => rfl
  | 27, _ => rfl
  | 28, _ => rfl
  | 29, _ => rfl
  | 30, _ => rfl
  | 31, _ => rfl
  | 32, _ => rfl
  | 33, _ => rfl
  | 34, _ => rfl
  | 35, _ => rfl
  | k + 36, hk => exact absurd hk (by omega)
theorem setAll_zero (s : RSt) (b : RBl) : setAll zeroR 0 (cellsR s b).toList = cellsR s b := by kernel_rfl
theorem cl_start (W : World) (p : Nat) (b : RBl) (s : RSt) (h : RefAt W p b s) : Cl W ((W.alloc (.cells zeroR 33)).setCells W.heap.size 0 (cellsR s b).toList) p b s (cellsR s b) := by
  have bl : Below W.heap.size W ((W.alloc (.cells zeroR 33)).setCells W.heap.size 0 (cellsR s b).toList) := setCells_below (Nat.le_refl _) _ _ _ _ ((Below.refl _ _).alloc (Nat.le_refl _) _)
  have hb := setCells_block W.heap.size 33 (0, 0) (cellsR s b).toList 0 _ _ (heap_alloc_new W (.cells zeroR 33 (0, 0)))
  rw [setAll_zero] at hb
  exact ⟨h.below bl (Nat.le_refl _), bl, hb, by rw [setCells_size]; simp, fun k hk => by have := h.lt; simp [RBl.l] at hk; omega⟩

set_option maxHeartbeats 4000000 in
set_option maxRecDepth 100000 in
theorem clone_any (W : World) (p : Nat) (b : RBl) (s : RSt) (h : RefAt W p b s) (h4 : 4 ≤ s.ram.length) :
    Calls Tryz.prog 11 #[.pointer (some ⟨p, 0, none⟩)] W fun e W' => ∃ p' : Nat, e = .returned (.pointer (some ⟨p', 0, none⟩)) ∧ (∃ b' : RBl, RefAt W' p' b' s ∧ b'.Apart p' ∧ ∀ k, k ∈ b'.l p' → W.heap.size ≤ k) ∧ Below W.heap.size W W' := by
  have HF : Hid (RefAt W p b s) := h
  have hC : Hid (Cl W ((W.alloc (.cells zeroR 33)).setCells W.heap.size 0 (cellsR s b).toList) p b s (cellsR s b)) := cl_start W p b s h
  obtain ⟨i0, hi, hz, hsz, hby⟩ := info_u32
  obtain ⟨i1, hi1, hz1, hsz1, hby1⟩ := info8
  obtain ⟨i2, hi2, hz2, hsz2, hby2⟩ := info_src
  have HI : Hid (Tryz.prog.info? 29 = some i0 ∧ i0.zero = some (.int .u32 0) ∧ i0.size = 1 ∧ i0.bytes = 4) := ⟨hi, hz, hsz, hby⟩
  have HI1 : Hid (Tryz.prog.info? 5 = some i1 ∧ i1.zero = some (.int .u8 0) ∧ i1.size = 1 ∧ i1.bytes = 1) := ⟨hi1, hz1, hsz1, hby1⟩
  have HI2 : Hid (Tryz.prog.info? 103 = some i2 ∧ i2.zero = some (.agg #[.bool false, .bool false, .bool false, .int .u32 0]) ∧ i2.size = 4 ∧ i2.bytes = 8) := ⟨hi2, hz2, hsz2, hby2⟩
  clear hi hz hsz hby hi1 hz1 hsz1 hby1 hi2 hz2 hsz2 hby2
  have hrng := range_hart W p b s h
  have hth := there_hart W
  have hl5 : s.ram.length ≤ 512 := by obtain ⟨_, _, _, _, _, _, h6, h7⟩ := h.ram; exact h6
  have HBY : Hid (∀ b ∈ s.ram, 0 ≤ b ∧ b < 256) := by obtain ⟨_, _, _, _, _, _, h6, h7⟩ := h.ram; exact h7
  have HX : Hid (s.x.length = 32 ∧ s.src.length = 8 ∧ s.enable.length = 2 ∧ s.limit.length = 2) := ⟨h.nx, h.nsrc, h.nen, h.nli⟩
  clear h
  go_enter Tryz.func11, Tryz.ntmps11
  go_upto_region 1 with fail
  go_cut [3] (fun v w => v = .pointer (some ⟨W.heap.size, 0, none⟩) ∧ Cl W w p b s (cellsR s b))
  case first =>
    obtain ⟨d, hu, hd⟩ : ∃ d, Tryz.prog.underlying 33 = some d ∧ d.isRow = true := ⟨_, Tryz.underlying33, rfl⟩
    have HR : Hid (W.rangeAt p 0 (cellsR s b).toList) := hrng
    have HT : Hid ((W.alloc (.cells zeroR 33)).there W.heap.size 0 36) := hth
    clear hrng hth
    go_wp2_with (first | (refine wpList_load_mid rfl 33 _ rfl p 0 rfl (cellsR s b).toList d HR.out hu hd (by kernel_rfl) ?_) | (refine wpList_store_mid rfl 33 _ _ rfl W.heap.size 0 (cellsR s b) rfl rfl HT.out (by kernel_rfl) (by kernel_rfl) ?_))
    go_meet
    case rel => exact ⟨rfl, hC.out⟩
  case rest =>
    obtain ⟨rfl, CQ0⟩ := hcut
    have CQ : Hid (Cl W wc p b s (cellsR s b)) := CQ0
    clear CQ0 hC hrng hth
    rename World => wq
    go_upto_region 2 with fail
    go_cut [3] (fun v w => v = .pointer (some ⟨W.heap.size, 0, none⟩) ∧ ∃ gx kx : Nat, Cl W w p b s (cellsR s { b with x := gx, kx := kx }) ∧ RowAt w gx kx s.x ∧ W.heap.size < gx ∧ gx < w.heap.size)
    case first =>
      have CC := CQ.out
      have hx0 := fun o => (CC.box o).cx
      have clt := CC.lt
      have HC : Hid (Cl W wq p b s (cellsR s b)) := CC
      clear CC
      go_wp2_with (at_builtin; have CC := HC.out; refine wpList_append_lies _ rfl _ _ 28 rfl (W.heap.size + 1) 29 i0 _ 1 4 Tryz.underlying28 HI.out.1 HI.out.2.1 HI.out.2.2.1 HI.out.2.2.2 rfl (by decide) (.slice (some ⟨wq.heap.size, 0, none⟩) 0 0) 0 [] rfl (own_empty wq _ (by have := CC.lt; omega) _ _) ⟨b.x, 0, none⟩ 32 b.kx (s.x.map (Value.int .u32)) rfl (by simp [HX.out.1]) (row_news (CC.box _).x) (one_u32 _) (by decide) (by decide) (by decide) (by have := CC.lt; simp; omega) _ rfl ?_)
      intro g cap w' own gr at_ lt'
      have ca := (HC.out.at gr).1 0
      have fa := (HC.out.at gr).2
      simp [cellsR] at ca
      have OW : Hid (w'.ownsRow _ _ _ _ _ _) := own
      have AT : Hid (_ ∨ _) := at_
      clear own at_ hx0
      go_wp2_with fail
      go_meet
      case rel =>
        have gg : g = wq.heap.size ∨ g = wq.heap.size + 1 := by
          rcases AT.out with h | h
          · left; simpa [Value.ownBlock] using h.symm
          · exact .inr h
        obtain ⟨CL, keep⟩ := HC.out.step gr 0 (Value.slice (some ⟨g, 0, none⟩) 32 cap)
        have ow := row_own (HX.out.1) OW.out
        have gh : (w'.setCell ⟨W.heap.size, 0, none⟩ (Value.slice (some ⟨g, 0, none⟩) 32 cap)).heap[g]? = w'.heap[g]? := Below.heap_setCell _ _ _ _ (by show g ≠ W.heap.size; have := ow.1; omega)
        have gz : g < (w'.setCell ⟨W.heap.size, 0, none⟩ (Value.slice (some ⟨g, 0, none⟩) 32 cap)).heap.size := by simp [World.setCell]; exact lt'
        have wz : wq.heap.size ≤ (w'.setCell ⟨W.heap.size, 0, none⟩ (Value.slice (some ⟨g, 0, none⟩) 32 cap)).heap.size := by
          have gs := gr.size
          simp at gs
          simp only [World.setCell, Array.size_modify]
          omega
        exact ⟨rfl, g, cap, CL, row_keep ow.2 gh, (by have := ow.1; omega), gz⟩
    case rest =>
      clear CQ
      obtain ⟨rfl, gx, kx, CC, Rx, Lx1, Lx2⟩ := hcut
      have CQ : Hid (Cl W wc p b s (cellsR s { b with x := gx, kx := kx })) := CC
      clear CC
      rename World => wq
      go_upto_region 3 with fail
      go_cut [3] (fun v w => v = .pointer (some ⟨W.heap.size, 0, none⟩) ∧ ∃ gx kx gram kram : Nat, Cl W w p b s (cellsR s { b with x := gx, kx := kx, ram := gram, kram := kram }) ∧ RowAt w gx kx s.x ∧ W.heap.size < gx ∧ gx < w.heap.size ∧ RamIn w gram kram s.ram ∧ W.heap.size < gram ∧ gram < w.heap.size ∧ gx ≠ gram)
      case first =>
        have CC := CQ.out
        have hx0 := fun o => (CC.box o).cram
        have clt := CC.lt
        have HC : Hid (Cl W wq p b s (cellsR s { b with x := gx, kx := kx })) := CC
        clear CC
        go_wp2_with (at_builtin; have CC := HC.out; refine wpList_append_lies _ rfl _ _ 30 rfl (W.heap.size + 1) 5 i1 _ 1 1 Tryz.underlying30 HI1.out.1 HI1.out.2.1 HI1.out.2.2.1 HI1.out.2.2.2 rfl (by decide) (.slice (some ⟨wq.heap.size, 0, none⟩) 0 0) 0 [] rfl (own_empty wq _ (by have := CC.lt; omega) _ _) ⟨b.ram, 0, none⟩ s.ram.length b.kram (s.ram.map (Value.int .u8)) rfl (by simp) (ram_news (CC.box _).ram) (one_u8 _) (by omega) (by unfold maxLen; omega) (by omega) (by have := CC.lt; simp; omega) _ rfl ?_)
        intro g cap w' own gr at_ lt'
        have ca := (HC.out.at gr).1 4
        have fa := (HC.out.at gr).2
        simp [cellsR] at ca
        have OW : Hid (w'.ownsRow _ _ _ _ _ _) := own
        have AT : Hid (_ ∨ _) := at_
        clear own at_ hx0
        go_wp2_with fail
        go_meet
        case rel =>
          have gg : g = wq.heap.size ∨ g = wq.heap.size + 1 := by
            rcases AT.out with h | h
            · left; simpa [Value.ownBlock] using h.symm
            · exact .inr h
          obtain ⟨CL, keep⟩ := HC.out.step gr 4 (Value.slice (some ⟨g, 0, none⟩) s.ram.length cap)
          have ow := ram_own OW.out hl5 HBY.out
          have gh : (w'.setCell ⟨W.heap.size, 4, none⟩ (Value.slice (some ⟨g, 0, none⟩) s.ram.length cap)).heap[g]? = w'.heap[g]? := Below.heap_setCell _ _ _ _ (by show g ≠ W.heap.size; have := ow.1; omega)
          have gz : g < (w'.setCell ⟨W.heap.size, 4, none⟩ (Value.slice (some ⟨g, 0, none⟩) s.ram.length cap)).heap.size := by simp [World.setCell]; exact lt'
          have wz : wq.heap.size ≤ (w'.setCell ⟨W.heap.size, 4, none⟩ (Value.slice (some ⟨g, 0, none⟩) s.ram.length cap)).heap.size := by
            have gs := gr.size
            simp at gs
            simp only [World.setCell, Array.size_modify]
            omega
          exact ⟨rfl, gx, kx, g, cap, CL, row_keep Rx (keep _ Lx2 (by omega)), Lx1, (by omega), ow.2.of gh, (by have := ow.1; omega), gz, (by omega)⟩
      case rest =>
        clear CQ Rx Lx1 Lx2
        obtain ⟨rfl, gx, kx, gram, kram, CC, Rx, Lx1, Lx2, Rram, Lram1, Lram2, Nxram⟩ := hcut
        have CQ : Hid (Cl W wc p b s (cellsR s { b with x := gx, kx := kx, ram := gram, kram := kram })) := CC
        clear CC
        rename World => wq
        go_upto_region 4 with fail
        go_cut [3] (fun v w => v = .pointer (some ⟨W.heap.size, 0, none⟩) ∧ ∃ gx kx gram kram gsrc ksrc : Nat, Cl W w p b s (cellsR s { b with x := gx, kx := kx, ram := gram, kram := kram, src := gsrc, ksrc := ksrc }) ∧ RowAt w gx kx s.x ∧ W.heap.size < gx ∧ gx < w.heap.size ∧ RamIn w gram kram s.ram ∧ W.heap.size < gram ∧ gram < w.heap.size ∧ gx ≠ gram ∧ SrcAt w gsrc s ∧ 8 ≤ ksrc ∧ ksrc ≤ maxLen ∧ W.heap.size < gsrc ∧ gsrc < w.heap.size ∧ gx ≠ gsrc ∧ gram ≠ gsrc)
        case first =>
          have CC := CQ.out
          have hx0 := fun o => (CC.box o).csrc
          have clt := CC.lt
          have HC : Hid (Cl W wq p b s (cellsR s { b with x := gx, kx := kx, ram := gram, kram := kram })) := CC
          clear CC
          go_wp2_with (at_builtin; have CC := HC.out; refine wpList_append_lies _ rfl _ _ 31 rfl (W.heap.size + 1) 103 i2 _ 4 8 Tryz.underlying31 HI2.out.1 HI2.out.2.1 HI2.out.2.2.1 HI2.out.2.2.2 rfl (by decide) (.slice (some ⟨wq.heap.size, 0, none⟩) 0 0) 0 [] rfl (own_empty wq _ (by have := CC.lt; omega) _ _) ⟨b.src, 0, none⟩ 8 b.ksrc (srcAll s) rfl (by simp [srcAll, srcCells, List.range, List.range.loop]) (src_news (CC.box _)) (one_src s) (by decide) (by decide) (by decide) (by have := CC.lt; simp; omega) _ rfl ?_)
          intro g cap w' own gr at_ lt'
          have ca := (HC.out.at gr).1 30
          have fa := (HC.out.at gr).2
          simp [cellsR] at ca
          have OW : Hid (w'.ownsRow _ _ _ _ _ _) := own
          have AT : Hid (_ ∨ _) := at_
          clear own at_ hx0
          go_wp2_with fail
          go_meet
          case rel =>
            have gg : g = wq.heap.size ∨ g = wq.heap.size + 1 := by
              rcases AT.out with h | h
              · left; simpa [Value.ownBlock] using h.symm
              · exact .inr h
            obtain ⟨CL, keep⟩ := HC.out.step gr 30 (Value.slice (some ⟨g, 0, none⟩) 8 cap)
            have ow := src_own OW.out
            have gh : (w'.setCell ⟨W.heap.size, 30, none⟩ (Value.slice (some ⟨g, 0, none⟩) 8 cap)).heap[g]? = w'.heap[g]? := Below.heap_setCell _ _ _ _ (by show g ≠ W.heap.size; have := ow.1; omega)
            have gz : g < (w'.setCell ⟨W.heap.size, 30, none⟩ (Value.slice (some ⟨g, 0, none⟩) 8 cap)).heap.size := by simp [World.setCell]; exact lt'
            have wz : wq.heap.size ≤ (w'.setCell ⟨W.heap.size, 30, none⟩ (Value.slice (some ⟨g, 0, none⟩) 8 cap)).heap.size := by
              have gs := gr.size
              simp at gs
              simp only [World.setCell, Array.size_modify]
              omega
            exact ⟨rfl, gx, kx, gram, kram, g, cap, CL, row_keep Rx (keep _ Lx2 (by omega)), Lx1, (by omega), Rram.of (keep _ Lram2 (by omega)), Lram1, (by omega), Nxram, ow.2.1.of gh, ow.2.2.1, ow.2.2.2, (by have := ow.1; omega), gz, (by omega), (by omega)⟩
        case rest =>
          clear CQ Rx Lx1 Lx2 Rram Lram1 Lram2 Nxram
          obtain ⟨rfl, gx, kx, gram, kram, gsrc, ksrc, CC, Rx, Lx1, Lx2, Rram, Lram1, Lram2, Nxram, Rsrc, Ssrc1, Ssrc2, Lsrc1, Lsrc2, Nxsrc, Nramsrc⟩ := hcut
          have CQ : Hid (Cl W wc p b s (cellsR s { b with x := gx, kx := kx, ram := gram, kram := kram, src := gsrc, ksrc := ksrc })) := CC
          clear CC
          rename World => wq
          go_upto_region 5 with fail
          go_cut [3] (fun v w => v = .pointer (some ⟨W.heap.size, 0, none⟩) ∧ ∃ gx kx gram kram gsrc ksrc gen ken : Nat, Cl W w p b s (cellsR s { b with x := gx, kx := kx, ram := gram, kram := kram, src := gsrc, ksrc := ksrc, en := gen, ken := ken }) ∧ RowAt w gx kx s.x ∧ W.heap.size < gx ∧ gx < w.heap.size ∧ RamIn w gram kram s.ram ∧ W.heap.size < gram ∧ gram < w.heap.size ∧ gx ≠ gram ∧ SrcAt w gsrc s ∧ 8 ≤ ksrc ∧ ksrc ≤ maxLen ∧ W.heap.size < gsrc ∧ gsrc < w.heap.size ∧ gx ≠ gsrc ∧ gram ≠ gsrc ∧ RowAt w gen ken s.enable ∧ W.heap.size < gen ∧ gen < w.heap.size ∧ gx ≠ gen ∧ gram ≠ gen ∧ gsrc ≠ gen)
          case first =>
            have CC := CQ.out
            have hx0 := fun o => (CC.box o).cen
            have clt := CC.lt
            have HC : Hid (Cl W wq p b s (cellsR s { b with x := gx, kx := kx, ram := gram, kram := kram, src := gsrc, ksrc := ksrc })) := CC
            clear CC
            go_wp2_with (at_builtin; have CC := HC.out; refine wpList_append_lies _ rfl _ _ 28 rfl (W.heap.size + 1) 29 i0 _ 1 4 Tryz.underlying28 HI.out.1 HI.out.2.1 HI.out.2.2.1 HI.out.2.2.2 rfl (by decide) (.slice (some ⟨wq.heap.size, 0, none⟩) 0 0) 0 [] rfl (own_empty wq _ (by have := CC.lt; omega) _ _) ⟨b.en, 0, none⟩ 2 b.ken (s.enable.map (Value.int .u32)) rfl (by simp [HX.out.2.2.1]) (row_news (CC.box _).en) (one_u32 _) (by decide) (by decide) (by decide) (by have := CC.lt; simp; omega) _ rfl ?_)
            intro g cap w' own gr at_ lt'
            have ca := (HC.out.at gr).1 31
            have fa := (HC.out.at gr).2
            simp [cellsR] at ca
            have OW : Hid (w'.ownsRow _ _ _ _ _ _) := own
            have AT : Hid (_ ∨ _) := at_
            clear own at_ hx0
            go_wp2_with fail
            go_meet
            case rel =>
              have gg : g = wq.heap.size ∨ g = wq.heap.size + 1 := by
                rcases AT.out with h | h
                · left; simpa [Value.ownBlock] using h.symm
                · exact .inr h
              obtain ⟨CL, keep⟩ := HC.out.step gr 31 (Value.slice (some ⟨g, 0, none⟩) 2 cap)
              have ow := row_own (HX.out.2.2.1) OW.out
              have gh : (w'.setCell ⟨W.heap.size, 31, none⟩ (Value.slice (some ⟨g, 0, none⟩) 2 cap)).heap[g]? = w'.heap[g]? := Below.heap_setCell _ _ _ _ (by show g ≠ W.heap.size; have := ow.1; omega)
              have gz : g < (w'.setCell ⟨W.heap.size, 31, none⟩ (Value.slice (some ⟨g, 0, none⟩) 2 cap)).heap.size := by simp [World.setCell]; exact lt'
              have wz : wq.heap.size ≤ (w'.setCell ⟨W.heap.size, 31, none⟩ (Value.slice (some ⟨g, 0, none⟩) 2 cap)).heap.size := by
                have gs := gr.size
                simp at gs
                simp only [World.setCell, Array.size_modify]
                omega
              exact ⟨rfl, gx, kx, gram, kram, gsrc, ksrc, g, cap, CL, row_keep Rx (keep _ Lx2 (by omega)), Lx1, (by omega), Rram.of (keep _ Lram2 (by omega)), Lram1, (by omega), Nxram, Rsrc.of (keep _ Lsrc2 (by omega)), Ssrc1, Ssrc2, Lsrc1, (by omega), Nxsrc, Nramsrc, row_keep ow.2 gh, (by have := ow.1; omega), gz, (by omega), (by omega), (by omega)⟩
          case rest =>
            clear CQ Rx Lx1 Lx2 Rram Lram1 Lram2 Nxram Rsrc Lsrc1 Lsrc2 Ssrc1 Ssrc2 Nxsrc Nramsrc
            obtain ⟨rfl, gx, kx, gram, kram, gsrc, ksrc, gen, ken, CC, Rx, Lx1, Lx2, Rram, Lram1, Lram2, Nxram, Rsrc, Ssrc1, Ssrc2, Lsrc1, Lsrc2, Nxsrc, Nramsrc, Ren, Len1, Len2, Nxen, Nramen, Nsrcen⟩ := hcut
            have CQ : Hid (Cl W wc p b s (cellsR s { b with x := gx, kx := kx, ram := gram, kram := kram, src := gsrc, ksrc := ksrc, en := gen, ken := ken })) := CC
            clear CC
            rename World => wq
            go_upto_region 6 with fail
            go_cut [3] (fun v w => v = .pointer (some ⟨W.heap.size, 0, none⟩) ∧ ∃ gx kx gram kram gsrc ksrc gen ken gli kli : Nat, Cl W w p b s (cellsR s { b with x := gx, kx := kx, ram := gram, kram := kram, src := gsrc, ksrc := ksrc, en := gen, ken := ken, li := gli, kli := kli }) ∧ RowAt w gx kx s.x ∧ W.heap.size < gx ∧ gx < w.heap.size ∧ RamIn w gram kram s.ram ∧ W.heap.size < gram ∧ gram < w.heap.size ∧ gx ≠ gram ∧ SrcAt w gsrc s ∧ 8 ≤ ksrc ∧ ksrc ≤ maxLen ∧ W.heap.size < gsrc ∧ gsrc < w.heap.size ∧ gx ≠ gsrc ∧ gram ≠ gsrc ∧ RowAt w gen ken s.enable ∧ W.heap.size < gen ∧ gen < w.heap.size ∧ gx ≠ gen ∧ gram ≠ gen ∧ gsrc ≠ gen ∧ RowAt w gli kli s.limit ∧ W.heap.size < gli ∧ gli < w.heap.size ∧ gx ≠ gli ∧ gram ≠ gli ∧ gsrc ≠ gli ∧ gen ≠ gli)
            case first =>
              have CC := CQ.out
              have hx0 := fun o => (CC.box o).cli
              have clt := CC.lt
              have HC : Hid (Cl W wq p b s (cellsR s { b with x := gx, kx := kx, ram := gram, kram := kram, src := gsrc, ksrc := ksrc, en := gen, ken := ken })) := CC
              clear CC
              go_wp2_with (at_builtin; have CC := HC.out; refine wpList_append_lies _ rfl _ _ 28 rfl (W.heap.size + 1) 29 i0 _ 1 4 Tryz.underlying28 HI.out.1 HI.out.2.1 HI.out.2.2.1 HI.out.2.2.2 rfl (by decide) (.slice (some ⟨wq.heap.size, 0, none⟩) 0 0) 0 [] rfl (own_empty wq _ (by have := CC.lt; omega) _ _) ⟨b.li, 0, none⟩ 2 b.kli (s.limit.map (Value.int .u32)) rfl (by simp [HX.out.2.2.2]) (row_news (CC.box _).li) (one_u32 _) (by decide) (by decide) (by decide) (by have := CC.lt; simp; omega) _ rfl ?_)
              intro g cap w' own gr at_ lt'
              have ca := (HC.out.at gr).1 32
              have fa := (HC.out.at gr).2
              simp [cellsR] at ca
              have OW : Hid (w'.ownsRow _ _ _ _ _ _) := own
              have AT : Hid (_ ∨ _) := at_
              clear own at_ hx0
              go_wp2_with fail
              go_meet
              case rel =>
                have gg : g = wq.heap.size ∨ g = wq.heap.size + 1 := by
                  rcases AT.out with h | h
                  · left; simpa [Value.ownBlock] using h.symm
                  · exact .inr h
                obtain ⟨CL, keep⟩ := HC.out.step gr 32 (Value.slice (some ⟨g, 0, none⟩) 2 cap)
                have ow := row_own (HX.out.2.2.2) OW.out
                have gh : (w'.setCell ⟨W.heap.size, 32, none⟩ (Value.slice (some ⟨g, 0, none⟩) 2 cap)).heap[g]? = w'.heap[g]? := Below.heap_setCell _ _ _ _ (by show g ≠ W.heap.size; have := ow.1; omega)
                have gz : g < (w'.setCell ⟨W.heap.size, 32, none⟩ (Value.slice (some ⟨g, 0, none⟩) 2 cap)).heap.size := by simp [World.setCell]; exact lt'
                have wz : wq.heap.size ≤ (w'.setCell ⟨W.heap.size, 32, none⟩ (Value.slice (some ⟨g, 0, none⟩) 2 cap)).heap.size := by
                  have gs := gr.size
                  simp at gs
                  simp only [World.setCell, Array.size_modify]
                  omega
                exact ⟨rfl, gx, kx, gram, kram, gsrc, ksrc, gen, ken, g, cap, CL, row_keep Rx (keep _ Lx2 (by omega)), Lx1, (by omega), Rram.of (keep _ Lram2 (by omega)), Lram1, (by omega), Nxram, Rsrc.of (keep _ Lsrc2 (by omega)), Ssrc1, Ssrc2, Lsrc1, (by omega), Nxsrc, Nramsrc, row_keep Ren (keep _ Len2 (by omega)), Len1, (by omega), Nxen, Nramen, Nsrcen, row_keep ow.2 gh, (by have := ow.1; omega), gz, (by omega), (by omega), (by omega), (by omega)⟩
            case rest =>
              clear CQ Rx Lx1 Lx2 Rram Lram1 Lram2 Nxram Rsrc Lsrc1 Lsrc2 Ssrc1 Ssrc2 Nxsrc Nramsrc Ren Len1 Len2 Nxen Nramen Nsrcen
              obtain ⟨rfl, gx, kx, gram, kram, gsrc, ksrc, gen, ken, gli, kli, CC, Rx, Lx1, Lx2, Rram, Lram1, Lram2, Nxram, Rsrc, Ssrc1, Ssrc2, Lsrc1, Lsrc2, Nxsrc, Nramsrc, Ren, Len1, Len2, Nxen, Nramen, Nsrcen, Rli, Lli1, Lli2, Nxli, Nramli, Nsrcli, Nenli⟩ := hcut
              have CQ : Hid (Cl W wc p b s (cellsR s { b with x := gx, kx := kx, ram := gram, kram := kram, src := gsrc, ksrc := ksrc, en := gen, ken := ken, li := gli, kli := kli })) := CC
              clear CC
              rename World => wq
              skip
              go_wp2_with fail
              go_ret
              exact ⟨W.heap.size, rfl, ⟨{ b with x := gx, kx := kx, ram := gram, kram := kram, src := gsrc, ksrc := ksrc, en := gen, ken := ken, li := gli, kli := kli }, ref_of_cells CQ.out.blk HX.out.1 HX.out.2.1 HX.out.2.2.1 HX.out.2.2.2 Rx Rram Rsrc ⟨Ssrc1, Ssrc2⟩ Ren Rli, ⟨Nxram, Nxsrc, Nxen, Nxli, Nramsrc, Nramen, Nramli, Nsrcen, Nsrcli, Nenli, (by show W.heap.size ≠ gx; omega), (by show W.heap.size ≠ gram; omega), (by show W.heap.size ≠ gsrc; omega), (by show W.heap.size ≠ gen; omega), (by show W.heap.size ≠ gli; omega)⟩, fun k hk => by simp [RBl.l] at hk; omega⟩, CQ.out.bel⟩
end Go.Proofs.YteiideeechnekaaGreatDoor
