/-
  Rows of words; a state that lies in rows; what a call leaves alone; the takes of a region that draws its order.
-/
import Derived.Test.YteiideeechnekaaGreatDoorProg
import Derived.WalkKit
import Derived.WalkSpells
import Derived.WalkLawsBesides
import Derived.Laws.BitsAllLaws
import Derived.Deep.QuietTactic
import Derived.BigQuiet
import Derived.Deep.RegionWith
import Derived.Deep.RegionHeld3
import Derived.OrdersHeld
namespace Go.Proofs.YteiideeechnekaaGreatDoor
open Go.RowKit

/-- Block g holds a row of cap words, the first of them xs. -/
def RowAt (W : World) (g cap : Nat) (xs : List Int) : Prop :=
  ∃ cur : Array Value, W.heap[g]? = some (.cells cur 29 (0, 0)) ∧ cur.size = cap ∧ xs.length ≤ cap ∧ cap ≤ maxLen ∧ cur.toList.take xs.length = xs.map (Value.int .u32)
theorem RowAt.cell {W : World} {g cap : Nat} {xs : List Int} (h : RowAt W g cap xs) (i : Nat) (hi : i < xs.length) : W.cell? ⟨g, i, none⟩ = some (.int .u32 (xs.getD i 0)) := by
  obtain ⟨cur, hg, hs, hl, _, ht⟩ := h
  rw [cell_of_row W g i cur _ (0, 0) hg]
  have e : cur.toList[i]? = (cur.toList.take xs.length)[i]? := by rw [List.getElem?_take, if_pos hi]
  have : cur[i]? = cur.toList[i]? := by simp
  rw [this, e, ht]
  simp [List.getD, hi]
theorem RowAt.below {W W' : World} {g cap : Nat} {xs : List Int} (h : RowAt W g cap xs) {B : Nat} (hb : Below B W W') (hg : g < B) : RowAt W' g cap xs := by
  obtain ⟨cur, h1, r⟩ := h
  exact ⟨cur, (hb.block g hg).trans h1, r⟩
theorem RowAt.lt {W : World} {g cap : Nat} {xs : List Int} (h : RowAt W g cap xs) : g < W.heap.size := by
  obtain ⟨cur, h1, r⟩ := h
  exact (Array.getElem?_eq_some_iff.1 h1).1
theorem RowAt.le {W : World} {g cap : Nat} {xs : List Int} (h : RowAt W g cap xs) : xs.length ≤ cap := by
  obtain ⟨cur, h1, h2, h3, h4, h5⟩ := h
  exact h3
structure LSt where
  regs : List Int
  pc : Int
  mode : Int
  asleep : Bool
  csrs : List Int
  ram : ByteArray
  clock : List Int
  prio : List Int
  pend : Int
  served : Int
  level : Int
  enable : List Int
  limit : List Int
structure Pl where
  r : Nat
  cr : Nat
  c : Nat
  cc : Nat
  k : Nat
  ck : Nat
  p : Nat
  cp : Nat
  e : Nat
  ce : Nat
  l : Nat
  cl : Nat
structure StAt (W : World) (p : Pl) (st : LSt) : Prop where
  regs : RowAt W p.r p.cr st.regs
  csrs : RowAt W p.c p.cc st.csrs
  clock : RowAt W p.k p.ck st.clock
  prio : RowAt W p.p p.cp st.prio
  enable : RowAt W p.e p.ce st.enable
  limit : RowAt W p.l p.cl st.limit
theorem StAt.below {W W' : World} {p : Pl} {st : LSt} (h : StAt W p st) (hb : Below W.heap.size W W') : StAt W' p st :=
  ⟨h.regs.below hb h.regs.lt, h.csrs.below hb h.csrs.lt, h.clock.below hb h.clock.lt, h.prio.below hb h.prio.lt, h.enable.below hb h.enable.lt, h.limit.below hb h.limit.lt⟩
theorem below_drawn {B : Nat} {a w : World} (h : Below B a w) (n : Nat) : Below B a (w.drewN n) := h.trans ⟨rfl, rfl, rfl, Nat.le_refl _, fun _ _ => rfl⟩
structure Pl.Apart (p : Pl) (B : Nat) : Prop where
  b : B ≤ p.r ∧ B ≤ p.c ∧ B ≤ p.k ∧ B ≤ p.p ∧ B ≤ p.e ∧ B ≤ p.l
  n : p.r ≠ p.c ∧ p.r ≠ p.k ∧ p.r ≠ p.p ∧ p.r ≠ p.e ∧ p.r ≠ p.l ∧ p.c ≠ p.k ∧ p.c ≠ p.p ∧ p.c ≠ p.e ∧ p.c ≠ p.l ∧ p.k ≠ p.p ∧ p.k ≠ p.e ∧ p.k ≠ p.l ∧ p.p ≠ p.e ∧ p.p ≠ p.l ∧ p.e ≠ p.l
theorem bcell {W w1 : World} (hb : Below W.heap.size W w1) : (∀ b o, b < W.heap.size → w1.cell? ⟨b, o, none⟩ = W.cell? ⟨b, o, none⟩) ∧ (∀ b o, b < W.heap.size → w1.frozen? ⟨b, o, none⟩ = W.frozen? ⟨b, o, none⟩) :=
  ⟨fun b o h => hb.cell (p := ⟨b, o, none⟩) h, fun b o h => hb.frozen (p := ⟨b, o, none⟩) h⟩
theorem alloc_cell (w : World) (b : Nat) (h : b < w.heap.size) : (∀ o j, (w.alloc o).cell? ⟨b, j, none⟩ = w.cell? ⟨b, j, none⟩) ∧ (∀ o j, (w.alloc o).frozen? ⟨b, j, none⟩ = w.frozen? ⟨b, j, none⟩) :=
  ⟨fun o j => Below.cell ((Below.refl w.heap.size w).alloc (Nat.le_refl _) o) (p := ⟨b, j, none⟩) h, fun o j => Below.frozen ((Below.refl w.heap.size w).alloc (Nat.le_refl _) o) (p := ⟨b, j, none⟩) h⟩
theorem StAt.kept {W1 W W' : World} {p : Pl} {st : LSt} (h1 : StAt W1 p st) (h : StAt W p st) {B : Nat} (hb : Below B W W') (hB : W1.heap.size ≤ B) : StAt W' p st :=
  ⟨h.regs.below hb (Nat.lt_of_lt_of_le h1.regs.lt hB), h.csrs.below hb (Nat.lt_of_lt_of_le h1.csrs.lt hB), h.clock.below hb (Nat.lt_of_lt_of_le h1.clock.lt hB), h.prio.below hb (Nat.lt_of_lt_of_le h1.prio.lt hB), h.enable.below hb (Nat.lt_of_lt_of_le h1.enable.lt hB), h.limit.below hb (Nat.lt_of_lt_of_le h1.limit.lt hB)⟩
theorem drewN_two (W : World) (a b : Nat) : (W.drewN a).drewN b = W.drewN (a + b) := by simp [World.drewN, Nat.add_assoc]
theorem tK {P : Program} {ops : Array Oper} {Q : Exit → Act → World → Prop} {S : World → Prop} (i : Nat) (v : Value) {oi : Oper} {fuel : Nat} {listed : Array Bool} {a : Act} {w : World} (hi : ops[i]? = some oi)
    (h4 : (Region.noSelect ops && Region.free .any ops listed i && (Region.ready .any ops listed).contains i && Region.wanted oi (yielded ops a.tmps)) = true) (hQ : ∀ c a w, Q (.panic c) (a.put oi.dst v) w → Q (.panic c) a w)
    (hx : ∀ w, (execOp a.eval oi).run P w = .ok (.value v) w) (hS : S w) (h : wpAnyH P .any ops Q S fuel (listed.setIfInBounds i true) (a.put oi.dst v) w) : wpAnyH P .any ops Q S (fuel + 1) listed a w := by
  simp only [Bool.and_eq_true] at h4
  exact wpAnyH_take hi h4.1.1.1 h4.1.1.2 h4.1.2 hQ (Or.inl ⟨h4.2, fun w _ => hx w⟩) hS h
theorem tL {ops : Array Oper} {Q : Exit → Act → World → Prop} {S : World → Prop} (i : Nat) {v : Value} {A : Addr} {t : TypeId} {X : Operand} {oi : Oper} {fuel : Nat} {listed : Array Bool} {a : Act} {w : World} (hi : ops[i]? = some oi) (hop : oi.op = .load t X)
    (h4 : (Region.noSelect ops && Region.free .any ops listed i && (Region.ready .any ops listed).contains i && Region.wanted oi (yielded ops a.tmps)) = true) (hQ : ∀ c a w, Q (.panic c) (a.put oi.dst v) w → Q (.panic c) a w)
    (he : a.eval X = .pointer (some A)) (hrun : ∀ w : World, w.cell? A = some v → (Instr.loadAt t (.pointer (some A))).run Tryz.prog w = .ok v w) (hc : ∀ w, S w → w.cell? A = some v) (hS : S w) (h : wpAnyH Tryz.prog .any ops Q S fuel (listed.setIfInBounds i true) (a.put oi.dst v) w) : wpAnyH Tryz.prog .any ops Q S (fuel + 1) listed a w := by
  simp only [Bool.and_eq_true] at h4
  exact wpAnyH_take hi h4.1.1.1 h4.1.1.2 h4.1.2 hQ (Or.inl ⟨h4.2, fun w hw => by
    unfold execOp
    rw [hop]
    simp [he, hrun w (hc w hw), Result.andThen]⟩) hS h
theorem tI {ops : Array Oper} {Q : Exit → Act → World → Prop} {S : World → Prop} (i : Nat) {v : Value} {A : Addr} {X : Operand} {oi : Oper} {fuel : Nat} {listed : Array Bool} {a : Act} {w : World} (hi : ops[i]? = some oi) (hop : oi.op = .load 3 X)
    (h4 : (Region.noSelect ops && Region.free .any ops listed i && (Region.ready .any ops listed).contains i && Region.wanted oi (yielded ops a.tmps)) = true) (hQ : ∀ c a w, Q (.panic c) (a.put oi.dst v) w → Q (.panic c) a w)
    (he : a.eval X = .pointer (some A)) (hc : ∀ w, S w → w.cell? A = some v) (hS : S w) (h : wpAnyH Tryz.prog .any ops Q S fuel (listed.setIfInBounds i true) (a.put oi.dst v) w) : wpAnyH Tryz.prog .any ops Q S (fuel + 1) listed a w :=
  tL i hi hop h4 hQ he (fun w h => by simp [Instr.loadAt, go_sem, h]) hc hS h
theorem tU {ops : Array Oper} {Q : Exit → Act → World → Prop} {S : World → Prop} (i : Nat) {v : Value} {A : Addr} {X : Operand} {oi : Oper} {fuel : Nat} {listed : Array Bool} {a : Act} {w : World} (hi : ops[i]? = some oi) (hop : oi.op = .load 29 X)
    (h4 : (Region.noSelect ops && Region.free .any ops listed i && (Region.ready .any ops listed).contains i && Region.wanted oi (yielded ops a.tmps)) = true) (hQ : ∀ c a w, Q (.panic c) (a.put oi.dst v) w → Q (.panic c) a w)
    (he : a.eval X = .pointer (some A)) (hc : ∀ w, S w → w.cell? A = some v) (hS : S w) (h : wpAnyH Tryz.prog .any ops Q S fuel (listed.setIfInBounds i true) (a.put oi.dst v) w) : wpAnyH Tryz.prog .any ops Q S (fuel + 1) listed a w :=
  tL i hi hop h4 hQ he (fun w h => by simp [Instr.loadAt, go_sem, h]) hc hS h
theorem tN {P : Program} {ops : Array Oper} {Q : Exit → Act → World → Prop} {S : World → Prop} (i : Nat) {oi : Oper} {fuel : Nat} {listed : Array Bool} {a : Act} {w : World} (hi : ops[i]? = some oi)
    (h4 : (Region.noSelect ops && Region.free .any ops listed i && (Region.ready .any ops listed).contains i && !Region.wanted oi (yielded ops a.tmps)) = true) (hQ : ∀ c a w, Q (.panic c) (a.put oi.dst undef) w → Q (.panic c) a w)
    (hS : S w) (h : wpAnyH P .any ops Q S fuel (listed.setIfInBounds i true) (a.put oi.dst undef) w) : wpAnyH P .any ops Q S (fuel + 1) listed a w := by
  simp only [Bool.and_eq_true, Bool.not_eq_true'] at h4
  exact wpAnyH_take hi h4.1.1.1 h4.1.1.2 h4.1.2 hQ (Or.inr ⟨h4.2, rfl⟩) hS h
theorem yK {P : Program} {ops : Array Oper} {Q : Exit → Act → World → Prop} {S : World → Prop} (i : Nat) (v : Value) {oi : Oper} {fuel : Nat} {listed : Array Bool} {a : Act} {w : World} (hS : S w) (h : wpAnyH P .any ops Q S fuel (listed.setIfInBounds i true) (a.put oi.dst v) w) (hi : ops[i]? = some oi := by rfl)
    (h4 : (Region.noSelect ops && Region.free .any ops listed i && (Region.ready .any ops listed).contains i && Region.wanted oi (yielded ops a.tmps)) = true := by kernel_rfl) (hQ : ∀ c a w, Q (.panic c) (a.put oi.dst v) w → Q (.panic c) a w := by exact fun _ _ _ h => h)
    (hx : ∀ w, (execOp a.eval oi).run P w = .ok (.value v) w := by intro _; kernel_rfl) : wpAnyH P .any ops Q S (fuel + 1) listed a w := tK i v hi h4 hQ hx hS h
theorem yN {P : Program} {ops : Array Oper} {Q : Exit → Act → World → Prop} {S : World → Prop} (i : Nat) {oi : Oper} {fuel : Nat} {listed : Array Bool} {a : Act} {w : World} (hS : S w) (h : wpAnyH P .any ops Q S fuel (listed.setIfInBounds i true) (a.put oi.dst undef) w) (hi : ops[i]? = some oi := by rfl)
    (h4 : (Region.noSelect ops && Region.free .any ops listed i && (Region.ready .any ops listed).contains i && !Region.wanted oi (yielded ops a.tmps)) = true := by kernel_rfl) (hQ : ∀ c a w, Q (.panic c) (a.put oi.dst undef) w → Q (.panic c) a w := by exact fun _ _ _ h => h) : wpAnyH P .any ops Q S (fuel + 1) listed a w := tN i hi h4 hQ hS h
theorem yI {ops : Array Oper} {Q : Exit → Act → World → Prop} {S : World → Prop} (i : Nat) {v : Value} {A : Addr} {X : Operand} {oi : Oper} {fuel : Nat} {listed : Array Bool} {a : Act} {w : World} (hc : ∀ w, S w → w.cell? A = some v) (hS : S w) (h : wpAnyH Tryz.prog .any ops Q S fuel (listed.setIfInBounds i true) (a.put oi.dst v) w) (hi : ops[i]? = some oi := by rfl) (hop : oi.op = .load 3 X := by rfl)
    (h4 : (Region.noSelect ops && Region.free .any ops listed i && (Region.ready .any ops listed).contains i && Region.wanted oi (yielded ops a.tmps)) = true := by kernel_rfl) (hQ : ∀ c a w, Q (.panic c) (a.put oi.dst v) w → Q (.panic c) a w := by exact fun _ _ _ h => h)
    (he : a.eval X = .pointer (some A) := by kernel_rfl) : wpAnyH Tryz.prog .any ops Q S (fuel + 1) listed a w := tI i hi hop h4 hQ he hc hS h
theorem yU {ops : Array Oper} {Q : Exit → Act → World → Prop} {S : World → Prop} (i : Nat) {v : Value} {A : Addr} {X : Operand} {oi : Oper} {fuel : Nat} {listed : Array Bool} {a : Act} {w : World} (hc : ∀ w, S w → w.cell? A = some v) (hS : S w) (h : wpAnyH Tryz.prog .any ops Q S fuel (listed.setIfInBounds i true) (a.put oi.dst v) w) (hi : ops[i]? = some oi := by rfl) (hop : oi.op = .load 29 X := by rfl)
    (h4 : (Region.noSelect ops && Region.free .any ops listed i && (Region.ready .any ops listed).contains i && Region.wanted oi (yielded ops a.tmps)) = true := by kernel_rfl) (hQ : ∀ c a w, Q (.panic c) (a.put oi.dst v) w → Q (.panic c) a w := by exact fun _ _ _ h => h)
    (he : a.eval X = .pointer (some A) := by kernel_rfl) : wpAnyH Tryz.prog .any ops Q S (fuel + 1) listed a w := tU i hi hop h4 hQ he hc hS h
theorem tA {P : Program} {ops : Array Oper} {Q : Exit → Act → World → Prop} {S : World → Prop} (i : Nat) {fuel : Nat} {listed : Array Bool} {a : Act} {w : World} (hr : Region.ready .any ops listed = [i])
    (h : wpOp P ops Q i (fun a' w' => S w' ∧ wpAnyH P .any ops Q S fuel (listed.setIfInBounds i true) a' w') a w) : wpAnyH P .any ops Q S (fuel + 1) listed a w :=
  wpAnyH_all hr (by simp) fun j hj => by
    obtain rfl : j = i := by simpa using hj
    exact h
/-- All blocks but those of L are as they were. -/
structure Offs (L : List Nat) (w w' : World) : Prop where
  os : w'.os = w.os
  tape : w'.tape = w.tape
  output : w'.output = w.output
  size : w.heap.size ≤ w'.heap.size
  block : ∀ k, k < w.heap.size → k ∉ L → w'.heap[k]? = w.heap[k]?
theorem Offs.refl (L : List Nat) (w : World) : Offs L w w := ⟨rfl, rfl, rfl, Nat.le_refl _, fun _ _ _ => rfl⟩
theorem Offs.trans {L : List Nat} {a b c : World} (h : Offs L a b) (k : Offs L b c) : Offs L a c :=
  ⟨k.os.trans h.os, k.tape.trans h.tape, k.output.trans h.output, Nat.le_trans h.size k.size, fun i hi hL => (k.block i (Nat.lt_of_lt_of_le hi h.size) hL).trans (h.block i hi hL)⟩
theorem Offs.mono {L L' : List Nat} {a b : World} (h : Offs L a b) (hL : ∀ k, k ∈ L → k ∈ L') : Offs L' a b := ⟨h.os, h.tape, h.output, h.size, fun k hk hn => h.block k hk fun e => hn (hL k e)⟩
theorem Offs.of_below {L : List Nat} {a b : World} (h : Below a.heap.size a b) : Offs L a b := ⟨h.os, h.tape, h.output, h.size, fun k hk _ => h.block k hk⟩
theorem Offs.drawn {L : List Nat} {a b : World} (h : Offs L a b) (q : Nat) : Offs L a (b.drewN q) := ⟨h.os, h.tape, h.output, h.size, h.block⟩
theorem Offs.put {L : List Nat} {a b : World} (h : Offs L a b) {p : Addr} (hp : p.block ∈ L) (u : Value) : Offs L a (b.setCell p u) :=
  h.trans ⟨rfl, rfl, rfl, by simp [World.setCell], fun k _ hL => Below.heap_setCell _ _ _ _ (fun e => hL (e ▸ hp))⟩
theorem Offs.new {L : List Nat} {a b : World} (h : Offs L a b) (o : Obj) : Offs L a (b.alloc o) :=
  h.trans (Offs.of_below ((Below.refl _ _).alloc (Nat.le_refl _) o))
theorem Offs.below {L : List Nat} {a b : World} {B : Nat} (h : Offs L a b) (hL : ∀ k, k ∈ L → B ≤ k) (hB : B ≤ a.heap.size) : Below B a b :=
  ⟨h.os, h.tape, h.output, h.size, fun k hk => h.block k (by omega) fun e => by have := hL k e; omega⟩
theorem row_keep {W W' : World} {g cap : Nat} {xs : List Int} (h : RowAt W g cap xs) (e : W'.heap[g]? = W.heap[g]?) : RowAt W' g cap xs := by
  obtain ⟨cur, h1, r⟩ := h
  exact ⟨cur, e.trans h1, r⟩
theorem heap_set_same (W : World) (g i : Nat) (v : Value) (cur : Array Value) (t : TypeId) (f : Nat × Nat) (h : W.heap[g]? = some (.cells cur t f)) : (W.setCell ⟨g, i, none⟩ v).heap[g]? = some (.cells (cur.setIfInBounds i v) t f) := by
  simp [World.setCell, Array.getElem?_modify, h]
theorem RowAt.put {W : World} {g cap : Nat} {xs : List Int} (h : RowAt W g cap xs) (i : Nat) (v : Int) : RowAt (W.setCell ⟨g, i, none⟩ (.int .u32 v)) g cap (xs.set i v) := by
  obtain ⟨cur, h1, h2, h3, h4, h5⟩ := h
  refine ⟨_, heap_set_same W g i _ cur _ _ h1, by simp [h2], by simpa using h3, h4, ?_⟩
  rw [Array.toList_setIfInBounds, List.length_set, List.take_set, h5, List.map_set]
end Go.Proofs.YteiideeechnekaaGreatDoor
