/-
  A region in which five makes come in whatever order.
-/
import Derived.Test.YteiideeechnekaaCode
import Derived.RegionTactic
namespace Go.Proofs.Yteiideeechnekaa
open Go.RowKit

def sl (l : Bool) (b k : Nat) : Value := match l with | true => .slice (some ⟨b, 0, none⟩) k k | false => undef
def cnt (b : Bool) : Nat := match b with | true => 0 | false => 1

theorem makes5 {P : Program} {ops : Array Oper} {Q : Exit → Act → World → Prop} (I : Bool → Bool → Bool → Bool → Bool → Act → World → Prop)
    (hr : ∀ l0 l2 l3 l4 l5, (l0 && l2 && l3 && l4 && l5) = false → Region.ready .any ops #[l0, true, l2, l3, l4, l5, false, false, false] = (if l0 then [] else [0]) ++ (if l2 then [] else [2]) ++ (if l3 then [] else [3]) ++ (if l4 then [] else [4]) ++ (if l5 then [] else [5]))
    (s0 : ∀ l2 l3 l4 l5 a w (K' : Act → World → Prop), I false l2 l3 l4 l5 a w → (∀ a' w', I true l2 l3 l4 l5 a' w' → K' a' w') → wpOp P ops Q 0 K' a w)
    (s2 : ∀ l0 l3 l4 l5 a w (K' : Act → World → Prop), I l0 false l3 l4 l5 a w → (∀ a' w', I l0 true l3 l4 l5 a' w' → K' a' w') → wpOp P ops Q 2 K' a w)
    (s3 : ∀ l0 l2 l4 l5 a w (K' : Act → World → Prop), I l0 l2 false l4 l5 a w → (∀ a' w', I l0 l2 true l4 l5 a' w' → K' a' w') → wpOp P ops Q 3 K' a w)
    (s4 : ∀ l0 l2 l3 l5 a w (K' : Act → World → Prop), I l0 l2 l3 false l5 a w → (∀ a' w', I l0 l2 l3 true l5 a' w' → K' a' w') → wpOp P ops Q 4 K' a w)
    (s5 : ∀ l0 l2 l3 l4 a w (K' : Act → World → Prop), I l0 l2 l3 l4 false a w → (∀ a' w', I l0 l2 l3 l4 true a' w' → K' a' w') → wpOp P ops Q 5 K' a w)
    (fin : ∀ a w, I true true true true true a w → wpAny P .any ops Q 3 #[true, true, true, true, true, true, false, false, false] a w) :
    ∀ (k : Nat) (l0 l2 l3 l4 l5 : Bool) (a : Act) (w : World), cnt l0 + cnt l2 + cnt l3 + cnt l4 + cnt l5 = k → I l0 l2 l3 l4 l5 a w → wpAny P .any ops Q (k + 3) #[l0, true, l2, l3, l4, l5, false, false, false] a w := by
  intro k
  induction k with
  | zero =>
    intro l0 l2 l3 l4 l5 a w hk h
    have e : l0 = true ∧ l2 = true ∧ l3 = true ∧ l4 = true ∧ l5 = true := by
      cases l0 <;> cases l2 <;> cases l3 <;> cases l4 <;> cases l5 <;> simp [cnt] at hk ⊢
    obtain ⟨rfl, rfl, rfl, rfl, rfl⟩ := e
    exact fin a w h
  | succ k ih =>
    intro l0 l2 l3 l4 l5 a w hk h
    have hf : (l0 && l2 && l3 && l4 && l5) = false := by
      cases l0 <;> cases l2 <;> cases l3 <;> cases l4 <;> cases l5 <;> simp [cnt] at hk ⊢
    have hre := hr l0 l2 l3 l4 l5 hf
    refine wpAny_all (fuel := k + 3) hre (by cases l0 <;> cases l2 <;> cases l3 <;> cases l4 <;> cases l5 <;> simp at hf ⊢) fun i hi => ?_
    have hi' : (l0 = false ∧ i = 0) ∨ (l2 = false ∧ i = 2) ∨ (l3 = false ∧ i = 3) ∨ (l4 = false ∧ i = 4) ∨ (l5 = false ∧ i = 5) := by
      cases l0 <;> cases l2 <;> cases l3 <;> cases l4 <;> cases l5 <;> simp at hi ⊢ <;> exact hi
    rcases hi' with ⟨e, rfl⟩ | ⟨e, rfl⟩ | ⟨e, rfl⟩ | ⟨e, rfl⟩ | ⟨e, rfl⟩
    · obtain rfl : l0 = false := e
      exact s0 l2 l3 l4 l5 a w _ h fun a' w' h' => ih true l2 l3 l4 l5 a' w' (by cases l2 <;> cases l3 <;> cases l4 <;> cases l5 <;> simp [cnt] at hk ⊢ <;> omega) h'
    · obtain rfl : l2 = false := e
      exact s2 l0 l3 l4 l5 a w _ h fun a' w' h' => ih l0 true l3 l4 l5 a' w' (by cases l0 <;> cases l3 <;> cases l4 <;> cases l5 <;> simp [cnt] at hk ⊢ <;> omega) h'
    · obtain rfl : l3 = false := e
      exact s3 l0 l2 l4 l5 a w _ h fun a' w' h' => ih l0 l2 true l4 l5 a' w' (by cases l0 <;> cases l2 <;> cases l4 <;> cases l5 <;> simp [cnt] at hk ⊢ <;> omega) h'
    · obtain rfl : l4 = false := e
      exact s4 l0 l2 l3 l5 a w _ h fun a' w' h' => ih l0 l2 l3 true l5 a' w' (by cases l0 <;> cases l2 <;> cases l3 <;> cases l5 <;> simp [cnt] at hk ⊢ <;> omega) h'
    · obtain rfl : l5 = false := e
      exact s5 l0 l2 l3 l4 a w _ h fun a' w' h' => ih l0 l2 l3 l4 true a' w' (by cases l0 <;> cases l2 <;> cases l3 <;> cases l4 <;> simp [cnt] at hk ⊢ <;> omega) h'

structure Inv5 (W : World) (C0 C1 C2 C3 C4 : Array Value) (t0 t1 t2 t3 t4 : TypeId) (w : World) (m0 m1 m2 m3 m4 : Bool) (b0 b1 b2 b3 b4 : Nat) : Prop where
  bel : Below W.heap.size W w
  a0 : m0 = true → W.heap.size ≤ b0 ∧ b0 < w.heap.size ∧ w.heap[b0]? = some (.cells C0 t0 (0, 0))
  a1 : m1 = true → W.heap.size ≤ b1 ∧ b1 < w.heap.size ∧ w.heap[b1]? = some (.cells C1 t1 (0, 0))
  a2 : m2 = true → W.heap.size ≤ b2 ∧ b2 < w.heap.size ∧ w.heap[b2]? = some (.cells C2 t2 (0, 0))
  a3 : m3 = true → W.heap.size ≤ b3 ∧ b3 < w.heap.size ∧ w.heap[b3]? = some (.cells C3 t3 (0, 0))
  a4 : m4 = true → W.heap.size ≤ b4 ∧ b4 < w.heap.size ∧ w.heap[b4]? = some (.cells C4 t4 (0, 0))
  p01 : m0 = true → m1 = true → b0 ≠ b1
  p02 : m0 = true → m2 = true → b0 ≠ b2
  p03 : m0 = true → m3 = true → b0 ≠ b3
  p04 : m0 = true → m4 = true → b0 ≠ b4
  p12 : m1 = true → m2 = true → b1 ≠ b2
  p13 : m1 = true → m3 = true → b1 ≠ b3
  p14 : m1 = true → m4 = true → b1 ≠ b4
  p23 : m2 = true → m3 = true → b2 ≠ b3
  p24 : m2 = true → m4 = true → b2 ≠ b4
  p34 : m3 = true → m4 = true → b3 ≠ b4

theorem Inv5.step0 {W : World} {C0 C1 C2 C3 C4 : Array Value} {t0 t1 t2 t3 t4 : TypeId} {w : World} {m1 m2 m3 m4 : Bool} {b0 b1 b2 b3 b4 : Nat} (h : Inv5 W C0 C1 C2 C3 C4 t0 t1 t2 t3 t4 w false m1 m2 m3 m4 b0 b1 b2 b3 b4) : Inv5 W C0 C1 C2 C3 C4 t0 t1 t2 t3 t4 (w.alloc (.cells C0 t0)) true m1 m2 m3 m4 w.heap.size b1 b2 b3 b4 :=
  ⟨h.bel.alloc h.bel.size _, fun _ => ⟨h.bel.size, by simp, heap_alloc_new w _⟩, fun e => ⟨(h.a1 e).1, by have := (h.a1 e).2.1; simp; omega, (heap_alloc_old w _ (h.a1 e).2.1).trans (h.a1 e).2.2⟩, fun e => ⟨(h.a2 e).1, by have := (h.a2 e).2.1; simp; omega, (heap_alloc_old w _ (h.a2 e).2.1).trans (h.a2 e).2.2⟩, fun e => ⟨(h.a3 e).1, by have := (h.a3 e).2.1; simp; omega, (heap_alloc_old w _ (h.a3 e).2.1).trans (h.a3 e).2.2⟩, fun e => ⟨(h.a4 e).1, by have := (h.a4 e).2.1; simp; omega, (heap_alloc_old w _ (h.a4 e).2.1).trans (h.a4 e).2.2⟩, fun _ e => Nat.ne_of_gt (h.a1 e).2.1, fun _ e => Nat.ne_of_gt (h.a2 e).2.1, fun _ e => Nat.ne_of_gt (h.a3 e).2.1, fun _ e => Nat.ne_of_gt (h.a4 e).2.1, h.p12, h.p13, h.p14, h.p23, h.p24, h.p34⟩
theorem Inv5.step1 {W : World} {C0 C1 C2 C3 C4 : Array Value} {t0 t1 t2 t3 t4 : TypeId} {w : World} {m0 m2 m3 m4 : Bool} {b0 b1 b2 b3 b4 : Nat} (h : Inv5 W C0 C1 C2 C3 C4 t0 t1 t2 t3 t4 w m0 false m2 m3 m4 b0 b1 b2 b3 b4) : Inv5 W C0 C1 C2 C3 C4 t0 t1 t2 t3 t4 (w.alloc (.cells C1 t1)) m0 true m2 m3 m4 b0 w.heap.size b2 b3 b4 :=
  ⟨h.bel.alloc h.bel.size _, fun e => ⟨(h.a0 e).1, by have := (h.a0 e).2.1; simp; omega, (heap_alloc_old w _ (h.a0 e).2.1).trans (h.a0 e).2.2⟩, fun _ => ⟨h.bel.size, by simp, heap_alloc_new w _⟩, fun e => ⟨(h.a2 e).1, by have := (h.a2 e).2.1; simp; omega, (heap_alloc_old w _ (h.a2 e).2.1).trans (h.a2 e).2.2⟩, fun e => ⟨(h.a3 e).1, by have := (h.a3 e).2.1; simp; omega, (heap_alloc_old w _ (h.a3 e).2.1).trans (h.a3 e).2.2⟩, fun e => ⟨(h.a4 e).1, by have := (h.a4 e).2.1; simp; omega, (heap_alloc_old w _ (h.a4 e).2.1).trans (h.a4 e).2.2⟩, fun e _ => Nat.ne_of_lt (h.a0 e).2.1, h.p02, h.p03, h.p04, fun _ e => Nat.ne_of_gt (h.a2 e).2.1, fun _ e => Nat.ne_of_gt (h.a3 e).2.1, fun _ e => Nat.ne_of_gt (h.a4 e).2.1, h.p23, h.p24, h.p34⟩
theorem Inv5.step2 {W : World} {C0 C1 C2 C3 C4 : Array Value} {t0 t1 t2 t3 t4 : TypeId} {w : World} {m0 m1 m3 m4 : Bool} {b0 b1 b2 b3 b4 : Nat} (h : Inv5 W C0 C1 C2 C3 C4 t0 t1 t2 t3 t4 w m0 m1 false m3 m4 b0 b1 b2 b3 b4) : Inv5 W C0 C1 C2 C3 C4 t0 t1 t2 t3 t4 (w.alloc (.cells C2 t2)) m0 m1 true m3 m4 b0 b1 w.heap.size b3 b4 :=
  ⟨h.bel.alloc h.bel.size _, fun e => ⟨(h.a0 e).1, by have := (h.a0 e).2.1; simp; omega, (heap_alloc_old w _ (h.a0 e).2.1).trans (h.a0 e).2.2⟩, fun e => ⟨(h.a1 e).1, by have := (h.a1 e).2.1; simp; omega, (heap_alloc_old w _ (h.a1 e).2.1).trans (h.a1 e).2.2⟩, fun _ => ⟨h.bel.size, by simp, heap_alloc_new w _⟩, fun e => ⟨(h.a3 e).1, by have := (h.a3 e).2.1; simp; omega, (heap_alloc_old w _ (h.a3 e).2.1).trans (h.a3 e).2.2⟩, fun e => ⟨(h.a4 e).1, by have := (h.a4 e).2.1; simp; omega, (heap_alloc_old w _ (h.a4 e).2.1).trans (h.a4 e).2.2⟩, h.p01, fun e _ => Nat.ne_of_lt (h.a0 e).2.1, h.p03, h.p04, fun e _ => Nat.ne_of_lt (h.a1 e).2.1, h.p13, h.p14, fun _ e => Nat.ne_of_gt (h.a3 e).2.1, fun _ e => Nat.ne_of_gt (h.a4 e).2.1, h.p34⟩
theorem Inv5.step3 {W : World} {C0 C1 C2 C3 C4 : Array Value} {t0 t1 t2 t3 t4 : TypeId} {w : World} {m0 m1 m2 m4 : Bool} {b0 b1 b2 b3 b4 : Nat} (h : Inv5 W C0 C1 C2 C3 C4 t0 t1 t2 t3 t4 w m0 m1 m2 false m4 b0 b1 b2 b3 b4) : Inv5 W C0 C1 C2 C3 C4 t0 t1 t2 t3 t4 (w.alloc (.cells C3 t3)) m0 m1 m2 true m4 b0 b1 b2 w.heap.size b4 :=
  ⟨h.bel.alloc h.bel.size _, fun e => ⟨(h.a0 e).1, by have := (h.a0 e).2.1; simp; omega, (heap_alloc_old w _ (h.a0 e).2.1).trans (h.a0 e).2.2⟩, fun e => ⟨(h.a1 e).1, by have := (h.a1 e).2.1; simp; omega, (heap_alloc_old w _ (h.a1 e).2.1).trans (h.a1 e).2.2⟩, fun e => ⟨(h.a2 e).1, by have := (h.a2 e).2.1; simp; omega, (heap_alloc_old w _ (h.a2 e).2.1).trans (h.a2 e).2.2⟩, fun _ => ⟨h.bel.size, by simp, heap_alloc_new w _⟩, fun e => ⟨(h.a4 e).1, by have := (h.a4 e).2.1; simp; omega, (heap_alloc_old w _ (h.a4 e).2.1).trans (h.a4 e).2.2⟩, h.p01, h.p02, fun e _ => Nat.ne_of_lt (h.a0 e).2.1, h.p04, h.p12, fun e _ => Nat.ne_of_lt (h.a1 e).2.1, h.p14, fun e _ => Nat.ne_of_lt (h.a2 e).2.1, h.p24, fun _ e => Nat.ne_of_gt (h.a4 e).2.1⟩
theorem Inv5.step4 {W : World} {C0 C1 C2 C3 C4 : Array Value} {t0 t1 t2 t3 t4 : TypeId} {w : World} {m0 m1 m2 m3 : Bool} {b0 b1 b2 b3 b4 : Nat} (h : Inv5 W C0 C1 C2 C3 C4 t0 t1 t2 t3 t4 w m0 m1 m2 m3 false b0 b1 b2 b3 b4) : Inv5 W C0 C1 C2 C3 C4 t0 t1 t2 t3 t4 (w.alloc (.cells C4 t4)) m0 m1 m2 m3 true b0 b1 b2 b3 w.heap.size :=
  ⟨h.bel.alloc h.bel.size _, fun e => ⟨(h.a0 e).1, by have := (h.a0 e).2.1; simp; omega, (heap_alloc_old w _ (h.a0 e).2.1).trans (h.a0 e).2.2⟩, fun e => ⟨(h.a1 e).1, by have := (h.a1 e).2.1; simp; omega, (heap_alloc_old w _ (h.a1 e).2.1).trans (h.a1 e).2.2⟩, fun e => ⟨(h.a2 e).1, by have := (h.a2 e).2.1; simp; omega, (heap_alloc_old w _ (h.a2 e).2.1).trans (h.a2 e).2.2⟩, fun e => ⟨(h.a3 e).1, by have := (h.a3 e).2.1; simp; omega, (heap_alloc_old w _ (h.a3 e).2.1).trans (h.a3 e).2.2⟩, fun _ => ⟨h.bel.size, by simp, heap_alloc_new w _⟩, h.p01, h.p02, h.p03, fun e _ => Nat.ne_of_lt (h.a0 e).2.1, h.p12, h.p13, fun e _ => Nat.ne_of_lt (h.a1 e).2.1, h.p23, fun e _ => Nat.ne_of_lt (h.a2 e).2.1, fun e _ => Nat.ne_of_lt (h.a3 e).2.1⟩

end Go.Proofs.Yteiideeechnekaa
