/-
  The code's computer between the steps of a script; two looks at it in their boxes; what first tells.
-/
import Derived.Test.YteiideeechnekabGreatDoorKeepMade
import Derived.Test.YteiideeechnekabGreatDoorKeepFirst
import Derived.Test.YteiideeechnekabGreatDoorKeepStep
namespace Go.Proofs.YteiideeechnekabGreatDoor
open Go.RowKit

def newR (n : Nat) (img : ByteArray) : RSt :=
  { x := List.replicate 32 0, ram := ramOf n img, src := List.replicate 8 ⟨false, false, false, 0⟩, enable := List.replicate 2 0, limit := List.replicate 2 0, pc := 0, mode := 3, asleep := false, sie := false, mieb := false, spie := false, mpie := false, spp := 0, mpp := 0, tw := false, tsr := false, medeleg := 0, mideleg := 0, mie := 0, soft := 0, mtvec := 0, stvec := 0, mscratch := 0, sscratch := 0, mepc := 0, sepc := 0, mcause := 0, scause := 0, mtval := 0, stval := 0, msip := 0, mtimecmp := 4294967295, mtime := 0, traps := 0, system := 0, device := 0 }
theorem look_of_new (n : Nat) (img : ByteArray) : newC n img = cOf (newR n img) := by kernel_rfl
theorem gd_new (n : Nat) (img : ByteArray) (h4 : 4 ≤ n) (hi : img.size ≤ n) (hb : Byt (ramOf n img)) : Gd (newR n img) :=
  { z := rfl, x := (fun i => by show 0 ≤ (List.replicate 32 (0 : Int))[i]?.getD 0 ∧ (List.replicate 32 (0 : Int))[i]?.getD 0 < 4294967296; rw [List.getElem?_replicate]; split <;> decide), pc := W32.lit (n := 0) (by decide), p4 := rfl, n4 := (by show 4 ≤ (ramOf n img).length; rw [ramOf_len n img hi]; exact h4), b := hb, mode := .inr (.inr rfl), spp := .inl rfl, mpp := .inl rfl, medeleg := W32.lit (n := 0) (by decide), mideleg := W32.lit (n := 0) (by decide), mie := W32.lit (n := 0) (by decide), soft := W32.lit (n := 0) (by decide), stvec := W32.lit (n := 0) (by decide), sscratch := W32.lit (n := 0) (by decide), sepc := W32.lit (n := 0) (by decide), scause := W32.lit (n := 0) (by decide), stval := W32.lit (n := 0) (by decide), mtvec := W32.lit (n := 0) (by decide), mscratch := W32.lit (n := 0) (by decide), mepc := W32.lit (n := 0) (by decide), mcause := W32.lit (n := 0) (by decide), mtval := W32.lit (n := 0) (by decide), s4 := rfl, m4 := rfl, mb := (fun i hi => absurd hi (by show ¬ isB 0 i = true; rw [isB_zero]; decide)), db := (fun i hi => absurd hi (by show ¬ isB 0 i = true; rw [isB_zero]; decide)), dv := ⟨rfl, rfl, rfl, .inl rfl, W32.lit (n := 0) (by decide), W32.lit (n := 0) (by decide), W32.lit (n := 0) (by decide), W32.lit (n := 0) (by decide), W32.lit (n := 4294967295) (by decide), W32.lit (n := 0) (by decide), fun i => by show W32 (((List.replicate 8 (⟨false, false, false, 0⟩ : Srce))[i]?).getD ⟨false, false, false, 0⟩).prio; rw [List.getElem?_replicate]; split <;> exact W32.lit (n := 0) (by decide), rfl⟩ }
structure KI (W w : World) (x r : Nat) (s : RSt) : Prop where
  c : CodeAt w x r (cOf s)
  g : Gd s
  ne : x ≠ r
  wx : W.heap.size ≤ x
  wr : W.heap.size ≤ r
  bel : Below W.heap.size W w
theorem KI.below {W w w' : World} {x r : Nat} {s : RSt} (h : KI W w x r s) (hb : Below w.heap.size w w') : KI W w' x r s :=
  { h with c := h.c.below hb h.c.lt.1 h.c.lt.2, bel := h.bel.trans (hb.mono h.bel.size) }
theorem KI.new {W w : World} {x r : Nat} {s : RSt} (h : KI W w x r s) (o : Obj) : KI W (w.alloc o) x r s := h.below ((Below.refl _ _).alloc (Nat.le_refl _) o)
theorem KI.offs {W w w' : World} {x r : Nat} {s s' : RSt} (h : KI W w x r s) (hc : CodeAt w' x r (cOf s')) (g : Gd s') (o : Offs [x, r] w w') : KI W w' x r s' :=
  { h with c := hc, g := g, bel := h.bel.trans (o.below (fun k hk => by have := h.wx; have := h.wr; simp at hk; rcases hk with rfl | rfl <;> omega) h.bel.size) }
theorem KI.of_new {W w : World} {x r n : Nat} {im : ByteArray} (K : KNew W w x r n im) : KI W w x r (newR n im) := by
  have c := K.c
  have hby : Byt (ramOf n im) := c.bytes.2.2
  rw [look_of_new] at c
  exact ⟨c, gd_new n im K.n4 K.im hby, K.ne, K.wx, K.wr, K.bel⟩
theorem KI.call {W w : World} {x r : Nat} {s : RSt} (h : KI W w x r s) (k a b : Int) (v : Nat) (hv : v < 4294967296) :
    Calls Tryz.prog 5 #[.pointer (some ⟨x, 0, none⟩), .agg #[.int .i64 k, .int .i64 a, .int .i64 b, .int .u32 v]] w fun e W' => e = .returned (.tuple #[]) ∧ ∃ s', KI W W' x r s' ∧ Core s s' ∧ Offs [x, r] w W' := by
  refine (kcall_any w x r s h.c h.ne h.g k a b v hv).mono ?_
  rintro e w1 ⟨rfl, s', hc, g, co, o⟩
  exact ⟨rfl, s', h.offs hc g o, co, o⟩
theorem KI.step {W w : World} {x r : Nat} {s s' : RSt} (h : KI W w x r s) (T : D.Tabs W) (T9 : T19 W) (g : Gd s') (st : CStep (cOf s) (cOf s')) :
    Calls Tryz.prog 7 #[.pointer (some ⟨x, 0, none⟩)] w fun e W' => e = .returned (.tuple #[]) ∧ KI W W' x r s' ∧ Offs [x, r] w W' := by
  refine (st w x r h.c h.ne (T.below T.size h.bel) (T9.below h.bel)).mono ?_
  rintro e w1 ⟨rfl, hc, o⟩
  exact ⟨rfl, h.offs hc g o, o⟩
theorem KI.full {W w : World} {x r : Nat} {s : RSt} (h : KI W w x r s) : LFull (lookC (cOf s)) := full_look h.c
theorem KI.look {W w : World} {x r : Nat} {s : RSt} (h : KI W w x r s) (L : LSt) (hL : lookC (cOf s) = L) :
    Calls Tryz.prog 6 #[.pointer (some ⟨x, 0, none⟩)] w fun e W'' => ∃ p : Pl, e = .returned (.agg #[.slice (some ⟨p.r, 0, none⟩) L.regs.length p.cr, .int .u32 L.pc, .int .i64 L.mode, .bool L.asleep, .slice (some ⟨p.c, 0, none⟩) L.csrs.length p.cc, .string L.ram, .slice (some ⟨p.k, 0, none⟩) L.clock.length p.ck, .slice (some ⟨p.p, 0, none⟩) L.prio.length p.cp, .int .u32 L.pend, .int .u32 L.served, .int .u32 L.level, .slice (some ⟨p.e, 0, none⟩) L.enable.length p.ce, .slice (some ⟨p.l, 0, none⟩) L.limit.length p.cl]) ∧ StAt W'' p L ∧ p.Apart w.heap.size ∧ KI W W'' x r s ∧ Below w.heap.size w W'' := by
  have := look_any w x r _ h.c
  rw [hL] at this
  refine this.mono ?_
  rintro e w1 ⟨p, rfl, st, ap, hb⟩
  exact ⟨p, rfl, st, ap, h.below hb, hb⟩
structure K1 (W w : World) (x r g1 : Nat) (p1 : Pl) (L : LSt) (s : RSt) : Prop where
  k : KI W w x r s
  b1 : B13 w g1 p1 L
  a1 : StAt w p1 L
structure K2 (W w : World) (x r g1 g2 : Nat) (p1 p2 : Pl) (L L' : LSt) (s : RSt) : Prop where
  k : KI W w x r s
  b1 : B13 w g1 p1 L
  b2 : B13 w g2 p2 L'
  a1 : StAt w p1 L
  a2 : StAt w p2 L'
theorem K1.below {W w w' : World} {x r g1 : Nat} {p1 : Pl} {L : LSt} {s : RSt} (h : K1 W w x r g1 p1 L s) (hb : Below w.heap.size w w') : K1 W w' x r g1 p1 L s := ⟨h.k.below hb, h.b1.below hb, h.a1.below hb⟩
theorem K2.below {W w w' : World} {x r g1 g2 : Nat} {p1 p2 : Pl} {L L' : LSt} {s : RSt} (h : K2 W w x r g1 g2 p1 p2 L L' s) (hb : Below w.heap.size w w') : K2 W w' x r g1 g2 p1 p2 L L' s :=
  ⟨h.k.below hb, h.b1.below hb, h.b2.below hb, h.a1.below hb, h.a2.below hb⟩
/-- The first look in its box, behind the step. -/
theorem K1.step {W w w' : World} {x r : Nat} {p1 : Pl} {L : LSt} {s' : RSt} {B : Nat} (st : StAt w p1 L) (ap : p1.Apart B) (hB : x < B ∧ r < B ∧ B ≤ w.heap.size) (k : KI W w' x r s') (o : Offs [x, r] (w.alloc (.cells #[.slice (some ⟨p1.r, 0, none⟩) L.regs.length p1.cr, .int .u32 L.pc, .int .i64 L.mode, .bool L.asleep, .slice (some ⟨p1.c, 0, none⟩) L.csrs.length p1.cc, .string L.ram, .slice (some ⟨p1.k, 0, none⟩) L.clock.length p1.ck, .slice (some ⟨p1.p, 0, none⟩) L.prio.length p1.cp, .int .u32 L.pend, .int .u32 L.served, .int .u32 L.level, .slice (some ⟨p1.e, 0, none⟩) L.enable.length p1.ce, .slice (some ⟨p1.l, 0, none⟩) L.limit.length p1.cl] 31)) w') : K1 W w' x r w.heap.size p1 L s' := by
  have bb := (Below.refl w.heap.size w).alloc (Nat.le_refl _) (.cells #[.slice (some ⟨p1.r, 0, none⟩) L.regs.length p1.cr, .int .u32 L.pc, .int .i64 L.mode, .bool L.asleep, .slice (some ⟨p1.c, 0, none⟩) L.csrs.length p1.cc, .string L.ram, .slice (some ⟨p1.k, 0, none⟩) L.clock.length p1.ck, .slice (some ⟨p1.p, 0, none⟩) L.prio.length p1.cp, .int .u32 L.pend, .int .u32 L.served, .int .u32 L.level, .slice (some ⟨p1.e, 0, none⟩) L.enable.length p1.ce, .slice (some ⟨p1.l, 0, none⟩) L.limit.length p1.cl] 31)
  have lt := st.lt
  have ab := ap.b
  refine ⟨k, (B13.new w p1 L).of (o.block _ (by simp) fun e => ?_), (st.below bb).of fun g hg => o.block g ?_ fun e => ?_⟩
  · simp at e
    omega
  · simp
    omega
  · simp at e
    omega
theorem K1.box {W w : World} {x r : Nat} {p1 : Pl} {L : LSt} {s : RSt} (h : KI W w x r s) (st : StAt w p1 L) : K1 W (w.alloc (.cells #[.slice (some ⟨p1.r, 0, none⟩) L.regs.length p1.cr, .int .u32 L.pc, .int .i64 L.mode, .bool L.asleep, .slice (some ⟨p1.c, 0, none⟩) L.csrs.length p1.cc, .string L.ram, .slice (some ⟨p1.k, 0, none⟩) L.clock.length p1.ck, .slice (some ⟨p1.p, 0, none⟩) L.prio.length p1.cp, .int .u32 L.pend, .int .u32 L.served, .int .u32 L.level, .slice (some ⟨p1.e, 0, none⟩) L.enable.length p1.ce, .slice (some ⟨p1.l, 0, none⟩) L.limit.length p1.cl] 31)) x r w.heap.size p1 L s :=
  ⟨h.new _, B13.new w p1 L, st.below ((Below.refl w.heap.size w).alloc (Nat.le_refl _) _)⟩
theorem K1.two {W w w' : World} {x r g1 : Nat} {p1 p2 : Pl} {L L' : LSt} {s : RSt} (h : K1 W w x r g1 p1 L s) (k : KI W w' x r s) (st : StAt w' p2 L') (hb : Below w.heap.size w w') : K2 W (w'.alloc (.cells #[.slice (some ⟨p2.r, 0, none⟩) L'.regs.length p2.cr, .int .u32 L'.pc, .int .i64 L'.mode, .bool L'.asleep, .slice (some ⟨p2.c, 0, none⟩) L'.csrs.length p2.cc, .string L'.ram, .slice (some ⟨p2.k, 0, none⟩) L'.clock.length p2.ck, .slice (some ⟨p2.p, 0, none⟩) L'.prio.length p2.cp, .int .u32 L'.pend, .int .u32 L'.served, .int .u32 L'.level, .slice (some ⟨p2.e, 0, none⟩) L'.enable.length p2.ce, .slice (some ⟨p2.l, 0, none⟩) L'.limit.length p2.cl] 31)) x r g1 w'.heap.size p1 p2 L L' s := by
  have bb := (Below.refl w'.heap.size w').alloc (Nat.le_refl _) (.cells #[.slice (some ⟨p2.r, 0, none⟩) L'.regs.length p2.cr, .int .u32 L'.pc, .int .i64 L'.mode, .bool L'.asleep, .slice (some ⟨p2.c, 0, none⟩) L'.csrs.length p2.cc, .string L'.ram, .slice (some ⟨p2.k, 0, none⟩) L'.clock.length p2.ck, .slice (some ⟨p2.p, 0, none⟩) L'.prio.length p2.cp, .int .u32 L'.pend, .int .u32 L'.served, .int .u32 L'.level, .slice (some ⟨p2.e, 0, none⟩) L'.enable.length p2.ce, .slice (some ⟨p2.l, 0, none⟩) L'.limit.length p2.cl] 31)
  exact ⟨k.new _, (h.b1.below hb).below bb, B13.new w' p2 L', (h.a1.below hb).below bb, st.below bb⟩

-- first is chosenR
theorem want_en {s : RSt} (h : Gd s) (i : Nat) : wantL (lookC (cOf s)) i = enB s i := by
  obtain ⟨_, _, e3, e1⟩ := h.enb
  show (isB (mipC (cOf s)) i && isB s.mie i && (if isB s.mideleg i then (s.mode == 0 || (s.mode == 1 && isB (msV s) 1)) else (s.mode != 3 || isB (msV s) 3))) = enB s i
  rw [e3, e1, mip_dok h.dv h.soft]
  unfold enB
  cases isB (mipR s) i <;> cases isB s.mie i <;> cases isB s.mideleg i <;> rcases h.mode with e | e | e <;> simp [e]
def bestF (f : Nat → Bool) : Nat → Int
  | 0 => -1
  | k + 1 => if f (ordF.getD k 0) then ((ordF.getD k 0 : Nat) : Int) else bestF f k
theorem bestF_is (f : Nat → Bool) (k : Nat) : bestF f k = -1 ∨ ∃ n : Nat, bestF f k = n ∧ f n = true := by
  induction k with
  | zero => exact .inl rfl
  | succ k ih =>
    unfold bestF
    by_cases h : f (ordF.getD k 0) = true
    · rw [if_pos h]; exact .inr ⟨_, rfl, h⟩
    · rw [if_neg h]; exact ih
theorem first_best (L : LSt) (k : Nat) : firstT L k = if 0 ≤ bestF (fun i => wantL L i && !isB (L.csrs.getD 10 0) i) k then bestF (fun i => wantL L i && !isB (L.csrs.getD 10 0) i) k else bestF (fun i => wantL L i && isB (L.csrs.getD 10 0) i) k := by
  induction k with
  | zero => rfl
  | succ k ih =>
    have hM := bestF_is (fun i => wantL L i && !isB (L.csrs.getD 10 0) i) k
    have hS := bestF_is (fun i => wantL L i && isB (L.csrs.getD 10 0) i) k
    unfold firstT bestF
    rw [ih]
    generalize bestF (fun i => wantL L i && !isB (L.csrs.getD 10 0) i) k = M at hM
    generalize bestF (fun i => wantL L i && isB (L.csrs.getD 10 0) i) k = Z at hS
    generalize ordF.getD k 0 = i
    unfold pickF
    generalize L.csrs.getD 10 0 = v at hM hS ⊢
    cases hw : wantL L i
    · simp
    · cases hd : isB v i
      · simp
      · rcases hM with rfl | ⟨m, rfl, hm⟩
        · rcases hS with rfl | ⟨z, rfl, hz⟩
          · simp
          · simp only [Bool.and_eq_true] at hz
            have : ¬ ((z : Int) < 0) := by omega
            simp [hz.2, this]
        · simp only [Bool.and_eq_true, Bool.not_eq_true'] at hm
          have : ¬ ((m : Int) < 0) := by omega
          simp [hm.2, this]
theorem bestF_congr (f g : Nat → Bool) (h : ∀ i, f i = g i) (k : Nat) : bestF f k = bestF g k := by
  have : f = g := funext h
  rw [this]
theorem best_chos (s : RSt) (sup : Bool) (r : List (Bool × Nat)) : chosenF s (ordP.map (fun i => (sup, i)) ++ r) = if 0 ≤ bestF (okB s sup) 6 then bestF (okB s sup) 6 else chosenF s r := by
  show (if okB s sup 11 then (11 : Int) else if okB s sup 3 then 3 else if okB s sup 7 then 7 else if okB s sup 9 then 9 else if okB s sup 1 then 1 else if okB s sup 5 then 5 else chosenF s r) = if 0 ≤ (if okB s sup 11 then (11 : Int) else if okB s sup 3 then 3 else if okB s sup 7 then 7 else if okB s sup 9 then 9 else if okB s sup 1 then 1 else if okB s sup 5 then 5 else -1) then (if okB s sup 11 then (11 : Int) else if okB s sup 3 then 3 else if okB s sup 7 then 7 else if okB s sup 9 then 9 else if okB s sup 1 then 1 else if okB s sup 5 then 5 else -1) else chosenF s r
  cases okB s sup 11 <;> cases okB s sup 3 <;> cases okB s sup 7 <;> cases okB s sup 9 <;> cases okB s sup 1 <;> cases okB s sup 5 <;> rfl
theorem first_chosen {s : RSt} (h : Gd s) : firstT (lookC (cOf s)) 6 = chosenR (wakeR s) := by
  have e : prs = ordP.map (fun i => (false, i)) ++ (ordP.map (fun i => (true, i)) ++ []) := rfl
  have eM : ∀ i, (wantL (lookC (cOf s)) i && !isB ((lookC (cOf s)).csrs.getD 10 0) i) = okB (wakeR s) false i := fun i => by
    rw [want_en h i]
    show (enB s i && !isB s.mideleg i) = (if enB s i then isB s.mideleg i == false else false)
    cases enB s i <;> cases isB s.mideleg i <;> rfl
  have eS : ∀ i, (wantL (lookC (cOf s)) i && isB ((lookC (cOf s)).csrs.getD 10 0) i) = okB (wakeR s) true i := fun i => by
    rw [want_en h i]
    show (enB s i && isB s.mideleg i) = (if enB s i then isB s.mideleg i == true else false)
    cases enB s i <;> cases isB s.mideleg i <;> rfl
  rw [first_best, bestF_congr _ _ eM, bestF_congr _ _ eS]
  unfold chosenR
  rw [e, best_chos, best_chos]
  split
  · rfl
  · split
    · rfl
    · rename_i h2
      show bestF (okB (wakeR s) true) 6 = -1
      rcases bestF_is (okB (wakeR s) true) 6 with h3 | ⟨n, h3, _⟩
      · exact h3
      · omega
/-- Where one is chosen, the processor is awake or wakes. -/
theorem aw_chosen {s : RSt} (h : Gd s) (i : Nat) (hc : chosenR (wakeR s) = i) : Aw s := by
  rcases aw_or s with A | ⟨_, hm⟩
  · exact A
  · have := (h.wake).chosen (show bits .and .u32 (mipR (wakeR s)) (wakeR s).mie = 0 from hm)
    omega
end Go.Proofs.YteiideeechnekabGreatDoor
