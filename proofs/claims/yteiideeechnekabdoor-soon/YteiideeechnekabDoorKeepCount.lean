/-
  hartkeep.Soon: count.
-/
import Derived.Test.YteiideeechnekabDoorKeepFrame
namespace Go.Proofs.YteiideeechnekabDoor
open Go.RowKit

/-- Level k's interrupts are shut out, whatever is pending. -/
def clB (s : RSt) (k : Nat) : Bool := if isB s.mideleg k then (if s.mode = 0 then false else if s.mode = 1 then !s.sie else true) else (if s.mode = 3 then !s.mieb else false)
theorem en_cl {s : RSt} (h : Gd s) (k : Nat) (e : enB s k = true) : clB s k = false := by
  unfold enB at e
  unfold clB
  revert e
  cases isB (mipR s) k <;> cases isB s.mie k <;> cases isB s.mideleg k <;> rcases h.mode with m | m | m <;> simp [m]
theorem cl_core {s s' : RSt} (c : Core s s') (k : Nat) : clB s' k = clB s k := by
  obtain ⟨_, _, c2, _, c4, c5, c6⟩ := c
  unfold clB
  rw [c2, c4, c5, c6]
theorem soon_next {s : RSt} (G : Gd s) (k : Nat) (e : enB s k = true) : ∃ i : Nat, chosenR (wakeR s) = i ∧ clB (intR (wakeR s) i) k = true := by
  have A := chos_all G.wake
  have M : ∀ i : Nat, isB s.mideleg i = false → clB (intR (wakeR s) i) k = true := fun i hd => by
    have e0 : intR (wakeR s) i = trapM (wakeR s) (2147483648 + i) 0 (intBy s.mtvec i) := by
      unfold intR trapR
      rw [show isB (wakeR s).mideleg i = false from hd]
      rfl
    rw [e0]
    show (if isB s.mideleg k then (if (3 : Int) = 0 then false else if (3 : Int) = 1 then !s.sie else true) else (if (3 : Int) = 3 then !false else false)) = true
    cases isB s.mideleg k <;> rfl
  by_cases h1 : enM (cOf (wakeR s)) = 0
  · rw [if_neg (by simpa using h1)] at A
    have hd : isB s.mideleg k = true := by
      cases hk : isB s.mideleg k
      · have o : okB (wakeR s) false k = true := by
          show (if enB s k then isB s.mideleg k == false else false) = true
          rw [e, hk]
          rfl
        rw [← en_M G.wake, h1, isB_zero] at o
        cases o
      · rfl
    have h2 : enS (cOf (wakeR s)) ≠ 0 := fun h2 => by
      have o : okB (wakeR s) true k = true := by
        show (if enB s k then isB s.mideleg k == true else false) = true
        rw [e, hd]
        rfl
      rw [← en_S G.wake, h2, isB_zero] at o
      cases o
    rw [if_pos h2] at A
    have ok := fore_S G.wake h2
    refine ⟨_, A, ?_⟩
    generalize foreV (enS (cOf (wakeR s))) = i at ok
    have e0 : intR (wakeR s) i = trapS (wakeR s) (2147483648 + i) 0 (intBy s.stvec i) := by
      unfold intR trapR
      rw [okB_del ok]
      rfl
    rw [e0]
    show (if isB s.mideleg k then (if (1 : Int) = 0 then false else if (1 : Int) = 1 then !false else true) else _) = true
    rw [hd]
    rfl
  · rw [if_pos h1] at A
    have ok := fore_M G.wake h1
    exact ⟨_, A, M _ (okB_del ok)⟩
/-- Twelve counts in a row. -/
def SR (w : World) (g : Nat) (v : Nat → Int) : Prop := ∃ cur : Array Value, w.heap[g]? = some (.cells cur 3 (0, 0)) ∧ cur.size = 12 ∧ ∀ k, k < 12 → cur[k]? = some (.int .i64 (v k))
theorem SR.of {w w' : World} {g : Nat} {v : Nat → Int} (h : SR w g v) (e : w'.heap[g]? = w.heap[g]?) : SR w' g v := by
  obtain ⟨cur, h1, h2, h3⟩ := h
  exact ⟨cur, e.trans h1, h2, h3⟩
theorem SR.cell {w : World} {g : Nat} {v : Nat → Int} (h : SR w g v) (k : Nat) (hk : k < 12) : w.cell? ⟨g, k, none⟩ = some (.int .i64 (v k)) := by
  obtain ⟨cur, h1, _, h3⟩ := h
  exact (cell_of_row w g k cur _ (0, 0) h1).trans (h3 k hk)
theorem SR.fz {w : World} {g : Nat} {v : Nat → Int} (h : SR w g v) (j : Nat) : w.frozen? ⟨g, j, none⟩ = false := by
  obtain ⟨cur, h1, _⟩ := h
  simp [World.frozen?, h1]
theorem SR.lt {w : World} {g : Nat} {v : Nat → Int} (h : SR w g v) : g < w.heap.size := World.block_lt_of_cell? w _ (h.cell 0 (by decide))
theorem SR.put {w : World} {g : Nat} {v v' : Nat → Int} (h : SR w g v) (k : Nat) (x : Int) (e : ∀ j, j < 12 → v' j = if j = k then x else v j) : SR (w.setCell ⟨g, k, none⟩ (.int .i64 x)) g v' := by
  obtain ⟨cur, h1, h2, h3⟩ := h
  refine ⟨_, heap_set_same w g k (.int .i64 x) cur _ _ h1, by simpa using h2, fun j hj => ?_⟩
  rw [Array.getElem?_setIfInBounds, e j hj]
  by_cases hk : k = j
  · subst hk
    simp [h2, hj]
  · rw [if_neg hk, if_neg (fun q => hk q.symm)]
    exact h3 j hj
structure SI (v : Nat → Int) (s : RSt) : Prop where
  z : ∀ k, k < 12 → v k = 0 ∨ v k = 1 ∧ clB s k = true
theorem KI.far {W w w' : World} {x r g : Nat} {s : RSt} (h : KI W w x r s) (o : Offs [g] w w') (hx : x ≠ g) (hr : r ≠ g) (hg : W.heap.size ≤ g) : KI W w' x r s :=
  { h with c := h.c.offs o (by simpa using hx) (by simpa using hr), bel := h.bel.trans (o.below (fun k hk => by simp at hk; omega) h.bel.size) }
def cntV (L : LSt) (b : Int) (k : Nat) : Int := if wantL L k then b else 0
structure CI (W w : World) (g gb : Nat) (p : Pl) (L : LSt) (v : Nat → Int) (b : Int) (k : Nat) : Prop where
  r : SR w g (fun j => if j < k then cntV L b j else v j)
  b : B13 w gb p L
  s : StAt w p L
  o : Offs [g] W w
theorem CI.below {W w w' : World} {g gb : Nat} {p : Pl} {L : LSt} {v : Nat → Int} {b : Int} {k : Nat} (h : CI W w g gb p L v b k) (hb : Below w.heap.size w w') : CI W w' g gb p L v b k :=
  ⟨h.r.of (hb.block g h.r.lt), h.b.below hb, h.s.below hb, h.o.trans (Offs.of_below hb)⟩
theorem CI.put {W w : World} {g gb : Nat} {p : Pl} {L : LSt} {v : Nat → Int} {b : Int} {k : Nat} (h : CI W w g gb p L v b k) (x : Int) (hx : cntV L b k = x) (n1 : gb ≠ g) (n2 : p.r ≠ g ∧ p.c ≠ g ∧ p.k ≠ g ∧ p.p ≠ g ∧ p.e ≠ g ∧ p.l ≠ g) : CI W (w.setCell ⟨g, k, none⟩ (.int .i64 x)) g gb p L v b (k + 1) := by
  have kp : ∀ q, q ≠ g → (w.setCell ⟨g, k, none⟩ (.int .i64 x)).heap[q]? = w.heap[q]? := fun q hq => Below.heap_setCell _ _ _ _ hq
  refine ⟨h.r.put k x fun j _ => ?_, h.b.of (kp _ n1), h.s.of fun q hq => kp q (by omega), h.o.put (by simp) _⟩
  by_cases e : j = k
  · subst e
    rw [if_pos (by omega), if_pos rfl, hx]
  · by_cases hl : j < k
    · rw [if_pos (by omega), if_neg e, if_pos hl]
    · rw [if_neg (by omega), if_neg e, if_neg hl]
set_option maxHeartbeats 4000000 in
set_option maxRecDepth 100000 in
theorem count_0 (W : World) (g : Nat) (v : Nat → Int) (p : Pl) (L : LSt) (h : SR W g v) (st : StAt W p L) (F : LFull L) (np : p.r ≠ g ∧ p.c ≠ g ∧ p.k ≠ g ∧ p.p ≠ g ∧ p.e ≠ g ∧ p.l ≠ g) (hz : ∀ k, k < 12 → wantL L k = true → v k = 0) :
    Calls Tryd.prog 13 #[.slice (some ⟨g, 0, none⟩) 12 12, .agg #[.slice (some ⟨p.r, 0, none⟩) L.regs.length p.cr, .int .u32 L.pc, .int .i64 L.mode, .bool L.asleep, .slice (some ⟨p.c, 0, none⟩) L.csrs.length p.cc, .string L.ram, .slice (some ⟨p.k, 0, none⟩) L.clock.length p.ck, .slice (some ⟨p.p, 0, none⟩) L.prio.length p.cp, .int .u32 L.pend, .int .u32 L.served, .int .u32 L.level, .slice (some ⟨p.e, 0, none⟩) L.enable.length p.ce, .slice (some ⟨p.l, 0, none⟩) L.limit.length p.cl], .int .i64 0] W fun e W' => e = .returned (.tuple #[]) ∧ SR W' g (cntV L 0) ∧ Offs [g] W W' := by
  have b1 : Below W.heap.size W (W.alloc (.cells #[.slice (some ⟨p.r, 0, none⟩) L.regs.length p.cr, .int .u32 L.pc, .int .i64 L.mode, .bool L.asleep, .slice (some ⟨p.c, 0, none⟩) L.csrs.length p.cc, .string L.ram, .slice (some ⟨p.k, 0, none⟩) L.clock.length p.ck, .slice (some ⟨p.p, 0, none⟩) L.prio.length p.cp, .int .u32 L.pend, .int .u32 L.served, .int .u32 L.level, .slice (some ⟨p.e, 0, none⟩) L.enable.length p.ce, .slice (some ⟨p.l, 0, none⟩) L.limit.length p.cl] 31)) := (Below.refl _ _).alloc (Nat.le_refl _) _
  have HC : Hid (CI W (W.alloc (.cells #[.slice (some ⟨p.r, 0, none⟩) L.regs.length p.cr, .int .u32 L.pc, .int .i64 L.mode, .bool L.asleep, .slice (some ⟨p.c, 0, none⟩) L.csrs.length p.cc, .string L.ram, .slice (some ⟨p.k, 0, none⟩) L.clock.length p.ck, .slice (some ⟨p.p, 0, none⟩) L.prio.length p.cp, .int .u32 L.pend, .int .u32 L.served, .int .u32 L.level, .slice (some ⟨p.e, 0, none⟩) L.enable.length p.ce, .slice (some ⟨p.l, 0, none⟩) L.limit.length p.cl] 31)) g W.heap.size p L v 0 0) := ⟨h.of (b1.block g h.lt), B13.new W p L, st.below b1, Offs.of_below b1⟩
  have HN : Hid (W.heap.size ≠ g ∧ p.r ≠ g ∧ p.c ≠ g ∧ p.k ≠ g ∧ p.p ≠ g ∧ p.e ≠ g ∧ p.l ≠ g) := ⟨by have := h.lt; omega, np⟩
  have HZ : Hid (∀ k, k < 12 → wantL L k = true → v k = 0) := hz
  have HF : Hid (LFull L) := F
  clear b1 h st np hz F
  go_enter Tryd.func13, Tryd.ntmps13
  go_wp2_with fail
  generalize (W.alloc (.cells #[.slice (some ⟨p.r, 0, none⟩) L.regs.length p.cr, .int .u32 L.pc, .int .i64 L.mode, .bool L.asleep, .slice (some ⟨p.c, 0, none⟩) L.csrs.length p.cc, .string L.ram, .slice (some ⟨p.k, 0, none⟩) L.clock.length p.ck, .slice (some ⟨p.p, 0, none⟩) L.prio.length p.cp, .int .u32 L.pend, .int .u32 L.served, .int .u32 L.level, .slice (some ⟨p.e, 0, none⟩) L.enable.length p.ce, .slice (some ⟨p.l, 0, none⟩) L.limit.length p.cl] 31)) = W1 at HC ⊢
  go_loopw [6] (fun kv wr => ∃ k : Nat, k ≤ 12 ∧ kv = .int .i64 k ∧ Hid (CI W wr g W.heap.size p L v 0 k)) (fun kv _ => 12 - (intOf kv).toNat)
  case atStart => exact ⟨0, by decide, rfl, HC⟩
  case round =>
    obtain ⟨k, hk, rfl, hC⟩ := hrel
    clear HC
    by_cases hlt : k < 12
    · have hlt' : (k : Int) < 12 := by omega
      obtain ⟨n0, n1, n2, n3, n4, n5, n6, n7, n8, n9, n10, n11, n12⟩ := hC.out.b
      cases hw : wantL L k
      · go_wp2_with fail
        refine (wanted_is _ p L hC.out.s HF.out k hlt false hw).mono ?_
        rintro e w2 ⟨rfl, b2⟩
        have C2 : Hid (CI W w2 g W.heap.size p L v 0 k) := hC.out.below b2
        clear b2 n0 n1 n2 n3 n4 n5 n6 n7 n8 n9 n10 n11 n12 hC
        have fz := fun j => C2.out.r.fz j
        have ck := C2.out.r.cell k hlt
        have HP : Hid (CI W (w2.setCell ⟨g, k, none⟩ (.int .i64 0)) g W.heap.size p L v 0 (k + 1)) := C2.out.put 0 (by unfold cntV; rw [hw]; rfl) HN.out.1 HN.out.2
        clear C2
        go_wp2_with fail
        go_roundw
        case rel => exact ⟨k + 1, by omega, by go_num, HP⟩
        case measure => simp [intOf]; omega
      · go_wp2_with fail
        refine (wanted_is _ p L hC.out.s HF.out k hlt true hw).mono ?_
        rintro e w2 ⟨rfl, b2⟩
        have C2 : Hid (CI W w2 g W.heap.size p L v 0 k) := hC.out.below b2
        clear b2 n0 n1 n2 n3 n4 n5 n6 n7 n8 n9 n10 n11 n12 hC
        have fz := fun j => C2.out.r.fz j
        have ck := C2.out.r.cell k hlt
        have z0 : v k = 0 := HZ.out k hlt hw
        have ck' : w2.cell? ⟨g, k, none⟩ = some (.int .i64 0) := by rw [ck]; simp [z0]
        clear ck z0
        have HP : Hid (CI W (w2.setCell ⟨g, k, none⟩ (.int .i64 0)) g W.heap.size p L v 0 (k + 1)) := C2.out.put 0 (by unfold cntV; rw [hw]; rfl) HN.out.1 HN.out.2
        clear C2
        go_wp2_with fail
        go_roundw
        case rel => exact ⟨k + 1, by omega, by go_num, HP⟩
        case measure => simp [intOf]; omega
    · obtain rfl : k = 12 := by omega
      have HE : Hid (SR wr g (cntV L 0) ∧ Offs [g] W wr) := by
        refine ⟨?_, hC.out.o⟩
        obtain ⟨cur, h1, h2, h3⟩ := hC.out.r
        exact ⟨cur, h1, h2, fun j hj => by rw [h3 j hj]; exact congrArg (fun z => some (Value.int .i64 z)) (if_pos hj)⟩
      clear hC
      go_wp2
      go_end0
      exact ⟨rfl, HE.out⟩
set_option maxHeartbeats 4000000 in
set_option maxRecDepth 100000 in
theorem count_1 (W : World) (g : Nat) (v : Nat → Int) (p : Pl) (L : LSt) (h : SR W g v) (st : StAt W p L) (F : LFull L) (np : p.r ≠ g ∧ p.c ≠ g ∧ p.k ≠ g ∧ p.p ≠ g ∧ p.e ≠ g ∧ p.l ≠ g) (hz : ∀ k, k < 12 → wantL L k = true → v k = 0) :
    Calls Tryd.prog 13 #[.slice (some ⟨g, 0, none⟩) 12 12, .agg #[.slice (some ⟨p.r, 0, none⟩) L.regs.length p.cr, .int .u32 L.pc, .int .i64 L.mode, .bool L.asleep, .slice (some ⟨p.c, 0, none⟩) L.csrs.length p.cc, .string L.ram, .slice (some ⟨p.k, 0, none⟩) L.clock.length p.ck, .slice (some ⟨p.p, 0, none⟩) L.prio.length p.cp, .int .u32 L.pend, .int .u32 L.served, .int .u32 L.level, .slice (some ⟨p.e, 0, none⟩) L.enable.length p.ce, .slice (some ⟨p.l, 0, none⟩) L.limit.length p.cl], .int .i64 1] W fun e W' => e = .returned (.tuple #[]) ∧ SR W' g (cntV L 1) ∧ Offs [g] W W' := by
  have b1 : Below W.heap.size W (W.alloc (.cells #[.slice (some ⟨p.r, 0, none⟩) L.regs.length p.cr, .int .u32 L.pc, .int .i64 L.mode, .bool L.asleep, .slice (some ⟨p.c, 0, none⟩) L.csrs.length p.cc, .string L.ram, .slice (some ⟨p.k, 0, none⟩) L.clock.length p.ck, .slice (some ⟨p.p, 0, none⟩) L.prio.length p.cp, .int .u32 L.pend, .int .u32 L.served, .int .u32 L.level, .slice (some ⟨p.e, 0, none⟩) L.enable.length p.ce, .slice (some ⟨p.l, 0, none⟩) L.limit.length p.cl] 31)) := (Below.refl _ _).alloc (Nat.le_refl _) _
  have HC : Hid (CI W (W.alloc (.cells #[.slice (some ⟨p.r, 0, none⟩) L.regs.length p.cr, .int .u32 L.pc, .int .i64 L.mode, .bool L.asleep, .slice (some ⟨p.c, 0, none⟩) L.csrs.length p.cc, .string L.ram, .slice (some ⟨p.k, 0, none⟩) L.clock.length p.ck, .slice (some ⟨p.p, 0, none⟩) L.prio.length p.cp, .int .u32 L.pend, .int .u32 L.served, .int .u32 L.level, .slice (some ⟨p.e, 0, none⟩) L.enable.length p.ce, .slice (some ⟨p.l, 0, none⟩) L.limit.length p.cl] 31)) g W.heap.size p L v 1 0) := ⟨h.of (b1.block g h.lt), B13.new W p L, st.below b1, Offs.of_below b1⟩
  have HN : Hid (W.heap.size ≠ g ∧ p.r ≠ g ∧ p.c ≠ g ∧ p.k ≠ g ∧ p.p ≠ g ∧ p.e ≠ g ∧ p.l ≠ g) := ⟨by have := h.lt; omega, np⟩
  have HZ : Hid (∀ k, k < 12 → wantL L k = true → v k = 0) := hz
  have HF : Hid (LFull L) := F
  clear b1 h st np hz F
  go_enter Tryd.func13, Tryd.ntmps13
  go_wp2_with fail
  generalize (W.alloc (.cells #[.slice (some ⟨p.r, 0, none⟩) L.regs.length p.cr, .int .u32 L.pc, .int .i64 L.mode, .bool L.asleep, .slice (some ⟨p.c, 0, none⟩) L.csrs.length p.cc, .string L.ram, .slice (some ⟨p.k, 0, none⟩) L.clock.length p.ck, .slice (some ⟨p.p, 0, none⟩) L.prio.length p.cp, .int .u32 L.pend, .int .u32 L.served, .int .u32 L.level, .slice (some ⟨p.e, 0, none⟩) L.enable.length p.ce, .slice (some ⟨p.l, 0, none⟩) L.limit.length p.cl] 31)) = W1 at HC ⊢
  go_loopw [6] (fun kv wr => ∃ k : Nat, k ≤ 12 ∧ kv = .int .i64 k ∧ Hid (CI W wr g W.heap.size p L v 1 k)) (fun kv _ => 12 - (intOf kv).toNat)
  case atStart => exact ⟨0, by decide, rfl, HC⟩
  case round =>
    obtain ⟨k, hk, rfl, hC⟩ := hrel
    clear HC
    by_cases hlt : k < 12
    · have hlt' : (k : Int) < 12 := by omega
      obtain ⟨n0, n1, n2, n3, n4, n5, n6, n7, n8, n9, n10, n11, n12⟩ := hC.out.b
      cases hw : wantL L k
      · go_wp2_with fail
        refine (wanted_is _ p L hC.out.s HF.out k hlt false hw).mono ?_
        rintro e w2 ⟨rfl, b2⟩
        have C2 : Hid (CI W w2 g W.heap.size p L v 1 k) := hC.out.below b2
        clear b2 n0 n1 n2 n3 n4 n5 n6 n7 n8 n9 n10 n11 n12 hC
        have fz := fun j => C2.out.r.fz j
        have ck := C2.out.r.cell k hlt
        have HP : Hid (CI W (w2.setCell ⟨g, k, none⟩ (.int .i64 0)) g W.heap.size p L v 1 (k + 1)) := C2.out.put 0 (by unfold cntV; rw [hw]; rfl) HN.out.1 HN.out.2
        clear C2
        go_wp2_with fail
        go_roundw
        case rel => exact ⟨k + 1, by omega, by go_num, HP⟩
        case measure => simp [intOf]; omega
      · go_wp2_with fail
        refine (wanted_is _ p L hC.out.s HF.out k hlt true hw).mono ?_
        rintro e w2 ⟨rfl, b2⟩
        have C2 : Hid (CI W w2 g W.heap.size p L v 1 k) := hC.out.below b2
        clear b2 n0 n1 n2 n3 n4 n5 n6 n7 n8 n9 n10 n11 n12 hC
        have fz := fun j => C2.out.r.fz j
        have ck := C2.out.r.cell k hlt
        have z0 : v k = 0 := HZ.out k hlt hw
        have ck' : w2.cell? ⟨g, k, none⟩ = some (.int .i64 0) := by rw [ck]; simp [z0]
        clear ck z0
        have HP : Hid (CI W (w2.setCell ⟨g, k, none⟩ (.int .i64 1)) g W.heap.size p L v 1 (k + 1)) := C2.out.put 1 (by unfold cntV; rw [hw]; rfl) HN.out.1 HN.out.2
        clear C2
        go_wp2_with fail
        go_roundw
        case rel => exact ⟨k + 1, by omega, by go_num, HP⟩
        case measure => simp [intOf]; omega
    · obtain rfl : k = 12 := by omega
      have HE : Hid (SR wr g (cntV L 1) ∧ Offs [g] W wr) := by
        refine ⟨?_, hC.out.o⟩
        obtain ⟨cur, h1, h2, h3⟩ := hC.out.r
        exact ⟨cur, h1, h2, fun j hj => by rw [h3 j hj]; exact congrArg (fun z => some (Value.int .i64 z)) (if_pos hj)⟩
      clear hC
      go_wp2
      go_end0
      exact ⟨rfl, HE.out⟩
end Go.Proofs.YteiideeechnekabDoor
