/-
  hartkeep.taken.
-/
import Derived.Test.YteiideeechnekabGreatDoorKeepFrame
namespace Go.Proofs.YteiideeechnekabGreatDoor
open Go.RowKit

/-- An interrupt was taken between two looks. -/
structure Tk (L L' : LSt) (sup : Bool) (i : Nat) (md : Int) (ep ca tv ve : Nat) : Prop where
  regs : L'.regs = L.regs
  ram : L'.ram = L.ram
  clock : L'.clock = L.clock
  prio : L'.prio = L.prio
  enable : L'.enable = L.enable
  limit : L'.limit = L.limit
  pend : L'.pend = L.pend
  served : L'.served = L.served
  level : L'.level = L.level
  asleep : L'.asleep = false
  d : isB (L.csrs.getD 10 0) i = sup
  mode : L'.mode = md
  epc : L'.csrs.getD ep 0 = L.pc
  cause : L'.csrs.getD ca 0 = 2147483648 + (i : Int)
  tval : L'.csrs.getD tv 0 = 0
  pc : L'.pc = (bits .andNot .u32 (L.csrs.getD ve 0) 3 + bits .and .u32 (L.csrs.getD ve 0) 1 * 4 % 4294967296 * i % 4294967296) % 4294967296
structure T2 (W w : World) (g1 g2 : Nat) (p p' : Pl) (L L' : LSt) : Prop where
  b1 : B13 w g1 p L
  b2 : B13 w g2 p' L'
  a1 : StAt w p L
  a2 : StAt w p' L'
  bel : Below W.heap.size W w
theorem T2.below {W w w' : World} {g1 g2 : Nat} {p p' : Pl} {L L' : LSt} (h : T2 W w g1 g2 p p' L L') (hb : Below w.heap.size w w') : T2 W w' g1 g2 p p' L L' :=
  ⟨h.b1.below hb, h.b2.below hb, h.a1.below hb, h.a2.below hb, h.bel.trans (hb.mono h.bel.size)⟩
theorem T2.new (W : World) (p p' : Pl) (L L' : LSt) (st : StAt W p L) (st' : StAt W p' L') : T2 W ((W.alloc (.cells #[.slice (some ⟨p.r, 0, none⟩) L.regs.length p.cr, .int .u32 L.pc, .int .i64 L.mode, .bool L.asleep, .slice (some ⟨p.c, 0, none⟩) L.csrs.length p.cc, .string L.ram, .slice (some ⟨p.k, 0, none⟩) L.clock.length p.ck, .slice (some ⟨p.p, 0, none⟩) L.prio.length p.cp, .int .u32 L.pend, .int .u32 L.served, .int .u32 L.level, .slice (some ⟨p.e, 0, none⟩) L.enable.length p.ce, .slice (some ⟨p.l, 0, none⟩) L.limit.length p.cl] 31)).alloc (.cells #[.slice (some ⟨p'.r, 0, none⟩) L'.regs.length p'.cr, .int .u32 L'.pc, .int .i64 L'.mode, .bool L'.asleep, .slice (some ⟨p'.c, 0, none⟩) L'.csrs.length p'.cc, .string L'.ram, .slice (some ⟨p'.k, 0, none⟩) L'.clock.length p'.ck, .slice (some ⟨p'.p, 0, none⟩) L'.prio.length p'.cp, .int .u32 L'.pend, .int .u32 L'.served, .int .u32 L'.level, .slice (some ⟨p'.e, 0, none⟩) L'.enable.length p'.ce, .slice (some ⟨p'.l, 0, none⟩) L'.limit.length p'.cl] 31)) W.heap.size (W.alloc (.cells #[.slice (some ⟨p.r, 0, none⟩) L.regs.length p.cr, .int .u32 L.pc, .int .i64 L.mode, .bool L.asleep, .slice (some ⟨p.c, 0, none⟩) L.csrs.length p.cc, .string L.ram, .slice (some ⟨p.k, 0, none⟩) L.clock.length p.ck, .slice (some ⟨p.p, 0, none⟩) L.prio.length p.cp, .int .u32 L.pend, .int .u32 L.served, .int .u32 L.level, .slice (some ⟨p.e, 0, none⟩) L.enable.length p.ce, .slice (some ⟨p.l, 0, none⟩) L.limit.length p.cl] 31)).heap.size p p' L L' := by
  have b1 : Below W.heap.size W (W.alloc (.cells #[.slice (some ⟨p.r, 0, none⟩) L.regs.length p.cr, .int .u32 L.pc, .int .i64 L.mode, .bool L.asleep, .slice (some ⟨p.c, 0, none⟩) L.csrs.length p.cc, .string L.ram, .slice (some ⟨p.k, 0, none⟩) L.clock.length p.ck, .slice (some ⟨p.p, 0, none⟩) L.prio.length p.cp, .int .u32 L.pend, .int .u32 L.served, .int .u32 L.level, .slice (some ⟨p.e, 0, none⟩) L.enable.length p.ce, .slice (some ⟨p.l, 0, none⟩) L.limit.length p.cl] 31)) := (Below.refl _ _).alloc (Nat.le_refl _) _
  have b2 : Below (W.alloc (.cells #[.slice (some ⟨p.r, 0, none⟩) L.regs.length p.cr, .int .u32 L.pc, .int .i64 L.mode, .bool L.asleep, .slice (some ⟨p.c, 0, none⟩) L.csrs.length p.cc, .string L.ram, .slice (some ⟨p.k, 0, none⟩) L.clock.length p.ck, .slice (some ⟨p.p, 0, none⟩) L.prio.length p.cp, .int .u32 L.pend, .int .u32 L.served, .int .u32 L.level, .slice (some ⟨p.e, 0, none⟩) L.enable.length p.ce, .slice (some ⟨p.l, 0, none⟩) L.limit.length p.cl] 31)).heap.size (W.alloc (.cells #[.slice (some ⟨p.r, 0, none⟩) L.regs.length p.cr, .int .u32 L.pc, .int .i64 L.mode, .bool L.asleep, .slice (some ⟨p.c, 0, none⟩) L.csrs.length p.cc, .string L.ram, .slice (some ⟨p.k, 0, none⟩) L.clock.length p.ck, .slice (some ⟨p.p, 0, none⟩) L.prio.length p.cp, .int .u32 L.pend, .int .u32 L.served, .int .u32 L.level, .slice (some ⟨p.e, 0, none⟩) L.enable.length p.ce, .slice (some ⟨p.l, 0, none⟩) L.limit.length p.cl] 31)) ((W.alloc (.cells #[.slice (some ⟨p.r, 0, none⟩) L.regs.length p.cr, .int .u32 L.pc, .int .i64 L.mode, .bool L.asleep, .slice (some ⟨p.c, 0, none⟩) L.csrs.length p.cc, .string L.ram, .slice (some ⟨p.k, 0, none⟩) L.clock.length p.ck, .slice (some ⟨p.p, 0, none⟩) L.prio.length p.cp, .int .u32 L.pend, .int .u32 L.served, .int .u32 L.level, .slice (some ⟨p.e, 0, none⟩) L.enable.length p.ce, .slice (some ⟨p.l, 0, none⟩) L.limit.length p.cl] 31)).alloc (.cells #[.slice (some ⟨p'.r, 0, none⟩) L'.regs.length p'.cr, .int .u32 L'.pc, .int .i64 L'.mode, .bool L'.asleep, .slice (some ⟨p'.c, 0, none⟩) L'.csrs.length p'.cc, .string L'.ram, .slice (some ⟨p'.k, 0, none⟩) L'.clock.length p'.ck, .slice (some ⟨p'.p, 0, none⟩) L'.prio.length p'.cp, .int .u32 L'.pend, .int .u32 L'.served, .int .u32 L'.level, .slice (some ⟨p'.e, 0, none⟩) L'.enable.length p'.ce, .slice (some ⟨p'.l, 0, none⟩) L'.limit.length p'.cl] 31)) := (Below.refl _ _).alloc (Nat.le_refl _) _
  exact ⟨(B13.new W p L).below b2, B13.new (W.alloc (.cells #[.slice (some ⟨p.r, 0, none⟩) L.regs.length p.cr, .int .u32 L.pc, .int .i64 L.mode, .bool L.asleep, .slice (some ⟨p.c, 0, none⟩) L.csrs.length p.cc, .string L.ram, .slice (some ⟨p.k, 0, none⟩) L.clock.length p.ck, .slice (some ⟨p.p, 0, none⟩) L.prio.length p.cp, .int .u32 L.pend, .int .u32 L.served, .int .u32 L.level, .slice (some ⟨p.e, 0, none⟩) L.enable.length p.ce, .slice (some ⟨p.l, 0, none⟩) L.limit.length p.cl] 31)) p' L', (st.below b1).below b2, (st'.below b1).below b2, b1.trans (b2.mono b1.size)⟩
set_option maxHeartbeats 8000000 in
set_option maxRecDepth 100000 in
theorem taken_S (W : World) (p p' : Pl) (L L' : LSt) (st : StAt W p L) (st' : StAt W p' L') (F : LFull L) (F' : LFull L') (i : Nat) (hi : i < 12) (E : Tk L L' true i 1 4 5 6 2) :
    Calls Tryz.prog 10 #[.agg #[.slice (some ⟨p.r, 0, none⟩) L.regs.length p.cr, .int .u32 L.pc, .int .i64 L.mode, .bool L.asleep, .slice (some ⟨p.c, 0, none⟩) L.csrs.length p.cc, .string L.ram, .slice (some ⟨p.k, 0, none⟩) L.clock.length p.ck, .slice (some ⟨p.p, 0, none⟩) L.prio.length p.cp, .int .u32 L.pend, .int .u32 L.served, .int .u32 L.level, .slice (some ⟨p.e, 0, none⟩) L.enable.length p.ce, .slice (some ⟨p.l, 0, none⟩) L.limit.length p.cl], .agg #[.slice (some ⟨p'.r, 0, none⟩) L'.regs.length p'.cr, .int .u32 L'.pc, .int .i64 L'.mode, .bool L'.asleep, .slice (some ⟨p'.c, 0, none⟩) L'.csrs.length p'.cc, .string L'.ram, .slice (some ⟨p'.k, 0, none⟩) L'.clock.length p'.ck, .slice (some ⟨p'.p, 0, none⟩) L'.prio.length p'.cp, .int .u32 L'.pend, .int .u32 L'.served, .int .u32 L'.level, .slice (some ⟨p'.e, 0, none⟩) L'.enable.length p'.ce, .slice (some ⟨p'.l, 0, none⟩) L'.limit.length p'.cl], .int .i64 i] W fun e W' => e = .returned (.bool true) ∧ Below W.heap.size W W' := by
  have H0 : Hid (T2 W ((W.alloc (.cells #[.slice (some ⟨p.r, 0, none⟩) L.regs.length p.cr, .int .u32 L.pc, .int .i64 L.mode, .bool L.asleep, .slice (some ⟨p.c, 0, none⟩) L.csrs.length p.cc, .string L.ram, .slice (some ⟨p.k, 0, none⟩) L.clock.length p.ck, .slice (some ⟨p.p, 0, none⟩) L.prio.length p.cp, .int .u32 L.pend, .int .u32 L.served, .int .u32 L.level, .slice (some ⟨p.e, 0, none⟩) L.enable.length p.ce, .slice (some ⟨p.l, 0, none⟩) L.limit.length p.cl] 31)).alloc (.cells #[.slice (some ⟨p'.r, 0, none⟩) L'.regs.length p'.cr, .int .u32 L'.pc, .int .i64 L'.mode, .bool L'.asleep, .slice (some ⟨p'.c, 0, none⟩) L'.csrs.length p'.cc, .string L'.ram, .slice (some ⟨p'.k, 0, none⟩) L'.clock.length p'.ck, .slice (some ⟨p'.p, 0, none⟩) L'.prio.length p'.cp, .int .u32 L'.pend, .int .u32 L'.served, .int .u32 L'.level, .slice (some ⟨p'.e, 0, none⟩) L'.enable.length p'.ce, .slice (some ⟨p'.l, 0, none⟩) L'.limit.length p'.cl] 31)) W.heap.size (W.alloc (.cells #[.slice (some ⟨p.r, 0, none⟩) L.regs.length p.cr, .int .u32 L.pc, .int .i64 L.mode, .bool L.asleep, .slice (some ⟨p.c, 0, none⟩) L.csrs.length p.cc, .string L.ram, .slice (some ⟨p.k, 0, none⟩) L.clock.length p.ck, .slice (some ⟨p.p, 0, none⟩) L.prio.length p.cp, .int .u32 L.pend, .int .u32 L.served, .int .u32 L.level, .slice (some ⟨p.e, 0, none⟩) L.enable.length p.ce, .slice (some ⟨p.l, 0, none⟩) L.limit.length p.cl] 31)).heap.size p p' L L') := T2.new W p p' L L' st st'
  have HE : Hid (Tk L L' true i 1 4 5 6 2) := E
  have HF : Hid (LFull L ∧ LFull L') := ⟨F, F'⟩
  have hi' : (i : Int) < 12 := by omega
  clear st st' E F F'
  go_enter Tryz.func10, Tryz.ntmps10
  go_upto_region 1 with fail
  generalize ((W.alloc (.cells #[.slice (some ⟨p.r, 0, none⟩) L.regs.length p.cr, .int .u32 L.pc, .int .i64 L.mode, .bool L.asleep, .slice (some ⟨p.c, 0, none⟩) L.csrs.length p.cc, .string L.ram, .slice (some ⟨p.k, 0, none⟩) L.clock.length p.ck, .slice (some ⟨p.p, 0, none⟩) L.prio.length p.cp, .int .u32 L.pend, .int .u32 L.served, .int .u32 L.level, .slice (some ⟨p.e, 0, none⟩) L.enable.length p.ce, .slice (some ⟨p.l, 0, none⟩) L.limit.length p.cl] 31)).alloc (.cells #[.slice (some ⟨p'.r, 0, none⟩) L'.regs.length p'.cr, .int .u32 L'.pc, .int .i64 L'.mode, .bool L'.asleep, .slice (some ⟨p'.c, 0, none⟩) L'.csrs.length p'.cc, .string L'.ram, .slice (some ⟨p'.k, 0, none⟩) L'.clock.length p'.ck, .slice (some ⟨p'.p, 0, none⟩) L'.prio.length p'.cp, .int .u32 L'.pend, .int .u32 L'.served, .int .u32 L'.level, .slice (some ⟨p'.e, 0, none⟩) L'.enable.length p'.ce, .slice (some ⟨p'.l, 0, none⟩) L'.limit.length p'.cl] 31)) = w0 at H0 ⊢
  simp at H0
  generalize W.heap.size + 1 = g2 at H0 ⊢
  obtain ⟨k1_0, k1_1, k1_2, k1_3, k1_4, k1_5, k1_6, k1_7, k1_8, k1_9, k1_10, k1_11, k1_12⟩ := H0.out.b1
  obtain ⟨k2_0, k2_1, k2_2, k2_3, k2_4, k2_5, k2_6, k2_7, k2_8, k2_9, k2_10, k2_11, k2_12⟩ := H0.out.b2
  go_wp2_with fail
  refine (core_true _ p p' L L' H0.out.a1 H0.out.a2 HE.out.regs HE.out.ram).mono ?_
  rintro e w1 ⟨rfl, b1⟩
  have H1 : Hid (T2 W w1 W.heap.size g2 p p' L L') := H0.out.below b1
  clear b1 H0 k1_0 k1_1 k1_2 k1_3 k1_4 k1_5 k1_6 k1_7 k1_8 k1_9 k1_10 k1_11 k1_12 k2_0 k2_1 k2_2 k2_3 k2_4 k2_5 k2_6 k2_7 k2_8 k2_9 k2_10 k2_11 k2_12
  obtain ⟨k1_0, k1_1, k1_2, k1_3, k1_4, k1_5, k1_6, k1_7, k1_8, k1_9, k1_10, k1_11, k1_12⟩ := H1.out.b1
  obtain ⟨k2_0, k2_1, k2_2, k2_3, k2_4, k2_5, k2_6, k2_7, k2_8, k2_9, k2_10, k2_11, k2_12⟩ := H1.out.b2
  go_wp2_with fail
  refine (devices_true _ p p' L L' H1.out.a1 H1.out.a2 HE.out.clock HE.out.prio HE.out.enable HE.out.limit HE.out.pend HE.out.served HE.out.level).mono ?_
  rintro e w2 ⟨rfl, b2⟩
  have H2 : Hid (T2 W w2 W.heap.size g2 p p' L L') := H1.out.below b2
  clear b2 H1 k1_0 k1_1 k1_2 k1_3 k1_4 k1_5 k1_6 k1_7 k1_8 k1_9 k1_10 k1_11 k1_12 k2_0 k2_1 k2_2 k2_3 k2_4 k2_5 k2_6 k2_7 k2_8 k2_9 k2_10 k2_11 k2_12
  have k2_3 := H2.out.b2.c3
  rw [HE.out.asleep] at k2_3
  have k2_2 := H2.out.b2.c2
  rw [HE.out.mode] at k2_2
  have k1_1 := H2.out.b1.c1
  have k2_1 := H2.out.b2.c1
  have k1_4 := H2.out.b1.c4
  rw [HF.out.1.csrs] at k1_4
  have k2_4 := H2.out.b2.c4
  rw [HF.out.2.csrs] at k2_4
  have q10 := H2.out.a1.csrs.cell 10 (by rw [HF.out.1.csrs]; decide)
  have qv := H2.out.a1.csrs.cell 2 (by rw [HF.out.1.csrs]; decide)
  have qe := H2.out.a2.csrs.cell 4 (by rw [HF.out.2.csrs]; decide)
  rw [HE.out.epc] at qe
  have qc := H2.out.a2.csrs.cell 5 (by rw [HF.out.2.csrs]; decide)
  rw [HE.out.cause] at qc
  have qt := H2.out.a2.csrs.cell 6 (by rw [HF.out.2.csrs]; decide)
  rw [HE.out.tval] at qt
  have S10 : Hid (∀ w, Calls Tryz.prog 22 #[.int .u32 (L.csrs.getD 10 0), .int .i64 i] w fun e W' => e = .returned (.bool true) ∧ W' = w) := fun w => kset_is w _ i (by omega) _ HE.out.d
  have hpc := HE.out.pc
  have HB : Hid (∀ q, Below W.heap.size W (w2.drewN q)) := fun q => below_drawn H2.out.bel q
  generalize L.csrs.getD 10 0 = v10 at q10 S10
  generalize L.csrs.getD 2 0 = base at qv hpc
  generalize L'.pc = pc' at k2_1 hpc
  generalize L.pc = apc at k1_1 qe
  rw [hpc] at k2_1
  clear hpc HE H2 HF
  go_wp2_with fail
  refine (S10.out _).mono ?_
  rintro e w3 ⟨rfl, hw⟩
  rw [hw]
  clear hw w3 S10
  go_wp2_with fail
  go_quiet (fail)
  go_wp2_with fail
  go_ret
  exact ⟨rfl, HB.out _⟩
set_option maxHeartbeats 8000000 in
set_option maxRecDepth 100000 in
theorem taken_M (W : World) (p p' : Pl) (L L' : LSt) (st : StAt W p L) (st' : StAt W p' L') (F : LFull L) (F' : LFull L') (i : Nat) (hi : i < 12) (E : Tk L L' false i 3 14 15 16 12) :
    Calls Tryz.prog 10 #[.agg #[.slice (some ⟨p.r, 0, none⟩) L.regs.length p.cr, .int .u32 L.pc, .int .i64 L.mode, .bool L.asleep, .slice (some ⟨p.c, 0, none⟩) L.csrs.length p.cc, .string L.ram, .slice (some ⟨p.k, 0, none⟩) L.clock.length p.ck, .slice (some ⟨p.p, 0, none⟩) L.prio.length p.cp, .int .u32 L.pend, .int .u32 L.served, .int .u32 L.level, .slice (some ⟨p.e, 0, none⟩) L.enable.length p.ce, .slice (some ⟨p.l, 0, none⟩) L.limit.length p.cl], .agg #[.slice (some ⟨p'.r, 0, none⟩) L'.regs.length p'.cr, .int .u32 L'.pc, .int .i64 L'.mode, .bool L'.asleep, .slice (some ⟨p'.c, 0, none⟩) L'.csrs.length p'.cc, .string L'.ram, .slice (some ⟨p'.k, 0, none⟩) L'.clock.length p'.ck, .slice (some ⟨p'.p, 0, none⟩) L'.prio.length p'.cp, .int .u32 L'.pend, .int .u32 L'.served, .int .u32 L'.level, .slice (some ⟨p'.e, 0, none⟩) L'.enable.length p'.ce, .slice (some ⟨p'.l, 0, none⟩) L'.limit.length p'.cl], .int .i64 i] W fun e W' => e = .returned (.bool true) ∧ Below W.heap.size W W' := by
  have H0 : Hid (T2 W ((W.alloc (.cells #[.slice (some ⟨p.r, 0, none⟩) L.regs.length p.cr, .int .u32 L.pc, .int .i64 L.mode, .bool L.asleep, .slice (some ⟨p.c, 0, none⟩) L.csrs.length p.cc, .string L.ram, .slice (some ⟨p.k, 0, none⟩) L.clock.length p.ck, .slice (some ⟨p.p, 0, none⟩) L.prio.length p.cp, .int .u32 L.pend, .int .u32 L.served, .int .u32 L.level, .slice (some ⟨p.e, 0, none⟩) L.enable.length p.ce, .slice (some ⟨p.l, 0, none⟩) L.limit.length p.cl] 31)).alloc (.cells #[.slice (some ⟨p'.r, 0, none⟩) L'.regs.length p'.cr, .int .u32 L'.pc, .int .i64 L'.mode, .bool L'.asleep, .slice (some ⟨p'.c, 0, none⟩) L'.csrs.length p'.cc, .string L'.ram, .slice (some ⟨p'.k, 0, none⟩) L'.clock.length p'.ck, .slice (some ⟨p'.p, 0, none⟩) L'.prio.length p'.cp, .int .u32 L'.pend, .int .u32 L'.served, .int .u32 L'.level, .slice (some ⟨p'.e, 0, none⟩) L'.enable.length p'.ce, .slice (some ⟨p'.l, 0, none⟩) L'.limit.length p'.cl] 31)) W.heap.size (W.alloc (.cells #[.slice (some ⟨p.r, 0, none⟩) L.regs.length p.cr, .int .u32 L.pc, .int .i64 L.mode, .bool L.asleep, .slice (some ⟨p.c, 0, none⟩) L.csrs.length p.cc, .string L.ram, .slice (some ⟨p.k, 0, none⟩) L.clock.length p.ck, .slice (some ⟨p.p, 0, none⟩) L.prio.length p.cp, .int .u32 L.pend, .int .u32 L.served, .int .u32 L.level, .slice (some ⟨p.e, 0, none⟩) L.enable.length p.ce, .slice (some ⟨p.l, 0, none⟩) L.limit.length p.cl] 31)).heap.size p p' L L') := T2.new W p p' L L' st st'
  have HE : Hid (Tk L L' false i 3 14 15 16 12) := E
  have HF : Hid (LFull L ∧ LFull L') := ⟨F, F'⟩
  have hi' : (i : Int) < 12 := by omega
  clear st st' E F F'
  go_enter Tryz.func10, Tryz.ntmps10
  go_upto_region 1 with fail
  generalize ((W.alloc (.cells #[.slice (some ⟨p.r, 0, none⟩) L.regs.length p.cr, .int .u32 L.pc, .int .i64 L.mode, .bool L.asleep, .slice (some ⟨p.c, 0, none⟩) L.csrs.length p.cc, .string L.ram, .slice (some ⟨p.k, 0, none⟩) L.clock.length p.ck, .slice (some ⟨p.p, 0, none⟩) L.prio.length p.cp, .int .u32 L.pend, .int .u32 L.served, .int .u32 L.level, .slice (some ⟨p.e, 0, none⟩) L.enable.length p.ce, .slice (some ⟨p.l, 0, none⟩) L.limit.length p.cl] 31)).alloc (.cells #[.slice (some ⟨p'.r, 0, none⟩) L'.regs.length p'.cr, .int .u32 L'.pc, .int .i64 L'.mode, .bool L'.asleep, .slice (some ⟨p'.c, 0, none⟩) L'.csrs.length p'.cc, .string L'.ram, .slice (some ⟨p'.k, 0, none⟩) L'.clock.length p'.ck, .slice (some ⟨p'.p, 0, none⟩) L'.prio.length p'.cp, .int .u32 L'.pend, .int .u32 L'.served, .int .u32 L'.level, .slice (some ⟨p'.e, 0, none⟩) L'.enable.length p'.ce, .slice (some ⟨p'.l, 0, none⟩) L'.limit.length p'.cl] 31)) = w0 at H0 ⊢
  simp at H0
  generalize W.heap.size + 1 = g2 at H0 ⊢
  obtain ⟨k1_0, k1_1, k1_2, k1_3, k1_4, k1_5, k1_6, k1_7, k1_8, k1_9, k1_10, k1_11, k1_12⟩ := H0.out.b1
  obtain ⟨k2_0, k2_1, k2_2, k2_3, k2_4, k2_5, k2_6, k2_7, k2_8, k2_9, k2_10, k2_11, k2_12⟩ := H0.out.b2
  go_wp2_with fail
  refine (core_true _ p p' L L' H0.out.a1 H0.out.a2 HE.out.regs HE.out.ram).mono ?_
  rintro e w1 ⟨rfl, b1⟩
  have H1 : Hid (T2 W w1 W.heap.size g2 p p' L L') := H0.out.below b1
  clear b1 H0 k1_0 k1_1 k1_2 k1_3 k1_4 k1_5 k1_6 k1_7 k1_8 k1_9 k1_10 k1_11 k1_12 k2_0 k2_1 k2_2 k2_3 k2_4 k2_5 k2_6 k2_7 k2_8 k2_9 k2_10 k2_11 k2_12
  obtain ⟨k1_0, k1_1, k1_2, k1_3, k1_4, k1_5, k1_6, k1_7, k1_8, k1_9, k1_10, k1_11, k1_12⟩ := H1.out.b1
  obtain ⟨k2_0, k2_1, k2_2, k2_3, k2_4, k2_5, k2_6, k2_7, k2_8, k2_9, k2_10, k2_11, k2_12⟩ := H1.out.b2
  go_wp2_with fail
  refine (devices_true _ p p' L L' H1.out.a1 H1.out.a2 HE.out.clock HE.out.prio HE.out.enable HE.out.limit HE.out.pend HE.out.served HE.out.level).mono ?_
  rintro e w2 ⟨rfl, b2⟩
  have H2 : Hid (T2 W w2 W.heap.size g2 p p' L L') := H1.out.below b2
  clear b2 H1 k1_0 k1_1 k1_2 k1_3 k1_4 k1_5 k1_6 k1_7 k1_8 k1_9 k1_10 k1_11 k1_12 k2_0 k2_1 k2_2 k2_3 k2_4 k2_5 k2_6 k2_7 k2_8 k2_9 k2_10 k2_11 k2_12
  have k2_3 := H2.out.b2.c3
  rw [HE.out.asleep] at k2_3
  have k2_2 := H2.out.b2.c2
  rw [HE.out.mode] at k2_2
  have k1_1 := H2.out.b1.c1
  have k2_1 := H2.out.b2.c1
  have k1_4 := H2.out.b1.c4
  rw [HF.out.1.csrs] at k1_4
  have k2_4 := H2.out.b2.c4
  rw [HF.out.2.csrs] at k2_4
  have q10 := H2.out.a1.csrs.cell 10 (by rw [HF.out.1.csrs]; decide)
  have qv := H2.out.a1.csrs.cell 12 (by rw [HF.out.1.csrs]; decide)
  have qe := H2.out.a2.csrs.cell 14 (by rw [HF.out.2.csrs]; decide)
  rw [HE.out.epc] at qe
  have qc := H2.out.a2.csrs.cell 15 (by rw [HF.out.2.csrs]; decide)
  rw [HE.out.cause] at qc
  have qt := H2.out.a2.csrs.cell 16 (by rw [HF.out.2.csrs]; decide)
  rw [HE.out.tval] at qt
  have S10 : Hid (∀ w, Calls Tryz.prog 22 #[.int .u32 (L.csrs.getD 10 0), .int .i64 i] w fun e W' => e = .returned (.bool false) ∧ W' = w) := fun w => kset_is w _ i (by omega) _ HE.out.d
  have hpc := HE.out.pc
  have HB : Hid (∀ q, Below W.heap.size W (w2.drewN q)) := fun q => below_drawn H2.out.bel q
  generalize L.csrs.getD 10 0 = v10 at q10 S10
  generalize L.csrs.getD 12 0 = base at qv hpc
  generalize L'.pc = pc' at k2_1 hpc
  generalize L.pc = apc at k1_1 qe
  rw [hpc] at k2_1
  clear hpc HE H2 HF
  go_wp2_with fail
  refine (S10.out _).mono ?_
  rintro e w3 ⟨rfl, hw⟩
  rw [hw]
  clear hw w3 S10
  go_wp2_with fail
  go_quiet (fail)
  go_wp2_with fail
  go_ret
  exact ⟨rfl, HB.out _⟩
theorem andNot_3 {v : Int} (h : W32 v) : bits .andNot .u32 v 3 = bits .and .u32 v 4294967292 := by
  rw [u32_andNot v 3 h.1 h.2 (by decide) (by decide), u32_and v 4294967292 h.1 h.2 (by decide) (by decide)]
  rfl
theorem tk_S {s : RSt} (G : Gd s) (i : Nat) (hd : isB s.mideleg i = true) : Tk (lookC (cOf s)) (lookC (cOf (intR (wakeR s) i))) true i 1 4 5 6 2 := by
  have e : intR (wakeR s) i = trapS (wakeR s) (2147483648 + i) 0 (intBy s.stvec i) := by
    unfold intR trapR
    rw [show isB (wakeR s).mideleg i = true from hd]
    rfl
  rw [e]
  refine ⟨rfl, rfl, rfl, rfl, rfl, rfl, rfl, rfl, rfl, rfl, hd, rfl, rfl, rfl, rfl, ?_⟩
  · show (bits .and .u32 s.stvec 4294967292 + intBy s.stvec i) % 4294967296 = (bits .andNot .u32 s.stvec 3 + bits .and .u32 s.stvec 1 * 4 % 4294967296 * i % 4294967296) % 4294967296
    rw [andNot_3 G.stvec]
    rfl
theorem tk_M {s : RSt} (G : Gd s) (i : Nat) (hd : isB s.mideleg i = false) : Tk (lookC (cOf s)) (lookC (cOf (intR (wakeR s) i))) false i 3 14 15 16 12 := by
  have e : intR (wakeR s) i = trapM (wakeR s) (2147483648 + i) 0 (intBy s.mtvec i) := by
    unfold intR trapR
    rw [show isB (wakeR s).mideleg i = false from hd]
    rfl
  rw [e]
  refine ⟨rfl, rfl, rfl, rfl, rfl, rfl, rfl, rfl, rfl, rfl, hd, rfl, rfl, rfl, rfl, ?_⟩
  · show (bits .and .u32 s.mtvec 4294967292 + intBy s.mtvec i) % 4294967296 = (bits .andNot .u32 s.mtvec 3 + bits .and .u32 s.mtvec 1 * 4 % 4294967296 * i % 4294967296) % 4294967296
    rw [andNot_3 G.mtvec]
    rfl
end Go.Proofs.YteiideeechnekabGreatDoor
