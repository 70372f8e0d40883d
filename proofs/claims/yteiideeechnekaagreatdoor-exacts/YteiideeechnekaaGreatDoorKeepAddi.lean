/-
  hartkeep.exact: an Addi.
-/
import Derived.Test.YteiideeechnekaaGreatDoorKeepExact
namespace Go.Proofs.YteiideeechnekaaGreatDoor
open Go.RowKit

/-- What an Addi makes. -/
structure Ad (L L' : LSt) (m nd n1 : Nat) (imm : Int) : Prop where
  regs : L'.regs = if nd = 0 then L.regs else L.regs.set nd ((L.regs.getD n1 0 + imm) % 4294967296)
  ram : L'.ram = L.ram
  clock : L'.clock = L.clock
  prio : L'.prio = L.prio
  enable : L'.enable = L.enable
  limit : L'.limit = L.limit
  pend : L'.pend = L.pend
  served : L'.served = L.served
  level : L'.level = L.level
  csrs : L'.csrs = L.csrs
  asleep : L'.asleep = false
  mode : L'.mode = L.mode
  pc : L'.pc = (m : Int) + 4
/-- What is left to hold behind the store. -/
structure Ae (L L' : LSt) (m : Nat) : Prop where
  regs : L'.regs = L.regs
  ram : L'.ram = L.ram
  csrs : L'.csrs = L.csrs
  asleep : L'.asleep = false
  mode : L'.mode = L.mode
  pc : L'.pc = (m : Int) + 4
  pc0 : L.pc = m
  len : L.csrs.length = 19
  len' : L'.csrs.length = 19
set_option maxHeartbeats 8000000 in
set_option maxRecDepth 100000 in
theorem exact_addi_z (W : World) (T : D.Tabs W) (p p' : Pl) (L L' : LSt) (st : StAt W p L) (st' : StAt W p' L') (F : LFull L) (F' : LFull L') (bs : List Int) (hb : Byt bs) (hr : L.ram = bytesOf bs) (m : Nat) (hpc : L.pc = m) (ho : m + 4 ≤ bs.length) (nd n1 n2 : Nat) (imm : Int) (hd : D.dec (leV bs m 4) = ⟨19, nd, n1, n2, imm⟩) (z : nd = 0) (l1 : n1 < 32) (E : Ad L L' m nd n1 imm) : Calls Tryz.prog 23 #[.agg #[.slice (some ⟨p.r, 0, none⟩) L.regs.length p.cr, .int .u32 L.pc, .int .i64 L.mode, .bool L.asleep, .slice (some ⟨p.c, 0, none⟩) L.csrs.length p.cc, .string L.ram, .slice (some ⟨p.k, 0, none⟩) L.clock.length p.ck, .slice (some ⟨p.p, 0, none⟩) L.prio.length p.cp, .int .u32 L.pend, .int .u32 L.served, .int .u32 L.level, .slice (some ⟨p.e, 0, none⟩) L.enable.length p.ce, .slice (some ⟨p.l, 0, none⟩) L.limit.length p.cl], .agg #[.slice (some ⟨p'.r, 0, none⟩) L'.regs.length p'.cr, .int .u32 L'.pc, .int .i64 L'.mode, .bool L'.asleep, .slice (some ⟨p'.c, 0, none⟩) L'.csrs.length p'.cc, .string L'.ram, .slice (some ⟨p'.k, 0, none⟩) L'.clock.length p'.ck, .slice (some ⟨p'.p, 0, none⟩) L'.prio.length p'.cp, .int .u32 L'.pend, .int .u32 L'.served, .int .u32 L'.level, .slice (some ⟨p'.e, 0, none⟩) L'.enable.length p'.ce, .slice (some ⟨p'.l, 0, none⟩) L'.limit.length p'.cl]] W fun e W' => e = .returned (.bool true) ∧ Offs [p.r] W W' := by
  have l2 : nd < 32 := by omega
  have HZ : Hid (nd = 0) := z
  clear z
  have HB0 : Hid (Below W.heap.size W ((W.alloc (.cells #[.slice (some ⟨p.r, 0, none⟩) L.regs.length p.cr, .int .u32 L.pc, .int .i64 L.mode, .bool L.asleep, .slice (some ⟨p.c, 0, none⟩) L.csrs.length p.cc, .string L.ram, .slice (some ⟨p.k, 0, none⟩) L.clock.length p.ck, .slice (some ⟨p.p, 0, none⟩) L.prio.length p.cp, .int .u32 L.pend, .int .u32 L.served, .int .u32 L.level, .slice (some ⟨p.e, 0, none⟩) L.enable.length p.ce, .slice (some ⟨p.l, 0, none⟩) L.limit.length p.cl] 48)).alloc (.cells #[.slice (some ⟨p'.r, 0, none⟩) L'.regs.length p'.cr, .int .u32 L'.pc, .int .i64 L'.mode, .bool L'.asleep, .slice (some ⟨p'.c, 0, none⟩) L'.csrs.length p'.cc, .string L'.ram, .slice (some ⟨p'.k, 0, none⟩) L'.clock.length p'.ck, .slice (some ⟨p'.p, 0, none⟩) L'.prio.length p'.cp, .int .u32 L'.pend, .int .u32 L'.served, .int .u32 L'.level, .slice (some ⟨p'.e, 0, none⟩) L'.enable.length p'.ce, .slice (some ⟨p'.l, 0, none⟩) L'.limit.length p'.cl] 48))) := by
    have b1 : Below W.heap.size W (W.alloc (.cells #[.slice (some ⟨p.r, 0, none⟩) L.regs.length p.cr, .int .u32 L.pc, .int .i64 L.mode, .bool L.asleep, .slice (some ⟨p.c, 0, none⟩) L.csrs.length p.cc, .string L.ram, .slice (some ⟨p.k, 0, none⟩) L.clock.length p.ck, .slice (some ⟨p.p, 0, none⟩) L.prio.length p.cp, .int .u32 L.pend, .int .u32 L.served, .int .u32 L.level, .slice (some ⟨p.e, 0, none⟩) L.enable.length p.ce, .slice (some ⟨p.l, 0, none⟩) L.limit.length p.cl] 48)) := (Below.refl _ _).alloc (Nat.le_refl _) _
    have b2 : Below (W.alloc (.cells #[.slice (some ⟨p.r, 0, none⟩) L.regs.length p.cr, .int .u32 L.pc, .int .i64 L.mode, .bool L.asleep, .slice (some ⟨p.c, 0, none⟩) L.csrs.length p.cc, .string L.ram, .slice (some ⟨p.k, 0, none⟩) L.clock.length p.ck, .slice (some ⟨p.p, 0, none⟩) L.prio.length p.cp, .int .u32 L.pend, .int .u32 L.served, .int .u32 L.level, .slice (some ⟨p.e, 0, none⟩) L.enable.length p.ce, .slice (some ⟨p.l, 0, none⟩) L.limit.length p.cl] 48)).heap.size (W.alloc (.cells #[.slice (some ⟨p.r, 0, none⟩) L.regs.length p.cr, .int .u32 L.pc, .int .i64 L.mode, .bool L.asleep, .slice (some ⟨p.c, 0, none⟩) L.csrs.length p.cc, .string L.ram, .slice (some ⟨p.k, 0, none⟩) L.clock.length p.ck, .slice (some ⟨p.p, 0, none⟩) L.prio.length p.cp, .int .u32 L.pend, .int .u32 L.served, .int .u32 L.level, .slice (some ⟨p.e, 0, none⟩) L.enable.length p.ce, .slice (some ⟨p.l, 0, none⟩) L.limit.length p.cl] 48)) ((W.alloc (.cells #[.slice (some ⟨p.r, 0, none⟩) L.regs.length p.cr, .int .u32 L.pc, .int .i64 L.mode, .bool L.asleep, .slice (some ⟨p.c, 0, none⟩) L.csrs.length p.cc, .string L.ram, .slice (some ⟨p.k, 0, none⟩) L.clock.length p.ck, .slice (some ⟨p.p, 0, none⟩) L.prio.length p.cp, .int .u32 L.pend, .int .u32 L.served, .int .u32 L.level, .slice (some ⟨p.e, 0, none⟩) L.enable.length p.ce, .slice (some ⟨p.l, 0, none⟩) L.limit.length p.cl] 48)).alloc (.cells #[.slice (some ⟨p'.r, 0, none⟩) L'.regs.length p'.cr, .int .u32 L'.pc, .int .i64 L'.mode, .bool L'.asleep, .slice (some ⟨p'.c, 0, none⟩) L'.csrs.length p'.cc, .string L'.ram, .slice (some ⟨p'.k, 0, none⟩) L'.clock.length p'.ck, .slice (some ⟨p'.p, 0, none⟩) L'.prio.length p'.cp, .int .u32 L'.pend, .int .u32 L'.served, .int .u32 L'.level, .slice (some ⟨p'.e, 0, none⟩) L'.enable.length p'.ce, .slice (some ⟨p'.l, 0, none⟩) L'.limit.length p'.cl] 48)) := (Below.refl _ _).alloc (Nat.le_refl _) _
    exact b1.trans (b2.mono b1.size)
  have H0 : Hid (T2 W ((W.alloc (.cells #[.slice (some ⟨p.r, 0, none⟩) L.regs.length p.cr, .int .u32 L.pc, .int .i64 L.mode, .bool L.asleep, .slice (some ⟨p.c, 0, none⟩) L.csrs.length p.cc, .string L.ram, .slice (some ⟨p.k, 0, none⟩) L.clock.length p.ck, .slice (some ⟨p.p, 0, none⟩) L.prio.length p.cp, .int .u32 L.pend, .int .u32 L.served, .int .u32 L.level, .slice (some ⟨p.e, 0, none⟩) L.enable.length p.ce, .slice (some ⟨p.l, 0, none⟩) L.limit.length p.cl] 48)).alloc (.cells #[.slice (some ⟨p'.r, 0, none⟩) L'.regs.length p'.cr, .int .u32 L'.pc, .int .i64 L'.mode, .bool L'.asleep, .slice (some ⟨p'.c, 0, none⟩) L'.csrs.length p'.cc, .string L'.ram, .slice (some ⟨p'.k, 0, none⟩) L'.clock.length p'.ck, .slice (some ⟨p'.p, 0, none⟩) L'.prio.length p'.cp, .int .u32 L'.pend, .int .u32 L'.served, .int .u32 L'.level, .slice (some ⟨p'.e, 0, none⟩) L'.enable.length p'.ce, .slice (some ⟨p'.l, 0, none⟩) L'.limit.length p'.cl] 48)) W.heap.size (W.alloc (.cells #[.slice (some ⟨p.r, 0, none⟩) L.regs.length p.cr, .int .u32 L.pc, .int .i64 L.mode, .bool L.asleep, .slice (some ⟨p.c, 0, none⟩) L.csrs.length p.cc, .string L.ram, .slice (some ⟨p.k, 0, none⟩) L.clock.length p.ck, .slice (some ⟨p.p, 0, none⟩) L.prio.length p.cp, .int .u32 L.pend, .int .u32 L.served, .int .u32 L.level, .slice (some ⟨p.e, 0, none⟩) L.enable.length p.ce, .slice (some ⟨p.l, 0, none⟩) L.limit.length p.cl] 48)).heap.size p p' L L') := T2.new W p p' L L' st st'
  have HPC : Hid (L.pc = m) := hpc
  clear hpc
  have HF : Hid (LFull L ∧ LFull L') := ⟨F, F'⟩
  have hsz : L.ram.size = bs.length := by rw [hr]; exact bytesOf_size bs
  have h512 : L.ram.size ≤ 512 := F.ram
  have HE : Hid (Ad L L' m nd n1 imm) := E
  have hn1 : (n1 : Int) < 32 := by omega
  have hnd : (nd : Int) < 32 := by omega
  have HEV : Hid (leV bs m 4 = leV bs m 4) := rfl
  clear E
  have HWd : Hid (∀ w, Calls Tryz.prog 52 #[.string L.ram, .int .i64 m] w fun e W' => e = .returned (.int .u32 (leV bs m 4)) ∧ ∃ q, W' = w.drewN q) := fun w => by rw [hr]; exact word_le w bs hb m ho (by omega)
  have HDe : Hid (∀ w, Below W.heap.size W w → Calls Tryz.prog 42 #[.int .u32 (leV bs m 4)] w fun e W' => e = .returned (.agg #[.int .i64 19, .int .i64 nd, .int .i64 n1, .int .i64 n2, .int .u32 imm]) ∧ Below w.heap.size w W') := fun w hw => by
    have lv := (leV_bd hb m).2.2
    have := decode_any (leV bs m 4) w lv.1 lv.2 (T.below T.size hw)
    rw [hd] at this
    exact this
  have hl : (m : Int) + 4 ≤ L.ram.size := by omega
  have h512' : (L.ram.size : Int) ≤ 512 := by omega
  clear st st' F F' ho hsz hr h512 T hd hb
  go_enter Tryz.func23, Tryz.ntmps23
  go_upto_region 1 with fail
  generalize ((W.alloc (.cells #[.slice (some ⟨p.r, 0, none⟩) L.regs.length p.cr, .int .u32 L.pc, .int .i64 L.mode, .bool L.asleep, .slice (some ⟨p.c, 0, none⟩) L.csrs.length p.cc, .string L.ram, .slice (some ⟨p.k, 0, none⟩) L.clock.length p.ck, .slice (some ⟨p.p, 0, none⟩) L.prio.length p.cp, .int .u32 L.pend, .int .u32 L.served, .int .u32 L.level, .slice (some ⟨p.e, 0, none⟩) L.enable.length p.ce, .slice (some ⟨p.l, 0, none⟩) L.limit.length p.cl] 48)).alloc (.cells #[.slice (some ⟨p'.r, 0, none⟩) L'.regs.length p'.cr, .int .u32 L'.pc, .int .i64 L'.mode, .bool L'.asleep, .slice (some ⟨p'.c, 0, none⟩) L'.csrs.length p'.cc, .string L'.ram, .slice (some ⟨p'.k, 0, none⟩) L'.clock.length p'.ck, .slice (some ⟨p'.p, 0, none⟩) L'.prio.length p'.cp, .int .u32 L'.pend, .int .u32 L'.served, .int .u32 L'.level, .slice (some ⟨p'.e, 0, none⟩) L'.enable.length p'.ce, .slice (some ⟨p'.l, 0, none⟩) L'.limit.length p'.cl] 48)) = w0 at H0 HB0 ⊢
  simp at H0
  have hg2 : W.heap.size < W.heap.size + 1 := by omega
  generalize W.heap.size + 1 = g2 at H0 hg2 ⊢
  have HG2 : Hid (W.heap.size < g2) := hg2
  clear hg2
  have k1_1 := H0.out.b1.c1
  rw [HPC.out] at k1_1
  have k1_5 := H0.out.b1.c5
  go_wp2_with fail
  refine (HWd.out _).mono ?_
  rintro e w1 ⟨rfl, q1, hw1⟩
  have H1 : Hid (T2 W w1 W.heap.size g2 p p' L L') := H0.out.below (by rw [hw1]; exact below_drawn (Below.refl _ _) _)
  have HB1 : Hid (Below W.heap.size W w1) := by have := HB0.out; rw [hw1]; exact below_drawn this _
  clear hw1 HB0 H0 k1_1 k1_5
  generalize leV bs m 4 = wv at HDe HEV ⊢
  go_wp2_with fail
  refine (HDe.out _ HB1.out).mono ?_
  rintro e w2 ⟨rfl, b2⟩
  have H3 : Hid (T3 W (w2.alloc (.cells #[.int .i64 19, .int .i64 nd, .int .i64 n1, .int .i64 n2, .int .u32 imm] 72)) W.heap.size g2 w2.heap.size p p' L L' 19 nd n1 n2 imm) := ⟨(H1.out.below b2).below ((Below.refl w2.heap.size w2).alloc (Nat.le_refl _) _), DX.new w2 19 nd n1 n2 imm⟩
  have HW2 : W.heap.size ≤ w2.heap.size := Nat.le_trans HB1.out.size b2.size
  clear b2 H1 HDe HB1
  obtain ⟨k1_0, k1_1, k1_2, k1_3, k1_4, k1_5, k1_6, k1_7, k1_8, k1_9, k1_10, k1_11, k1_12⟩ := H3.out.t.b1
  obtain ⟨k2_0, k2_1, k2_2, k2_3, k2_4, k2_5, k2_6, k2_7, k2_8, k2_9, k2_10, k2_11, k2_12⟩ := H3.out.t.b2
  go_wp2_with fail
  refine (devices_true _ p p' L L' H3.out.t.a1 H3.out.t.a2 HE.out.clock HE.out.prio HE.out.enable HE.out.limit HE.out.pend HE.out.served HE.out.level).mono ?_
  rintro e w4 ⟨rfl, b4⟩
  have H4 : Hid (T3 W w4 W.heap.size g2 w2.heap.size p p' L L' 19 nd n1 n2 imm) := H3.out.below b4
  clear b4 H3 k1_0 k1_1 k1_2 k1_3 k1_4 k1_5 k1_6 k1_7 k1_8 k1_9 k1_10 k1_11 k1_12 k2_0 k2_1 k2_2 k2_3 k2_4 k2_5 k2_6 k2_7 k2_8 k2_9 k2_10 k2_11 k2_12
  have HG3 : Hid (W.heap.size ≤ w2.heap.size) := HW2
  generalize w2.heap.size = g3 at H4 HG3 ⊢
  have d0 := H4.out.d.c0
  have d1 := H4.out.d.c1
  have d2 := H4.out.d.c2
  have d4 := H4.out.d.c4
  have k1_0 := H4.out.t.b1.c0
  rw [HF.out.1.regs] at k1_0
  have x1 := H4.out.t.a1.regs.cell n1 (by rw [HF.out.1.regs]; omega)
  clear HEV
  have z' : ((nd : Int) != 0) = false := by have := HZ.out; simpa using this
  have HR : Hid (L'.regs = L.regs) := by have := HE.out.regs; rw [if_pos HZ.out] at this; exact this
  go_wp2_with fail
  go_quiet (fail)
  go_upto_region 10 with fail
  generalize hw6 : World.drewN w4 _ = w6
  have H6 : Hid (T3 W w6 W.heap.size g2 g3 p p' L L' 19 nd n1 n2 imm) := H4.out.below (by rw [← hw6]; exact below_drawn (Below.refl _ _) _)
  clear hw6 H4 d0 d1 d2 d4 k1_0 x1
  have HA : Hid (Ae L L' m) := ⟨HR.out, HE.out.ram, HE.out.csrs, HE.out.asleep, HE.out.mode, HE.out.pc, HPC.out, HF.out.1.csrs, HF.out.2.csrs⟩
  obtain ⟨k1_0, k1_1, k1_2, k1_3, k1_4, k1_5, k1_6, k1_7, k1_8, k1_9, k1_10, k1_11, k1_12⟩ := H6.out.t.b1
  obtain ⟨k2_0, k2_1, k2_2, k2_3, k2_4, k2_5, k2_6, k2_7, k2_8, k2_9, k2_10, k2_11, k2_12⟩ := H6.out.t.b2
  go_wp2_with fail
  refine (core_true _ p p' L L' H6.out.t.a1 H6.out.t.a2 HA.out.regs HA.out.ram).mono ?_
  rintro e w7 ⟨rfl, b7⟩
  have H7 : Hid (T3 W w7 W.heap.size g2 g3 p p' L L' 19 nd n1 n2 imm) := H6.out.below b7
  clear b7 H6 k1_0 k1_1 k1_2 k1_3 k1_4 k1_5 k1_6 k1_7 k1_8 k1_9 k1_10 k1_11 k1_12 k2_0 k2_1 k2_2 k2_3 k2_4 k2_5 k2_6 k2_7 k2_8 k2_9 k2_10 k2_11 k2_12
  have k1_1 := H7.out.t.b1.c1
  rw [HA.out.pc0] at k1_1
  have k1_2 := H7.out.t.b1.c2
  have k1_4 := H7.out.t.b1.c4
  rw [HA.out.len] at k1_4
  have k2_1 := H7.out.t.b2.c1
  rw [HA.out.pc] at k2_1
  have k2_2 := H7.out.t.b2.c2
  rw [HA.out.mode] at k2_2
  have k2_3 := H7.out.t.b2.c3
  rw [HA.out.asleep] at k2_3
  have k2_4 := H7.out.t.b2.c4
  rw [HA.out.len'] at k2_4
  go_wp2_with fail
  refine (kwords' _ p.c p'.c p.cc p'.cc L.csrs L'.csrs 19 HA.out.len HA.out.csrs H7.out.t.a1.csrs H7.out.t.a2.csrs).mono ?_
  rintro e w8 ⟨rfl, q8, hw8⟩
  have HB : Hid (Offs [p.r] W w8) := by have := H7.out.t.o; rw [hw8]; exact this.drawn _
  have H8 : Hid (T3 W w8 W.heap.size g2 g3 p p' L L' 19 nd n1 n2 imm) := H7.out.below (by rw [hw8]; exact below_drawn (Below.refl _ _) _)
  clear hw8 H7 k1_1 k1_2 k1_4 k2_1 k2_2 k2_3 k2_4
  have k1_1 := H8.out.t.b1.c1
  rw [HA.out.pc0] at k1_1
  have k1_2 := H8.out.t.b1.c2
  have k1_4 := H8.out.t.b1.c4
  rw [HA.out.len] at k1_4
  have k2_1 := H8.out.t.b2.c1
  rw [HA.out.pc] at k2_1
  have k2_2 := H8.out.t.b2.c2
  rw [HA.out.mode] at k2_2
  have k2_3 := H8.out.t.b2.c3
  rw [HA.out.asleep] at k2_3
  have k2_4 := H8.out.t.b2.c4
  rw [HA.out.len'] at k2_4
  clear H8
  go_wp2
  go_ret
  exact ⟨rfl, HB.out⟩
set_option maxHeartbeats 8000000 in
set_option maxRecDepth 100000 in
theorem exact_addi_n (W : World) (T : D.Tabs W) (p p' : Pl) (L L' : LSt) (st : StAt W p L) (st' : StAt W p' L') (F : LFull L) (F' : LFull L') (bs : List Int) (hb : Byt bs) (hr : L.ram = bytesOf bs) (m : Nat) (hpc : L.pc = m) (ho : m + 4 ≤ bs.length) (nd n1 n2 : Nat) (imm : Int) (hd : D.dec (leV bs m 4) = ⟨19, nd, n1, n2, imm⟩) (z : nd ≠ 0) (l1 : n1 < 32) (l2 : nd < 32) (E : Ad L L' m nd n1 imm) (n : p.c ≠ p.r ∧ p.k ≠ p.r ∧ p.p ≠ p.r ∧ p.e ≠ p.r ∧ p.l ≠ p.r) (n' : p'.r ≠ p.r ∧ p'.c ≠ p.r ∧ p'.k ≠ p.r ∧ p'.p ≠ p.r ∧ p'.e ≠ p.r ∧ p'.l ≠ p.r) : Calls Tryz.prog 23 #[.agg #[.slice (some ⟨p.r, 0, none⟩) L.regs.length p.cr, .int .u32 L.pc, .int .i64 L.mode, .bool L.asleep, .slice (some ⟨p.c, 0, none⟩) L.csrs.length p.cc, .string L.ram, .slice (some ⟨p.k, 0, none⟩) L.clock.length p.ck, .slice (some ⟨p.p, 0, none⟩) L.prio.length p.cp, .int .u32 L.pend, .int .u32 L.served, .int .u32 L.level, .slice (some ⟨p.e, 0, none⟩) L.enable.length p.ce, .slice (some ⟨p.l, 0, none⟩) L.limit.length p.cl], .agg #[.slice (some ⟨p'.r, 0, none⟩) L'.regs.length p'.cr, .int .u32 L'.pc, .int .i64 L'.mode, .bool L'.asleep, .slice (some ⟨p'.c, 0, none⟩) L'.csrs.length p'.cc, .string L'.ram, .slice (some ⟨p'.k, 0, none⟩) L'.clock.length p'.ck, .slice (some ⟨p'.p, 0, none⟩) L'.prio.length p'.cp, .int .u32 L'.pend, .int .u32 L'.served, .int .u32 L'.level, .slice (some ⟨p'.e, 0, none⟩) L'.enable.length p'.ce, .slice (some ⟨p'.l, 0, none⟩) L'.limit.length p'.cl]] W fun e W' => e = .returned (.bool true) ∧ Offs [p.r] W W' := by
  have HN : Hid (p.r < W.heap.size) := st.lt.1
  have HZ : Hid (nd ≠ 0) := z
  clear z
  have HB0 : Hid (Below W.heap.size W ((W.alloc (.cells #[.slice (some ⟨p.r, 0, none⟩) L.regs.length p.cr, .int .u32 L.pc, .int .i64 L.mode, .bool L.asleep, .slice (some ⟨p.c, 0, none⟩) L.csrs.length p.cc, .string L.ram, .slice (some ⟨p.k, 0, none⟩) L.clock.length p.ck, .slice (some ⟨p.p, 0, none⟩) L.prio.length p.cp, .int .u32 L.pend, .int .u32 L.served, .int .u32 L.level, .slice (some ⟨p.e, 0, none⟩) L.enable.length p.ce, .slice (some ⟨p.l, 0, none⟩) L.limit.length p.cl] 48)).alloc (.cells #[.slice (some ⟨p'.r, 0, none⟩) L'.regs.length p'.cr, .int .u32 L'.pc, .int .i64 L'.mode, .bool L'.asleep, .slice (some ⟨p'.c, 0, none⟩) L'.csrs.length p'.cc, .string L'.ram, .slice (some ⟨p'.k, 0, none⟩) L'.clock.length p'.ck, .slice (some ⟨p'.p, 0, none⟩) L'.prio.length p'.cp, .int .u32 L'.pend, .int .u32 L'.served, .int .u32 L'.level, .slice (some ⟨p'.e, 0, none⟩) L'.enable.length p'.ce, .slice (some ⟨p'.l, 0, none⟩) L'.limit.length p'.cl] 48))) := by
    have b1 : Below W.heap.size W (W.alloc (.cells #[.slice (some ⟨p.r, 0, none⟩) L.regs.length p.cr, .int .u32 L.pc, .int .i64 L.mode, .bool L.asleep, .slice (some ⟨p.c, 0, none⟩) L.csrs.length p.cc, .string L.ram, .slice (some ⟨p.k, 0, none⟩) L.clock.length p.ck, .slice (some ⟨p.p, 0, none⟩) L.prio.length p.cp, .int .u32 L.pend, .int .u32 L.served, .int .u32 L.level, .slice (some ⟨p.e, 0, none⟩) L.enable.length p.ce, .slice (some ⟨p.l, 0, none⟩) L.limit.length p.cl] 48)) := (Below.refl _ _).alloc (Nat.le_refl _) _
    have b2 : Below (W.alloc (.cells #[.slice (some ⟨p.r, 0, none⟩) L.regs.length p.cr, .int .u32 L.pc, .int .i64 L.mode, .bool L.asleep, .slice (some ⟨p.c, 0, none⟩) L.csrs.length p.cc, .string L.ram, .slice (some ⟨p.k, 0, none⟩) L.clock.length p.ck, .slice (some ⟨p.p, 0, none⟩) L.prio.length p.cp, .int .u32 L.pend, .int .u32 L.served, .int .u32 L.level, .slice (some ⟨p.e, 0, none⟩) L.enable.length p.ce, .slice (some ⟨p.l, 0, none⟩) L.limit.length p.cl] 48)).heap.size (W.alloc (.cells #[.slice (some ⟨p.r, 0, none⟩) L.regs.length p.cr, .int .u32 L.pc, .int .i64 L.mode, .bool L.asleep, .slice (some ⟨p.c, 0, none⟩) L.csrs.length p.cc, .string L.ram, .slice (some ⟨p.k, 0, none⟩) L.clock.length p.ck, .slice (some ⟨p.p, 0, none⟩) L.prio.length p.cp, .int .u32 L.pend, .int .u32 L.served, .int .u32 L.level, .slice (some ⟨p.e, 0, none⟩) L.enable.length p.ce, .slice (some ⟨p.l, 0, none⟩) L.limit.length p.cl] 48)) ((W.alloc (.cells #[.slice (some ⟨p.r, 0, none⟩) L.regs.length p.cr, .int .u32 L.pc, .int .i64 L.mode, .bool L.asleep, .slice (some ⟨p.c, 0, none⟩) L.csrs.length p.cc, .string L.ram, .slice (some ⟨p.k, 0, none⟩) L.clock.length p.ck, .slice (some ⟨p.p, 0, none⟩) L.prio.length p.cp, .int .u32 L.pend, .int .u32 L.served, .int .u32 L.level, .slice (some ⟨p.e, 0, none⟩) L.enable.length p.ce, .slice (some ⟨p.l, 0, none⟩) L.limit.length p.cl] 48)).alloc (.cells #[.slice (some ⟨p'.r, 0, none⟩) L'.regs.length p'.cr, .int .u32 L'.pc, .int .i64 L'.mode, .bool L'.asleep, .slice (some ⟨p'.c, 0, none⟩) L'.csrs.length p'.cc, .string L'.ram, .slice (some ⟨p'.k, 0, none⟩) L'.clock.length p'.ck, .slice (some ⟨p'.p, 0, none⟩) L'.prio.length p'.cp, .int .u32 L'.pend, .int .u32 L'.served, .int .u32 L'.level, .slice (some ⟨p'.e, 0, none⟩) L'.enable.length p'.ce, .slice (some ⟨p'.l, 0, none⟩) L'.limit.length p'.cl] 48)) := (Below.refl _ _).alloc (Nat.le_refl _) _
    exact b1.trans (b2.mono b1.size)
  have H0 : Hid (T2 W ((W.alloc (.cells #[.slice (some ⟨p.r, 0, none⟩) L.regs.length p.cr, .int .u32 L.pc, .int .i64 L.mode, .bool L.asleep, .slice (some ⟨p.c, 0, none⟩) L.csrs.length p.cc, .string L.ram, .slice (some ⟨p.k, 0, none⟩) L.clock.length p.ck, .slice (some ⟨p.p, 0, none⟩) L.prio.length p.cp, .int .u32 L.pend, .int .u32 L.served, .int .u32 L.level, .slice (some ⟨p.e, 0, none⟩) L.enable.length p.ce, .slice (some ⟨p.l, 0, none⟩) L.limit.length p.cl] 48)).alloc (.cells #[.slice (some ⟨p'.r, 0, none⟩) L'.regs.length p'.cr, .int .u32 L'.pc, .int .i64 L'.mode, .bool L'.asleep, .slice (some ⟨p'.c, 0, none⟩) L'.csrs.length p'.cc, .string L'.ram, .slice (some ⟨p'.k, 0, none⟩) L'.clock.length p'.ck, .slice (some ⟨p'.p, 0, none⟩) L'.prio.length p'.cp, .int .u32 L'.pend, .int .u32 L'.served, .int .u32 L'.level, .slice (some ⟨p'.e, 0, none⟩) L'.enable.length p'.ce, .slice (some ⟨p'.l, 0, none⟩) L'.limit.length p'.cl] 48)) W.heap.size (W.alloc (.cells #[.slice (some ⟨p.r, 0, none⟩) L.regs.length p.cr, .int .u32 L.pc, .int .i64 L.mode, .bool L.asleep, .slice (some ⟨p.c, 0, none⟩) L.csrs.length p.cc, .string L.ram, .slice (some ⟨p.k, 0, none⟩) L.clock.length p.ck, .slice (some ⟨p.p, 0, none⟩) L.prio.length p.cp, .int .u32 L.pend, .int .u32 L.served, .int .u32 L.level, .slice (some ⟨p.e, 0, none⟩) L.enable.length p.ce, .slice (some ⟨p.l, 0, none⟩) L.limit.length p.cl] 48)).heap.size p p' L L') := T2.new W p p' L L' st st'
  have HPC : Hid (L.pc = m) := hpc
  clear hpc
  have HF : Hid (LFull L ∧ LFull L') := ⟨F, F'⟩
  have hsz : L.ram.size = bs.length := by rw [hr]; exact bytesOf_size bs
  have h512 : L.ram.size ≤ 512 := F.ram
  have HE : Hid (Ad L L' m nd n1 imm) := E
  have hn1 : (n1 : Int) < 32 := by omega
  have hnd : (nd : Int) < 32 := by omega
  have HEV : Hid (leV bs m 4 = leV bs m 4) := rfl
  clear E
  have HWd : Hid (∀ w, Calls Tryz.prog 52 #[.string L.ram, .int .i64 m] w fun e W' => e = .returned (.int .u32 (leV bs m 4)) ∧ ∃ q, W' = w.drewN q) := fun w => by rw [hr]; exact word_le w bs hb m ho (by omega)
  have HDe : Hid (∀ w, Below W.heap.size W w → Calls Tryz.prog 42 #[.int .u32 (leV bs m 4)] w fun e W' => e = .returned (.agg #[.int .i64 19, .int .i64 nd, .int .i64 n1, .int .i64 n2, .int .u32 imm]) ∧ Below w.heap.size w W') := fun w hw => by
    have lv := (leV_bd hb m).2.2
    have := decode_any (leV bs m 4) w lv.1 lv.2 (T.below T.size hw)
    rw [hd] at this
    exact this
  have hl : (m : Int) + 4 ≤ L.ram.size := by omega
  have h512' : (L.ram.size : Int) ≤ 512 := by omega
  clear st st' F F' ho hsz hr h512 T hd hb
  go_enter Tryz.func23, Tryz.ntmps23
  go_upto_region 1 with fail
  generalize ((W.alloc (.cells #[.slice (some ⟨p.r, 0, none⟩) L.regs.length p.cr, .int .u32 L.pc, .int .i64 L.mode, .bool L.asleep, .slice (some ⟨p.c, 0, none⟩) L.csrs.length p.cc, .string L.ram, .slice (some ⟨p.k, 0, none⟩) L.clock.length p.ck, .slice (some ⟨p.p, 0, none⟩) L.prio.length p.cp, .int .u32 L.pend, .int .u32 L.served, .int .u32 L.level, .slice (some ⟨p.e, 0, none⟩) L.enable.length p.ce, .slice (some ⟨p.l, 0, none⟩) L.limit.length p.cl] 48)).alloc (.cells #[.slice (some ⟨p'.r, 0, none⟩) L'.regs.length p'.cr, .int .u32 L'.pc, .int .i64 L'.mode, .bool L'.asleep, .slice (some ⟨p'.c, 0, none⟩) L'.csrs.length p'.cc, .string L'.ram, .slice (some ⟨p'.k, 0, none⟩) L'.clock.length p'.ck, .slice (some ⟨p'.p, 0, none⟩) L'.prio.length p'.cp, .int .u32 L'.pend, .int .u32 L'.served, .int .u32 L'.level, .slice (some ⟨p'.e, 0, none⟩) L'.enable.length p'.ce, .slice (some ⟨p'.l, 0, none⟩) L'.limit.length p'.cl] 48)) = w0 at H0 HB0 ⊢
  simp at H0
  have hg2 : W.heap.size < W.heap.size + 1 := by omega
  generalize W.heap.size + 1 = g2 at H0 hg2 ⊢
  have HG2 : Hid (W.heap.size < g2) := hg2
  clear hg2
  have k1_1 := H0.out.b1.c1
  rw [HPC.out] at k1_1
  have k1_5 := H0.out.b1.c5
  go_wp2_with fail
  refine (HWd.out _).mono ?_
  rintro e w1 ⟨rfl, q1, hw1⟩
  have H1 : Hid (T2 W w1 W.heap.size g2 p p' L L') := H0.out.below (by rw [hw1]; exact below_drawn (Below.refl _ _) _)
  have HB1 : Hid (Below W.heap.size W w1) := by have := HB0.out; rw [hw1]; exact below_drawn this _
  clear hw1 HB0 H0 k1_1 k1_5
  generalize leV bs m 4 = wv at HDe HEV ⊢
  go_wp2_with fail
  refine (HDe.out _ HB1.out).mono ?_
  rintro e w2 ⟨rfl, b2⟩
  have H3 : Hid (T3 W (w2.alloc (.cells #[.int .i64 19, .int .i64 nd, .int .i64 n1, .int .i64 n2, .int .u32 imm] 72)) W.heap.size g2 w2.heap.size p p' L L' 19 nd n1 n2 imm) := ⟨(H1.out.below b2).below ((Below.refl w2.heap.size w2).alloc (Nat.le_refl _) _), DX.new w2 19 nd n1 n2 imm⟩
  have HW2 : W.heap.size ≤ w2.heap.size := Nat.le_trans HB1.out.size b2.size
  clear b2 H1 HDe HB1
  obtain ⟨k1_0, k1_1, k1_2, k1_3, k1_4, k1_5, k1_6, k1_7, k1_8, k1_9, k1_10, k1_11, k1_12⟩ := H3.out.t.b1
  obtain ⟨k2_0, k2_1, k2_2, k2_3, k2_4, k2_5, k2_6, k2_7, k2_8, k2_9, k2_10, k2_11, k2_12⟩ := H3.out.t.b2
  go_wp2_with fail
  refine (devices_true _ p p' L L' H3.out.t.a1 H3.out.t.a2 HE.out.clock HE.out.prio HE.out.enable HE.out.limit HE.out.pend HE.out.served HE.out.level).mono ?_
  rintro e w4 ⟨rfl, b4⟩
  have H4 : Hid (T3 W w4 W.heap.size g2 w2.heap.size p p' L L' 19 nd n1 n2 imm) := H3.out.below b4
  clear b4 H3 k1_0 k1_1 k1_2 k1_3 k1_4 k1_5 k1_6 k1_7 k1_8 k1_9 k1_10 k1_11 k1_12 k2_0 k2_1 k2_2 k2_3 k2_4 k2_5 k2_6 k2_7 k2_8 k2_9 k2_10 k2_11 k2_12
  have HG3 : Hid (W.heap.size ≤ w2.heap.size) := HW2
  generalize w2.heap.size = g3 at H4 HG3 ⊢
  have d0 := H4.out.d.c0
  have d1 := H4.out.d.c1
  have d2 := H4.out.d.c2
  have d4 := H4.out.d.c4
  have k1_0 := H4.out.t.b1.c0
  rw [HF.out.1.regs] at k1_0
  have x1 := H4.out.t.a1.regs.cell n1 (by rw [HF.out.1.regs]; omega)
  clear HEV
  have z' : ((nd : Int) != 0) = true := by have := HZ.out; simpa using this
  have HR : Hid (L'.regs = L.regs.set nd ((L.regs.getD n1 0 + imm) % 4294967296)) := by have := HE.out.regs; rw [if_neg HZ.out] at this; exact this
  have fz : ∀ j, w4.frozen? ⟨p.r, j, none⟩ = false := fun j => by obtain ⟨cur, h1, _⟩ := H4.out.t.a1.regs; simp [World.frozen?, h1]
  have xd := H4.out.t.a1.regs.cell nd (by rw [HF.out.1.regs]; omega)
  have HG : Hid (p.r < g2 ∧ p.r < g3) := ⟨Nat.lt_trans HN.out HG2.out, Nat.lt_of_lt_of_le HN.out HG3.out⟩
  go_wp2_with fail
  go_quiet (fail)
  go_upto_region 10 with fail
  have HP : Hid (∀ q v, v = (L.regs.getD n1 0 + imm) % 4294967296 → T3 W ((w4.drewN q).setCell ⟨p.r, nd, none⟩ (.int .u32 v)) W.heap.size g2 g3 p p' { L with regs := L.regs.set nd ((L.regs.getD n1 0 + imm) % 4294967296) } L' 19 nd n1 n2 imm) := fun q v hv => by
    subst hv
    have a := HN.out
    have b := HG.out
    exact ⟨H4.out.t.put q nd _ ⟨by omega, by omega, n⟩ n', H4.out.d.of (Below.heap_setCell _ _ _ _ (show g3 ≠ p.r by omega))⟩
  generalize hw6 : World.setCell (World.drewN w4 _) _ _ = w6
  have H6 : Hid (T3 W w6 W.heap.size g2 g3 p p' { L with regs := L.regs.set nd ((L.regs.getD n1 0 + imm) % 4294967296) } L' 19 nd n1 n2 imm) := by
    rw [← hw6]
    exact HP.out _ _ (by simp)
  clear hw6 H4 d0 d1 d2 d4 k1_0 x1 xd fz HP
  have HA0 : Hid (Ae { L with regs := L.regs.set nd ((L.regs.getD n1 0 + imm) % 4294967296) } L' m) := ⟨HR.out, HE.out.ram, HE.out.csrs, HE.out.asleep, HE.out.mode, HE.out.pc, HPC.out, HF.out.1.csrs, HF.out.2.csrs⟩
  obtain ⟨L1, hL1⟩ : ∃ L1 : LSt, { L with regs := L.regs.set nd ((L.regs.getD n1 0 + imm) % 4294967296) } = L1 := ⟨_, rfl⟩
  rw [hL1] at H6 HA0
  have HA : Hid (Ae L1 L' m) := HA0
  clear HA0 hL1
  obtain ⟨k1_0, k1_1, k1_2, k1_3, k1_4, k1_5, k1_6, k1_7, k1_8, k1_9, k1_10, k1_11, k1_12⟩ := H6.out.t.b1
  obtain ⟨k2_0, k2_1, k2_2, k2_3, k2_4, k2_5, k2_6, k2_7, k2_8, k2_9, k2_10, k2_11, k2_12⟩ := H6.out.t.b2
  go_wp2_with fail
  refine (core_true _ p p' L1 L' H6.out.t.a1 H6.out.t.a2 HA.out.regs HA.out.ram).mono ?_
  rintro e w7 ⟨rfl, b7⟩
  have H7 : Hid (T3 W w7 W.heap.size g2 g3 p p' L1 L' 19 nd n1 n2 imm) := H6.out.below b7
  clear b7 H6 k1_0 k1_1 k1_2 k1_3 k1_4 k1_5 k1_6 k1_7 k1_8 k1_9 k1_10 k1_11 k1_12 k2_0 k2_1 k2_2 k2_3 k2_4 k2_5 k2_6 k2_7 k2_8 k2_9 k2_10 k2_11 k2_12
  have k1_1 := H7.out.t.b1.c1
  rw [HA.out.pc0] at k1_1
  have k1_2 := H7.out.t.b1.c2
  have k1_4 := H7.out.t.b1.c4
  rw [HA.out.len] at k1_4
  have k2_1 := H7.out.t.b2.c1
  rw [HA.out.pc] at k2_1
  have k2_2 := H7.out.t.b2.c2
  rw [HA.out.mode] at k2_2
  have k2_3 := H7.out.t.b2.c3
  rw [HA.out.asleep] at k2_3
  have k2_4 := H7.out.t.b2.c4
  rw [HA.out.len'] at k2_4
  go_wp2_with fail
  refine (kwords' _ p.c p'.c p.cc p'.cc L1.csrs L'.csrs 19 HA.out.len HA.out.csrs H7.out.t.a1.csrs H7.out.t.a2.csrs).mono ?_
  rintro e w8 ⟨rfl, q8, hw8⟩
  have HB : Hid (Offs [p.r] W w8) := by have := H7.out.t.o; rw [hw8]; exact this.drawn _
  have H8 : Hid (T3 W w8 W.heap.size g2 g3 p p' L1 L' 19 nd n1 n2 imm) := H7.out.below (by rw [hw8]; exact below_drawn (Below.refl _ _) _)
  clear hw8 H7 k1_1 k1_2 k1_4 k2_1 k2_2 k2_3 k2_4
  have k1_1 := H8.out.t.b1.c1
  rw [HA.out.pc0] at k1_1
  have k1_2 := H8.out.t.b1.c2
  have k1_4 := H8.out.t.b1.c4
  rw [HA.out.len] at k1_4
  have k2_1 := H8.out.t.b2.c1
  rw [HA.out.pc] at k2_1
  have k2_2 := H8.out.t.b2.c2
  rw [HA.out.mode] at k2_2
  have k2_3 := H8.out.t.b2.c3
  rw [HA.out.asleep] at k2_3
  have k2_4 := H8.out.t.b2.c4
  rw [HA.out.len'] at k2_4
  clear H8
  go_wp2
  go_ret
  exact ⟨rfl, HB.out⟩
end Go.Proofs.YteiideeechnekaaGreatDoor
