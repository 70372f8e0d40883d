/-
  hartkeep.exact: what is no instruction.
-/
import Derived.Test.YteiideeechnekaaGreatDoorKeepExact
namespace Go.Proofs.YteiideeechnekaaGreatDoor
open Go.RowKit

/-- What is no instruction makes. -/
structure No (L L' : LSt) (w : Int) (md : Int) (ep ca tv ve : Nat) : Prop where
  regs : L'.regs = L.regs
  ram : L'.ram = L.ram
  clock : L'.clock = L.clock
  prio : L'.prio = L.prio
  enable : L'.enable = L.enable
  limit : L'.limit = L.limit
  pend : L'.pend = L.pend
  served : L'.served = L.served
  level : L'.level = L.level
  asleep : L'.asleep = false
  mode : L'.mode = md
  epc : L'.csrs.getD ep 0 = L.pc
  cause : L'.csrs.getD ca 0 = 2
  tval : L'.csrs.getD tv 0 = w
  pc : L'.pc = bits .andNot .u32 (L.csrs.getD ve 0) 3
set_option maxHeartbeats 8000000 in
set_option maxRecDepth 100000 in
theorem exact_none_m (W : World) (T : D.Tabs W) (p p' : Pl) (L L' : LSt) (st : StAt W p L) (st' : StAt W p' L') (F : LFull L) (F' : LFull L') (bs : List Int) (hb : Byt bs) (hr : L.ram = bytesOf bs) (m : Nat) (hpc : L.pc = m) (ho : m + 4 ≤ bs.length) (nd n1 n2 : Nat) (imm : Int) (hd : D.dec (leV bs m 4) = ⟨0, nd, n1, n2, imm⟩) (hmd : (L.mode != 3) = false) (E : No L L' (leV bs m 4) 3 14 15 16 12) : Calls Tryz.prog 23 #[.agg #[.slice (some ⟨p.r, 0, none⟩) L.regs.length p.cr, .int .u32 L.pc, .int .i64 L.mode, .bool L.asleep, .slice (some ⟨p.c, 0, none⟩) L.csrs.length p.cc, .string L.ram, .slice (some ⟨p.k, 0, none⟩) L.clock.length p.ck, .slice (some ⟨p.p, 0, none⟩) L.prio.length p.cp, .int .u32 L.pend, .int .u32 L.served, .int .u32 L.level, .slice (some ⟨p.e, 0, none⟩) L.enable.length p.ce, .slice (some ⟨p.l, 0, none⟩) L.limit.length p.cl], .agg #[.slice (some ⟨p'.r, 0, none⟩) L'.regs.length p'.cr, .int .u32 L'.pc, .int .i64 L'.mode, .bool L'.asleep, .slice (some ⟨p'.c, 0, none⟩) L'.csrs.length p'.cc, .string L'.ram, .slice (some ⟨p'.k, 0, none⟩) L'.clock.length p'.ck, .slice (some ⟨p'.p, 0, none⟩) L'.prio.length p'.cp, .int .u32 L'.pend, .int .u32 L'.served, .int .u32 L'.level, .slice (some ⟨p'.e, 0, none⟩) L'.enable.length p'.ce, .slice (some ⟨p'.l, 0, none⟩) L'.limit.length p'.cl]] W fun e W' => e = .returned (.bool true) ∧ Offs [p.r] W W' := by
  have HB0 : Hid (Below W.heap.size W ((W.alloc (.cells #[.slice (some ⟨p.r, 0, none⟩) L.regs.length p.cr, .int .u32 L.pc, .int .i64 L.mode, .bool L.asleep, .slice (some ⟨p.c, 0, none⟩) L.csrs.length p.cc, .string L.ram, .slice (some ⟨p.k, 0, none⟩) L.clock.length p.ck, .slice (some ⟨p.p, 0, none⟩) L.prio.length p.cp, .int .u32 L.pend, .int .u32 L.served, .int .u32 L.level, .slice (some ⟨p.e, 0, none⟩) L.enable.length p.ce, .slice (some ⟨p.l, 0, none⟩) L.limit.length p.cl] 48)).alloc (.cells #[.slice (some ⟨p'.r, 0, none⟩) L'.regs.length p'.cr, .int .u32 L'.pc, .int .i64 L'.mode, .bool L'.asleep, .slice (some ⟨p'.c, 0, none⟩) L'.csrs.length p'.cc, .string L'.ram, .slice (some ⟨p'.k, 0, none⟩) L'.clock.length p'.ck, .slice (some ⟨p'.p, 0, none⟩) L'.prio.length p'.cp, .int .u32 L'.pend, .int .u32 L'.served, .int .u32 L'.level, .slice (some ⟨p'.e, 0, none⟩) L'.enable.length p'.ce, .slice (some ⟨p'.l, 0, none⟩) L'.limit.length p'.cl] 48))) := by
    have b1 : Below W.heap.size W (W.alloc (.cells #[.slice (some ⟨p.r, 0, none⟩) L.regs.length p.cr, .int .u32 L.pc, .int .i64 L.mode, .bool L.asleep, .slice (some ⟨p.c, 0, none⟩) L.csrs.length p.cc, .string L.ram, .slice (some ⟨p.k, 0, none⟩) L.clock.length p.ck, .slice (some ⟨p.p, 0, none⟩) L.prio.length p.cp, .int .u32 L.pend, .int .u32 L.served, .int .u32 L.level, .slice (some ⟨p.e, 0, none⟩) L.enable.length p.ce, .slice (some ⟨p.l, 0, none⟩) L.limit.length p.cl] 48)) := (Below.refl _ _).alloc (Nat.le_refl _) _
    have b2 : Below (W.alloc (.cells #[.slice (some ⟨p.r, 0, none⟩) L.regs.length p.cr, .int .u32 L.pc, .int .i64 L.mode, .bool L.asleep, .slice (some ⟨p.c, 0, none⟩) L.csrs.length p.cc, .string L.ram, .slice (some ⟨p.k, 0, none⟩) L.clock.length p.ck, .slice (some ⟨p.p, 0, none⟩) L.prio.length p.cp, .int .u32 L.pend, .int .u32 L.served, .int .u32 L.level, .slice (some ⟨p.e, 0, none⟩) L.enable.length p.ce, .slice (some ⟨p.l, 0, none⟩) L.limit.length p.cl] 48)).heap.size (W.alloc (.cells #[.slice (some ⟨p.r, 0, none⟩) L.regs.length p.cr, .int .u32 L.pc, .int .i64 L.mode, .bool L.asleep, .slice (some ⟨p.c, 0, none⟩) L.csrs.length p.cc, .string L.ram, .slice (some ⟨p.k, 0, none⟩) L.clock.length p.ck, .slice (some ⟨p.p, 0, none⟩) L.prio.length p.cp, .int .u32 L.pend, .int .u32 L.served, .int .u32 L.level, .slice (some ⟨p.e, 0, none⟩) L.enable.length p.ce, .slice (some ⟨p.l, 0, none⟩) L.limit.length p.cl] 48)) ((W.alloc (.cells #[.slice (some ⟨p.r, 0, none⟩) L.regs.length p.cr, .int .u32 L.pc, .int .i64 L.mode, .bool L.asleep, .slice (some ⟨p.c, 0, none⟩) L.csrs.length p.cc, .string L.ram, .slice (some ⟨p.k, 0, none⟩) L.clock.length p.ck, .slice (some ⟨p.p, 0, none⟩) L.prio.length p.cp, .int .u32 L.pend, .int .u32 L.served, .int .u32 L.level, .slice (some ⟨p.e, 0, none⟩) L.enable.length p.ce, .slice (some ⟨p.l, 0, none⟩) L.limit.length p.cl] 48)).alloc (.cells #[.slice (some ⟨p'.r, 0, none⟩) L'.regs.length p'.cr, .int .u32 L'.pc, .int .i64 L'.mode, .bool L'.asleep, .slice (some ⟨p'.c, 0, none⟩) L'.csrs.length p'.cc, .string L'.ram, .slice (some ⟨p'.k, 0, none⟩) L'.clock.length p'.ck, .slice (some ⟨p'.p, 0, none⟩) L'.prio.length p'.cp, .int .u32 L'.pend, .int .u32 L'.served, .int .u32 L'.level, .slice (some ⟨p'.e, 0, none⟩) L'.enable.length p'.ce, .slice (some ⟨p'.l, 0, none⟩) L'.limit.length p'.cl] 48)) := (Below.refl _ _).alloc (Nat.le_refl _) _
    exact b1.trans (b2.mono b1.size)
  have H0 : Hid (T2 W ((W.alloc (.cells #[.slice (some ⟨p.r, 0, none⟩) L.regs.length p.cr, .int .u32 L.pc, .int .i64 L.mode, .bool L.asleep, .slice (some ⟨p.c, 0, none⟩) L.csrs.length p.cc, .string L.ram, .slice (some ⟨p.k, 0, none⟩) L.clock.length p.ck, .slice (some ⟨p.p, 0, none⟩) L.prio.length p.cp, .int .u32 L.pend, .int .u32 L.served, .int .u32 L.level, .slice (some ⟨p.e, 0, none⟩) L.enable.length p.ce, .slice (some ⟨p.l, 0, none⟩) L.limit.length p.cl] 48)).alloc (.cells #[.slice (some ⟨p'.r, 0, none⟩) L'.regs.length p'.cr, .int .u32 L'.pc, .int .i64 L'.mode, .bool L'.asleep, .slice (some ⟨p'.c, 0, none⟩) L'.csrs.length p'.cc, .string L'.ram, .slice (some ⟨p'.k, 0, none⟩) L'.clock.length p'.ck, .slice (some ⟨p'.p, 0, none⟩) L'.prio.length p'.cp, .int .u32 L'.pend, .int .u32 L'.served, .int .u32 L'.level, .slice (some ⟨p'.e, 0, none⟩) L'.enable.length p'.ce, .slice (some ⟨p'.l, 0, none⟩) L'.limit.length p'.cl] 48)) W.heap.size (W.alloc (.cells #[.slice (some ⟨p.r, 0, none⟩) L.regs.length p.cr, .int .u32 L.pc, .int .i64 L.mode, .bool L.asleep, .slice (some ⟨p.c, 0, none⟩) L.csrs.length p.cc, .string L.ram, .slice (some ⟨p.k, 0, none⟩) L.clock.length p.ck, .slice (some ⟨p.p, 0, none⟩) L.prio.length p.cp, .int .u32 L.pend, .int .u32 L.served, .int .u32 L.level, .slice (some ⟨p.e, 0, none⟩) L.enable.length p.ce, .slice (some ⟨p.l, 0, none⟩) L.limit.length p.cl] 48)).heap.size p p' L L') := T2.new W p p' L L' st st'
  have HPC : Hid (L.pc = m) := hpc
  clear hpc
  have HF : Hid (LFull L ∧ LFull L') := ⟨F, F'⟩
  have hsz : L.ram.size = bs.length := by rw [hr]; exact bytesOf_size bs
  have h512 : L.ram.size ≤ 512 := F.ram
  have HE : Hid (No L L' (leV bs m 4) 3 14 15 16 12) := E
  clear E
  have HWd : Hid (∀ w, Calls Tryz.prog 52 #[.string L.ram, .int .i64 m] w fun e W' => e = .returned (.int .u32 (leV bs m 4)) ∧ ∃ q, W' = w.drewN q) := fun w => by rw [hr]; exact word_le w bs hb m ho (by omega)
  have HDe : Hid (∀ w, Below W.heap.size W w → Calls Tryz.prog 42 #[.int .u32 (leV bs m 4)] w fun e W' => e = .returned (.agg #[.int .i64 0, .int .i64 nd, .int .i64 n1, .int .i64 n2, .int .u32 imm]) ∧ Below w.heap.size w W') := fun w hw => by
    have lv := (leV_bd hb m).2.2
    have := decode_any (leV bs m 4) w lv.1 lv.2 (T.below T.size hw)
    rw [hd] at this
    exact this
  have hl : (m : Int) + 4 ≤ L.ram.size := by omega
  have h512' : (L.ram.size : Int) ≤ 512 := by omega
  clear st st' F F' ho hsz hr h512 T hd hb
  go_enter Tryz.func23, Tryz.ntmps23
  go_upto_region 1 with fail
  generalize ((W.alloc (.cells #[.slice (some ⟨p.r, 0, none⟩) L.regs.length p.cr, .int .u32 L.pc, .int .i64 L.mode, .bool L.asleep, .slice (some ⟨p.c, 0, none⟩) L.csrs.length p.cc, .string L.ram, .slice (some ⟨p.k, 0, none⟩) L.clock.length p.ck, .slice (some ⟨p.p, 0, none⟩) L.prio.length p.cp, .int .u32 L.pend, .int .u32 L.served, .int .u32 L.level, .slice (some ⟨p.e, 0, none⟩) L.enable.length p.ce, .slice (some ⟨p.l, 0, none⟩) L.limit.length p.cl] 48)).alloc (.cells #[.slice (some ⟨p'.r, 0, none⟩) L'.regs.length p'.cr, .int .u32 L'.pc, .int .i64 L'.mode, .bool L'.asleep, .slice (some ⟨p'.c, 0, none⟩) L'.csrs.length p'.cc, .string L'.ram, .slice (some ⟨p'.k, 0, none⟩) L'.clock.length p'.ck, .slice (some ⟨p'.p, 0, none⟩) L'.prio.length p'.cp, .int .u32 L'.pend, .int .u32 L'.served, .int .u32 L'.level, .slice (some ⟨p'.e, 0, none⟩) L'.enable.length p'.ce, .slice (some ⟨p'.l, 0, none⟩) L'.limit.length p'.cl] 48)) = w0 at H0 HB0 ⊢
  simp at H0
  have hg2 : W.heap.size < W.heap.size + 1 := by omega
  generalize W.heap.size + 1 = g2 at H0 hg2 ⊢
  have HG2 : Hid (W.heap.size < g2) := hg2
  clear hg2
  have k1_1 := H0.out.b1.c1
  rw [HPC.out] at k1_1
  have k1_5 := H0.out.b1.c5
  go_wp2_with fail
  refine (HWd.out _).mono ?_
  rintro e w1 ⟨rfl, q1, hw1⟩
  have H1 : Hid (T2 W w1 W.heap.size g2 p p' L L') := H0.out.below (by rw [hw1]; exact below_drawn (Below.refl _ _) _)
  have HB1 : Hid (Below W.heap.size W w1) := by have := HB0.out; rw [hw1]; exact below_drawn this _
  clear hw1 HB0 H0 k1_1 k1_5
  generalize leV bs m 4 = wv at HDe HE ⊢
  go_wp2_with fail
  refine (HDe.out _ HB1.out).mono ?_
  rintro e w2 ⟨rfl, b2⟩
  have H3 : Hid (T3 W (w2.alloc (.cells #[.int .i64 0, .int .i64 nd, .int .i64 n1, .int .i64 n2, .int .u32 imm] 72)) W.heap.size g2 w2.heap.size p p' L L' 0 nd n1 n2 imm) := ⟨(H1.out.below b2).below ((Below.refl w2.heap.size w2).alloc (Nat.le_refl _) _), DX.new w2 0 nd n1 n2 imm⟩
  have HW2 : W.heap.size ≤ w2.heap.size := Nat.le_trans HB1.out.size b2.size
  clear b2 H1 HDe HB1
  obtain ⟨k1_0, k1_1, k1_2, k1_3, k1_4, k1_5, k1_6, k1_7, k1_8, k1_9, k1_10, k1_11, k1_12⟩ := H3.out.t.b1
  obtain ⟨k2_0, k2_1, k2_2, k2_3, k2_4, k2_5, k2_6, k2_7, k2_8, k2_9, k2_10, k2_11, k2_12⟩ := H3.out.t.b2
  go_wp2_with fail
  refine (devices_true _ p p' L L' H3.out.t.a1 H3.out.t.a2 HE.out.clock HE.out.prio HE.out.enable HE.out.limit HE.out.pend HE.out.served HE.out.level).mono ?_
  rintro e w4 ⟨rfl, b4⟩
  have H4 : Hid (T3 W w4 W.heap.size g2 w2.heap.size p p' L L' 0 nd n1 n2 imm) := H3.out.below b4
  clear b4 H3 k1_0 k1_1 k1_2 k1_3 k1_4 k1_5 k1_6 k1_7 k1_8 k1_9 k1_10 k1_11 k1_12 k2_0 k2_1 k2_2 k2_3 k2_4 k2_5 k2_6 k2_7 k2_8 k2_9 k2_10 k2_11 k2_12
  have HG3 : Hid (W.heap.size ≤ w2.heap.size) := HW2
  generalize w2.heap.size = g3 at H4 HG3 ⊢
  have d0 := H4.out.d.c0
  have d1 := H4.out.d.c1
  have d2 := H4.out.d.c2
  have d4 := H4.out.d.c4
  obtain ⟨k1_0, k1_1, k1_2, k1_3, k1_4, k1_5, k1_6, k1_7, k1_8, k1_9, k1_10, k1_11, k1_12⟩ := H4.out.t.b1
  obtain ⟨k2_0, k2_1, k2_2, k2_3, k2_4, k2_5, k2_6, k2_7, k2_8, k2_9, k2_10, k2_11, k2_12⟩ := H4.out.t.b2
  go_wp2_with fail
  refine (core_true _ p p' L L' H4.out.t.a1 H4.out.t.a2 HE.out.regs HE.out.ram).mono ?_
  rintro e w5 ⟨rfl, b5⟩
  have H5 : Hid (T3 W w5 W.heap.size g2 g3 p p' L L' 0 nd n1 n2 imm) := H4.out.below b5
  clear b5 H4 k1_0 k1_1 k1_2 k1_3 k1_4 k1_5 k1_6 k1_7 k1_8 k1_9 k1_10 k1_11 k1_12 k2_0 k2_1 k2_2 k2_3 k2_4 k2_5 k2_6 k2_7 k2_8 k2_9 k2_10 k2_11 k2_12 d0 d1 d2 d4
  have k1_1 := H5.out.t.b1.c1
  have k1_2 := H5.out.t.b1.c2
  have k1_4 := H5.out.t.b1.c4
  rw [HF.out.1.csrs] at k1_4
  have k2_1 := H5.out.t.b2.c1
  rw [HE.out.pc] at k2_1
  have k2_2 := H5.out.t.b2.c2
  rw [HE.out.mode] at k2_2
  have k2_3 := H5.out.t.b2.c3
  rw [HE.out.asleep] at k2_3
  have k2_4 := H5.out.t.b2.c4
  rw [HF.out.2.csrs] at k2_4
  have q9 := H5.out.t.a1.csrs.cell 9 (by rw [HF.out.1.csrs]; decide)
  have qv := H5.out.t.a1.csrs.cell 12 (by rw [HF.out.1.csrs]; decide)
  have qe := H5.out.t.a2.csrs.cell 14 (by rw [HF.out.2.csrs]; decide)
  rw [HE.out.epc] at qe
  have qc := H5.out.t.a2.csrs.cell 15 (by rw [HF.out.2.csrs]; decide)
  rw [HE.out.cause] at qc
  have qt := H5.out.t.a2.csrs.cell 16 (by rw [HF.out.2.csrs]; decide)
  rw [HE.out.tval] at qt
  have HB : Hid (∀ q, Offs [p.r] W (w5.drewN q)) := fun q => H5.out.t.o.drawn q
  generalize L.csrs.getD 12 0 = base at qv k2_1
  generalize L.csrs.getD 9 0 = v9 at q9
  generalize L.pc = apc at k1_1 qe
  generalize L.mode = md at k1_2 hmd
  clear HE H5 HF HPC
  go_wp2_with fail
  go_quiet (fail)
  go_wp2_with fail
  go_ret
  exact ⟨rfl, HB.out _⟩
set_option maxHeartbeats 8000000 in
set_option maxRecDepth 100000 in
theorem exact_none_s (W : World) (T : D.Tabs W) (p p' : Pl) (L L' : LSt) (st : StAt W p L) (st' : StAt W p' L') (F : LFull L) (F' : LFull L') (bs : List Int) (hb : Byt bs) (hr : L.ram = bytesOf bs) (m : Nat) (hpc : L.pc = m) (ho : m + 4 ≤ bs.length) (nd n1 n2 : Nat) (imm : Int) (hd : D.dec (leV bs m 4) = ⟨0, nd, n1, n2, imm⟩) (hmd : (L.mode != 3) = true) (h9 : isB (L.csrs.getD 9 0) 2 = true) (E : No L L' (leV bs m 4) 1 4 5 6 2) : Calls Tryz.prog 23 #[.agg #[.slice (some ⟨p.r, 0, none⟩) L.regs.length p.cr, .int .u32 L.pc, .int .i64 L.mode, .bool L.asleep, .slice (some ⟨p.c, 0, none⟩) L.csrs.length p.cc, .string L.ram, .slice (some ⟨p.k, 0, none⟩) L.clock.length p.ck, .slice (some ⟨p.p, 0, none⟩) L.prio.length p.cp, .int .u32 L.pend, .int .u32 L.served, .int .u32 L.level, .slice (some ⟨p.e, 0, none⟩) L.enable.length p.ce, .slice (some ⟨p.l, 0, none⟩) L.limit.length p.cl], .agg #[.slice (some ⟨p'.r, 0, none⟩) L'.regs.length p'.cr, .int .u32 L'.pc, .int .i64 L'.mode, .bool L'.asleep, .slice (some ⟨p'.c, 0, none⟩) L'.csrs.length p'.cc, .string L'.ram, .slice (some ⟨p'.k, 0, none⟩) L'.clock.length p'.ck, .slice (some ⟨p'.p, 0, none⟩) L'.prio.length p'.cp, .int .u32 L'.pend, .int .u32 L'.served, .int .u32 L'.level, .slice (some ⟨p'.e, 0, none⟩) L'.enable.length p'.ce, .slice (some ⟨p'.l, 0, none⟩) L'.limit.length p'.cl]] W fun e W' => e = .returned (.bool true) ∧ Offs [p.r] W W' := by
  have HB0 : Hid (Below W.heap.size W ((W.alloc (.cells #[.slice (some ⟨p.r, 0, none⟩) L.regs.length p.cr, .int .u32 L.pc, .int .i64 L.mode, .bool L.asleep, .slice (some ⟨p.c, 0, none⟩) L.csrs.length p.cc, .string L.ram, .slice (some ⟨p.k, 0, none⟩) L.clock.length p.ck, .slice (some ⟨p.p, 0, none⟩) L.prio.length p.cp, .int .u32 L.pend, .int .u32 L.served, .int .u32 L.level, .slice (some ⟨p.e, 0, none⟩) L.enable.length p.ce, .slice (some ⟨p.l, 0, none⟩) L.limit.length p.cl] 48)).alloc (.cells #[.slice (some ⟨p'.r, 0, none⟩) L'.regs.length p'.cr, .int .u32 L'.pc, .int .i64 L'.mode, .bool L'.asleep, .slice (some ⟨p'.c, 0, none⟩) L'.csrs.length p'.cc, .string L'.ram, .slice (some ⟨p'.k, 0, none⟩) L'.clock.length p'.ck, .slice (some ⟨p'.p, 0, none⟩) L'.prio.length p'.cp, .int .u32 L'.pend, .int .u32 L'.served, .int .u32 L'.level, .slice (some ⟨p'.e, 0, none⟩) L'.enable.length p'.ce, .slice (some ⟨p'.l, 0, none⟩) L'.limit.length p'.cl] 48))) := by
    have b1 : Below W.heap.size W (W.alloc (.cells #[.slice (some ⟨p.r, 0, none⟩) L.regs.length p.cr, .int .u32 L.pc, .int .i64 L.mode, .bool L.asleep, .slice (some ⟨p.c, 0, none⟩) L.csrs.length p.cc, .string L.ram, .slice (some ⟨p.k, 0, none⟩) L.clock.length p.ck, .slice (some ⟨p.p, 0, none⟩) L.prio.length p.cp, .int .u32 L.pend, .int .u32 L.served, .int .u32 L.level, .slice (some ⟨p.e, 0, none⟩) L.enable.length p.ce, .slice (some ⟨p.l, 0, none⟩) L.limit.length p.cl] 48)) := (Below.refl _ _).alloc (Nat.le_refl _) _
    have b2 : Below (W.alloc (.cells #[.slice (some ⟨p.r, 0, none⟩) L.regs.length p.cr, .int .u32 L.pc, .int .i64 L.mode, .bool L.asleep, .slice (some ⟨p.c, 0, none⟩) L.csrs.length p.cc, .string L.ram, .slice (some ⟨p.k, 0, none⟩) L.clock.length p.ck, .slice (some ⟨p.p, 0, none⟩) L.prio.length p.cp, .int .u32 L.pend, .int .u32 L.served, .int .u32 L.level, .slice (some ⟨p.e, 0, none⟩) L.enable.length p.ce, .slice (some ⟨p.l, 0, none⟩) L.limit.length p.cl] 48)).heap.size (W.alloc (.cells #[.slice (some ⟨p.r, 0, none⟩) L.regs.length p.cr, .int .u32 L.pc, .int .i64 L.mode, .bool L.asleep, .slice (some ⟨p.c, 0, none⟩) L.csrs.length p.cc, .string L.ram, .slice (some ⟨p.k, 0, none⟩) L.clock.length p.ck, .slice (some ⟨p.p, 0, none⟩) L.prio.length p.cp, .int .u32 L.pend, .int .u32 L.served, .int .u32 L.level, .slice (some ⟨p.e, 0, none⟩) L.enable.length p.ce, .slice (some ⟨p.l, 0, none⟩) L.limit.length p.cl] 48)) ((W.alloc (.cells #[.slice (some ⟨p.r, 0, none⟩) L.regs.length p.cr, .int .u32 L.pc, .int .i64 L.mode, .bool L.asleep, .slice (some ⟨p.c, 0, none⟩) L.csrs.length p.cc, .string L.ram, .slice (some ⟨p.k, 0, none⟩) L.clock.length p.ck, .slice (some ⟨p.p, 0, none⟩) L.prio.length p.cp, .int .u32 L.pend, .int .u32 L.served, .int .u32 L.level, .slice (some ⟨p.e, 0, none⟩) L.enable.length p.ce, .slice (some ⟨p.l, 0, none⟩) L.limit.length p.cl] 48)).alloc (.cells #[.slice (some ⟨p'.r, 0, none⟩) L'.regs.length p'.cr, .int .u32 L'.pc, .int .i64 L'.mode, .bool L'.asleep, .slice (some ⟨p'.c, 0, none⟩) L'.csrs.length p'.cc, .string L'.ram, .slice (some ⟨p'.k, 0, none⟩) L'.clock.length p'.ck, .slice (some ⟨p'.p, 0, none⟩) L'.prio.length p'.cp, .int .u32 L'.pend, .int .u32 L'.served, .int .u32 L'.level, .slice (some ⟨p'.e, 0, none⟩) L'.enable.length p'.ce, .slice (some ⟨p'.l, 0, none⟩) L'.limit.length p'.cl] 48)) := (Below.refl _ _).alloc (Nat.le_refl _) _
    exact b1.trans (b2.mono b1.size)
  have H0 : Hid (T2 W ((W.alloc (.cells #[.slice (some ⟨p.r, 0, none⟩) L.regs.length p.cr, .int .u32 L.pc, .int .i64 L.mode, .bool L.asleep, .slice (some ⟨p.c, 0, none⟩) L.csrs.length p.cc, .string L.ram, .slice (some ⟨p.k, 0, none⟩) L.clock.length p.ck, .slice (some ⟨p.p, 0, none⟩) L.prio.length p.cp, .int .u32 L.pend, .int .u32 L.served, .int .u32 L.level, .slice (some ⟨p.e, 0, none⟩) L.enable.length p.ce, .slice (some ⟨p.l, 0, none⟩) L.limit.length p.cl] 48)).alloc (.cells #[.slice (some ⟨p'.r, 0, none⟩) L'.regs.length p'.cr, .int .u32 L'.pc, .int .i64 L'.mode, .bool L'.asleep, .slice (some ⟨p'.c, 0, none⟩) L'.csrs.length p'.cc, .string L'.ram, .slice (some ⟨p'.k, 0, none⟩) L'.clock.length p'.ck, .slice (some ⟨p'.p, 0, none⟩) L'.prio.length p'.cp, .int .u32 L'.pend, .int .u32 L'.served, .int .u32 L'.level, .slice (some ⟨p'.e, 0, none⟩) L'.enable.length p'.ce, .slice (some ⟨p'.l, 0, none⟩) L'.limit.length p'.cl] 48)) W.heap.size (W.alloc (.cells #[.slice (some ⟨p.r, 0, none⟩) L.regs.length p.cr, .int .u32 L.pc, .int .i64 L.mode, .bool L.asleep, .slice (some ⟨p.c, 0, none⟩) L.csrs.length p.cc, .string L.ram, .slice (some ⟨p.k, 0, none⟩) L.clock.length p.ck, .slice (some ⟨p.p, 0, none⟩) L.prio.length p.cp, .int .u32 L.pend, .int .u32 L.served, .int .u32 L.level, .slice (some ⟨p.e, 0, none⟩) L.enable.length p.ce, .slice (some ⟨p.l, 0, none⟩) L.limit.length p.cl] 48)).heap.size p p' L L') := T2.new W p p' L L' st st'
  have HPC : Hid (L.pc = m) := hpc
  clear hpc
  have HF : Hid (LFull L ∧ LFull L') := ⟨F, F'⟩
  have hsz : L.ram.size = bs.length := by rw [hr]; exact bytesOf_size bs
  have h512 : L.ram.size ≤ 512 := F.ram
  have HE : Hid (No L L' (leV bs m 4) 1 4 5 6 2) := E
  clear E
  have S9 : Hid (∀ w, Calls Tryz.prog 51 #[.int .u32 (L.csrs.getD 9 0), .int .i64 2] w fun e W' => e = .returned (.bool true) ∧ W' = w) := fun w => kset_is w _ 2 (by decide) _ h9
  clear h9
  have HWd : Hid (∀ w, Calls Tryz.prog 52 #[.string L.ram, .int .i64 m] w fun e W' => e = .returned (.int .u32 (leV bs m 4)) ∧ ∃ q, W' = w.drewN q) := fun w => by rw [hr]; exact word_le w bs hb m ho (by omega)
  have HDe : Hid (∀ w, Below W.heap.size W w → Calls Tryz.prog 42 #[.int .u32 (leV bs m 4)] w fun e W' => e = .returned (.agg #[.int .i64 0, .int .i64 nd, .int .i64 n1, .int .i64 n2, .int .u32 imm]) ∧ Below w.heap.size w W') := fun w hw => by
    have lv := (leV_bd hb m).2.2
    have := decode_any (leV bs m 4) w lv.1 lv.2 (T.below T.size hw)
    rw [hd] at this
    exact this
  have hl : (m : Int) + 4 ≤ L.ram.size := by omega
  have h512' : (L.ram.size : Int) ≤ 512 := by omega
  clear st st' F F' ho hsz hr h512 T hd hb
  go_enter Tryz.func23, Tryz.ntmps23
  go_upto_region 1 with fail
  generalize ((W.alloc (.cells #[.slice (some ⟨p.r, 0, none⟩) L.regs.length p.cr, .int .u32 L.pc, .int .i64 L.mode, .bool L.asleep, .slice (some ⟨p.c, 0, none⟩) L.csrs.length p.cc, .string L.ram, .slice (some ⟨p.k, 0, none⟩) L.clock.length p.ck, .slice (some ⟨p.p, 0, none⟩) L.prio.length p.cp, .int .u32 L.pend, .int .u32 L.served, .int .u32 L.level, .slice (some ⟨p.e, 0, none⟩) L.enable.length p.ce, .slice (some ⟨p.l, 0, none⟩) L.limit.length p.cl] 48)).alloc (.cells #[.slice (some ⟨p'.r, 0, none⟩) L'.regs.length p'.cr, .int .u32 L'.pc, .int .i64 L'.mode, .bool L'.asleep, .slice (some ⟨p'.c, 0, none⟩) L'.csrs.length p'.cc, .string L'.ram, .slice (some ⟨p'.k, 0, none⟩) L'.clock.length p'.ck, .slice (some ⟨p'.p, 0, none⟩) L'.prio.length p'.cp, .int .u32 L'.pend, .int .u32 L'.served, .int .u32 L'.level, .slice (some ⟨p'.e, 0, none⟩) L'.enable.length p'.ce, .slice (some ⟨p'.l, 0, none⟩) L'.limit.length p'.cl] 48)) = w0 at H0 HB0 ⊢
  simp at H0
  have hg2 : W.heap.size < W.heap.size + 1 := by omega
  generalize W.heap.size + 1 = g2 at H0 hg2 ⊢
  have HG2 : Hid (W.heap.size < g2) := hg2
  clear hg2
  have k1_1 := H0.out.b1.c1
  rw [HPC.out] at k1_1
  have k1_5 := H0.out.b1.c5
  go_wp2_with fail
  refine (HWd.out _).mono ?_
  rintro e w1 ⟨rfl, q1, hw1⟩
  have H1 : Hid (T2 W w1 W.heap.size g2 p p' L L') := H0.out.below (by rw [hw1]; exact below_drawn (Below.refl _ _) _)
  have HB1 : Hid (Below W.heap.size W w1) := by have := HB0.out; rw [hw1]; exact below_drawn this _
  clear hw1 HB0 H0 k1_1 k1_5
  generalize leV bs m 4 = wv at HDe HE ⊢
  go_wp2_with fail
  refine (HDe.out _ HB1.out).mono ?_
  rintro e w2 ⟨rfl, b2⟩
  have H3 : Hid (T3 W (w2.alloc (.cells #[.int .i64 0, .int .i64 nd, .int .i64 n1, .int .i64 n2, .int .u32 imm] 72)) W.heap.size g2 w2.heap.size p p' L L' 0 nd n1 n2 imm) := ⟨(H1.out.below b2).below ((Below.refl w2.heap.size w2).alloc (Nat.le_refl _) _), DX.new w2 0 nd n1 n2 imm⟩
  have HW2 : W.heap.size ≤ w2.heap.size := Nat.le_trans HB1.out.size b2.size
  clear b2 H1 HDe HB1
  obtain ⟨k1_0, k1_1, k1_2, k1_3, k1_4, k1_5, k1_6, k1_7, k1_8, k1_9, k1_10, k1_11, k1_12⟩ := H3.out.t.b1
  obtain ⟨k2_0, k2_1, k2_2, k2_3, k2_4, k2_5, k2_6, k2_7, k2_8, k2_9, k2_10, k2_11, k2_12⟩ := H3.out.t.b2
  go_wp2_with fail
  refine (devices_true _ p p' L L' H3.out.t.a1 H3.out.t.a2 HE.out.clock HE.out.prio HE.out.enable HE.out.limit HE.out.pend HE.out.served HE.out.level).mono ?_
  rintro e w4 ⟨rfl, b4⟩
  have H4 : Hid (T3 W w4 W.heap.size g2 w2.heap.size p p' L L' 0 nd n1 n2 imm) := H3.out.below b4
  clear b4 H3 k1_0 k1_1 k1_2 k1_3 k1_4 k1_5 k1_6 k1_7 k1_8 k1_9 k1_10 k1_11 k1_12 k2_0 k2_1 k2_2 k2_3 k2_4 k2_5 k2_6 k2_7 k2_8 k2_9 k2_10 k2_11 k2_12
  have HG3 : Hid (W.heap.size ≤ w2.heap.size) := HW2
  generalize w2.heap.size = g3 at H4 HG3 ⊢
  have d0 := H4.out.d.c0
  have d1 := H4.out.d.c1
  have d2 := H4.out.d.c2
  have d4 := H4.out.d.c4
  obtain ⟨k1_0, k1_1, k1_2, k1_3, k1_4, k1_5, k1_6, k1_7, k1_8, k1_9, k1_10, k1_11, k1_12⟩ := H4.out.t.b1
  obtain ⟨k2_0, k2_1, k2_2, k2_3, k2_4, k2_5, k2_6, k2_7, k2_8, k2_9, k2_10, k2_11, k2_12⟩ := H4.out.t.b2
  go_wp2_with fail
  refine (core_true _ p p' L L' H4.out.t.a1 H4.out.t.a2 HE.out.regs HE.out.ram).mono ?_
  rintro e w5 ⟨rfl, b5⟩
  have H5 : Hid (T3 W w5 W.heap.size g2 g3 p p' L L' 0 nd n1 n2 imm) := H4.out.below b5
  clear b5 H4 k1_0 k1_1 k1_2 k1_3 k1_4 k1_5 k1_6 k1_7 k1_8 k1_9 k1_10 k1_11 k1_12 k2_0 k2_1 k2_2 k2_3 k2_4 k2_5 k2_6 k2_7 k2_8 k2_9 k2_10 k2_11 k2_12 d0 d1 d2 d4
  have k1_1 := H5.out.t.b1.c1
  have k1_2 := H5.out.t.b1.c2
  have k1_4 := H5.out.t.b1.c4
  rw [HF.out.1.csrs] at k1_4
  have k2_1 := H5.out.t.b2.c1
  rw [HE.out.pc] at k2_1
  have k2_2 := H5.out.t.b2.c2
  rw [HE.out.mode] at k2_2
  have k2_3 := H5.out.t.b2.c3
  rw [HE.out.asleep] at k2_3
  have k2_4 := H5.out.t.b2.c4
  rw [HF.out.2.csrs] at k2_4
  have q9 := H5.out.t.a1.csrs.cell 9 (by rw [HF.out.1.csrs]; decide)
  have qv := H5.out.t.a1.csrs.cell 2 (by rw [HF.out.1.csrs]; decide)
  have qe := H5.out.t.a2.csrs.cell 4 (by rw [HF.out.2.csrs]; decide)
  rw [HE.out.epc] at qe
  have qc := H5.out.t.a2.csrs.cell 5 (by rw [HF.out.2.csrs]; decide)
  rw [HE.out.cause] at qc
  have qt := H5.out.t.a2.csrs.cell 6 (by rw [HF.out.2.csrs]; decide)
  rw [HE.out.tval] at qt
  have HB : Hid (∀ q, Offs [p.r] W (w5.drewN q)) := fun q => H5.out.t.o.drawn q
  generalize L.csrs.getD 2 0 = base at qv k2_1
  generalize L.csrs.getD 9 0 = v9 at q9 S9
  generalize L.pc = apc at k1_1 qe
  generalize L.mode = md at k1_2 hmd
  clear HE H5 HF HPC
  go_wp2_with (go_at_call 51; refine (S9.out _).mono ?_; rintro e w6 ⟨rfl, hw⟩; rw [hw]; clear hw w6)
  go_quiet (fail)
  go_wp2_with fail
  go_ret
  exact ⟨rfl, HB.out _⟩
set_option maxHeartbeats 8000000 in
set_option maxRecDepth 100000 in
theorem exact_none_n (W : World) (T : D.Tabs W) (p p' : Pl) (L L' : LSt) (st : StAt W p L) (st' : StAt W p' L') (F : LFull L) (F' : LFull L') (bs : List Int) (hb : Byt bs) (hr : L.ram = bytesOf bs) (m : Nat) (hpc : L.pc = m) (ho : m + 4 ≤ bs.length) (nd n1 n2 : Nat) (imm : Int) (hd : D.dec (leV bs m 4) = ⟨0, nd, n1, n2, imm⟩) (hmd : (L.mode != 3) = true) (h9 : isB (L.csrs.getD 9 0) 2 = false) (E : No L L' (leV bs m 4) 3 14 15 16 12) : Calls Tryz.prog 23 #[.agg #[.slice (some ⟨p.r, 0, none⟩) L.regs.length p.cr, .int .u32 L.pc, .int .i64 L.mode, .bool L.asleep, .slice (some ⟨p.c, 0, none⟩) L.csrs.length p.cc, .string L.ram, .slice (some ⟨p.k, 0, none⟩) L.clock.length p.ck, .slice (some ⟨p.p, 0, none⟩) L.prio.length p.cp, .int .u32 L.pend, .int .u32 L.served, .int .u32 L.level, .slice (some ⟨p.e, 0, none⟩) L.enable.length p.ce, .slice (some ⟨p.l, 0, none⟩) L.limit.length p.cl], .agg #[.slice (some ⟨p'.r, 0, none⟩) L'.regs.length p'.cr, .int .u32 L'.pc, .int .i64 L'.mode, .bool L'.asleep, .slice (some ⟨p'.c, 0, none⟩) L'.csrs.length p'.cc, .string L'.ram, .slice (some ⟨p'.k, 0, none⟩) L'.clock.length p'.ck, .slice (some ⟨p'.p, 0, none⟩) L'.prio.length p'.cp, .int .u32 L'.pend, .int .u32 L'.served, .int .u32 L'.level, .slice (some ⟨p'.e, 0, none⟩) L'.enable.length p'.ce, .slice (some ⟨p'.l, 0, none⟩) L'.limit.length p'.cl]] W fun e W' => e = .returned (.bool true) ∧ Offs [p.r] W W' := by
  have HB0 : Hid (Below W.heap.size W ((W.alloc (.cells #[.slice (some ⟨p.r, 0, none⟩) L.regs.length p.cr, .int .u32 L.pc, .int .i64 L.mode, .bool L.asleep, .slice (some ⟨p.c, 0, none⟩) L.csrs.length p.cc, .string L.ram, .slice (some ⟨p.k, 0, none⟩) L.clock.length p.ck, .slice (some ⟨p.p, 0, none⟩) L.prio.length p.cp, .int .u32 L.pend, .int .u32 L.served, .int .u32 L.level, .slice (some ⟨p.e, 0, none⟩) L.enable.length p.ce, .slice (some ⟨p.l, 0, none⟩) L.limit.length p.cl] 48)).alloc (.cells #[.slice (some ⟨p'.r, 0, none⟩) L'.regs.length p'.cr, .int .u32 L'.pc, .int .i64 L'.mode, .bool L'.asleep, .slice (some ⟨p'.c, 0, none⟩) L'.csrs.length p'.cc, .string L'.ram, .slice (some ⟨p'.k, 0, none⟩) L'.clock.length p'.ck, .slice (some ⟨p'.p, 0, none⟩) L'.prio.length p'.cp, .int .u32 L'.pend, .int .u32 L'.served, .int .u32 L'.level, .slice (some ⟨p'.e, 0, none⟩) L'.enable.length p'.ce, .slice (some ⟨p'.l, 0, none⟩) L'.limit.length p'.cl] 48))) := by
    have b1 : Below W.heap.size W (W.alloc (.cells #[.slice (some ⟨p.r, 0, none⟩) L.regs.length p.cr, .int .u32 L.pc, .int .i64 L.mode, .bool L.asleep, .slice (some ⟨p.c, 0, none⟩) L.csrs.length p.cc, .string L.ram, .slice (some ⟨p.k, 0, none⟩) L.clock.length p.ck, .slice (some ⟨p.p, 0, none⟩) L.prio.length p.cp, .int .u32 L.pend, .int .u32 L.served, .int .u32 L.level, .slice (some ⟨p.e, 0, none⟩) L.enable.length p.ce, .slice (some ⟨p.l, 0, none⟩) L.limit.length p.cl] 48)) := (Below.refl _ _).alloc (Nat.le_refl _) _
    have b2 : Below (W.alloc (.cells #[.slice (some ⟨p.r, 0, none⟩) L.regs.length p.cr, .int .u32 L.pc, .int .i64 L.mode, .bool L.asleep, .slice (some ⟨p.c, 0, none⟩) L.csrs.length p.cc, .string L.ram, .slice (some ⟨p.k, 0, none⟩) L.clock.length p.ck, .slice (some ⟨p.p, 0, none⟩) L.prio.length p.cp, .int .u32 L.pend, .int .u32 L.served, .int .u32 L.level, .slice (some ⟨p.e, 0, none⟩) L.enable.length p.ce, .slice (some ⟨p.l, 0, none⟩) L.limit.length p.cl] 48)).heap.size (W.alloc (.cells #[.slice (some ⟨p.r, 0, none⟩) L.regs.length p.cr, .int .u32 L.pc, .int .i64 L.mode, .bool L.asleep, .slice (some ⟨p.c, 0, none⟩) L.csrs.length p.cc, .string L.ram, .slice (some ⟨p.k, 0, none⟩) L.clock.length p.ck, .slice (some ⟨p.p, 0, none⟩) L.prio.length p.cp, .int .u32 L.pend, .int .u32 L.served, .int .u32 L.level, .slice (some ⟨p.e, 0, none⟩) L.enable.length p.ce, .slice (some ⟨p.l, 0, none⟩) L.limit.length p.cl] 48)) ((W.alloc (.cells #[.slice (some ⟨p.r, 0, none⟩) L.regs.length p.cr, .int .u32 L.pc, .int .i64 L.mode, .bool L.asleep, .slice (some ⟨p.c, 0, none⟩) L.csrs.length p.cc, .string L.ram, .slice (some ⟨p.k, 0, none⟩) L.clock.length p.ck, .slice (some ⟨p.p, 0, none⟩) L.prio.length p.cp, .int .u32 L.pend, .int .u32 L.served, .int .u32 L.level, .slice (some ⟨p.e, 0, none⟩) L.enable.length p.ce, .slice (some ⟨p.l, 0, none⟩) L.limit.length p.cl] 48)).alloc (.cells #[.slice (some ⟨p'.r, 0, none⟩) L'.regs.length p'.cr, .int .u32 L'.pc, .int .i64 L'.mode, .bool L'.asleep, .slice (some ⟨p'.c, 0, none⟩) L'.csrs.length p'.cc, .string L'.ram, .slice (some ⟨p'.k, 0, none⟩) L'.clock.length p'.ck, .slice (some ⟨p'.p, 0, none⟩) L'.prio.length p'.cp, .int .u32 L'.pend, .int .u32 L'.served, .int .u32 L'.level, .slice (some ⟨p'.e, 0, none⟩) L'.enable.length p'.ce, .slice (some ⟨p'.l, 0, none⟩) L'.limit.length p'.cl] 48)) := (Below.refl _ _).alloc (Nat.le_refl _) _
    exact b1.trans (b2.mono b1.size)
  have H0 : Hid (T2 W ((W.alloc (.cells #[.slice (some ⟨p.r, 0, none⟩) L.regs.length p.cr, .int .u32 L.pc, .int .i64 L.mode, .bool L.asleep, .slice (some ⟨p.c, 0, none⟩) L.csrs.length p.cc, .string L.ram, .slice (some ⟨p.k, 0, none⟩) L.clock.length p.ck, .slice (some ⟨p.p, 0, none⟩) L.prio.length p.cp, .int .u32 L.pend, .int .u32 L.served, .int .u32 L.level, .slice (some ⟨p.e, 0, none⟩) L.enable.length p.ce, .slice (some ⟨p.l, 0, none⟩) L.limit.length p.cl] 48)).alloc (.cells #[.slice (some ⟨p'.r, 0, none⟩) L'.regs.length p'.cr, .int .u32 L'.pc, .int .i64 L'.mode, .bool L'.asleep, .slice (some ⟨p'.c, 0, none⟩) L'.csrs.length p'.cc, .string L'.ram, .slice (some ⟨p'.k, 0, none⟩) L'.clock.length p'.ck, .slice (some ⟨p'.p, 0, none⟩) L'.prio.length p'.cp, .int .u32 L'.pend, .int .u32 L'.served, .int .u32 L'.level, .slice (some ⟨p'.e, 0, none⟩) L'.enable.length p'.ce, .slice (some ⟨p'.l, 0, none⟩) L'.limit.length p'.cl] 48)) W.heap.size (W.alloc (.cells #[.slice (some ⟨p.r, 0, none⟩) L.regs.length p.cr, .int .u32 L.pc, .int .i64 L.mode, .bool L.asleep, .slice (some ⟨p.c, 0, none⟩) L.csrs.length p.cc, .string L.ram, .slice (some ⟨p.k, 0, none⟩) L.clock.length p.ck, .slice (some ⟨p.p, 0, none⟩) L.prio.length p.cp, .int .u32 L.pend, .int .u32 L.served, .int .u32 L.level, .slice (some ⟨p.e, 0, none⟩) L.enable.length p.ce, .slice (some ⟨p.l, 0, none⟩) L.limit.length p.cl] 48)).heap.size p p' L L') := T2.new W p p' L L' st st'
  have HPC : Hid (L.pc = m) := hpc
  clear hpc
  have HF : Hid (LFull L ∧ LFull L') := ⟨F, F'⟩
  have hsz : L.ram.size = bs.length := by rw [hr]; exact bytesOf_size bs
  have h512 : L.ram.size ≤ 512 := F.ram
  have HE : Hid (No L L' (leV bs m 4) 3 14 15 16 12) := E
  clear E
  have S9 : Hid (∀ w, Calls Tryz.prog 51 #[.int .u32 (L.csrs.getD 9 0), .int .i64 2] w fun e W' => e = .returned (.bool false) ∧ W' = w) := fun w => kset_is w _ 2 (by decide) _ h9
  clear h9
  have HWd : Hid (∀ w, Calls Tryz.prog 52 #[.string L.ram, .int .i64 m] w fun e W' => e = .returned (.int .u32 (leV bs m 4)) ∧ ∃ q, W' = w.drewN q) := fun w => by rw [hr]; exact word_le w bs hb m ho (by omega)
  have HDe : Hid (∀ w, Below W.heap.size W w → Calls Tryz.prog 42 #[.int .u32 (leV bs m 4)] w fun e W' => e = .returned (.agg #[.int .i64 0, .int .i64 nd, .int .i64 n1, .int .i64 n2, .int .u32 imm]) ∧ Below w.heap.size w W') := fun w hw => by
    have lv := (leV_bd hb m).2.2
    have := decode_any (leV bs m 4) w lv.1 lv.2 (T.below T.size hw)
    rw [hd] at this
    exact this
  have hl : (m : Int) + 4 ≤ L.ram.size := by omega
  have h512' : (L.ram.size : Int) ≤ 512 := by omega
  clear st st' F F' ho hsz hr h512 T hd hb
  go_enter Tryz.func23, Tryz.ntmps23
  go_upto_region 1 with fail
  generalize ((W.alloc (.cells #[.slice (some ⟨p.r, 0, none⟩) L.regs.length p.cr, .int .u32 L.pc, .int .i64 L.mode, .bool L.asleep, .slice (some ⟨p.c, 0, none⟩) L.csrs.length p.cc, .string L.ram, .slice (some ⟨p.k, 0, none⟩) L.clock.length p.ck, .slice (some ⟨p.p, 0, none⟩) L.prio.length p.cp, .int .u32 L.pend, .int .u32 L.served, .int .u32 L.level, .slice (some ⟨p.e, 0, none⟩) L.enable.length p.ce, .slice (some ⟨p.l, 0, none⟩) L.limit.length p.cl] 48)).alloc (.cells #[.slice (some ⟨p'.r, 0, none⟩) L'.regs.length p'.cr, .int .u32 L'.pc, .int .i64 L'.mode, .bool L'.asleep, .slice (some ⟨p'.c, 0, none⟩) L'.csrs.length p'.cc, .string L'.ram, .slice (some ⟨p'.k, 0, none⟩) L'.clock.length p'.ck, .slice (some ⟨p'.p, 0, none⟩) L'.prio.length p'.cp, .int .u32 L'.pend, .int .u32 L'.served, .int .u32 L'.level, .slice (some ⟨p'.e, 0, none⟩) L'.enable.length p'.ce, .slice (some ⟨p'.l, 0, none⟩) L'.limit.length p'.cl] 48)) = w0 at H0 HB0 ⊢
  simp at H0
  have hg2 : W.heap.size < W.heap.size + 1 := by omega
  generalize W.heap.size + 1 = g2 at H0 hg2 ⊢
  have HG2 : Hid (W.heap.size < g2) := hg2
  clear hg2
  have k1_1 := H0.out.b1.c1
  rw [HPC.out] at k1_1
  have k1_5 := H0.out.b1.c5
  go_wp2_with fail
  refine (HWd.out _).mono ?_
  rintro e w1 ⟨rfl, q1, hw1⟩
  have H1 : Hid (T2 W w1 W.heap.size g2 p p' L L') := H0.out.below (by rw [hw1]; exact below_drawn (Below.refl _ _) _)
  have HB1 : Hid (Below W.heap.size W w1) := by have := HB0.out; rw [hw1]; exact below_drawn this _
  clear hw1 HB0 H0 k1_1 k1_5
  generalize leV bs m 4 = wv at HDe HE ⊢
  go_wp2_with fail
  refine (HDe.out _ HB1.out).mono ?_
  rintro e w2 ⟨rfl, b2⟩
  have H3 : Hid (T3 W (w2.alloc (.cells #[.int .i64 0, .int .i64 nd, .int .i64 n1, .int .i64 n2, .int .u32 imm] 72)) W.heap.size g2 w2.heap.size p p' L L' 0 nd n1 n2 imm) := ⟨(H1.out.below b2).below ((Below.refl w2.heap.size w2).alloc (Nat.le_refl _) _), DX.new w2 0 nd n1 n2 imm⟩
  have HW2 : W.heap.size ≤ w2.heap.size := Nat.le_trans HB1.out.size b2.size
  clear b2 H1 HDe HB1
  obtain ⟨k1_0, k1_1, k1_2, k1_3, k1_4, k1_5, k1_6, k1_7, k1_8, k1_9, k1_10, k1_11, k1_12⟩ := H3.out.t.b1
  obtain ⟨k2_0, k2_1, k2_2, k2_3, k2_4, k2_5, k2_6, k2_7, k2_8, k2_9, k2_10, k2_11, k2_12⟩ := H3.out.t.b2
  go_wp2_with fail
  refine (devices_true _ p p' L L' H3.out.t.a1 H3.out.t.a2 HE.out.clock HE.out.prio HE.out.enable HE.out.limit HE.out.pend HE.out.served HE.out.level).mono ?_
  rintro e w4 ⟨rfl, b4⟩
  have H4 : Hid (T3 W w4 W.heap.size g2 w2.heap.size p p' L L' 0 nd n1 n2 imm) := H3.out.below b4
  clear b4 H3 k1_0 k1_1 k1_2 k1_3 k1_4 k1_5 k1_6 k1_7 k1_8 k1_9 k1_10 k1_11 k1_12 k2_0 k2_1 k2_2 k2_3 k2_4 k2_5 k2_6 k2_7 k2_8 k2_9 k2_10 k2_11 k2_12
  have HG3 : Hid (W.heap.size ≤ w2.heap.size) := HW2
  generalize w2.heap.size = g3 at H4 HG3 ⊢
  have d0 := H4.out.d.c0
  have d1 := H4.out.d.c1
  have d2 := H4.out.d.c2
  have d4 := H4.out.d.c4
  obtain ⟨k1_0, k1_1, k1_2, k1_3, k1_4, k1_5, k1_6, k1_7, k1_8, k1_9, k1_10, k1_11, k1_12⟩ := H4.out.t.b1
  obtain ⟨k2_0, k2_1, k2_2, k2_3, k2_4, k2_5, k2_6, k2_7, k2_8, k2_9, k2_10, k2_11, k2_12⟩ := H4.out.t.b2
  go_wp2_with fail
  refine (core_true _ p p' L L' H4.out.t.a1 H4.out.t.a2 HE.out.regs HE.out.ram).mono ?_
  rintro e w5 ⟨rfl, b5⟩
  have H5 : Hid (T3 W w5 W.heap.size g2 g3 p p' L L' 0 nd n1 n2 imm) := H4.out.below b5
  clear b5 H4 k1_0 k1_1 k1_2 k1_3 k1_4 k1_5 k1_6 k1_7 k1_8 k1_9 k1_10 k1_11 k1_12 k2_0 k2_1 k2_2 k2_3 k2_4 k2_5 k2_6 k2_7 k2_8 k2_9 k2_10 k2_11 k2_12 d0 d1 d2 d4
  have k1_1 := H5.out.t.b1.c1
  have k1_2 := H5.out.t.b1.c2
  have k1_4 := H5.out.t.b1.c4
  rw [HF.out.1.csrs] at k1_4
  have k2_1 := H5.out.t.b2.c1
  rw [HE.out.pc] at k2_1
  have k2_2 := H5.out.t.b2.c2
  rw [HE.out.mode] at k2_2
  have k2_3 := H5.out.t.b2.c3
  rw [HE.out.asleep] at k2_3
  have k2_4 := H5.out.t.b2.c4
  rw [HF.out.2.csrs] at k2_4
  have q9 := H5.out.t.a1.csrs.cell 9 (by rw [HF.out.1.csrs]; decide)
  have qv := H5.out.t.a1.csrs.cell 12 (by rw [HF.out.1.csrs]; decide)
  have qe := H5.out.t.a2.csrs.cell 14 (by rw [HF.out.2.csrs]; decide)
  rw [HE.out.epc] at qe
  have qc := H5.out.t.a2.csrs.cell 15 (by rw [HF.out.2.csrs]; decide)
  rw [HE.out.cause] at qc
  have qt := H5.out.t.a2.csrs.cell 16 (by rw [HF.out.2.csrs]; decide)
  rw [HE.out.tval] at qt
  have HB : Hid (∀ q, Offs [p.r] W (w5.drewN q)) := fun q => H5.out.t.o.drawn q
  generalize L.csrs.getD 12 0 = base at qv k2_1
  generalize L.csrs.getD 9 0 = v9 at q9 S9
  generalize L.pc = apc at k1_1 qe
  generalize L.mode = md at k1_2 hmd
  clear HE H5 HF HPC
  go_wp2_with (go_at_call 51; refine (S9.out _).mono ?_; rintro e w6 ⟨rfl, hw⟩; rw [hw]; clear hw w6)
  go_quiet (fail)
  go_wp2_with fail
  go_ret
  exact ⟨rfl, HB.out _⟩
end Go.Proofs.YteiideeechnekaaGreatDoor
