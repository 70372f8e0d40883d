/-
  hartkeep.word and exact.
-/
import Derived.Test.YteiideeechnekaaGreatDoorKeepFrame
import Derived.Test.YteiideeechnekaaGreatDoorDCode
import Derived.BigQuiet
namespace Go.Proofs.YteiideeechnekaaGreatDoor
open Go.RowKit

structure T2 (W w : World) (g1 g2 : Nat) (p p' : Pl) (L L' : LSt) : Prop where
  b1 : B13 w g1 p L
  b2 : B13 w g2 p' L'
  a1 : StAt w p L
  a2 : StAt w p' L'
  o : Offs [p.r] W w
theorem T2.below {W w w' : World} {g1 g2 : Nat} {p p' : Pl} {L L' : LSt} (h : T2 W w g1 g2 p p' L L') (hb : Below w.heap.size w w') : T2 W w' g1 g2 p p' L L' :=
  ⟨h.b1.below hb, h.b2.below hb, h.a1.below hb, h.a2.below hb, h.o.trans (Offs.of_below hb)⟩
theorem T2.new (W : World) (p p' : Pl) (L L' : LSt) (st : StAt W p L) (st' : StAt W p' L') : T2 W ((W.alloc (.cells #[.slice (some ⟨p.r, 0, none⟩) L.regs.length p.cr, .int .u32 L.pc, .int .i64 L.mode, .bool L.asleep, .slice (some ⟨p.c, 0, none⟩) L.csrs.length p.cc, .string L.ram, .slice (some ⟨p.k, 0, none⟩) L.clock.length p.ck, .slice (some ⟨p.p, 0, none⟩) L.prio.length p.cp, .int .u32 L.pend, .int .u32 L.served, .int .u32 L.level, .slice (some ⟨p.e, 0, none⟩) L.enable.length p.ce, .slice (some ⟨p.l, 0, none⟩) L.limit.length p.cl] 48)).alloc (.cells #[.slice (some ⟨p'.r, 0, none⟩) L'.regs.length p'.cr, .int .u32 L'.pc, .int .i64 L'.mode, .bool L'.asleep, .slice (some ⟨p'.c, 0, none⟩) L'.csrs.length p'.cc, .string L'.ram, .slice (some ⟨p'.k, 0, none⟩) L'.clock.length p'.ck, .slice (some ⟨p'.p, 0, none⟩) L'.prio.length p'.cp, .int .u32 L'.pend, .int .u32 L'.served, .int .u32 L'.level, .slice (some ⟨p'.e, 0, none⟩) L'.enable.length p'.ce, .slice (some ⟨p'.l, 0, none⟩) L'.limit.length p'.cl] 48)) W.heap.size (W.alloc (.cells #[.slice (some ⟨p.r, 0, none⟩) L.regs.length p.cr, .int .u32 L.pc, .int .i64 L.mode, .bool L.asleep, .slice (some ⟨p.c, 0, none⟩) L.csrs.length p.cc, .string L.ram, .slice (some ⟨p.k, 0, none⟩) L.clock.length p.ck, .slice (some ⟨p.p, 0, none⟩) L.prio.length p.cp, .int .u32 L.pend, .int .u32 L.served, .int .u32 L.level, .slice (some ⟨p.e, 0, none⟩) L.enable.length p.ce, .slice (some ⟨p.l, 0, none⟩) L.limit.length p.cl] 48)).heap.size p p' L L' := by
  have b1 : Below W.heap.size W (W.alloc (.cells #[.slice (some ⟨p.r, 0, none⟩) L.regs.length p.cr, .int .u32 L.pc, .int .i64 L.mode, .bool L.asleep, .slice (some ⟨p.c, 0, none⟩) L.csrs.length p.cc, .string L.ram, .slice (some ⟨p.k, 0, none⟩) L.clock.length p.ck, .slice (some ⟨p.p, 0, none⟩) L.prio.length p.cp, .int .u32 L.pend, .int .u32 L.served, .int .u32 L.level, .slice (some ⟨p.e, 0, none⟩) L.enable.length p.ce, .slice (some ⟨p.l, 0, none⟩) L.limit.length p.cl] 48)) := (Below.refl _ _).alloc (Nat.le_refl _) _
  have b2 : Below (W.alloc (.cells #[.slice (some ⟨p.r, 0, none⟩) L.regs.length p.cr, .int .u32 L.pc, .int .i64 L.mode, .bool L.asleep, .slice (some ⟨p.c, 0, none⟩) L.csrs.length p.cc, .string L.ram, .slice (some ⟨p.k, 0, none⟩) L.clock.length p.ck, .slice (some ⟨p.p, 0, none⟩) L.prio.length p.cp, .int .u32 L.pend, .int .u32 L.served, .int .u32 L.level, .slice (some ⟨p.e, 0, none⟩) L.enable.length p.ce, .slice (some ⟨p.l, 0, none⟩) L.limit.length p.cl] 48)).heap.size (W.alloc (.cells #[.slice (some ⟨p.r, 0, none⟩) L.regs.length p.cr, .int .u32 L.pc, .int .i64 L.mode, .bool L.asleep, .slice (some ⟨p.c, 0, none⟩) L.csrs.length p.cc, .string L.ram, .slice (some ⟨p.k, 0, none⟩) L.clock.length p.ck, .slice (some ⟨p.p, 0, none⟩) L.prio.length p.cp, .int .u32 L.pend, .int .u32 L.served, .int .u32 L.level, .slice (some ⟨p.e, 0, none⟩) L.enable.length p.ce, .slice (some ⟨p.l, 0, none⟩) L.limit.length p.cl] 48)) ((W.alloc (.cells #[.slice (some ⟨p.r, 0, none⟩) L.regs.length p.cr, .int .u32 L.pc, .int .i64 L.mode, .bool L.asleep, .slice (some ⟨p.c, 0, none⟩) L.csrs.length p.cc, .string L.ram, .slice (some ⟨p.k, 0, none⟩) L.clock.length p.ck, .slice (some ⟨p.p, 0, none⟩) L.prio.length p.cp, .int .u32 L.pend, .int .u32 L.served, .int .u32 L.level, .slice (some ⟨p.e, 0, none⟩) L.enable.length p.ce, .slice (some ⟨p.l, 0, none⟩) L.limit.length p.cl] 48)).alloc (.cells #[.slice (some ⟨p'.r, 0, none⟩) L'.regs.length p'.cr, .int .u32 L'.pc, .int .i64 L'.mode, .bool L'.asleep, .slice (some ⟨p'.c, 0, none⟩) L'.csrs.length p'.cc, .string L'.ram, .slice (some ⟨p'.k, 0, none⟩) L'.clock.length p'.ck, .slice (some ⟨p'.p, 0, none⟩) L'.prio.length p'.cp, .int .u32 L'.pend, .int .u32 L'.served, .int .u32 L'.level, .slice (some ⟨p'.e, 0, none⟩) L'.enable.length p'.ce, .slice (some ⟨p'.l, 0, none⟩) L'.limit.length p'.cl] 48)) := (Below.refl _ _).alloc (Nat.le_refl _) _
  exact ⟨(B13.new W p L).below b2, B13.new (W.alloc (.cells #[.slice (some ⟨p.r, 0, none⟩) L.regs.length p.cr, .int .u32 L.pc, .int .i64 L.mode, .bool L.asleep, .slice (some ⟨p.c, 0, none⟩) L.csrs.length p.cc, .string L.ram, .slice (some ⟨p.k, 0, none⟩) L.clock.length p.ck, .slice (some ⟨p.p, 0, none⟩) L.prio.length p.cp, .int .u32 L.pend, .int .u32 L.served, .int .u32 L.level, .slice (some ⟨p.e, 0, none⟩) L.enable.length p.ce, .slice (some ⟨p.l, 0, none⟩) L.limit.length p.cl] 48)) p' L', (st.below b1).below b2, (st'.below b1).below b2, Offs.of_below (b1.trans (b2.mono b1.size))⟩
theorem andNot_3 {v : Int} (h : W32 v) : bits .andNot .u32 v 3 = bits .and .u32 v 4294967292 := by
  rw [u32_andNot v 3 h.1 h.2 (by decide) (by decide), u32_and v 4294967292 h.1 h.2 (by decide) (by decide)]
  rfl
theorem decode_of (w : Int) (W : World) (d : D.Ins) (hA : ∀ o, Calls Tryz.prog 80 #[.int .u32 w] (W.alloc o) fun e W' => e = .returned (.agg #[.int .i64 d.op, .int .i64 d.rd, .int .i64 d.r1, .int .i64 d.r2, .int .u32 d.imm]) ∧ Below (W.alloc o).heap.size (W.alloc o) W') :
    Calls Tryz.prog 42 #[.int .u32 w] W fun e W' => e = .returned (.agg #[.int .i64 d.op, .int .i64 d.rd, .int .i64 d.r1, .int .i64 d.r2, .int .u32 d.imm]) ∧ Below W.heap.size W W' := by
  go_enter Tryz.func42, Tryz.ntmps42
  go_wp2_with (go_at_call 80; refine (hA _).mono ?_; rintro e w' ⟨rfl, hb⟩; obtain ⟨hc, hfz⟩ := bcell hb)
  exact bodyPost_ret (v := .agg #[.int .i64 d.op, .int .i64 d.rd, .int .i64 d.r1, .int .i64 d.r2, .int .u32 d.imm]) (by simp [results, Tryz.results42, go_sem, hc]) rfl ⟨rfl, D.below5 (((Below.refl _ _).alloc (Nat.le_refl _) _).trans (hb.mono (by simp))) (Nat.le_refl _) _ _ _ _ _⟩
theorem decode_any (w : Int) (W : World) (h0 : 0 ≤ w) (h1 : w < 4294967296) (T : D.Tabs W) :
    Calls Tryz.prog 42 #[.int .u32 w] W fun e W' => e = .returned (.agg #[.int .i64 (D.dec w).op, .int .i64 (D.dec w).rd, .int .i64 (D.dec w).r1, .int .i64 (D.dec w).r2, .int .u32 (D.dec w).imm]) ∧ Below W.heap.size W W' :=
  decode_of w W (D.dec w) fun o => D.word_any w (W.alloc o) h0 h1 (T.below T.size ((Below.refl _ _).alloc (Nat.le_refl _) o))
theorem byte_at {bs : List Int} (hb : Byt bs) (k : Nat) (hk : k < bs.length) (h : k < (bytesOf bs).size) : (((bytesOf bs)[k]'h).toNat : Int) = bs[k]?.getD 0 := by
  have hx := hb (bs[k]) (List.getElem_mem hk)
  have e : (bytesOf bs)[k]'h = UInt8.ofNat (bs[k]).toNat := by
    have q : bytesOf bs = ⟨(bs.map fun n => UInt8.ofNat n.toNat).toArray⟩ := bytesOf_eq bs
    have : ∀ (b : ByteArray) (hb : k < b.size), b = ⟨(bs.map fun n => UInt8.ofNat n.toNat).toArray⟩ → b[k]'hb = UInt8.ofNat (bs[k]).toNat := by
      rintro b hb rfl
      show ((bs.map fun n => UInt8.ofNat n.toNat).toArray)[k] = _
      simp
    exact this _ h q
  rw [e, List.getElem?_eq_getElem hk]
  simp
  omega
set_option maxHeartbeats 1000000 in
theorem word_le (W : World) (bs : List Int) (hb : Byt bs) (m : Nat) (hm : m + 4 ≤ bs.length) (hl : bs.length ≤ 512) :
    Calls Tryz.prog 52 #[.string (bytesOf bs), .int .i64 m] W fun e W' => e = .returned (.int .u32 (leV bs m 4)) ∧ ∃ q, W' = W.drewN q := by
  have sz : (bytesOf bs).size = bs.length := bytesOf_size bs
  have b0 := hb.at m
  have b1 := hb.at (m + 1)
  have b2 := hb.at (m + 2)
  have b3 := hb.at (m + 3)
  have e0 := byte_at hb m (by omega) (by omega)
  have e1 := byte_at hb (m + 1) (by omega) (by omega)
  have e2 := byte_at hb (m + 2) (by omega) (by omega)
  have e3 := byte_at hb (m + 3) (by omega) (by omega)
  rw [leV_4]
  generalize bs[m]?.getD 0 = y0 at b0 e0 ⊢
  generalize bs[m + 1]?.getD 0 = y1 at b1 e1 ⊢
  generalize bs[m + 2]?.getD 0 = y2 at b2 e2 ⊢
  generalize bs[m + 3]?.getD 0 = y3 at b3 e3 ⊢
  have hm' : (m : Int) + 4 ≤ (bytesOf bs).size := by omega
  have hs : ((bytesOf bs).size : Int) ≤ 512 := by omega
  have r0 : ∀ w, (Instr.index 9 (.string (bytesOf bs)) (.int .i64 m)).run Tryz.prog w = .ok (.int .u8 y0) w := fun w => by
    rw [run_index_string w 9 (bytesOf bs) .i64 _ Tryz.underlying9, dif_pos ⟨by omega, by omega⟩, ← e0]
    rfl
  have r1 : ∀ w, (Instr.index 9 (.string (bytesOf bs)) (.int .i64 ((m : Int) + 1))).run Tryz.prog w = .ok (.int .u8 y1) w := fun w => by
    rw [run_index_string w 9 (bytesOf bs) .i64 _ Tryz.underlying9, dif_pos ⟨by omega, by omega⟩, ← e1]
    rfl
  have r2 : ∀ w, (Instr.index 9 (.string (bytesOf bs)) (.int .i64 ((m : Int) + 2))).run Tryz.prog w = .ok (.int .u8 y2) w := fun w => by
    rw [run_index_string w 9 (bytesOf bs) .i64 _ Tryz.underlying9, dif_pos ⟨by omega, by omega⟩, ← e2]
    rfl
  have r3 : ∀ w, (Instr.index 9 (.string (bytesOf bs)) (.int .i64 ((m : Int) + 3))).run Tryz.prog w = .ok (.int .u8 y3) w := fun w => by
    rw [run_index_string w 9 (bytesOf bs) .i64 _ Tryz.underlying9, dif_pos ⟨by omega, by omega⟩, ← e3]
    rfl
  clear e0 e1 e2 e3 hb hm hl
  generalize bytesOf bs = st at sz r0 r1 r2 r3 hm' hs ⊢
  clear sz
  go_enter Tryz.func52, Tryz.ntmps52
  go_wp2_with fail
  go_quiet (fail)
  go_wp2_with fail
  go_ret
  exact ⟨by simp, _, rfl⟩
structure DX (w : World) (g : Nat) (op nd n1 n2 imm : Int) : Prop where
  c0 : w.cell? ⟨g, 0, none⟩ = some (.int .i64 op)
  c1 : w.cell? ⟨g, 1, none⟩ = some (.int .i64 nd)
  c2 : w.cell? ⟨g, 2, none⟩ = some (.int .i64 n1)
  c3 : w.cell? ⟨g, 3, none⟩ = some (.int .i64 n2)
  c4 : w.cell? ⟨g, 4, none⟩ = some (.int .u32 imm)
theorem DX.of {w w' : World} {g : Nat} {op nd n1 n2 imm : Int} (h : DX w g op nd n1 n2 imm) (e : w'.heap[g]? = w.heap[g]?) : DX w' g op nd n1 n2 imm := by
  have c : ∀ j, w'.cell? ⟨g, j, none⟩ = w.cell? ⟨g, j, none⟩ := fun j => World.cell?_of_block (w := w) e
  exact ⟨(c _).trans h.c0, (c _).trans h.c1, (c _).trans h.c2, (c _).trans h.c3, (c _).trans h.c4⟩
theorem DX.lt {w : World} {g : Nat} {op nd n1 n2 imm : Int} (h : DX w g op nd n1 n2 imm) : g < w.heap.size := World.block_lt_of_cell? w _ h.c0
theorem DX.new (w : World) (op nd n1 n2 imm : Int) : DX (w.alloc (.cells #[.int .i64 op, .int .i64 nd, .int .i64 n1, .int .i64 n2, .int .u32 imm] 72)) w.heap.size op nd n1 n2 imm := by
  have e := fun j => cell_of_row (w.alloc (.cells #[.int .i64 op, .int .i64 nd, .int .i64 n1, .int .i64 n2, .int .u32 imm] 72)) w.heap.size j _ _ (0, 0) (heap_alloc_new w _)
  exact ⟨(e 0).trans rfl, (e 1).trans rfl, (e 2).trans rfl, (e 3).trans rfl, (e 4).trans rfl⟩
/-- Two looks and an instruction in their boxes. -/
structure T3 (W w : World) (g1 g2 g3 : Nat) (p p' : Pl) (L L' : LSt) (op nd n1 n2 imm : Int) : Prop where
  t : T2 W w g1 g2 p p' L L'
  d : DX w g3 op nd n1 n2 imm
theorem T3.below {W w w' : World} {g1 g2 g3 : Nat} {p p' : Pl} {L L' : LSt} {op nd n1 n2 imm : Int} (h : T3 W w g1 g2 g3 p p' L L' op nd n1 n2 imm) (hb : Below w.heap.size w w') : T3 W w' g1 g2 g3 p p' L L' op nd n1 n2 imm := ⟨h.t.below hb, h.d.of (hb.block g3 h.d.lt)⟩
theorem T2.put {W w : World} {g1 g2 : Nat} {p p' : Pl} {L L' : LSt} (h : T2 W w g1 g2 p p' L L') (q k : Nat) (v : Int) (n : g1 ≠ p.r ∧ g2 ≠ p.r ∧ p.c ≠ p.r ∧ p.k ≠ p.r ∧ p.p ≠ p.r ∧ p.e ≠ p.r ∧ p.l ≠ p.r) (n' : p'.r ≠ p.r ∧ p'.c ≠ p.r ∧ p'.k ≠ p.r ∧ p'.p ≠ p.r ∧ p'.e ≠ p.r ∧ p'.l ≠ p.r) :
    T2 W ((w.drewN q).setCell ⟨p.r, k, none⟩ (.int .u32 v)) g1 g2 p p' { L with regs := L.regs.set k v } L' := by
  have kp : ∀ b, b ≠ p.r → ((w.drewN q).setCell ⟨p.r, k, none⟩ (.int .u32 v)).heap[b]? = w.heap[b]? := fun b hb => Below.heap_setCell _ _ _ _ hb
  have B := h.b1.of (kp _ n.1)
  refine ⟨⟨?_, B.c1, B.c2, B.c3, B.c4, B.c5, B.c6, B.c7, B.c8, B.c9, B.c10, B.c11, B.c12⟩, h.b2.of (kp _ n.2.1), ⟨?_, row_keep h.a1.csrs (kp _ n.2.2.1), row_keep h.a1.clock (kp _ n.2.2.2.1), row_keep h.a1.prio (kp _ n.2.2.2.2.1), row_keep h.a1.enable (kp _ n.2.2.2.2.2.1), row_keep h.a1.limit (kp _ n.2.2.2.2.2.2)⟩, h.a2.of fun b hb => kp b (by omega), ?_⟩
  · show _ = some (Value.slice (some ⟨p.r, 0, none⟩) (L.regs.set k v).length p.cr)
    rw [List.length_set]
    exact B.c0
  · exact (row_keep h.a1.regs (rfl : (w.drewN q).heap[p.r]? = w.heap[p.r]?)).put k v
  · exact (h.o.drawn q).put (by simp) _
theorem kwords' (W : World) (g g' c c' : Nat) (xs ys : List Int) (n : Nat) (hn : xs.length = n) (e : ys = xs) (h : RowAt W g c xs) (h' : RowAt W g' c' ys) :
    Calls Tryz.prog 55 #[.slice (some ⟨g, 0, none⟩) n c, .slice (some ⟨g', 0, none⟩) n c'] W fun e W' => e = .returned (.bool true) ∧ ∃ q, W' = W.drewN q := by
  subst e
  rw [← hn]
  exact kwords_true W g g' c c' ys h h'
set_option maxHeartbeats 1000000 in
set_option maxRecDepth 100000 in
theorem exact_out (W : World) (p p' : Pl) (L L' : LSt) (st : StAt W p L) (st' : StAt W p' L') (F : LFull L) (F' : LFull L') (bs : List Int) (hr : L.ram = bytesOf bs) (m : Nat) (hpc : L.pc = m) (h32 : m < 4294967296) (ho : ¬ m + 4 ≤ bs.length) : Calls Tryz.prog 23 #[.agg #[.slice (some ⟨p.r, 0, none⟩) L.regs.length p.cr, .int .u32 L.pc, .int .i64 L.mode, .bool L.asleep, .slice (some ⟨p.c, 0, none⟩) L.csrs.length p.cc, .string L.ram, .slice (some ⟨p.k, 0, none⟩) L.clock.length p.ck, .slice (some ⟨p.p, 0, none⟩) L.prio.length p.cp, .int .u32 L.pend, .int .u32 L.served, .int .u32 L.level, .slice (some ⟨p.e, 0, none⟩) L.enable.length p.ce, .slice (some ⟨p.l, 0, none⟩) L.limit.length p.cl], .agg #[.slice (some ⟨p'.r, 0, none⟩) L'.regs.length p'.cr, .int .u32 L'.pc, .int .i64 L'.mode, .bool L'.asleep, .slice (some ⟨p'.c, 0, none⟩) L'.csrs.length p'.cc, .string L'.ram, .slice (some ⟨p'.k, 0, none⟩) L'.clock.length p'.ck, .slice (some ⟨p'.p, 0, none⟩) L'.prio.length p'.cp, .int .u32 L'.pend, .int .u32 L'.served, .int .u32 L'.level, .slice (some ⟨p'.e, 0, none⟩) L'.enable.length p'.ce, .slice (some ⟨p'.l, 0, none⟩) L'.limit.length p'.cl]] W fun e W' => e = .returned (.bool true) ∧ Offs [p.r] W W' := by
  have HB0 : Hid (Below W.heap.size W ((W.alloc (.cells #[.slice (some ⟨p.r, 0, none⟩) L.regs.length p.cr, .int .u32 L.pc, .int .i64 L.mode, .bool L.asleep, .slice (some ⟨p.c, 0, none⟩) L.csrs.length p.cc, .string L.ram, .slice (some ⟨p.k, 0, none⟩) L.clock.length p.ck, .slice (some ⟨p.p, 0, none⟩) L.prio.length p.cp, .int .u32 L.pend, .int .u32 L.served, .int .u32 L.level, .slice (some ⟨p.e, 0, none⟩) L.enable.length p.ce, .slice (some ⟨p.l, 0, none⟩) L.limit.length p.cl] 48)).alloc (.cells #[.slice (some ⟨p'.r, 0, none⟩) L'.regs.length p'.cr, .int .u32 L'.pc, .int .i64 L'.mode, .bool L'.asleep, .slice (some ⟨p'.c, 0, none⟩) L'.csrs.length p'.cc, .string L'.ram, .slice (some ⟨p'.k, 0, none⟩) L'.clock.length p'.ck, .slice (some ⟨p'.p, 0, none⟩) L'.prio.length p'.cp, .int .u32 L'.pend, .int .u32 L'.served, .int .u32 L'.level, .slice (some ⟨p'.e, 0, none⟩) L'.enable.length p'.ce, .slice (some ⟨p'.l, 0, none⟩) L'.limit.length p'.cl] 48))) := by
    have b1 : Below W.heap.size W (W.alloc (.cells #[.slice (some ⟨p.r, 0, none⟩) L.regs.length p.cr, .int .u32 L.pc, .int .i64 L.mode, .bool L.asleep, .slice (some ⟨p.c, 0, none⟩) L.csrs.length p.cc, .string L.ram, .slice (some ⟨p.k, 0, none⟩) L.clock.length p.ck, .slice (some ⟨p.p, 0, none⟩) L.prio.length p.cp, .int .u32 L.pend, .int .u32 L.served, .int .u32 L.level, .slice (some ⟨p.e, 0, none⟩) L.enable.length p.ce, .slice (some ⟨p.l, 0, none⟩) L.limit.length p.cl] 48)) := (Below.refl _ _).alloc (Nat.le_refl _) _
    have b2 : Below (W.alloc (.cells #[.slice (some ⟨p.r, 0, none⟩) L.regs.length p.cr, .int .u32 L.pc, .int .i64 L.mode, .bool L.asleep, .slice (some ⟨p.c, 0, none⟩) L.csrs.length p.cc, .string L.ram, .slice (some ⟨p.k, 0, none⟩) L.clock.length p.ck, .slice (some ⟨p.p, 0, none⟩) L.prio.length p.cp, .int .u32 L.pend, .int .u32 L.served, .int .u32 L.level, .slice (some ⟨p.e, 0, none⟩) L.enable.length p.ce, .slice (some ⟨p.l, 0, none⟩) L.limit.length p.cl] 48)).heap.size (W.alloc (.cells #[.slice (some ⟨p.r, 0, none⟩) L.regs.length p.cr, .int .u32 L.pc, .int .i64 L.mode, .bool L.asleep, .slice (some ⟨p.c, 0, none⟩) L.csrs.length p.cc, .string L.ram, .slice (some ⟨p.k, 0, none⟩) L.clock.length p.ck, .slice (some ⟨p.p, 0, none⟩) L.prio.length p.cp, .int .u32 L.pend, .int .u32 L.served, .int .u32 L.level, .slice (some ⟨p.e, 0, none⟩) L.enable.length p.ce, .slice (some ⟨p.l, 0, none⟩) L.limit.length p.cl] 48)) ((W.alloc (.cells #[.slice (some ⟨p.r, 0, none⟩) L.regs.length p.cr, .int .u32 L.pc, .int .i64 L.mode, .bool L.asleep, .slice (some ⟨p.c, 0, none⟩) L.csrs.length p.cc, .string L.ram, .slice (some ⟨p.k, 0, none⟩) L.clock.length p.ck, .slice (some ⟨p.p, 0, none⟩) L.prio.length p.cp, .int .u32 L.pend, .int .u32 L.served, .int .u32 L.level, .slice (some ⟨p.e, 0, none⟩) L.enable.length p.ce, .slice (some ⟨p.l, 0, none⟩) L.limit.length p.cl] 48)).alloc (.cells #[.slice (some ⟨p'.r, 0, none⟩) L'.regs.length p'.cr, .int .u32 L'.pc, .int .i64 L'.mode, .bool L'.asleep, .slice (some ⟨p'.c, 0, none⟩) L'.csrs.length p'.cc, .string L'.ram, .slice (some ⟨p'.k, 0, none⟩) L'.clock.length p'.ck, .slice (some ⟨p'.p, 0, none⟩) L'.prio.length p'.cp, .int .u32 L'.pend, .int .u32 L'.served, .int .u32 L'.level, .slice (some ⟨p'.e, 0, none⟩) L'.enable.length p'.ce, .slice (some ⟨p'.l, 0, none⟩) L'.limit.length p'.cl] 48)) := (Below.refl _ _).alloc (Nat.le_refl _) _
    exact b1.trans (b2.mono b1.size)
  have H0 : Hid (T2 W ((W.alloc (.cells #[.slice (some ⟨p.r, 0, none⟩) L.regs.length p.cr, .int .u32 L.pc, .int .i64 L.mode, .bool L.asleep, .slice (some ⟨p.c, 0, none⟩) L.csrs.length p.cc, .string L.ram, .slice (some ⟨p.k, 0, none⟩) L.clock.length p.ck, .slice (some ⟨p.p, 0, none⟩) L.prio.length p.cp, .int .u32 L.pend, .int .u32 L.served, .int .u32 L.level, .slice (some ⟨p.e, 0, none⟩) L.enable.length p.ce, .slice (some ⟨p.l, 0, none⟩) L.limit.length p.cl] 48)).alloc (.cells #[.slice (some ⟨p'.r, 0, none⟩) L'.regs.length p'.cr, .int .u32 L'.pc, .int .i64 L'.mode, .bool L'.asleep, .slice (some ⟨p'.c, 0, none⟩) L'.csrs.length p'.cc, .string L'.ram, .slice (some ⟨p'.k, 0, none⟩) L'.clock.length p'.ck, .slice (some ⟨p'.p, 0, none⟩) L'.prio.length p'.cp, .int .u32 L'.pend, .int .u32 L'.served, .int .u32 L'.level, .slice (some ⟨p'.e, 0, none⟩) L'.enable.length p'.ce, .slice (some ⟨p'.l, 0, none⟩) L'.limit.length p'.cl] 48)) W.heap.size (W.alloc (.cells #[.slice (some ⟨p.r, 0, none⟩) L.regs.length p.cr, .int .u32 L.pc, .int .i64 L.mode, .bool L.asleep, .slice (some ⟨p.c, 0, none⟩) L.csrs.length p.cc, .string L.ram, .slice (some ⟨p.k, 0, none⟩) L.clock.length p.ck, .slice (some ⟨p.p, 0, none⟩) L.prio.length p.cp, .int .u32 L.pend, .int .u32 L.served, .int .u32 L.level, .slice (some ⟨p.e, 0, none⟩) L.enable.length p.ce, .slice (some ⟨p.l, 0, none⟩) L.limit.length p.cl] 48)).heap.size p p' L L') := T2.new W p p' L L' st st'
  have HPC : Hid (L.pc = m) := hpc
  clear hpc
  have HF : Hid (LFull L ∧ LFull L') := ⟨F, F'⟩
  have hsz : L.ram.size = bs.length := by rw [hr]; exact bytesOf_size bs
  have h512 : L.ram.size ≤ 512 := F.ram
  have hl : (L.ram.size : Int) < m + 4 := by omega
  have h32' : (m : Int) < 4294967296 := by omega
  clear st st' F F' ho hsz hr h512
  go_enter Tryz.func23, Tryz.ntmps23
  go_upto_region 1 with fail
  generalize ((W.alloc (.cells #[.slice (some ⟨p.r, 0, none⟩) L.regs.length p.cr, .int .u32 L.pc, .int .i64 L.mode, .bool L.asleep, .slice (some ⟨p.c, 0, none⟩) L.csrs.length p.cc, .string L.ram, .slice (some ⟨p.k, 0, none⟩) L.clock.length p.ck, .slice (some ⟨p.p, 0, none⟩) L.prio.length p.cp, .int .u32 L.pend, .int .u32 L.served, .int .u32 L.level, .slice (some ⟨p.e, 0, none⟩) L.enable.length p.ce, .slice (some ⟨p.l, 0, none⟩) L.limit.length p.cl] 48)).alloc (.cells #[.slice (some ⟨p'.r, 0, none⟩) L'.regs.length p'.cr, .int .u32 L'.pc, .int .i64 L'.mode, .bool L'.asleep, .slice (some ⟨p'.c, 0, none⟩) L'.csrs.length p'.cc, .string L'.ram, .slice (some ⟨p'.k, 0, none⟩) L'.clock.length p'.ck, .slice (some ⟨p'.p, 0, none⟩) L'.prio.length p'.cp, .int .u32 L'.pend, .int .u32 L'.served, .int .u32 L'.level, .slice (some ⟨p'.e, 0, none⟩) L'.enable.length p'.ce, .slice (some ⟨p'.l, 0, none⟩) L'.limit.length p'.cl] 48)) = w0 at H0 HB0 ⊢
  simp at H0
  have hg2 : W.heap.size < W.heap.size + 1 := by omega
  generalize W.heap.size + 1 = g2 at H0 hg2 ⊢
  have HG2 : Hid (W.heap.size < g2) := hg2
  clear hg2
  have k1_1 := H0.out.b1.c1
  rw [HPC.out] at k1_1
  have k1_5 := H0.out.b1.c5
  clear HB0
  have HB := H0.out.o
  go_wp2
  go_ret
  exact ⟨rfl, HB⟩
set_option maxHeartbeats 4000000 in
set_option maxRecDepth 100000 in
theorem exact_other (W : World) (T : D.Tabs W) (p p' : Pl) (L L' : LSt) (st : StAt W p L) (st' : StAt W p' L') (F : LFull L) (F' : LFull L') (bs : List Int) (hb : Byt bs) (hr : L.ram = bytesOf bs) (m : Nat) (hpc : L.pc = m) (ho : m + 4 ≤ bs.length) (op : Int) (nd n1 n2 : Nat) (imm : Int) (hd : D.dec (leV bs m 4) = ⟨op, nd, n1, n2, imm⟩) (h19 : op ≠ 19) (h0 : op ≠ 0) : Calls Tryz.prog 23 #[.agg #[.slice (some ⟨p.r, 0, none⟩) L.regs.length p.cr, .int .u32 L.pc, .int .i64 L.mode, .bool L.asleep, .slice (some ⟨p.c, 0, none⟩) L.csrs.length p.cc, .string L.ram, .slice (some ⟨p.k, 0, none⟩) L.clock.length p.ck, .slice (some ⟨p.p, 0, none⟩) L.prio.length p.cp, .int .u32 L.pend, .int .u32 L.served, .int .u32 L.level, .slice (some ⟨p.e, 0, none⟩) L.enable.length p.ce, .slice (some ⟨p.l, 0, none⟩) L.limit.length p.cl], .agg #[.slice (some ⟨p'.r, 0, none⟩) L'.regs.length p'.cr, .int .u32 L'.pc, .int .i64 L'.mode, .bool L'.asleep, .slice (some ⟨p'.c, 0, none⟩) L'.csrs.length p'.cc, .string L'.ram, .slice (some ⟨p'.k, 0, none⟩) L'.clock.length p'.ck, .slice (some ⟨p'.p, 0, none⟩) L'.prio.length p'.cp, .int .u32 L'.pend, .int .u32 L'.served, .int .u32 L'.level, .slice (some ⟨p'.e, 0, none⟩) L'.enable.length p'.ce, .slice (some ⟨p'.l, 0, none⟩) L'.limit.length p'.cl]] W fun e W' => e = .returned (.bool true) ∧ Offs [p.r] W W' := by
  have HB0 : Hid (Below W.heap.size W ((W.alloc (.cells #[.slice (some ⟨p.r, 0, none⟩) L.regs.length p.cr, .int .u32 L.pc, .int .i64 L.mode, .bool L.asleep, .slice (some ⟨p.c, 0, none⟩) L.csrs.length p.cc, .string L.ram, .slice (some ⟨p.k, 0, none⟩) L.clock.length p.ck, .slice (some ⟨p.p, 0, none⟩) L.prio.length p.cp, .int .u32 L.pend, .int .u32 L.served, .int .u32 L.level, .slice (some ⟨p.e, 0, none⟩) L.enable.length p.ce, .slice (some ⟨p.l, 0, none⟩) L.limit.length p.cl] 48)).alloc (.cells #[.slice (some ⟨p'.r, 0, none⟩) L'.regs.length p'.cr, .int .u32 L'.pc, .int .i64 L'.mode, .bool L'.asleep, .slice (some ⟨p'.c, 0, none⟩) L'.csrs.length p'.cc, .string L'.ram, .slice (some ⟨p'.k, 0, none⟩) L'.clock.length p'.ck, .slice (some ⟨p'.p, 0, none⟩) L'.prio.length p'.cp, .int .u32 L'.pend, .int .u32 L'.served, .int .u32 L'.level, .slice (some ⟨p'.e, 0, none⟩) L'.enable.length p'.ce, .slice (some ⟨p'.l, 0, none⟩) L'.limit.length p'.cl] 48))) := by
    have b1 : Below W.heap.size W (W.alloc (.cells #[.slice (some ⟨p.r, 0, none⟩) L.regs.length p.cr, .int .u32 L.pc, .int .i64 L.mode, .bool L.asleep, .slice (some ⟨p.c, 0, none⟩) L.csrs.length p.cc, .string L.ram, .slice (some ⟨p.k, 0, none⟩) L.clock.length p.ck, .slice (some ⟨p.p, 0, none⟩) L.prio.length p.cp, .int .u32 L.pend, .int .u32 L.served, .int .u32 L.level, .slice (some ⟨p.e, 0, none⟩) L.enable.length p.ce, .slice (some ⟨p.l, 0, none⟩) L.limit.length p.cl] 48)) := (Below.refl _ _).alloc (Nat.le_refl _) _
    have b2 : Below (W.alloc (.cells #[.slice (some ⟨p.r, 0, none⟩) L.regs.length p.cr, .int .u32 L.pc, .int .i64 L.mode, .bool L.asleep, .slice (some ⟨p.c, 0, none⟩) L.csrs.length p.cc, .string L.ram, .slice (some ⟨p.k, 0, none⟩) L.clock.length p.ck, .slice (some ⟨p.p, 0, none⟩) L.prio.length p.cp, .int .u32 L.pend, .int .u32 L.served, .int .u32 L.level, .slice (some ⟨p.e, 0, none⟩) L.enable.length p.ce, .slice (some ⟨p.l, 0, none⟩) L.limit.length p.cl] 48)).heap.size (W.alloc (.cells #[.slice (some ⟨p.r, 0, none⟩) L.regs.length p.cr, .int .u32 L.pc, .int .i64 L.mode, .bool L.asleep, .slice (some ⟨p.c, 0, none⟩) L.csrs.length p.cc, .string L.ram, .slice (some ⟨p.k, 0, none⟩) L.clock.length p.ck, .slice (some ⟨p.p, 0, none⟩) L.prio.length p.cp, .int .u32 L.pend, .int .u32 L.served, .int .u32 L.level, .slice (some ⟨p.e, 0, none⟩) L.enable.length p.ce, .slice (some ⟨p.l, 0, none⟩) L.limit.length p.cl] 48)) ((W.alloc (.cells #[.slice (some ⟨p.r, 0, none⟩) L.regs.length p.cr, .int .u32 L.pc, .int .i64 L.mode, .bool L.asleep, .slice (some ⟨p.c, 0, none⟩) L.csrs.length p.cc, .string L.ram, .slice (some ⟨p.k, 0, none⟩) L.clock.length p.ck, .slice (some ⟨p.p, 0, none⟩) L.prio.length p.cp, .int .u32 L.pend, .int .u32 L.served, .int .u32 L.level, .slice (some ⟨p.e, 0, none⟩) L.enable.length p.ce, .slice (some ⟨p.l, 0, none⟩) L.limit.length p.cl] 48)).alloc (.cells #[.slice (some ⟨p'.r, 0, none⟩) L'.regs.length p'.cr, .int .u32 L'.pc, .int .i64 L'.mode, .bool L'.asleep, .slice (some ⟨p'.c, 0, none⟩) L'.csrs.length p'.cc, .string L'.ram, .slice (some ⟨p'.k, 0, none⟩) L'.clock.length p'.ck, .slice (some ⟨p'.p, 0, none⟩) L'.prio.length p'.cp, .int .u32 L'.pend, .int .u32 L'.served, .int .u32 L'.level, .slice (some ⟨p'.e, 0, none⟩) L'.enable.length p'.ce, .slice (some ⟨p'.l, 0, none⟩) L'.limit.length p'.cl] 48)) := (Below.refl _ _).alloc (Nat.le_refl _) _
    exact b1.trans (b2.mono b1.size)
  have H0 : Hid (T2 W ((W.alloc (.cells #[.slice (some ⟨p.r, 0, none⟩) L.regs.length p.cr, .int .u32 L.pc, .int .i64 L.mode, .bool L.asleep, .slice (some ⟨p.c, 0, none⟩) L.csrs.length p.cc, .string L.ram, .slice (some ⟨p.k, 0, none⟩) L.clock.length p.ck, .slice (some ⟨p.p, 0, none⟩) L.prio.length p.cp, .int .u32 L.pend, .int .u32 L.served, .int .u32 L.level, .slice (some ⟨p.e, 0, none⟩) L.enable.length p.ce, .slice (some ⟨p.l, 0, none⟩) L.limit.length p.cl] 48)).alloc (.cells #[.slice (some ⟨p'.r, 0, none⟩) L'.regs.length p'.cr, .int .u32 L'.pc, .int .i64 L'.mode, .bool L'.asleep, .slice (some ⟨p'.c, 0, none⟩) L'.csrs.length p'.cc, .string L'.ram, .slice (some ⟨p'.k, 0, none⟩) L'.clock.length p'.ck, .slice (some ⟨p'.p, 0, none⟩) L'.prio.length p'.cp, .int .u32 L'.pend, .int .u32 L'.served, .int .u32 L'.level, .slice (some ⟨p'.e, 0, none⟩) L'.enable.length p'.ce, .slice (some ⟨p'.l, 0, none⟩) L'.limit.length p'.cl] 48)) W.heap.size (W.alloc (.cells #[.slice (some ⟨p.r, 0, none⟩) L.regs.length p.cr, .int .u32 L.pc, .int .i64 L.mode, .bool L.asleep, .slice (some ⟨p.c, 0, none⟩) L.csrs.length p.cc, .string L.ram, .slice (some ⟨p.k, 0, none⟩) L.clock.length p.ck, .slice (some ⟨p.p, 0, none⟩) L.prio.length p.cp, .int .u32 L.pend, .int .u32 L.served, .int .u32 L.level, .slice (some ⟨p.e, 0, none⟩) L.enable.length p.ce, .slice (some ⟨p.l, 0, none⟩) L.limit.length p.cl] 48)).heap.size p p' L L') := T2.new W p p' L L' st st'
  have HPC : Hid (L.pc = m) := hpc
  clear hpc
  have HF : Hid (LFull L ∧ LFull L') := ⟨F, F'⟩
  have hsz : L.ram.size = bs.length := by rw [hr]; exact bytesOf_size bs
  have h512 : L.ram.size ≤ 512 := F.ram
  have h19' : (op == 19) = false := by simpa using h19
  have h0' : (op != 0) = true := by simpa using h0
  have HEV : Hid (leV bs m 4 = leV bs m 4) := rfl
  clear h19 h0
  have HWd : Hid (∀ w, Calls Tryz.prog 52 #[.string L.ram, .int .i64 m] w fun e W' => e = .returned (.int .u32 (leV bs m 4)) ∧ ∃ q, W' = w.drewN q) := fun w => by rw [hr]; exact word_le w bs hb m ho (by omega)
  have HDe : Hid (∀ w, Below W.heap.size W w → Calls Tryz.prog 42 #[.int .u32 (leV bs m 4)] w fun e W' => e = .returned (.agg #[.int .i64 op, .int .i64 nd, .int .i64 n1, .int .i64 n2, .int .u32 imm]) ∧ Below w.heap.size w W') := fun w hw => by
    have lv := (leV_bd hb m).2.2
    have := decode_any (leV bs m 4) w lv.1 lv.2 (T.below T.size hw)
    rw [hd] at this
    exact this
  have hl : (m : Int) + 4 ≤ L.ram.size := by omega
  have h512' : (L.ram.size : Int) ≤ 512 := by omega
  clear st st' F F' ho hsz hr h512 T hd hb
  go_enter Tryz.func23, Tryz.ntmps23
  go_upto_region 1 with fail
  generalize ((W.alloc (.cells #[.slice (some ⟨p.r, 0, none⟩) L.regs.length p.cr, .int .u32 L.pc, .int .i64 L.mode, .bool L.asleep, .slice (some ⟨p.c, 0, none⟩) L.csrs.length p.cc, .string L.ram, .slice (some ⟨p.k, 0, none⟩) L.clock.length p.ck, .slice (some ⟨p.p, 0, none⟩) L.prio.length p.cp, .int .u32 L.pend, .int .u32 L.served, .int .u32 L.level, .slice (some ⟨p.e, 0, none⟩) L.enable.length p.ce, .slice (some ⟨p.l, 0, none⟩) L.limit.length p.cl] 48)).alloc (.cells #[.slice (some ⟨p'.r, 0, none⟩) L'.regs.length p'.cr, .int .u32 L'.pc, .int .i64 L'.mode, .bool L'.asleep, .slice (some ⟨p'.c, 0, none⟩) L'.csrs.length p'.cc, .string L'.ram, .slice (some ⟨p'.k, 0, none⟩) L'.clock.length p'.ck, .slice (some ⟨p'.p, 0, none⟩) L'.prio.length p'.cp, .int .u32 L'.pend, .int .u32 L'.served, .int .u32 L'.level, .slice (some ⟨p'.e, 0, none⟩) L'.enable.length p'.ce, .slice (some ⟨p'.l, 0, none⟩) L'.limit.length p'.cl] 48)) = w0 at H0 HB0 ⊢
  simp at H0
  have hg2 : W.heap.size < W.heap.size + 1 := by omega
  generalize W.heap.size + 1 = g2 at H0 hg2 ⊢
  have HG2 : Hid (W.heap.size < g2) := hg2
  clear hg2
  have k1_1 := H0.out.b1.c1
  rw [HPC.out] at k1_1
  have k1_5 := H0.out.b1.c5
  go_wp2_with fail
  refine (HWd.out _).mono ?_
  rintro e w1 ⟨rfl, q1, hw1⟩
  have H1 : Hid (T2 W w1 W.heap.size g2 p p' L L') := H0.out.below (by rw [hw1]; exact below_drawn (Below.refl _ _) _)
  have HB1 : Hid (Below W.heap.size W w1) := by have := HB0.out; rw [hw1]; exact below_drawn this _
  clear hw1 HB0 H0 k1_1 k1_5
  generalize leV bs m 4 = wv at HDe HEV ⊢
  go_wp2_with fail
  refine (HDe.out _ HB1.out).mono ?_
  rintro e w2 ⟨rfl, b2⟩
  have H3 : Hid (T3 W (w2.alloc (.cells #[.int .i64 op, .int .i64 nd, .int .i64 n1, .int .i64 n2, .int .u32 imm] 72)) W.heap.size g2 w2.heap.size p p' L L' op nd n1 n2 imm) := ⟨(H1.out.below b2).below ((Below.refl w2.heap.size w2).alloc (Nat.le_refl _) _), DX.new w2 op nd n1 n2 imm⟩
  have HW2 : W.heap.size ≤ w2.heap.size := Nat.le_trans HB1.out.size b2.size
  clear b2 H1 HDe HB1
  obtain ⟨k1_0, k1_1, k1_2, k1_3, k1_4, k1_5, k1_6, k1_7, k1_8, k1_9, k1_10, k1_11, k1_12⟩ := H3.out.t.b1
  obtain ⟨k2_0, k2_1, k2_2, k2_3, k2_4, k2_5, k2_6, k2_7, k2_8, k2_9, k2_10, k2_11, k2_12⟩ := H3.out.t.b2
  go_wp2_with fail
  refine (devices_some _ p p' L L' H3.out.t.a1 H3.out.t.a2 HF.out.1 HF.out.2).mono ?_
  rintro e w4 ⟨r4, rfl, b4⟩
  have H4 : Hid (T3 W w4 W.heap.size g2 w2.heap.size p p' L L' op nd n1 n2 imm) := H3.out.below b4
  clear b4 H3 k1_0 k1_1 k1_2 k1_3 k1_4 k1_5 k1_6 k1_7 k1_8 k1_9 k1_10 k1_11 k1_12 k2_0 k2_1 k2_2 k2_3 k2_4 k2_5 k2_6 k2_7 k2_8 k2_9 k2_10 k2_11 k2_12
  have HG3 : Hid (W.heap.size ≤ w2.heap.size) := HW2
  generalize w2.heap.size = g3 at H4 HG3 ⊢
  have d0 := H4.out.d.c0
  have d1 := H4.out.d.c1
  have d2 := H4.out.d.c2
  have d4 := H4.out.d.c4
  have HB := H4.out.t.o
  clear HEV
  go_wp2
  go_ret
  exact ⟨rfl, HB⟩
end Go.Proofs.YteiideeechnekaaGreatDoor
