/-
  hartkeep.Stays: the walk.
-/
import Derived.Test.YteiideeechnekaaKeepMade
import Derived.Test.YteiideeechnekaaKeepLaw
namespace Go.Proofs.Yteiideeechnekaa
open Go.RowKit

theorem tW {ops : Array Oper} {Q : Exit → Act → World → Prop} {S : World → Prop} (i : Nat) {v : Value} {A : Addr} {X : Operand} {oi : Oper} {fuel : Nat} {listed : Array Bool} {a : Act} {w : World} (hi : ops[i]? = some oi) (hop : oi.op = .load 29 X)
    (h4 : (Region.noSelect ops && Region.free .any ops listed i && (Region.ready .any ops listed).contains i && Region.wanted oi (yielded ops a.tmps)) = true) (hQ : ∀ c a w, Q (.panic c) (a.put oi.dst v) w → Q (.panic c) a w)
    (he : a.eval X = .pointer (some A)) (hc : ∀ w, S w → w.cell? A = some v) (hS : S w) (h : wpAnyH Try.prog .any ops Q S fuel (listed.setIfInBounds i true) (a.put oi.dst v) w) : wpAnyH Try.prog .any ops Q S (fuel + 1) listed a w :=
  tL i hi hop h4 hQ he (fun w h => by simp [Instr.loadAt, go_sem, h]) hc hS h
/-- The box of a state. -/
structure B13 (w : World) (g : Nat) (p : Pl) (L : LSt) : Prop where
  c0 : w.cell? ⟨g, 0, none⟩ = some (.slice (some ⟨p.r, 0, none⟩) L.regs.length p.cr)
  c1 : w.cell? ⟨g, 1, none⟩ = some (.int .u32 L.pc)
  c2 : w.cell? ⟨g, 2, none⟩ = some (.int .i64 L.mode)
  c3 : w.cell? ⟨g, 3, none⟩ = some (.bool L.asleep)
  c4 : w.cell? ⟨g, 4, none⟩ = some (.slice (some ⟨p.c, 0, none⟩) L.csrs.length p.cc)
  c5 : w.cell? ⟨g, 5, none⟩ = some (.string L.ram)
  c6 : w.cell? ⟨g, 6, none⟩ = some (.slice (some ⟨p.k, 0, none⟩) L.clock.length p.ck)
  c7 : w.cell? ⟨g, 7, none⟩ = some (.slice (some ⟨p.p, 0, none⟩) L.prio.length p.cp)
  c8 : w.cell? ⟨g, 8, none⟩ = some (.int .u32 L.pend)
  c9 : w.cell? ⟨g, 9, none⟩ = some (.int .u32 L.served)
  c10 : w.cell? ⟨g, 10, none⟩ = some (.int .u32 L.level)
  c11 : w.cell? ⟨g, 11, none⟩ = some (.slice (some ⟨p.e, 0, none⟩) L.enable.length p.ce)
  c12 : w.cell? ⟨g, 12, none⟩ = some (.slice (some ⟨p.l, 0, none⟩) L.limit.length p.cl)
theorem B13.of {w w' : World} {g : Nat} {p : Pl} {L : LSt} (h : B13 w g p L) (e : w'.heap[g]? = w.heap[g]?) : B13 w' g p L := by
  have c : ∀ j, w'.cell? ⟨g, j, none⟩ = w.cell? ⟨g, j, none⟩ := fun j => World.cell?_of_block (w := w) e
  exact ⟨(c _).trans h.c0, (c _).trans h.c1, (c _).trans h.c2, (c _).trans h.c3, (c _).trans h.c4, (c _).trans h.c5, (c _).trans h.c6, (c _).trans h.c7, (c _).trans h.c8, (c _).trans h.c9, (c _).trans h.c10, (c _).trans h.c11, (c _).trans h.c12⟩
theorem B13.lt {w : World} {g : Nat} {p : Pl} {L : LSt} (h : B13 w g p L) : g < w.heap.size := World.block_lt_of_cell? w _ h.c0
theorem B13.below {w w' : World} {g : Nat} {p : Pl} {L : LSt} (h : B13 w g p L) (hb : Below w.heap.size w w') : B13 w' g p L := h.of (hb.block g h.lt)
theorem B13.new (w : World) (p : Pl) (L : LSt) : B13 (w.alloc (.cells #[.slice (some ⟨p.r, 0, none⟩) L.regs.length p.cr, .int .u32 L.pc, .int .i64 L.mode, .bool L.asleep, .slice (some ⟨p.c, 0, none⟩) L.csrs.length p.cc, .string L.ram, .slice (some ⟨p.k, 0, none⟩) L.clock.length p.ck, .slice (some ⟨p.p, 0, none⟩) L.prio.length p.cp, .int .u32 L.pend, .int .u32 L.served, .int .u32 L.level, .slice (some ⟨p.e, 0, none⟩) L.enable.length p.ce, .slice (some ⟨p.l, 0, none⟩) L.limit.length p.cl] 31)) w.heap.size p L := by
  have e := fun j => cell_of_row (w.alloc (.cells #[.slice (some ⟨p.r, 0, none⟩) L.regs.length p.cr, .int .u32 L.pc, .int .i64 L.mode, .bool L.asleep, .slice (some ⟨p.c, 0, none⟩) L.csrs.length p.cc, .string L.ram, .slice (some ⟨p.k, 0, none⟩) L.clock.length p.ck, .slice (some ⟨p.p, 0, none⟩) L.prio.length p.cp, .int .u32 L.pend, .int .u32 L.served, .int .u32 L.level, .slice (some ⟨p.e, 0, none⟩) L.enable.length p.ce, .slice (some ⟨p.l, 0, none⟩) L.limit.length p.cl] 31)) w.heap.size j _ _ (0, 0) (heap_alloc_new w _)
  exact ⟨(e 0).trans rfl, (e 1).trans rfl, (e 2).trans rfl, (e 3).trans rfl, (e 4).trans rfl, (e 5).trans rfl, (e 6).trans rfl, (e 7).trans rfl, (e 8).trans rfl, (e 9).trans rfl, (e 10).trans rfl, (e 11).trans rfl, (e 12).trans rfl⟩
theorem StAt.lt {w : World} {p : Pl} {L : LSt} (h : StAt w p L) : p.r < w.heap.size ∧ p.c < w.heap.size ∧ p.k < w.heap.size ∧ p.p < w.heap.size ∧ p.e < w.heap.size ∧ p.l < w.heap.size := ⟨h.regs.lt, h.csrs.lt, h.clock.lt, h.prio.lt, h.enable.lt, h.limit.lt⟩
theorem StAt.of {w w' : World} {p : Pl} {L : LSt} (h : StAt w p L) (e : ∀ g, g = p.r ∨ g = p.c ∨ g = p.k ∨ g = p.p ∨ g = p.e ∨ g = p.l → w'.heap[g]? = w.heap[g]?) : StAt w' p L :=
  ⟨row_keep h.regs (e _ (by simp)), row_keep h.csrs (e _ (by simp)), row_keep h.clock (e _ (by simp)), row_keep h.prio (e _ (by simp)), row_keep h.enable (e _ (by simp)), row_keep h.limit (e _ (by simp))⟩
theorem StAt.offs {w w' : World} {p : Pl} {L : LSt} (h : StAt w p L) {M : List Nat} (o : Offs M w w') {B : Nat} (ap : p.Apart B) (hM : ∀ k, k ∈ M → k < B) : StAt w' p L := by
  have l := h.lt
  have b := ap.b
  refine h.of fun g hg => o.block g ?_ fun e => ?_
  · rcases hg with rfl | rfl | rfl | rfl | rfl | rfl <;> omega
  · have := hM g e
    rcases hg with rfl | rfl | rfl | rfl | rfl | rfl <;> omega
/-- Three states in their boxes. -/
structure S3 (W w : World) (g1 g2 g3 : Nat) (p1 p2 p3 : Pl) (L L' : LSt) : Prop where
  b1 : B13 w g1 p1 L
  b2 : B13 w g2 p2 L
  b3 : B13 w g3 p3 L'
  a1 : StAt w p1 L
  a2 : StAt w p2 L
  a3 : StAt w p3 L'
  bel : Below W.heap.size W w
theorem S3.below {W w w' : World} {g1 g2 g3 : Nat} {p1 p2 p3 : Pl} {L L' : LSt} (h : S3 W w g1 g2 g3 p1 p2 p3 L L') (hb : Below w.heap.size w w') : S3 W w' g1 g2 g3 p1 p2 p3 L L' :=
  ⟨h.b1.below hb, h.b2.below hb, h.b3.below hb, h.a1.below hb, h.a2.below hb, h.a3.below hb, h.bel.trans (hb.mono h.bel.size)⟩
set_option maxHeartbeats 8000000 in
set_option maxRecDepth 100000 in
theorem stays_lt (W : World) (size : Int) (img : ByteArray) (s : Int) (high : Bool) (h1 : s < 1) :
    Calls Try.prog 5 #[.int .i64 size, .string img, .int .i64 s, .bool high] W fun e W' => e = .returned (.bool true) ∧ Below W.heap.size W W' := by
  have HM := kmade_any W size img
  have hs : s < 1 ∨ 7 < s := .inl h1
  have HS0 : Hid (s < 1 ∨ 7 < s) := hs
  clear hs
  go_enter Try.func5, Try.ntmps5
  go_wp2_with fail
  refine HM.mono ?_
  rintro e w0 ⟨x, rfl, r, n, im, K⟩
  have HK : Hid (KNew W w0 x r n im) := K
  clear HM
  obtain ⟨L, hL⟩ : ∃ L, lookC (newC n im) = L := ⟨_, rfl⟩
  obtain ⟨L', hL'⟩ : ∃ L', lookC (tickC (newC n im)) = L' := ⟨_, rfl⟩
  have F : Hid (LFull L) := by unfold Hid; rw [← hL]; exact full_look K.c
  have E : Hid (L'.regs = L.regs ∧ L'.ram = L.ram ∧ L.clock = [0, 4294967295, 0] ∧ L'.clock = [0, 4294967295, 1] ∧ L'.prio = L.prio ∧ L'.enable = L.enable ∧ L'.limit = L.limit ∧ L'.pend = L.pend ∧ L'.served = L.served ∧ L'.level = L.level ∧ L'.pc = L.pc ∧ L'.mode = L.mode ∧ L'.csrs.length = 19) := by
    rw [← hL, ← hL']
    exact ⟨rfl, rfl, rfl, rfl, rfl, rfl, rfl, rfl, rfl, rfl, rfl, rfl, rfl⟩
  have F' : Hid (LFull L') := ⟨by rw [E.out.1]; exact F.out.regs, E.out.2.2.2.2.2.2.2.2.2.2.2.2, by rw [E.out.2.2.2.1]; rfl, by rw [E.out.2.2.2.2.1]; exact F.out.prio, by rw [E.out.2.2.2.2.2.1]; exact F.out.enable, by rw [E.out.2.2.2.2.2.2.1]; exact F.out.limit, by rw [E.out.2.1]; exact F.out.ram⟩
  have HL : Hid (∀ w, CodeAt w x r (newC n im) → Calls Try.prog 9 #[.pointer (some ⟨x, 0, none⟩)] w fun e W'' => ∃ p : Pl, e = .returned (.agg #[.slice (some ⟨p.r, 0, none⟩) L.regs.length p.cr, .int .u32 L.pc, .int .i64 L.mode, .bool L.asleep, .slice (some ⟨p.c, 0, none⟩) L.csrs.length p.cc, .string L.ram, .slice (some ⟨p.k, 0, none⟩) L.clock.length p.ck, .slice (some ⟨p.p, 0, none⟩) L.prio.length p.cp, .int .u32 L.pend, .int .u32 L.served, .int .u32 L.level, .slice (some ⟨p.e, 0, none⟩) L.enable.length p.ce, .slice (some ⟨p.l, 0, none⟩) L.limit.length p.cl]) ∧ StAt W'' p L ∧ p.Apart w.heap.size ∧ Below w.heap.size w W'') := fun w h => by have := look_any w x r _ h; rw [hL] at this; exact this
  have HL' : Hid (∀ w, CodeAt w x r (tickC (newC n im)) → Calls Try.prog 9 #[.pointer (some ⟨x, 0, none⟩)] w fun e W'' => ∃ p : Pl, e = .returned (.agg #[.slice (some ⟨p.r, 0, none⟩) L'.regs.length p.cr, .int .u32 L'.pc, .int .i64 L'.mode, .bool L'.asleep, .slice (some ⟨p.c, 0, none⟩) L'.csrs.length p.cc, .string L'.ram, .slice (some ⟨p.k, 0, none⟩) L'.clock.length p.ck, .slice (some ⟨p.p, 0, none⟩) L'.prio.length p.cp, .int .u32 L'.pend, .int .u32 L'.served, .int .u32 L'.level, .slice (some ⟨p.e, 0, none⟩) L'.enable.length p.ce, .slice (some ⟨p.l, 0, none⟩) L'.limit.length p.cl]) ∧ StAt W'' p L' ∧ p.Apart w.heap.size ∧ Below w.heap.size w W'') := fun w h => by have := look_any w x r _ h; rw [hL'] at this; exact this
  clear K hL hL'
  go_wp2_with fail
  refine (HL.out _ HK.out.c).mono ?_
  rintro e w1 ⟨p1, rfl, st1, ap1, b1⟩
  have C1 : Hid (CodeAt (w1.alloc (.cells #[.slice (some ⟨p1.r, 0, none⟩) L.regs.length p1.cr, .int .u32 L.pc, .int .i64 L.mode, .bool L.asleep, .slice (some ⟨p1.c, 0, none⟩) L.csrs.length p1.cc, .string L.ram, .slice (some ⟨p1.k, 0, none⟩) L.clock.length p1.ck, .slice (some ⟨p1.p, 0, none⟩) L.prio.length p1.cp, .int .u32 L.pend, .int .u32 L.served, .int .u32 L.level, .slice (some ⟨p1.e, 0, none⟩) L.enable.length p1.ce, .slice (some ⟨p1.l, 0, none⟩) L.limit.length p1.cl] 31)) x r (newC n im)) := (HK.out.c.below b1 HK.out.c.lt.1 HK.out.c.lt.2).below ((Below.refl w1.heap.size w1).alloc (Nat.le_refl _) _) (Nat.lt_of_lt_of_le HK.out.c.lt.1 b1.size) (Nat.lt_of_lt_of_le HK.out.c.lt.2 b1.size)
  have I1 : Hid (B13 (w1.alloc (.cells #[.slice (some ⟨p1.r, 0, none⟩) L.regs.length p1.cr, .int .u32 L.pc, .int .i64 L.mode, .bool L.asleep, .slice (some ⟨p1.c, 0, none⟩) L.csrs.length p1.cc, .string L.ram, .slice (some ⟨p1.k, 0, none⟩) L.clock.length p1.ck, .slice (some ⟨p1.p, 0, none⟩) L.prio.length p1.cp, .int .u32 L.pend, .int .u32 L.served, .int .u32 L.level, .slice (some ⟨p1.e, 0, none⟩) L.enable.length p1.ce, .slice (some ⟨p1.l, 0, none⟩) L.limit.length p1.cl] 31)) w1.heap.size p1 L ∧ StAt (w1.alloc (.cells #[.slice (some ⟨p1.r, 0, none⟩) L.regs.length p1.cr, .int .u32 L.pc, .int .i64 L.mode, .bool L.asleep, .slice (some ⟨p1.c, 0, none⟩) L.csrs.length p1.cc, .string L.ram, .slice (some ⟨p1.k, 0, none⟩) L.clock.length p1.ck, .slice (some ⟨p1.p, 0, none⟩) L.prio.length p1.cp, .int .u32 L.pend, .int .u32 L.served, .int .u32 L.level, .slice (some ⟨p1.e, 0, none⟩) L.enable.length p1.ce, .slice (some ⟨p1.l, 0, none⟩) L.limit.length p1.cl] 31)) p1 L ∧ p1.Apart w0.heap.size ∧ Below W.heap.size W (w1.alloc (.cells #[.slice (some ⟨p1.r, 0, none⟩) L.regs.length p1.cr, .int .u32 L.pc, .int .i64 L.mode, .bool L.asleep, .slice (some ⟨p1.c, 0, none⟩) L.csrs.length p1.cc, .string L.ram, .slice (some ⟨p1.k, 0, none⟩) L.clock.length p1.ck, .slice (some ⟨p1.p, 0, none⟩) L.prio.length p1.cp, .int .u32 L.pend, .int .u32 L.served, .int .u32 L.level, .slice (some ⟨p1.e, 0, none⟩) L.enable.length p1.ce, .slice (some ⟨p1.l, 0, none⟩) L.limit.length p1.cl] 31)) ∧ w0.heap.size ≤ w1.heap.size) := ⟨B13.new w1 p1 L, st1.below ((Below.refl _ _).alloc (Nat.le_refl _) _), ap1, (HK.out.bel.trans (b1.mono HK.out.bel.size)).alloc (Nat.le_trans HK.out.bel.size b1.size) _, b1.size⟩
  clear st1 ap1 b1
  go_wp2_with fail
  refine (hline_no _ x _ high HS0.out).mono ?_
  rintro e w1' ⟨rfl, hw⟩
  rw [hw]
  clear hw w1'
  go_wp2_with fail
  refine (HL.out _ C1.out).mono ?_
  rintro e w2 ⟨p2, rfl, st2, ap2, b2⟩
  have C2 : Hid (CodeAt (w2.alloc (.cells #[.slice (some ⟨p2.r, 0, none⟩) L.regs.length p2.cr, .int .u32 L.pc, .int .i64 L.mode, .bool L.asleep, .slice (some ⟨p2.c, 0, none⟩) L.csrs.length p2.cc, .string L.ram, .slice (some ⟨p2.k, 0, none⟩) L.clock.length p2.ck, .slice (some ⟨p2.p, 0, none⟩) L.prio.length p2.cp, .int .u32 L.pend, .int .u32 L.served, .int .u32 L.level, .slice (some ⟨p2.e, 0, none⟩) L.enable.length p2.ce, .slice (some ⟨p2.l, 0, none⟩) L.limit.length p2.cl] 31)) x r (newC n im)) := (C1.out.below b2 C1.out.lt.1 C1.out.lt.2).below ((Below.refl w2.heap.size w2).alloc (Nat.le_refl _) _) (Nat.lt_of_lt_of_le C1.out.lt.1 b2.size) (Nat.lt_of_lt_of_le C1.out.lt.2 b2.size)
  have I2 : Hid ((B13 (w2.alloc (.cells #[.slice (some ⟨p2.r, 0, none⟩) L.regs.length p2.cr, .int .u32 L.pc, .int .i64 L.mode, .bool L.asleep, .slice (some ⟨p2.c, 0, none⟩) L.csrs.length p2.cc, .string L.ram, .slice (some ⟨p2.k, 0, none⟩) L.clock.length p2.ck, .slice (some ⟨p2.p, 0, none⟩) L.prio.length p2.cp, .int .u32 L.pend, .int .u32 L.served, .int .u32 L.level, .slice (some ⟨p2.e, 0, none⟩) L.enable.length p2.ce, .slice (some ⟨p2.l, 0, none⟩) L.limit.length p2.cl] 31)) w2.heap.size p2 L ∧ StAt (w2.alloc (.cells #[.slice (some ⟨p2.r, 0, none⟩) L.regs.length p2.cr, .int .u32 L.pc, .int .i64 L.mode, .bool L.asleep, .slice (some ⟨p2.c, 0, none⟩) L.csrs.length p2.cc, .string L.ram, .slice (some ⟨p2.k, 0, none⟩) L.clock.length p2.ck, .slice (some ⟨p2.p, 0, none⟩) L.prio.length p2.cp, .int .u32 L.pend, .int .u32 L.served, .int .u32 L.level, .slice (some ⟨p2.e, 0, none⟩) L.enable.length p2.ce, .slice (some ⟨p2.l, 0, none⟩) L.limit.length p2.cl] 31)) p2 L ∧ p2.Apart w0.heap.size) ∧ (B13 (w2.alloc (.cells #[.slice (some ⟨p2.r, 0, none⟩) L.regs.length p2.cr, .int .u32 L.pc, .int .i64 L.mode, .bool L.asleep, .slice (some ⟨p2.c, 0, none⟩) L.csrs.length p2.cc, .string L.ram, .slice (some ⟨p2.k, 0, none⟩) L.clock.length p2.ck, .slice (some ⟨p2.p, 0, none⟩) L.prio.length p2.cp, .int .u32 L.pend, .int .u32 L.served, .int .u32 L.level, .slice (some ⟨p2.e, 0, none⟩) L.enable.length p2.ce, .slice (some ⟨p2.l, 0, none⟩) L.limit.length p2.cl] 31)) w1.heap.size p1 L ∧ StAt (w2.alloc (.cells #[.slice (some ⟨p2.r, 0, none⟩) L.regs.length p2.cr, .int .u32 L.pc, .int .i64 L.mode, .bool L.asleep, .slice (some ⟨p2.c, 0, none⟩) L.csrs.length p2.cc, .string L.ram, .slice (some ⟨p2.k, 0, none⟩) L.clock.length p2.ck, .slice (some ⟨p2.p, 0, none⟩) L.prio.length p2.cp, .int .u32 L.pend, .int .u32 L.served, .int .u32 L.level, .slice (some ⟨p2.e, 0, none⟩) L.enable.length p2.ce, .slice (some ⟨p2.l, 0, none⟩) L.limit.length p2.cl] 31)) p1 L ∧ p1.Apart w0.heap.size) ∧ Below W.heap.size W (w2.alloc (.cells #[.slice (some ⟨p2.r, 0, none⟩) L.regs.length p2.cr, .int .u32 L.pc, .int .i64 L.mode, .bool L.asleep, .slice (some ⟨p2.c, 0, none⟩) L.csrs.length p2.cc, .string L.ram, .slice (some ⟨p2.k, 0, none⟩) L.clock.length p2.ck, .slice (some ⟨p2.p, 0, none⟩) L.prio.length p2.cp, .int .u32 L.pend, .int .u32 L.served, .int .u32 L.level, .slice (some ⟨p2.e, 0, none⟩) L.enable.length p2.ce, .slice (some ⟨p2.l, 0, none⟩) L.limit.length p2.cl] 31)) ∧ w0.heap.size ≤ w1.heap.size ∧ w1.heap.size < w2.heap.size) := by
    obtain ⟨i1, i2, i3, i4, i5⟩ := I1.out
    have sz := b2.size
    simp at sz
    have bb := (Below.refl w2.heap.size w2).alloc (Nat.le_refl _) (.cells #[.slice (some ⟨p2.r, 0, none⟩) L.regs.length p2.cr, .int .u32 L.pc, .int .i64 L.mode, .bool L.asleep, .slice (some ⟨p2.c, 0, none⟩) L.csrs.length p2.cc, .string L.ram, .slice (some ⟨p2.k, 0, none⟩) L.clock.length p2.ck, .slice (some ⟨p2.p, 0, none⟩) L.prio.length p2.cp, .int .u32 L.pend, .int .u32 L.served, .int .u32 L.level, .slice (some ⟨p2.e, 0, none⟩) L.enable.length p2.ce, .slice (some ⟨p2.l, 0, none⟩) L.limit.length p2.cl] 31)
    have ab := ap2.b
    simp at ab
    exact ⟨⟨B13.new w2 p2 L, st2.below bb, ⟨by omega, ap2.n⟩⟩, ⟨(i1.below b2).below bb, (i2.below b2).below bb, i3⟩, (i4.trans (b2.mono i4.size)).alloc (by have := i4.size; simp at this; omega) _, i5, by omega⟩
  clear st2 ap2 b2 I1 C1
  go_wp2_with fail
  refine (htick_any _ x r _ C2.out HK.out.ne).mono ?_
  rintro e w3 ⟨rfl, h3, o3⟩
  have C3 : Hid (CodeAt w3 x r (tickC (newC n im))) := h3
  have I3 : Hid ((B13 w3 w2.heap.size p2 L ∧ StAt w3 p2 L) ∧ (B13 w3 w1.heap.size p1 L ∧ StAt w3 p1 L) ∧ Below W.heap.size W w3) := by
    obtain ⟨⟨i1, i2, i3⟩, ⟨j1, j2, j3⟩, i4, i5, i6⟩ := I2.out
    have lx := HK.out.c.lt
    have M : ∀ k, k ∈ [x, r] → k < w0.heap.size := fun k hk => by simp at hk; omega
    refine ⟨⟨i1.of (o3.block _ (by simp) fun e => by have := M _ e; omega), i2.offs o3 i3 M⟩, ⟨j1.of (o3.block _ (by simp; omega) fun e => by have := M _ e; omega), j2.offs o3 j3 M⟩, i4.trans (o3.below (fun k hk => ?_) i4.size)⟩
    have := HK.out.wx
    have := HK.out.wr
    simp at hk
    omega
  clear h3 o3 I2 C2
  generalize w1.heap.size = g1 at I3 ⊢
  generalize w2.heap.size = g2 at I3 ⊢
  go_wp2_with fail
  refine (HL'.out _ C3.out).mono ?_
  rintro e w4 ⟨p3, rfl, st4, ap4, b4⟩
  have N4 : Hid (g1 < w3.heap.size ∧ g2 < w3.heap.size ∧ w3.heap.size ≤ w4.heap.size ∧ p3.Apart w3.heap.size ∧ (p1.r < w3.heap.size ∧ p1.c < w3.heap.size ∧ p1.k < w3.heap.size ∧ p1.p < w3.heap.size ∧ p1.e < w3.heap.size ∧ p1.l < w3.heap.size) ∧ (p2.r < w3.heap.size ∧ p2.c < w3.heap.size ∧ p2.k < w3.heap.size ∧ p2.p < w3.heap.size ∧ p2.e < w3.heap.size ∧ p2.l < w3.heap.size) ∧ p3.k < w4.heap.size ∧ W.heap.size ≤ w3.heap.size) :=
    ⟨I3.out.2.1.1.lt, I3.out.1.1.lt, b4.size, ap4, I3.out.2.1.2.lt, I3.out.1.2.lt, st4.lt.2.2.1, I3.out.2.2.size⟩
  have H4 : Hid (S3 W (w4.alloc (.cells #[.slice (some ⟨p3.r, 0, none⟩) L'.regs.length p3.cr, .int .u32 L'.pc, .int .i64 L'.mode, .bool L'.asleep, .slice (some ⟨p3.c, 0, none⟩) L'.csrs.length p3.cc, .string L'.ram, .slice (some ⟨p3.k, 0, none⟩) L'.clock.length p3.ck, .slice (some ⟨p3.p, 0, none⟩) L'.prio.length p3.cp, .int .u32 L'.pend, .int .u32 L'.served, .int .u32 L'.level, .slice (some ⟨p3.e, 0, none⟩) L'.enable.length p3.ce, .slice (some ⟨p3.l, 0, none⟩) L'.limit.length p3.cl] 31)) g1 g2 w4.heap.size p1 p2 p3 L L') := by
    obtain ⟨⟨i1, i2⟩, ⟨j1, j2⟩, i4⟩ := I3.out
    have bb := (Below.refl w4.heap.size w4).alloc (Nat.le_refl _) (.cells #[.slice (some ⟨p3.r, 0, none⟩) L'.regs.length p3.cr, .int .u32 L'.pc, .int .i64 L'.mode, .bool L'.asleep, .slice (some ⟨p3.c, 0, none⟩) L'.csrs.length p3.cc, .string L'.ram, .slice (some ⟨p3.k, 0, none⟩) L'.clock.length p3.ck, .slice (some ⟨p3.p, 0, none⟩) L'.prio.length p3.cp, .int .u32 L'.pend, .int .u32 L'.served, .int .u32 L'.level, .slice (some ⟨p3.e, 0, none⟩) L'.enable.length p3.ce, .slice (some ⟨p3.l, 0, none⟩) L'.limit.length p3.cl] 31)
    exact ⟨(j1.below b4).below bb, (i1.below b4).below bb, B13.new w4 p3 L', (j2.below b4).below bb, (i2.below b4).below bb, st4.below bb, (i4.trans (b4.mono i4.size)).alloc (by have := i4.size; have := b4.size; omega) _⟩
  have HS : Hid (w3.heap.size ≤ w4.heap.size) := b4.size
  clear st4 ap4 b4 I3 C3 HL HL'
  have H5 : Hid (S3 W (w4.alloc (.cells #[.slice (some ⟨p3.r, 0, none⟩) L'.regs.length p3.cr, .int .u32 L'.pc, .int .i64 L'.mode, .bool L'.asleep, .slice (some ⟨p3.c, 0, none⟩) L'.csrs.length p3.cc, .string L'.ram, .slice (some ⟨p3.k, 0, none⟩) L'.clock.length p3.ck, .slice (some ⟨p3.p, 0, none⟩) L'.prio.length p3.cp, .int .u32 L'.pend, .int .u32 L'.served, .int .u32 L'.level, .slice (some ⟨p3.e, 0, none⟩) L'.enable.length p3.ce, .slice (some ⟨p3.l, 0, none⟩) L'.limit.length p3.cl] 31)) g1 g2 w4.heap.size p1 p2 p3 L L') := H4.out
  clear H4
  obtain ⟨k1_0, k1_1, k1_2, k1_3, k1_4, k1_5, k1_6, k1_7, k1_8, k1_9, k1_10, k1_11, k1_12⟩ := H5.out.b1
  go_wp2_with fail
  refine (whole_true _ p1 L F.out).mono ?_
  rintro e w6 ⟨rfl, b6⟩
  have H6 : Hid (S3 W w6 g1 g2 w4.heap.size p1 p2 p3 L L') := H5.out.below b6
  clear b6 k1_0 k1_1 k1_2 k1_3 k1_4 k1_5 k1_6 k1_7 k1_8 k1_9 k1_10 k1_11 k1_12
  clear H5
  generalize w4.heap.size = g3 at H6 N4 HS ⊢
  obtain ⟨k2_0, k2_1, k2_2, k2_3, k2_4, k2_5, k2_6, k2_7, k2_8, k2_9, k2_10, k2_11, k2_12⟩ := H6.out.b2
  go_wp2_with fail
  refine (whole_true _ p2 L F.out).mono ?_
  rintro e w7 ⟨rfl, b7⟩
  have H7 : Hid (S3 W w7 g1 g2 g3 p1 p2 p3 L L') := H6.out.below b7
  clear b7 k2_0 k2_1 k2_2 k2_3 k2_4 k2_5 k2_6 k2_7 k2_8 k2_9 k2_10 k2_11 k2_12
  obtain ⟨k3_0, k3_1, k3_2, k3_3, k3_4, k3_5, k3_6, k3_7, k3_8, k3_9, k3_10, k3_11, k3_12⟩ := H7.out.b3
  go_wp2_with fail
  refine (whole_true _ p3 L' F'.out).mono ?_
  rintro e w8 ⟨rfl, b8⟩
  have H8 : Hid (S3 W w8 g1 g2 g3 p1 p2 p3 L L') := H7.out.below b8
  clear b8 k3_0 k3_1 k3_2 k3_3 k3_4 k3_5 k3_6 k3_7 k3_8 k3_9 k3_10 k3_11 k3_12
  obtain ⟨k1_0, k1_1, k1_2, k1_3, k1_4, k1_5, k1_6, k1_7, k1_8, k1_9, k1_10, k1_11, k1_12⟩ := H8.out.b1
  obtain ⟨k2_0, k2_1, k2_2, k2_3, k2_4, k2_5, k2_6, k2_7, k2_8, k2_9, k2_10, k2_11, k2_12⟩ := H8.out.b2
  go_wp2_with fail
  refine (core_true _ p1 p2 L L H8.out.a1 H8.out.a2 rfl rfl).mono ?_
  rintro e w9 ⟨rfl, b9⟩
  have H9 : Hid (S3 W w9 g1 g2 g3 p1 p2 p3 L L') := H8.out.below b9
  clear b9 k1_0 k1_1 k1_2 k1_3 k1_4 k1_5 k1_6 k1_7 k1_8 k1_9 k1_10 k1_11 k1_12 k2_0 k2_1 k2_2 k2_3 k2_4 k2_5 k2_6 k2_7 k2_8 k2_9 k2_10 k2_11 k2_12
  obtain ⟨k1_0, k1_1, k1_2, k1_3, k1_4, k1_5, k1_6, k1_7, k1_8, k1_9, k1_10, k1_11, k1_12⟩ := H9.out.b1
  obtain ⟨k2_0, k2_1, k2_2, k2_3, k2_4, k2_5, k2_6, k2_7, k2_8, k2_9, k2_10, k2_11, k2_12⟩ := H9.out.b2
  go_wp2_with fail
  refine (devices_true _ p1 p2 L L H9.out.a1 H9.out.a2 rfl rfl rfl rfl rfl rfl rfl).mono ?_
  rintro e w10 ⟨rfl, b10⟩
  have H10 : Hid (S3 W w10 g1 g2 g3 p1 p2 p3 L L') := H9.out.below b10
  clear b10 k1_0 k1_1 k1_2 k1_3 k1_4 k1_5 k1_6 k1_7 k1_8 k1_9 k1_10 k1_11 k1_12 k2_0 k2_1 k2_2 k2_3 k2_4 k2_5 k2_6 k2_7 k2_8 k2_9 k2_10 k2_11 k2_12
  obtain ⟨k2_0, k2_1, k2_2, k2_3, k2_4, k2_5, k2_6, k2_7, k2_8, k2_9, k2_10, k2_11, k2_12⟩ := H10.out.b2
  obtain ⟨k3_0, k3_1, k3_2, k3_3, k3_4, k3_5, k3_6, k3_7, k3_8, k3_9, k3_10, k3_11, k3_12⟩ := H10.out.b3
  go_wp2_with fail
  refine (core_true _ p2 p3 L L' H10.out.a2 H10.out.a3 E.out.1 E.out.2.1).mono ?_
  rintro e w11 ⟨rfl, b11⟩
  have H11 : Hid (S3 W w11 g1 g2 g3 p1 p2 p3 L L') := H10.out.below b11
  clear b11 k2_0 k2_1 k2_2 k2_3 k2_4 k2_5 k2_6 k2_7 k2_8 k2_9 k2_10 k2_11 k2_12 k3_0 k3_1 k3_2 k3_3 k3_4 k3_5 k3_6 k3_7 k3_8 k3_9 k3_10 k3_11 k3_12
  have q3 : w11.cell? ⟨p3.k, 2, none⟩ = some (.int .u32 1) := by have := H11.out.a3.clock.cell 2 (by rw [E.out.2.2.2.1]; decide); rw [E.out.2.2.2.1] at this; exact this
  have q2 : w11.cell? ⟨p2.k, 2, none⟩ = some (.int .u32 0) := by have := H11.out.a2.clock.cell 2 (by rw [E.out.2.2.1]; decide); rw [E.out.2.2.1] at this; exact this
  have z2 : L.clock.length = 3 := by rw [E.out.2.2.1]; rfl
  have z3 : L'.clock.length = 3 := by rw [E.out.2.2.2.1]; rfl
  have fz : ∀ j, w11.frozen? ⟨p3.k, j, none⟩ = false := fun j => by obtain ⟨cur, h1, _⟩ := H11.out.a3.clock; simp [World.frozen?, h1]
  have k3_6 := H11.out.b3.c6
  have k2_6 := H11.out.b2.c6
  rw [z2] at k2_6
  rw [z3] at k3_6
  clear z2 z3
  go_wp2_with fail
  have hS : w11.drew.cell? ⟨g3, 6, none⟩ = some (.slice (some ⟨p3.k, 0, none⟩) 3 p3.ck) ∧ w11.drew.cell? ⟨g2, 6, none⟩ = some (.slice (some ⟨p2.k, 0, none⟩) 3 p2.ck) ∧ w11.drew.cell? ⟨p2.k, 2, none⟩ = some (.int .u32 0) := ⟨k3_6, k2_6, q2⟩
  refine wp_region_held (S := fun w' => w'.cell? ⟨g3, 6, none⟩ = some (.slice (some ⟨p3.k, 0, none⟩) 3 p3.ck) ∧ w'.cell? ⟨g2, 6, none⟩ = some (.slice (some ⟨p2.k, 0, none⟩) 3 p2.ck) ∧ w'.cell? ⟨p2.k, 2, none⟩ = some (.int .u32 0)) (by kernel_rfl) ?_
  change wpAnyH _ _ _ _ _ _ _ _ (w11.drew)
  refine tK 0 (.pointer (some ⟨g3, 6, none⟩)) rfl (by kernel_rfl) (fun _ _ _ h => h) (fun _ => by kernel_rfl) hS ?_
  refine tW 1 rfl rfl (by kernel_rfl) (fun _ _ _ h => h) (by kernel_rfl) (fun _ h => h.1) hS ?_
  refine tK 2 (.pointer (some ⟨g2, 6, none⟩)) rfl (by kernel_rfl) (fun _ _ _ h => h) (fun _ => by kernel_rfl) hS ?_
  refine tW 3 rfl rfl (by kernel_rfl) (fun _ _ _ h => h) (by kernel_rfl) (fun _ h => h.2.1) hS ?_
  refine tK 4 (.pointer (some ⟨p2.k, 2, none⟩)) rfl (by kernel_rfl) (fun _ _ _ h => h) (fun _ => by kernel_rfl) hS ?_
  refine tU 5 rfl rfl (by kernel_rfl) (fun _ _ _ h => h) (by kernel_rfl) (fun _ h => h.2.2) hS ?_
  refine tK 6 (.pointer (some ⟨p3.k, 2, none⟩)) rfl (by kernel_rfl) (fun _ _ _ h => h) (fun _ => by kernel_rfl) hS ?_
  refine tA 7 (by kernel_rfl) (wpOp_step rfl fun K hK => ?_)
  go_simp
  have hS' : (w11.setCell ⟨p3.k, 2, none⟩ (.int .u32 0)).cell? ⟨g3, 6, none⟩ = some (.slice (some ⟨p3.k, 0, none⟩) 3 p3.ck) ∧ (w11.setCell ⟨p3.k, 2, none⟩ (.int .u32 0)).cell? ⟨g2, 6, none⟩ = some (.slice (some ⟨p2.k, 0, none⟩) 3 p2.ck) ∧ (w11.setCell ⟨p3.k, 2, none⟩ (.int .u32 0)).cell? ⟨p2.k, 2, none⟩ = some (.int .u32 0) := by
    obtain ⟨n1, n2, n3, n4, n5, n6, n7, n8⟩ := N4.out
    have ab := n4.b
    have kp : ∀ g j, g ≠ p3.k → (w11.setCell ⟨p3.k, 2, none⟩ (.int .u32 0)).cell? ⟨g, j, none⟩ = w11.cell? ⟨g, j, none⟩ := fun g j hg => World.cell?_of_block (w := w11) (Below.heap_setCell _ _ _ _ hg)
    exact ⟨(kp _ _ (by omega)).trans k3_6, (kp _ _ (by omega)).trans k2_6, (kp _ _ (by omega)).trans q2⟩
  refine hK _ _ ⟨hS', wpAnyH_done (by kernel_rfl) ?_ _⟩
  clear hK K hS hS'
  have H12 : Hid (S3 W (w11.setCell ⟨p3.k, 2, none⟩ (.int .u32 0)).drew g1 g2 g3 p1 p2 p3 L { L' with clock := L.clock }) := by
    obtain ⟨n1, n2, n3, n4, n5, n6, n7, n8⟩ := N4.out
    have ab := n4.b
    have an := n4.n
    have hs := H11.out
    have kp : ∀ g, g ≠ p3.k → (w11.setCell ⟨p3.k, 2, none⟩ (.int .u32 0)).drew.heap[g]? = w11.heap[g]? := fun g hg => Below.heap_setCell _ _ _ _ hg
    have cl : RowAt (w11.setCell ⟨p3.k, 2, none⟩ (.int .u32 0)).drew p3.k p3.ck L.clock := by
      have := hs.a3.clock.put 2 0
      rw [E.out.2.2.2.1] at this
      rw [E.out.2.2.1]
      exact row_keep this rfl
    have B3 : B13 (w11.setCell ⟨p3.k, 2, none⟩ (.int .u32 0)).drew g3 p3 L' := hs.b3.of (kp _ (by omega))
    refine ⟨hs.b1.of (kp _ (by omega)), hs.b2.of (kp _ (by omega)), ⟨B3.c0, B3.c1, B3.c2, B3.c3, B3.c4, B3.c5, ?_, B3.c7, B3.c8, B3.c9, B3.c10, B3.c11, B3.c12⟩, hs.a1.of fun g hg => kp g (by omega), hs.a2.of fun g hg => kp g (by omega), ⟨row_keep hs.a3.regs (kp _ (by omega)), row_keep hs.a3.csrs (kp _ (by omega)), cl, row_keep hs.a3.prio (kp _ (by omega)), row_keep hs.a3.enable (kp _ (by omega)), row_keep hs.a3.limit (kp _ (by omega))⟩, ?_⟩
    · show _ = some (Value.slice (some ⟨p3.k, 0, none⟩) L.clock.length p3.ck)
      have := B3.c6
      rw [E.out.2.2.2.1] at this
      rw [E.out.2.2.1]
      exact this
    · exact below_drawn (Below.setCell hs.bel (p := ⟨p3.k, 2, none⟩) (show W.heap.size ≤ p3.k by omega) _) 1
  clear q3 q2 k3_6 k2_6 fz
  generalize (w11.setCell ⟨p3.k, 2, none⟩ (.int .u32 0)).drew = w12 at H12 ⊢
  obtain ⟨k2_0, k2_1, k2_2, k2_3, k2_4, k2_5, k2_6, k2_7, k2_8, k2_9, k2_10, k2_11, k2_12⟩ := H12.out.b2
  obtain ⟨k3_0, k3_1, k3_2, k3_3, k3_4, k3_5, k3_6, k3_7, k3_8, k3_9, k3_10, k3_11, k3_12⟩ := H12.out.b3
  go_wp2_with fail
  refine (devices_true _ p2 p3 L { L' with clock := L.clock } H12.out.a2 H12.out.a3 rfl E.out.2.2.2.2.1 E.out.2.2.2.2.2.1 E.out.2.2.2.2.2.2.1 E.out.2.2.2.2.2.2.2.1 E.out.2.2.2.2.2.2.2.2.1 E.out.2.2.2.2.2.2.2.2.2.1).mono ?_
  rintro e w13 ⟨rfl, b13⟩
  have H13 : Hid (S3 W w13 g1 g2 g3 p1 p2 p3 L { L' with clock := L.clock }) := H12.out.below b13
  clear b13 k2_0 k2_1 k2_2 k2_3 k2_4 k2_5 k2_6 k2_7 k2_8 k2_9 k2_10 k2_11 k2_12 k3_0 k3_1 k3_2 k3_3 k3_4 k3_5 k3_6 k3_7 k3_8 k3_9 k3_10 k3_11 k3_12
  have q2 : w13.cell? ⟨p2.k, 2, none⟩ = some (.int .u32 0) := by have := H13.out.a2.clock.cell 2 (by rw [E.out.2.2.1]; decide); rw [E.out.2.2.1] at this; exact this
  have k2_6 := H13.out.b2.c6
  rw [E.out.2.2.1] at k2_6
  have k1_1 := H13.out.b1.c1
  have k1_2 := H13.out.b1.c2
  have k3_1 : w13.cell? ⟨g3, 1, none⟩ = some (.int .u32 L.pc) := by have := H13.out.b3.c1; rw [← E.out.2.2.2.2.2.2.2.2.2.2.1]; exact this
  have k3_2 : w13.cell? ⟨g3, 2, none⟩ = some (.int .i64 L.mode) := by have := H13.out.b3.c2; rw [← E.out.2.2.2.2.2.2.2.2.2.2.2.1]; exact this
  go_wp2
  go_ret
  exact ⟨rfl, H13.out.bel⟩
set_option maxHeartbeats 8000000 in
set_option maxRecDepth 100000 in
theorem stays_gt (W : World) (size : Int) (img : ByteArray) (s : Int) (high : Bool) (h1 : 7 < s) :
    Calls Try.prog 5 #[.int .i64 size, .string img, .int .i64 s, .bool high] W fun e W' => e = .returned (.bool true) ∧ Below W.heap.size W W' := by
  have HM := kmade_any W size img
  have hs : s < 1 ∨ 7 < s := .inr h1
  have h2 : 1 ≤ s := by omega
  have HS0 : Hid (s < 1 ∨ 7 < s) := hs
  clear hs
  go_enter Try.func5, Try.ntmps5
  go_wp2_with fail
  refine HM.mono ?_
  rintro e w0 ⟨x, rfl, r, n, im, K⟩
  have HK : Hid (KNew W w0 x r n im) := K
  clear HM
  obtain ⟨L, hL⟩ : ∃ L, lookC (newC n im) = L := ⟨_, rfl⟩
  obtain ⟨L', hL'⟩ : ∃ L', lookC (tickC (newC n im)) = L' := ⟨_, rfl⟩
  have F : Hid (LFull L) := by unfold Hid; rw [← hL]; exact full_look K.c
  have E : Hid (L'.regs = L.regs ∧ L'.ram = L.ram ∧ L.clock = [0, 4294967295, 0] ∧ L'.clock = [0, 4294967295, 1] ∧ L'.prio = L.prio ∧ L'.enable = L.enable ∧ L'.limit = L.limit ∧ L'.pend = L.pend ∧ L'.served = L.served ∧ L'.level = L.level ∧ L'.pc = L.pc ∧ L'.mode = L.mode ∧ L'.csrs.length = 19) := by
    rw [← hL, ← hL']
    exact ⟨rfl, rfl, rfl, rfl, rfl, rfl, rfl, rfl, rfl, rfl, rfl, rfl, rfl⟩
  have F' : Hid (LFull L') := ⟨by rw [E.out.1]; exact F.out.regs, E.out.2.2.2.2.2.2.2.2.2.2.2.2, by rw [E.out.2.2.2.1]; rfl, by rw [E.out.2.2.2.2.1]; exact F.out.prio, by rw [E.out.2.2.2.2.2.1]; exact F.out.enable, by rw [E.out.2.2.2.2.2.2.1]; exact F.out.limit, by rw [E.out.2.1]; exact F.out.ram⟩
  have HL : Hid (∀ w, CodeAt w x r (newC n im) → Calls Try.prog 9 #[.pointer (some ⟨x, 0, none⟩)] w fun e W'' => ∃ p : Pl, e = .returned (.agg #[.slice (some ⟨p.r, 0, none⟩) L.regs.length p.cr, .int .u32 L.pc, .int .i64 L.mode, .bool L.asleep, .slice (some ⟨p.c, 0, none⟩) L.csrs.length p.cc, .string L.ram, .slice (some ⟨p.k, 0, none⟩) L.clock.length p.ck, .slice (some ⟨p.p, 0, none⟩) L.prio.length p.cp, .int .u32 L.pend, .int .u32 L.served, .int .u32 L.level, .slice (some ⟨p.e, 0, none⟩) L.enable.length p.ce, .slice (some ⟨p.l, 0, none⟩) L.limit.length p.cl]) ∧ StAt W'' p L ∧ p.Apart w.heap.size ∧ Below w.heap.size w W'') := fun w h => by have := look_any w x r _ h; rw [hL] at this; exact this
  have HL' : Hid (∀ w, CodeAt w x r (tickC (newC n im)) → Calls Try.prog 9 #[.pointer (some ⟨x, 0, none⟩)] w fun e W'' => ∃ p : Pl, e = .returned (.agg #[.slice (some ⟨p.r, 0, none⟩) L'.regs.length p.cr, .int .u32 L'.pc, .int .i64 L'.mode, .bool L'.asleep, .slice (some ⟨p.c, 0, none⟩) L'.csrs.length p.cc, .string L'.ram, .slice (some ⟨p.k, 0, none⟩) L'.clock.length p.ck, .slice (some ⟨p.p, 0, none⟩) L'.prio.length p.cp, .int .u32 L'.pend, .int .u32 L'.served, .int .u32 L'.level, .slice (some ⟨p.e, 0, none⟩) L'.enable.length p.ce, .slice (some ⟨p.l, 0, none⟩) L'.limit.length p.cl]) ∧ StAt W'' p L' ∧ p.Apart w.heap.size ∧ Below w.heap.size w W'') := fun w h => by have := look_any w x r _ h; rw [hL'] at this; exact this
  clear K hL hL'
  go_wp2_with fail
  refine (HL.out _ HK.out.c).mono ?_
  rintro e w1 ⟨p1, rfl, st1, ap1, b1⟩
  have C1 : Hid (CodeAt (w1.alloc (.cells #[.slice (some ⟨p1.r, 0, none⟩) L.regs.length p1.cr, .int .u32 L.pc, .int .i64 L.mode, .bool L.asleep, .slice (some ⟨p1.c, 0, none⟩) L.csrs.length p1.cc, .string L.ram, .slice (some ⟨p1.k, 0, none⟩) L.clock.length p1.ck, .slice (some ⟨p1.p, 0, none⟩) L.prio.length p1.cp, .int .u32 L.pend, .int .u32 L.served, .int .u32 L.level, .slice (some ⟨p1.e, 0, none⟩) L.enable.length p1.ce, .slice (some ⟨p1.l, 0, none⟩) L.limit.length p1.cl] 31)) x r (newC n im)) := (HK.out.c.below b1 HK.out.c.lt.1 HK.out.c.lt.2).below ((Below.refl w1.heap.size w1).alloc (Nat.le_refl _) _) (Nat.lt_of_lt_of_le HK.out.c.lt.1 b1.size) (Nat.lt_of_lt_of_le HK.out.c.lt.2 b1.size)
  have I1 : Hid (B13 (w1.alloc (.cells #[.slice (some ⟨p1.r, 0, none⟩) L.regs.length p1.cr, .int .u32 L.pc, .int .i64 L.mode, .bool L.asleep, .slice (some ⟨p1.c, 0, none⟩) L.csrs.length p1.cc, .string L.ram, .slice (some ⟨p1.k, 0, none⟩) L.clock.length p1.ck, .slice (some ⟨p1.p, 0, none⟩) L.prio.length p1.cp, .int .u32 L.pend, .int .u32 L.served, .int .u32 L.level, .slice (some ⟨p1.e, 0, none⟩) L.enable.length p1.ce, .slice (some ⟨p1.l, 0, none⟩) L.limit.length p1.cl] 31)) w1.heap.size p1 L ∧ StAt (w1.alloc (.cells #[.slice (some ⟨p1.r, 0, none⟩) L.regs.length p1.cr, .int .u32 L.pc, .int .i64 L.mode, .bool L.asleep, .slice (some ⟨p1.c, 0, none⟩) L.csrs.length p1.cc, .string L.ram, .slice (some ⟨p1.k, 0, none⟩) L.clock.length p1.ck, .slice (some ⟨p1.p, 0, none⟩) L.prio.length p1.cp, .int .u32 L.pend, .int .u32 L.served, .int .u32 L.level, .slice (some ⟨p1.e, 0, none⟩) L.enable.length p1.ce, .slice (some ⟨p1.l, 0, none⟩) L.limit.length p1.cl] 31)) p1 L ∧ p1.Apart w0.heap.size ∧ Below W.heap.size W (w1.alloc (.cells #[.slice (some ⟨p1.r, 0, none⟩) L.regs.length p1.cr, .int .u32 L.pc, .int .i64 L.mode, .bool L.asleep, .slice (some ⟨p1.c, 0, none⟩) L.csrs.length p1.cc, .string L.ram, .slice (some ⟨p1.k, 0, none⟩) L.clock.length p1.ck, .slice (some ⟨p1.p, 0, none⟩) L.prio.length p1.cp, .int .u32 L.pend, .int .u32 L.served, .int .u32 L.level, .slice (some ⟨p1.e, 0, none⟩) L.enable.length p1.ce, .slice (some ⟨p1.l, 0, none⟩) L.limit.length p1.cl] 31)) ∧ w0.heap.size ≤ w1.heap.size) := ⟨B13.new w1 p1 L, st1.below ((Below.refl _ _).alloc (Nat.le_refl _) _), ap1, (HK.out.bel.trans (b1.mono HK.out.bel.size)).alloc (Nat.le_trans HK.out.bel.size b1.size) _, b1.size⟩
  clear st1 ap1 b1
  go_wp2_with fail
  refine (hline_no _ x _ high HS0.out).mono ?_
  rintro e w1' ⟨rfl, hw⟩
  rw [hw]
  clear hw w1'
  go_wp2_with fail
  refine (HL.out _ C1.out).mono ?_
  rintro e w2 ⟨p2, rfl, st2, ap2, b2⟩
  have C2 : Hid (CodeAt (w2.alloc (.cells #[.slice (some ⟨p2.r, 0, none⟩) L.regs.length p2.cr, .int .u32 L.pc, .int .i64 L.mode, .bool L.asleep, .slice (some ⟨p2.c, 0, none⟩) L.csrs.length p2.cc, .string L.ram, .slice (some ⟨p2.k, 0, none⟩) L.clock.length p2.ck, .slice (some ⟨p2.p, 0, none⟩) L.prio.length p2.cp, .int .u32 L.pend, .int .u32 L.served, .int .u32 L.level, .slice (some ⟨p2.e, 0, none⟩) L.enable.length p2.ce, .slice (some ⟨p2.l, 0, none⟩) L.limit.length p2.cl] 31)) x r (newC n im)) := (C1.out.below b2 C1.out.lt.1 C1.out.lt.2).below ((Below.refl w2.heap.size w2).alloc (Nat.le_refl _) _) (Nat.lt_of_lt_of_le C1.out.lt.1 b2.size) (Nat.lt_of_lt_of_le C1.out.lt.2 b2.size)
  have I2 : Hid ((B13 (w2.alloc (.cells #[.slice (some ⟨p2.r, 0, none⟩) L.regs.length p2.cr, .int .u32 L.pc, .int .i64 L.mode, .bool L.asleep, .slice (some ⟨p2.c, 0, none⟩) L.csrs.length p2.cc, .string L.ram, .slice (some ⟨p2.k, 0, none⟩) L.clock.length p2.ck, .slice (some ⟨p2.p, 0, none⟩) L.prio.length p2.cp, .int .u32 L.pend, .int .u32 L.served, .int .u32 L.level, .slice (some ⟨p2.e, 0, none⟩) L.enable.length p2.ce, .slice (some ⟨p2.l, 0, none⟩) L.limit.length p2.cl] 31)) w2.heap.size p2 L ∧ StAt (w2.alloc (.cells #[.slice (some ⟨p2.r, 0, none⟩) L.regs.length p2.cr, .int .u32 L.pc, .int .i64 L.mode, .bool L.asleep, .slice (some ⟨p2.c, 0, none⟩) L.csrs.length p2.cc, .string L.ram, .slice (some ⟨p2.k, 0, none⟩) L.clock.length p2.ck, .slice (some ⟨p2.p, 0, none⟩) L.prio.length p2.cp, .int .u32 L.pend, .int .u32 L.served, .int .u32 L.level, .slice (some ⟨p2.e, 0, none⟩) L.enable.length p2.ce, .slice (some ⟨p2.l, 0, none⟩) L.limit.length p2.cl] 31)) p2 L ∧ p2.Apart w0.heap.size) ∧ (B13 (w2.alloc (.cells #[.slice (some ⟨p2.r, 0, none⟩) L.regs.length p2.cr, .int .u32 L.pc, .int .i64 L.mode, .bool L.asleep, .slice (some ⟨p2.c, 0, none⟩) L.csrs.length p2.cc, .string L.ram, .slice (some ⟨p2.k, 0, none⟩) L.clock.length p2.ck, .slice (some ⟨p2.p, 0, none⟩) L.prio.length p2.cp, .int .u32 L.pend, .int .u32 L.served, .int .u32 L.level, .slice (some ⟨p2.e, 0, none⟩) L.enable.length p2.ce, .slice (some ⟨p2.l, 0, none⟩) L.limit.length p2.cl] 31)) w1.heap.size p1 L ∧ StAt (w2.alloc (.cells #[.slice (some ⟨p2.r, 0, none⟩) L.regs.length p2.cr, .int .u32 L.pc, .int .i64 L.mode, .bool L.asleep, .slice (some ⟨p2.c, 0, none⟩) L.csrs.length p2.cc, .string L.ram, .slice (some ⟨p2.k, 0, none⟩) L.clock.length p2.ck, .slice (some ⟨p2.p, 0, none⟩) L.prio.length p2.cp, .int .u32 L.pend, .int .u32 L.served, .int .u32 L.level, .slice (some ⟨p2.e, 0, none⟩) L.enable.length p2.ce, .slice (some ⟨p2.l, 0, none⟩) L.limit.length p2.cl] 31)) p1 L ∧ p1.Apart w0.heap.size) ∧ Below W.heap.size W (w2.alloc (.cells #[.slice (some ⟨p2.r, 0, none⟩) L.regs.length p2.cr, .int .u32 L.pc, .int .i64 L.mode, .bool L.asleep, .slice (some ⟨p2.c, 0, none⟩) L.csrs.length p2.cc, .string L.ram, .slice (some ⟨p2.k, 0, none⟩) L.clock.length p2.ck, .slice (some ⟨p2.p, 0, none⟩) L.prio.length p2.cp, .int .u32 L.pend, .int .u32 L.served, .int .u32 L.level, .slice (some ⟨p2.e, 0, none⟩) L.enable.length p2.ce, .slice (some ⟨p2.l, 0, none⟩) L.limit.length p2.cl] 31)) ∧ w0.heap.size ≤ w1.heap.size ∧ w1.heap.size < w2.heap.size) := by
    obtain ⟨i1, i2, i3, i4, i5⟩ := I1.out
    have sz := b2.size
    simp at sz
    have bb := (Below.refl w2.heap.size w2).alloc (Nat.le_refl _) (.cells #[.slice (some ⟨p2.r, 0, none⟩) L.regs.length p2.cr, .int .u32 L.pc, .int .i64 L.mode, .bool L.asleep, .slice (some ⟨p2.c, 0, none⟩) L.csrs.length p2.cc, .string L.ram, .slice (some ⟨p2.k, 0, none⟩) L.clock.length p2.ck, .slice (some ⟨p2.p, 0, none⟩) L.prio.length p2.cp, .int .u32 L.pend, .int .u32 L.served, .int .u32 L.level, .slice (some ⟨p2.e, 0, none⟩) L.enable.length p2.ce, .slice (some ⟨p2.l, 0, none⟩) L.limit.length p2.cl] 31)
    have ab := ap2.b
    simp at ab
    exact ⟨⟨B13.new w2 p2 L, st2.below bb, ⟨by omega, ap2.n⟩⟩, ⟨(i1.below b2).below bb, (i2.below b2).below bb, i3⟩, (i4.trans (b2.mono i4.size)).alloc (by have := i4.size; simp at this; omega) _, i5, by omega⟩
  clear st2 ap2 b2 I1 C1
  go_wp2_with fail
  refine (htick_any _ x r _ C2.out HK.out.ne).mono ?_
  rintro e w3 ⟨rfl, h3, o3⟩
  have C3 : Hid (CodeAt w3 x r (tickC (newC n im))) := h3
  have I3 : Hid ((B13 w3 w2.heap.size p2 L ∧ StAt w3 p2 L) ∧ (B13 w3 w1.heap.size p1 L ∧ StAt w3 p1 L) ∧ Below W.heap.size W w3) := by
    obtain ⟨⟨i1, i2, i3⟩, ⟨j1, j2, j3⟩, i4, i5, i6⟩ := I2.out
    have lx := HK.out.c.lt
    have M : ∀ k, k ∈ [x, r] → k < w0.heap.size := fun k hk => by simp at hk; omega
    refine ⟨⟨i1.of (o3.block _ (by simp) fun e => by have := M _ e; omega), i2.offs o3 i3 M⟩, ⟨j1.of (o3.block _ (by simp; omega) fun e => by have := M _ e; omega), j2.offs o3 j3 M⟩, i4.trans (o3.below (fun k hk => ?_) i4.size)⟩
    have := HK.out.wx
    have := HK.out.wr
    simp at hk
    omega
  clear h3 o3 I2 C2
  generalize w1.heap.size = g1 at I3 ⊢
  generalize w2.heap.size = g2 at I3 ⊢
  go_wp2_with fail
  refine (HL'.out _ C3.out).mono ?_
  rintro e w4 ⟨p3, rfl, st4, ap4, b4⟩
  have N4 : Hid (g1 < w3.heap.size ∧ g2 < w3.heap.size ∧ w3.heap.size ≤ w4.heap.size ∧ p3.Apart w3.heap.size ∧ (p1.r < w3.heap.size ∧ p1.c < w3.heap.size ∧ p1.k < w3.heap.size ∧ p1.p < w3.heap.size ∧ p1.e < w3.heap.size ∧ p1.l < w3.heap.size) ∧ (p2.r < w3.heap.size ∧ p2.c < w3.heap.size ∧ p2.k < w3.heap.size ∧ p2.p < w3.heap.size ∧ p2.e < w3.heap.size ∧ p2.l < w3.heap.size) ∧ p3.k < w4.heap.size ∧ W.heap.size ≤ w3.heap.size) :=
    ⟨I3.out.2.1.1.lt, I3.out.1.1.lt, b4.size, ap4, I3.out.2.1.2.lt, I3.out.1.2.lt, st4.lt.2.2.1, I3.out.2.2.size⟩
  have H4 : Hid (S3 W (w4.alloc (.cells #[.slice (some ⟨p3.r, 0, none⟩) L'.regs.length p3.cr, .int .u32 L'.pc, .int .i64 L'.mode, .bool L'.asleep, .slice (some ⟨p3.c, 0, none⟩) L'.csrs.length p3.cc, .string L'.ram, .slice (some ⟨p3.k, 0, none⟩) L'.clock.length p3.ck, .slice (some ⟨p3.p, 0, none⟩) L'.prio.length p3.cp, .int .u32 L'.pend, .int .u32 L'.served, .int .u32 L'.level, .slice (some ⟨p3.e, 0, none⟩) L'.enable.length p3.ce, .slice (some ⟨p3.l, 0, none⟩) L'.limit.length p3.cl] 31)) g1 g2 w4.heap.size p1 p2 p3 L L') := by
    obtain ⟨⟨i1, i2⟩, ⟨j1, j2⟩, i4⟩ := I3.out
    have bb := (Below.refl w4.heap.size w4).alloc (Nat.le_refl _) (.cells #[.slice (some ⟨p3.r, 0, none⟩) L'.regs.length p3.cr, .int .u32 L'.pc, .int .i64 L'.mode, .bool L'.asleep, .slice (some ⟨p3.c, 0, none⟩) L'.csrs.length p3.cc, .string L'.ram, .slice (some ⟨p3.k, 0, none⟩) L'.clock.length p3.ck, .slice (some ⟨p3.p, 0, none⟩) L'.prio.length p3.cp, .int .u32 L'.pend, .int .u32 L'.served, .int .u32 L'.level, .slice (some ⟨p3.e, 0, none⟩) L'.enable.length p3.ce, .slice (some ⟨p3.l, 0, none⟩) L'.limit.length p3.cl] 31)
    exact ⟨(j1.below b4).below bb, (i1.below b4).below bb, B13.new w4 p3 L', (j2.below b4).below bb, (i2.below b4).below bb, st4.below bb, (i4.trans (b4.mono i4.size)).alloc (by have := i4.size; have := b4.size; omega) _⟩
  have HS : Hid (w3.heap.size ≤ w4.heap.size) := b4.size
  clear st4 ap4 b4 I3 C3 HL HL'
  have H5 : Hid (S3 W (w4.alloc (.cells #[.slice (some ⟨p3.r, 0, none⟩) L'.regs.length p3.cr, .int .u32 L'.pc, .int .i64 L'.mode, .bool L'.asleep, .slice (some ⟨p3.c, 0, none⟩) L'.csrs.length p3.cc, .string L'.ram, .slice (some ⟨p3.k, 0, none⟩) L'.clock.length p3.ck, .slice (some ⟨p3.p, 0, none⟩) L'.prio.length p3.cp, .int .u32 L'.pend, .int .u32 L'.served, .int .u32 L'.level, .slice (some ⟨p3.e, 0, none⟩) L'.enable.length p3.ce, .slice (some ⟨p3.l, 0, none⟩) L'.limit.length p3.cl] 31)) g1 g2 w4.heap.size p1 p2 p3 L L') := H4.out
  clear H4
  obtain ⟨k1_0, k1_1, k1_2, k1_3, k1_4, k1_5, k1_6, k1_7, k1_8, k1_9, k1_10, k1_11, k1_12⟩ := H5.out.b1
  go_wp2_with fail
  refine (whole_true _ p1 L F.out).mono ?_
  rintro e w6 ⟨rfl, b6⟩
  have H6 : Hid (S3 W w6 g1 g2 w4.heap.size p1 p2 p3 L L') := H5.out.below b6
  clear b6 k1_0 k1_1 k1_2 k1_3 k1_4 k1_5 k1_6 k1_7 k1_8 k1_9 k1_10 k1_11 k1_12
  clear H5
  generalize w4.heap.size = g3 at H6 N4 HS ⊢
  obtain ⟨k2_0, k2_1, k2_2, k2_3, k2_4, k2_5, k2_6, k2_7, k2_8, k2_9, k2_10, k2_11, k2_12⟩ := H6.out.b2
  go_wp2_with fail
  refine (whole_true _ p2 L F.out).mono ?_
  rintro e w7 ⟨rfl, b7⟩
  have H7 : Hid (S3 W w7 g1 g2 g3 p1 p2 p3 L L') := H6.out.below b7
  clear b7 k2_0 k2_1 k2_2 k2_3 k2_4 k2_5 k2_6 k2_7 k2_8 k2_9 k2_10 k2_11 k2_12
  obtain ⟨k3_0, k3_1, k3_2, k3_3, k3_4, k3_5, k3_6, k3_7, k3_8, k3_9, k3_10, k3_11, k3_12⟩ := H7.out.b3
  go_wp2_with fail
  refine (whole_true _ p3 L' F'.out).mono ?_
  rintro e w8 ⟨rfl, b8⟩
  have H8 : Hid (S3 W w8 g1 g2 g3 p1 p2 p3 L L') := H7.out.below b8
  clear b8 k3_0 k3_1 k3_2 k3_3 k3_4 k3_5 k3_6 k3_7 k3_8 k3_9 k3_10 k3_11 k3_12
  obtain ⟨k1_0, k1_1, k1_2, k1_3, k1_4, k1_5, k1_6, k1_7, k1_8, k1_9, k1_10, k1_11, k1_12⟩ := H8.out.b1
  obtain ⟨k2_0, k2_1, k2_2, k2_3, k2_4, k2_5, k2_6, k2_7, k2_8, k2_9, k2_10, k2_11, k2_12⟩ := H8.out.b2
  go_wp2_with fail
  refine (core_true _ p1 p2 L L H8.out.a1 H8.out.a2 rfl rfl).mono ?_
  rintro e w9 ⟨rfl, b9⟩
  have H9 : Hid (S3 W w9 g1 g2 g3 p1 p2 p3 L L') := H8.out.below b9
  clear b9 k1_0 k1_1 k1_2 k1_3 k1_4 k1_5 k1_6 k1_7 k1_8 k1_9 k1_10 k1_11 k1_12 k2_0 k2_1 k2_2 k2_3 k2_4 k2_5 k2_6 k2_7 k2_8 k2_9 k2_10 k2_11 k2_12
  obtain ⟨k1_0, k1_1, k1_2, k1_3, k1_4, k1_5, k1_6, k1_7, k1_8, k1_9, k1_10, k1_11, k1_12⟩ := H9.out.b1
  obtain ⟨k2_0, k2_1, k2_2, k2_3, k2_4, k2_5, k2_6, k2_7, k2_8, k2_9, k2_10, k2_11, k2_12⟩ := H9.out.b2
  go_wp2_with fail
  refine (devices_true _ p1 p2 L L H9.out.a1 H9.out.a2 rfl rfl rfl rfl rfl rfl rfl).mono ?_
  rintro e w10 ⟨rfl, b10⟩
  have H10 : Hid (S3 W w10 g1 g2 g3 p1 p2 p3 L L') := H9.out.below b10
  clear b10 k1_0 k1_1 k1_2 k1_3 k1_4 k1_5 k1_6 k1_7 k1_8 k1_9 k1_10 k1_11 k1_12 k2_0 k2_1 k2_2 k2_3 k2_4 k2_5 k2_6 k2_7 k2_8 k2_9 k2_10 k2_11 k2_12
  obtain ⟨k2_0, k2_1, k2_2, k2_3, k2_4, k2_5, k2_6, k2_7, k2_8, k2_9, k2_10, k2_11, k2_12⟩ := H10.out.b2
  obtain ⟨k3_0, k3_1, k3_2, k3_3, k3_4, k3_5, k3_6, k3_7, k3_8, k3_9, k3_10, k3_11, k3_12⟩ := H10.out.b3
  go_wp2_with fail
  refine (core_true _ p2 p3 L L' H10.out.a2 H10.out.a3 E.out.1 E.out.2.1).mono ?_
  rintro e w11 ⟨rfl, b11⟩
  have H11 : Hid (S3 W w11 g1 g2 g3 p1 p2 p3 L L') := H10.out.below b11
  clear b11 k2_0 k2_1 k2_2 k2_3 k2_4 k2_5 k2_6 k2_7 k2_8 k2_9 k2_10 k2_11 k2_12 k3_0 k3_1 k3_2 k3_3 k3_4 k3_5 k3_6 k3_7 k3_8 k3_9 k3_10 k3_11 k3_12
  have q3 : w11.cell? ⟨p3.k, 2, none⟩ = some (.int .u32 1) := by have := H11.out.a3.clock.cell 2 (by rw [E.out.2.2.2.1]; decide); rw [E.out.2.2.2.1] at this; exact this
  have q2 : w11.cell? ⟨p2.k, 2, none⟩ = some (.int .u32 0) := by have := H11.out.a2.clock.cell 2 (by rw [E.out.2.2.1]; decide); rw [E.out.2.2.1] at this; exact this
  have z2 : L.clock.length = 3 := by rw [E.out.2.2.1]; rfl
  have z3 : L'.clock.length = 3 := by rw [E.out.2.2.2.1]; rfl
  have fz : ∀ j, w11.frozen? ⟨p3.k, j, none⟩ = false := fun j => by obtain ⟨cur, h1, _⟩ := H11.out.a3.clock; simp [World.frozen?, h1]
  have k3_6 := H11.out.b3.c6
  have k2_6 := H11.out.b2.c6
  rw [z2] at k2_6
  rw [z3] at k3_6
  clear z2 z3
  go_wp2_with fail
  have hS : w11.drew.cell? ⟨g3, 6, none⟩ = some (.slice (some ⟨p3.k, 0, none⟩) 3 p3.ck) ∧ w11.drew.cell? ⟨g2, 6, none⟩ = some (.slice (some ⟨p2.k, 0, none⟩) 3 p2.ck) ∧ w11.drew.cell? ⟨p2.k, 2, none⟩ = some (.int .u32 0) := ⟨k3_6, k2_6, q2⟩
  refine wp_region_held (S := fun w' => w'.cell? ⟨g3, 6, none⟩ = some (.slice (some ⟨p3.k, 0, none⟩) 3 p3.ck) ∧ w'.cell? ⟨g2, 6, none⟩ = some (.slice (some ⟨p2.k, 0, none⟩) 3 p2.ck) ∧ w'.cell? ⟨p2.k, 2, none⟩ = some (.int .u32 0)) (by kernel_rfl) ?_
  change wpAnyH _ _ _ _ _ _ _ _ (w11.drew)
  refine tK 0 (.pointer (some ⟨g3, 6, none⟩)) rfl (by kernel_rfl) (fun _ _ _ h => h) (fun _ => by kernel_rfl) hS ?_
  refine tW 1 rfl rfl (by kernel_rfl) (fun _ _ _ h => h) (by kernel_rfl) (fun _ h => h.1) hS ?_
  refine tK 2 (.pointer (some ⟨g2, 6, none⟩)) rfl (by kernel_rfl) (fun _ _ _ h => h) (fun _ => by kernel_rfl) hS ?_
  refine tW 3 rfl rfl (by kernel_rfl) (fun _ _ _ h => h) (by kernel_rfl) (fun _ h => h.2.1) hS ?_
  refine tK 4 (.pointer (some ⟨p2.k, 2, none⟩)) rfl (by kernel_rfl) (fun _ _ _ h => h) (fun _ => by kernel_rfl) hS ?_
  refine tU 5 rfl rfl (by kernel_rfl) (fun _ _ _ h => h) (by kernel_rfl) (fun _ h => h.2.2) hS ?_
  refine tK 6 (.pointer (some ⟨p3.k, 2, none⟩)) rfl (by kernel_rfl) (fun _ _ _ h => h) (fun _ => by kernel_rfl) hS ?_
  refine tA 7 (by kernel_rfl) (wpOp_step rfl fun K hK => ?_)
  go_simp
  have hS' : (w11.setCell ⟨p3.k, 2, none⟩ (.int .u32 0)).cell? ⟨g3, 6, none⟩ = some (.slice (some ⟨p3.k, 0, none⟩) 3 p3.ck) ∧ (w11.setCell ⟨p3.k, 2, none⟩ (.int .u32 0)).cell? ⟨g2, 6, none⟩ = some (.slice (some ⟨p2.k, 0, none⟩) 3 p2.ck) ∧ (w11.setCell ⟨p3.k, 2, none⟩ (.int .u32 0)).cell? ⟨p2.k, 2, none⟩ = some (.int .u32 0) := by
    obtain ⟨n1, n2, n3, n4, n5, n6, n7, n8⟩ := N4.out
    have ab := n4.b
    have kp : ∀ g j, g ≠ p3.k → (w11.setCell ⟨p3.k, 2, none⟩ (.int .u32 0)).cell? ⟨g, j, none⟩ = w11.cell? ⟨g, j, none⟩ := fun g j hg => World.cell?_of_block (w := w11) (Below.heap_setCell _ _ _ _ hg)
    exact ⟨(kp _ _ (by omega)).trans k3_6, (kp _ _ (by omega)).trans k2_6, (kp _ _ (by omega)).trans q2⟩
  refine hK _ _ ⟨hS', wpAnyH_done (by kernel_rfl) ?_ _⟩
  clear hK K hS hS'
  have H12 : Hid (S3 W (w11.setCell ⟨p3.k, 2, none⟩ (.int .u32 0)).drew g1 g2 g3 p1 p2 p3 L { L' with clock := L.clock }) := by
    obtain ⟨n1, n2, n3, n4, n5, n6, n7, n8⟩ := N4.out
    have ab := n4.b
    have an := n4.n
    have hs := H11.out
    have kp : ∀ g, g ≠ p3.k → (w11.setCell ⟨p3.k, 2, none⟩ (.int .u32 0)).drew.heap[g]? = w11.heap[g]? := fun g hg => Below.heap_setCell _ _ _ _ hg
    have cl : RowAt (w11.setCell ⟨p3.k, 2, none⟩ (.int .u32 0)).drew p3.k p3.ck L.clock := by
      have := hs.a3.clock.put 2 0
      rw [E.out.2.2.2.1] at this
      rw [E.out.2.2.1]
      exact row_keep this rfl
    have B3 : B13 (w11.setCell ⟨p3.k, 2, none⟩ (.int .u32 0)).drew g3 p3 L' := hs.b3.of (kp _ (by omega))
    refine ⟨hs.b1.of (kp _ (by omega)), hs.b2.of (kp _ (by omega)), ⟨B3.c0, B3.c1, B3.c2, B3.c3, B3.c4, B3.c5, ?_, B3.c7, B3.c8, B3.c9, B3.c10, B3.c11, B3.c12⟩, hs.a1.of fun g hg => kp g (by omega), hs.a2.of fun g hg => kp g (by omega), ⟨row_keep hs.a3.regs (kp _ (by omega)), row_keep hs.a3.csrs (kp _ (by omega)), cl, row_keep hs.a3.prio (kp _ (by omega)), row_keep hs.a3.enable (kp _ (by omega)), row_keep hs.a3.limit (kp _ (by omega))⟩, ?_⟩
    · show _ = some (Value.slice (some ⟨p3.k, 0, none⟩) L.clock.length p3.ck)
      have := B3.c6
      rw [E.out.2.2.2.1] at this
      rw [E.out.2.2.1]
      exact this
    · exact below_drawn (Below.setCell hs.bel (p := ⟨p3.k, 2, none⟩) (show W.heap.size ≤ p3.k by omega) _) 1
  clear q3 q2 k3_6 k2_6 fz
  generalize (w11.setCell ⟨p3.k, 2, none⟩ (.int .u32 0)).drew = w12 at H12 ⊢
  obtain ⟨k2_0, k2_1, k2_2, k2_3, k2_4, k2_5, k2_6, k2_7, k2_8, k2_9, k2_10, k2_11, k2_12⟩ := H12.out.b2
  obtain ⟨k3_0, k3_1, k3_2, k3_3, k3_4, k3_5, k3_6, k3_7, k3_8, k3_9, k3_10, k3_11, k3_12⟩ := H12.out.b3
  go_wp2_with fail
  refine (devices_true _ p2 p3 L { L' with clock := L.clock } H12.out.a2 H12.out.a3 rfl E.out.2.2.2.2.1 E.out.2.2.2.2.2.1 E.out.2.2.2.2.2.2.1 E.out.2.2.2.2.2.2.2.1 E.out.2.2.2.2.2.2.2.2.1 E.out.2.2.2.2.2.2.2.2.2.1).mono ?_
  rintro e w13 ⟨rfl, b13⟩
  have H13 : Hid (S3 W w13 g1 g2 g3 p1 p2 p3 L { L' with clock := L.clock }) := H12.out.below b13
  clear b13 k2_0 k2_1 k2_2 k2_3 k2_4 k2_5 k2_6 k2_7 k2_8 k2_9 k2_10 k2_11 k2_12 k3_0 k3_1 k3_2 k3_3 k3_4 k3_5 k3_6 k3_7 k3_8 k3_9 k3_10 k3_11 k3_12
  have q2 : w13.cell? ⟨p2.k, 2, none⟩ = some (.int .u32 0) := by have := H13.out.a2.clock.cell 2 (by rw [E.out.2.2.1]; decide); rw [E.out.2.2.1] at this; exact this
  have k2_6 := H13.out.b2.c6
  rw [E.out.2.2.1] at k2_6
  have k1_1 := H13.out.b1.c1
  have k1_2 := H13.out.b1.c2
  have k3_1 : w13.cell? ⟨g3, 1, none⟩ = some (.int .u32 L.pc) := by have := H13.out.b3.c1; rw [← E.out.2.2.2.2.2.2.2.2.2.2.1]; exact this
  have k3_2 : w13.cell? ⟨g3, 2, none⟩ = some (.int .i64 L.mode) := by have := H13.out.b3.c2; rw [← E.out.2.2.2.2.2.2.2.2.2.2.2.1]; exact this
  go_wp2
  go_ret
  exact ⟨rfl, H13.out.bel⟩
set_option maxHeartbeats 8000000 in
set_option maxRecDepth 100000 in
theorem stays_in (W : World) (size : Int) (img : ByteArray) (s : Int) (high : Bool) (h1 : 1 ≤ s) (h2 : s ≤ 7) :
    Calls Try.prog 5 #[.int .i64 size, .string img, .int .i64 s, .bool high] W fun e W' => e = .returned (.bool true) ∧ Below W.heap.size W W' := by
  have HM := kmade_any W size img
  have hs : s + 7 < 1 ∨ 7 < s + 7 := .inr (by omega)
  have HS0 : Hid (s + 7 < 1 ∨ 7 < s + 7) := hs
  clear hs
  go_enter Try.func5, Try.ntmps5
  go_wp2_with fail
  refine HM.mono ?_
  rintro e w0 ⟨x, rfl, r, n, im, K⟩
  have HK : Hid (KNew W w0 x r n im) := K
  clear HM
  obtain ⟨L, hL⟩ : ∃ L, lookC (newC n im) = L := ⟨_, rfl⟩
  obtain ⟨L', hL'⟩ : ∃ L', lookC (tickC (newC n im)) = L' := ⟨_, rfl⟩
  have F : Hid (LFull L) := by unfold Hid; rw [← hL]; exact full_look K.c
  have E : Hid (L'.regs = L.regs ∧ L'.ram = L.ram ∧ L.clock = [0, 4294967295, 0] ∧ L'.clock = [0, 4294967295, 1] ∧ L'.prio = L.prio ∧ L'.enable = L.enable ∧ L'.limit = L.limit ∧ L'.pend = L.pend ∧ L'.served = L.served ∧ L'.level = L.level ∧ L'.pc = L.pc ∧ L'.mode = L.mode ∧ L'.csrs.length = 19) := by
    rw [← hL, ← hL']
    exact ⟨rfl, rfl, rfl, rfl, rfl, rfl, rfl, rfl, rfl, rfl, rfl, rfl, rfl⟩
  have F' : Hid (LFull L') := ⟨by rw [E.out.1]; exact F.out.regs, E.out.2.2.2.2.2.2.2.2.2.2.2.2, by rw [E.out.2.2.2.1]; rfl, by rw [E.out.2.2.2.2.1]; exact F.out.prio, by rw [E.out.2.2.2.2.2.1]; exact F.out.enable, by rw [E.out.2.2.2.2.2.2.1]; exact F.out.limit, by rw [E.out.2.1]; exact F.out.ram⟩
  have HL : Hid (∀ w, CodeAt w x r (newC n im) → Calls Try.prog 9 #[.pointer (some ⟨x, 0, none⟩)] w fun e W'' => ∃ p : Pl, e = .returned (.agg #[.slice (some ⟨p.r, 0, none⟩) L.regs.length p.cr, .int .u32 L.pc, .int .i64 L.mode, .bool L.asleep, .slice (some ⟨p.c, 0, none⟩) L.csrs.length p.cc, .string L.ram, .slice (some ⟨p.k, 0, none⟩) L.clock.length p.ck, .slice (some ⟨p.p, 0, none⟩) L.prio.length p.cp, .int .u32 L.pend, .int .u32 L.served, .int .u32 L.level, .slice (some ⟨p.e, 0, none⟩) L.enable.length p.ce, .slice (some ⟨p.l, 0, none⟩) L.limit.length p.cl]) ∧ StAt W'' p L ∧ p.Apart w.heap.size ∧ Below w.heap.size w W'') := fun w h => by have := look_any w x r _ h; rw [hL] at this; exact this
  have HL' : Hid (∀ w, CodeAt w x r (tickC (newC n im)) → Calls Try.prog 9 #[.pointer (some ⟨x, 0, none⟩)] w fun e W'' => ∃ p : Pl, e = .returned (.agg #[.slice (some ⟨p.r, 0, none⟩) L'.regs.length p.cr, .int .u32 L'.pc, .int .i64 L'.mode, .bool L'.asleep, .slice (some ⟨p.c, 0, none⟩) L'.csrs.length p.cc, .string L'.ram, .slice (some ⟨p.k, 0, none⟩) L'.clock.length p.ck, .slice (some ⟨p.p, 0, none⟩) L'.prio.length p.cp, .int .u32 L'.pend, .int .u32 L'.served, .int .u32 L'.level, .slice (some ⟨p.e, 0, none⟩) L'.enable.length p.ce, .slice (some ⟨p.l, 0, none⟩) L'.limit.length p.cl]) ∧ StAt W'' p L' ∧ p.Apart w.heap.size ∧ Below w.heap.size w W'') := fun w h => by have := look_any w x r _ h; rw [hL'] at this; exact this
  clear K hL hL'
  go_wp2_with fail
  refine (HL.out _ HK.out.c).mono ?_
  rintro e w1 ⟨p1, rfl, st1, ap1, b1⟩
  have C1 : Hid (CodeAt (w1.alloc (.cells #[.slice (some ⟨p1.r, 0, none⟩) L.regs.length p1.cr, .int .u32 L.pc, .int .i64 L.mode, .bool L.asleep, .slice (some ⟨p1.c, 0, none⟩) L.csrs.length p1.cc, .string L.ram, .slice (some ⟨p1.k, 0, none⟩) L.clock.length p1.ck, .slice (some ⟨p1.p, 0, none⟩) L.prio.length p1.cp, .int .u32 L.pend, .int .u32 L.served, .int .u32 L.level, .slice (some ⟨p1.e, 0, none⟩) L.enable.length p1.ce, .slice (some ⟨p1.l, 0, none⟩) L.limit.length p1.cl] 31)) x r (newC n im)) := (HK.out.c.below b1 HK.out.c.lt.1 HK.out.c.lt.2).below ((Below.refl w1.heap.size w1).alloc (Nat.le_refl _) _) (Nat.lt_of_lt_of_le HK.out.c.lt.1 b1.size) (Nat.lt_of_lt_of_le HK.out.c.lt.2 b1.size)
  have I1 : Hid (B13 (w1.alloc (.cells #[.slice (some ⟨p1.r, 0, none⟩) L.regs.length p1.cr, .int .u32 L.pc, .int .i64 L.mode, .bool L.asleep, .slice (some ⟨p1.c, 0, none⟩) L.csrs.length p1.cc, .string L.ram, .slice (some ⟨p1.k, 0, none⟩) L.clock.length p1.ck, .slice (some ⟨p1.p, 0, none⟩) L.prio.length p1.cp, .int .u32 L.pend, .int .u32 L.served, .int .u32 L.level, .slice (some ⟨p1.e, 0, none⟩) L.enable.length p1.ce, .slice (some ⟨p1.l, 0, none⟩) L.limit.length p1.cl] 31)) w1.heap.size p1 L ∧ StAt (w1.alloc (.cells #[.slice (some ⟨p1.r, 0, none⟩) L.regs.length p1.cr, .int .u32 L.pc, .int .i64 L.mode, .bool L.asleep, .slice (some ⟨p1.c, 0, none⟩) L.csrs.length p1.cc, .string L.ram, .slice (some ⟨p1.k, 0, none⟩) L.clock.length p1.ck, .slice (some ⟨p1.p, 0, none⟩) L.prio.length p1.cp, .int .u32 L.pend, .int .u32 L.served, .int .u32 L.level, .slice (some ⟨p1.e, 0, none⟩) L.enable.length p1.ce, .slice (some ⟨p1.l, 0, none⟩) L.limit.length p1.cl] 31)) p1 L ∧ p1.Apart w0.heap.size ∧ Below W.heap.size W (w1.alloc (.cells #[.slice (some ⟨p1.r, 0, none⟩) L.regs.length p1.cr, .int .u32 L.pc, .int .i64 L.mode, .bool L.asleep, .slice (some ⟨p1.c, 0, none⟩) L.csrs.length p1.cc, .string L.ram, .slice (some ⟨p1.k, 0, none⟩) L.clock.length p1.ck, .slice (some ⟨p1.p, 0, none⟩) L.prio.length p1.cp, .int .u32 L.pend, .int .u32 L.served, .int .u32 L.level, .slice (some ⟨p1.e, 0, none⟩) L.enable.length p1.ce, .slice (some ⟨p1.l, 0, none⟩) L.limit.length p1.cl] 31)) ∧ w0.heap.size ≤ w1.heap.size) := ⟨B13.new w1 p1 L, st1.below ((Below.refl _ _).alloc (Nat.le_refl _) _), ap1, (HK.out.bel.trans (b1.mono HK.out.bel.size)).alloc (Nat.le_trans HK.out.bel.size b1.size) _, b1.size⟩
  clear st1 ap1 b1
  go_wp2_with fail
  refine (hline_no _ x _ high HS0.out).mono ?_
  rintro e w1' ⟨rfl, hw⟩
  rw [hw]
  clear hw w1'
  go_wp2_with fail
  refine (HL.out _ C1.out).mono ?_
  rintro e w2 ⟨p2, rfl, st2, ap2, b2⟩
  have C2 : Hid (CodeAt (w2.alloc (.cells #[.slice (some ⟨p2.r, 0, none⟩) L.regs.length p2.cr, .int .u32 L.pc, .int .i64 L.mode, .bool L.asleep, .slice (some ⟨p2.c, 0, none⟩) L.csrs.length p2.cc, .string L.ram, .slice (some ⟨p2.k, 0, none⟩) L.clock.length p2.ck, .slice (some ⟨p2.p, 0, none⟩) L.prio.length p2.cp, .int .u32 L.pend, .int .u32 L.served, .int .u32 L.level, .slice (some ⟨p2.e, 0, none⟩) L.enable.length p2.ce, .slice (some ⟨p2.l, 0, none⟩) L.limit.length p2.cl] 31)) x r (newC n im)) := (C1.out.below b2 C1.out.lt.1 C1.out.lt.2).below ((Below.refl w2.heap.size w2).alloc (Nat.le_refl _) _) (Nat.lt_of_lt_of_le C1.out.lt.1 b2.size) (Nat.lt_of_lt_of_le C1.out.lt.2 b2.size)
  have I2 : Hid ((B13 (w2.alloc (.cells #[.slice (some ⟨p2.r, 0, none⟩) L.regs.length p2.cr, .int .u32 L.pc, .int .i64 L.mode, .bool L.asleep, .slice (some ⟨p2.c, 0, none⟩) L.csrs.length p2.cc, .string L.ram, .slice (some ⟨p2.k, 0, none⟩) L.clock.length p2.ck, .slice (some ⟨p2.p, 0, none⟩) L.prio.length p2.cp, .int .u32 L.pend, .int .u32 L.served, .int .u32 L.level, .slice (some ⟨p2.e, 0, none⟩) L.enable.length p2.ce, .slice (some ⟨p2.l, 0, none⟩) L.limit.length p2.cl] 31)) w2.heap.size p2 L ∧ StAt (w2.alloc (.cells #[.slice (some ⟨p2.r, 0, none⟩) L.regs.length p2.cr, .int .u32 L.pc, .int .i64 L.mode, .bool L.asleep, .slice (some ⟨p2.c, 0, none⟩) L.csrs.length p2.cc, .string L.ram, .slice (some ⟨p2.k, 0, none⟩) L.clock.length p2.ck, .slice (some ⟨p2.p, 0, none⟩) L.prio.length p2.cp, .int .u32 L.pend, .int .u32 L.served, .int .u32 L.level, .slice (some ⟨p2.e, 0, none⟩) L.enable.length p2.ce, .slice (some ⟨p2.l, 0, none⟩) L.limit.length p2.cl] 31)) p2 L ∧ p2.Apart w0.heap.size) ∧ (B13 (w2.alloc (.cells #[.slice (some ⟨p2.r, 0, none⟩) L.regs.length p2.cr, .int .u32 L.pc, .int .i64 L.mode, .bool L.asleep, .slice (some ⟨p2.c, 0, none⟩) L.csrs.length p2.cc, .string L.ram, .slice (some ⟨p2.k, 0, none⟩) L.clock.length p2.ck, .slice (some ⟨p2.p, 0, none⟩) L.prio.length p2.cp, .int .u32 L.pend, .int .u32 L.served, .int .u32 L.level, .slice (some ⟨p2.e, 0, none⟩) L.enable.length p2.ce, .slice (some ⟨p2.l, 0, none⟩) L.limit.length p2.cl] 31)) w1.heap.size p1 L ∧ StAt (w2.alloc (.cells #[.slice (some ⟨p2.r, 0, none⟩) L.regs.length p2.cr, .int .u32 L.pc, .int .i64 L.mode, .bool L.asleep, .slice (some ⟨p2.c, 0, none⟩) L.csrs.length p2.cc, .string L.ram, .slice (some ⟨p2.k, 0, none⟩) L.clock.length p2.ck, .slice (some ⟨p2.p, 0, none⟩) L.prio.length p2.cp, .int .u32 L.pend, .int .u32 L.served, .int .u32 L.level, .slice (some ⟨p2.e, 0, none⟩) L.enable.length p2.ce, .slice (some ⟨p2.l, 0, none⟩) L.limit.length p2.cl] 31)) p1 L ∧ p1.Apart w0.heap.size) ∧ Below W.heap.size W (w2.alloc (.cells #[.slice (some ⟨p2.r, 0, none⟩) L.regs.length p2.cr, .int .u32 L.pc, .int .i64 L.mode, .bool L.asleep, .slice (some ⟨p2.c, 0, none⟩) L.csrs.length p2.cc, .string L.ram, .slice (some ⟨p2.k, 0, none⟩) L.clock.length p2.ck, .slice (some ⟨p2.p, 0, none⟩) L.prio.length p2.cp, .int .u32 L.pend, .int .u32 L.served, .int .u32 L.level, .slice (some ⟨p2.e, 0, none⟩) L.enable.length p2.ce, .slice (some ⟨p2.l, 0, none⟩) L.limit.length p2.cl] 31)) ∧ w0.heap.size ≤ w1.heap.size ∧ w1.heap.size < w2.heap.size) := by
    obtain ⟨i1, i2, i3, i4, i5⟩ := I1.out
    have sz := b2.size
    simp at sz
    have bb := (Below.refl w2.heap.size w2).alloc (Nat.le_refl _) (.cells #[.slice (some ⟨p2.r, 0, none⟩) L.regs.length p2.cr, .int .u32 L.pc, .int .i64 L.mode, .bool L.asleep, .slice (some ⟨p2.c, 0, none⟩) L.csrs.length p2.cc, .string L.ram, .slice (some ⟨p2.k, 0, none⟩) L.clock.length p2.ck, .slice (some ⟨p2.p, 0, none⟩) L.prio.length p2.cp, .int .u32 L.pend, .int .u32 L.served, .int .u32 L.level, .slice (some ⟨p2.e, 0, none⟩) L.enable.length p2.ce, .slice (some ⟨p2.l, 0, none⟩) L.limit.length p2.cl] 31)
    have ab := ap2.b
    simp at ab
    exact ⟨⟨B13.new w2 p2 L, st2.below bb, ⟨by omega, ap2.n⟩⟩, ⟨(i1.below b2).below bb, (i2.below b2).below bb, i3⟩, (i4.trans (b2.mono i4.size)).alloc (by have := i4.size; simp at this; omega) _, i5, by omega⟩
  clear st2 ap2 b2 I1 C1
  go_wp2_with fail
  refine (htick_any _ x r _ C2.out HK.out.ne).mono ?_
  rintro e w3 ⟨rfl, h3, o3⟩
  have C3 : Hid (CodeAt w3 x r (tickC (newC n im))) := h3
  have I3 : Hid ((B13 w3 w2.heap.size p2 L ∧ StAt w3 p2 L) ∧ (B13 w3 w1.heap.size p1 L ∧ StAt w3 p1 L) ∧ Below W.heap.size W w3) := by
    obtain ⟨⟨i1, i2, i3⟩, ⟨j1, j2, j3⟩, i4, i5, i6⟩ := I2.out
    have lx := HK.out.c.lt
    have M : ∀ k, k ∈ [x, r] → k < w0.heap.size := fun k hk => by simp at hk; omega
    refine ⟨⟨i1.of (o3.block _ (by simp) fun e => by have := M _ e; omega), i2.offs o3 i3 M⟩, ⟨j1.of (o3.block _ (by simp; omega) fun e => by have := M _ e; omega), j2.offs o3 j3 M⟩, i4.trans (o3.below (fun k hk => ?_) i4.size)⟩
    have := HK.out.wx
    have := HK.out.wr
    simp at hk
    omega
  clear h3 o3 I2 C2
  generalize w1.heap.size = g1 at I3 ⊢
  generalize w2.heap.size = g2 at I3 ⊢
  go_wp2_with fail
  refine (HL'.out _ C3.out).mono ?_
  rintro e w4 ⟨p3, rfl, st4, ap4, b4⟩
  have N4 : Hid (g1 < w3.heap.size ∧ g2 < w3.heap.size ∧ w3.heap.size ≤ w4.heap.size ∧ p3.Apart w3.heap.size ∧ (p1.r < w3.heap.size ∧ p1.c < w3.heap.size ∧ p1.k < w3.heap.size ∧ p1.p < w3.heap.size ∧ p1.e < w3.heap.size ∧ p1.l < w3.heap.size) ∧ (p2.r < w3.heap.size ∧ p2.c < w3.heap.size ∧ p2.k < w3.heap.size ∧ p2.p < w3.heap.size ∧ p2.e < w3.heap.size ∧ p2.l < w3.heap.size) ∧ p3.k < w4.heap.size ∧ W.heap.size ≤ w3.heap.size) :=
    ⟨I3.out.2.1.1.lt, I3.out.1.1.lt, b4.size, ap4, I3.out.2.1.2.lt, I3.out.1.2.lt, st4.lt.2.2.1, I3.out.2.2.size⟩
  have H4 : Hid (S3 W (w4.alloc (.cells #[.slice (some ⟨p3.r, 0, none⟩) L'.regs.length p3.cr, .int .u32 L'.pc, .int .i64 L'.mode, .bool L'.asleep, .slice (some ⟨p3.c, 0, none⟩) L'.csrs.length p3.cc, .string L'.ram, .slice (some ⟨p3.k, 0, none⟩) L'.clock.length p3.ck, .slice (some ⟨p3.p, 0, none⟩) L'.prio.length p3.cp, .int .u32 L'.pend, .int .u32 L'.served, .int .u32 L'.level, .slice (some ⟨p3.e, 0, none⟩) L'.enable.length p3.ce, .slice (some ⟨p3.l, 0, none⟩) L'.limit.length p3.cl] 31)) g1 g2 w4.heap.size p1 p2 p3 L L') := by
    obtain ⟨⟨i1, i2⟩, ⟨j1, j2⟩, i4⟩ := I3.out
    have bb := (Below.refl w4.heap.size w4).alloc (Nat.le_refl _) (.cells #[.slice (some ⟨p3.r, 0, none⟩) L'.regs.length p3.cr, .int .u32 L'.pc, .int .i64 L'.mode, .bool L'.asleep, .slice (some ⟨p3.c, 0, none⟩) L'.csrs.length p3.cc, .string L'.ram, .slice (some ⟨p3.k, 0, none⟩) L'.clock.length p3.ck, .slice (some ⟨p3.p, 0, none⟩) L'.prio.length p3.cp, .int .u32 L'.pend, .int .u32 L'.served, .int .u32 L'.level, .slice (some ⟨p3.e, 0, none⟩) L'.enable.length p3.ce, .slice (some ⟨p3.l, 0, none⟩) L'.limit.length p3.cl] 31)
    exact ⟨(j1.below b4).below bb, (i1.below b4).below bb, B13.new w4 p3 L', (j2.below b4).below bb, (i2.below b4).below bb, st4.below bb, (i4.trans (b4.mono i4.size)).alloc (by have := i4.size; have := b4.size; omega) _⟩
  have HS : Hid (w3.heap.size ≤ w4.heap.size) := b4.size
  clear st4 ap4 b4 I3 C3 HL HL'
  have H5 : Hid (S3 W (w4.alloc (.cells #[.slice (some ⟨p3.r, 0, none⟩) L'.regs.length p3.cr, .int .u32 L'.pc, .int .i64 L'.mode, .bool L'.asleep, .slice (some ⟨p3.c, 0, none⟩) L'.csrs.length p3.cc, .string L'.ram, .slice (some ⟨p3.k, 0, none⟩) L'.clock.length p3.ck, .slice (some ⟨p3.p, 0, none⟩) L'.prio.length p3.cp, .int .u32 L'.pend, .int .u32 L'.served, .int .u32 L'.level, .slice (some ⟨p3.e, 0, none⟩) L'.enable.length p3.ce, .slice (some ⟨p3.l, 0, none⟩) L'.limit.length p3.cl] 31)) g1 g2 w4.heap.size p1 p2 p3 L L') := H4.out
  clear H4
  obtain ⟨k1_0, k1_1, k1_2, k1_3, k1_4, k1_5, k1_6, k1_7, k1_8, k1_9, k1_10, k1_11, k1_12⟩ := H5.out.b1
  go_wp2_with fail
  refine (whole_true _ p1 L F.out).mono ?_
  rintro e w6 ⟨rfl, b6⟩
  have H6 : Hid (S3 W w6 g1 g2 w4.heap.size p1 p2 p3 L L') := H5.out.below b6
  clear b6 k1_0 k1_1 k1_2 k1_3 k1_4 k1_5 k1_6 k1_7 k1_8 k1_9 k1_10 k1_11 k1_12
  clear H5
  generalize w4.heap.size = g3 at H6 N4 HS ⊢
  obtain ⟨k2_0, k2_1, k2_2, k2_3, k2_4, k2_5, k2_6, k2_7, k2_8, k2_9, k2_10, k2_11, k2_12⟩ := H6.out.b2
  go_wp2_with fail
  refine (whole_true _ p2 L F.out).mono ?_
  rintro e w7 ⟨rfl, b7⟩
  have H7 : Hid (S3 W w7 g1 g2 g3 p1 p2 p3 L L') := H6.out.below b7
  clear b7 k2_0 k2_1 k2_2 k2_3 k2_4 k2_5 k2_6 k2_7 k2_8 k2_9 k2_10 k2_11 k2_12
  obtain ⟨k3_0, k3_1, k3_2, k3_3, k3_4, k3_5, k3_6, k3_7, k3_8, k3_9, k3_10, k3_11, k3_12⟩ := H7.out.b3
  go_wp2_with fail
  refine (whole_true _ p3 L' F'.out).mono ?_
  rintro e w8 ⟨rfl, b8⟩
  have H8 : Hid (S3 W w8 g1 g2 g3 p1 p2 p3 L L') := H7.out.below b8
  clear b8 k3_0 k3_1 k3_2 k3_3 k3_4 k3_5 k3_6 k3_7 k3_8 k3_9 k3_10 k3_11 k3_12
  obtain ⟨k1_0, k1_1, k1_2, k1_3, k1_4, k1_5, k1_6, k1_7, k1_8, k1_9, k1_10, k1_11, k1_12⟩ := H8.out.b1
  obtain ⟨k2_0, k2_1, k2_2, k2_3, k2_4, k2_5, k2_6, k2_7, k2_8, k2_9, k2_10, k2_11, k2_12⟩ := H8.out.b2
  go_wp2_with fail
  refine (core_true _ p1 p2 L L H8.out.a1 H8.out.a2 rfl rfl).mono ?_
  rintro e w9 ⟨rfl, b9⟩
  have H9 : Hid (S3 W w9 g1 g2 g3 p1 p2 p3 L L') := H8.out.below b9
  clear b9 k1_0 k1_1 k1_2 k1_3 k1_4 k1_5 k1_6 k1_7 k1_8 k1_9 k1_10 k1_11 k1_12 k2_0 k2_1 k2_2 k2_3 k2_4 k2_5 k2_6 k2_7 k2_8 k2_9 k2_10 k2_11 k2_12
  obtain ⟨k1_0, k1_1, k1_2, k1_3, k1_4, k1_5, k1_6, k1_7, k1_8, k1_9, k1_10, k1_11, k1_12⟩ := H9.out.b1
  obtain ⟨k2_0, k2_1, k2_2, k2_3, k2_4, k2_5, k2_6, k2_7, k2_8, k2_9, k2_10, k2_11, k2_12⟩ := H9.out.b2
  go_wp2_with fail
  refine (devices_true _ p1 p2 L L H9.out.a1 H9.out.a2 rfl rfl rfl rfl rfl rfl rfl).mono ?_
  rintro e w10 ⟨rfl, b10⟩
  have H10 : Hid (S3 W w10 g1 g2 g3 p1 p2 p3 L L') := H9.out.below b10
  clear b10 k1_0 k1_1 k1_2 k1_3 k1_4 k1_5 k1_6 k1_7 k1_8 k1_9 k1_10 k1_11 k1_12 k2_0 k2_1 k2_2 k2_3 k2_4 k2_5 k2_6 k2_7 k2_8 k2_9 k2_10 k2_11 k2_12
  obtain ⟨k2_0, k2_1, k2_2, k2_3, k2_4, k2_5, k2_6, k2_7, k2_8, k2_9, k2_10, k2_11, k2_12⟩ := H10.out.b2
  obtain ⟨k3_0, k3_1, k3_2, k3_3, k3_4, k3_5, k3_6, k3_7, k3_8, k3_9, k3_10, k3_11, k3_12⟩ := H10.out.b3
  go_wp2_with fail
  refine (core_true _ p2 p3 L L' H10.out.a2 H10.out.a3 E.out.1 E.out.2.1).mono ?_
  rintro e w11 ⟨rfl, b11⟩
  have H11 : Hid (S3 W w11 g1 g2 g3 p1 p2 p3 L L') := H10.out.below b11
  clear b11 k2_0 k2_1 k2_2 k2_3 k2_4 k2_5 k2_6 k2_7 k2_8 k2_9 k2_10 k2_11 k2_12 k3_0 k3_1 k3_2 k3_3 k3_4 k3_5 k3_6 k3_7 k3_8 k3_9 k3_10 k3_11 k3_12
  have q3 : w11.cell? ⟨p3.k, 2, none⟩ = some (.int .u32 1) := by have := H11.out.a3.clock.cell 2 (by rw [E.out.2.2.2.1]; decide); rw [E.out.2.2.2.1] at this; exact this
  have q2 : w11.cell? ⟨p2.k, 2, none⟩ = some (.int .u32 0) := by have := H11.out.a2.clock.cell 2 (by rw [E.out.2.2.1]; decide); rw [E.out.2.2.1] at this; exact this
  have z2 : L.clock.length = 3 := by rw [E.out.2.2.1]; rfl
  have z3 : L'.clock.length = 3 := by rw [E.out.2.2.2.1]; rfl
  have fz : ∀ j, w11.frozen? ⟨p3.k, j, none⟩ = false := fun j => by obtain ⟨cur, h1, _⟩ := H11.out.a3.clock; simp [World.frozen?, h1]
  have k3_6 := H11.out.b3.c6
  have k2_6 := H11.out.b2.c6
  rw [z2] at k2_6
  rw [z3] at k3_6
  clear z2 z3
  go_wp2_with fail
  have hS : w11.drew.cell? ⟨g3, 6, none⟩ = some (.slice (some ⟨p3.k, 0, none⟩) 3 p3.ck) ∧ w11.drew.cell? ⟨g2, 6, none⟩ = some (.slice (some ⟨p2.k, 0, none⟩) 3 p2.ck) ∧ w11.drew.cell? ⟨p2.k, 2, none⟩ = some (.int .u32 0) := ⟨k3_6, k2_6, q2⟩
  refine wp_region_held (S := fun w' => w'.cell? ⟨g3, 6, none⟩ = some (.slice (some ⟨p3.k, 0, none⟩) 3 p3.ck) ∧ w'.cell? ⟨g2, 6, none⟩ = some (.slice (some ⟨p2.k, 0, none⟩) 3 p2.ck) ∧ w'.cell? ⟨p2.k, 2, none⟩ = some (.int .u32 0)) (by kernel_rfl) ?_
  change wpAnyH _ _ _ _ _ _ _ _ (w11.drew)
  refine tK 0 (.pointer (some ⟨g3, 6, none⟩)) rfl (by kernel_rfl) (fun _ _ _ h => h) (fun _ => by kernel_rfl) hS ?_
  refine tW 1 rfl rfl (by kernel_rfl) (fun _ _ _ h => h) (by kernel_rfl) (fun _ h => h.1) hS ?_
  refine tK 2 (.pointer (some ⟨g2, 6, none⟩)) rfl (by kernel_rfl) (fun _ _ _ h => h) (fun _ => by kernel_rfl) hS ?_
  refine tW 3 rfl rfl (by kernel_rfl) (fun _ _ _ h => h) (by kernel_rfl) (fun _ h => h.2.1) hS ?_
  refine tK 4 (.pointer (some ⟨p2.k, 2, none⟩)) rfl (by kernel_rfl) (fun _ _ _ h => h) (fun _ => by kernel_rfl) hS ?_
  refine tU 5 rfl rfl (by kernel_rfl) (fun _ _ _ h => h) (by kernel_rfl) (fun _ h => h.2.2) hS ?_
  refine tK 6 (.pointer (some ⟨p3.k, 2, none⟩)) rfl (by kernel_rfl) (fun _ _ _ h => h) (fun _ => by kernel_rfl) hS ?_
  refine tA 7 (by kernel_rfl) (wpOp_step rfl fun K hK => ?_)
  go_simp
  have hS' : (w11.setCell ⟨p3.k, 2, none⟩ (.int .u32 0)).cell? ⟨g3, 6, none⟩ = some (.slice (some ⟨p3.k, 0, none⟩) 3 p3.ck) ∧ (w11.setCell ⟨p3.k, 2, none⟩ (.int .u32 0)).cell? ⟨g2, 6, none⟩ = some (.slice (some ⟨p2.k, 0, none⟩) 3 p2.ck) ∧ (w11.setCell ⟨p3.k, 2, none⟩ (.int .u32 0)).cell? ⟨p2.k, 2, none⟩ = some (.int .u32 0) := by
    obtain ⟨n1, n2, n3, n4, n5, n6, n7, n8⟩ := N4.out
    have ab := n4.b
    have kp : ∀ g j, g ≠ p3.k → (w11.setCell ⟨p3.k, 2, none⟩ (.int .u32 0)).cell? ⟨g, j, none⟩ = w11.cell? ⟨g, j, none⟩ := fun g j hg => World.cell?_of_block (w := w11) (Below.heap_setCell _ _ _ _ hg)
    exact ⟨(kp _ _ (by omega)).trans k3_6, (kp _ _ (by omega)).trans k2_6, (kp _ _ (by omega)).trans q2⟩
  refine hK _ _ ⟨hS', wpAnyH_done (by kernel_rfl) ?_ _⟩
  clear hK K hS hS'
  have H12 : Hid (S3 W (w11.setCell ⟨p3.k, 2, none⟩ (.int .u32 0)).drew g1 g2 g3 p1 p2 p3 L { L' with clock := L.clock }) := by
    obtain ⟨n1, n2, n3, n4, n5, n6, n7, n8⟩ := N4.out
    have ab := n4.b
    have an := n4.n
    have hs := H11.out
    have kp : ∀ g, g ≠ p3.k → (w11.setCell ⟨p3.k, 2, none⟩ (.int .u32 0)).drew.heap[g]? = w11.heap[g]? := fun g hg => Below.heap_setCell _ _ _ _ hg
    have cl : RowAt (w11.setCell ⟨p3.k, 2, none⟩ (.int .u32 0)).drew p3.k p3.ck L.clock := by
      have := hs.a3.clock.put 2 0
      rw [E.out.2.2.2.1] at this
      rw [E.out.2.2.1]
      exact row_keep this rfl
    have B3 : B13 (w11.setCell ⟨p3.k, 2, none⟩ (.int .u32 0)).drew g3 p3 L' := hs.b3.of (kp _ (by omega))
    refine ⟨hs.b1.of (kp _ (by omega)), hs.b2.of (kp _ (by omega)), ⟨B3.c0, B3.c1, B3.c2, B3.c3, B3.c4, B3.c5, ?_, B3.c7, B3.c8, B3.c9, B3.c10, B3.c11, B3.c12⟩, hs.a1.of fun g hg => kp g (by omega), hs.a2.of fun g hg => kp g (by omega), ⟨row_keep hs.a3.regs (kp _ (by omega)), row_keep hs.a3.csrs (kp _ (by omega)), cl, row_keep hs.a3.prio (kp _ (by omega)), row_keep hs.a3.enable (kp _ (by omega)), row_keep hs.a3.limit (kp _ (by omega))⟩, ?_⟩
    · show _ = some (Value.slice (some ⟨p3.k, 0, none⟩) L.clock.length p3.ck)
      have := B3.c6
      rw [E.out.2.2.2.1] at this
      rw [E.out.2.2.1]
      exact this
    · exact below_drawn (Below.setCell hs.bel (p := ⟨p3.k, 2, none⟩) (show W.heap.size ≤ p3.k by omega) _) 1
  clear q3 q2 k3_6 k2_6 fz
  generalize (w11.setCell ⟨p3.k, 2, none⟩ (.int .u32 0)).drew = w12 at H12 ⊢
  obtain ⟨k2_0, k2_1, k2_2, k2_3, k2_4, k2_5, k2_6, k2_7, k2_8, k2_9, k2_10, k2_11, k2_12⟩ := H12.out.b2
  obtain ⟨k3_0, k3_1, k3_2, k3_3, k3_4, k3_5, k3_6, k3_7, k3_8, k3_9, k3_10, k3_11, k3_12⟩ := H12.out.b3
  go_wp2_with fail
  refine (devices_true _ p2 p3 L { L' with clock := L.clock } H12.out.a2 H12.out.a3 rfl E.out.2.2.2.2.1 E.out.2.2.2.2.2.1 E.out.2.2.2.2.2.2.1 E.out.2.2.2.2.2.2.2.1 E.out.2.2.2.2.2.2.2.2.1 E.out.2.2.2.2.2.2.2.2.2.1).mono ?_
  rintro e w13 ⟨rfl, b13⟩
  have H13 : Hid (S3 W w13 g1 g2 g3 p1 p2 p3 L { L' with clock := L.clock }) := H12.out.below b13
  clear b13 k2_0 k2_1 k2_2 k2_3 k2_4 k2_5 k2_6 k2_7 k2_8 k2_9 k2_10 k2_11 k2_12 k3_0 k3_1 k3_2 k3_3 k3_4 k3_5 k3_6 k3_7 k3_8 k3_9 k3_10 k3_11 k3_12
  have q2 : w13.cell? ⟨p2.k, 2, none⟩ = some (.int .u32 0) := by have := H13.out.a2.clock.cell 2 (by rw [E.out.2.2.1]; decide); rw [E.out.2.2.1] at this; exact this
  have k2_6 := H13.out.b2.c6
  rw [E.out.2.2.1] at k2_6
  have k1_1 := H13.out.b1.c1
  have k1_2 := H13.out.b1.c2
  have k3_1 : w13.cell? ⟨g3, 1, none⟩ = some (.int .u32 L.pc) := by have := H13.out.b3.c1; rw [← E.out.2.2.2.2.2.2.2.2.2.2.1]; exact this
  have k3_2 : w13.cell? ⟨g3, 2, none⟩ = some (.int .i64 L.mode) := by have := H13.out.b3.c2; rw [← E.out.2.2.2.2.2.2.2.2.2.2.2.1]; exact this
  go_wp2
  go_ret
  exact ⟨rfl, H13.out.bel⟩
theorem stays_any (W : World) (size : Int) (img : ByteArray) (s : Int) (high : Bool) :
    Calls Try.prog 5 #[.int .i64 size, .string img, .int .i64 s, .bool high] W fun e W' => e = .returned (.bool true) ∧ Below W.heap.size W W' := by
  by_cases h1 : s < 1
  · exact stays_lt W size img s high h1
  by_cases h7 : 7 < s
  · exact stays_gt W size img s high h7
  exact stays_in W size img s high (by omega) (by omega)
end Go.Proofs.Yteiideeechnekaa
