/-
  hartlaw's looks, over what the two Looks give.
-/
import Derived.Test.YteiideeechnekaaSame
namespace Go.Proofs.Yteiideeechnekaa
open Go.RowKit

set_option maxHeartbeats 1000000 in
set_option maxRecDepth 100000 in
theorem looks_of (W : World) (x r : Addr) (st : LSt)
    (HX : ∀ W', Below W.heap.size W W' → Calls Try.prog 9 #[.pointer (some x)] W' fun e W'' => ∃ p : Pl, e = .returned (.agg #[.slice (some ⟨p.r, 0, none⟩) st.regs.length p.cr, .int .u32 st.pc, .int .i64 st.mode, .bool st.asleep, .slice (some ⟨p.c, 0, none⟩) st.csrs.length p.cc, .string st.ram, .slice (some ⟨p.k, 0, none⟩) st.clock.length p.ck, .slice (some ⟨p.p, 0, none⟩) st.prio.length p.cp, .int .u32 st.pend, .int .u32 st.served, .int .u32 st.level, .slice (some ⟨p.e, 0, none⟩) st.enable.length p.ce, .slice (some ⟨p.l, 0, none⟩) st.limit.length p.cl]) ∧ StAt W'' p st ∧ p.Apart W'.heap.size ∧ Below W'.heap.size W' W'')
    (HR : Calls Try.prog 34 #[.pointer (some r)] W fun e W'' => ∃ p : Pl, e = .returned (.agg #[.slice (some ⟨p.r, 0, none⟩) st.regs.length p.cr, .int .u32 st.pc, .int .i64 st.mode, .bool st.asleep, .slice (some ⟨p.c, 0, none⟩) st.csrs.length p.cc, .string st.ram, .slice (some ⟨p.k, 0, none⟩) st.clock.length p.ck, .slice (some ⟨p.p, 0, none⟩) st.prio.length p.cp, .int .u32 st.pend, .int .u32 st.served, .int .u32 st.level, .slice (some ⟨p.e, 0, none⟩) st.enable.length p.ce, .slice (some ⟨p.l, 0, none⟩) st.limit.length p.cl]) ∧ StAt W'' p st ∧ Below W.heap.size W W'') :
    Calls Try.prog 21 #[.pointer (some x), .pointer (some r)] W fun e W' => e = .returned (.bool true) ∧ Below W.heap.size W W' := by
  go_enter Try.func21, Try.ntmps21
  go_wp2_with fail
  refine HR.mono ?_
  rintro e w1 ⟨p, rfl, st1, b1⟩
  have hs1 := b1.size
  have st1a := fun o => st1.below ((Below.refl w1.heap.size w1).alloc (Nat.le_refl _) o)
  have ST1 : Hid (∀ o, StAt (w1.alloc o) p st) := st1a
  have S1 : Hid (StAt w1 p st) := st1
  clear st1a st1
  go_wp2_with fail
  refine (HX _ (b1.alloc hs1 _)).mono ?_
  rintro e w2 ⟨q, rfl, st2, ap2, b2⟩
  have hs2 := b2.size
  simp at hs2
  have u2 := fun j => (bcell b2).1 w1.heap.size j (by simp)
  have u2a := (alloc_cell w2 w1.heap.size (by omega)).1
  have B2 := (b1.alloc hs1 _).trans (b2.mono (by simp; omega))
  have P2 := (ST1.out _).below b2
  have P2a : Hid (∀ o, StAt (w2.alloc o) p st) := fun o => P2.below ((Below.refl w2.heap.size w2).alloc (Nat.le_refl _) o)
  have Q2a : Hid (∀ o, StAt (w2.alloc o) q st) := fun o => st2.below ((Below.refl w2.heap.size w2).alloc (Nat.le_refl _) o)
  clear P2 st2
  go_wp2_with fail
  refine (same_true _ q p st (Q2a.out _) (P2a.out _)).mono ?_
  rintro e w3 ⟨rfl, b3⟩
  have hs3 := b3.size
  simp at hs3
  have v3 := fun j => (bcell b3).1 w1.heap.size j (by simp; omega)
  have t3 := fun j => (bcell b3).1 w2.heap.size j (by simp)
  have P3 := (P2a.out _).below b3
  have Q3 := (Q2a.out _).below b3
  have B3 := (B2.alloc (by omega) _).trans (b3.mono (by simp; omega))
  have Q3h : Hid (StAt w3 q st) := Q3
  have P3h : Hid (StAt w3 p st) := P3
  have AP : Hid (q.Apart (w1.heap.size + 1)) := by simpa [Hid] using ap2
  clear P3 Q3 ap2 P2a Q2a
  go_wp2_with fail
  refine (owned_true _ _ q st Q3h.out AP.out).mono ?_
  rintro e w4 ⟨rfl, b4⟩
  have hs4 := b4.size
  have P4 : Hid (StAt w4 p st) := S1.out.kept P3h.out b4 (by omega)
  have B4 := B3.trans (b4.mono (by omega))
  have v4 := fun j => b4.cell (p := ⟨w1.heap.size, j, none⟩) (by simp)
  clear Q3h P3h AP b4 b3
  go_wp2_with fail
  refine (HX _ B4).mono ?_
  rintro e w5 ⟨q', rfl, st5, ap5, b5⟩
  have hs5 := b5.size
  have v5 := fun j => (bcell b5).1 w1.heap.size j (by omega)
  have v5a := (alloc_cell w5 w1.heap.size (by omega)).1
  have B5 := B4.trans (b5.mono (by omega))
  have P5 := P4.out.below b5
  have P5a : Hid (∀ o, StAt (w5.alloc o) p st) := fun o => P5.below ((Below.refl w5.heap.size w5).alloc (Nat.le_refl _) o)
  have Q5a : Hid (∀ o, StAt (w5.alloc o) q' st) := fun o => st5.below ((Below.refl w5.heap.size w5).alloc (Nat.le_refl _) o)
  clear P5 st5 P4 ap5 b5
  go_wp2_with fail
  refine (same_true _ q' p st (Q5a.out _) (P5a.out _)).mono ?_
  rintro e w6 ⟨rfl, b6⟩
  go_wp2
  go_ret
  exact ⟨rfl, (B5.alloc (by omega) _).trans (b6.mono (by simp; omega))⟩
end Go.Proofs.Yteiideeechnekaa
