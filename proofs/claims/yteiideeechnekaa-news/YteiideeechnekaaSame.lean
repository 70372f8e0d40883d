/-
  hartlaw's same and owned, over states that lie in rows.
-/
import Derived.Test.YteiideeechnekaaSpoil
namespace Go.Proofs.Yteiideeechnekaa
open Go.RowKit

set_option maxHeartbeats 1000000 in
set_option maxRecDepth 100000 in
theorem same_true (W : World) (p p' : Pl) (st : LSt) (h : StAt W p st) (h' : StAt W p' st) :
    Calls Try.prog 35 #[.agg #[.slice (some ⟨p.r, 0, none⟩) st.regs.length p.cr, .int .u32 st.pc, .int .i64 st.mode, .bool st.asleep, .slice (some ⟨p.c, 0, none⟩) st.csrs.length p.cc, .string st.ram, .slice (some ⟨p.k, 0, none⟩) st.clock.length p.ck, .slice (some ⟨p.p, 0, none⟩) st.prio.length p.cp, .int .u32 st.pend, .int .u32 st.served, .int .u32 st.level, .slice (some ⟨p.e, 0, none⟩) st.enable.length p.ce, .slice (some ⟨p.l, 0, none⟩) st.limit.length p.cl], .agg #[.slice (some ⟨p'.r, 0, none⟩) st.regs.length p'.cr, .int .u32 st.pc, .int .i64 st.mode, .bool st.asleep, .slice (some ⟨p'.c, 0, none⟩) st.csrs.length p'.cc, .string st.ram, .slice (some ⟨p'.k, 0, none⟩) st.clock.length p'.ck, .slice (some ⟨p'.p, 0, none⟩) st.prio.length p'.cp, .int .u32 st.pend, .int .u32 st.served, .int .u32 st.level, .slice (some ⟨p'.e, 0, none⟩) st.enable.length p'.ce, .slice (some ⟨p'.l, 0, none⟩) st.limit.length p'.cl]] W fun e W' => e = .returned (.bool true) ∧ Below W.heap.size W W' := by
  have B0 := fun (o1 o2 : Obj) (q : Nat) => below_drawn (((Below.refl W.heap.size W).alloc (Nat.le_refl _) o1).alloc (by simp) o2) q
  have H := fun o1 o2 q => h.below (B0 o1 o2 q)
  have H' := fun o1 o2 q => h'.below (B0 o1 o2 q)
  have K : Hid (∀ o1 o2 q, StAt (((W.alloc o1).alloc o2).drewN q) p st) := H
  have K' : Hid (∀ o1 o2 q, StAt (((W.alloc o1).alloc o2).drewN q) p' st) := H'
  have KB : Hid (∀ o1 o2 q, Below W.heap.size W (((W.alloc o1).alloc o2).drewN q)) := B0
  clear H H' B0 h h'
  go_enter Try.func35, Try.ntmps35
  go_wp2_with fail
  refine (words_true _ p.r p'.r p.cr p'.cr st.regs (K.out _ _ 0).regs (K'.out _ _ 0).regs).mono ?_
  rintro e w' ⟨rfl, q0, rfl⟩
  go_wp2_with fail
  refine (words_true _ p.c p'.c p.cc p'.cc st.csrs (K.out _ _ _).csrs (K'.out _ _ _).csrs).mono ?_
  rintro e w' ⟨rfl, q1, rfl⟩
  go_wp2_with fail
  refine (words_true _ p.k p'.k p.ck p'.ck st.clock (K.out _ _ _).clock (K'.out _ _ _).clock).mono ?_
  rintro e w' ⟨rfl, q2, rfl⟩
  go_wp2_with fail
  refine (words_true _ p.p p'.p p.cp p'.cp st.prio (K.out _ _ _).prio (K'.out _ _ _).prio).mono ?_
  rintro e w' ⟨rfl, q3, rfl⟩
  go_wp2_with fail
  refine (words_true _ p.e p'.e p.ce p'.ce st.enable (K.out _ _ _).enable (K'.out _ _ _).enable).mono ?_
  rintro e w' ⟨rfl, q4, rfl⟩
  go_wp2_with fail
  refine (words_true _ p.l p'.l p.cl p'.cl st.limit (K.out _ _ _).limit (K'.out _ _ _).limit).mono ?_
  rintro e w' ⟨rfl, q5, rfl⟩
  go_wp2
  go_ret
  exact ⟨rfl, KB.out _ _ _⟩

theorem RowAt.spoil {W : World} {g cap : Nat} {xs : List Int} (h : RowAt W g cap xs) (v : Int) : SpoiltTo W g cap v 0 := by
  obtain ⟨cur, h1, h2, h3, h4, h5⟩ := h
  exact ⟨cur, h1, h2, h4, fun j hj => absurd hj (by omega)⟩
theorem RowAt.only {W W' : World} {g cap : Nat} {xs : List Int} (h : RowAt W g cap xs) {b : Nat} (ho : Only b W W') (hb : g ≠ b) : RowAt W' g cap xs := by
  obtain ⟨cur, h1, r⟩ := h
  exact ⟨cur, (ho.block g hb).trans h1, r⟩
theorem SpoiltTo.only {W W' : World} {g cap : Nat} {v : Int} {k : Nat} (h : SpoiltTo W g cap v k) {b : Nat} (ho : Only b W W') (hb : g ≠ b) : SpoiltTo W' g cap v k := by
  obtain ⟨cur, h1, r⟩ := h
  exact ⟨cur, (ho.block g hb).trans h1, r⟩
theorem Only.cell {W W' : World} {g : Nat} (ho : Only g W W') (b : Nat) (hb : b ≠ g) (j : Nat) : W'.cell? ⟨b, j, none⟩ = W.cell? ⟨b, j, none⟩ := World.cell?_of_block (w := W) (ho.block b hb)
theorem Only.below {W W' : World} {g B : Nat} (ho : Only g W W') (hb : B ≤ g) : Below B W W' := ⟨ho.os, ho.tape, ho.output, by rw [ho.size]; exact Nat.le_refl _, fun k hk => ho.block k (by omega)⟩

set_option maxHeartbeats 1000000 in
set_option maxRecDepth 100000 in
theorem owned_true (W : World) (B : Nat) (p : Pl) (st : LSt) (h : StAt W p st) (ap : p.Apart B) :
    Calls Try.prog 36 #[.agg #[.slice (some ⟨p.r, 0, none⟩) st.regs.length p.cr, .int .u32 st.pc, .int .i64 st.mode, .bool st.asleep, .slice (some ⟨p.c, 0, none⟩) st.csrs.length p.cc, .string st.ram, .slice (some ⟨p.k, 0, none⟩) st.clock.length p.ck, .slice (some ⟨p.p, 0, none⟩) st.prio.length p.cp, .int .u32 st.pend, .int .u32 st.served, .int .u32 st.level, .slice (some ⟨p.e, 0, none⟩) st.enable.length p.ce, .slice (some ⟨p.l, 0, none⟩) st.limit.length p.cl]] W fun e W' => e = .returned (.bool true) ∧ Below B W W' := by
  obtain ⟨⟨ar, ac, ak, ap', ae, al⟩, n1, n2, n3, n4, n5, n6, n7, n8, n9, n10, n11, n12, n13, n14, n15⟩ := ap
  have lr := h.regs.lt
  have lc := h.csrs.lt
  have lk := h.clock.lt
  have lp := h.prio.lt
  have le := h.enable.lt
  have ll := h.limit.lt
  have H := fun o1 => h.below ((Below.refl W.heap.size W).alloc (Nat.le_refl _) o1)
  have NR := h.regs.le
  have NC := h.csrs.le
  have NK := h.clock.le
  have NP := h.prio.le
  have NE := h.enable.le
  have NL := h.limit.le
  have K : Hid (∀ o1, StAt (W.alloc o1) p st) := H
  clear H h
  go_enter Try.func36, Try.ntmps36
  go_wp2_with fail
  refine (spoil_any _ p.r p.cr _ 1048576 NR ((K.out _).regs.spoil _)).mono ?_
  rintro e w1 ⟨rfl, s1, o1⟩
  have a1 := (K.out _).csrs.only o1 (by omega)
  have a2 := (K.out _).clock.only o1 (by omega)
  have a3 := (K.out _).prio.only o1 (by omega)
  have a4 := (K.out _).enable.only o1 (by omega)
  have a5 := (K.out _).limit.only o1 (by omega)
  have c1 := fun j => o1.cell W.heap.size (by omega) j
  have S1 := s1
  have O1 : Below B _ w1 := o1.below (by omega)
  go_wp2_with fail
  refine (spoil_any _ p.c p.cc _ 2097152 NC (a1.spoil _)).mono ?_
  rintro e w2 ⟨rfl, s2, o2⟩
  replace a2 := a2.only o2 (by omega)
  replace a3 := a3.only o2 (by omega)
  replace a4 := a4.only o2 (by omega)
  replace a5 := a5.only o2 (by omega)
  replace s1 := s1.only o2 (by omega)
  have c2 := fun j => o2.cell W.heap.size (by omega) j
  replace O1 := O1.trans (o2.below (by omega))
  go_wp2_with fail
  refine (spoil_any _ p.k p.ck _ 4194304 NK (a2.spoil _)).mono ?_
  rintro e w3 ⟨rfl, s3, o3⟩
  replace a3 := a3.only o3 (by omega)
  replace a4 := a4.only o3 (by omega)
  replace a5 := a5.only o3 (by omega)
  replace s1 := s1.only o3 (by omega)
  replace s2 := s2.only o3 (by omega)
  have c3 := fun j => o3.cell W.heap.size (by omega) j
  replace O1 := O1.trans (o3.below (by omega))
  go_wp2_with fail
  refine (spoil_any _ p.p p.cp _ 8388608 NP (a3.spoil _)).mono ?_
  rintro e w4 ⟨rfl, s4, o4⟩
  replace a4 := a4.only o4 (by omega)
  replace a5 := a5.only o4 (by omega)
  replace s1 := s1.only o4 (by omega)
  replace s2 := s2.only o4 (by omega)
  replace s3 := s3.only o4 (by omega)
  have c4 := fun j => o4.cell W.heap.size (by omega) j
  replace O1 := O1.trans (o4.below (by omega))
  go_wp2_with fail
  refine (spoil_any _ p.e p.ce _ 16777216 NE (a4.spoil _)).mono ?_
  rintro e w5 ⟨rfl, s5, o5⟩
  replace a5 := a5.only o5 (by omega)
  replace s1 := s1.only o5 (by omega)
  replace s2 := s2.only o5 (by omega)
  replace s3 := s3.only o5 (by omega)
  replace s4 := s4.only o5 (by omega)
  have c5 := fun j => o5.cell W.heap.size (by omega) j
  replace O1 := O1.trans (o5.below (by omega))
  go_wp2_with fail
  refine (spoil_any _ p.l p.cl _ 33554432 NL (a5.spoil _)).mono ?_
  rintro e w6 ⟨rfl, s6, o6⟩
  replace s1 := s1.only o6 (by omega)
  replace s2 := s2.only o6 (by omega)
  replace s3 := s3.only o6 (by omega)
  replace s4 := s4.only o6 (by omega)
  replace s5 := s5.only o6 (by omega)
  have c6 := fun j => o6.cell W.heap.size (by omega) j
  replace O1 := O1.trans (o6.below (by omega))
  go_wp2_with fail
  refine (spoilt_any _ p.r p.cr _ 1048576 NR s1).mono ?_
  rintro e w' ⟨rfl, rfl⟩
  go_wp2_with fail
  refine (spoilt_any _ p.c p.cc _ 2097152 NC s2).mono ?_
  rintro e w' ⟨rfl, rfl⟩
  go_wp2_with fail
  refine (spoilt_any _ p.k p.ck _ 4194304 NK s3).mono ?_
  rintro e w' ⟨rfl, rfl⟩
  go_wp2_with fail
  refine (spoilt_any _ p.p p.cp _ 8388608 NP s4).mono ?_
  rintro e w' ⟨rfl, rfl⟩
  go_wp2_with fail
  refine (spoilt_any _ p.e p.ce _ 16777216 NE s5).mono ?_
  rintro e w' ⟨rfl, rfl⟩
  go_wp2_with fail
  refine (spoilt_any _ p.l p.cl _ 33554432 NL s6).mono ?_
  rintro e w' ⟨rfl, rfl⟩
  go_wp2
  go_ret
  exact ⟨rfl, ((Below.refl B W).alloc (by omega) _).trans O1⟩

end Go.Proofs.Yteiideeechnekaa
