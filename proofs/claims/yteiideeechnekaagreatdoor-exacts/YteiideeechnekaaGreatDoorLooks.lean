import Derived.Test.YteiideeechnekaaGreatDoorBase
/-
  hartlaw's small functions: words, spoil, spoilt: over rows of numbers.
-/
namespace Go.Proofs.YteiideeechnekaaGreatDoor
open Go.RowKit

theorem words_true (W : World) (g g' c c' : Nat) (xs : List Int) (h : RowAt W g c xs) (h' : RowAt W g' c' xs) :
    Calls Tryz.prog 70 #[.slice (some ⟨g, 0, none⟩) xs.length c, .slice (some ⟨g', 0, none⟩) xs.length c'] W fun e W' => e = .returned (.bool true) ∧ ∃ q, W' = W.drewN q := by
  obtain ⟨n, hn⟩ : ∃ n, n = xs.length := ⟨_, rfl⟩
  have hm : n ≤ maxLen := by obtain ⟨_, _, _, a, b, _⟩ := h; omega
  have HC : Hid (∀ i, i < n → W.cell? ⟨g, i, none⟩ = some (.int .u32 (xs.getD i 0))) := fun i hi => h.cell i (by omega)
  have HC' : Hid (∀ i, i < n → W.cell? ⟨g', i, none⟩ = some (.int .u32 (xs.getD i 0))) := fun i hi => h'.cell i (by omega)
  rw [← hn]
  clear h h' hn
  unfold maxLen at hm
  go_enter Tryz.func70, Tryz.ntmps70
  go_wp2
  go_loopw [5] (fun i wr => ∃ k q : Nat, k ≤ n ∧ i = .int .i64 k ∧ wr = W.drewN q) (fun i _ => n - (intOf i).toNat)
  case atStart => exact ⟨0, 0, Nat.zero_le _, rfl, rfl⟩
  case round =>
    obtain ⟨k, q, hk, rfl, rfl⟩ := hrel
    by_cases hlt : k < n
    · have c1 := HC.out k hlt
      have c2 := HC'.out k hlt
      have hi : (k : Int) < (n : Int) := by omega
      go_wp2
      go_quiet (fail)
      go_wp2
      go_roundw
      case rel => exact ⟨k + 1, _, by omega, by go_num, rfl⟩
      case measure => simp [intOf]; omega
    · go_wp2
      go_ret
      exact ⟨rfl, _, rfl⟩
end Go.Proofs.YteiideeechnekaaGreatDoor

/-
  hartlaw's spoil and spoilt.
-/
namespace Go.Proofs.YteiideeechnekaaGreatDoor
open Go.RowKit

def spv (v : Int) (j : Nat) : Int := (v + (j : Int)) % 4294967296
def SpoiltTo (W : World) (g cap : Nat) (v : Int) (k : Nat) : Prop :=
  ∃ cur : Array Value, W.heap[g]? = some (.cells cur 29 (0, 0)) ∧ cur.size = cap ∧ cap ≤ maxLen ∧ ∀ j, j < k → cur[j]? = some (.int .u32 (spv v j))
structure Only (g : Nat) (W W' : World) : Prop where
  os : W'.os = W.os
  tape : W'.tape = W.tape
  output : W'.output = W.output
  size : W'.heap.size = W.heap.size
  block : ∀ k, k ≠ g → W'.heap[k]? = W.heap[k]?
theorem Only.refl (g : Nat) (W : World) : Only g W W := ⟨rfl, rfl, rfl, rfl, fun _ _ => rfl⟩

theorem heap_setCell_at (w : World) (g k : Nat) (cur : Array Value) (t : TypeId) (fz : Nat × Nat) (h : w.heap[g]? = some (.cells cur t fz)) (x : Value) : (w.setCell ⟨g, k, none⟩ x).heap[g]? = some (.cells (cur.setIfInBounds k x) t fz) := by
  simp [World.setCell, Array.getElem?_modify, h]
theorem Only.setCell {g : Nat} {W W' : World} (h : Only g W W') (k : Nat) (x : Value) : Only g W (W'.setCell ⟨g, k, none⟩ x) :=
  ⟨h.os, h.tape, h.output, by simp [World.setCell, h.size], fun b hb => (Below.heap_setCell W' ⟨g, k, none⟩ x b hb).trans (h.block b hb)⟩
theorem spoilt_step {W : World} {g c : Nat} {v : Int} {k : Nat} {cur : Array Value} (h1 : W.heap[g]? = some (.cells cur 29 (0, 0))) (h2 : cur.size = c) (h3 : c ≤ maxLen) (h4 : ∀ j, j < k → cur[j]? = some (.int .u32 (spv v j))) (hk : k < c) :
    SpoiltTo (W.setCell ⟨g, k, none⟩ (.int .u32 ((v + (k : Int)) % 4294967296))) g c v (k + 1) := by
  refine ⟨_, heap_setCell_at W g k cur _ (0, 0) h1 _, by simp [h2], h3, fun j hj => ?_⟩
  by_cases e : j = k
  · subst e
    rw [Array.getElem?_setIfInBounds_self_of_lt (by omega)]; rfl
  · rw [Array.getElem?_setIfInBounds_ne (by omega)]
    exact h4 j (by omega)

theorem spoil_any (W : World) (g c n : Nat) (v : Int) (hn : n ≤ c) (h : SpoiltTo W g c v 0) :
    Calls Tryz.prog 71 #[.slice (some ⟨g, 0, none⟩) n c, .int .u32 v] W fun e W' => e = .returned (.tuple #[]) ∧ SpoiltTo W' g c v c ∧ Only g W W' := by
  have hm : c ≤ maxLen := by obtain ⟨_, _, _, a, _⟩ := h; exact a
  unfold maxLen at hm
  go_enter Tryz.func71, Tryz.ntmps71
  go_wp2
  go_loopw [5] (fun i wr => ∃ k : Nat, k ≤ c ∧ i = .int .i64 k ∧ SpoiltTo wr g c v k ∧ Only g W wr) (fun i _ => c - (intOf i).toNat)
  case atStart => exact ⟨0, Nat.zero_le _, rfl, h, Only.refl _ _⟩
  case round =>
    obtain ⟨k, hk, rfl, hs, ho⟩ := hrel
    by_cases hlt : k < c
    · obtain ⟨cur, h1, h2, h3, h4⟩ := hs
      have hi : (k : Int) < (c : Int) := by omega
      obtain ⟨old, c1⟩ : ∃ old, wr.cell? ⟨g, k, none⟩ = some old := ⟨_, (cell_of_row wr g k cur _ (0, 0) h1).trans (Array.getElem?_eq_getElem (by omega))⟩
      have f1 : wr.frozen? ⟨g, k, none⟩ = false := by simp [World.frozen?, h1]
      go_wp2
      go_roundw
      case rel => exact ⟨k + 1, by omega, by go_num, spoilt_step h1 h2 h3 h4 hlt, ho.setCell k _⟩
      case measure => simp [intOf]; omega
    · obtain rfl : k = c := by omega
      go_wp2
      go_end0
      exact ⟨rfl, hs, ho⟩

theorem spoilt_any (W : World) (g c n : Nat) (v : Int) (_hn : n ≤ c) (h : SpoiltTo W g c v c) :
    Calls Tryz.prog 72 #[.slice (some ⟨g, 0, none⟩) n c, .int .u32 v] W fun e W' => e = .returned (.bool true) ∧ W' = W := by
  obtain ⟨cur, h1, h2, h3, h4⟩ := h
  have hm := h3
  unfold maxLen at hm
  have HC : Hid (∀ j, j < c → W.cell? ⟨g, j, none⟩ = some (.int .u32 ((v + (j : Int)) % 4294967296))) := fun j hj => (cell_of_row W g j cur _ (0, 0) h1).trans (h4 j hj)
  clear h1 h2 h3 h4
  go_enter Tryz.func72, Tryz.ntmps72
  go_wp2
  go_loop [6] (fun i => ∃ k : Nat, k ≤ c ∧ i = .int .i64 k) (fun i => c - (intOf i).toNat)
  case atStart => exact ⟨0, Nat.zero_le _, rfl⟩
  case round =>
    obtain ⟨k, hk, rfl⟩ := hrel
    by_cases hlt : k < c
    · have c1 := HC.out k hlt
      have hi : (k : Int) < (c : Int) := by omega
      go_wp2
      go_round
      case rel => exact ⟨k + 1, by omega, by go_num⟩
      case measure => simp [intOf]; omega
    · go_wp2
      go_ret
      exact ⟨rfl, rfl⟩
end Go.Proofs.YteiideeechnekaaGreatDoor

/-
  hartlaw's same and owned, over states that lie in rows.
-/
namespace Go.Proofs.YteiideeechnekaaGreatDoor
open Go.RowKit

set_option maxHeartbeats 1000000 in
set_option maxRecDepth 100000 in
theorem same_true (W : World) (p p' : Pl) (st : LSt) (h : StAt W p st) (h' : StAt W p' st) :
    Calls Tryz.prog 34 #[.agg #[.slice (some ⟨p.r, 0, none⟩) st.regs.length p.cr, .int .u32 st.pc, .int .i64 st.mode, .bool st.asleep, .slice (some ⟨p.c, 0, none⟩) st.csrs.length p.cc, .string st.ram, .slice (some ⟨p.k, 0, none⟩) st.clock.length p.ck, .slice (some ⟨p.p, 0, none⟩) st.prio.length p.cp, .int .u32 st.pend, .int .u32 st.served, .int .u32 st.level, .slice (some ⟨p.e, 0, none⟩) st.enable.length p.ce, .slice (some ⟨p.l, 0, none⟩) st.limit.length p.cl], .agg #[.slice (some ⟨p'.r, 0, none⟩) st.regs.length p'.cr, .int .u32 st.pc, .int .i64 st.mode, .bool st.asleep, .slice (some ⟨p'.c, 0, none⟩) st.csrs.length p'.cc, .string st.ram, .slice (some ⟨p'.k, 0, none⟩) st.clock.length p'.ck, .slice (some ⟨p'.p, 0, none⟩) st.prio.length p'.cp, .int .u32 st.pend, .int .u32 st.served, .int .u32 st.level, .slice (some ⟨p'.e, 0, none⟩) st.enable.length p'.ce, .slice (some ⟨p'.l, 0, none⟩) st.limit.length p'.cl]] W fun e W' => e = .returned (.bool true) ∧ Below W.heap.size W W' := by
  have B0 := fun (o1 o2 : Obj) (q : Nat) => below_drawn (((Below.refl W.heap.size W).alloc (Nat.le_refl _) o1).alloc (by simp) o2) q
  have H := fun o1 o2 q => h.below (B0 o1 o2 q)
  have H' := fun o1 o2 q => h'.below (B0 o1 o2 q)
  have K : Hid (∀ o1 o2 q, StAt (((W.alloc o1).alloc o2).drewN q) p st) := H
  have K' : Hid (∀ o1 o2 q, StAt (((W.alloc o1).alloc o2).drewN q) p' st) := H'
  have KB : Hid (∀ o1 o2 q, Below W.heap.size W (((W.alloc o1).alloc o2).drewN q)) := B0
  clear H H' B0 h h'
  go_enter Tryz.func34, Tryz.ntmps34
  go_wp2_with fail
  refine (words_true _ p.r p'.r p.cr p'.cr st.regs (K.out _ _ 0).regs (K'.out _ _ 0).regs).mono ?_
  rintro e w' ⟨rfl, q0, rfl⟩
  go_wp2_with fail
  refine (words_true _ p.c p'.c p.cc p'.cc st.csrs (K.out _ _ _).csrs (K'.out _ _ _).csrs).mono ?_
  rintro e w' ⟨rfl, q1, rfl⟩
  go_wp2_with fail
  refine (words_true _ p.k p'.k p.ck p'.ck st.clock (K.out _ _ _).clock (K'.out _ _ _).clock).mono ?_
  rintro e w' ⟨rfl, q2, rfl⟩
  go_wp2_with fail
  refine (words_true _ p.p p'.p p.cp p'.cp st.prio (K.out _ _ _).prio (K'.out _ _ _).prio).mono ?_
  rintro e w' ⟨rfl, q3, rfl⟩
  go_wp2_with fail
  refine (words_true _ p.e p'.e p.ce p'.ce st.enable (K.out _ _ _).enable (K'.out _ _ _).enable).mono ?_
  rintro e w' ⟨rfl, q4, rfl⟩
  go_wp2_with fail
  refine (words_true _ p.l p'.l p.cl p'.cl st.limit (K.out _ _ _).limit (K'.out _ _ _).limit).mono ?_
  rintro e w' ⟨rfl, q5, rfl⟩
  go_wp2
  go_ret
  exact ⟨rfl, KB.out _ _ _⟩

theorem RowAt.spoil {W : World} {g cap : Nat} {xs : List Int} (h : RowAt W g cap xs) (v : Int) : SpoiltTo W g cap v 0 := by
  obtain ⟨cur, h1, h2, h3, h4, h5⟩ := h
  exact ⟨cur, h1, h2, h4, fun j hj => absurd hj (by omega)⟩
theorem RowAt.only {W W' : World} {g cap : Nat} {xs : List Int} (h : RowAt W g cap xs) {b : Nat} (ho : Only b W W') (hb : g ≠ b) : RowAt W' g cap xs := by
  obtain ⟨cur, h1, r⟩ := h
  exact ⟨cur, (ho.block g hb).trans h1, r⟩
theorem SpoiltTo.only {W W' : World} {g cap : Nat} {v : Int} {k : Nat} (h : SpoiltTo W g cap v k) {b : Nat} (ho : Only b W W') (hb : g ≠ b) : SpoiltTo W' g cap v k := by
  obtain ⟨cur, h1, r⟩ := h
  exact ⟨cur, (ho.block g hb).trans h1, r⟩
theorem Only.cell {W W' : World} {g : Nat} (ho : Only g W W') (b : Nat) (hb : b ≠ g) (j : Nat) : W'.cell? ⟨b, j, none⟩ = W.cell? ⟨b, j, none⟩ := World.cell?_of_block (w := W) (ho.block b hb)
theorem Only.below {W W' : World} {g B : Nat} (ho : Only g W W') (hb : B ≤ g) : Below B W W' := ⟨ho.os, ho.tape, ho.output, by rw [ho.size]; exact Nat.le_refl _, fun k hk => ho.block k (by omega)⟩

set_option maxHeartbeats 1000000 in
set_option maxRecDepth 100000 in
theorem owned_true (W : World) (B : Nat) (p : Pl) (st : LSt) (h : StAt W p st) (ap : p.Apart B) :
    Calls Tryz.prog 35 #[.agg #[.slice (some ⟨p.r, 0, none⟩) st.regs.length p.cr, .int .u32 st.pc, .int .i64 st.mode, .bool st.asleep, .slice (some ⟨p.c, 0, none⟩) st.csrs.length p.cc, .string st.ram, .slice (some ⟨p.k, 0, none⟩) st.clock.length p.ck, .slice (some ⟨p.p, 0, none⟩) st.prio.length p.cp, .int .u32 st.pend, .int .u32 st.served, .int .u32 st.level, .slice (some ⟨p.e, 0, none⟩) st.enable.length p.ce, .slice (some ⟨p.l, 0, none⟩) st.limit.length p.cl]] W fun e W' => e = .returned (.bool true) ∧ Below B W W' := by
  obtain ⟨⟨ar, ac, ak, ap', ae, al⟩, n1, n2, n3, n4, n5, n6, n7, n8, n9, n10, n11, n12, n13, n14, n15⟩ := ap
  have lr := h.regs.lt
  have lc := h.csrs.lt
  have lk := h.clock.lt
  have lp := h.prio.lt
  have le := h.enable.lt
  have ll := h.limit.lt
  have H := fun o1 => h.below ((Below.refl W.heap.size W).alloc (Nat.le_refl _) o1)
  have NR := h.regs.le
  have NC := h.csrs.le
  have NK := h.clock.le
  have NP := h.prio.le
  have NE := h.enable.le
  have NL := h.limit.le
  have K : Hid (∀ o1, StAt (W.alloc o1) p st) := H
  clear H h
  go_enter Tryz.func35, Tryz.ntmps35
  go_wp2_with fail
  refine (spoil_any _ p.r p.cr _ 1048576 NR ((K.out _).regs.spoil _)).mono ?_
  rintro e w1 ⟨rfl, s1, o1⟩
  have a1 := (K.out _).csrs.only o1 (by omega)
  have a2 := (K.out _).clock.only o1 (by omega)
  have a3 := (K.out _).prio.only o1 (by omega)
  have a4 := (K.out _).enable.only o1 (by omega)
  have a5 := (K.out _).limit.only o1 (by omega)
  have c1 := fun j => o1.cell W.heap.size (by omega) j
  have S1 := s1
  have O1 : Below B _ w1 := o1.below (by omega)
  go_wp2_with fail
  refine (spoil_any _ p.c p.cc _ 2097152 NC (a1.spoil _)).mono ?_
  rintro e w2 ⟨rfl, s2, o2⟩
  replace a2 := a2.only o2 (by omega)
  replace a3 := a3.only o2 (by omega)
  replace a4 := a4.only o2 (by omega)
  replace a5 := a5.only o2 (by omega)
  replace s1 := s1.only o2 (by omega)
  have c2 := fun j => o2.cell W.heap.size (by omega) j
  replace O1 := O1.trans (o2.below (by omega))
  go_wp2_with fail
  refine (spoil_any _ p.k p.ck _ 4194304 NK (a2.spoil _)).mono ?_
  rintro e w3 ⟨rfl, s3, o3⟩
  replace a3 := a3.only o3 (by omega)
  replace a4 := a4.only o3 (by omega)
  replace a5 := a5.only o3 (by omega)
  replace s1 := s1.only o3 (by omega)
  replace s2 := s2.only o3 (by omega)
  have c3 := fun j => o3.cell W.heap.size (by omega) j
  replace O1 := O1.trans (o3.below (by omega))
  go_wp2_with fail
  refine (spoil_any _ p.p p.cp _ 8388608 NP (a3.spoil _)).mono ?_
  rintro e w4 ⟨rfl, s4, o4⟩
  replace a4 := a4.only o4 (by omega)
  replace a5 := a5.only o4 (by omega)
  replace s1 := s1.only o4 (by omega)
  replace s2 := s2.only o4 (by omega)
  replace s3 := s3.only o4 (by omega)
  have c4 := fun j => o4.cell W.heap.size (by omega) j
  replace O1 := O1.trans (o4.below (by omega))
  go_wp2_with fail
  refine (spoil_any _ p.e p.ce _ 16777216 NE (a4.spoil _)).mono ?_
  rintro e w5 ⟨rfl, s5, o5⟩
  replace a5 := a5.only o5 (by omega)
  replace s1 := s1.only o5 (by omega)
  replace s2 := s2.only o5 (by omega)
  replace s3 := s3.only o5 (by omega)
  replace s4 := s4.only o5 (by omega)
  have c5 := fun j => o5.cell W.heap.size (by omega) j
  replace O1 := O1.trans (o5.below (by omega))
  go_wp2_with fail
  refine (spoil_any _ p.l p.cl _ 33554432 NL (a5.spoil _)).mono ?_
  rintro e w6 ⟨rfl, s6, o6⟩
  replace s1 := s1.only o6 (by omega)
  replace s2 := s2.only o6 (by omega)
  replace s3 := s3.only o6 (by omega)
  replace s4 := s4.only o6 (by omega)
  replace s5 := s5.only o6 (by omega)
  have c6 := fun j => o6.cell W.heap.size (by omega) j
  replace O1 := O1.trans (o6.below (by omega))
  go_wp2_with fail
  refine (spoilt_any _ p.r p.cr _ 1048576 NR s1).mono ?_
  rintro e w' ⟨rfl, rfl⟩
  go_wp2_with fail
  refine (spoilt_any _ p.c p.cc _ 2097152 NC s2).mono ?_
  rintro e w' ⟨rfl, rfl⟩
  go_wp2_with fail
  refine (spoilt_any _ p.k p.ck _ 4194304 NK s3).mono ?_
  rintro e w' ⟨rfl, rfl⟩
  go_wp2_with fail
  refine (spoilt_any _ p.p p.cp _ 8388608 NP s4).mono ?_
  rintro e w' ⟨rfl, rfl⟩
  go_wp2_with fail
  refine (spoilt_any _ p.e p.ce _ 16777216 NE s5).mono ?_
  rintro e w' ⟨rfl, rfl⟩
  go_wp2_with fail
  refine (spoilt_any _ p.l p.cl _ 33554432 NL s6).mono ?_
  rintro e w' ⟨rfl, rfl⟩
  go_wp2
  go_ret
  exact ⟨rfl, ((Below.refl B W).alloc (by omega) _).trans O1⟩

end Go.Proofs.YteiideeechnekaaGreatDoor

/-
  hartlaw's looks, over what the two Looks give.
-/
namespace Go.Proofs.YteiideeechnekaaGreatDoor
open Go.RowKit

set_option maxHeartbeats 1000000 in
set_option maxRecDepth 100000 in
theorem looks_of (W : World) (x r : Addr) (st : LSt)
    (HX : ∀ W', Below W.heap.size W W' → Calls Tryz.prog 20 #[.pointer (some x)] W' fun e W'' => ∃ p : Pl, e = .returned (.agg #[.slice (some ⟨p.r, 0, none⟩) st.regs.length p.cr, .int .u32 st.pc, .int .i64 st.mode, .bool st.asleep, .slice (some ⟨p.c, 0, none⟩) st.csrs.length p.cc, .string st.ram, .slice (some ⟨p.k, 0, none⟩) st.clock.length p.ck, .slice (some ⟨p.p, 0, none⟩) st.prio.length p.cp, .int .u32 st.pend, .int .u32 st.served, .int .u32 st.level, .slice (some ⟨p.e, 0, none⟩) st.enable.length p.ce, .slice (some ⟨p.l, 0, none⟩) st.limit.length p.cl]) ∧ StAt W'' p st ∧ p.Apart W'.heap.size ∧ Below W'.heap.size W' W'')
    (HR : Calls Tryz.prog 33 #[.pointer (some r)] W fun e W'' => ∃ p : Pl, e = .returned (.agg #[.slice (some ⟨p.r, 0, none⟩) st.regs.length p.cr, .int .u32 st.pc, .int .i64 st.mode, .bool st.asleep, .slice (some ⟨p.c, 0, none⟩) st.csrs.length p.cc, .string st.ram, .slice (some ⟨p.k, 0, none⟩) st.clock.length p.ck, .slice (some ⟨p.p, 0, none⟩) st.prio.length p.cp, .int .u32 st.pend, .int .u32 st.served, .int .u32 st.level, .slice (some ⟨p.e, 0, none⟩) st.enable.length p.ce, .slice (some ⟨p.l, 0, none⟩) st.limit.length p.cl]) ∧ StAt W'' p st ∧ Below W.heap.size W W'') :
    Calls Tryz.prog 13 #[.pointer (some x), .pointer (some r)] W fun e W' => e = .returned (.bool true) ∧ Below W.heap.size W W' := by
  go_enter Tryz.func13, Tryz.ntmps13
  go_wp2_with fail
  refine HR.mono ?_
  rintro e w1 ⟨p, rfl, st1, b1⟩
  have hs1 := b1.size
  have st1a := fun o => st1.below ((Below.refl w1.heap.size w1).alloc (Nat.le_refl _) o)
  have ST1 : Hid (∀ o, StAt (w1.alloc o) p st) := st1a
  have S1 : Hid (StAt w1 p st) := st1
  clear st1a st1
  go_wp2_with fail
  refine (HX _ (b1.alloc hs1 _)).mono ?_
  rintro e w2 ⟨q, rfl, st2, ap2, b2⟩
  have hs2 := b2.size
  simp at hs2
  have u2 := fun j => (bcell b2).1 w1.heap.size j (by simp)
  have u2a := (alloc_cell w2 w1.heap.size (by omega)).1
  have B2 := (b1.alloc hs1 _).trans (b2.mono (by simp; omega))
  have P2 := (ST1.out _).below b2
  have P2a : Hid (∀ o, StAt (w2.alloc o) p st) := fun o => P2.below ((Below.refl w2.heap.size w2).alloc (Nat.le_refl _) o)
  have Q2a : Hid (∀ o, StAt (w2.alloc o) q st) := fun o => st2.below ((Below.refl w2.heap.size w2).alloc (Nat.le_refl _) o)
  clear P2 st2
  go_wp2_with fail
  refine (same_true _ q p st (Q2a.out _) (P2a.out _)).mono ?_
  rintro e w3 ⟨rfl, b3⟩
  have hs3 := b3.size
  simp at hs3
  have v3 := fun j => (bcell b3).1 w1.heap.size j (by simp; omega)
  have t3 := fun j => (bcell b3).1 w2.heap.size j (by simp)
  have P3 := (P2a.out _).below b3
  have Q3 := (Q2a.out _).below b3
  have B3 := (B2.alloc (by omega) _).trans (b3.mono (by simp; omega))
  have Q3h : Hid (StAt w3 q st) := Q3
  have P3h : Hid (StAt w3 p st) := P3
  have AP : Hid (q.Apart (w1.heap.size + 1)) := by simpa [Hid] using ap2
  clear P3 Q3 ap2 P2a Q2a
  go_wp2_with fail
  refine (owned_true _ _ q st Q3h.out AP.out).mono ?_
  rintro e w4 ⟨rfl, b4⟩
  have hs4 := b4.size
  have P4 : Hid (StAt w4 p st) := S1.out.kept P3h.out b4 (by omega)
  have B4 := B3.trans (b4.mono (by omega))
  have v4 := fun j => b4.cell (p := ⟨w1.heap.size, j, none⟩) (by simp)
  clear Q3h P3h AP b4 b3
  go_wp2_with fail
  refine (HX _ B4).mono ?_
  rintro e w5 ⟨q', rfl, st5, ap5, b5⟩
  have hs5 := b5.size
  have v5 := fun j => (bcell b5).1 w1.heap.size j (by omega)
  have v5a := (alloc_cell w5 w1.heap.size (by omega)).1
  have B5 := B4.trans (b5.mono (by omega))
  have P5 := P4.out.below b5
  have P5a : Hid (∀ o, StAt (w5.alloc o) p st) := fun o => P5.below ((Below.refl w5.heap.size w5).alloc (Nat.le_refl _) o)
  have Q5a : Hid (∀ o, StAt (w5.alloc o) q' st) := fun o => st5.below ((Below.refl w5.heap.size w5).alloc (Nat.le_refl _) o)
  clear P5 st5 P4 ap5 b5
  go_wp2_with fail
  refine (same_true _ q' p st (Q5a.out _) (P5a.out _)).mono ?_
  rintro e w6 ⟨rfl, b6⟩
  go_wp2
  go_ret
  exact ⟨rfl, (B5.alloc (by omega) _).trans (b6.mono (by simp; omega))⟩
end Go.Proofs.YteiideeechnekaaGreatDoor
