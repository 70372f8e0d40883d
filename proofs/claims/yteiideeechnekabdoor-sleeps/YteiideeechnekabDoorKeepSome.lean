/-
  hartkeep's words, core and devices: some answer.
-/
import Derived.Test.YteiideeechnekabDoorKeepLaw
namespace Go.Proofs.YteiideeechnekabDoor
open Go.RowKit

theorem words_some (W : World) (g g' c c' : Nat) (xs ys : List Int) (h : RowAt W g c xs) (h' : RowAt W g' c' ys) (e : ys.length = xs.length) :
    Calls Tryd.prog 12 #[.slice (some ⟨g, 0, none⟩) xs.length c, .slice (some ⟨g', 0, none⟩) ys.length c'] W fun e W' => ∃ b : Bool, e = .returned (.bool b) ∧ ∃ q, W' = W.drewN q := by
  obtain ⟨n, hn⟩ : ∃ n, n = xs.length := ⟨_, rfl⟩
  have hm : n ≤ maxLen := by obtain ⟨_, _, _, a, b, _⟩ := h; omega
  have HC : Hid (∀ i, i < n → W.cell? ⟨g, i, none⟩ = some (.int .u32 (xs.getD i 0))) := fun i hi => h.cell i (by omega)
  have HC' : Hid (∀ i, i < n → W.cell? ⟨g', i, none⟩ = some (.int .u32 (ys.getD i 0))) := fun i hi => h'.cell i (by omega)
  rw [e, ← hn]
  clear h h' hn e
  unfold maxLen at hm
  go_enter Tryd.func12, Tryd.ntmps12
  go_wp2
  go_loopw [5] (fun i wr => ∃ k q : Nat, k ≤ n ∧ i = .int .i64 k ∧ wr = W.drewN q) (fun i _ => n - (intOf i).toNat)
  case atStart => exact ⟨0, 0, Nat.zero_le _, rfl, rfl⟩
  case round =>
    obtain ⟨k, q, hk, rfl, rfl⟩ := hrel
    by_cases hlt : k < n
    · have c1 := HC.out k hlt
      have c2 := HC'.out k hlt
      have hi : (k : Int) < (n : Int) := by omega
      generalize xs.getD k 0 = u at c1
      generalize ys.getD k 0 = v at c2
      cases hne : (u != v)
      · go_wp2
        go_quiet (fail)
        go_wp2
        go_roundw
        case rel => exact ⟨k + 1, _, by omega, by go_num, rfl⟩
        case measure => simp [intOf]; omega
      · go_wp2
        go_quiet (fail)
        go_wp2
        go_ret
        exact ⟨false, rfl, _, drewN_two _ _ _⟩
    · go_wp2
      go_ret
      exact ⟨true, rfl, _, rfl⟩
set_option maxHeartbeats 1000000 in
set_option maxRecDepth 100000 in
theorem core_some (W : World) (p p' : Pl) (L L' : LSt) (h : StAt W p L) (h' : StAt W p' L') (F : LFull L) (F' : LFull L') :
    Calls Tryd.prog 10 #[.agg #[.slice (some ⟨p.r, 0, none⟩) L.regs.length p.cr, .int .u32 L.pc, .int .i64 L.mode, .bool L.asleep, .slice (some ⟨p.c, 0, none⟩) L.csrs.length p.cc, .string L.ram, .slice (some ⟨p.k, 0, none⟩) L.clock.length p.ck, .slice (some ⟨p.p, 0, none⟩) L.prio.length p.cp, .int .u32 L.pend, .int .u32 L.served, .int .u32 L.level, .slice (some ⟨p.e, 0, none⟩) L.enable.length p.ce, .slice (some ⟨p.l, 0, none⟩) L.limit.length p.cl], .agg #[.slice (some ⟨p'.r, 0, none⟩) L'.regs.length p'.cr, .int .u32 L'.pc, .int .i64 L'.mode, .bool L'.asleep, .slice (some ⟨p'.c, 0, none⟩) L'.csrs.length p'.cc, .string L'.ram, .slice (some ⟨p'.k, 0, none⟩) L'.clock.length p'.ck, .slice (some ⟨p'.p, 0, none⟩) L'.prio.length p'.cp, .int .u32 L'.pend, .int .u32 L'.served, .int .u32 L'.level, .slice (some ⟨p'.e, 0, none⟩) L'.enable.length p'.ce, .slice (some ⟨p'.l, 0, none⟩) L'.limit.length p'.cl]] W fun e W' => ∃ b : Bool, e = .returned (.bool b) ∧ Below W.heap.size W W' := by
  have B0 := fun (o1 o2 : Obj) (q : Nat) => below_drawn (((Below.refl W.heap.size W).alloc (Nat.le_refl _) o1).alloc (by simp) o2) q
  have K : Hid (∀ o1 o2 q, StAt (((W.alloc o1).alloc o2).drewN q) p L) := fun o1 o2 q => h.below (B0 o1 o2 q)
  have K' : Hid (∀ o1 o2 q, StAt (((W.alloc o1).alloc o2).drewN q) p' L') := fun o1 o2 q => h'.below (B0 o1 o2 q)
  have KB : Hid (∀ o1 o2 q, Below W.heap.size W (((W.alloc o1).alloc o2).drewN q)) := B0
  have HF : Hid (LFull L ∧ LFull L') := ⟨F, F'⟩
  clear B0 h h' F F'
  go_enter Tryd.func10, Tryd.ntmps10
  go_wp2_with fail
  refine (words_some _ p.r p'.r p.cr p'.cr L.regs L'.regs (K.out _ _ 0).regs (K'.out _ _ 0).regs (by rw [HF.out.1.regs, HF.out.2.regs])).mono ?_
  rintro e w' ⟨r0, rfl, q0, rfl⟩
  cases r0
  · go_wp2
    go_ret
    exact ⟨_, rfl, KB.out _ _ _⟩
  · go_wp2
    go_ret
    exact ⟨_, rfl, KB.out _ _ _⟩
set_option maxHeartbeats 1000000 in
set_option maxRecDepth 100000 in
theorem devices_some (W : World) (p p' : Pl) (L L' : LSt) (h : StAt W p L) (h' : StAt W p' L') (F : LFull L) (F' : LFull L') :
    Calls Tryd.prog 11 #[.agg #[.slice (some ⟨p.r, 0, none⟩) L.regs.length p.cr, .int .u32 L.pc, .int .i64 L.mode, .bool L.asleep, .slice (some ⟨p.c, 0, none⟩) L.csrs.length p.cc, .string L.ram, .slice (some ⟨p.k, 0, none⟩) L.clock.length p.ck, .slice (some ⟨p.p, 0, none⟩) L.prio.length p.cp, .int .u32 L.pend, .int .u32 L.served, .int .u32 L.level, .slice (some ⟨p.e, 0, none⟩) L.enable.length p.ce, .slice (some ⟨p.l, 0, none⟩) L.limit.length p.cl], .agg #[.slice (some ⟨p'.r, 0, none⟩) L'.regs.length p'.cr, .int .u32 L'.pc, .int .i64 L'.mode, .bool L'.asleep, .slice (some ⟨p'.c, 0, none⟩) L'.csrs.length p'.cc, .string L'.ram, .slice (some ⟨p'.k, 0, none⟩) L'.clock.length p'.ck, .slice (some ⟨p'.p, 0, none⟩) L'.prio.length p'.cp, .int .u32 L'.pend, .int .u32 L'.served, .int .u32 L'.level, .slice (some ⟨p'.e, 0, none⟩) L'.enable.length p'.ce, .slice (some ⟨p'.l, 0, none⟩) L'.limit.length p'.cl]] W fun e W' => ∃ b : Bool, e = .returned (.bool b) ∧ Below W.heap.size W W' := by
  have B0 := fun (o1 o2 : Obj) (q : Nat) => below_drawn (((Below.refl W.heap.size W).alloc (Nat.le_refl _) o1).alloc (by simp) o2) q
  have K : Hid (∀ o1 o2 q, StAt (((W.alloc o1).alloc o2).drewN q) p L) := fun o1 o2 q => h.below (B0 o1 o2 q)
  have K' : Hid (∀ o1 o2 q, StAt (((W.alloc o1).alloc o2).drewN q) p' L') := fun o1 o2 q => h'.below (B0 o1 o2 q)
  have KB : Hid (∀ o1 o2 q, Below W.heap.size W (((W.alloc o1).alloc o2).drewN q)) := B0
  have HF : Hid (LFull L ∧ LFull L') := ⟨F, F'⟩
  clear B0 h h' F F'
  go_enter Tryd.func11, Tryd.ntmps11
  go_wp2_with fail
  refine (words_some _ p.k p'.k p.ck p'.ck L.clock L'.clock (K.out _ _ 0).clock (K'.out _ _ 0).clock (by rw [HF.out.1.clock, HF.out.2.clock])).mono ?_
  rintro e w' ⟨r0, rfl, q0, rfl⟩
  go_wp2_with fail
  refine (words_some _ p.p p'.p p.cp p'.cp L.prio L'.prio (K.out _ _ _).prio (K'.out _ _ _).prio (by rw [HF.out.1.prio, HF.out.2.prio])).mono ?_
  rintro e w' ⟨r1, rfl, q1, rfl⟩
  go_wp2_with fail
  refine (words_some _ p.e p'.e p.ce p'.ce L.enable L'.enable (K.out _ _ _).enable (K'.out _ _ _).enable (by rw [HF.out.1.enable, HF.out.2.enable])).mono ?_
  rintro e w' ⟨r2, rfl, q2, rfl⟩
  go_wp2_with fail
  refine (words_some _ p.l p'.l p.cl p'.cl L.limit L'.limit (K.out _ _ _).limit (K'.out _ _ _).limit (by rw [HF.out.1.limit, HF.out.2.limit])).mono ?_
  rintro e w' ⟨r3, rfl, q3, rfl⟩
  cases r0
  · go_wp2
    go_ret
    exact ⟨_, rfl, KB.out _ _ _⟩
  · cases r1
    · go_wp2
      go_ret
      exact ⟨_, rfl, KB.out _ _ _⟩
    · cases r2
      · go_wp2
        go_ret
        exact ⟨_, rfl, KB.out _ _ _⟩
      · cases r3
        · go_wp2
          go_ret
          exact ⟨_, rfl, KB.out _ _ _⟩
        · cases h_pend : (L.pend == L'.pend)
          · go_wp2
            go_ret
            exact ⟨_, rfl, KB.out _ _ _⟩
          · cases h_served : (L.served == L'.served)
            · go_wp2
              go_ret
              exact ⟨_, rfl, KB.out _ _ _⟩
            · go_wp2
              go_ret
              exact ⟨_, rfl, KB.out _ _ _⟩
end Go.Proofs.YteiideeechnekabDoor
