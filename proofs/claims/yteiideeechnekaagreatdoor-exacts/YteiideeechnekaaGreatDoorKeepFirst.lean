import Derived.Test.YteiideeechnekaaGreatDoorKeepLaw
import Derived.Test.YteiideeechnekaaGreatDoorTrapPure
import Derived.Test.YteiideeechnekaaGreatDoorDevPure
/-
  hartkeep's set, wanted and first.
-/
namespace Go.Proofs.YteiideeechnekaaGreatDoor
open Go.RowKit

theorem kset_any (W : World) (v : Int) (k : Nat) (hk : (k : Int) < 32) :
    Calls Tryz.prog 51 #[.int .u32 v, .int .i64 k] W fun e W' => e = .returned (.bool (isB v k)) ∧ W' = W := by
  go_enter Tryz.func51, Tryz.ntmps51
  go_wp2
  go_ret
  exact ⟨rfl, rfl⟩
theorem kset_is (W : World) (v : Int) (k : Nat) (hk : (k : Int) < 32) (b : Bool) (h : isB v k = b) :
    Calls Tryz.prog 51 #[.int .u32 v, .int .i64 k] W fun e W' => e = .returned (.bool b) ∧ W' = W := by
  rw [← h]
  exact kset_any W v k hk
/-- P16: is interrupt i enabled, as a look tells it? -/
def wantV (mip mie mid ms mode : Int) (i : Nat) : Bool := isB mip i && isB mie i && (if isB mid i then (mode == 0 || (mode == 1 && isB ms 1)) else (mode != 3 || isB ms 3))
def wantL (L : LSt) (i : Nat) : Bool := wantV (L.csrs.getD 17 0) (L.csrs.getD 11 0) (L.csrs.getD 10 0) (L.csrs.getD 8 0) L.mode i
set_option maxHeartbeats 8000000 in
set_option maxRecDepth 100000 in
theorem wanted_any (W : World) (p : Pl) (L : LSt) (st : StAt W p L) (F : LFull L) (i : Nat) (hi : i < 12) :
    Calls Tryz.prog 50 #[.agg #[.slice (some ⟨p.r, 0, none⟩) L.regs.length p.cr, .int .u32 L.pc, .int .i64 L.mode, .bool L.asleep, .slice (some ⟨p.c, 0, none⟩) L.csrs.length p.cc, .string L.ram, .slice (some ⟨p.k, 0, none⟩) L.clock.length p.ck, .slice (some ⟨p.p, 0, none⟩) L.prio.length p.cp, .int .u32 L.pend, .int .u32 L.served, .int .u32 L.level, .slice (some ⟨p.e, 0, none⟩) L.enable.length p.ce, .slice (some ⟨p.l, 0, none⟩) L.limit.length p.cl], .int .i64 i] W fun e W' => e = .returned (.bool (wantL L i)) ∧ Below W.heap.size W W' := by
  have hB : Below W.heap.size W (W.alloc (.cells #[.slice (some ⟨p.r, 0, none⟩) L.regs.length p.cr, .int .u32 L.pc, .int .i64 L.mode, .bool L.asleep, .slice (some ⟨p.c, 0, none⟩) 19 p.cc, .string L.ram, .slice (some ⟨p.k, 0, none⟩) L.clock.length p.ck, .slice (some ⟨p.p, 0, none⟩) L.prio.length p.cp, .int .u32 L.pend, .int .u32 L.served, .int .u32 L.level, .slice (some ⟨p.e, 0, none⟩) L.enable.length p.ce, .slice (some ⟨p.l, 0, none⟩) L.limit.length p.cl] 48)) := (Below.refl _ _).alloc (Nat.le_refl _) _
  have HB : Hid (Below W.heap.size W (W.alloc (.cells #[.slice (some ⟨p.r, 0, none⟩) L.regs.length p.cr, .int .u32 L.pc, .int .i64 L.mode, .bool L.asleep, .slice (some ⟨p.c, 0, none⟩) 19 p.cc, .string L.ram, .slice (some ⟨p.k, 0, none⟩) L.clock.length p.ck, .slice (some ⟨p.p, 0, none⟩) L.prio.length p.cp, .int .u32 L.pend, .int .u32 L.served, .int .u32 L.level, .slice (some ⟨p.e, 0, none⟩) L.enable.length p.ce, .slice (some ⟨p.l, 0, none⟩) L.limit.length p.cl] 48))) := hB
  have st1 := st.below hB
  have cl := F.csrs
  have q2 : (W.alloc (.cells #[.slice (some ⟨p.r, 0, none⟩) L.regs.length p.cr, .int .u32 L.pc, .int .i64 L.mode, .bool L.asleep, .slice (some ⟨p.c, 0, none⟩) 19 p.cc, .string L.ram, .slice (some ⟨p.k, 0, none⟩) L.clock.length p.ck, .slice (some ⟨p.p, 0, none⟩) L.prio.length p.cp, .int .u32 L.pend, .int .u32 L.served, .int .u32 L.level, .slice (some ⟨p.e, 0, none⟩) L.enable.length p.ce, .slice (some ⟨p.l, 0, none⟩) L.limit.length p.cl] 48)).cell? ⟨W.heap.size, 2, none⟩ = some (.int .i64 L.mode) := (cell_of_row _ W.heap.size 2 _ _ (0, 0) (heap_alloc_new W _)).trans rfl
  have q4 : (W.alloc (.cells #[.slice (some ⟨p.r, 0, none⟩) L.regs.length p.cr, .int .u32 L.pc, .int .i64 L.mode, .bool L.asleep, .slice (some ⟨p.c, 0, none⟩) 19 p.cc, .string L.ram, .slice (some ⟨p.k, 0, none⟩) L.clock.length p.ck, .slice (some ⟨p.p, 0, none⟩) L.prio.length p.cp, .int .u32 L.pend, .int .u32 L.served, .int .u32 L.level, .slice (some ⟨p.e, 0, none⟩) L.enable.length p.ce, .slice (some ⟨p.l, 0, none⟩) L.limit.length p.cl] 48)).cell? ⟨W.heap.size, 4, none⟩ = some (.slice (some ⟨p.c, 0, none⟩) 19 p.cc) := (cell_of_row _ W.heap.size 4 _ _ (0, 0) (heap_alloc_new W _)).trans rfl
  have c8 := st1.csrs.cell 8 (by omega)
  have c10 := st1.csrs.cell 10 (by omega)
  have c11 := st1.csrs.cell 11 (by omega)
  have c17 := st1.csrs.cell 17 (by omega)
  have HW : wantL L i = wantV (L.csrs.getD 17 0) (L.csrs.getD 11 0) (L.csrs.getD 10 0) (L.csrs.getD 8 0) L.mode i := rfl
  generalize L.csrs.getD 8 0 = v8 at c8 HW
  generalize L.csrs.getD 10 0 = v10 at c10 HW
  generalize L.csrs.getD 11 0 = v11 at c11 HW
  generalize L.csrs.getD 17 0 = v17 at c17 HW
  generalize wantL L i = res at HW ⊢
  have hi' : (i : Int) < 32 := by omega
  unfold wantV at HW
  rw [cl]
  clear st st1 hB F hi cl
  go_enter Tryz.func50, Tryz.ntmps50
  go_wp2_with fail
  generalize W.alloc (.cells #[.slice (some ⟨p.r, 0, none⟩) L.regs.length p.cr, .int .u32 L.pc, .int .i64 L.mode, .bool L.asleep, .slice (some ⟨p.c, 0, none⟩) 19 p.cc, .string L.ram, .slice (some ⟨p.k, 0, none⟩) L.clock.length p.ck, .slice (some ⟨p.p, 0, none⟩) L.prio.length p.cp, .int .u32 L.pend, .int .u32 L.served, .int .u32 L.level, .slice (some ⟨p.e, 0, none⟩) L.enable.length p.ce, .slice (some ⟨p.l, 0, none⟩) L.limit.length p.cl] 48) = W1 at HB q2 q4 c8 c10 c11 c17 ⊢
  generalize W.heap.size = g at q2 q4 ⊢
  generalize L.mode = md at q2 HW ⊢
  cases h17 : isB v17 i
  · have S17 : Hid (∀ w, Calls Tryz.prog 51 #[.int .u32 v17, .int .i64 i] w fun e W' => e = .returned (.bool false) ∧ W' = w) := fun w => kset_is w v17 i hi' _ h17
    have HR : Hid (res = false) := by unfold Hid; rw [HW, h17]; simp
    clear HW
    refine (S17.out _).mono ?_
    rintro e w' ⟨rfl, hw⟩
    rw [hw]
    clear hw w'
    go_wp2_with fail
    go_ret
    exact ⟨by rw [HR.out]; rfl, HB.out⟩
  · cases h11 : isB v11 i
    · have S17 : Hid (∀ w, Calls Tryz.prog 51 #[.int .u32 v17, .int .i64 i] w fun e W' => e = .returned (.bool true) ∧ W' = w) := fun w => kset_is w v17 i hi' _ h17
      have S11 : Hid (∀ w, Calls Tryz.prog 51 #[.int .u32 v11, .int .i64 i] w fun e W' => e = .returned (.bool false) ∧ W' = w) := fun w => kset_is w v11 i hi' _ h11
      have HR : Hid (res = false) := by unfold Hid; rw [HW, h17, h11]; simp
      clear HW
      refine (S17.out _).mono ?_
      rintro e w' ⟨rfl, hw⟩
      rw [hw]
      clear hw w'
      go_wp2_with (first | (go_at_call_of 51 (Value.int .u32 v11); refine (S11.out _).mono ?_; rintro e w' ⟨rfl, hw⟩; rw [hw]; clear hw w'))
      go_ret
      exact ⟨by rw [HR.out]; rfl, HB.out⟩
    · cases h10 : isB v10 i
      · by_cases hm : md = 3
        · have hm' : (md != 3) = false := by simpa using hm
          clear hm
          cases h8 : isB v8 3
          · have S17 : Hid (∀ w, Calls Tryz.prog 51 #[.int .u32 v17, .int .i64 i] w fun e W' => e = .returned (.bool true) ∧ W' = w) := fun w => kset_is w v17 i hi' _ h17
            have S11 : Hid (∀ w, Calls Tryz.prog 51 #[.int .u32 v11, .int .i64 i] w fun e W' => e = .returned (.bool true) ∧ W' = w) := fun w => kset_is w v11 i hi' _ h11
            have S10 : Hid (∀ w, Calls Tryz.prog 51 #[.int .u32 v10, .int .i64 i] w fun e W' => e = .returned (.bool false) ∧ W' = w) := fun w => kset_is w v10 i hi' _ h10
            have S8 : Hid (∀ w, Calls Tryz.prog 51 #[.int .u32 v8, .int .i64 3] w fun e W' => e = .returned (.bool false) ∧ W' = w) := fun w => kset_is w v8 3 (by decide) _ h8
            have HR : Hid (res = false) := by unfold Hid; rw [HW, h17, h11, h10, h8, hm']; simp
            clear HW
            refine (S17.out _).mono ?_
            rintro e w' ⟨rfl, hw⟩
            rw [hw]
            clear hw w'
            go_wp2_with (first | (go_at_call_of 51 (Value.int .u32 v11); refine (S11.out _).mono ?_; rintro e w' ⟨rfl, hw⟩; rw [hw]; clear hw w') | (go_at_call_of 51 (Value.int .u32 v10); refine (S10.out _).mono ?_; rintro e w' ⟨rfl, hw⟩; rw [hw]; clear hw w') | (go_at_call_of 51 (Value.int .u32 v8); refine (S8.out _).mono ?_; rintro e w' ⟨rfl, hw⟩; rw [hw]; clear hw w'))
            go_ret
            exact ⟨by rw [HR.out]; rfl, HB.out⟩
          · have S17 : Hid (∀ w, Calls Tryz.prog 51 #[.int .u32 v17, .int .i64 i] w fun e W' => e = .returned (.bool true) ∧ W' = w) := fun w => kset_is w v17 i hi' _ h17
            have S11 : Hid (∀ w, Calls Tryz.prog 51 #[.int .u32 v11, .int .i64 i] w fun e W' => e = .returned (.bool true) ∧ W' = w) := fun w => kset_is w v11 i hi' _ h11
            have S10 : Hid (∀ w, Calls Tryz.prog 51 #[.int .u32 v10, .int .i64 i] w fun e W' => e = .returned (.bool false) ∧ W' = w) := fun w => kset_is w v10 i hi' _ h10
            have S8 : Hid (∀ w, Calls Tryz.prog 51 #[.int .u32 v8, .int .i64 3] w fun e W' => e = .returned (.bool true) ∧ W' = w) := fun w => kset_is w v8 3 (by decide) _ h8
            have HR : Hid (res = true) := by unfold Hid; rw [HW, h17, h11, h10, h8, hm']; simp
            clear HW
            refine (S17.out _).mono ?_
            rintro e w' ⟨rfl, hw⟩
            rw [hw]
            clear hw w'
            go_wp2_with (first | (go_at_call_of 51 (Value.int .u32 v11); refine (S11.out _).mono ?_; rintro e w' ⟨rfl, hw⟩; rw [hw]; clear hw w') | (go_at_call_of 51 (Value.int .u32 v10); refine (S10.out _).mono ?_; rintro e w' ⟨rfl, hw⟩; rw [hw]; clear hw w') | (go_at_call_of 51 (Value.int .u32 v8); refine (S8.out _).mono ?_; rintro e w' ⟨rfl, hw⟩; rw [hw]; clear hw w'))
            go_ret
            exact ⟨by rw [HR.out]; rfl, HB.out⟩
        · have hm' : (md != 3) = true := by simpa using hm
          clear hm
          have S17 : Hid (∀ w, Calls Tryz.prog 51 #[.int .u32 v17, .int .i64 i] w fun e W' => e = .returned (.bool true) ∧ W' = w) := fun w => kset_is w v17 i hi' _ h17
          have S11 : Hid (∀ w, Calls Tryz.prog 51 #[.int .u32 v11, .int .i64 i] w fun e W' => e = .returned (.bool true) ∧ W' = w) := fun w => kset_is w v11 i hi' _ h11
          have S10 : Hid (∀ w, Calls Tryz.prog 51 #[.int .u32 v10, .int .i64 i] w fun e W' => e = .returned (.bool false) ∧ W' = w) := fun w => kset_is w v10 i hi' _ h10
          have HR : Hid (res = true) := by unfold Hid; rw [HW, h17, h11, h10, hm']; simp
          clear HW
          refine (S17.out _).mono ?_
          rintro e w' ⟨rfl, hw⟩
          rw [hw]
          clear hw w'
          go_wp2_with (first | (go_at_call_of 51 (Value.int .u32 v11); refine (S11.out _).mono ?_; rintro e w' ⟨rfl, hw⟩; rw [hw]; clear hw w') | (go_at_call_of 51 (Value.int .u32 v10); refine (S10.out _).mono ?_; rintro e w' ⟨rfl, hw⟩; rw [hw]; clear hw w'))
          go_ret
          exact ⟨by rw [HR.out]; rfl, HB.out⟩
      · by_cases h0 : md = 0
        · have h0' : (md == 0) = true := by simpa using h0
          clear h0
          have S17 : Hid (∀ w, Calls Tryz.prog 51 #[.int .u32 v17, .int .i64 i] w fun e W' => e = .returned (.bool true) ∧ W' = w) := fun w => kset_is w v17 i hi' _ h17
          have S11 : Hid (∀ w, Calls Tryz.prog 51 #[.int .u32 v11, .int .i64 i] w fun e W' => e = .returned (.bool true) ∧ W' = w) := fun w => kset_is w v11 i hi' _ h11
          have S10 : Hid (∀ w, Calls Tryz.prog 51 #[.int .u32 v10, .int .i64 i] w fun e W' => e = .returned (.bool true) ∧ W' = w) := fun w => kset_is w v10 i hi' _ h10
          have HR : Hid (res = true) := by unfold Hid; rw [HW, h17, h11, h10, h0']; simp
          clear HW
          refine (S17.out _).mono ?_
          rintro e w' ⟨rfl, hw⟩
          rw [hw]
          clear hw w'
          go_wp2_with (first | (go_at_call_of 51 (Value.int .u32 v11); refine (S11.out _).mono ?_; rintro e w' ⟨rfl, hw⟩; rw [hw]; clear hw w') | (go_at_call_of 51 (Value.int .u32 v10); refine (S10.out _).mono ?_; rintro e w' ⟨rfl, hw⟩; rw [hw]; clear hw w'))
          go_ret
          exact ⟨by rw [HR.out]; rfl, HB.out⟩
        have h0' : (md == 0) = false := by simpa using h0
        clear h0
        by_cases h1 : md = 1
        · have h1' : (md == 1) = true := by simpa using h1
          clear h1
          cases h8 : isB v8 1
          · have S17 : Hid (∀ w, Calls Tryz.prog 51 #[.int .u32 v17, .int .i64 i] w fun e W' => e = .returned (.bool true) ∧ W' = w) := fun w => kset_is w v17 i hi' _ h17
            have S11 : Hid (∀ w, Calls Tryz.prog 51 #[.int .u32 v11, .int .i64 i] w fun e W' => e = .returned (.bool true) ∧ W' = w) := fun w => kset_is w v11 i hi' _ h11
            have S10 : Hid (∀ w, Calls Tryz.prog 51 #[.int .u32 v10, .int .i64 i] w fun e W' => e = .returned (.bool true) ∧ W' = w) := fun w => kset_is w v10 i hi' _ h10
            have S8 : Hid (∀ w, Calls Tryz.prog 51 #[.int .u32 v8, .int .i64 1] w fun e W' => e = .returned (.bool false) ∧ W' = w) := fun w => kset_is w v8 1 (by decide) _ h8
            have HR : Hid (res = false) := by unfold Hid; rw [HW, h17, h11, h10, h8, h0', h1']; simp
            clear HW
            refine (S17.out _).mono ?_
            rintro e w' ⟨rfl, hw⟩
            rw [hw]
            clear hw w'
            go_wp2_with (first | (go_at_call_of 51 (Value.int .u32 v11); refine (S11.out _).mono ?_; rintro e w' ⟨rfl, hw⟩; rw [hw]; clear hw w') | (go_at_call_of 51 (Value.int .u32 v10); refine (S10.out _).mono ?_; rintro e w' ⟨rfl, hw⟩; rw [hw]; clear hw w') | (go_at_call_of 51 (Value.int .u32 v8); refine (S8.out _).mono ?_; rintro e w' ⟨rfl, hw⟩; rw [hw]; clear hw w'))
            go_ret
            exact ⟨by rw [HR.out]; rfl, HB.out⟩
          · have S17 : Hid (∀ w, Calls Tryz.prog 51 #[.int .u32 v17, .int .i64 i] w fun e W' => e = .returned (.bool true) ∧ W' = w) := fun w => kset_is w v17 i hi' _ h17
            have S11 : Hid (∀ w, Calls Tryz.prog 51 #[.int .u32 v11, .int .i64 i] w fun e W' => e = .returned (.bool true) ∧ W' = w) := fun w => kset_is w v11 i hi' _ h11
            have S10 : Hid (∀ w, Calls Tryz.prog 51 #[.int .u32 v10, .int .i64 i] w fun e W' => e = .returned (.bool true) ∧ W' = w) := fun w => kset_is w v10 i hi' _ h10
            have S8 : Hid (∀ w, Calls Tryz.prog 51 #[.int .u32 v8, .int .i64 1] w fun e W' => e = .returned (.bool true) ∧ W' = w) := fun w => kset_is w v8 1 (by decide) _ h8
            have HR : Hid (res = true) := by unfold Hid; rw [HW, h17, h11, h10, h8, h0', h1']; simp
            clear HW
            refine (S17.out _).mono ?_
            rintro e w' ⟨rfl, hw⟩
            rw [hw]
            clear hw w'
            go_wp2_with (first | (go_at_call_of 51 (Value.int .u32 v11); refine (S11.out _).mono ?_; rintro e w' ⟨rfl, hw⟩; rw [hw]; clear hw w') | (go_at_call_of 51 (Value.int .u32 v10); refine (S10.out _).mono ?_; rintro e w' ⟨rfl, hw⟩; rw [hw]; clear hw w') | (go_at_call_of 51 (Value.int .u32 v8); refine (S8.out _).mono ?_; rintro e w' ⟨rfl, hw⟩; rw [hw]; clear hw w'))
            go_ret
            exact ⟨by rw [HR.out]; rfl, HB.out⟩
        · have h1' : (md == 1) = false := by simpa using h1
          clear h1
          have S17 : Hid (∀ w, Calls Tryz.prog 51 #[.int .u32 v17, .int .i64 i] w fun e W' => e = .returned (.bool true) ∧ W' = w) := fun w => kset_is w v17 i hi' _ h17
          have S11 : Hid (∀ w, Calls Tryz.prog 51 #[.int .u32 v11, .int .i64 i] w fun e W' => e = .returned (.bool true) ∧ W' = w) := fun w => kset_is w v11 i hi' _ h11
          have S10 : Hid (∀ w, Calls Tryz.prog 51 #[.int .u32 v10, .int .i64 i] w fun e W' => e = .returned (.bool true) ∧ W' = w) := fun w => kset_is w v10 i hi' _ h10
          have HR : Hid (res = false) := by unfold Hid; rw [HW, h17, h11, h10, h0', h1']; simp
          clear HW
          refine (S17.out _).mono ?_
          rintro e w' ⟨rfl, hw⟩
          rw [hw]
          clear hw w'
          go_wp2_with (first | (go_at_call_of 51 (Value.int .u32 v11); refine (S11.out _).mono ?_; rintro e w' ⟨rfl, hw⟩; rw [hw]; clear hw w') | (go_at_call_of 51 (Value.int .u32 v10); refine (S10.out _).mono ?_; rintro e w' ⟨rfl, hw⟩; rw [hw]; clear hw w'))
          go_ret
          exact ⟨by rw [HR.out]; rfl, HB.out⟩
end Go.Proofs.YteiideeechnekaaGreatDoor

/-
  hartkeep.first: what is to be taken.
-/
namespace Go.Proofs.YteiideeechnekaaGreatDoor
open Go.RowKit

/-- The box of a state. -/
structure B13 (w : World) (g : Nat) (p : Pl) (L : LSt) : Prop where
  c0 : w.cell? ⟨g, 0, none⟩ = some (.slice (some ⟨p.r, 0, none⟩) L.regs.length p.cr)
  c1 : w.cell? ⟨g, 1, none⟩ = some (.int .u32 L.pc)
  c2 : w.cell? ⟨g, 2, none⟩ = some (.int .i64 L.mode)
  c3 : w.cell? ⟨g, 3, none⟩ = some (.bool L.asleep)
  c4 : w.cell? ⟨g, 4, none⟩ = some (.slice (some ⟨p.c, 0, none⟩) L.csrs.length p.cc)
  c5 : w.cell? ⟨g, 5, none⟩ = some (.string L.ram)
  c6 : w.cell? ⟨g, 6, none⟩ = some (.slice (some ⟨p.k, 0, none⟩) L.clock.length p.ck)
  c7 : w.cell? ⟨g, 7, none⟩ = some (.slice (some ⟨p.p, 0, none⟩) L.prio.length p.cp)
  c8 : w.cell? ⟨g, 8, none⟩ = some (.int .u32 L.pend)
  c9 : w.cell? ⟨g, 9, none⟩ = some (.int .u32 L.served)
  c10 : w.cell? ⟨g, 10, none⟩ = some (.int .u32 L.level)
  c11 : w.cell? ⟨g, 11, none⟩ = some (.slice (some ⟨p.e, 0, none⟩) L.enable.length p.ce)
  c12 : w.cell? ⟨g, 12, none⟩ = some (.slice (some ⟨p.l, 0, none⟩) L.limit.length p.cl)
theorem B13.of {w w' : World} {g : Nat} {p : Pl} {L : LSt} (h : B13 w g p L) (e : w'.heap[g]? = w.heap[g]?) : B13 w' g p L := by
  have c : ∀ j, w'.cell? ⟨g, j, none⟩ = w.cell? ⟨g, j, none⟩ := fun j => World.cell?_of_block (w := w) e
  exact ⟨(c _).trans h.c0, (c _).trans h.c1, (c _).trans h.c2, (c _).trans h.c3, (c _).trans h.c4, (c _).trans h.c5, (c _).trans h.c6, (c _).trans h.c7, (c _).trans h.c8, (c _).trans h.c9, (c _).trans h.c10, (c _).trans h.c11, (c _).trans h.c12⟩
theorem B13.lt {w : World} {g : Nat} {p : Pl} {L : LSt} (h : B13 w g p L) : g < w.heap.size := World.block_lt_of_cell? w _ h.c0
theorem B13.below {w w' : World} {g : Nat} {p : Pl} {L : LSt} (h : B13 w g p L) (hb : Below w.heap.size w w') : B13 w' g p L := h.of (hb.block g h.lt)
theorem B13.new (w : World) (p : Pl) (L : LSt) : B13 (w.alloc (.cells #[.slice (some ⟨p.r, 0, none⟩) L.regs.length p.cr, .int .u32 L.pc, .int .i64 L.mode, .bool L.asleep, .slice (some ⟨p.c, 0, none⟩) L.csrs.length p.cc, .string L.ram, .slice (some ⟨p.k, 0, none⟩) L.clock.length p.ck, .slice (some ⟨p.p, 0, none⟩) L.prio.length p.cp, .int .u32 L.pend, .int .u32 L.served, .int .u32 L.level, .slice (some ⟨p.e, 0, none⟩) L.enable.length p.ce, .slice (some ⟨p.l, 0, none⟩) L.limit.length p.cl] 48)) w.heap.size p L := by
  have e := fun j => cell_of_row (w.alloc (.cells #[.slice (some ⟨p.r, 0, none⟩) L.regs.length p.cr, .int .u32 L.pc, .int .i64 L.mode, .bool L.asleep, .slice (some ⟨p.c, 0, none⟩) L.csrs.length p.cc, .string L.ram, .slice (some ⟨p.k, 0, none⟩) L.clock.length p.ck, .slice (some ⟨p.p, 0, none⟩) L.prio.length p.cp, .int .u32 L.pend, .int .u32 L.served, .int .u32 L.level, .slice (some ⟨p.e, 0, none⟩) L.enable.length p.ce, .slice (some ⟨p.l, 0, none⟩) L.limit.length p.cl] 48)) w.heap.size j _ _ (0, 0) (heap_alloc_new w _)
  exact ⟨(e 0).trans rfl, (e 1).trans rfl, (e 2).trans rfl, (e 3).trans rfl, (e 4).trans rfl, (e 5).trans rfl, (e 6).trans rfl, (e 7).trans rfl, (e 8).trans rfl, (e 9).trans rfl, (e 10).trans rfl, (e 11).trans rfl, (e 12).trans rfl⟩
theorem StAt.lt {w : World} {p : Pl} {L : LSt} (h : StAt w p L) : p.r < w.heap.size ∧ p.c < w.heap.size ∧ p.k < w.heap.size ∧ p.p < w.heap.size ∧ p.e < w.heap.size ∧ p.l < w.heap.size := ⟨h.regs.lt, h.csrs.lt, h.clock.lt, h.prio.lt, h.enable.lt, h.limit.lt⟩
theorem StAt.of {w w' : World} {p : Pl} {L : LSt} (h : StAt w p L) (e : ∀ g, g = p.r ∨ g = p.c ∨ g = p.k ∨ g = p.p ∨ g = p.e ∨ g = p.l → w'.heap[g]? = w.heap[g]?) : StAt w' p L :=
  ⟨row_keep h.regs (e _ (by simp)), row_keep h.csrs (e _ (by simp)), row_keep h.clock (e _ (by simp)), row_keep h.prio (e _ (by simp)), row_keep h.enable (e _ (by simp)), row_keep h.limit (e _ (by simp))⟩
def ordF : List Nat := [5, 1, 9, 7, 3, 11]
theorem ordF_lt (k : Nat) : ordF.getD k 0 < 12 := by
  match k with
  | 0 | 1 | 2 | 3 | 4 | 5 => decide
  | k + 6 => exact (by decide : (0 : Nat) < 12)
def pickF (L : LSt) (best : Int) (i : Nat) : Bool := wantL L i && (decide (best < 0) || !isB (L.csrs.getD 10 0) i || isB (L.csrs.getD 10 0) best.toNat)
def firstT (L : LSt) : Nat → Int
  | 0 => -1
  | k + 1 => if pickF L (firstT L k) (ordF.getD k 0) then ((ordF.getD k 0 : Nat) : Int) else firstT L k
theorem firstT_bd (L : LSt) : ∀ k, -1 ≤ firstT L k ∧ firstT L k ≤ 11 := by
  intro k
  induction k with
  | zero => exact ⟨Int.le_refl _, (by decide : (-1 : Int) ≤ 11)⟩
  | succ k ih =>
    unfold firstT
    have := ordF_lt k
    split
    · omega
    · exact ih
structure FInv (W w : World) (g o : Nat) (p : Pl) (L : LSt) : Prop where
  b : B13 w g p L
  s : StAt w p L
  o : ∀ k, k < 6 → w.cell? ⟨o, k, none⟩ = some (.int .i64 ((ordF.getD k 0 : Nat) : Int))
  bel : Below W.heap.size W w
theorem FInv.below {W w w' : World} {g o : Nat} {p : Pl} {L : LSt} (h : FInv W w g o p L) (hb : Below w.heap.size w w') : FInv W w' g o p L :=
  ⟨h.b.below hb, h.s.below hb, fun k hk => (hb.cell (p := ⟨o, k, none⟩) (World.block_lt_of_cell? w _ (h.o k hk))).trans (h.o k hk), h.bel.trans (hb.mono h.bel.size)⟩
theorem wanted_is (W : World) (p : Pl) (L : LSt) (st : StAt W p L) (F : LFull L) (i : Nat) (hi : i < 12) (b : Bool) (h : wantL L i = b) :
    Calls Tryz.prog 50 #[.agg #[.slice (some ⟨p.r, 0, none⟩) L.regs.length p.cr, .int .u32 L.pc, .int .i64 L.mode, .bool L.asleep, .slice (some ⟨p.c, 0, none⟩) L.csrs.length p.cc, .string L.ram, .slice (some ⟨p.k, 0, none⟩) L.clock.length p.ck, .slice (some ⟨p.p, 0, none⟩) L.prio.length p.cp, .int .u32 L.pend, .int .u32 L.served, .int .u32 L.level, .slice (some ⟨p.e, 0, none⟩) L.enable.length p.ce, .slice (some ⟨p.l, 0, none⟩) L.limit.length p.cl], .int .i64 i] W fun e W' => e = .returned (.bool b) ∧ Below W.heap.size W W' := by
  rw [← h]
  exact wanted_any W p L st F i hi
set_option maxHeartbeats 4000000 in
set_option maxRecDepth 100000 in
theorem first_any (W : World) (p : Pl) (L : LSt) (st : StAt W p L) (F : LFull L) :
    Calls Tryz.prog 22 #[.agg #[.slice (some ⟨p.r, 0, none⟩) L.regs.length p.cr, .int .u32 L.pc, .int .i64 L.mode, .bool L.asleep, .slice (some ⟨p.c, 0, none⟩) L.csrs.length p.cc, .string L.ram, .slice (some ⟨p.k, 0, none⟩) L.clock.length p.ck, .slice (some ⟨p.p, 0, none⟩) L.prio.length p.cp, .int .u32 L.pend, .int .u32 L.served, .int .u32 L.level, .slice (some ⟨p.e, 0, none⟩) L.enable.length p.ce, .slice (some ⟨p.l, 0, none⟩) L.limit.length p.cl]] W fun e W' => e = .returned (.int .i64 (firstT L 6)) ∧ Below W.heap.size W W' := by
  have b1 : Below W.heap.size W (W.alloc (.cells #[.slice (some ⟨p.r, 0, none⟩) L.regs.length p.cr, .int .u32 L.pc, .int .i64 L.mode, .bool L.asleep, .slice (some ⟨p.c, 0, none⟩) L.csrs.length p.cc, .string L.ram, .slice (some ⟨p.k, 0, none⟩) L.clock.length p.ck, .slice (some ⟨p.p, 0, none⟩) L.prio.length p.cp, .int .u32 L.pend, .int .u32 L.served, .int .u32 L.level, .slice (some ⟨p.e, 0, none⟩) L.enable.length p.ce, .slice (some ⟨p.l, 0, none⟩) L.limit.length p.cl] 48)) := (Below.refl _ _).alloc (Nat.le_refl _) _
  have b2 : Below (W.alloc (.cells #[.slice (some ⟨p.r, 0, none⟩) L.regs.length p.cr, .int .u32 L.pc, .int .i64 L.mode, .bool L.asleep, .slice (some ⟨p.c, 0, none⟩) L.csrs.length p.cc, .string L.ram, .slice (some ⟨p.k, 0, none⟩) L.clock.length p.ck, .slice (some ⟨p.p, 0, none⟩) L.prio.length p.cp, .int .u32 L.pend, .int .u32 L.served, .int .u32 L.level, .slice (some ⟨p.e, 0, none⟩) L.enable.length p.ce, .slice (some ⟨p.l, 0, none⟩) L.limit.length p.cl] 48)).heap.size (W.alloc (.cells #[.slice (some ⟨p.r, 0, none⟩) L.regs.length p.cr, .int .u32 L.pc, .int .i64 L.mode, .bool L.asleep, .slice (some ⟨p.c, 0, none⟩) L.csrs.length p.cc, .string L.ram, .slice (some ⟨p.k, 0, none⟩) L.clock.length p.ck, .slice (some ⟨p.p, 0, none⟩) L.prio.length p.cp, .int .u32 L.pend, .int .u32 L.served, .int .u32 L.level, .slice (some ⟨p.e, 0, none⟩) L.enable.length p.ce, .slice (some ⟨p.l, 0, none⟩) L.limit.length p.cl] 48)) ((W.alloc (.cells #[.slice (some ⟨p.r, 0, none⟩) L.regs.length p.cr, .int .u32 L.pc, .int .i64 L.mode, .bool L.asleep, .slice (some ⟨p.c, 0, none⟩) L.csrs.length p.cc, .string L.ram, .slice (some ⟨p.k, 0, none⟩) L.clock.length p.ck, .slice (some ⟨p.p, 0, none⟩) L.prio.length p.cp, .int .u32 L.pend, .int .u32 L.served, .int .u32 L.level, .slice (some ⟨p.e, 0, none⟩) L.enable.length p.ce, .slice (some ⟨p.l, 0, none⟩) L.limit.length p.cl] 48)).alloc (.cells #[.int .i64 5, .int .i64 1, .int .i64 9, .int .i64 7, .int .i64 3, .int .i64 11] 3)) := (Below.refl _ _).alloc (Nat.le_refl _) _
  have HF : Hid (FInv W ((W.alloc (.cells #[.slice (some ⟨p.r, 0, none⟩) L.regs.length p.cr, .int .u32 L.pc, .int .i64 L.mode, .bool L.asleep, .slice (some ⟨p.c, 0, none⟩) L.csrs.length p.cc, .string L.ram, .slice (some ⟨p.k, 0, none⟩) L.clock.length p.ck, .slice (some ⟨p.p, 0, none⟩) L.prio.length p.cp, .int .u32 L.pend, .int .u32 L.served, .int .u32 L.level, .slice (some ⟨p.e, 0, none⟩) L.enable.length p.ce, .slice (some ⟨p.l, 0, none⟩) L.limit.length p.cl] 48)).alloc (.cells #[.int .i64 5, .int .i64 1, .int .i64 9, .int .i64 7, .int .i64 3, .int .i64 11] 3)) W.heap.size (W.alloc (.cells #[.slice (some ⟨p.r, 0, none⟩) L.regs.length p.cr, .int .u32 L.pc, .int .i64 L.mode, .bool L.asleep, .slice (some ⟨p.c, 0, none⟩) L.csrs.length p.cc, .string L.ram, .slice (some ⟨p.k, 0, none⟩) L.clock.length p.ck, .slice (some ⟨p.p, 0, none⟩) L.prio.length p.cp, .int .u32 L.pend, .int .u32 L.served, .int .u32 L.level, .slice (some ⟨p.e, 0, none⟩) L.enable.length p.ce, .slice (some ⟨p.l, 0, none⟩) L.limit.length p.cl] 48)).heap.size p L) := by
    refine ⟨(B13.new W p L).below b2, (st.below b1).below b2, fun k hk => ?_, b1.trans (b2.mono b1.size)⟩
    refine (cell_of_row _ _ k _ _ (0, 0) (heap_alloc_new (W.alloc (.cells #[.slice (some ⟨p.r, 0, none⟩) L.regs.length p.cr, .int .u32 L.pc, .int .i64 L.mode, .bool L.asleep, .slice (some ⟨p.c, 0, none⟩) L.csrs.length p.cc, .string L.ram, .slice (some ⟨p.k, 0, none⟩) L.clock.length p.ck, .slice (some ⟨p.p, 0, none⟩) L.prio.length p.cp, .int .u32 L.pend, .int .u32 L.served, .int .u32 L.level, .slice (some ⟨p.e, 0, none⟩) L.enable.length p.ce, .slice (some ⟨p.l, 0, none⟩) L.limit.length p.cl] 48)) (.cells #[.int .i64 5, .int .i64 1, .int .i64 9, .int .i64 7, .int .i64 3, .int .i64 11] 3))).trans ?_
    match k, hk with
    | 0, _ | 1, _ | 2, _ | 3, _ | 4, _ | 5, _ => rfl
    | k + 6, hk => exact absurd hk (by omega)
  clear b1 b2 st
  go_enter Tryz.func22, Tryz.ntmps22
  go_wp2_with fail
  generalize (W.alloc (.cells #[.slice (some ⟨p.r, 0, none⟩) L.regs.length p.cr, .int .u32 L.pc, .int .i64 L.mode, .bool L.asleep, .slice (some ⟨p.c, 0, none⟩) L.csrs.length p.cc, .string L.ram, .slice (some ⟨p.k, 0, none⟩) L.clock.length p.ck, .slice (some ⟨p.p, 0, none⟩) L.prio.length p.cp, .int .u32 L.pend, .int .u32 L.served, .int .u32 L.level, .slice (some ⟨p.e, 0, none⟩) L.enable.length p.ce, .slice (some ⟨p.l, 0, none⟩) L.limit.length p.cl] 48)).alloc (.cells #[.int .i64 5, .int .i64 1, .int .i64 9, .int .i64 7, .int .i64 3, .int .i64 11] 3) = W1 at HF ⊢
  simp at HF
  generalize W.heap.size + 1 = o at HF ⊢
  go_loopw [3, 5] (fun bv kv wr => ∃ k : Nat, k ≤ 6 ∧ kv = .int .i64 k ∧ bv = .int .i64 (firstT L k) ∧ Hid (FInv W wr W.heap.size o p L)) (fun _ kv _ => 6 - (intOf kv).toNat)
  case atStart => exact ⟨0, by decide, rfl, rfl, HF⟩
  case round =>
    obtain ⟨k, hk, rfl, rfl, hF⟩ := hrel
    clear HF
    by_cases hlt : k < 6
    · have hlt' : (k : Int) < 6 := by omega
      have bd := firstT_bd L k
      have HN : Hid (firstT L (k + 1) = if pickF L (firstT L k) (ordF.getD k 0) then ((ordF.getD k 0 : Nat) : Int) else firstT L k) := rfl
      have HP : Hid (pickF L (firstT L k) (ordF.getD k 0) = (wantL L (ordF.getD k 0) && (decide (firstT L k < 0) || !isB (L.csrs.getD 10 0) (ordF.getD k 0) || isB (L.csrs.getD 10 0) (firstT L k).toNat))) := rfl
      have hi := ordF_lt k
      have co := hF.out.o k hlt
      generalize hv : L.csrs.getD 10 0 = v10 at HP
      generalize ordF.getD k 0 = i at HN HP hi co ⊢
      generalize firstT L k = m at HN HP bd ⊢
      obtain ⟨n0, n1, n2, n3, n4, n5, n6, n7, n8, n9, n10, n11, n12⟩ := hF.out.b
      generalize W.heap.size = g at hF n0 n1 n2 n3 n4 n5 n6 n7 n8 n9 n10 n11 n12 ⊢
      cases hw : wantL L i
      · go_wp2_with fail
        refine (wanted_is _ p L hF.out.s F i hi false hw).mono ?_
        rintro e w2 ⟨rfl, b2⟩
        have F2 : Hid (FInv W w2 g o p L) := hF.out.below b2
        clear b2 n0 n1 n2 n3 n4 n5 n6 n7 n8 n9 n10 n11 n12
        have q4 : w2.cell? ⟨g, 4, none⟩ = some (.slice (some ⟨p.c, 0, none⟩) 19 p.cc) := by have := F2.out.b.c4; rw [F.csrs] at this; exact this
        have c10 : w2.cell? ⟨p.c, 10, none⟩ = some (.int .u32 v10) := (F2.out.s.csrs.cell 10 (by rw [F.csrs]; decide)).trans (by rw [hv])
        clear hv
        have HT : Hid (firstT L (k + 1) = m) := by
          unfold Hid
          rw [HN.out, if_neg (by rw [HP.out, hw, Bool.false_and]; decide)]
        go_wp2_with fail
        go_roundw
        case rel => exact ⟨k + 1, by omega, by go_num, by rw [HT.out], F2⟩
        case measure => simp [intOf]; omega
      · go_wp2_with fail
        refine (wanted_is _ p L hF.out.s F i hi true hw).mono ?_
        rintro e w2 ⟨rfl, b2⟩
        have F2 : Hid (FInv W w2 g o p L) := hF.out.below b2
        clear b2 n0 n1 n2 n3 n4 n5 n6 n7 n8 n9 n10 n11 n12
        have q4 : w2.cell? ⟨g, 4, none⟩ = some (.slice (some ⟨p.c, 0, none⟩) 19 p.cc) := by have := F2.out.b.c4; rw [F.csrs] at this; exact this
        have c10 : w2.cell? ⟨p.c, 10, none⟩ = some (.int .u32 v10) := (F2.out.s.csrs.cell 10 (by rw [F.csrs]; decide)).trans (by rw [hv])
        clear hv
        by_cases hm : m < 0
        · have hm' : decide (m < 0) = true := decide_eq_true hm
          have HT : Hid (firstT L (k + 1) = i) := by
            unfold Hid
            rw [HN.out, if_pos (by rw [HP.out, hw, hm']; rfl)]
          go_wp2_with fail
          go_roundw
          case rel => exact ⟨k + 1, by omega, by go_num, by rw [HT.out], F2⟩
          case measure => simp [intOf]; omega
        have hm' : decide (m < 0) = false := decide_eq_false hm
        obtain ⟨mn, rfl⟩ : ∃ mn : Nat, m = mn := ⟨m.toNat, by omega⟩
        have hm9 : ¬ ((mn : Int) < 0) := hm
        rw [Int.toNat_natCast] at HP
        clear hm
        cases hSi : isB v10 i
        · have Si : Hid (∀ w, Calls Tryz.prog 51 #[.int .u32 v10, .int .i64 i] w fun e W' => e = .returned (.bool false) ∧ W' = w) := fun w => kset_is w v10 i (by omega) _ hSi
          have HT : Hid (firstT L (k + 1) = i) := by
            unfold Hid
            rw [HN.out, if_pos (by rw [HP.out, hw, hm', hSi]; rfl)]
          go_wp2_with (first | (go_at_call_of 51 (Value.int .i64 (i : Nat)); refine (Si.out _).mono ?_; rintro e w' ⟨rfl, hw⟩; rw [hw]; clear hw w'))
          go_roundw
          case rel => exact ⟨k + 1, by omega, by go_num, by rw [HT.out], F2⟩
          case measure => simp [intOf]; omega
        · cases hSm : isB v10 mn
          · have Si : Hid (∀ w, Calls Tryz.prog 51 #[.int .u32 v10, .int .i64 i] w fun e W' => e = .returned (.bool true) ∧ W' = w) := fun w => kset_is w v10 i (by omega) _ hSi
            have Sm : Hid (∀ w, Calls Tryz.prog 51 #[.int .u32 v10, .int .i64 mn] w fun e W' => e = .returned (.bool false) ∧ W' = w) := fun w => kset_is w v10 mn (by omega) _ hSm
            have HT : Hid (firstT L (k + 1) = mn) := by
              unfold Hid
              rw [HN.out, if_neg (by rw [HP.out, hw, hm', hSi, hSm]; decide)]
            go_wp2_with (first | (go_at_call_of 51 (Value.int .i64 (i : Nat)); refine (Si.out _).mono ?_; rintro e w' ⟨rfl, hw⟩; rw [hw]; clear hw w') | (go_at_call_of 51 (Value.int .i64 (mn : Nat)); refine (Sm.out _).mono ?_; rintro e w' ⟨rfl, hw⟩; rw [hw]; clear hw w'))
            go_roundw
            case rel => exact ⟨k + 1, by omega, by go_num, by rw [HT.out], F2⟩
            case measure => simp [intOf]; omega
          · have Si : Hid (∀ w, Calls Tryz.prog 51 #[.int .u32 v10, .int .i64 i] w fun e W' => e = .returned (.bool true) ∧ W' = w) := fun w => kset_is w v10 i (by omega) _ hSi
            have Sm : Hid (∀ w, Calls Tryz.prog 51 #[.int .u32 v10, .int .i64 mn] w fun e W' => e = .returned (.bool true) ∧ W' = w) := fun w => kset_is w v10 mn (by omega) _ hSm
            have HT : Hid (firstT L (k + 1) = i) := by
              unfold Hid
              rw [HN.out, if_pos (by rw [HP.out, hw, hm', hSi, hSm]; rfl)]
            go_wp2_with (first | (go_at_call_of 51 (Value.int .i64 (i : Nat)); refine (Si.out _).mono ?_; rintro e w' ⟨rfl, hw⟩; rw [hw]; clear hw w') | (go_at_call_of 51 (Value.int .i64 (mn : Nat)); refine (Sm.out _).mono ?_; rintro e w' ⟨rfl, hw⟩; rw [hw]; clear hw w'))
            go_roundw
            case rel => exact ⟨k + 1, by omega, by go_num, by rw [HT.out], F2⟩
            case measure => simp [intOf]; omega
    · obtain rfl : k = 6 := by omega
      have HB : Hid (Below W.heap.size W _) := hF.out.bel
      clear hF hlt
      go_wp2
      go_ret
      exact ⟨rfl, HB.out⟩
end Go.Proofs.YteiideeechnekaaGreatDoor
