/-
  hartkeep's set, wanted and first.
-/
import Derived.Test.YteiideeechnekabDoorKeepLaw
import Derived.Test.YteiideeechnekabDoorPure
namespace Go.Proofs.YteiideeechnekabDoor
open Go.RowKit

theorem kset_any (W : World) (v : Int) (k : Nat) (hk : (k : Int) < 32) :
    Calls Tryd.prog 26 #[.int .u32 v, .int .i64 k] W fun e W' => e = .returned (.bool (isB v k)) ∧ W' = W := by
  go_enter Tryd.func26, Tryd.ntmps26
  go_wp2
  go_ret
  exact ⟨rfl, rfl⟩
theorem kset_is (W : World) (v : Int) (k : Nat) (hk : (k : Int) < 32) (b : Bool) (h : isB v k = b) :
    Calls Tryd.prog 26 #[.int .u32 v, .int .i64 k] W fun e W' => e = .returned (.bool b) ∧ W' = W := by
  rw [← h]
  exact kset_any W v k hk
/-- P16: is interrupt i enabled, as a look tells it? -/
def wantV (mip mie mid ms mode : Int) (i : Nat) : Bool := isB mip i && isB mie i && (if isB mid i then (mode == 0 || (mode == 1 && isB ms 1)) else (mode != 3 || isB ms 3))
def wantL (L : LSt) (i : Nat) : Bool := wantV (L.csrs.getD 17 0) (L.csrs.getD 11 0) (L.csrs.getD 10 0) (L.csrs.getD 8 0) L.mode i
set_option maxHeartbeats 8000000 in
set_option maxRecDepth 100000 in
theorem wanted_any (W : World) (p : Pl) (L : LSt) (st : StAt W p L) (F : LFull L) (i : Nat) (hi : i < 12) :
    Calls Tryd.prog 25 #[.agg #[.slice (some ⟨p.r, 0, none⟩) L.regs.length p.cr, .int .u32 L.pc, .int .i64 L.mode, .bool L.asleep, .slice (some ⟨p.c, 0, none⟩) L.csrs.length p.cc, .string L.ram, .slice (some ⟨p.k, 0, none⟩) L.clock.length p.ck, .slice (some ⟨p.p, 0, none⟩) L.prio.length p.cp, .int .u32 L.pend, .int .u32 L.served, .int .u32 L.level, .slice (some ⟨p.e, 0, none⟩) L.enable.length p.ce, .slice (some ⟨p.l, 0, none⟩) L.limit.length p.cl], .int .i64 i] W fun e W' => e = .returned (.bool (wantL L i)) ∧ Below W.heap.size W W' := by
  have hB : Below W.heap.size W (W.alloc (.cells #[.slice (some ⟨p.r, 0, none⟩) L.regs.length p.cr, .int .u32 L.pc, .int .i64 L.mode, .bool L.asleep, .slice (some ⟨p.c, 0, none⟩) 19 p.cc, .string L.ram, .slice (some ⟨p.k, 0, none⟩) L.clock.length p.ck, .slice (some ⟨p.p, 0, none⟩) L.prio.length p.cp, .int .u32 L.pend, .int .u32 L.served, .int .u32 L.level, .slice (some ⟨p.e, 0, none⟩) L.enable.length p.ce, .slice (some ⟨p.l, 0, none⟩) L.limit.length p.cl] 31)) := (Below.refl _ _).alloc (Nat.le_refl _) _
  have HB : Hid (Below W.heap.size W (W.alloc (.cells #[.slice (some ⟨p.r, 0, none⟩) L.regs.length p.cr, .int .u32 L.pc, .int .i64 L.mode, .bool L.asleep, .slice (some ⟨p.c, 0, none⟩) 19 p.cc, .string L.ram, .slice (some ⟨p.k, 0, none⟩) L.clock.length p.ck, .slice (some ⟨p.p, 0, none⟩) L.prio.length p.cp, .int .u32 L.pend, .int .u32 L.served, .int .u32 L.level, .slice (some ⟨p.e, 0, none⟩) L.enable.length p.ce, .slice (some ⟨p.l, 0, none⟩) L.limit.length p.cl] 31))) := hB
  have st1 := st.below hB
  have cl := F.csrs
  have q2 : (W.alloc (.cells #[.slice (some ⟨p.r, 0, none⟩) L.regs.length p.cr, .int .u32 L.pc, .int .i64 L.mode, .bool L.asleep, .slice (some ⟨p.c, 0, none⟩) 19 p.cc, .string L.ram, .slice (some ⟨p.k, 0, none⟩) L.clock.length p.ck, .slice (some ⟨p.p, 0, none⟩) L.prio.length p.cp, .int .u32 L.pend, .int .u32 L.served, .int .u32 L.level, .slice (some ⟨p.e, 0, none⟩) L.enable.length p.ce, .slice (some ⟨p.l, 0, none⟩) L.limit.length p.cl] 31)).cell? ⟨W.heap.size, 2, none⟩ = some (.int .i64 L.mode) := (cell_of_row _ W.heap.size 2 _ _ (0, 0) (heap_alloc_new W _)).trans rfl
  have q4 : (W.alloc (.cells #[.slice (some ⟨p.r, 0, none⟩) L.regs.length p.cr, .int .u32 L.pc, .int .i64 L.mode, .bool L.asleep, .slice (some ⟨p.c, 0, none⟩) 19 p.cc, .string L.ram, .slice (some ⟨p.k, 0, none⟩) L.clock.length p.ck, .slice (some ⟨p.p, 0, none⟩) L.prio.length p.cp, .int .u32 L.pend, .int .u32 L.served, .int .u32 L.level, .slice (some ⟨p.e, 0, none⟩) L.enable.length p.ce, .slice (some ⟨p.l, 0, none⟩) L.limit.length p.cl] 31)).cell? ⟨W.heap.size, 4, none⟩ = some (.slice (some ⟨p.c, 0, none⟩) 19 p.cc) := (cell_of_row _ W.heap.size 4 _ _ (0, 0) (heap_alloc_new W _)).trans rfl
  have c8 := st1.csrs.cell 8 (by omega)
  have c10 := st1.csrs.cell 10 (by omega)
  have c11 := st1.csrs.cell 11 (by omega)
  have c17 := st1.csrs.cell 17 (by omega)
  have HW : wantL L i = wantV (L.csrs.getD 17 0) (L.csrs.getD 11 0) (L.csrs.getD 10 0) (L.csrs.getD 8 0) L.mode i := rfl
  generalize L.csrs.getD 8 0 = v8 at c8 HW
  generalize L.csrs.getD 10 0 = v10 at c10 HW
  generalize L.csrs.getD 11 0 = v11 at c11 HW
  generalize L.csrs.getD 17 0 = v17 at c17 HW
  generalize wantL L i = res at HW ⊢
  have hi' : (i : Int) < 32 := by omega
  unfold wantV at HW
  rw [cl]
  clear st st1 hB F hi cl
  go_enter Tryd.func25, Tryd.ntmps25
  go_wp2_with fail
  generalize W.alloc (.cells #[.slice (some ⟨p.r, 0, none⟩) L.regs.length p.cr, .int .u32 L.pc, .int .i64 L.mode, .bool L.asleep, .slice (some ⟨p.c, 0, none⟩) 19 p.cc, .string L.ram, .slice (some ⟨p.k, 0, none⟩) L.clock.length p.ck, .slice (some ⟨p.p, 0, none⟩) L.prio.length p.cp, .int .u32 L.pend, .int .u32 L.served, .int .u32 L.level, .slice (some ⟨p.e, 0, none⟩) L.enable.length p.ce, .slice (some ⟨p.l, 0, none⟩) L.limit.length p.cl] 31) = W1 at HB q2 q4 c8 c10 c11 c17 ⊢
  generalize W.heap.size = g at q2 q4 ⊢
  generalize L.mode = md at q2 HW ⊢
  cases h17 : isB v17 i
  · have S17 : Hid (∀ w, Calls Tryd.prog 26 #[.int .u32 v17, .int .i64 i] w fun e W' => e = .returned (.bool false) ∧ W' = w) := fun w => kset_is w v17 i hi' _ h17
    have HR : Hid (res = false) := by unfold Hid; rw [HW, h17]; simp
    clear HW
    refine (S17.out _).mono ?_
    rintro e w' ⟨rfl, hw⟩
    rw [hw]
    clear hw w'
    go_wp2_with fail
    go_ret
    exact ⟨by rw [HR.out]; rfl, HB.out⟩
  · cases h11 : isB v11 i
    · have S17 : Hid (∀ w, Calls Tryd.prog 26 #[.int .u32 v17, .int .i64 i] w fun e W' => e = .returned (.bool true) ∧ W' = w) := fun w => kset_is w v17 i hi' _ h17
      have S11 : Hid (∀ w, Calls Tryd.prog 26 #[.int .u32 v11, .int .i64 i] w fun e W' => e = .returned (.bool false) ∧ W' = w) := fun w => kset_is w v11 i hi' _ h11
      have HR : Hid (res = false) := by unfold Hid; rw [HW, h17, h11]; simp
      clear HW
      refine (S17.out _).mono ?_
      rintro e w' ⟨rfl, hw⟩
      rw [hw]
      clear hw w'
      go_wp2_with (first | (go_at_call_of 26 (Value.int .u32 v11); refine (S11.out _).mono ?_; rintro e w' ⟨rfl, hw⟩; rw [hw]; clear hw w'))
      go_ret
      exact ⟨by rw [HR.out]; rfl, HB.out⟩
    · cases h10 : isB v10 i
      · by_cases hm : md = 3
        · have hm' : (md != 3) = false := by simpa using hm
          clear hm
          cases h8 : isB v8 3
          · have S17 : Hid (∀ w, Calls Tryd.prog 26 #[.int .u32 v17, .int .i64 i] w fun e W' => e = .returned (.bool true) ∧ W' = w) := fun w => kset_is w v17 i hi' _ h17
            have S11 : Hid (∀ w, Calls Tryd.prog 26 #[.int .u32 v11, .int .i64 i] w fun e W' => e = .returned (.bool true) ∧ W' = w) := fun w => kset_is w v11 i hi' _ h11
            have S10 : Hid (∀ w, Calls Tryd.prog 26 #[.int .u32 v10, .int .i64 i] w fun e W' => e = .returned (.bool false) ∧ W' = w) := fun w => kset_is w v10 i hi' _ h10
            have S8 : Hid (∀ w, Calls Tryd.prog 26 #[.int .u32 v8, .int .i64 3] w fun e W' => e = .returned (.bool false) ∧ W' = w) := fun w => kset_is w v8 3 (by decide) _ h8
            have HR : Hid (res = false) := by unfold Hid; rw [HW, h17, h11, h10, h8, hm']; simp
            clear HW
            refine (S17.out _).mono ?_
            rintro e w' ⟨rfl, hw⟩
            rw [hw]
            clear hw w'
            go_wp2_with (first | (go_at_call_of 26 (Value.int .u32 v11); refine (S11.out _).mono ?_; rintro e w' ⟨rfl, hw⟩; rw [hw]; clear hw w') | (go_at_call_of 26 (Value.int .u32 v10); refine (S10.out _).mono ?_; rintro e w' ⟨rfl, hw⟩; rw [hw]; clear hw w') | (go_at_call_of 26 (Value.int .u32 v8); refine (S8.out _).mono ?_; rintro e w' ⟨rfl, hw⟩; rw [hw]; clear hw w'))
            go_ret
            exact ⟨by rw [HR.out]; rfl, HB.out⟩
          · have S17 : Hid (∀ w, Calls Tryd.prog 26 #[.int .u32 v17, .int .i64 i] w fun e W' => e = .returned (.bool true) ∧ W' = w) := fun w => kset_is w v17 i hi' _ h17
            have S11 : Hid (∀ w, Calls Tryd.prog 26 #[.int .u32 v11, .int .i64 i] w fun e W' => e = .returned (.bool true) ∧ W' = w) := fun w => kset_is w v11 i hi' _ h11
            have S10 : Hid (∀ w, Calls Tryd.prog 26 #[.int .u32 v10, .int .i64 i] w fun e W' => e = .returned (.bool false) ∧ W' = w) := fun w => kset_is w v10 i hi' _ h10
            have S8 : Hid (∀ w, Calls Tryd.prog 26 #[.int .u32 v8, .int .i64 3] w fun e W' => e = .returned (.bool true) ∧ W' = w) := fun w => kset_is w v8 3 (by decide) _ h8
            have HR : Hid (res = true) := by unfold Hid; rw [HW, h17, h11, h10, h8, hm']; simp
            clear HW
            refine (S17.out _).mono ?_
            rintro e w' ⟨rfl, hw⟩
            rw [hw]
            clear hw w'
            go_wp2_with (first | (go_at_call_of 26 (Value.int .u32 v11); refine (S11.out _).mono ?_; rintro e w' ⟨rfl, hw⟩; rw [hw]; clear hw w') | (go_at_call_of 26 (Value.int .u32 v10); refine (S10.out _).mono ?_; rintro e w' ⟨rfl, hw⟩; rw [hw]; clear hw w') | (go_at_call_of 26 (Value.int .u32 v8); refine (S8.out _).mono ?_; rintro e w' ⟨rfl, hw⟩; rw [hw]; clear hw w'))
            go_ret
            exact ⟨by rw [HR.out]; rfl, HB.out⟩
        · have hm' : (md != 3) = true := by simpa using hm
          clear hm
          have S17 : Hid (∀ w, Calls Tryd.prog 26 #[.int .u32 v17, .int .i64 i] w fun e W' => e = .returned (.bool true) ∧ W' = w) := fun w => kset_is w v17 i hi' _ h17
          have S11 : Hid (∀ w, Calls Tryd.prog 26 #[.int .u32 v11, .int .i64 i] w fun e W' => e = .returned (.bool true) ∧ W' = w) := fun w => kset_is w v11 i hi' _ h11
          have S10 : Hid (∀ w, Calls Tryd.prog 26 #[.int .u32 v10, .int .i64 i] w fun e W' => e = .returned (.bool false) ∧ W' = w) := fun w => kset_is w v10 i hi' _ h10
          have HR : Hid (res = true) := by unfold Hid; rw [HW, h17, h11, h10, hm']; simp
          clear HW
          refine (S17.out _).mono ?_
          rintro e w' ⟨rfl, hw⟩
          rw [hw]
          clear hw w'
          go_wp2_with (first | (go_at_call_of 26 (Value.int .u32 v11); refine (S11.out _).mono ?_; rintro e w' ⟨rfl, hw⟩; rw [hw]; clear hw w') | (go_at_call_of 26 (Value.int .u32 v10); refine (S10.out _).mono ?_; rintro e w' ⟨rfl, hw⟩; rw [hw]; clear hw w'))
          go_ret
          exact ⟨by rw [HR.out]; rfl, HB.out⟩
      · by_cases h0 : md = 0
        · have h0' : (md == 0) = true := by simpa using h0
          clear h0
          have S17 : Hid (∀ w, Calls Tryd.prog 26 #[.int .u32 v17, .int .i64 i] w fun e W' => e = .returned (.bool true) ∧ W' = w) := fun w => kset_is w v17 i hi' _ h17
          have S11 : Hid (∀ w, Calls Tryd.prog 26 #[.int .u32 v11, .int .i64 i] w fun e W' => e = .returned (.bool true) ∧ W' = w) := fun w => kset_is w v11 i hi' _ h11
          have S10 : Hid (∀ w, Calls Tryd.prog 26 #[.int .u32 v10, .int .i64 i] w fun e W' => e = .returned (.bool true) ∧ W' = w) := fun w => kset_is w v10 i hi' _ h10
          have HR : Hid (res = true) := by unfold Hid; rw [HW, h17, h11, h10, h0']; simp
          clear HW
          refine (S17.out _).mono ?_
          rintro e w' ⟨rfl, hw⟩
          rw [hw]
          clear hw w'
          go_wp2_with (first | (go_at_call_of 26 (Value.int .u32 v11); refine (S11.out _).mono ?_; rintro e w' ⟨rfl, hw⟩; rw [hw]; clear hw w') | (go_at_call_of 26 (Value.int .u32 v10); refine (S10.out _).mono ?_; rintro e w' ⟨rfl, hw⟩; rw [hw]; clear hw w'))
          go_ret
          exact ⟨by rw [HR.out]; rfl, HB.out⟩
        have h0' : (md == 0) = false := by simpa using h0
        clear h0
        by_cases h1 : md = 1
        · have h1' : (md == 1) = true := by simpa using h1
          clear h1
          cases h8 : isB v8 1
          · have S17 : Hid (∀ w, Calls Tryd.prog 26 #[.int .u32 v17, .int .i64 i] w fun e W' => e = .returned (.bool true) ∧ W' = w) := fun w => kset_is w v17 i hi' _ h17
            have S11 : Hid (∀ w, Calls Tryd.prog 26 #[.int .u32 v11, .int .i64 i] w fun e W' => e = .returned (.bool true) ∧ W' = w) := fun w => kset_is w v11 i hi' _ h11
            have S10 : Hid (∀ w, Calls Tryd.prog 26 #[.int .u32 v10, .int .i64 i] w fun e W' => e = .returned (.bool true) ∧ W' = w) := fun w => kset_is w v10 i hi' _ h10
            have S8 : Hid (∀ w, Calls Tryd.prog 26 #[.int .u32 v8, .int .i64 1] w fun e W' => e = .returned (.bool false) ∧ W' = w) := fun w => kset_is w v8 1 (by decide) _ h8
            have HR : Hid (res = false) := by unfold Hid; rw [HW, h17, h11, h10, h8, h0', h1']; simp
            clear HW
            refine (S17.out _).mono ?_
            rintro e w' ⟨rfl, hw⟩
            rw [hw]
            clear hw w'
            go_wp2_with (first | (go_at_call_of 26 (Value.int .u32 v11); refine (S11.out _).mono ?_; rintro e w' ⟨rfl, hw⟩; rw [hw]; clear hw w') | (go_at_call_of 26 (Value.int .u32 v10); refine (S10.out _).mono ?_; rintro e w' ⟨rfl, hw⟩; rw [hw]; clear hw w') | (go_at_call_of 26 (Value.int .u32 v8); refine (S8.out _).mono ?_; rintro e w' ⟨rfl, hw⟩; rw [hw]; clear hw w'))
            go_ret
            exact ⟨by rw [HR.out]; rfl, HB.out⟩
          · have S17 : Hid (∀ w, Calls Tryd.prog 26 #[.int .u32 v17, .int .i64 i] w fun e W' => e = .returned (.bool true) ∧ W' = w) := fun w => kset_is w v17 i hi' _ h17
            have S11 : Hid (∀ w, Calls Tryd.prog 26 #[.int .u32 v11, .int .i64 i] w fun e W' => e = .returned (.bool true) ∧ W' = w) := fun w => kset_is w v11 i hi' _ h11
            have S10 : Hid (∀ w, Calls Tryd.prog 26 #[.int .u32 v10, .int .i64 i] w fun e W' => e = .returned (.bool true) ∧ W' = w) := fun w => kset_is w v10 i hi' _ h10
            have S8 : Hid (∀ w, Calls Tryd.prog 26 #[.int .u32 v8, .int .i64 1] w fun e W' => e = .returned (.bool true) ∧ W' = w) := fun w => kset_is w v8 1 (by decide) _ h8
            have HR : Hid (res = true) := by unfold Hid; rw [HW, h17, h11, h10, h8, h0', h1']; simp
            clear HW
            refine (S17.out _).mono ?_
            rintro e w' ⟨rfl, hw⟩
            rw [hw]
            clear hw w'
            go_wp2_with (first | (go_at_call_of 26 (Value.int .u32 v11); refine (S11.out _).mono ?_; rintro e w' ⟨rfl, hw⟩; rw [hw]; clear hw w') | (go_at_call_of 26 (Value.int .u32 v10); refine (S10.out _).mono ?_; rintro e w' ⟨rfl, hw⟩; rw [hw]; clear hw w') | (go_at_call_of 26 (Value.int .u32 v8); refine (S8.out _).mono ?_; rintro e w' ⟨rfl, hw⟩; rw [hw]; clear hw w'))
            go_ret
            exact ⟨by rw [HR.out]; rfl, HB.out⟩
        · have h1' : (md == 1) = false := by simpa using h1
          clear h1
          have S17 : Hid (∀ w, Calls Tryd.prog 26 #[.int .u32 v17, .int .i64 i] w fun e W' => e = .returned (.bool true) ∧ W' = w) := fun w => kset_is w v17 i hi' _ h17
          have S11 : Hid (∀ w, Calls Tryd.prog 26 #[.int .u32 v11, .int .i64 i] w fun e W' => e = .returned (.bool true) ∧ W' = w) := fun w => kset_is w v11 i hi' _ h11
          have S10 : Hid (∀ w, Calls Tryd.prog 26 #[.int .u32 v10, .int .i64 i] w fun e W' => e = .returned (.bool true) ∧ W' = w) := fun w => kset_is w v10 i hi' _ h10
          have HR : Hid (res = false) := by unfold Hid; rw [HW, h17, h11, h10, h0', h1']; simp
          clear HW
          refine (S17.out _).mono ?_
          rintro e w' ⟨rfl, hw⟩
          rw [hw]
          clear hw w'
          go_wp2_with (first | (go_at_call_of 26 (Value.int .u32 v11); refine (S11.out _).mono ?_; rintro e w' ⟨rfl, hw⟩; rw [hw]; clear hw w') | (go_at_call_of 26 (Value.int .u32 v10); refine (S10.out _).mono ?_; rintro e w' ⟨rfl, hw⟩; rw [hw]; clear hw w'))
          go_ret
          exact ⟨by rw [HR.out]; rfl, HB.out⟩
end Go.Proofs.YteiideeechnekabDoor
