/-
  hartkeep.call: one step of a script that is no Step.
-/
import Derived.Test.YteiideeechnekabDoorKeepOne
namespace Go.Proofs.YteiideeechnekabDoor
open Go.RowKit

set_option maxHeartbeats 1000000 in
theorem kcall_2 (W : World) (x r : Nat) (s : RSt) (h : CodeAt W x r (cOf s)) (A : x ≠ r) (G : Gd s) (a b : Int) (v : Nat) : Calls Tryd.prog 6 #[.pointer (some ⟨x, 0, none⟩), .agg #[.int .i64 2, .int .i64 a, .int .i64 b, .int .u32 v]] W fun e W' => e = .returned (.tuple #[]) ∧ ∃ s', CodeAt W' x r (cOf s') ∧ Gd s' ∧ Core s s' ∧ Offs [x, r] W W' := by
  obtain ⟨s1, HC, HG, HK⟩ : ∃ s1 , Hid (∀ w, CodeAt w x r (cOf s) → Calls Tryd.prog 16 #[.pointer (some ⟨x, 0, none⟩), .int .i64 a, .bool (b != 0)] w fun e w' => e = .returned (.tuple #[]) ∧ CodeAt w' x r (cOf s1) ∧ Offs [x, r] w w') ∧ Hid (Gd s1) ∧ Hid (Core s s1) := by
    by_cases hk : a < 1 ∨ 7 < a
    · refine ⟨s, fun w h => ?_, G, Core.refl s⟩
      refine (hline_no w x a _ hk).mono ?_
      rintro e w' ⟨rfl, rfl⟩
      exact ⟨rfl, h, Offs.refl _ _⟩
    · obtain ⟨k, rfl⟩ : ∃ k : Nat, a = k := ⟨a.toNat, by omega⟩
      refine ⟨lineR s k (b != 0), fun w h => ?_, G.line k (by omega) _, line_core s k _⟩
      rw [cOf_line G.dv k (by omega) (by omega)]
      exact hline_any w x r _ h A k (by omega) (by omega) _
  have HN : Hid (∀ o, CodeAt (W.alloc o) x r (cOf s)) := fun o => h.below ((Below.refl _ _).alloc (Nat.le_refl _) o) h.lt.1 h.lt.2
  clear h G
  go_enter Tryd.func6, Tryd.ntmps6
  go_wp2_with fail
  refine (HC.out _ (HN.out _)).mono ?_
  rintro e w1 ⟨rfl, h1, o1⟩
  go_wp2_with fail
  go_end0
  exact ⟨rfl, s1, h1, HG.out, HK.out, ((Offs.refl _ _).new _).trans o1⟩
set_option maxHeartbeats 1000000 in
theorem kcall_3 (W : World) (x r : Nat) (s : RSt) (h : CodeAt W x r (cOf s)) (A : x ≠ r) (G : Gd s) (a b : Int) (v : Nat) : Calls Tryd.prog 6 #[.pointer (some ⟨x, 0, none⟩), .agg #[.int .i64 3, .int .i64 a, .int .i64 b, .int .u32 v]] W fun e W' => e = .returned (.tuple #[]) ∧ ∃ s', CodeAt W' x r (cOf s') ∧ Gd s' ∧ Core s s' ∧ Offs [x, r] W W' := by
  obtain ⟨s1, HC, HG, HK⟩ : ∃ s1 , Hid (∀ w, CodeAt w x r (cOf s) → Calls Tryd.prog 17 #[.pointer (some ⟨x, 0, none⟩)] w fun e w' => e = .returned (.tuple #[]) ∧ CodeAt w' x r (cOf s1) ∧ Offs [x, r] w w') ∧ Hid (Gd s1) ∧ Hid (Core s s1) := by
    exact ⟨tickR s, fun w h => htick_any w x r _ h A, G.tick, tick_core s⟩
  have HN : Hid (∀ o, CodeAt (W.alloc o) x r (cOf s)) := fun o => h.below ((Below.refl _ _).alloc (Nat.le_refl _) o) h.lt.1 h.lt.2
  clear h G
  go_enter Tryd.func6, Tryd.ntmps6
  go_wp2_with fail
  refine (HC.out _ (HN.out _)).mono ?_
  rintro e w1 ⟨rfl, h1, o1⟩
  go_wp2_with fail
  go_end0
  exact ⟨rfl, s1, h1, HG.out, HK.out, ((Offs.refl _ _).new _).trans o1⟩
set_option maxHeartbeats 1000000 in
theorem kcall_4 (W : World) (x r : Nat) (s : RSt) (h : CodeAt W x r (cOf s)) (A : x ≠ r) (G : Gd s) (a b : Int) (v : Nat) (hv : v < 4294967296) : Calls Tryd.prog 6 #[.pointer (some ⟨x, 0, none⟩), .agg #[.int .i64 4, .int .i64 a, .int .i64 b, .int .u32 v]] W fun e W' => e = .returned (.tuple #[]) ∧ ∃ s', CodeAt W' x r (cOf s') ∧ Gd s' ∧ Core s s' ∧ Offs [x, r] W W' := by
  obtain ⟨s1, z, ok, HC, HG, HK⟩ : ∃ s1 z ok , Hid (∀ w, CodeAt w x r (cOf s) → Calls Tryd.prog 18 #[.pointer (some ⟨x, 0, none⟩), .int .u32 v, .int .i64 a] w fun e w' => e = .returned (.tuple #[.int .u32 z, .bool ok]) ∧ CodeAt w' x r (cOf s1) ∧ Offs [x, r] w w') ∧ Hid (Gd s1) ∧ Hid (Core s s1) := by
    obtain ⟨e, g⟩ := read_of G v a
    refine ⟨(readR s v a).1, (readR s v a).2.1, (readR s v a).2.2, fun w h => ?_, g, read_core s v a⟩
    have := cread_any w x r _ h A v hv a
    rw [e] at this
    exact this
  have HN : Hid (∀ o, CodeAt (W.alloc o) x r (cOf s)) := fun o => h.below ((Below.refl _ _).alloc (Nat.le_refl _) o) h.lt.1 h.lt.2
  clear h G
  go_enter Tryd.func6, Tryd.ntmps6
  go_wp2_with fail
  refine (HC.out _ (HN.out _)).mono ?_
  rintro e w1 ⟨rfl, h1, o1⟩
  go_wp2_with fail
  go_end0
  exact ⟨rfl, s1, h1, HG.out, HK.out, ((Offs.refl _ _).new _).trans o1⟩
set_option maxHeartbeats 1000000 in
theorem kcall_5 (W : World) (x r : Nat) (s : RSt) (h : CodeAt W x r (cOf s)) (A : x ≠ r) (G : Gd s) (a b : Int) (v : Nat) (hv : v < 4294967296) : Calls Tryd.prog 6 #[.pointer (some ⟨x, 0, none⟩), .agg #[.int .i64 5, .int .i64 a, .int .i64 b, .int .u32 v]] W fun e W' => e = .returned (.tuple #[]) ∧ ∃ s', CodeAt W' x r (cOf s') ∧ Gd s' ∧ Core s s' ∧ Offs [x, r] W W' := by
  obtain ⟨s1, ok, HC, HG, HK⟩ : ∃ s1 ok , Hid (∀ w, CodeAt w x r (cOf s) → Calls Tryd.prog 19 #[.pointer (some ⟨x, 0, none⟩), .int .u32 v, .int .i64 a, .int .u32 (b % 4294967296)] w fun e w' => e = .returned (.bool ok) ∧ CodeAt w' x r (cOf s1) ∧ Offs [x, r] w w') ∧ Hid (Gd s1) ∧ Hid (Core s s1) := by
    have b0 : 0 ≤ b % 4294967296 := by omega
    have b1 : b % 4294967296 < 4294967296 := by omega
    obtain ⟨e, g⟩ := write_of G v a (b % 4294967296) ⟨b0, b1⟩
    refine ⟨(writeR s v a (b % 4294967296)).1, (writeR s v a (b % 4294967296)).2, fun w h => ?_, g, write_core s v a _⟩
    have := cwrite_any w x r _ h A v hv a _ b0 b1
    rw [e] at this
    exact this
  have HN : Hid (∀ o, CodeAt (W.alloc o) x r (cOf s)) := fun o => h.below ((Below.refl _ _).alloc (Nat.le_refl _) o) h.lt.1 h.lt.2
  clear h G
  go_enter Tryd.func6, Tryd.ntmps6
  go_wp2_with fail
  refine (HC.out _ (HN.out _)).mono ?_
  rintro e w1 ⟨rfl, h1, o1⟩
  go_wp2_with fail
  go_end0
  exact ⟨rfl, s1, h1, HG.out, HK.out, ((Offs.refl _ _).new _).trans o1⟩
theorem kcall_none (W : World) (x r : Nat) (s : RSt) (h : CodeAt W x r (cOf s)) (_A : x ≠ r) (G : Gd s) (k a b : Int) (v : Nat) (h2 : (k == 2) = false) (h3 : (k == 3) = false) (h4 : (k == 4) = false) (h5 : (k == 5) = false) : Calls Tryd.prog 6 #[.pointer (some ⟨x, 0, none⟩), .agg #[.int .i64 k, .int .i64 a, .int .i64 b, .int .u32 v]] W fun e W' => e = .returned (.tuple #[]) ∧ ∃ s', CodeAt W' x r (cOf s') ∧ Gd s' ∧ Core s s' ∧ Offs [x, r] W W' := by
  have HN : Hid (∀ o, CodeAt (W.alloc o) x r (cOf s)) := fun o => h.below ((Below.refl _ _).alloc (Nat.le_refl _) o) h.lt.1 h.lt.2
  have HG : Hid (Gd s) := G
  clear h G
  go_enter Tryd.func6, Tryd.ntmps6
  go_wp2
  go_end0
  exact ⟨rfl, s, HN.out _, HG.out, Core.refl s, (Offs.refl _ _).new _⟩
theorem kcall_any (W : World) (x r : Nat) (s : RSt) (h : CodeAt W x r (cOf s)) (A : x ≠ r) (G : Gd s) (k a b : Int) (v : Nat) (hv : v < 4294967296) : Calls Tryd.prog 6 #[.pointer (some ⟨x, 0, none⟩), .agg #[.int .i64 k, .int .i64 a, .int .i64 b, .int .u32 v]] W fun e W' => e = .returned (.tuple #[]) ∧ ∃ s', CodeAt W' x r (cOf s') ∧ Gd s' ∧ Core s s' ∧ Offs [x, r] W W' := by
  by_cases h2 : k = 2
  · subst h2; exact kcall_2 W x r s h A G a b v
  by_cases h3 : k = 3
  · subst h3; exact kcall_3 W x r s h A G a b v
  by_cases h4 : k = 4
  · subst h4; exact kcall_4 W x r s h A G a b v hv
  by_cases h5 : k = 5
  · subst h5; exact kcall_5 W x r s h A G a b v hv
  exact kcall_none W x r s h A G k a b v (by simpa using h2) (by simpa using h3) (by simpa using h4) (by simpa using h5)
end Go.Proofs.YteiideeechnekabDoor
