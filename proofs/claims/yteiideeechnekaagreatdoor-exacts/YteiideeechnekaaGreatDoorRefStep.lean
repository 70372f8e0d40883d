import Derived.Test.YteiideeechnekaaGreatDoorRefTrap
import Derived.Test.YteiideeechnekaaGreatDoorRefMem
/-
  The document's enabled and Chosen.
-/
namespace Go.Proofs.YteiideeechnekaaGreatDoor
open Go.RowKit

def enB (s : RSt) (i : Nat) : Bool :=
  if isB (mipR s) i = false then false else if isB s.mie i = false then false
  else if isB s.mideleg i then (if s.mode = 0 then true else if s.mode = 1 then s.sie else false) else (if s.mode = 3 then s.mieb else true)

set_option maxHeartbeats 1000000 in
theorem enabled_any (W : World) (p : Nat) (b : RBl) (s : RSt) (h : RefAt W p b s) (i : Nat) (hi : i < 32) :
    Calls Tryz.prog 57 #[.pointer (some ⟨p, 0, none⟩), .int .i64 i] W fun e W' => e = .returned (.bool (enB s i)) ∧ ∃ q, W' = W.drewN q := by
  have HF : Hid (RefAt W p b s) := h
  have c1 := h.mie
  have c2 := h.mideleg
  have c3 := h.mode
  have c4 := h.sie
  have c5 := h.mieb
  have hi' : (i : Int) < 32 := by omega
  clear h
  by_cases h1 : isB (mipR s) i = true
  · by_cases h2 : isB s.mie i = true
    · have e0 : enB s i = if isB s.mideleg i then (if s.mode = 0 then true else if s.mode = 1 then s.sie else false) else (if s.mode = 3 then s.mieb else true) := by unfold enB; rw [h1, h2]; rfl
      by_cases h3 : isB s.mideleg i = true
      · rw [if_pos h3] at e0
        by_cases h4 : s.mode = 0
        · rw [e0, if_pos h4]
          clear e0
          go_enter Tryz.func57, Tryz.ntmps57
          go_wp2_with (first | (go_at_call 15; refine (rmip_any _ p b s HF.out).mono ?_; rintro e w' ⟨rfl, q, rfl⟩) | (go_at_call 27; refine (is_any _ _ i hi).mono ?_; rintro e w' ⟨rfl, rfl⟩))
          go_ret
          exact ⟨rfl, q, rfl⟩
        · rw [if_neg h4] at e0
          have h4' : (s.mode == 0) = false := by simpa using h4
          by_cases h5 : s.mode = 1
          · rw [e0, if_pos h5]
            clear e0 h4
            have h5' : (s.mode == 1) = true := by simpa using h5
            clear h5
            go_enter Tryz.func57, Tryz.ntmps57
            go_wp2_with (first | (go_at_call 15; refine (rmip_any _ p b s HF.out).mono ?_; rintro e w' ⟨rfl, q, rfl⟩) | (go_at_call 27; refine (is_any _ _ i hi).mono ?_; rintro e w' ⟨rfl, rfl⟩))
            go_ret
            exact ⟨rfl, q, rfl⟩
          · rw [e0, if_neg h5]
            have h5' : (s.mode == 1) = false := by simpa using h5
            clear e0 h4 h5
            go_enter Tryz.func57, Tryz.ntmps57
            go_wp2_with (first | (go_at_call 15; refine (rmip_any _ p b s HF.out).mono ?_; rintro e w' ⟨rfl, q, rfl⟩) | (go_at_call 27; refine (is_any _ _ i hi).mono ?_; rintro e w' ⟨rfl, rfl⟩))
            go_ret
            exact ⟨rfl, q, rfl⟩
      · have h3' : isB s.mideleg i = false := by simpa using h3
        rw [if_neg h3] at e0
        by_cases h4 : s.mode = 3
        · rw [e0, if_pos h4]
          have h4' : (s.mode != 3) = false := by simpa using h4
          clear e0 h3 h4
          go_enter Tryz.func57, Tryz.ntmps57
          go_wp2_with (first | (go_at_call 15; refine (rmip_any _ p b s HF.out).mono ?_; rintro e w' ⟨rfl, q, rfl⟩) | (go_at_call 27; refine (is_any _ _ i hi).mono ?_; rintro e w' ⟨rfl, rfl⟩))
          go_ret
          exact ⟨rfl, q, rfl⟩
        · rw [e0, if_neg h4]
          have h4' : (s.mode != 3) = true := by simpa using h4
          clear e0 h4 h3
          go_enter Tryz.func57, Tryz.ntmps57
          go_wp2_with (first | (go_at_call 15; refine (rmip_any _ p b s HF.out).mono ?_; rintro e w' ⟨rfl, q, rfl⟩) | (go_at_call 27; refine (is_any _ _ i hi).mono ?_; rintro e w' ⟨rfl, rfl⟩))
          go_ret
          exact ⟨rfl, q, rfl⟩
    · have h2' : isB s.mie i = false := by simpa using h2
      have e0 : enB s i = false := by unfold enB; rw [h1, h2']; rfl
      rw [e0]
      clear h2 e0
      go_enter Tryz.func57, Tryz.ntmps57
      go_wp2_with (first | (go_at_call 15; refine (rmip_any _ p b s HF.out).mono ?_; rintro e w' ⟨rfl, q, rfl⟩) | (go_at_call 27; refine (is_any _ _ i hi).mono ?_; rintro e w' ⟨rfl, rfl⟩))
      go_ret
      exact ⟨rfl, q, rfl⟩
  · have h1' : isB (mipR s) i = false := by simpa using h1
    have e0 : enB s i = false := by unfold enB; rw [h1']; rfl
    rw [e0]
    clear h1 e0
    go_enter Tryz.func57, Tryz.ntmps57
    go_wp2_with (first | (go_at_call 15; refine (rmip_any _ p b s HF.out).mono ?_; rintro e w' ⟨rfl, q, rfl⟩) | (go_at_call 27; refine (is_any _ _ i hi).mono ?_; rintro e w' ⟨rfl, rfl⟩))
    go_ret
    exact ⟨rfl, q, rfl⟩

def prs : List (Bool × Nat) := [(false, 11), (false, 3), (false, 7), (false, 9), (false, 1), (false, 5), (true, 11), (true, 3), (true, 7), (true, 9), (true, 1), (true, 5)]
def okB (s : RSt) (sup : Bool) (i : Nat) : Bool := if enB s i then isB s.mideleg i == sup else false
/-- The interrupt that is taken; -1: none. -/
def chosenF (s : RSt) : List (Bool × Nat) → Int
  | [] => -1
  | q :: l => if okB s q.1 q.2 then q.2 else chosenF s l
def chosenR (s : RSt) : Int := chosenF s prs
theorem chos_yes {s : RSt} {q : Bool × Nat} {l : List (Bool × Nat)} {c : Int} (h : c = chosenF s (q :: l)) (e : okB s q.1 q.2 = true) : c = q.2 := by rw [h]; unfold chosenF; rw [if_pos e]
theorem chos_no {s : RSt} {q : Bool × Nat} {l : List (Bool × Nat)} {c : Int} (h : c = chosenF s (q :: l)) (e : okB s q.1 q.2 = false) : c = chosenF s l := by
  rw [h]
  conv => lhs; unfold chosenF
  rw [if_neg (by rw [e]; decide)]
theorem chosenF_cases (s : RSt) (l : List (Bool × Nat)) (hl : ∀ q ∈ l, q.2 < 12) : chosenF s l = -1 ∨ ∃ n : Nat, n < 12 ∧ chosenF s l = n := by
  induction l with
  | nil => exact .inl rfl
  | cons q l ih =>
    unfold chosenF
    split
    · exact .inr ⟨q.2, hl q (by simp), rfl⟩
    · exact ih fun q hq => hl q (by simp [hq])
theorem chosenR_cases (s : RSt) : chosenR s = -1 ∨ ∃ n : Nat, n < 12 ∧ chosenR s = n := chosenF_cases s prs (by decide)

theorem ret_int' {k : IntKind} {a b : Int} (h : a = b) : Ending.returned (.int k a) = .returned (.int k b) := by rw [h]
def ordN : List Nat := [11, 3, 7, 9, 1, 5]
def ordC : Array Value := #[Value.int .i64 11, .int .i64 3, .int .i64 7, .int .i64 9, .int .i64 1, .int .i64 5]
theorem ord_cell (k : Nat) (hk : k < 6) : ordC[k]? = some (.int .i64 (ordN.getD k 0)) := by
  have : k = 0 ∨ k = 1 ∨ k = 2 ∨ k = 3 ∨ k = 4 ∨ k = 5 := by omega
  rcases this with rfl | rfl | rfl | rfl | rfl | rfl <;> rfl
theorem ord_lt (k : Nat) (hk : k < 6) : ordN.getD k 0 < 32 := by
  have : k = 0 ∨ k = 1 ∨ k = 2 ∨ k = 3 ∨ k = 4 ∨ k = 5 := by omega
  rcases this with rfl | rfl | rfl | rfl | rfl | rfl <;> decide
theorem prs_drop0 (k : Nat) (hk : k < 6) : prs.drop (0 + k) = (false, ordN.getD k 0) :: prs.drop (0 + (k + 1)) := by
  have : k = 0 ∨ k = 1 ∨ k = 2 ∨ k = 3 ∨ k = 4 ∨ k = 5 := by omega
  rcases this with rfl | rfl | rfl | rfl | rfl | rfl <;> rfl
theorem prs_drop6 (k : Nat) (hk : k < 6) : prs.drop (6 + k) = (true, ordN.getD k 0) :: prs.drop (6 + (k + 1)) := by
  have : k = 0 ∨ k = 1 ∨ k = 2 ∨ k = 3 ∨ k = 4 ∨ k = 5 := by omega
  rcases this with rfl | rfl | rfl | rfl | rfl | rfl <;> rfl
set_option maxHeartbeats 4000000 in
set_option maxRecDepth 100000 in
theorem chosen_any (W : World) (p : Nat) (b : RBl) (s : RSt) (h : RefAt W p b s) :
    Calls Tryz.prog 26 #[.pointer (some ⟨p, 0, none⟩)] W fun e W' => e = .returned (.int .i64 (chosenR s)) ∧ Below W.heap.size W W' := by
  have hO : RefAt (W.alloc (.cells #[Value.int .i64 11, .int .i64 3, .int .i64 7, .int .i64 9, .int .i64 1, .int .i64 5] 3)) p b s := h.below ((Below.refl _ _).alloc (Nat.le_refl _) _) (Nat.le_refl _)
  have hB : Below W.heap.size W (W.alloc (.cells #[Value.int .i64 11, .int .i64 3, .int .i64 7, .int .i64 9, .int .i64 1, .int .i64 5] 3)) := (Below.refl _ _).alloc (Nat.le_refl _) _
  have o : ∀ j, (W.alloc (.cells #[Value.int .i64 11, .int .i64 3, .int .i64 7, .int .i64 9, .int .i64 1, .int .i64 5] 3)).cell? ⟨W.heap.size, j, none⟩ = ordC[j]? := fun j => cell_of_row _ _ j _ _ (0, 0) (heap_alloc_new W _)
  obtain ⟨c, hc⟩ : ∃ c, c = chosenR s := ⟨_, rfl⟩
  rw [← hc]
  have HC : Hid (c = chosenF s prs) := hc
  clear hc h
  go_enter Tryz.func26, Tryz.ntmps26
  go_wp2_with fail
  go_loopw [4] (fun u wr => ∃ k : Nat, (k = 0 ∧ u = .int .i64 0 ∨ k = 1 ∧ u = .int .i64 1 ∨ k = 2 ∧ u = .int .i64 2) ∧ RefAt wr p b s ∧ Below W.heap.size W wr ∧ Hid (∀ j, wr.cell? ⟨W.heap.size, j, none⟩ = ordC[j]?) ∧ Hid (c = chosenF s (prs.drop (6 * k)))) (fun u _ => 2 - (intOf u).toNat)
  case atStart => exact ⟨0, .inl ⟨rfl, rfl⟩, hO, hB, o, HC⟩
  case round =>
    clear hO hB o HC
    obtain ⟨u, hu3, hr, hb, ho, HC⟩ := hrel
    have HR : Hid (RefAt wr p b s) := hr
    clear hr
    rcases hu3 with ⟨rfl, rfl⟩ | ⟨rfl, rfl⟩ | ⟨rfl, rfl⟩
    · go_wp2_with fail
      go_loopw [5] (fun i wq => ∃ k : Nat, k ≤ 6 ∧ i = .int .i64 k ∧ RefAt wq p b s ∧ Below W.heap.size W wq ∧ Hid (∀ j, wq.cell? ⟨W.heap.size, j, none⟩ = ordC[j]?) ∧ Hid (c = chosenF s (prs.drop (0 + k)))) (fun i _ => 6 - (intOf i).toNat)
      case atStart => exact ⟨0, by decide, rfl, HR.out, hb, ho, HC⟩
      case round =>
        clear HR hb ho HC
        obtain ⟨k, hk, rfl, hr, hb, ho, HC⟩ := hrel
        have HR : Hid (RefAt wr p b s) := hr
        have c1 := hr.mideleg
        clear hr
        by_cases hk6 : k < 6
        · have hki : (k : Int) < 6 := by omega
          obtain ⟨i, hi⟩ : ∃ i, i = ordN.getD k 0 := ⟨_, rfl⟩
          have c2 : wr.cell? ⟨W.heap.size, k, none⟩ = some (.int .i64 i) := by rw [hi]; exact (ho.out k).trans (ord_cell k hk6)
          have h32 : i < 32 := by rw [hi]; exact ord_lt k hk6
          have h32' : (i : Int) < 32 := by omega
          have HP : Hid (c = chosenF s ((false, i) :: prs.drop (0 + (k + 1)))) := by unfold Hid; rw [hi, ← prs_drop0 k hk6]; exact HC.out
          clear HC hi
          by_cases he : enB s i = true
          · by_cases hm : isB s.mideleg i = true
            · have HE : Hid (c = chosenF s (prs.drop (0 + (k + 1)))) := chos_no (q := (false, i)) HP.out (by unfold okB; rw [if_pos he, hm]; rfl)
              clear HP
              go_wp2_with (first | (go_at_call 57; refine (enabled_any _ p b s HR.out i h32).mono ?_; rintro e w' ⟨rfl, q, rfl⟩) | (go_at_call 27; refine (is_any _ _ i h32).mono ?_; rintro e w' ⟨rfl, rfl⟩))
              go_roundw
              case rel => exact ⟨k + 1, by omega, by go_num, HR.out.drawn q, ⟨hb.os, hb.tape, hb.output, hb.size, hb.block⟩, ho, HE⟩
              case measure => simp [intOf]; omega
            · have hm' : isB s.mideleg i = false := by simpa using hm
              clear hm
              have HE : Hid (c = i) := chos_yes (q := (false, i)) HP.out (by unfold okB; rw [if_pos he, hm']; rfl)
              clear HP
              go_wp2_with (first | (go_at_call 57; refine (enabled_any _ p b s HR.out i h32).mono ?_; rintro e w' ⟨rfl, q, rfl⟩) | (go_at_call 27; refine (is_any _ _ i h32).mono ?_; rintro e w' ⟨rfl, rfl⟩))
              go_ret
              exact ⟨ret_int' HE.out.symm, ⟨hb.os, hb.tape, hb.output, hb.size, hb.block⟩⟩
          · have he' : enB s i = false := by simpa using he
            have HE : Hid (c = chosenF s (prs.drop (0 + (k + 1)))) := chos_no (q := (false, i)) HP.out (by unfold okB; rw [he']; rfl)
            clear HP he
            go_wp2_with (first | (go_at_call 57; refine (enabled_any _ p b s HR.out i h32).mono ?_; rintro e w' ⟨rfl, q, rfl⟩) | (go_at_call 27; refine (is_any _ _ i h32).mono ?_; rintro e w' ⟨rfl, rfl⟩))
            go_roundw
            case rel => exact ⟨k + 1, by omega, by go_num, HR.out.drawn q, ⟨hb.os, hb.tape, hb.output, hb.size, hb.block⟩, ho, HE⟩
            case measure => simp [intOf]; omega
        · obtain rfl : k = 6 := by omega
          go_wp2_with fail
          go_roundw
          case rel => exact ⟨1, .inr (.inl ⟨rfl, rfl⟩), HR.out, hb, ho, HC⟩
          case measure => simp [intOf]
    · go_wp2_with fail
      go_loopw [5] (fun i wq => ∃ k : Nat, k ≤ 6 ∧ i = .int .i64 k ∧ RefAt wq p b s ∧ Below W.heap.size W wq ∧ Hid (∀ j, wq.cell? ⟨W.heap.size, j, none⟩ = ordC[j]?) ∧ Hid (c = chosenF s (prs.drop (6 + k)))) (fun i _ => 6 - (intOf i).toNat)
      case atStart => exact ⟨0, by decide, rfl, HR.out, hb, ho, HC⟩
      case round =>
        clear HR hb ho HC
        obtain ⟨k, hk, rfl, hr, hb, ho, HC⟩ := hrel
        have HR : Hid (RefAt wr p b s) := hr
        have c1 := hr.mideleg
        clear hr
        by_cases hk6 : k < 6
        · have hki : (k : Int) < 6 := by omega
          obtain ⟨i, hi⟩ : ∃ i, i = ordN.getD k 0 := ⟨_, rfl⟩
          have c2 : wr.cell? ⟨W.heap.size, k, none⟩ = some (.int .i64 i) := by rw [hi]; exact (ho.out k).trans (ord_cell k hk6)
          have h32 : i < 32 := by rw [hi]; exact ord_lt k hk6
          have h32' : (i : Int) < 32 := by omega
          have HP : Hid (c = chosenF s ((true, i) :: prs.drop (6 + (k + 1)))) := by unfold Hid; rw [hi, ← prs_drop6 k hk6]; exact HC.out
          clear HC hi
          by_cases he : enB s i = true
          · by_cases hm : isB s.mideleg i = true
            · have HE : Hid (c = i) := chos_yes (q := (true, i)) HP.out (by unfold okB; rw [if_pos he, hm]; rfl)
              clear HP
              go_wp2_with (first | (go_at_call 57; refine (enabled_any _ p b s HR.out i h32).mono ?_; rintro e w' ⟨rfl, q, rfl⟩) | (go_at_call 27; refine (is_any _ _ i h32).mono ?_; rintro e w' ⟨rfl, rfl⟩))
              go_ret
              exact ⟨ret_int' HE.out.symm, ⟨hb.os, hb.tape, hb.output, hb.size, hb.block⟩⟩
            · have hm' : isB s.mideleg i = false := by simpa using hm
              clear hm
              have HE : Hid (c = chosenF s (prs.drop (6 + (k + 1)))) := chos_no (q := (true, i)) HP.out (by unfold okB; rw [if_pos he, hm']; rfl)
              clear HP
              go_wp2_with (first | (go_at_call 57; refine (enabled_any _ p b s HR.out i h32).mono ?_; rintro e w' ⟨rfl, q, rfl⟩) | (go_at_call 27; refine (is_any _ _ i h32).mono ?_; rintro e w' ⟨rfl, rfl⟩))
              go_roundw
              case rel => exact ⟨k + 1, by omega, by go_num, HR.out.drawn q, ⟨hb.os, hb.tape, hb.output, hb.size, hb.block⟩, ho, HE⟩
              case measure => simp [intOf]; omega
          · have he' : enB s i = false := by simpa using he
            have HE : Hid (c = chosenF s (prs.drop (6 + (k + 1)))) := chos_no (q := (true, i)) HP.out (by unfold okB; rw [he']; rfl)
            clear HP he
            go_wp2_with (first | (go_at_call 57; refine (enabled_any _ p b s HR.out i h32).mono ?_; rintro e w' ⟨rfl, q, rfl⟩) | (go_at_call 27; refine (is_any _ _ i h32).mono ?_; rintro e w' ⟨rfl, rfl⟩))
            go_roundw
            case rel => exact ⟨k + 1, by omega, by go_num, HR.out.drawn q, ⟨hb.os, hb.tape, hb.output, hb.size, hb.block⟩, ho, HE⟩
            case measure => simp [intOf]; omega
        · obtain rfl : k = 6 := by omega
          go_wp2_with fail
          go_roundw
          case rel => exact ⟨2, .inr (.inr ⟨rfl, rfl⟩), HR.out, hb, ho, HC⟩
          case measure => simp [intOf]
    · go_wp2_with fail
      go_ret
      exact ⟨ret_int' (show (-1 : Int) = c from (show c = -1 from HC.out).symm), hb⟩
end Go.Proofs.YteiideeechnekaaGreatDoor

/-
  The document's Step, awake, where no interrupt is to be taken.
-/
namespace Go.Proofs.YteiideeechnekaaGreatDoor
open Go.RowKit

end Go.Proofs.YteiideeechnekaaGreatDoor

/-
  The document's Step: awake or woken; asleep; where an interrupt is taken.
-/
namespace Go.Proofs.YteiideeechnekaaGreatDoor
open Go.RowKit

def wakeR (s : RSt) : RSt := { s with asleep := false }
def intBy (v : Int) (i : Nat) : Int := bits .and .u32 v 1 * 4 % 4294967296 * i % 4294967296
def intR (s : RSt) (i : Nat) : RSt := trapR s (isB s.mideleg i) (2147483648 + i) 0 (intBy (if isB s.mideleg i then s.stvec else s.mtvec) i)

theorem step_sleep (W : World) (p : Nat) (b : RBl) (s : RSt) (h : RefAt W p b s) (ha : s.asleep = true) (hm : bits .and .u32 (mipR s) s.mie = 0) :
    Calls Tryz.prog 12 #[.pointer (some ⟨p, 0, none⟩)] W (RP W p b s) := by
  have HF : Hid (RefAt W p b s) := h
  have c1 := h.asleep
  rw [ha] at c1
  have HM := rmip_any W p b s h
  have c3 := h.mie
  clear h ha
  go_enter Tryz.func12, Tryz.ntmps12
  go_wp2_with fail
  refine HM.mono ?_
  rintro e w1 ⟨rfl, q, rfl⟩
  clear HM
  go_wp2_with fail
  exact bodyPost_ret (v := .tuple #[]) (by simp [results, Tryz.results12, go_sem]) rfl ⟨rfl, HF.out.drawn _, (Offs.refl _ _).drawn _⟩
set_option maxHeartbeats 1000000 in
theorem stepf_a (W : World) (p : Nat) (b : RBl) (s : RSt) (h : RefAt W p b s) (A : b.Apart p) (ha : s.asleep = false) (hc : chosenR s = -1) (n : Nat) (hn : s.pc = n) (h1 : n < 4294967296) (ho : ¬ n + 4 ≤ s.ram.length) :
    Calls Tryz.prog 12 #[.pointer (some ⟨p, 0, none⟩)] W (RP W p b (failR s 1 s.pc)) := by
  have HF : Hid (RefAt W p b s) := h
  have c1 := h.asleep
  rw [ha] at c1
  have HC := chosen_any W p b s h
  rw [hc] at HC
  clear h hc ha
  go_enter Tryz.func12, Tryz.ntmps12
  go_wp2_with fail
  refine HC.mono ?_
  rintro e w1 ⟨rfl, hb⟩
  have O1 : Hid (Offs (b.l p) W w1) := Offs.of_below hb
  have r1 := HF.out.below hb (Nat.le_refl _)
  clear HC
  have c2 : w1.cell? ⟨p, 1, none⟩ = some (.int .u32 s.pc) := r1.pc
  rw [hn] at c2
  have H1 : Hid (RefAt w1 p b s) := r1
  have HN : Hid (s.pc = n) := hn
  clear r1 hn hb
  go_wp2_with (first | (go_at_call 29; refine (rram_any _ p b s H1.out n 4 h1 (by decide)).mono ?_; rw [decide_eq_false (show ¬ n + 4 ≤ (s).ram.length from ho)]; rintro e w' ⟨rfl, q0, rfl⟩) | (go_at_call 30; refine (fails_any _ p b s (H1.out.drawn _) A 1 (by decide) _).mono ?_; rintro e w2 ⟨rfl, h2, o2⟩))
  exact bodyPost_ret (v := .tuple #[]) (by simp [results, Tryz.results12, go_sem]) rfl ⟨rfl, by rw [HN.out]; exact h2, (O1.out.drawn _).trans o2⟩
set_option maxHeartbeats 1000000 in
theorem stepd_a (W : World) (p : Nat) (b : RBl) (s : RSt) (h : RefAt W p b s) (ha : s.asleep = false) (hc : chosenR s = -1) (n : Nat) (hn : s.pc = n) (ho : n + 4 ≤ s.ram.length) (st : RSt)
    (DO : ∀ W', RefAt W' p b s → Calls Tryz.prog 32 #[.pointer (some ⟨p, 0, none⟩), .int .u32 (leV s.ram n 4)] W' (RP W' p b st)) :
    Calls Tryz.prog 12 #[.pointer (some ⟨p, 0, none⟩)] W (RP W p b st) := by
  have HO : Hid (∀ W', RefAt W' p b s → Calls Tryz.prog 32 #[.pointer (some ⟨p, 0, none⟩), .int .u32 (leV s.ram n 4)] W' (RP W' p b st)) := DO
  have hl : s.ram.length ≤ 512 := by obtain ⟨_, _, _, _, _, _, h6, h7⟩ := h.ram; exact h6
  clear DO
  have HF : Hid (RefAt W p b s) := h
  have c1 := h.asleep
  rw [ha] at c1
  have HC := chosen_any W p b s h
  rw [hc] at HC
  clear h hc ha
  go_enter Tryz.func12, Tryz.ntmps12
  go_wp2_with fail
  refine HC.mono ?_
  rintro e w1 ⟨rfl, hb⟩
  have O1 : Hid (Offs (b.l p) W w1) := Offs.of_below hb
  have r1 := HF.out.below hb (Nat.le_refl _)
  clear HC
  have c2 : w1.cell? ⟨p, 1, none⟩ = some (.int .u32 s.pc) := r1.pc
  rw [hn] at c2
  have H1 : Hid (RefAt w1 p b s) := r1
  clear r1 hn hb
  go_wp2_with (first | (go_at_call 29; refine (rram_any _ p b s H1.out n 4 (by omega) (by decide)).mono ?_; rw [decide_eq_true (show n + 4 ≤ (s).ram.length from ho)]; rintro e w' ⟨rfl, q0, rfl⟩) | (go_at_call 31; refine (rread_4 _ p b s (H1.out.drawn _) n ho).mono ?_; rintro e w2 ⟨rfl, q1, rfl⟩))
  refine (HO.out _ (H1.out.drawn _)).mono ?_
  rintro e w3 ⟨rfl, h3, o3⟩
  go_wp2_with fail
  go_end0
  exact ⟨rfl, h3, (O1.out.drawn _).trans o3⟩
set_option maxHeartbeats 1000000 in
theorem stepi_a_true (W : World) (p : Nat) (b : RBl) (s : RSt) (h : RefAt W p b s) (A : b.Apart p) (ha : s.asleep = false) (i : Nat) (hi : i < 12) (hc : chosenR s = i) (hs : isB s.mideleg i = true) :
    Calls Tryz.prog 12 #[.pointer (some ⟨p, 0, none⟩)] W (RP W p b (intR s i)) := by
  have HE : Hid (intR s i = trapR s true (2147483648 + i) 0 (intBy s.stvec i)) := by
    unfold Hid intR
    rw [show isB (s).mideleg i = true from hs]
    rfl
  have hi' : (i : Int) < 12 := by omega
  have HF : Hid (RefAt W p b s) := h
  have c1 := h.asleep
  rw [ha] at c1
  have HC := chosen_any W p b s h
  rw [hc] at HC
  clear h hc ha
  go_enter Tryz.func12, Tryz.ntmps12
  go_wp2_with fail
  refine HC.mono ?_
  rintro e w1 ⟨rfl, hb⟩
  have O1 : Hid (Offs (b.l p) W w1) := Offs.of_below hb
  have r1 := HF.out.below hb (Nat.le_refl _)
  clear HC
  have c2 : w1.cell? ⟨p, 14, none⟩ = some (.int .u32 s.mideleg) := r1.mideleg
  have c4 : w1.cell? ⟨p, 17, none⟩ = some (.int .u32 s.mtvec) := r1.mtvec
  have c5 : w1.cell? ⟨p, 18, none⟩ = some (.int .u32 s.stvec) := r1.stvec
  have H1 : Hid (RefAt w1 p b s) := r1
  clear r1 hb
  go_wp2_with (first | (go_at_call 27; refine (is_any _ _ i (by omega)).mono ?_; rw [hs]; rintro e w' ⟨rfl, rfl⟩))
  refine (trap_any _ p b s H1.out A _ _ _ _).mono ?_
  rintro e w2 ⟨rfl, h2, o2⟩
  go_wp2_with fail
  exact bodyPost_ret (v := .tuple #[]) (by simp [results, Tryz.results12, go_sem]) rfl ⟨rfl, by rw [HE.out]; exact h2, O1.out.trans o2⟩
set_option maxHeartbeats 1000000 in
theorem stepi_a_false (W : World) (p : Nat) (b : RBl) (s : RSt) (h : RefAt W p b s) (A : b.Apart p) (ha : s.asleep = false) (i : Nat) (hi : i < 12) (hc : chosenR s = i) (hs : isB s.mideleg i = false) :
    Calls Tryz.prog 12 #[.pointer (some ⟨p, 0, none⟩)] W (RP W p b (intR s i)) := by
  have HE : Hid (intR s i = trapR s false (2147483648 + i) 0 (intBy s.mtvec i)) := by
    unfold Hid intR
    rw [show isB (s).mideleg i = false from hs]
    rfl
  have hi' : (i : Int) < 12 := by omega
  have HF : Hid (RefAt W p b s) := h
  have c1 := h.asleep
  rw [ha] at c1
  have HC := chosen_any W p b s h
  rw [hc] at HC
  clear h hc ha
  go_enter Tryz.func12, Tryz.ntmps12
  go_wp2_with fail
  refine HC.mono ?_
  rintro e w1 ⟨rfl, hb⟩
  have O1 : Hid (Offs (b.l p) W w1) := Offs.of_below hb
  have r1 := HF.out.below hb (Nat.le_refl _)
  clear HC
  have c2 : w1.cell? ⟨p, 14, none⟩ = some (.int .u32 s.mideleg) := r1.mideleg
  have c4 : w1.cell? ⟨p, 17, none⟩ = some (.int .u32 s.mtvec) := r1.mtvec
  have c5 : w1.cell? ⟨p, 18, none⟩ = some (.int .u32 s.stvec) := r1.stvec
  have H1 : Hid (RefAt w1 p b s) := r1
  clear r1 hb
  go_wp2_with (first | (go_at_call 27; refine (is_any _ _ i (by omega)).mono ?_; rw [hs]; rintro e w' ⟨rfl, rfl⟩))
  refine (trap_any _ p b s H1.out A _ _ _ _).mono ?_
  rintro e w2 ⟨rfl, h2, o2⟩
  go_wp2_with fail
  exact bodyPost_ret (v := .tuple #[]) (by simp [results, Tryz.results12, go_sem]) rfl ⟨rfl, by rw [HE.out]; exact h2, O1.out.trans o2⟩
set_option maxHeartbeats 1000000 in
theorem stepf_w (W : World) (p : Nat) (b : RBl) (s : RSt) (h : RefAt W p b s) (A : b.Apart p) (ha : s.asleep = true) (hm : bits .and .u32 (mipR s) s.mie ≠ 0) (hc : chosenR (wakeR s) = -1) (n : Nat) (hn : s.pc = n) (h1 : n < 4294967296) (ho : ¬ n + 4 ≤ s.ram.length) :
    Calls Tryz.prog 12 #[.pointer (some ⟨p, 0, none⟩)] W (RP W p b (failR (wakeR s) 1 s.pc)) := by
  have HF : Hid (RefAt W p b s) := h
  have c1 := h.asleep
  rw [ha] at c1
  have HM := rmip_any W p b s h
  have c3 := h.mie
  have f3 := h.fp
  have hm' : (bits .and .u32 (mipR s) s.mie == 0) = false := by simpa using hm
  have HC : Hid (∀ w, RefAt w p b (wakeR s) → Calls Tryz.prog 26 #[.pointer (some ⟨p, 0, none⟩)] w fun e W' => e = .returned (.int .i64 (-1)) ∧ Below w.heap.size w W') := fun w hw => by
    have := chosen_any w p b _ hw
    rw [hc] at this
    exact this
  clear h hc ha hm
  go_enter Tryz.func12, Tryz.ntmps12
  go_wp2_with fail
  refine HM.mono ?_
  rintro e w0 ⟨rfl, q, rfl⟩
  clear HM
  go_wp2_with fail
  refine (HC.out _ ((HF.out.drawn _).put_asleep A _)).mono ?_
  rintro e w1 ⟨rfl, hb⟩
  have O1 : Hid (Offs (b.l p) W w1) := (((Offs.refl _ _).drawn _).put (by simp [RBl.l]) _).trans (Offs.of_below hb)
  have r1 := ((HF.out.drawn _).put_asleep A _).below hb (Nat.le_refl _)
  clear HC
  have c2 : w1.cell? ⟨p, 1, none⟩ = some (.int .u32 s.pc) := r1.pc
  rw [hn] at c2
  have H1 : Hid (RefAt w1 p b (wakeR s)) := r1
  have HN : Hid (s.pc = n) := hn
  clear r1 hn hb
  go_wp2_with (first | (go_at_call 29; refine (rram_any _ p b (wakeR s) H1.out n 4 h1 (by decide)).mono ?_; rw [decide_eq_false (show ¬ n + 4 ≤ ((wakeR s)).ram.length from ho)]; rintro e w' ⟨rfl, q0, rfl⟩) | (go_at_call 30; refine (fails_any _ p b (wakeR s) (H1.out.drawn _) A 1 (by decide) _).mono ?_; rintro e w2 ⟨rfl, h2, o2⟩))
  exact bodyPost_ret (v := .tuple #[]) (by simp [results, Tryz.results12, go_sem]) rfl ⟨rfl, by rw [HN.out]; exact h2, (O1.out.drawn _).trans o2⟩
set_option maxHeartbeats 1000000 in
theorem stepd_w (W : World) (p : Nat) (b : RBl) (s : RSt) (h : RefAt W p b s) (A : b.Apart p) (ha : s.asleep = true) (hm : bits .and .u32 (mipR s) s.mie ≠ 0) (hc : chosenR (wakeR s) = -1) (n : Nat) (hn : s.pc = n) (ho : n + 4 ≤ s.ram.length) (st : RSt)
    (DO : ∀ W', RefAt W' p b (wakeR s) → Calls Tryz.prog 32 #[.pointer (some ⟨p, 0, none⟩), .int .u32 (leV s.ram n 4)] W' (RP W' p b st)) :
    Calls Tryz.prog 12 #[.pointer (some ⟨p, 0, none⟩)] W (RP W p b st) := by
  have HO : Hid (∀ W', RefAt W' p b (wakeR s) → Calls Tryz.prog 32 #[.pointer (some ⟨p, 0, none⟩), .int .u32 (leV s.ram n 4)] W' (RP W' p b st)) := DO
  have hl : s.ram.length ≤ 512 := by obtain ⟨_, _, _, _, _, _, h6, h7⟩ := h.ram; exact h6
  clear DO
  have HF : Hid (RefAt W p b s) := h
  have c1 := h.asleep
  rw [ha] at c1
  have HM := rmip_any W p b s h
  have c3 := h.mie
  have f3 := h.fp
  have hm' : (bits .and .u32 (mipR s) s.mie == 0) = false := by simpa using hm
  have HC : Hid (∀ w, RefAt w p b (wakeR s) → Calls Tryz.prog 26 #[.pointer (some ⟨p, 0, none⟩)] w fun e W' => e = .returned (.int .i64 (-1)) ∧ Below w.heap.size w W') := fun w hw => by
    have := chosen_any w p b _ hw
    rw [hc] at this
    exact this
  clear h hc ha hm
  go_enter Tryz.func12, Tryz.ntmps12
  go_wp2_with fail
  refine HM.mono ?_
  rintro e w0 ⟨rfl, q, rfl⟩
  clear HM
  go_wp2_with fail
  refine (HC.out _ ((HF.out.drawn _).put_asleep A _)).mono ?_
  rintro e w1 ⟨rfl, hb⟩
  have O1 : Hid (Offs (b.l p) W w1) := (((Offs.refl _ _).drawn _).put (by simp [RBl.l]) _).trans (Offs.of_below hb)
  have r1 := ((HF.out.drawn _).put_asleep A _).below hb (Nat.le_refl _)
  clear HC
  have c2 : w1.cell? ⟨p, 1, none⟩ = some (.int .u32 s.pc) := r1.pc
  rw [hn] at c2
  have H1 : Hid (RefAt w1 p b (wakeR s)) := r1
  clear r1 hn hb
  go_wp2_with (first | (go_at_call 29; refine (rram_any _ p b (wakeR s) H1.out n 4 (by omega) (by decide)).mono ?_; rw [decide_eq_true (show n + 4 ≤ ((wakeR s)).ram.length from ho)]; rintro e w' ⟨rfl, q0, rfl⟩) | (go_at_call 31; refine (rread_4 _ p b (wakeR s) (H1.out.drawn _) n ho).mono ?_; rintro e w2 ⟨rfl, q1, rfl⟩))
  refine (HO.out _ (H1.out.drawn _)).mono ?_
  rintro e w3 ⟨rfl, h3, o3⟩
  go_wp2_with fail
  go_end0
  exact ⟨rfl, h3, (O1.out.drawn _).trans o3⟩
set_option maxHeartbeats 1000000 in
theorem stepi_w_true (W : World) (p : Nat) (b : RBl) (s : RSt) (h : RefAt W p b s) (A : b.Apart p) (ha : s.asleep = true) (hm : bits .and .u32 (mipR s) s.mie ≠ 0) (i : Nat) (hi : i < 12) (hc : chosenR (wakeR s) = i) (hs : isB s.mideleg i = true) :
    Calls Tryz.prog 12 #[.pointer (some ⟨p, 0, none⟩)] W (RP W p b (intR (wakeR s) i)) := by
  have HE : Hid (intR (wakeR s) i = trapR (wakeR s) true (2147483648 + i) 0 (intBy s.stvec i)) := by
    unfold Hid intR
    rw [show isB ((wakeR s)).mideleg i = true from hs]
    rfl
  have hi' : (i : Int) < 12 := by omega
  have HF : Hid (RefAt W p b s) := h
  have c1 := h.asleep
  rw [ha] at c1
  have HM := rmip_any W p b s h
  have c3 := h.mie
  have f3 := h.fp
  have hm' : (bits .and .u32 (mipR s) s.mie == 0) = false := by simpa using hm
  have HC : Hid (∀ w, RefAt w p b (wakeR s) → Calls Tryz.prog 26 #[.pointer (some ⟨p, 0, none⟩)] w fun e W' => e = .returned (.int .i64 i) ∧ Below w.heap.size w W') := fun w hw => by
    have := chosen_any w p b _ hw
    rw [hc] at this
    exact this
  clear h hc ha hm
  go_enter Tryz.func12, Tryz.ntmps12
  go_wp2_with fail
  refine HM.mono ?_
  rintro e w0 ⟨rfl, q, rfl⟩
  clear HM
  go_wp2_with fail
  refine (HC.out _ ((HF.out.drawn _).put_asleep A _)).mono ?_
  rintro e w1 ⟨rfl, hb⟩
  have O1 : Hid (Offs (b.l p) W w1) := (((Offs.refl _ _).drawn _).put (by simp [RBl.l]) _).trans (Offs.of_below hb)
  have r1 := ((HF.out.drawn _).put_asleep A _).below hb (Nat.le_refl _)
  clear HC
  have c2 : w1.cell? ⟨p, 14, none⟩ = some (.int .u32 s.mideleg) := r1.mideleg
  have c4 : w1.cell? ⟨p, 17, none⟩ = some (.int .u32 s.mtvec) := r1.mtvec
  have c5 : w1.cell? ⟨p, 18, none⟩ = some (.int .u32 s.stvec) := r1.stvec
  have H1 : Hid (RefAt w1 p b (wakeR s)) := r1
  clear r1 hb
  go_wp2_with (first | (go_at_call 27; refine (is_any _ _ i (by omega)).mono ?_; rw [hs]; rintro e w' ⟨rfl, rfl⟩))
  refine (trap_any _ p b (wakeR s) H1.out A _ _ _ _).mono ?_
  rintro e w2 ⟨rfl, h2, o2⟩
  go_wp2_with fail
  exact bodyPost_ret (v := .tuple #[]) (by simp [results, Tryz.results12, go_sem]) rfl ⟨rfl, by rw [HE.out]; exact h2, O1.out.trans o2⟩
set_option maxHeartbeats 1000000 in
theorem stepi_w_false (W : World) (p : Nat) (b : RBl) (s : RSt) (h : RefAt W p b s) (A : b.Apart p) (ha : s.asleep = true) (hm : bits .and .u32 (mipR s) s.mie ≠ 0) (i : Nat) (hi : i < 12) (hc : chosenR (wakeR s) = i) (hs : isB s.mideleg i = false) :
    Calls Tryz.prog 12 #[.pointer (some ⟨p, 0, none⟩)] W (RP W p b (intR (wakeR s) i)) := by
  have HE : Hid (intR (wakeR s) i = trapR (wakeR s) false (2147483648 + i) 0 (intBy s.mtvec i)) := by
    unfold Hid intR
    rw [show isB ((wakeR s)).mideleg i = false from hs]
    rfl
  have hi' : (i : Int) < 12 := by omega
  have HF : Hid (RefAt W p b s) := h
  have c1 := h.asleep
  rw [ha] at c1
  have HM := rmip_any W p b s h
  have c3 := h.mie
  have f3 := h.fp
  have hm' : (bits .and .u32 (mipR s) s.mie == 0) = false := by simpa using hm
  have HC : Hid (∀ w, RefAt w p b (wakeR s) → Calls Tryz.prog 26 #[.pointer (some ⟨p, 0, none⟩)] w fun e W' => e = .returned (.int .i64 i) ∧ Below w.heap.size w W') := fun w hw => by
    have := chosen_any w p b _ hw
    rw [hc] at this
    exact this
  clear h hc ha hm
  go_enter Tryz.func12, Tryz.ntmps12
  go_wp2_with fail
  refine HM.mono ?_
  rintro e w0 ⟨rfl, q, rfl⟩
  clear HM
  go_wp2_with fail
  refine (HC.out _ ((HF.out.drawn _).put_asleep A _)).mono ?_
  rintro e w1 ⟨rfl, hb⟩
  have O1 : Hid (Offs (b.l p) W w1) := (((Offs.refl _ _).drawn _).put (by simp [RBl.l]) _).trans (Offs.of_below hb)
  have r1 := ((HF.out.drawn _).put_asleep A _).below hb (Nat.le_refl _)
  clear HC
  have c2 : w1.cell? ⟨p, 14, none⟩ = some (.int .u32 s.mideleg) := r1.mideleg
  have c4 : w1.cell? ⟨p, 17, none⟩ = some (.int .u32 s.mtvec) := r1.mtvec
  have c5 : w1.cell? ⟨p, 18, none⟩ = some (.int .u32 s.stvec) := r1.stvec
  have H1 : Hid (RefAt w1 p b (wakeR s)) := r1
  clear r1 hb
  go_wp2_with (first | (go_at_call 27; refine (is_any _ _ i (by omega)).mono ?_; rw [hs]; rintro e w' ⟨rfl, rfl⟩))
  refine (trap_any _ p b (wakeR s) H1.out A _ _ _ _).mono ?_
  rintro e w2 ⟨rfl, h2, o2⟩
  go_wp2_with fail
  exact bodyPost_ret (v := .tuple #[]) (by simp [results, Tryz.results12, go_sem]) rfl ⟨rfl, by rw [HE.out]; exact h2, O1.out.trans o2⟩
end Go.Proofs.YteiideeechnekaaGreatDoor
