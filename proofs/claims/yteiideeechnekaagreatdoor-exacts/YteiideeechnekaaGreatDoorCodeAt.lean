import Derived.Test.YteiideeechnekaaGreatDoorBase
import Derived.Laws.CopyOwn
import Derived.Laws.BytesString
/-
  The code's small readers: fresh, Due, Asks.
-/
namespace Go.Proofs.YteiideeechnekaaGreatDoor
open Go.RowKit

theorem info_u32 : ∃ i, Tryz.prog.info? 29 = some i ∧ i.zero = some (.int .u32 0) ∧ i.size = 1 ∧ i.bytes = 4 := by
  have h : (Tryz.prog.info? 29).map (fun i => (i.zero, i.size, i.bytes)) = some (some (.int .u32 0), 1, 4) := by kernel_rfl
  obtain ⟨i, hi, he⟩ := Option.map_eq_some_iff.1 h
  simp only [Prod.mk.injEq] at he
  exact ⟨i, hi, he.1, he.2.1, he.2.2⟩
theorem size_u32 : (Tryz.prog.info? 29).map (·.size) = some 1 := by kernel_rfl

theorem fresh_any (W : World) (x off n cap : Nat) (xs : List Int) (hn : xs.length = n) (hn6 : n ≤ 64) (hc : ∀ i, i < n → W.cell? ⟨x, off + i, none⟩ = some (.int .u32 (xs.getD i 0))) :
    Calls Tryz.prog 48 #[.slice (some ⟨x, off, none⟩) n cap] W fun e W' => e = .returned (.slice (some ⟨W.heap.size, 0, none⟩) n n) ∧ RowAt W' W.heap.size n xs ∧ Below W.heap.size W W' ∧ W.heap.size + 1 ≤ W'.heap.size := by
  obtain ⟨i0, hi, hz, hsz, hby⟩ := info_u32
  have hmk := fun w => run_make (P := Tryz.prog) w 28 29 i0 (.int .u32 0) Tryz.underlying28 hi hz .i64 .i64 (n : Int) (n : Int) (by omega) (Int.le_refl _) (by rw [hby]; omega) (by omega)
  simp only [Int.toNat_natCast, hsz, Nat.mul_one] at hmk
  have HC : Hid (∀ i, i < n → W.cell? ⟨x, off + i, none⟩ = some (.int .u32 (xs.getD i 0))) := hc
  have HN : Hid (xs.length = n) := hn
  clear hc hn
  obtain ⟨w2, hrun, hrow, hb2⟩ : ∃ w2, (∀ ty, (Builtin.copy_ #[28, 28] ty #[.slice (some ⟨W.heap.size, 0, none⟩) n n, .slice (some ⟨x, off, none⟩) n cap]).run Tryz.prog (W.alloc (Obj.cells (madeCells #[Value.int .u32 0] n) 29)) = .ok (goInt n) w2) ∧ RowAt w2 W.heap.size n xs ∧ Below W.heap.size W w2 := by
    have hl : (xs.map (Value.int .u32)).length = n := by simp [HN.out]
    have hrun := fun ty => run_copy_row (P := Tryz.prog) (W.alloc (Obj.cells (madeCells #[Value.int .u32 0] n) 29)) 28 28 ty 29 W.heap.size 0 n n ⟨x, off, none⟩ n cap (madeCells #[Value.int .u32 0] n) 29 (xs.map (Value.int .u32)) Tryz.underlying28 size_u32 (heap_alloc_new W _) (by simp [HN.out])
      (fun j v hj => by
        have hl : j < n := by have := (List.getElem?_eq_some_iff.1 hj).1; simpa [HN.out] using this
        have hl' : j < xs.length := by rw [HN.out]; exact hl
        have e : (⟨x, off, none⟩ : Addr).add j = ⟨x, off + j, none⟩ := by unfold Addr.add; split <;> simp_all
        rw [e, Below.cell ((Below.refl W.heap.size W).alloc (Nat.le_refl _) _) (p := ⟨x, off + j, none⟩) (World.block_lt_of_cell? W _ (HC.out j hl)), HC.out j hl, ← hj]
        simp [List.getD, hl'])
      (by simp [HN.out, size_madeCells]) (fun u hu => by simp only [List.mem_map] at hu; obtain ⟨z, _, rfl⟩ := hu; rfl)
    rw [hl] at hrun
    refine ⟨_, hrun, ⟨_, setRow_heap _ W.heap.size _ _ 29 (0, 0) (heap_alloc_new W _), ?_, by rw [HN.out]; exact Nat.le_refl _, by unfold maxLen; omega, ?_⟩, below_setRow ((Below.refl _ _).alloc (Nat.le_refl _) _) (Nat.le_refl _) _⟩
    · simp [HN.out, size_madeCells]
    · simp [HN.out]
  have hsz2 : W.heap.size + 1 ≤ w2.heap.size := hrow.lt
  have HR : Hid (RowAt w2 W.heap.size n xs) := hrow
  clear hrow
  go_enter Tryz.func48, Tryz.ntmps48
  go_wp2
  go_ret
  exact ⟨rfl, HR.out, hb2, hsz2⟩

theorem due_any (W : World) (x o : Nat) (tc tm : Int) (h1 : W.cell? ⟨x, o + 1, none⟩ = some (.int .u32 tc)) (h2 : W.cell? ⟨x, o + 2, none⟩ = some (.int .u32 tm)) :
    Calls Tryz.prog 103 #[.pointer (some ⟨x, o, none⟩)] W fun e W' => e = .returned (.bool (decide (tc ≤ tm))) ∧ ∃ q, W' = W.drewN q := by
  go_enter Tryz.func103, Tryz.ntmps103
  go_wp2_with fail
  go_quiet (fail)
  go_wp2
  go_ret
  exact ⟨rfl, _, rfl⟩

def askB (pend en lim : Int) (prio : List Int) (j : Nat) : Bool := (bits .and .u32 (bits .and .u32 pend en / 2 ^ j) 1 == 1) && decide (lim < prio[j]?.getD 0)
def askC (pend en lim : Int) (prio : List Int) : Bool := (List.range 7).any fun i => askB pend en lim prio (i + 1)

theorem askC_false {pend en lim : Int} {prio : List Int} (h : ∀ j, 1 ≤ j → j < 8 → askB pend en lim prio j = false) : askC pend en lim prio = false := by
  unfold askC
  rw [List.any_eq_false]
  intro i hi
  simp at hi
  simp [h (i + 1) (by omega) (by omega)]
theorem askC_true {pend en lim : Int} {prio : List Int} (j : Nat) (h1 : 1 ≤ j) (h2 : j < 8) (h : askB pend en lim prio j = true) : askC pend en lim prio = true := by
  unfold askC
  rw [List.any_eq_true]
  exact ⟨j - 1, by simp; omega, by rw [show j - 1 + 1 = j by omega]; exact h⟩

def bestC (pend en lim : Int) (prio : List Int) : Nat → Nat × Int
  | 0 => (0, lim)
  | k + 1 => if askB pend en (bestC pend en lim prio k).2 prio (k + 1) then (k + 1, prio[k + 1]?.getD 0) else bestC pend en lim prio k
theorem bestC_le (pend en lim : Int) (prio : List Int) (k : Nat) : (bestC pend en lim prio k).1 ≤ k := by
  induction k with
  | zero => exact Nat.le_refl _
  | succ k ih =>
    unfold bestC
    split
    · exact Nat.le_refl _
    · exact Nat.le_succ_of_le ih
theorem bestC_yes {pend en lim : Int} {prio : List Int} {k : Nat} (h1 : 1 ≤ k) (h : askB pend en (bestC pend en lim prio (k - 1)).2 prio k = true) : bestC pend en lim prio k = (k, prio[k]?.getD 0) := by
  obtain ⟨n, rfl⟩ : ∃ n, k = n + 1 := ⟨k - 1, by omega⟩
  rw [show n + 1 - 1 = n from rfl] at h
  unfold bestC; rw [if_pos h]
theorem bestC_no {pend en lim : Int} {prio : List Int} {k : Nat} (h1 : 1 ≤ k) (h : askB pend en (bestC pend en lim prio (k - 1)).2 prio k = false) : bestC pend en lim prio k = bestC pend en lim prio (k - 1) := by
  obtain ⟨n, rfl⟩ : ∃ n, k = n + 1 := ⟨k - 1, by omega⟩
  rw [show n + 1 - 1 = n from rfl] at h
  conv => lhs; unfold bestC
  rw [if_neg (by rw [h]; decide)]; rfl
theorem bestC_ask (pend en lim : Int) (prio : List Int) (k : Nat) : ((bestC pend en lim prio k).1 = 0 ∧ (bestC pend en lim prio k).2 = lim ∧ ∀ j, 1 ≤ j → j ≤ k → askB pend en lim prio j = false) ∨ ((bestC pend en lim prio k).1 ≠ 0 ∧ ∃ j, 1 ≤ j ∧ j ≤ k ∧ askB pend en lim prio j = true) := by
  induction k with
  | zero => exact .inl ⟨rfl, rfl, fun j h1 h2 => absurd h2 (by omega)⟩
  | succ k ih =>
    cases hb : askB pend en (bestC pend en lim prio k).2 prio (k + 1)
    · rw [bestC_no (by omega) (show askB pend en (bestC pend en lim prio (k + 1 - 1)).2 prio (k + 1) = false from hb), show k + 1 - 1 = k from rfl]
      rcases ih with ⟨a, b, c⟩ | ⟨a, j, h1, h2, h3⟩
      · refine .inl ⟨a, b, fun j h1 h2 => ?_⟩
        by_cases e : j = k + 1
        · subst e; rw [b] at hb; exact hb
        · exact c j h1 (by omega)
      · exact .inr ⟨a, j, h1, by omega, h3⟩
    · rw [bestC_yes (by omega) (show askB pend en (bestC pend en lim prio (k + 1 - 1)).2 prio (k + 1) = true from hb)]
      refine .inr ⟨by simp, ?_⟩
      rcases ih with ⟨a, b, c⟩ | ⟨a, j, h1, h2, h3⟩
      · rw [b] at hb; exact ⟨k + 1, by omega, Nat.le_refl _, hb⟩
      · exact ⟨j, h1, by omega, h3⟩
theorem best_asks (pend en lim : Int) (prio : List Int) : (((bestC pend en lim prio 7).1 : Int) != 0) = askC pend en lim prio := by
  rcases bestC_ask pend en lim prio 7 with ⟨a, _, c⟩ | ⟨a, j, h1, h2, h3⟩
  · rw [a, askC_false fun j h1 h2 => c j h1 (by omega)]; rfl
  · rw [askC_true j h1 (by omega) h3]; simp; omega

set_option maxHeartbeats 1000000 in
theorem best_any (W : World) (x o : Nat) (pend en lim : Int) (prio : List Int) (hp : W.cell? ⟨x, o + 8, none⟩ = some (.int .u32 pend))
    (hpr : ∀ i, i < 8 → W.cell? ⟨x, o + i, none⟩ = some (.int .u32 (prio[i]?.getD 0))) :
    Calls Tryz.prog 130 #[.pointer (some ⟨x, o, none⟩), .int .u32 en, .int .u32 lim] W fun e W' => e = .returned (.int .u32 ((bestC pend en lim prio 7).1 : Nat)) ∧ ∃ q, W' = W.drewN q := by
  have HP : Hid (∀ i, i < 8 → W.cell? ⟨x, o + i, none⟩ = some (.int .u32 (prio[i]?.getD 0))) := hpr
  clear hpr
  go_enter Tryz.func130, Tryz.ntmps130
  go_wp2
  go_loopw [7, 8, 9] (fun f t i wr => ∃ k q : Nat, 1 ≤ k ∧ k ≤ 8 ∧ i = .int .u32 k ∧ f = .int .u32 ((bestC pend en lim prio (k - 1)).1 : Nat) ∧ t = .int .u32 (bestC pend en lim prio (k - 1)).2 ∧ wr = W.drewN q) (fun _ _ i _ => 8 - (intOf i).toNat)
  case atStart => exact ⟨1, 0, Nat.le_refl _, by decide, rfl, rfl, rfl, rfl⟩
  case round =>
    obtain ⟨k, q, hk1, hk8, rfl, rfl, rfl, rfl⟩ := hrel
    by_cases hlt : k < 8
    · have c1 := HP.out k hlt
      have hi : (k : Int) < 8 := by omega
      have BY := fun h => bestC_yes (pend := pend) (en := en) (lim := lim) (prio := prio) hk1 h
      have BN := fun h => bestC_no (pend := pend) (en := en) (lim := lim) (prio := prio) hk1 h
      obtain ⟨F, hF⟩ : ∃ F, F = bestC pend en lim prio (k - 1) := ⟨_, rfl⟩
      rw [← hF] at BY BN ⊢
      have HY : Hid (askB pend en F.2 prio k = true → bestC pend en lim prio k = (k, prio[k]?.getD 0)) := BY
      have HN : Hid (askB pend en F.2 prio k = false → bestC pend en lim prio k = F) := BN
      clear BY BN hF
      obtain ⟨f, tp⟩ := F
      by_cases hb : (bits .and .u32 (bits .and .u32 pend en / 2 ^ k) 1 == 1) = true
      · by_cases hg : tp < prio[k]?.getD 0
        · have HQ : Hid (bestC pend en lim prio k = (k, prio[k]?.getD 0)) := HY.out (by unfold askB; rw [hb, Bool.true_and]; exact decide_eq_true hg)
          go_wp2
          go_roundw
          case rel => exact ⟨k + 1, _, by omega, by omega, by go_num, by rw [show k + 1 - 1 = k from rfl, HQ.out], by rw [show k + 1 - 1 = k from rfl, HQ.out], rfl⟩
          case measure => simp [intOf]; omega
        · have hg' : prio[k]?.getD 0 ≤ tp := by omega
          have HQ : Hid (bestC pend en lim prio k = (f, tp)) := HN.out (by simp only [askB, Bool.and_eq_false_iff, decide_eq_false_iff_not]; exact .inr hg)
          clear hg
          go_wp2
          go_roundw
          case rel => exact ⟨k + 1, _, by omega, by omega, by go_num, by rw [show k + 1 - 1 = k from rfl, HQ.out], by rw [show k + 1 - 1 = k from rfl, HQ.out], rfl⟩
          case measure => simp [intOf]; omega
      · have hb' : (bits .and .u32 (bits .and .u32 pend en / 2 ^ k) 1 == 1) = false := by simpa using hb
        have HQ : Hid (bestC pend en lim prio k = (f, tp)) := HN.out (by simp only [askB, hb', Bool.false_and])
        clear hb
        go_wp2
        go_roundw
        case rel => exact ⟨k + 1, _, by omega, by omega, by go_num, by rw [show k + 1 - 1 = k from rfl, HQ.out], by rw [show k + 1 - 1 = k from rfl, HQ.out], rfl⟩
        case measure => simp [intOf]; omega
    · obtain rfl : k = 8 := by omega
      go_wp2
      go_ret
      exact ⟨rfl, _, rfl⟩
theorem asks_0 (W : World) (x : Nat) (pend en lim : Int) (prio : List Int) (hp : W.cell? ⟨x, 62, none⟩ = some (.int .u32 pend)) (he : W.cell? ⟨x, 65, none⟩ = some (.int .u32 en)) (hl : W.cell? ⟨x, 67, none⟩ = some (.int .u32 lim))
    (hpr : ∀ i, i < 8 → W.cell? ⟨x, 54 + i, none⟩ = some (.int .u32 (prio[i]?.getD 0))) :
    Calls Tryz.prog 104 #[.pointer (some ⟨x, 54, none⟩), .int .i64 0] W fun e W' => e = .returned (.bool (askC pend en lim prio)) ∧ ∃ q, W' = W.drewN q := by
  have HB : Hid (∀ q, Calls Tryz.prog 130 #[.pointer (some ⟨x, 54, none⟩), .int .u32 en, .int .u32 lim] (W.drewN q) fun e W' => e = .returned (.int .u32 ((bestC pend en lim prio 7).1 : Nat)) ∧ ∃ q', W' = (W.drewN q).drewN q') := fun q => best_any (W.drewN q) x 54 pend en lim prio hp hpr
  rw [← best_asks]
  generalize (bestC pend en lim prio 7).1 = F at HB ⊢
  clear hp hpr
  go_enter Tryz.func104, Tryz.ntmps104
  go_wp2_with fail
  have hS : W.drew.cell? ⟨x, 65, none⟩ = some (.int .u32 en) ∧ W.drew.cell? ⟨x, 67, none⟩ = some (.int .u32 lim) := ⟨he, hl⟩
  refine wp_region_held (S := fun w' => w'.cell? ⟨x, 65, none⟩ = some (.int .u32 en) ∧ w'.cell? ⟨x, 67, none⟩ = some (.int .u32 lim)) (by kernel_rfl) ?_
  change wpAnyH _ _ _ _ _ _ _ _ (W.drew)
  refine yK 0 (.pointer (some ⟨x, 54, none⟩)) hS ?_
  refine yK 1 (.pointer (some ⟨x, 54, none⟩)) hS ?_
  refine yK 2 (.int .i64 0) hS ?_
  refine yK 3 (.pointer (some ⟨x, 54, none⟩)) hS ?_
  refine yK 4 (.pointer (some ⟨x, 65, none⟩)) hS ?_
  refine yK 5 (.pointer (some ⟨x, 65, none⟩)) hS ?_
  refine yU 6 (fun _ h => h.1) hS ?_
  refine yK 7 (.pointer (some ⟨x, 54, none⟩)) hS ?_
  refine yK 8 (.int .i64 0) hS ?_
  refine yK 9 (.pointer (some ⟨x, 54, none⟩)) hS ?_
  refine yK 10 (.pointer (some ⟨x, 67, none⟩)) hS ?_
  refine yK 11 (.pointer (some ⟨x, 67, none⟩)) hS ?_
  refine yU 12 (fun _ h => h.2) hS ?_
  refine tA 13 (by kernel_rfl) (wpOp_step rfl fun K hK => ?_)
  go_simp
  refine (HB.out 1).mono ?_
  rintro e w2 ⟨rfl, q2, rfl⟩
  have hS : ((W.drewN 1).drewN q2).cell? ⟨x, 65, none⟩ = some (.int .u32 en) ∧ ((W.drewN 1).drewN q2).cell? ⟨x, 67, none⟩ = some (.int .u32 lim) := ⟨he, hl⟩
  refine hK _ _ ⟨hS, ?_⟩
  clear hK K
  refine yK 14 (.bool ((((F : Nat) : Int)) != 0)) hS ?_
  refine yK 15 (.bool ((((F : Nat) : Int)) != 0)) hS ?_
  refine wpAnyH_done (by kernel_rfl) ?_ _
  go_wp2_with fail
  go_ret
  exact ⟨rfl, _, drewN_two _ _ _⟩
theorem asks_1 (W : World) (x : Nat) (pend en lim : Int) (prio : List Int) (hp : W.cell? ⟨x, 62, none⟩ = some (.int .u32 pend)) (he : W.cell? ⟨x, 66, none⟩ = some (.int .u32 en)) (hl : W.cell? ⟨x, 68, none⟩ = some (.int .u32 lim))
    (hpr : ∀ i, i < 8 → W.cell? ⟨x, 54 + i, none⟩ = some (.int .u32 (prio[i]?.getD 0))) :
    Calls Tryz.prog 104 #[.pointer (some ⟨x, 54, none⟩), .int .i64 1] W fun e W' => e = .returned (.bool (askC pend en lim prio)) ∧ ∃ q, W' = W.drewN q := by
  have HB : Hid (∀ q, Calls Tryz.prog 130 #[.pointer (some ⟨x, 54, none⟩), .int .u32 en, .int .u32 lim] (W.drewN q) fun e W' => e = .returned (.int .u32 ((bestC pend en lim prio 7).1 : Nat)) ∧ ∃ q', W' = (W.drewN q).drewN q') := fun q => best_any (W.drewN q) x 54 pend en lim prio hp hpr
  rw [← best_asks]
  generalize (bestC pend en lim prio 7).1 = F at HB ⊢
  clear hp hpr
  go_enter Tryz.func104, Tryz.ntmps104
  go_wp2_with fail
  have hS : W.drew.cell? ⟨x, 66, none⟩ = some (.int .u32 en) ∧ W.drew.cell? ⟨x, 68, none⟩ = some (.int .u32 lim) := ⟨he, hl⟩
  refine wp_region_held (S := fun w' => w'.cell? ⟨x, 66, none⟩ = some (.int .u32 en) ∧ w'.cell? ⟨x, 68, none⟩ = some (.int .u32 lim)) (by kernel_rfl) ?_
  change wpAnyH _ _ _ _ _ _ _ _ (W.drew)
  refine yK 0 (.pointer (some ⟨x, 54, none⟩)) hS ?_
  refine yK 1 (.pointer (some ⟨x, 54, none⟩)) hS ?_
  refine yK 2 (.int .i64 1) hS ?_
  refine yK 3 (.pointer (some ⟨x, 54, none⟩)) hS ?_
  refine yK 4 (.pointer (some ⟨x, 65, none⟩)) hS ?_
  refine yK 5 (.pointer (some ⟨x, 66, none⟩)) hS ?_
  refine yU 6 (fun _ h => h.1) hS ?_
  refine yK 7 (.pointer (some ⟨x, 54, none⟩)) hS ?_
  refine yK 8 (.int .i64 1) hS ?_
  refine yK 9 (.pointer (some ⟨x, 54, none⟩)) hS ?_
  refine yK 10 (.pointer (some ⟨x, 67, none⟩)) hS ?_
  refine yK 11 (.pointer (some ⟨x, 68, none⟩)) hS ?_
  refine yU 12 (fun _ h => h.2) hS ?_
  refine tA 13 (by kernel_rfl) (wpOp_step rfl fun K hK => ?_)
  go_simp
  refine (HB.out 1).mono ?_
  rintro e w2 ⟨rfl, q2, rfl⟩
  have hS : ((W.drewN 1).drewN q2).cell? ⟨x, 66, none⟩ = some (.int .u32 en) ∧ ((W.drewN 1).drewN q2).cell? ⟨x, 68, none⟩ = some (.int .u32 lim) := ⟨he, hl⟩
  refine hK _ _ ⟨hS, ?_⟩
  clear hK K
  refine yK 14 (.bool ((((F : Nat) : Int)) != 0)) hS ?_
  refine yK 15 (.bool ((((F : Nat) : Int)) != 0)) hS ?_
  refine wpAnyH_done (by kernel_rfl) ?_ _
  go_wp2_with fail
  go_ret
  exact ⟨rfl, _, drewN_two _ _ _⟩
end Go.Proofs.YteiideeechnekaaGreatDoor

/-
  The code's computer as it lies in memory, and its mip, controlWords and Look.
-/
namespace Go.Proofs.YteiideeechnekaaGreatDoor
open Go.RowKit

structure CSt where
  regs : List Int
  pc : Int
  mode : Int
  asleep : Bool
  mstatus : Int
  medeleg : Int
  mideleg : Int
  mie : Int
  written : Int
  stvec : Int
  sscratch : Int
  sepc : Int
  scause : Int
  stval : Int
  mtvec : Int
  mscratch : Int
  mepc : Int
  mcause : Int
  mtval : Int
  ram : List Int
  msip : Int
  mtimecmp : Int
  mtime : Int
  prio : List Int
  pend : Int
  served : Int
  level : Int
  en0 : Int
  en1 : Int
  li0 : Int
  li1 : Int

/-- Block r holds the memory's bytes. -/
def RamAt (W : World) (r : Nat) (bs : List Int) : Prop :=
  W.heap[r]? = some (.cells (bs.map (Value.int .u8)).toArray 5 (0, 0)) ∧ bs.length ≤ 512 ∧ ∀ b ∈ bs, 0 ≤ b ∧ b < 256

/-- Block r holds the memory's bytes, and room behind them. -/
def RamIn (W : World) (r cap : Nat) (bs : List Int) : Prop :=
  ∃ cur : Array Value, W.heap[r]? = some (.cells cur 5 (0, 0)) ∧ cur.size = cap ∧ bs.length ≤ cap ∧ cap ≤ maxLen ∧ cur.toList.take bs.length = bs.map (Value.int .u8) ∧ bs.length ≤ 512 ∧ ∀ b ∈ bs, 0 ≤ b ∧ b < 256
theorem RamIn.of {W W' : World} {r cap : Nat} {bs : List Int} (h : RamIn W r cap bs) (e : W'.heap[r]? = W.heap[r]?) : RamIn W' r cap bs := by
  obtain ⟨cur, h1, r⟩ := h
  exact ⟨cur, e.trans h1, r⟩
theorem RamIn.lt {W : World} {r cap : Nat} {bs : List Int} (h : RamIn W r cap bs) : r < W.heap.size := by
  obtain ⟨cur, h1, _⟩ := h
  exact (Array.getElem?_eq_some_iff.1 h1).1
theorem RamAt.room {W : World} {r : Nat} {bs : List Int} (h : RamAt W r bs) : RamIn W r bs.length bs :=
  ⟨_, h.1, by simp, Nat.le_refl _, by have := h.2.1; unfold maxLen; omega, List.take_of_length_le (by simp), h.2⟩
theorem RamIn.cell {W : World} {r cap : Nat} {bs : List Int} (h : RamIn W r cap bs) (i : Nat) (hi : i < bs.length) : W.cell? ⟨r, i, none⟩ = some (.int .u8 (bs.getD i 0)) := by
  obtain ⟨cur, hg, hs, hl, _, ht, _⟩ := h
  rw [cell_of_row W r i cur _ (0, 0) hg]
  have e : cur.toList[i]? = (cur.toList.take bs.length)[i]? := by rw [List.getElem?_take, if_pos hi]
  have : cur[i]? = cur.toList[i]? := by simp
  rw [this, e, ht]
  simp [List.getD, hi]

structure CodeAt (W : World) (x r : Nat) (s : CSt) : Prop where
  nregs : s.regs.length = 32
  nprio : s.prio.length = 8
  regs : ∀ i, i < 32 → W.cell? ⟨x, 0 + i, none⟩ = some (.int .u32 (s.regs.getD i 0))
  pc : W.cell? ⟨x, 32, none⟩ = some (.int .u32 s.pc)
  mode : W.cell? ⟨x, 33, none⟩ = some (.int .i64 s.mode)
  asleep : W.cell? ⟨x, 34, none⟩ = some (.bool s.asleep)
  mstatus : W.cell? ⟨x, 35, none⟩ = some (.int .u32 s.mstatus)
  medeleg : W.cell? ⟨x, 36, none⟩ = some (.int .u32 s.medeleg)
  mideleg : W.cell? ⟨x, 37, none⟩ = some (.int .u32 s.mideleg)
  mie : W.cell? ⟨x, 38, none⟩ = some (.int .u32 s.mie)
  written : W.cell? ⟨x, 39, none⟩ = some (.int .u32 s.written)
  stvec : W.cell? ⟨x, 40, none⟩ = some (.int .u32 s.stvec)
  sscratch : W.cell? ⟨x, 41, none⟩ = some (.int .u32 s.sscratch)
  sepc : W.cell? ⟨x, 42, none⟩ = some (.int .u32 s.sepc)
  scause : W.cell? ⟨x, 43, none⟩ = some (.int .u32 s.scause)
  stval : W.cell? ⟨x, 44, none⟩ = some (.int .u32 s.stval)
  mtvec : W.cell? ⟨x, 45, none⟩ = some (.int .u32 s.mtvec)
  mscratch : W.cell? ⟨x, 46, none⟩ = some (.int .u32 s.mscratch)
  mepc : W.cell? ⟨x, 47, none⟩ = some (.int .u32 s.mepc)
  mcause : W.cell? ⟨x, 48, none⟩ = some (.int .u32 s.mcause)
  mtval : W.cell? ⟨x, 49, none⟩ = some (.int .u32 s.mtval)
  ram : W.cell? ⟨x, 50, none⟩ = some (.slice (some ⟨r, 0, none⟩) s.ram.length s.ram.length)
  msip : W.cell? ⟨x, 51, none⟩ = some (.int .u32 s.msip)
  mtimecmp : W.cell? ⟨x, 52, none⟩ = some (.int .u32 s.mtimecmp)
  mtime : W.cell? ⟨x, 53, none⟩ = some (.int .u32 s.mtime)
  prio : ∀ i, i < 8 → W.cell? ⟨x, 54 + i, none⟩ = some (.int .u32 (s.prio[i]?.getD 0))
  pend : W.cell? ⟨x, 62, none⟩ = some (.int .u32 s.pend)
  served : W.cell? ⟨x, 63, none⟩ = some (.int .u32 s.served)
  level : W.cell? ⟨x, 64, none⟩ = some (.int .u32 s.level)
  en0 : W.cell? ⟨x, 65, none⟩ = some (.int .u32 s.en0)
  en1 : W.cell? ⟨x, 66, none⟩ = some (.int .u32 s.en1)
  li0 : W.cell? ⟨x, 67, none⟩ = some (.int .u32 s.li0)
  li1 : W.cell? ⟨x, 68, none⟩ = some (.int .u32 s.li1)
  bytes : RamAt W r s.ram
  fx : ∀ j, W.frozen? ⟨x, j, none⟩ = false

abbrev CP (W : World) (x r : Nat) (s : CSt) (e : Ending) (W' : World) : Prop := e = .returned (.tuple #[]) ∧ CodeAt W' x r s ∧ Offs [x, r] W W'
theorem CodeAt.of {W W' : World} {x r : Nat} {s : CSt} (h : CodeAt W x r s) (hx : W'.heap[x]? = W.heap[x]?) (hr : W'.heap[r]? = W.heap[r]?) : CodeAt W' x r s := by
  have c : ∀ j, W'.cell? ⟨x, j, none⟩ = W.cell? ⟨x, j, none⟩ := fun j => World.cell?_of_block (w := W) hx
  exact ⟨h.nregs, h.nprio, fun i hi => (c _).trans (h.regs i hi), (c _).trans h.pc, (c _).trans h.mode, (c _).trans h.asleep, (c _).trans h.mstatus, (c _).trans h.medeleg, (c _).trans h.mideleg, (c _).trans h.mie, (c _).trans h.written, (c _).trans h.stvec, (c _).trans h.sscratch, (c _).trans h.sepc, (c _).trans h.scause, (c _).trans h.stval, (c _).trans h.mtvec, (c _).trans h.mscratch, (c _).trans h.mepc, (c _).trans h.mcause, (c _).trans h.mtval,
    (c _).trans h.ram, (c _).trans h.msip, (c _).trans h.mtimecmp, (c _).trans h.mtime, fun i hi => (c _).trans (h.prio i hi), (c _).trans h.pend, (c _).trans h.served, (c _).trans h.level, (c _).trans h.en0, (c _).trans h.en1, (c _).trans h.li0, (c _).trans h.li1, ⟨hr.trans h.bytes.1, h.bytes.2⟩, fun j => (World.frozen?_of_block (w := W) (a := ⟨x, j, none⟩) hx).trans (h.fx j)⟩
theorem CodeAt.below {W W' : World} {x r : Nat} {s : CSt} (h : CodeAt W x r s) {B : Nat} (hb : Below B W W') (hx : x < B) (hr : r < B) : CodeAt W' x r s := h.of (hb.block x hx) (hb.block r hr)
theorem CodeAt.lt {W : World} {x r : Nat} {s : CSt} (h : CodeAt W x r s) : x < W.heap.size ∧ r < W.heap.size :=
  ⟨World.block_lt_of_cell? W _ h.pc, (Array.getElem?_eq_some_iff.1 h.bytes.1).1⟩
theorem CodeAt.drawn {W : World} {x r : Nat} {s : CSt} (h : CodeAt W x r s) (q : Nat) : CodeAt (W.drewN q) x r s := h.of rfl rfl

def orIf (b : Bool) (p m : Int) : Int := if b then bits .or .u32 p m else p
def mipC (s : CSt) : Int :=
  orIf (askC s.pend s.en1 s.li1 s.prio) (orIf (askC s.pend s.en0 s.li0 s.prio) (orIf (decide (s.mtimecmp ≤ s.mtime)) (orIf (bits .and .u32 s.msip 1 == 1) s.written 8) 128) 2048) 512

set_option maxHeartbeats 4000000 in
theorem mip_core (W : World) (x : Nat) (wr ms : Int) (b1 b2 b3 b4 : Bool) (h1 : W.cell? ⟨x, 39, none⟩ = some (.int .u32 wr)) (h2 : W.cell? ⟨x, 51, none⟩ = some (.int .u32 ms)) (hb1 : (bits .and .u32 ms 1 == 1) = b1)
    (HD : ∀ W', (∃ q, W' = W.drewN q) → Calls Tryz.prog 103 #[.pointer (some ⟨x, 51, none⟩)] W' fun e W'' => e = .returned (.bool b2) ∧ ∃ q, W'' = W.drewN q)
    (HA : ∀ W', (∃ q, W' = W.drewN q) → Calls Tryz.prog 104 #[.pointer (some ⟨x, 54, none⟩), .int .i64 0] W' fun e W'' => e = .returned (.bool b3) ∧ ∃ q, W'' = W.drewN q)
    (HB : ∀ W', (∃ q, W' = W.drewN q) → Calls Tryz.prog 104 #[.pointer (some ⟨x, 54, none⟩), .int .i64 1] W' fun e W'' => e = .returned (.bool b4) ∧ ∃ q, W'' = W.drewN q) :
    Calls Tryz.prog 73 #[.pointer (some ⟨x, 0, none⟩)] W fun e W' => e = .returned (.int .u32 (orIf b4 (orIf b3 (orIf b2 (orIf b1 wr 8) 128) 2048) 512)) ∧ ∃ q, W' = W.drewN q := by
  cases b1 <;> cases b2 <;> cases b3 <;> cases b4
  all_goals
    simp only [orIf, if_true, if_false, Bool.false_eq_true]
    go_enter Tryz.func73, Tryz.ntmps73
    go_wp2_with fail
    refine (HD W ⟨0, rfl⟩).mono ?_
    rintro e w1 ⟨rfl, q1, rfl⟩
    go_wp2_with fail
    refine (HA _ ⟨_, rfl⟩).mono ?_
    rintro e w2 ⟨rfl, q2, rfl⟩
    go_wp2_with fail
    refine (HB _ ⟨_, rfl⟩).mono ?_
    rintro e w3 ⟨rfl, q3, rfl⟩
    go_wp2_with fail
    go_ret
    exact ⟨rfl, _, rfl⟩

theorem mip_any (W : World) (x r : Nat) (s : CSt) (h : CodeAt W x r s) :
    Calls Tryz.prog 73 #[.pointer (some ⟨x, 0, none⟩)] W fun e W' => e = .returned (.int .u32 (mipC s)) ∧ ∃ q, W' = W.drewN q := by
  refine mip_core W x s.written s.msip _ _ _ _ h.written h.msip rfl ?_ ?_ ?_
  · rintro W' ⟨q, rfl⟩
    have h := h.drawn q
    refine (due_any (W.drewN q) x 51 s.mtimecmp s.mtime h.mtimecmp h.mtime).mono ?_
    rintro e w' ⟨rfl, q', rfl⟩
    exact ⟨rfl, _, drewN_two _ _ _⟩
  · rintro W' ⟨q, rfl⟩
    have h := h.drawn q
    refine (asks_0 (W.drewN q) x s.pend s.en0 s.li0 s.prio h.pend h.en0 h.li0 h.prio).mono ?_
    rintro e w' ⟨rfl, q', rfl⟩
    exact ⟨rfl, _, drewN_two _ _ _⟩
  · rintro W' ⟨q, rfl⟩
    have h := h.drawn q
    refine (asks_1 (W.drewN q) x s.pend s.en1 s.li1 s.prio h.pend h.en1 h.li1 h.prio).mono ?_
    rintro e w' ⟨rfl, q', rfl⟩
    exact ⟨rfl, _, drewN_two _ _ _⟩
theorem CodeAt.offs {W W' : World} {x r : Nat} {s : CSt} (h : CodeAt W x r s) {L : List Nat} (ho : Offs L W W') (hx : x ∉ L) (hr : r ∉ L) : CodeAt W' x r s := h.of (ho.block x h.lt.1 hx) (ho.block r h.lt.2 hr)
theorem RamIn.put {W : World} {g cap : Nat} {xs : List Int} (h : RamIn W g cap xs) (i : Nat) (v : Int) (v0 : 0 ≤ v) (v1 : v < 256) : RamIn (W.setCell ⟨g, i, none⟩ (.int .u8 v)) g cap (xs.set i v) := by
  obtain ⟨cur, h1, h2, h3, h4, h5, h6, h7⟩ := h
  refine ⟨_, heap_set_same W g i _ cur _ _ h1, by simp [h2], by simpa using h3, h4, ?_, by simpa using h6, fun b hb => ?_⟩
  · rw [Array.toList_setIfInBounds, List.length_set, List.take_set, h5, List.map_set]
  · rcases List.mem_or_eq_of_mem_set hb with hb | rfl
    · exact h7 b hb
    · exact ⟨v0, v1⟩
theorem RamAt.put {W : World} {g : Nat} {xs : List Int} (h : RamAt W g xs) (i : Nat) (v : Int) (v0 : 0 ≤ v) (v1 : v < 256) : RamAt (W.setCell ⟨g, i, none⟩ (.int .u8 v)) g (xs.set i v) := by
  obtain ⟨h1, h6, h7⟩ := h
  refine ⟨(heap_set_same W g i _ _ _ _ h1).trans ?_, by simpa using h6, fun b hb => ?_⟩
  · rw [List.map_set]; simp
  · rcases List.mem_or_eq_of_mem_set hb with hb | rfl
    · exact h7 b hb
    · exact ⟨v0, v1⟩
end Go.Proofs.YteiideeechnekaaGreatDoor
