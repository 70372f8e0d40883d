/-
  The code's small readers: fresh, Due, Asks.
-/
import Derived.Test.YteiideeechnekaaBase
import Derived.Laws.CopyOwn
namespace Go.Proofs.Yteiideeechnekaa
open Go.RowKit

theorem info_u32 : ∃ i, Try.prog.info? 27 = some i ∧ i.zero = some (.int .u32 0) ∧ i.size = 1 ∧ i.bytes = 4 := by
  have h : (Try.prog.info? 27).map (fun i => (i.zero, i.size, i.bytes)) = some (some (.int .u32 0), 1, 4) := by kernel_rfl
  obtain ⟨i, hi, he⟩ := Option.map_eq_some_iff.1 h
  simp only [Prod.mk.injEq] at he
  exact ⟨i, hi, he.1, he.2.1, he.2.2⟩
theorem size_u32 : (Try.prog.info? 27).map (·.size) = some 1 := by kernel_rfl

theorem fresh_any (W : World) (x off n cap : Nat) (xs : List Int) (hn : xs.length = n) (hn6 : n ≤ 64) (hc : ∀ i, i < n → W.cell? ⟨x, off + i, none⟩ = some (.int .u32 (xs.getD i 0))) :
    Calls Try.prog 22 #[.slice (some ⟨x, off, none⟩) n cap] W fun e W' => e = .returned (.slice (some ⟨W.heap.size, 0, none⟩) n n) ∧ RowAt W' W.heap.size n xs ∧ Below W.heap.size W W' ∧ W.heap.size + 1 ≤ W'.heap.size := by
  obtain ⟨i0, hi, hz, hsz, hby⟩ := info_u32
  have hmk := fun w => run_make (P := Try.prog) w 29 27 i0 (.int .u32 0) Try.underlying29 hi hz .i64 .i64 (n : Int) (n : Int) (by omega) (Int.le_refl _) (by rw [hby]; omega) (by omega)
  simp only [Int.toNat_natCast, hsz, Nat.mul_one] at hmk
  have HC : Hid (∀ i, i < n → W.cell? ⟨x, off + i, none⟩ = some (.int .u32 (xs.getD i 0))) := hc
  have HN : Hid (xs.length = n) := hn
  clear hc hn
  obtain ⟨w2, hrun, hrow, hb2⟩ : ∃ w2, (∀ ty, (Builtin.copy_ #[29, 29] ty #[.slice (some ⟨W.heap.size, 0, none⟩) n n, .slice (some ⟨x, off, none⟩) n cap]).run Try.prog (W.alloc (Obj.cells (madeCells #[Value.int .u32 0] n) 27)) = .ok (goInt n) w2) ∧ RowAt w2 W.heap.size n xs ∧ Below W.heap.size W w2 := by
    have hl : (xs.map (Value.int .u32)).length = n := by simp [HN.out]
    have hrun := fun ty => run_copy_row (P := Try.prog) (W.alloc (Obj.cells (madeCells #[Value.int .u32 0] n) 27)) 29 29 ty 27 W.heap.size 0 n n ⟨x, off, none⟩ n cap (madeCells #[Value.int .u32 0] n) 27 (xs.map (Value.int .u32)) Try.underlying29 size_u32 (heap_alloc_new W _) (by simp [HN.out])
      (fun j v hj => by
        have hl : j < n := by have := (List.getElem?_eq_some_iff.1 hj).1; simpa [HN.out] using this
        have hl' : j < xs.length := by rw [HN.out]; exact hl
        have e : (⟨x, off, none⟩ : Addr).add j = ⟨x, off + j, none⟩ := by unfold Addr.add; split <;> simp_all
        rw [e, Below.cell ((Below.refl W.heap.size W).alloc (Nat.le_refl _) _) (p := ⟨x, off + j, none⟩) (World.block_lt_of_cell? W _ (HC.out j hl)), HC.out j hl, ← hj]
        simp [List.getD, hl'])
      (by simp [HN.out, size_madeCells]) (fun u hu => by simp only [List.mem_map] at hu; obtain ⟨z, _, rfl⟩ := hu; rfl)
    rw [hl] at hrun
    refine ⟨_, hrun, ⟨_, setRow_heap _ W.heap.size _ _ 27 (0, 0) (heap_alloc_new W _), ?_, by rw [HN.out]; exact Nat.le_refl _, by unfold maxLen; omega, ?_⟩, below_setRow ((Below.refl _ _).alloc (Nat.le_refl _) _) (Nat.le_refl _) _⟩
    · simp [HN.out, size_madeCells]
    · simp [HN.out]
  have hsz2 : W.heap.size + 1 ≤ w2.heap.size := hrow.lt
  have HR : Hid (RowAt w2 W.heap.size n xs) := hrow
  clear hrow
  go_enter Try.func22, Try.ntmps22
  go_wp2
  go_ret
  exact ⟨rfl, HR.out, hb2, hsz2⟩

theorem due_any (W : World) (x o : Nat) (tc tm : Int) (h1 : W.cell? ⟨x, o + 1, none⟩ = some (.int .u32 tc)) (h2 : W.cell? ⟨x, o + 2, none⟩ = some (.int .u32 tm)) :
    Calls Try.prog 49 #[.pointer (some ⟨x, o, none⟩)] W fun e W' => e = .returned (.bool (decide (tc ≤ tm))) ∧ ∃ q, W' = W.drewN q := by
  go_enter Try.func49, Try.ntmps49
  go_wp2_with fail
  go_quiet (fail)
  go_wp2
  go_ret
  exact ⟨rfl, _, rfl⟩

def askB (pend en lim : Int) (prio : List Int) (j : Nat) : Bool := (bits .and .u32 (bits .and .u32 pend en / 2 ^ j) 1 == 1) && decide (lim < prio[j]?.getD 0)
def askC (pend en lim : Int) (prio : List Int) : Bool := (List.range 7).any fun i => askB pend en lim prio (i + 1)

theorem askC_false {pend en lim : Int} {prio : List Int} (h : ∀ j, 1 ≤ j → j < 8 → askB pend en lim prio j = false) : askC pend en lim prio = false := by
  unfold askC
  rw [List.any_eq_false]
  intro i hi
  simp at hi
  simp [h (i + 1) (by omega) (by omega)]
theorem askC_true {pend en lim : Int} {prio : List Int} (j : Nat) (h1 : 1 ≤ j) (h2 : j < 8) (h : askB pend en lim prio j = true) : askC pend en lim prio = true := by
  unfold askC
  rw [List.any_eq_true]
  exact ⟨j - 1, by simp; omega, by rw [show j - 1 + 1 = j by omega]; exact h⟩

def bestC (pend en lim : Int) (prio : List Int) : Nat → Nat × Int
  | 0 => (0, lim)
  | k + 1 => if askB pend en (bestC pend en lim prio k).2 prio (k + 1) then (k + 1, prio[k + 1]?.getD 0) else bestC pend en lim prio k
theorem bestC_le (pend en lim : Int) (prio : List Int) (k : Nat) : (bestC pend en lim prio k).1 ≤ k := by
  induction k with
  | zero => exact Nat.le_refl _
  | succ k ih =>
    unfold bestC
    split
    · exact Nat.le_refl _
    · exact Nat.le_succ_of_le ih
theorem bestC_yes {pend en lim : Int} {prio : List Int} {k : Nat} (h1 : 1 ≤ k) (h : askB pend en (bestC pend en lim prio (k - 1)).2 prio k = true) : bestC pend en lim prio k = (k, prio[k]?.getD 0) := by
  obtain ⟨n, rfl⟩ : ∃ n, k = n + 1 := ⟨k - 1, by omega⟩
  rw [show n + 1 - 1 = n from rfl] at h
  unfold bestC; rw [if_pos h]
theorem bestC_no {pend en lim : Int} {prio : List Int} {k : Nat} (h1 : 1 ≤ k) (h : askB pend en (bestC pend en lim prio (k - 1)).2 prio k = false) : bestC pend en lim prio k = bestC pend en lim prio (k - 1) := by
  obtain ⟨n, rfl⟩ : ∃ n, k = n + 1 := ⟨k - 1, by omega⟩
  rw [show n + 1 - 1 = n from rfl] at h
  conv => lhs; unfold bestC
  rw [if_neg (by rw [h]; decide)]; rfl
theorem bestC_ask (pend en lim : Int) (prio : List Int) (k : Nat) : ((bestC pend en lim prio k).1 = 0 ∧ (bestC pend en lim prio k).2 = lim ∧ ∀ j, 1 ≤ j → j ≤ k → askB pend en lim prio j = false) ∨ ((bestC pend en lim prio k).1 ≠ 0 ∧ ∃ j, 1 ≤ j ∧ j ≤ k ∧ askB pend en lim prio j = true) := by
  induction k with
  | zero => exact .inl ⟨rfl, rfl, fun j h1 h2 => absurd h2 (by omega)⟩
  | succ k ih =>
    cases hb : askB pend en (bestC pend en lim prio k).2 prio (k + 1)
    · rw [bestC_no (by omega) (show askB pend en (bestC pend en lim prio (k + 1 - 1)).2 prio (k + 1) = false from hb), show k + 1 - 1 = k from rfl]
      rcases ih with ⟨a, b, c⟩ | ⟨a, j, h1, h2, h3⟩
      · refine .inl ⟨a, b, fun j h1 h2 => ?_⟩
        by_cases e : j = k + 1
        · subst e; rw [b] at hb; exact hb
        · exact c j h1 (by omega)
      · exact .inr ⟨a, j, h1, by omega, h3⟩
    · rw [bestC_yes (by omega) (show askB pend en (bestC pend en lim prio (k + 1 - 1)).2 prio (k + 1) = true from hb)]
      refine .inr ⟨by simp, ?_⟩
      rcases ih with ⟨a, b, c⟩ | ⟨a, j, h1, h2, h3⟩
      · rw [b] at hb; exact ⟨k + 1, by omega, Nat.le_refl _, hb⟩
      · exact ⟨j, h1, by omega, h3⟩
theorem best_asks (pend en lim : Int) (prio : List Int) : (((bestC pend en lim prio 7).1 : Int) != 0) = askC pend en lim prio := by
  rcases bestC_ask pend en lim prio 7 with ⟨a, _, c⟩ | ⟨a, j, h1, h2, h3⟩
  · rw [a, askC_false fun j h1 h2 => c j h1 (by omega)]; rfl
  · rw [askC_true j h1 (by omega) h3]; simp; omega

set_option maxHeartbeats 1000000 in
theorem best_any (W : World) (x o : Nat) (pend en lim : Int) (prio : List Int) (hp : W.cell? ⟨x, o + 8, none⟩ = some (.int .u32 pend))
    (hpr : ∀ i, i < 8 → W.cell? ⟨x, o + i, none⟩ = some (.int .u32 (prio[i]?.getD 0))) :
    Calls Try.prog 51 #[.pointer (some ⟨x, o, none⟩), .int .u32 en, .int .u32 lim] W fun e W' => e = .returned (.int .u32 ((bestC pend en lim prio 7).1 : Nat)) ∧ ∃ q, W' = W.drewN q := by
  have HP : Hid (∀ i, i < 8 → W.cell? ⟨x, o + i, none⟩ = some (.int .u32 (prio[i]?.getD 0))) := hpr
  clear hpr
  go_enter Try.func51, Try.ntmps51
  go_wp2
  go_loopw [7, 8, 9] (fun f t i wr => ∃ k q : Nat, 1 ≤ k ∧ k ≤ 8 ∧ i = .int .u32 k ∧ f = .int .u32 ((bestC pend en lim prio (k - 1)).1 : Nat) ∧ t = .int .u32 (bestC pend en lim prio (k - 1)).2 ∧ wr = W.drewN q) (fun _ _ i _ => 8 - (intOf i).toNat)
  case atStart => exact ⟨1, 0, Nat.le_refl _, by decide, rfl, rfl, rfl, rfl⟩
  case round =>
    obtain ⟨k, q, hk1, hk8, rfl, rfl, rfl, rfl⟩ := hrel
    by_cases hlt : k < 8
    · have c1 := HP.out k hlt
      have hi : (k : Int) < 8 := by omega
      have BY := fun h => bestC_yes (pend := pend) (en := en) (lim := lim) (prio := prio) hk1 h
      have BN := fun h => bestC_no (pend := pend) (en := en) (lim := lim) (prio := prio) hk1 h
      obtain ⟨F, hF⟩ : ∃ F, F = bestC pend en lim prio (k - 1) := ⟨_, rfl⟩
      rw [← hF] at BY BN ⊢
      have HY : Hid (askB pend en F.2 prio k = true → bestC pend en lim prio k = (k, prio[k]?.getD 0)) := BY
      have HN : Hid (askB pend en F.2 prio k = false → bestC pend en lim prio k = F) := BN
      clear BY BN hF
      obtain ⟨f, tp⟩ := F
      by_cases hb : (bits .and .u32 (bits .and .u32 pend en / 2 ^ k) 1 == 1) = true
      · by_cases hg : tp < prio[k]?.getD 0
        · have HQ : Hid (bestC pend en lim prio k = (k, prio[k]?.getD 0)) := HY.out (by unfold askB; rw [hb, Bool.true_and]; exact decide_eq_true hg)
          go_wp2
          go_roundw
          case rel => exact ⟨k + 1, _, by omega, by omega, by go_num, by rw [show k + 1 - 1 = k from rfl, HQ.out], by rw [show k + 1 - 1 = k from rfl, HQ.out], rfl⟩
          case measure => simp [intOf]; omega
        · have hg' : prio[k]?.getD 0 ≤ tp := by omega
          have HQ : Hid (bestC pend en lim prio k = (f, tp)) := HN.out (by simp only [askB, Bool.and_eq_false_iff, decide_eq_false_iff_not]; exact .inr hg)
          clear hg
          go_wp2
          go_roundw
          case rel => exact ⟨k + 1, _, by omega, by omega, by go_num, by rw [show k + 1 - 1 = k from rfl, HQ.out], by rw [show k + 1 - 1 = k from rfl, HQ.out], rfl⟩
          case measure => simp [intOf]; omega
      · have hb' : (bits .and .u32 (bits .and .u32 pend en / 2 ^ k) 1 == 1) = false := by simpa using hb
        have HQ : Hid (bestC pend en lim prio k = (f, tp)) := HN.out (by simp only [askB, hb', Bool.false_and])
        clear hb
        go_wp2
        go_roundw
        case rel => exact ⟨k + 1, _, by omega, by omega, by go_num, by rw [show k + 1 - 1 = k from rfl, HQ.out], by rw [show k + 1 - 1 = k from rfl, HQ.out], rfl⟩
        case measure => simp [intOf]; omega
    · obtain rfl : k = 8 := by omega
      go_wp2
      go_ret
      exact ⟨rfl, _, rfl⟩
theorem asks_0 (W : World) (x : Nat) (pend en lim : Int) (prio : List Int) (hp : W.cell? ⟨x, 62, none⟩ = some (.int .u32 pend)) (he : W.cell? ⟨x, 65, none⟩ = some (.int .u32 en)) (hl : W.cell? ⟨x, 67, none⟩ = some (.int .u32 lim))
    (hpr : ∀ i, i < 8 → W.cell? ⟨x, 54 + i, none⟩ = some (.int .u32 (prio[i]?.getD 0))) :
    Calls Try.prog 50 #[.pointer (some ⟨x, 54, none⟩), .int .i64 0] W fun e W' => e = .returned (.bool (askC pend en lim prio)) ∧ ∃ q, W' = W.drewN q := by
  have HB : Hid (∀ q, Calls Try.prog 51 #[.pointer (some ⟨x, 54, none⟩), .int .u32 en, .int .u32 lim] (W.drewN q) fun e W' => e = .returned (.int .u32 ((bestC pend en lim prio 7).1 : Nat)) ∧ ∃ q', W' = (W.drewN q).drewN q') := fun q => best_any (W.drewN q) x 54 pend en lim prio hp hpr
  rw [← best_asks]
  generalize (bestC pend en lim prio 7).1 = F at HB ⊢
  clear hp hpr
  go_enter Try.func50, Try.ntmps50
  go_wp2_with fail
  have hS : W.drew.cell? ⟨x, 65, none⟩ = some (.int .u32 en) ∧ W.drew.cell? ⟨x, 67, none⟩ = some (.int .u32 lim) := ⟨he, hl⟩
  refine wp_region_held (S := fun w' => w'.cell? ⟨x, 65, none⟩ = some (.int .u32 en) ∧ w'.cell? ⟨x, 67, none⟩ = some (.int .u32 lim)) (by kernel_rfl) ?_
  change wpAnyH _ _ _ _ _ _ _ _ (W.drew)
  refine tK 0 (.pointer (some ⟨x, 54, none⟩)) rfl (by kernel_rfl) (fun _ _ _ h => h) (fun _ => by kernel_rfl) hS ?_
  refine tK 1 (.pointer (some ⟨x, 54, none⟩)) rfl (by kernel_rfl) (fun _ _ _ h => h) (fun _ => by kernel_rfl) hS ?_
  refine tK 2 (.int .i64 0) rfl (by kernel_rfl) (fun _ _ _ h => h) (fun _ => by kernel_rfl) hS ?_
  refine tK 3 (.pointer (some ⟨x, 54, none⟩)) rfl (by kernel_rfl) (fun _ _ _ h => h) (fun _ => by kernel_rfl) hS ?_
  refine tK 4 (.pointer (some ⟨x, 65, none⟩)) rfl (by kernel_rfl) (fun _ _ _ h => h) (fun _ => by kernel_rfl) hS ?_
  refine tK 5 (.pointer (some ⟨x, 65, none⟩)) rfl (by kernel_rfl) (fun _ _ _ h => h) (fun _ => by kernel_rfl) hS ?_
  refine tU 6 rfl rfl (by kernel_rfl) (fun _ _ _ h => h) (by kernel_rfl) (fun _ h => h.1) hS ?_
  refine tK 7 (.pointer (some ⟨x, 54, none⟩)) rfl (by kernel_rfl) (fun _ _ _ h => h) (fun _ => by kernel_rfl) hS ?_
  refine tK 8 (.int .i64 0) rfl (by kernel_rfl) (fun _ _ _ h => h) (fun _ => by kernel_rfl) hS ?_
  refine tK 9 (.pointer (some ⟨x, 54, none⟩)) rfl (by kernel_rfl) (fun _ _ _ h => h) (fun _ => by kernel_rfl) hS ?_
  refine tK 10 (.pointer (some ⟨x, 67, none⟩)) rfl (by kernel_rfl) (fun _ _ _ h => h) (fun _ => by kernel_rfl) hS ?_
  refine tK 11 (.pointer (some ⟨x, 67, none⟩)) rfl (by kernel_rfl) (fun _ _ _ h => h) (fun _ => by kernel_rfl) hS ?_
  refine tU 12 rfl rfl (by kernel_rfl) (fun _ _ _ h => h) (by kernel_rfl) (fun _ h => h.2) hS ?_
  refine tA 13 (by kernel_rfl) (wpOp_step rfl fun K hK => ?_)
  go_simp
  refine (HB.out 1).mono ?_
  rintro e w2 ⟨rfl, q2, rfl⟩
  have hS : ((W.drewN 1).drewN q2).cell? ⟨x, 65, none⟩ = some (.int .u32 en) ∧ ((W.drewN 1).drewN q2).cell? ⟨x, 67, none⟩ = some (.int .u32 lim) := ⟨he, hl⟩
  refine hK _ _ ⟨hS, ?_⟩
  clear hK K
  refine tK 14 (.bool ((((F : Nat) : Int)) != 0)) rfl (by kernel_rfl) (fun _ _ _ h => h) (fun _ => by kernel_rfl) hS ?_
  refine tK 15 (.bool ((((F : Nat) : Int)) != 0)) rfl (by kernel_rfl) (fun _ _ _ h => h) (fun _ => by kernel_rfl) hS ?_
  refine wpAnyH_done (by kernel_rfl) ?_ _
  go_wp2_with fail
  go_ret
  exact ⟨rfl, _, drewN_two _ _ _⟩
theorem asks_1 (W : World) (x : Nat) (pend en lim : Int) (prio : List Int) (hp : W.cell? ⟨x, 62, none⟩ = some (.int .u32 pend)) (he : W.cell? ⟨x, 66, none⟩ = some (.int .u32 en)) (hl : W.cell? ⟨x, 68, none⟩ = some (.int .u32 lim))
    (hpr : ∀ i, i < 8 → W.cell? ⟨x, 54 + i, none⟩ = some (.int .u32 (prio[i]?.getD 0))) :
    Calls Try.prog 50 #[.pointer (some ⟨x, 54, none⟩), .int .i64 1] W fun e W' => e = .returned (.bool (askC pend en lim prio)) ∧ ∃ q, W' = W.drewN q := by
  have HB : Hid (∀ q, Calls Try.prog 51 #[.pointer (some ⟨x, 54, none⟩), .int .u32 en, .int .u32 lim] (W.drewN q) fun e W' => e = .returned (.int .u32 ((bestC pend en lim prio 7).1 : Nat)) ∧ ∃ q', W' = (W.drewN q).drewN q') := fun q => best_any (W.drewN q) x 54 pend en lim prio hp hpr
  rw [← best_asks]
  generalize (bestC pend en lim prio 7).1 = F at HB ⊢
  clear hp hpr
  go_enter Try.func50, Try.ntmps50
  go_wp2_with fail
  have hS : W.drew.cell? ⟨x, 66, none⟩ = some (.int .u32 en) ∧ W.drew.cell? ⟨x, 68, none⟩ = some (.int .u32 lim) := ⟨he, hl⟩
  refine wp_region_held (S := fun w' => w'.cell? ⟨x, 66, none⟩ = some (.int .u32 en) ∧ w'.cell? ⟨x, 68, none⟩ = some (.int .u32 lim)) (by kernel_rfl) ?_
  change wpAnyH _ _ _ _ _ _ _ _ (W.drew)
  refine tK 0 (.pointer (some ⟨x, 54, none⟩)) rfl (by kernel_rfl) (fun _ _ _ h => h) (fun _ => by kernel_rfl) hS ?_
  refine tK 1 (.pointer (some ⟨x, 54, none⟩)) rfl (by kernel_rfl) (fun _ _ _ h => h) (fun _ => by kernel_rfl) hS ?_
  refine tK 2 (.int .i64 1) rfl (by kernel_rfl) (fun _ _ _ h => h) (fun _ => by kernel_rfl) hS ?_
  refine tK 3 (.pointer (some ⟨x, 54, none⟩)) rfl (by kernel_rfl) (fun _ _ _ h => h) (fun _ => by kernel_rfl) hS ?_
  refine tK 4 (.pointer (some ⟨x, 65, none⟩)) rfl (by kernel_rfl) (fun _ _ _ h => h) (fun _ => by kernel_rfl) hS ?_
  refine tK 5 (.pointer (some ⟨x, 66, none⟩)) rfl (by kernel_rfl) (fun _ _ _ h => h) (fun _ => by kernel_rfl) hS ?_
  refine tU 6 rfl rfl (by kernel_rfl) (fun _ _ _ h => h) (by kernel_rfl) (fun _ h => h.1) hS ?_
  refine tK 7 (.pointer (some ⟨x, 54, none⟩)) rfl (by kernel_rfl) (fun _ _ _ h => h) (fun _ => by kernel_rfl) hS ?_
  refine tK 8 (.int .i64 1) rfl (by kernel_rfl) (fun _ _ _ h => h) (fun _ => by kernel_rfl) hS ?_
  refine tK 9 (.pointer (some ⟨x, 54, none⟩)) rfl (by kernel_rfl) (fun _ _ _ h => h) (fun _ => by kernel_rfl) hS ?_
  refine tK 10 (.pointer (some ⟨x, 67, none⟩)) rfl (by kernel_rfl) (fun _ _ _ h => h) (fun _ => by kernel_rfl) hS ?_
  refine tK 11 (.pointer (some ⟨x, 68, none⟩)) rfl (by kernel_rfl) (fun _ _ _ h => h) (fun _ => by kernel_rfl) hS ?_
  refine tU 12 rfl rfl (by kernel_rfl) (fun _ _ _ h => h) (by kernel_rfl) (fun _ h => h.2) hS ?_
  refine tA 13 (by kernel_rfl) (wpOp_step rfl fun K hK => ?_)
  go_simp
  refine (HB.out 1).mono ?_
  rintro e w2 ⟨rfl, q2, rfl⟩
  have hS : ((W.drewN 1).drewN q2).cell? ⟨x, 66, none⟩ = some (.int .u32 en) ∧ ((W.drewN 1).drewN q2).cell? ⟨x, 68, none⟩ = some (.int .u32 lim) := ⟨he, hl⟩
  refine hK _ _ ⟨hS, ?_⟩
  clear hK K
  refine tK 14 (.bool ((((F : Nat) : Int)) != 0)) rfl (by kernel_rfl) (fun _ _ _ h => h) (fun _ => by kernel_rfl) hS ?_
  refine tK 15 (.bool ((((F : Nat) : Int)) != 0)) rfl (by kernel_rfl) (fun _ _ _ h => h) (fun _ => by kernel_rfl) hS ?_
  refine wpAnyH_done (by kernel_rfl) ?_ _
  go_wp2_with fail
  go_ret
  exact ⟨rfl, _, drewN_two _ _ _⟩
end Go.Proofs.Yteiideeechnekaa
