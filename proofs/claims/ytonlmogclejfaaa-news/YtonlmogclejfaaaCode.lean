/-
  The code's small readers: fresh, Due, Asks.
-/
import Derived.Test.YtonlmogclejfaaaLooks
import Derived.Laws.CopyOwn
namespace Go.Proofs.Ytonlmogclejfaaa
open Go.RowKit

theorem info_u32 : ∃ i, Try.prog.info? 34 = some i ∧ i.zero = some (.int .u32 0) ∧ i.size = 1 ∧ i.bytes = 4 := by
  have h : (Try.prog.info? 34).map (fun i => (i.zero, i.size, i.bytes)) = some (some (.int .u32 0), 1, 4) := by kernel_rfl
  obtain ⟨i, hi, he⟩ := Option.map_eq_some_iff.1 h
  simp only [Prod.mk.injEq] at he
  exact ⟨i, hi, he.1, he.2.1, he.2.2⟩
theorem size_u32 : (Try.prog.info? 34).map (·.size) = some 1 := by kernel_rfl

theorem fresh_any (W : World) (x off n cap : Nat) (xs : List Int) (hn : xs.length = n) (hn6 : n ≤ 64) (hc : ∀ i, i < n → W.cell? ⟨x, off + i, none⟩ = some (.int .u32 (xs.getD i 0))) :
    Calls Try.prog 16 #[.slice (some ⟨x, off, none⟩) n cap] W fun e W' => e = .returned (.slice (some ⟨W.heap.size, 0, none⟩) n n) ∧ RowAt W' W.heap.size n xs ∧ Below W.heap.size W W' ∧ W.heap.size + 1 ≤ W'.heap.size := by
  obtain ⟨i0, hi, hz, hsz, hby⟩ := info_u32
  have hmk := fun w => run_make (P := Try.prog) w 49 34 i0 (.int .u32 0) Try.underlying49 hi hz .i64 .i64 (n : Int) (n : Int) (by omega) (Int.le_refl _) (by rw [hby]; omega) (by omega)
  simp only [Int.toNat_natCast, hsz, Nat.mul_one] at hmk
  have HC : Hid (∀ i, i < n → W.cell? ⟨x, off + i, none⟩ = some (.int .u32 (xs.getD i 0))) := hc
  have HN : Hid (xs.length = n) := hn
  clear hc hn
  obtain ⟨w2, hrun, hrow, hb2⟩ : ∃ w2, (∀ ty, (Builtin.copy_ #[49, 49] ty #[.slice (some ⟨W.heap.size, 0, none⟩) n n, .slice (some ⟨x, off, none⟩) n cap]).run Try.prog (W.alloc (Obj.cells (madeCells #[Value.int .u32 0] n) 34)) = .ok (goInt n) w2) ∧ RowAt w2 W.heap.size n xs ∧ Below W.heap.size W w2 := by
    have hl : (xs.map (Value.int .u32)).length = n := by simp [HN.out]
    have hrun := fun ty => run_copy_row (P := Try.prog) (W.alloc (Obj.cells (madeCells #[Value.int .u32 0] n) 34)) 49 49 ty 34 W.heap.size 0 n n ⟨x, off, none⟩ n cap (madeCells #[Value.int .u32 0] n) 34 (xs.map (Value.int .u32)) Try.underlying49 size_u32 (heap_alloc_new W _) (by simp [HN.out])
      (fun j v hj => by
        have hl : j < n := by have := (List.getElem?_eq_some_iff.1 hj).1; simpa [HN.out] using this
        have hl' : j < xs.length := by rw [HN.out]; exact hl
        have e : (⟨x, off, none⟩ : Addr).add j = ⟨x, off + j, none⟩ := by unfold Addr.add; split <;> simp_all
        rw [e, Below.cell ((Below.refl W.heap.size W).alloc (Nat.le_refl _) _) (p := ⟨x, off + j, none⟩) (World.block_lt_of_cell? W _ (HC.out j hl)), HC.out j hl, ← hj]
        simp [List.getD, hl'])
      (by simp [HN.out, size_madeCells]) (fun u hu => by simp only [List.mem_map] at hu; obtain ⟨z, _, rfl⟩ := hu; rfl)
    rw [hl] at hrun
    refine ⟨_, hrun, ⟨_, setRow_heap _ W.heap.size _ _ 34 (0, 0) (heap_alloc_new W _), ?_, by rw [HN.out]; exact Nat.le_refl _, by unfold maxLen; omega, ?_⟩, below_setRow ((Below.refl _ _).alloc (Nat.le_refl _) _) (Nat.le_refl _) _⟩
    · simp [HN.out, size_madeCells]
    · simp [HN.out]
  have hsz2 : W.heap.size + 1 ≤ w2.heap.size := hrow.lt
  have HR : Hid (RowAt w2 W.heap.size n xs) := hrow
  clear hrow
  go_enter Try.func16, Try.ntmps16
  go_wp2
  go_ret
  exact ⟨rfl, HR.out, hb2, hsz2⟩

theorem drewN_two (W : World) (a b : Nat) : (W.drewN a).drewN b = W.drewN (a + b) := by simp [World.drewN, Nat.add_assoc]

theorem due_any (W : World) (x o : Nat) (tc tm : Int) (h1 : W.cell? ⟨x, o + 1, none⟩ = some (.int .u32 tc)) (h2 : W.cell? ⟨x, o + 2, none⟩ = some (.int .u32 tm)) :
    Calls Try.prog 27 #[.pointer (some ⟨x, o, none⟩)] W fun e W' => e = .returned (.bool (decide (tc ≤ tm))) ∧ ∃ q, W' = W.drewN q := by
  go_enter Try.func27, Try.ntmps27
  go_wp2_with fail
  go_quiet (fail)
  go_wp2
  go_ret
  exact ⟨rfl, _, rfl⟩

def askB (pend en lim : Int) (prio : List Int) (j : Nat) : Bool := (bits .and .u32 (bits .and .u32 pend en / 2 ^ j) 1 == 1) && decide (lim < prio[j]?.getD 0)
def askC (pend en lim : Int) (prio : List Int) : Bool := (List.range 7).any fun i => askB pend en lim prio (i + 1)

theorem askC_false {pend en lim : Int} {prio : List Int} (h : ∀ j, 1 ≤ j → j < 8 → askB pend en lim prio j = false) : askC pend en lim prio = false := by
  unfold askC
  rw [List.any_eq_false]
  intro i hi
  simp at hi
  simp [h (i + 1) (by omega) (by omega)]
theorem askC_true {pend en lim : Int} {prio : List Int} (j : Nat) (h1 : 1 ≤ j) (h2 : j < 8) (h : askB pend en lim prio j = true) : askC pend en lim prio = true := by
  unfold askC
  rw [List.any_eq_true]
  exact ⟨j - 1, by simp; omega, by rw [show j - 1 + 1 = j by omega]; exact h⟩

theorem asks_any (W : World) (x o c : Nat) (pend en lim : Int) (prio : List Int) (hc2 : (c : Int) < 2) (hp : W.cell? ⟨x, o + 8, none⟩ = some (.int .u32 pend)) (he : W.cell? ⟨x, o + 11 + c, none⟩ = some (.int .u32 en)) (hl : W.cell? ⟨x, o + 13 + c, none⟩ = some (.int .u32 lim))
    (hpr : ∀ i, i < 8 → W.cell? ⟨x, o + i, none⟩ = some (.int .u32 (prio[i]?.getD 0))) :
    Calls Try.prog 28 #[.pointer (some ⟨x, o, none⟩), .int .i64 c] W fun e W' => e = .returned (.bool (askC pend en lim prio)) ∧ ∃ q, W' = W.drewN q := by
  have HP : Hid (∀ i, i < 8 → W.cell? ⟨x, o + i, none⟩ = some (.int .u32 (prio[i]?.getD 0))) := hpr
  clear hpr
  obtain ⟨R, hR⟩ : ∃ R, R = askC pend en lim prio := ⟨_, rfl⟩
  rw [← hR]
  have HR : Hid (R = askC pend en lim prio) := hR
  clear hR
  go_enter Try.func28, Try.ntmps28
  go_wp2
  go_loopw [5] (fun i wr => ∃ k q : Nat, 1 ≤ k ∧ k ≤ 8 ∧ i = .int .i64 k ∧ wr = W.drewN q ∧ Hid (∀ j, 1 ≤ j → j < k → askB pend en lim prio j = false)) (fun i _ => 8 - (intOf i).toNat)
  case atStart => exact ⟨1, 0, Nat.le_refl _, by decide, rfl, rfl, fun j h1 h2 => absurd h2 (by omega)⟩
  case round =>
    obtain ⟨k, q, hk1, hk8, rfl, rfl, hno⟩ := hrel
    by_cases hlt : k < 8
    · have c1 := HP.out k hlt
      have hi : (k : Int) < 8 := by omega
      by_cases hb : (bits .and .u32 (bits .and .u32 pend en / 2 ^ k) 1 == 1) = true
      · by_cases hg : lim < prio[k]?.getD 0
        · obtain rfl : R = true := HR.out.trans (askC_true k hk1 hlt (by unfold askB; rw [hb, Bool.true_and]; exact decide_eq_true hg))
          go_wp2_with fail
          go_quiet (fail)
          go_wp2
          go_ret
          exact ⟨rfl, _, drewN_two _ _ _⟩
        · have hg' : prio[k]?.getD 0 ≤ lim := by omega
          clear hg
          go_wp2_with fail
          go_quiet (fail)
          go_wp2
          go_roundw
          case rel =>
            refine ⟨k + 1, _, by omega, by omega, by go_num, rfl, fun j h1 h2 => ?_⟩
            by_cases e : j = k
            · subst e; simp only [askB, Bool.and_eq_false_iff, decide_eq_false_iff_not]; exact .inr (by omega)
            · exact hno.out j h1 (by omega)
          case measure => simp [intOf]; omega
      · have hb' : (bits .and .u32 (bits .and .u32 pend en / 2 ^ k) 1 == 1) = false := by simpa using hb
        clear hb
        go_wp2_with fail
        go_quiet (fail)
        go_wp2
        go_roundw
        case rel =>
          refine ⟨k + 1, _, by omega, by omega, by go_num, rfl, fun j h1 h2 => ?_⟩
          by_cases e : j = k
          · subst e; simp only [askB, hb', Bool.false_and]
          · exact hno.out j h1 (by omega)
        case measure => simp [intOf]; omega
    · obtain rfl : R = false := HR.out.trans (askC_false (fun j h1 h2 => hno.out j h1 (by omega)))
      go_wp2
      go_ret
      exact ⟨rfl, _, rfl⟩
end Go.Proofs.Ytonlmogclejfaaa
