/-
  hartref.Decode: the walk.
-/
import Derived.Test.YteiideeechnekaaDoorTable
import Derived.Deep.AppendLies
import Derived.Test.YteiideeechnekaaDoorCode
namespace Go.Proofs.YteiideeechnekaaDoor
open Go.RowKit

theorem info32 : ∃ i, Tryd.prog.info? 32 = some i ∧ i.zero = some (.agg #[.int .i64 0, .int .u32 0, .int .u32 0, .int .u8 0]) ∧ i.size = 4 ∧ i.bytes = 24 := by
  have h : (Tryd.prog.info? 32).map (fun i => (i.zero, i.size, i.bytes)) = some (some (.agg #[.int .i64 0, .int .u32 0, .int .u32 0, .int .u8 0]), 4, 24) := by kernel_rfl
  obtain ⟨i, hi, he⟩ := Option.map_eq_some_iff.1 h
  simp only [Prod.mk.injEq] at he
  exact ⟨i, hi, he.1, he.2.1, he.2.2⟩

theorem grown_of_below {w w' : World} (hb : Below w.heap.size w w') : w.grownBy w' none := ⟨hb.os, hb.tape, hb.output, hb.size, fun k hk _ => hb.block k hk⟩
theorem owns_below {w w' : World} {base : Nat} {e : TypeId} {size : Nat} {v : Value} {n : Nat} {xs : List Value} (h : w.ownsRow base e size v n xs) (hb : Below w.heap.size w w') : w'.ownsRow base e size v n xs :=
  h.kept (grown_of_below hb) (by cases hv : v.ownBlock <;> simp)
theorem owns_base {w : World} {base base' : Nat} {e : TypeId} {size : Nat} {v : Value} {n : Nat} {xs : List Value} (h : w.ownsRow base e size v n xs) (hb : base' ≤ base) : w.ownsRow base' e size v n xs := by
  refine ⟨h.1, ?_⟩
  rcases h.2 with hn | ⟨g, cap, cur, hv, hg, r⟩
  · exact .inl hn
  · exact .inr ⟨g, cap, cur, hv, Nat.le_trans hb hg, r⟩
theorem one_cell (n off : Nat) : ∀ u ∈ span n off, u.oneCell' = true := by
  intro u hu
  simp only [span, List.mem_flatMap, rowCells, List.mem_cons, List.not_mem_nil, or_false] at hu
  obtain ⟨i, _, h⟩ := hu
  rcases h with rfl | rfl | rfl | rfl <;> rfl

theorem flat_at (f : Nat → List Value) (hf : ∀ i, (f i).length = 4) (n k j : Nat) (hk : k < n) (hj : j < 4) : ((List.range n).flatMap f)[k * 4 + j]? = (f k)[j]? := by
  have hl : ∀ m, ((List.range m).flatMap f).length = m * 4 := by
    intro m
    induction m with
    | zero => rfl
    | succ m ih => rw [List.range_succ, List.flatMap_append, List.length_append, ih]; simp [hf]; omega
  induction n with
  | zero => omega
  | succ n ih =>
    rw [List.range_succ, List.flatMap_append]
    by_cases h : k < n
    · rw [List.getElem?_append_left (by rw [hl]; omega)]
      exact ih h
    · obtain rfl : k = n := by omega
      rw [List.getElem?_append_right (by rw [hl]; omega), hl]
      simp
theorem all_cells (w : World) (B g c : Nat) (own : w.ownsRow B 32 4 (.slice (some ⟨g, 0, none⟩) 49 c) 49 (span 49 0)) (k : Nat) (hk : k < 49) :
    w.cell? ⟨g, k * 4, none⟩ = some (.int .i64 (rop k)) ∧ w.cell? ⟨g, k * 4 + 1, none⟩ = some (.int .u32 (rmask k)) ∧ w.cell? ⟨g, k * 4 + 2, none⟩ = some (.int .u32 (rmatch k)) ∧ w.cell? ⟨g, k * 4 + 3, none⟩ = some (.int .u8 (rform k)) := by
  have h := own.cells (g := g) rfl
  have at_ := fun j hj => flat_at (fun i => rowCells (i + 0)) (fun _ => rfl) 49 k j hk hj
  have e : ∀ j, (⟨g, 0, none⟩ : Addr).add j = ⟨g, j, none⟩ := fun j => by unfold Addr.add; split <;> simp_all
  refine ⟨?_, ?_, ?_, ?_⟩
  · have := h (k * 4 + 0) _ (at_ 0 (by decide)); rwa [e] at this
  · have := h (k * 4 + 1) _ (at_ 1 (by decide)); rwa [e] at this
  · have := h (k * 4 + 2) _ (at_ 2 (by decide)); rwa [e] at this
  · have := h (k * 4 + 3) _ (at_ 3 (by decide)); rwa [e] at this
theorem forms (k : Nat) (hk : k < 49) : rform k = 73 ∨ rform k = 83 ∨ rform k = 66 ∨ rform k = 85 ∨ rform k = 74 ∨ rform k = 72 ∨ rform k = 67 ∨ rform k = 82 ∨ rform k = 78 := by
  have h : ∀ k : Fin 49, rform k.val = 73 ∨ rform k.val = 83 ∨ rform k.val = 66 ∨ rform k.val = 85 ∨ rform k.val = 74 ∨ rform k.val = 72 ∨ rform k.val = 67 ∨ rform k.val = 82 ∨ rform k.val = 78 := by decide
  exact h ⟨k, hk⟩
theorem span_all : span 18 0 ++ (span 19 18 ++ span 12 37) = span 49 0 := by kernel_rfl

set_option maxRecDepth 100000 in
set_option maxHeartbeats 1000000 in
theorem rdecode_any (w : Int) (W : World) (h0 : 0 ≤ w) (h1 : w < 4294967296) :
    Calls Tryd.prog 6 #[.int .u32 w] W fun e W' => (∃ op rd r1 r2 imm, e = .returned (.agg #[.int .i64 op, .int .i64 rd, .int .i64 r1, .int .i64 r2, .int .u32 imm]) ∧ dec w = ⟨op, rd, r1, r2, imm⟩) ∧ Below W.heap.size W W' := by
  obtain ⟨i0, hi, hz, hsz, hby⟩ := info32
  go_enter Tryd.func6, Tryd.ntmps6
  go_wp2_with fail
  refine (rjumps_any _ (Below.refl _ _) (Nat.le_refl _)).mono ?_
  rintro e w1 ⟨b1, hb1, rfl, bel1, sz1, own1⟩
  go_wp2_with fail
  refine (rsums_any _ (Below.refl _ _) (Nat.le_refl _)).mono ?_
  rintro e w2 ⟨b2, hb2, rfl, bel2, sz2, own2⟩
  have own1' := owns_below own1 bel2
  clear own1
  go_wp2_with fail
  refine (rsystem_any _ (Below.refl _ _) (Nat.le_refl _)).mono ?_
  rintro e w3 ⟨b3, hb3, rfl, bel3, sz3, own3⟩
  have own1 := owns_below own1' bel3
  have lt2 := (own2.lt b2 rfl).2
  have own2' := owns_below own2 bel3
  have lt3 := (own3.lt b3 rfl).2
  have bs1 := bel1.size
  simp at bs1
  have bel := (bel1.trans (bel2.mono (by simp; omega))).trans (bel3.mono (by simp; omega))
  simp at bel
  clear own1' own2 sz1 hb1 bel1 bel2 bel3
  go_wp2_with (at_builtin; refine wpList_append_lies _ rfl _ _ 29 rfl (W.heap.size + 1) 32 i0 _ 4 24 Tryd.underlying29 hi hz hsz hby rfl (by decide) (.slice none 0 0) 0 [] rfl (World.ownsRow_nil _ _ _ _) ⟨b1, 0, none⟩ 18 18 (span 18 0) rfl own1.1 (own1.cells rfl) (one_cell _ _) (by decide) (by decide) (by decide) (by omega) w3.heap.size rfl ?_)
  intro g1 c1 w4 own4 gr4 at4 lt4
  have own2 := own2'.kept gr4 (.inr (by simp [Value.ownBlock]))
  have own3' := own3.kept gr4 (.inr (by simp [Value.ownBlock]))
  have eg1 : g1 = w3.heap.size := by rcases at4 with h | h; · cases h
                                     · exact h
  have bel' := bel.grown gr4 (by omega) (fun k hk => by cases hk)
  have bs4 := gr4.size
  clear own1 own2' own3 gr4 at4 bel
  go_wp2_with (at_builtin; refine wpList_append_lies _ rfl _ _ 29 rfl (W.heap.size + 1) 32 i0 _ 4 24 Tryd.underlying29 hi hz hsz hby rfl (by decide) (.slice (some ⟨g1, 0, none⟩) 18 c1) 18 (span 18 0) rfl own4 ⟨b2, 0, none⟩ 19 19 (span 19 18) rfl own2.1 (own2.cells rfl) (one_cell _ _) (by decide) (by decide) (by decide) (by omega) w4.heap.size rfl ?_)
  intro g2 c2 w5 own5 gr5 at5 lt5
  have own3 := own3'.kept gr5 (.inr (by simp [Value.ownBlock]; omega))
  have bel := bel'.grown gr5 (by omega) (fun k hk => by simp [Value.ownBlock] at hk; omega)
  have bs5 := gr5.size
  have eg2 : W.heap.size + 1 ≤ g2 := by
    rcases at5 with h | h
    · simp [Value.ownBlock] at h; omega
    · omega
  clear own2 own3' own4 gr5 at5 bel'
  go_wp2_with (at_builtin; refine wpList_append_lies _ rfl _ _ 29 rfl (W.heap.size + 1) 32 i0 _ 4 24 Tryd.underlying29 hi hz hsz hby rfl (by decide) (.slice (some ⟨g2, 0, none⟩) 37 c2) 37 (span 18 0 ++ span 19 18) rfl own5 ⟨b3, 0, none⟩ 12 12 (span 12 37) rfl own3.1 (own3.cells rfl) (one_cell _ _) (by decide) (by decide) (by decide) (by omega) w5.heap.size rfl ?_)
  intro g c w6 own gr6 at6 lt6
  have bel' := bel.grown gr6 (by omega) (fun k hk => by simp [Value.ownBlock] at hk; omega)
  rw [span_all] at own
  have bs6 : W.heap.size + 1 ≤ w6.heap.size := by have := gr6.size; omega
  clear own3 own5 gr6 at6 bel lt2 lt3 bs1 bs4 bs5 lt4 lt5 eg1 eg2 hb2 hb3 sz2 sz3 hi hz hsz hby
  go_wp2_with fail
  go_loopw [7] (fun i wr => ∃ k : Nat, k ≤ 49 ∧ i = .int .i64 k ∧ wr.ownsRow (W.heap.size + 1) 32 4 (.slice (some ⟨g, 0, none⟩) 49 c) 49 (span 49 0) ∧ Below (W.heap.size + 1) (W.alloc (Obj.cells #[.int .i64 0, .int .i64 0, .int .i64 0, .int .i64 0, .int .u32 0] 24)) wr ∧ W.heap.size + 1 ≤ wr.heap.size ∧ (∀ j, j < k → ¬ hit w j)) (fun i _ => 49 - (intOf i).toNat)
  case atStart => exact ⟨0, Nat.zero_le _, rfl, own, bel', bs6, fun j hj => absurd hj (by omega)⟩
  case round =>
    obtain ⟨k, hk, rfl, ownr, belr, bsr, hno⟩ := hrel
    clear own bel' bs6 lt6
    by_cases hlt : k < 49
    · obtain ⟨q0, q1, q2, q3⟩ := all_cells wr _ g c ownr k hlt
      have OW : Hid (wr.ownsRow (W.heap.size + 1) 32 4 (.slice (some ⟨g, 0, none⟩) 49 c) 49 (span 49 0)) := ownr
      clear ownr
      by_cases hh : hit w k
      · have hd := tells w h0 h1 k hlt hh
        have HD : Hid (dec w = mkI w k) := hd
        have hm : bits .and .u32 w (rmask k) = rmatch k := hh
        have hform := forms k hlt
        have a1 := alloc_cell wr W.heap.size (by omega)
        have c1 := a1.1
        have f1 := a1.2
        have c2 := fun o1 q => (alloc_cell ((wr.alloc o1).drewN q) W.heap.size (by show _ < (wr.alloc o1).heap.size; simp; omega)).1
        have f2 := fun o1 q => (alloc_cell ((wr.alloc o1).drewN q) W.heap.size (by show _ < (wr.alloc o1).heap.size; simp; omega)).2
        have rc := fun j => belr.cell (p := ⟨W.heap.size, j, none⟩) (by simp)
        have rf := fun j => belr.frozen (p := ⟨W.heap.size, j, none⟩) (by simp)
        clear hno hh hd a1 OW
        rcases hform with hF | hF | hF | hF | hF | hF | hF | hF | hF
        · go_wp2_with (first | (go_at_call_of 11 (Value.int IntKind.i64 7); refine (rb_7_5_0 _ _ h0 h1).mono ?_; rintro e w' ⟨rfl, q, rfl⟩) | (go_at_call_of 11 (Value.int IntKind.i64 15); refine (rb_15_5_0 _ _ h0 h1).mono ?_; rintro e w' ⟨rfl, q, rfl⟩) | (go_at_call_of 11 (Value.int IntKind.i64 20); refine (rb_20_5_0 _ _ h0 h1).mono ?_; rintro e w' ⟨rfl, q, rfl⟩) | (go_at_call_of 12 (Value.int IntKind.u8 73); refine (imm_I _ _ h0 h1).mono ?_; rintro e w' ⟨rfl, q, rfl⟩) | (go_at_call_of 12 (Value.int IntKind.u8 83); refine (imm_S _ _ h0 h1).mono ?_; rintro e w' ⟨rfl, q, rfl⟩) | (go_at_call_of 12 (Value.int IntKind.u8 66); refine (imm_B _ _ h0 h1).mono ?_; rintro e w' ⟨rfl, q, rfl⟩) | (go_at_call_of 12 (Value.int IntKind.u8 85); refine (imm_U _ _ h0 h1).mono ?_; rintro e w' ⟨rfl, q, rfl⟩) | (go_at_call_of 12 (Value.int IntKind.u8 74); refine (imm_J _ _ h0 h1).mono ?_; rintro e w' ⟨rfl, q, rfl⟩) | (go_at_call_of 12 (Value.int IntKind.u8 72); refine (imm_H _ _ h0 h1).mono ?_; rintro e w' ⟨rfl, q, rfl⟩) | (go_at_call_of 12 (Value.int IntKind.u8 67); refine (imm_C _ _ h0 h1).mono ?_; rintro e w' ⟨rfl, q, rfl⟩) | (go_at_call_of 12 (Value.int IntKind.u8 82); refine (imm_R _ _).mono ?_; rintro e w' ⟨rfl, q, rfl⟩) | (go_at_call_of 12 (Value.int IntKind.u8 78); refine (imm_N _ _).mono ?_; rintro e w' ⟨rfl, q, rfl⟩))
          exact bodyPost_ret (v := .agg #[.int .i64 (rop k), .int .i64 (w / 128 % 32), .int .i64 (w / 32768 % 32), .int .i64 (0), .int .u32 (immI w)]) (by simp [results, Tryd.results6, go_sem, rc, c1, c2]) rfl ⟨⟨_, _, _, _, _, rfl, by rw [HD.out]; simp [mkI, hF, immF]⟩, below5 ((below_drawn ((((Below.refl _ _).alloc (Nat.le_refl _) _).trans (belr.mono (by omega))).alloc (by omega) _) _).alloc (by show _ ≤ (wr.alloc _).heap.size; simp; omega) _) (Nat.le_refl _) _ _ _ _ _⟩
        · go_wp2_with (first | (go_at_call_of 11 (Value.int IntKind.i64 7); refine (rb_7_5_0 _ _ h0 h1).mono ?_; rintro e w' ⟨rfl, q, rfl⟩) | (go_at_call_of 11 (Value.int IntKind.i64 15); refine (rb_15_5_0 _ _ h0 h1).mono ?_; rintro e w' ⟨rfl, q, rfl⟩) | (go_at_call_of 11 (Value.int IntKind.i64 20); refine (rb_20_5_0 _ _ h0 h1).mono ?_; rintro e w' ⟨rfl, q, rfl⟩) | (go_at_call_of 12 (Value.int IntKind.u8 73); refine (imm_I _ _ h0 h1).mono ?_; rintro e w' ⟨rfl, q, rfl⟩) | (go_at_call_of 12 (Value.int IntKind.u8 83); refine (imm_S _ _ h0 h1).mono ?_; rintro e w' ⟨rfl, q, rfl⟩) | (go_at_call_of 12 (Value.int IntKind.u8 66); refine (imm_B _ _ h0 h1).mono ?_; rintro e w' ⟨rfl, q, rfl⟩) | (go_at_call_of 12 (Value.int IntKind.u8 85); refine (imm_U _ _ h0 h1).mono ?_; rintro e w' ⟨rfl, q, rfl⟩) | (go_at_call_of 12 (Value.int IntKind.u8 74); refine (imm_J _ _ h0 h1).mono ?_; rintro e w' ⟨rfl, q, rfl⟩) | (go_at_call_of 12 (Value.int IntKind.u8 72); refine (imm_H _ _ h0 h1).mono ?_; rintro e w' ⟨rfl, q, rfl⟩) | (go_at_call_of 12 (Value.int IntKind.u8 67); refine (imm_C _ _ h0 h1).mono ?_; rintro e w' ⟨rfl, q, rfl⟩) | (go_at_call_of 12 (Value.int IntKind.u8 82); refine (imm_R _ _).mono ?_; rintro e w' ⟨rfl, q, rfl⟩) | (go_at_call_of 12 (Value.int IntKind.u8 78); refine (imm_N _ _).mono ?_; rintro e w' ⟨rfl, q, rfl⟩))
          exact bodyPost_ret (v := .agg #[.int .i64 (rop k), .int .i64 (0), .int .i64 (w / 32768 % 32), .int .i64 (w / 1048576 % 32), .int .u32 (immS w)]) (by simp [results, Tryd.results6, go_sem, rc, c1, c2]) rfl ⟨⟨_, _, _, _, _, rfl, by rw [HD.out]; simp [mkI, hF, immF]⟩, below5 ((below_drawn ((((Below.refl _ _).alloc (Nat.le_refl _) _).trans (belr.mono (by omega))).alloc (by omega) _) _).alloc (by show _ ≤ (wr.alloc _).heap.size; simp; omega) _) (Nat.le_refl _) _ _ _ _ _⟩
        · go_wp2_with (first | (go_at_call_of 11 (Value.int IntKind.i64 7); refine (rb_7_5_0 _ _ h0 h1).mono ?_; rintro e w' ⟨rfl, q, rfl⟩) | (go_at_call_of 11 (Value.int IntKind.i64 15); refine (rb_15_5_0 _ _ h0 h1).mono ?_; rintro e w' ⟨rfl, q, rfl⟩) | (go_at_call_of 11 (Value.int IntKind.i64 20); refine (rb_20_5_0 _ _ h0 h1).mono ?_; rintro e w' ⟨rfl, q, rfl⟩) | (go_at_call_of 12 (Value.int IntKind.u8 73); refine (imm_I _ _ h0 h1).mono ?_; rintro e w' ⟨rfl, q, rfl⟩) | (go_at_call_of 12 (Value.int IntKind.u8 83); refine (imm_S _ _ h0 h1).mono ?_; rintro e w' ⟨rfl, q, rfl⟩) | (go_at_call_of 12 (Value.int IntKind.u8 66); refine (imm_B _ _ h0 h1).mono ?_; rintro e w' ⟨rfl, q, rfl⟩) | (go_at_call_of 12 (Value.int IntKind.u8 85); refine (imm_U _ _ h0 h1).mono ?_; rintro e w' ⟨rfl, q, rfl⟩) | (go_at_call_of 12 (Value.int IntKind.u8 74); refine (imm_J _ _ h0 h1).mono ?_; rintro e w' ⟨rfl, q, rfl⟩) | (go_at_call_of 12 (Value.int IntKind.u8 72); refine (imm_H _ _ h0 h1).mono ?_; rintro e w' ⟨rfl, q, rfl⟩) | (go_at_call_of 12 (Value.int IntKind.u8 67); refine (imm_C _ _ h0 h1).mono ?_; rintro e w' ⟨rfl, q, rfl⟩) | (go_at_call_of 12 (Value.int IntKind.u8 82); refine (imm_R _ _).mono ?_; rintro e w' ⟨rfl, q, rfl⟩) | (go_at_call_of 12 (Value.int IntKind.u8 78); refine (imm_N _ _).mono ?_; rintro e w' ⟨rfl, q, rfl⟩))
          exact bodyPost_ret (v := .agg #[.int .i64 (rop k), .int .i64 (0), .int .i64 (w / 32768 % 32), .int .i64 (w / 1048576 % 32), .int .u32 (immB w)]) (by simp [results, Tryd.results6, go_sem, rc, c1, c2]) rfl ⟨⟨_, _, _, _, _, rfl, by rw [HD.out]; simp [mkI, hF, immF]⟩, below5 ((below_drawn ((((Below.refl _ _).alloc (Nat.le_refl _) _).trans (belr.mono (by omega))).alloc (by omega) _) _).alloc (by show _ ≤ (wr.alloc _).heap.size; simp; omega) _) (Nat.le_refl _) _ _ _ _ _⟩
        · go_wp2_with (first | (go_at_call_of 11 (Value.int IntKind.i64 7); refine (rb_7_5_0 _ _ h0 h1).mono ?_; rintro e w' ⟨rfl, q, rfl⟩) | (go_at_call_of 11 (Value.int IntKind.i64 15); refine (rb_15_5_0 _ _ h0 h1).mono ?_; rintro e w' ⟨rfl, q, rfl⟩) | (go_at_call_of 11 (Value.int IntKind.i64 20); refine (rb_20_5_0 _ _ h0 h1).mono ?_; rintro e w' ⟨rfl, q, rfl⟩) | (go_at_call_of 12 (Value.int IntKind.u8 73); refine (imm_I _ _ h0 h1).mono ?_; rintro e w' ⟨rfl, q, rfl⟩) | (go_at_call_of 12 (Value.int IntKind.u8 83); refine (imm_S _ _ h0 h1).mono ?_; rintro e w' ⟨rfl, q, rfl⟩) | (go_at_call_of 12 (Value.int IntKind.u8 66); refine (imm_B _ _ h0 h1).mono ?_; rintro e w' ⟨rfl, q, rfl⟩) | (go_at_call_of 12 (Value.int IntKind.u8 85); refine (imm_U _ _ h0 h1).mono ?_; rintro e w' ⟨rfl, q, rfl⟩) | (go_at_call_of 12 (Value.int IntKind.u8 74); refine (imm_J _ _ h0 h1).mono ?_; rintro e w' ⟨rfl, q, rfl⟩) | (go_at_call_of 12 (Value.int IntKind.u8 72); refine (imm_H _ _ h0 h1).mono ?_; rintro e w' ⟨rfl, q, rfl⟩) | (go_at_call_of 12 (Value.int IntKind.u8 67); refine (imm_C _ _ h0 h1).mono ?_; rintro e w' ⟨rfl, q, rfl⟩) | (go_at_call_of 12 (Value.int IntKind.u8 82); refine (imm_R _ _).mono ?_; rintro e w' ⟨rfl, q, rfl⟩) | (go_at_call_of 12 (Value.int IntKind.u8 78); refine (imm_N _ _).mono ?_; rintro e w' ⟨rfl, q, rfl⟩))
          exact bodyPost_ret (v := .agg #[.int .i64 (rop k), .int .i64 (w / 128 % 32), .int .i64 (0), .int .i64 (0), .int .u32 (w / 4096 * 4096)]) (by simp [results, Tryd.results6, go_sem, rc, c1, c2]) rfl ⟨⟨_, _, _, _, _, rfl, by rw [HD.out]; simp [mkI, hF, immF]⟩, below5 ((below_drawn ((((Below.refl _ _).alloc (Nat.le_refl _) _).trans (belr.mono (by omega))).alloc (by omega) _) _).alloc (by show _ ≤ (wr.alloc _).heap.size; simp; omega) _) (Nat.le_refl _) _ _ _ _ _⟩
        · go_wp2_with (first | (go_at_call_of 11 (Value.int IntKind.i64 7); refine (rb_7_5_0 _ _ h0 h1).mono ?_; rintro e w' ⟨rfl, q, rfl⟩) | (go_at_call_of 11 (Value.int IntKind.i64 15); refine (rb_15_5_0 _ _ h0 h1).mono ?_; rintro e w' ⟨rfl, q, rfl⟩) | (go_at_call_of 11 (Value.int IntKind.i64 20); refine (rb_20_5_0 _ _ h0 h1).mono ?_; rintro e w' ⟨rfl, q, rfl⟩) | (go_at_call_of 12 (Value.int IntKind.u8 73); refine (imm_I _ _ h0 h1).mono ?_; rintro e w' ⟨rfl, q, rfl⟩) | (go_at_call_of 12 (Value.int IntKind.u8 83); refine (imm_S _ _ h0 h1).mono ?_; rintro e w' ⟨rfl, q, rfl⟩) | (go_at_call_of 12 (Value.int IntKind.u8 66); refine (imm_B _ _ h0 h1).mono ?_; rintro e w' ⟨rfl, q, rfl⟩) | (go_at_call_of 12 (Value.int IntKind.u8 85); refine (imm_U _ _ h0 h1).mono ?_; rintro e w' ⟨rfl, q, rfl⟩) | (go_at_call_of 12 (Value.int IntKind.u8 74); refine (imm_J _ _ h0 h1).mono ?_; rintro e w' ⟨rfl, q, rfl⟩) | (go_at_call_of 12 (Value.int IntKind.u8 72); refine (imm_H _ _ h0 h1).mono ?_; rintro e w' ⟨rfl, q, rfl⟩) | (go_at_call_of 12 (Value.int IntKind.u8 67); refine (imm_C _ _ h0 h1).mono ?_; rintro e w' ⟨rfl, q, rfl⟩) | (go_at_call_of 12 (Value.int IntKind.u8 82); refine (imm_R _ _).mono ?_; rintro e w' ⟨rfl, q, rfl⟩) | (go_at_call_of 12 (Value.int IntKind.u8 78); refine (imm_N _ _).mono ?_; rintro e w' ⟨rfl, q, rfl⟩))
          exact bodyPost_ret (v := .agg #[.int .i64 (rop k), .int .i64 (w / 128 % 32), .int .i64 (0), .int .i64 (0), .int .u32 (immJ w)]) (by simp [results, Tryd.results6, go_sem, rc, c1, c2]) rfl ⟨⟨_, _, _, _, _, rfl, by rw [HD.out]; simp [mkI, hF, immF]⟩, below5 ((below_drawn ((((Below.refl _ _).alloc (Nat.le_refl _) _).trans (belr.mono (by omega))).alloc (by omega) _) _).alloc (by show _ ≤ (wr.alloc _).heap.size; simp; omega) _) (Nat.le_refl _) _ _ _ _ _⟩
        · go_wp2_with (first | (go_at_call_of 11 (Value.int IntKind.i64 7); refine (rb_7_5_0 _ _ h0 h1).mono ?_; rintro e w' ⟨rfl, q, rfl⟩) | (go_at_call_of 11 (Value.int IntKind.i64 15); refine (rb_15_5_0 _ _ h0 h1).mono ?_; rintro e w' ⟨rfl, q, rfl⟩) | (go_at_call_of 11 (Value.int IntKind.i64 20); refine (rb_20_5_0 _ _ h0 h1).mono ?_; rintro e w' ⟨rfl, q, rfl⟩) | (go_at_call_of 12 (Value.int IntKind.u8 73); refine (imm_I _ _ h0 h1).mono ?_; rintro e w' ⟨rfl, q, rfl⟩) | (go_at_call_of 12 (Value.int IntKind.u8 83); refine (imm_S _ _ h0 h1).mono ?_; rintro e w' ⟨rfl, q, rfl⟩) | (go_at_call_of 12 (Value.int IntKind.u8 66); refine (imm_B _ _ h0 h1).mono ?_; rintro e w' ⟨rfl, q, rfl⟩) | (go_at_call_of 12 (Value.int IntKind.u8 85); refine (imm_U _ _ h0 h1).mono ?_; rintro e w' ⟨rfl, q, rfl⟩) | (go_at_call_of 12 (Value.int IntKind.u8 74); refine (imm_J _ _ h0 h1).mono ?_; rintro e w' ⟨rfl, q, rfl⟩) | (go_at_call_of 12 (Value.int IntKind.u8 72); refine (imm_H _ _ h0 h1).mono ?_; rintro e w' ⟨rfl, q, rfl⟩) | (go_at_call_of 12 (Value.int IntKind.u8 67); refine (imm_C _ _ h0 h1).mono ?_; rintro e w' ⟨rfl, q, rfl⟩) | (go_at_call_of 12 (Value.int IntKind.u8 82); refine (imm_R _ _).mono ?_; rintro e w' ⟨rfl, q, rfl⟩) | (go_at_call_of 12 (Value.int IntKind.u8 78); refine (imm_N _ _).mono ?_; rintro e w' ⟨rfl, q, rfl⟩))
          exact bodyPost_ret (v := .agg #[.int .i64 (rop k), .int .i64 (w / 128 % 32), .int .i64 (w / 32768 % 32), .int .i64 (0), .int .u32 (w / 1048576 % 32)]) (by simp [results, Tryd.results6, go_sem, rc, c1, c2]) rfl ⟨⟨_, _, _, _, _, rfl, by rw [HD.out]; simp [mkI, hF, immF]⟩, below5 ((below_drawn ((((Below.refl _ _).alloc (Nat.le_refl _) _).trans (belr.mono (by omega))).alloc (by omega) _) _).alloc (by show _ ≤ (wr.alloc _).heap.size; simp; omega) _) (Nat.le_refl _) _ _ _ _ _⟩
        · go_wp2_with (first | (go_at_call_of 11 (Value.int IntKind.i64 7); refine (rb_7_5_0 _ _ h0 h1).mono ?_; rintro e w' ⟨rfl, q, rfl⟩) | (go_at_call_of 11 (Value.int IntKind.i64 15); refine (rb_15_5_0 _ _ h0 h1).mono ?_; rintro e w' ⟨rfl, q, rfl⟩) | (go_at_call_of 11 (Value.int IntKind.i64 20); refine (rb_20_5_0 _ _ h0 h1).mono ?_; rintro e w' ⟨rfl, q, rfl⟩) | (go_at_call_of 12 (Value.int IntKind.u8 73); refine (imm_I _ _ h0 h1).mono ?_; rintro e w' ⟨rfl, q, rfl⟩) | (go_at_call_of 12 (Value.int IntKind.u8 83); refine (imm_S _ _ h0 h1).mono ?_; rintro e w' ⟨rfl, q, rfl⟩) | (go_at_call_of 12 (Value.int IntKind.u8 66); refine (imm_B _ _ h0 h1).mono ?_; rintro e w' ⟨rfl, q, rfl⟩) | (go_at_call_of 12 (Value.int IntKind.u8 85); refine (imm_U _ _ h0 h1).mono ?_; rintro e w' ⟨rfl, q, rfl⟩) | (go_at_call_of 12 (Value.int IntKind.u8 74); refine (imm_J _ _ h0 h1).mono ?_; rintro e w' ⟨rfl, q, rfl⟩) | (go_at_call_of 12 (Value.int IntKind.u8 72); refine (imm_H _ _ h0 h1).mono ?_; rintro e w' ⟨rfl, q, rfl⟩) | (go_at_call_of 12 (Value.int IntKind.u8 67); refine (imm_C _ _ h0 h1).mono ?_; rintro e w' ⟨rfl, q, rfl⟩) | (go_at_call_of 12 (Value.int IntKind.u8 82); refine (imm_R _ _).mono ?_; rintro e w' ⟨rfl, q, rfl⟩) | (go_at_call_of 12 (Value.int IntKind.u8 78); refine (imm_N _ _).mono ?_; rintro e w' ⟨rfl, q, rfl⟩))
          exact bodyPost_ret (v := .agg #[.int .i64 (rop k), .int .i64 (w / 128 % 32), .int .i64 (w / 32768 % 32), .int .i64 (0), .int .u32 (w / 1048576)]) (by simp [results, Tryd.results6, go_sem, rc, c1, c2]) rfl ⟨⟨_, _, _, _, _, rfl, by rw [HD.out]; simp [mkI, hF, immF]⟩, below5 ((below_drawn ((((Below.refl _ _).alloc (Nat.le_refl _) _).trans (belr.mono (by omega))).alloc (by omega) _) _).alloc (by show _ ≤ (wr.alloc _).heap.size; simp; omega) _) (Nat.le_refl _) _ _ _ _ _⟩
        · go_wp2_with (first | (go_at_call_of 11 (Value.int IntKind.i64 7); refine (rb_7_5_0 _ _ h0 h1).mono ?_; rintro e w' ⟨rfl, q, rfl⟩) | (go_at_call_of 11 (Value.int IntKind.i64 15); refine (rb_15_5_0 _ _ h0 h1).mono ?_; rintro e w' ⟨rfl, q, rfl⟩) | (go_at_call_of 11 (Value.int IntKind.i64 20); refine (rb_20_5_0 _ _ h0 h1).mono ?_; rintro e w' ⟨rfl, q, rfl⟩) | (go_at_call_of 12 (Value.int IntKind.u8 73); refine (imm_I _ _ h0 h1).mono ?_; rintro e w' ⟨rfl, q, rfl⟩) | (go_at_call_of 12 (Value.int IntKind.u8 83); refine (imm_S _ _ h0 h1).mono ?_; rintro e w' ⟨rfl, q, rfl⟩) | (go_at_call_of 12 (Value.int IntKind.u8 66); refine (imm_B _ _ h0 h1).mono ?_; rintro e w' ⟨rfl, q, rfl⟩) | (go_at_call_of 12 (Value.int IntKind.u8 85); refine (imm_U _ _ h0 h1).mono ?_; rintro e w' ⟨rfl, q, rfl⟩) | (go_at_call_of 12 (Value.int IntKind.u8 74); refine (imm_J _ _ h0 h1).mono ?_; rintro e w' ⟨rfl, q, rfl⟩) | (go_at_call_of 12 (Value.int IntKind.u8 72); refine (imm_H _ _ h0 h1).mono ?_; rintro e w' ⟨rfl, q, rfl⟩) | (go_at_call_of 12 (Value.int IntKind.u8 67); refine (imm_C _ _ h0 h1).mono ?_; rintro e w' ⟨rfl, q, rfl⟩) | (go_at_call_of 12 (Value.int IntKind.u8 82); refine (imm_R _ _).mono ?_; rintro e w' ⟨rfl, q, rfl⟩) | (go_at_call_of 12 (Value.int IntKind.u8 78); refine (imm_N _ _).mono ?_; rintro e w' ⟨rfl, q, rfl⟩))
          exact bodyPost_ret (v := .agg #[.int .i64 (rop k), .int .i64 (w / 128 % 32), .int .i64 (w / 32768 % 32), .int .i64 (w / 1048576 % 32), .int .u32 (0)]) (by simp [results, Tryd.results6, go_sem, rc, c1, c2]) rfl ⟨⟨_, _, _, _, _, rfl, by rw [HD.out]; simp [mkI, hF, immF]⟩, below5 ((below_drawn ((((Below.refl _ _).alloc (Nat.le_refl _) _).trans (belr.mono (by omega))).alloc (by omega) _) _).alloc (by show _ ≤ (wr.alloc _).heap.size; simp; omega) _) (Nat.le_refl _) _ _ _ _ _⟩
        · go_wp2_with (first | (go_at_call_of 11 (Value.int IntKind.i64 7); refine (rb_7_5_0 _ _ h0 h1).mono ?_; rintro e w' ⟨rfl, q, rfl⟩) | (go_at_call_of 11 (Value.int IntKind.i64 15); refine (rb_15_5_0 _ _ h0 h1).mono ?_; rintro e w' ⟨rfl, q, rfl⟩) | (go_at_call_of 11 (Value.int IntKind.i64 20); refine (rb_20_5_0 _ _ h0 h1).mono ?_; rintro e w' ⟨rfl, q, rfl⟩) | (go_at_call_of 12 (Value.int IntKind.u8 73); refine (imm_I _ _ h0 h1).mono ?_; rintro e w' ⟨rfl, q, rfl⟩) | (go_at_call_of 12 (Value.int IntKind.u8 83); refine (imm_S _ _ h0 h1).mono ?_; rintro e w' ⟨rfl, q, rfl⟩) | (go_at_call_of 12 (Value.int IntKind.u8 66); refine (imm_B _ _ h0 h1).mono ?_; rintro e w' ⟨rfl, q, rfl⟩) | (go_at_call_of 12 (Value.int IntKind.u8 85); refine (imm_U _ _ h0 h1).mono ?_; rintro e w' ⟨rfl, q, rfl⟩) | (go_at_call_of 12 (Value.int IntKind.u8 74); refine (imm_J _ _ h0 h1).mono ?_; rintro e w' ⟨rfl, q, rfl⟩) | (go_at_call_of 12 (Value.int IntKind.u8 72); refine (imm_H _ _ h0 h1).mono ?_; rintro e w' ⟨rfl, q, rfl⟩) | (go_at_call_of 12 (Value.int IntKind.u8 67); refine (imm_C _ _ h0 h1).mono ?_; rintro e w' ⟨rfl, q, rfl⟩) | (go_at_call_of 12 (Value.int IntKind.u8 82); refine (imm_R _ _).mono ?_; rintro e w' ⟨rfl, q, rfl⟩) | (go_at_call_of 12 (Value.int IntKind.u8 78); refine (imm_N _ _).mono ?_; rintro e w' ⟨rfl, q, rfl⟩))
          exact bodyPost_ret (v := .agg #[.int .i64 (rop k), .int .i64 (0), .int .i64 (0), .int .i64 (0), .int .u32 (0)]) (by simp [results, Tryd.results6, go_sem, rc, c1, c2]) rfl ⟨⟨_, _, _, _, _, rfl, by rw [HD.out]; simp [mkI, hF, immF]⟩, below5 ((below_drawn ((((Below.refl _ _).alloc (Nat.le_refl _) _).trans (belr.mono (by omega))).alloc (by omega) _) _).alloc (by show _ ≤ (wr.alloc _).heap.size; simp; omega) _) (Nat.le_refl _) _ _ _ _ _⟩
      · have hn : (bits .and .u32 w (rmask k) == rmatch k) = false := by simpa [hit] using hh
        have HN : Hid (∀ j, j < k + 1 → ¬ hit w j) := fun j hj => by
          by_cases e : j = k
          · rw [e]; exact hh
          · exact hno j (by omega)
        clear hno hh
        go_wp2
        go_roundw
        case rel => exact ⟨k + 1, by omega, by go_num, OW.out.alloc _, belr.alloc bsr _, by simp; omega, HN.out⟩
        case measure => simp [intOf]; omega
    · have hd := tells_none w h0 h1 (fun j hj => hno j (by omega))
      have rc := fun j => belr.cell (p := ⟨W.heap.size, j, none⟩) (by simp)
      have rf := fun j => belr.frozen (p := ⟨W.heap.size, j, none⟩) (by simp)
      have HD : Hid (dec w = Ins.zero) := hd
      clear hd hno ownr
      go_wp2
      exact bodyPost_ret (v := .agg #[.int .i64 0, .int .i64 0, .int .i64 0, .int .i64 0, .int .u32 0]) (by simp [results, Tryd.results6, go_sem, rc]) rfl ⟨⟨0, 0, 0, 0, 0, rfl, HD.out⟩, below5 (((Below.refl _ _).alloc (Nat.le_refl _) _).trans (belr.mono (by omega))) (Nat.le_refl _) _ _ _ _ _⟩
end Go.Proofs.YteiideeechnekaaDoor
