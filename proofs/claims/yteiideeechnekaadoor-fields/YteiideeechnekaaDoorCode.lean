/-
  decode.apart, decode.Word and hart.Decode: for every word, in a world where the tables hold what they hold.
-/
import Derived.Test.YteiideeechnekaaDoorApart
namespace Go.Proofs.YteiideeechnekaaDoor
open Go.RowKit

structure Tabs (W : World) : Prop where
  size : 11 ≤ W.heap.size
  c0 : ∀ f : Nat, f < 8 → W.cell? ⟨0, f, none⟩ = some (.int .i64 (tJ f))
  c1 : ∀ f : Nat, f < 8 → W.cell? ⟨1, f, none⟩ = some (.int .i64 (tB f))
  c2 : ∀ f : Nat, f < 8 → W.cell? ⟨2, f, none⟩ = some (.int .i64 (tL f))
  c3 : ∀ f : Nat, f < 8 → W.cell? ⟨3, f, none⟩ = some (.int .i64 (tS f))
  c4 : ∀ f : Nat, f < 8 → W.cell? ⟨4, f, none⟩ = some (.int .i64 (tF f))
  c5 : ∀ f : Nat, f < 8 → W.cell? ⟨5, f, none⟩ = some (.int .i64 (tI f))
  c6 : ∀ f : Nat, f < 8 → W.cell? ⟨6, f, none⟩ = some (.int .i64 (tH0 f))
  c7 : ∀ f : Nat, f < 8 → W.cell? ⟨7, f, none⟩ = some (.int .i64 (tH2 f))
  c8 : ∀ f : Nat, f < 8 → W.cell? ⟨8, f, none⟩ = some (.int .i64 (tR0 f))
  c9 : ∀ f : Nat, f < 8 → W.cell? ⟨9, f, none⟩ = some (.int .i64 (tR2 f))
  c10 : ∀ f : Nat, f < 8 → W.cell? ⟨10, f, none⟩ = some (.int .i64 (tC f))

theorem Tabs.below {W W' : World} (T : Tabs W) {B : Nat} (hB : 11 ≤ B) (hb : Below B W W') : Tabs W' :=
  ⟨Nat.le_trans T.size hb.size, fun f h => (hb.cell (p := ⟨0, f, none⟩) (by simp; omega)).trans (T.c0 f h), fun f h => (hb.cell (p := ⟨1, f, none⟩) (by simp; omega)).trans (T.c1 f h), fun f h => (hb.cell (p := ⟨2, f, none⟩) (by simp; omega)).trans (T.c2 f h), fun f h => (hb.cell (p := ⟨3, f, none⟩) (by simp; omega)).trans (T.c3 f h), fun f h => (hb.cell (p := ⟨4, f, none⟩) (by simp; omega)).trans (T.c4 f h), fun f h => (hb.cell (p := ⟨5, f, none⟩) (by simp; omega)).trans (T.c5 f h), fun f h => (hb.cell (p := ⟨6, f, none⟩) (by simp; omega)).trans (T.c6 f h), fun f h => (hb.cell (p := ⟨7, f, none⟩) (by simp; omega)).trans (T.c7 f h), fun f h => (hb.cell (p := ⟨8, f, none⟩) (by simp; omega)).trans (T.c8 f h), fun f h => (hb.cell (p := ⟨9, f, none⟩) (by simp; omega)).trans (T.c9 f h), fun f h => (hb.cell (p := ⟨10, f, none⟩) (by simp; omega)).trans (T.c10 f h)⟩

theorem f3_bits (w : Int) (h0 : 0 ≤ w) (h1 : w < 4294967296) : bits .and .u32 (w / 4096) 7 = (f3 w : Int) := by
  have := mask_u32 3 (by decide) (w / 4096) (by omega) (by omega)
  have e : ((2 : Int) ^ 3 - 1) = 7 := by decide
  rw [e] at this
  rw [this]; unfold f3; simp; omega
theorem f3_lt (w : Int) : f3 w < 8 := by unfold f3; omega

theorem apart_any (w : Int) (W : World) (h0 : 0 ≤ w) (h1 : w < 4294967296) (T : Tabs W) :
    Calls Tryd.prog 13 #[.int .u32 w] W fun e W' => e = .returned (apartI w).val ∧ Below W.heap.size W W' := by
  have hf := f3_bits w h0 h1
  have hf8 := f3_lt w
  have hf8' : ((f3 w : Nat) : Int) < 8 := by omega
  by_cases k55 : w % 128 = 55
  · refine (apart_lui w W h0 h1 k55).mono ?_; rintro e W' ⟨rfl, hb⟩; exact ⟨by simp [apartI, k55, Ins.val], hb⟩
  by_cases k23 : w % 128 = 23
  · refine (apart_auipc w W h0 h1 k23).mono ?_; rintro e W' ⟨rfl, hb⟩; exact ⟨by simp [apartI, k23, Ins.val], hb⟩
  by_cases k111 : w % 128 = 111
  · refine (apart_jal w W h0 h1 k111).mono ?_; rintro e W' ⟨rfl, hb⟩; exact ⟨by simp [apartI, k111, Ins.val, immJ], hb⟩
  by_cases k103 : w % 128 = 103
  · refine (apart_jalr w _ _ W h0 h1 T.size hf hf8' (T.c0 _ hf8) k103).mono ?_; rintro e W' ⟨rfl, hb⟩; exact ⟨by simp [apartI, k103, Ins.val, immI], hb⟩
  by_cases k99 : w % 128 = 99
  · refine (apart_branch w _ _ W h0 h1 T.size hf hf8' (T.c1 _ hf8) k99).mono ?_; rintro e W' ⟨rfl, hb⟩; exact ⟨by simp [apartI, k99, Ins.val, immB], hb⟩
  by_cases k3 : w % 128 = 3
  · refine (apart_load w _ _ W h0 h1 T.size hf hf8' (T.c2 _ hf8) k3).mono ?_; rintro e W' ⟨rfl, hb⟩; exact ⟨by simp [apartI, k3, Ins.val, immI], hb⟩
  by_cases k35 : w % 128 = 35
  · refine (apart_store w _ _ W h0 h1 T.size hf hf8' (T.c3 _ hf8) k35).mono ?_; rintro e W' ⟨rfl, hb⟩; exact ⟨by simp [apartI, k35, Ins.val, immS], hb⟩
  by_cases k19 : w % 128 = 19
  · by_cases hi : tI (f3 w) = 0
    · refine (apart_imm_no w _ _ _ W h0 h1 T.size hf hf8' (hi ▸ T.c5 _ hf8) (T.c6 _ hf8) (T.c7 _ hf8) k19).mono ?_; rintro e W' ⟨rfl, hb⟩; exact ⟨by simp [apartI, k19, Ins.val, hi], hb⟩
    · refine (apart_imm_yes w _ _ W h0 h1 T.size hf hf8' (T.c5 _ hf8) (by simpa using hi) k19).mono ?_; rintro e W' ⟨rfl, hb⟩; exact ⟨by simp [apartI, k19, Ins.val, immI, hi], hb⟩
  by_cases k51 : w % 128 = 51
  · refine (apart_reg w _ _ _ W h0 h1 T.size hf hf8' (T.c8 _ hf8) (T.c9 _ hf8) k51).mono ?_; rintro e W' ⟨rfl, hb⟩; exact ⟨by simp [apartI, k51, Ins.val], hb⟩
  by_cases k15 : w % 128 = 15
  · refine (apart_fence w _ _ W h0 h1 T.size hf hf8' (T.c4 _ hf8) k15).mono ?_; rintro e W' ⟨rfl, hb⟩; exact ⟨by simp [apartI, k15, Ins.val], hb⟩
  by_cases k115 : w % 128 = 115
  · by_cases e1 : w = 115
    · subst e1; exact apart_ecall W
    by_cases e2 : w = 1048691
    · subst e2; exact apart_ebreak W
    by_cases e3 : w = 270532723
    · subst e3; exact apart_sret W
    by_cases e4 : w = 273678451
    · subst e4; exact apart_wfi W
    by_cases e5 : w = 807403635
    · subst e5; exact apart_mret W
    refine (apart_csr w _ _ W h0 h1 T.size hf hf8' (T.c10 _ hf8) (by simpa using e1) (by simpa using e2) (by simpa using e3) (by simpa using e4) (by simpa using e5) k115).mono ?_; rintro e W' ⟨rfl, hb⟩; exact ⟨by simp [apartI, k115, Ins.val, e1, e2, e3, e4, e5], hb⟩
  refine (apart_none w W h0 h1 (by simpa using k55) (by simpa using k23) (by simpa using k111) (by simpa using k103) (by simpa using k99) (by simpa using k3) (by simpa using k35) (by simpa using k19) (by simpa using k51) (by simpa using k15) (by simpa using k115)).mono ?_
  rintro e W' ⟨rfl, hb⟩
  exact ⟨by simp [apartI, k55, k23, k111, k103, k99, k3, k35, k19, k51, k15, k115, Ins.val, Ins.zero], hb⟩

theorem alloc_cell (w : World) (b : Nat) (h : b < w.heap.size) : (∀ o j, (w.alloc o).cell? ⟨b, j, none⟩ = w.cell? ⟨b, j, none⟩) ∧ (∀ o j, (w.alloc o).frozen? ⟨b, j, none⟩ = w.frozen? ⟨b, j, none⟩) :=
  ⟨fun o j => Below.cell ((Below.refl w.heap.size w).alloc (Nat.le_refl _) o) (p := ⟨b, j, none⟩) h, fun o j => Below.frozen ((Below.refl w.heap.size w).alloc (Nat.le_refl _) o) (p := ⟨b, j, none⟩) h⟩

theorem word_yes (w : Int) (W : World) (d : Ins) (hA : ∀ o, Calls Tryd.prog 13 #[.int .u32 w] (W.alloc o) fun e W' => e = .returned (.agg #[.int .i64 d.op, .int .i64 d.rd, .int .i64 d.r1, .int .i64 d.r2, .int .u32 d.imm]) ∧ Below (W.alloc o).heap.size (W.alloc o) W') (hop : (d.op == 0) = false) :
    Calls Tryd.prog 7 #[.int .u32 w] W fun e W' => e = .returned (.agg #[.int .i64 d.op, .int .i64 d.rd, .int .i64 d.r1, .int .i64 d.r2, .int .u32 d.imm]) ∧ Below W.heap.size W W' := by
  go_enter Tryd.func7, Tryd.ntmps7
  go_wp2_with (go_at_call 13; refine (hA _).mono ?_; rintro e w' ⟨rfl, hb⟩; obtain ⟨hc, hfz⟩ := bcell hb; have hs := hb.size; simp at hs; obtain ⟨ha, hfa⟩ := alloc_cell w' W.heap.size (by omega))
  exact bodyPost_ret (v := .agg #[.int .i64 d.op, .int .i64 d.rd, .int .i64 d.r1, .int .i64 d.r2, .int .u32 d.imm]) (by simp [results, Tryd.results7, go_sem, hc, ha]) rfl ⟨rfl, below5 ((((Below.refl _ _).alloc (Nat.le_refl _) _).trans (hb.mono (by simp))).alloc (by omega) _) (Nat.le_refl _) _ _ _ _ _⟩
theorem word_no (w : Int) (W : World) (a b c d : Int) (hA : ∀ o, Calls Tryd.prog 13 #[.int .u32 w] (W.alloc o) fun e W' => e = .returned (.agg #[.int .i64 0, .int .i64 a, .int .i64 b, .int .i64 c, .int .u32 d]) ∧ Below (W.alloc o).heap.size (W.alloc o) W') :
    Calls Tryd.prog 7 #[.int .u32 w] W fun e W' => e = .returned (.agg #[.int .i64 0, .int .i64 0, .int .i64 0, .int .i64 0, .int .u32 0]) ∧ Below W.heap.size W W' := by
  go_enter Tryd.func7, Tryd.ntmps7
  go_wp2_with (go_at_call 13; refine (hA _).mono ?_; rintro e w' ⟨rfl, hb⟩; obtain ⟨hc, hfz⟩ := bcell hb; have hs := hb.size; simp at hs; obtain ⟨ha, hfa⟩ := alloc_cell w' W.heap.size (by omega))
  exact bodyPost_ret (v := .agg #[.int .i64 0, .int .i64 0, .int .i64 0, .int .i64 0, .int .u32 0]) (by simp [results, Tryd.results7, go_sem, hc, ha]) rfl ⟨rfl, below5 ((((Below.refl _ _).alloc (Nat.le_refl _) _).trans (hb.mono (by simp))).alloc (by omega) _) (Nat.le_refl _) _ _ _ _ _⟩

theorem word_any (w : Int) (W : World) (h0 : 0 ≤ w) (h1 : w < 4294967296) (T : Tabs W) :
    Calls Tryd.prog 7 #[.int .u32 w] W fun e W' => e = .returned (dec w).val ∧ Below W.heap.size W W' := by
  have hA := fun o => apart_any w (W.alloc o) h0 h1 (T.below T.size ((Below.refl _ _).alloc (Nat.le_refl _) o))
  by_cases hop : (apartI w).op = 0
  · have e : dec w = Ins.zero := by unfold dec; rw [if_pos hop]
    rw [e]
    refine word_no w W (apartI w).rd (apartI w).r1 (apartI w).r2 (apartI w).imm fun o => ?_
    have := hA o
    unfold Ins.val at this
    rw [hop] at this
    exact this
  · have e : dec w = apartI w := by unfold dec; rw [if_neg hop]
    rw [e]
    exact word_yes w W (apartI w) hA (by simpa using hop)

theorem decode_of (w : Int) (W : World) (d : Ins) (hA : ∀ o, Calls Tryd.prog 7 #[.int .u32 w] (W.alloc o) fun e W' => e = .returned (.agg #[.int .i64 d.op, .int .i64 d.rd, .int .i64 d.r1, .int .i64 d.r2, .int .u32 d.imm]) ∧ Below (W.alloc o).heap.size (W.alloc o) W') :
    Calls Tryd.prog 5 #[.int .u32 w] W fun e W' => e = .returned (.agg #[.int .i64 d.op, .int .i64 d.rd, .int .i64 d.r1, .int .i64 d.r2, .int .u32 d.imm]) ∧ Below W.heap.size W W' := by
  go_enter Tryd.func5, Tryd.ntmps5
  go_wp2_with (go_at_call 7; refine (hA _).mono ?_; rintro e w' ⟨rfl, hb⟩; obtain ⟨hc, hfz⟩ := bcell hb)
  exact bodyPost_ret (v := .agg #[.int .i64 d.op, .int .i64 d.rd, .int .i64 d.r1, .int .i64 d.r2, .int .u32 d.imm]) (by simp [results, Tryd.results5, go_sem, hc]) rfl ⟨rfl, below5 (((Below.refl _ _).alloc (Nat.le_refl _) _).trans (hb.mono (by simp))) (Nat.le_refl _) _ _ _ _ _⟩

theorem decode_any (w : Int) (W : World) (h0 : 0 ≤ w) (h1 : w < 4294967296) (T : Tabs W) :
    Calls Tryd.prog 5 #[.int .u32 w] W fun e W' => e = .returned (.agg #[.int .i64 (dec w).op, .int .i64 (dec w).rd, .int .i64 (dec w).r1, .int .i64 (dec w).r2, .int .u32 (dec w).imm]) ∧ Below W.heap.size W W' :=
  decode_of w W (dec w) fun o => word_any w (W.alloc o) h0 h1 (T.below T.size ((Below.refl _ _).alloc (Nat.le_refl _) o))
end Go.Proofs.YteiideeechnekaaDoor
