/-
  The document's complete.
-/
import Derived.Test.YtfdokajjlkcdgaaGreatDoorRefDev
namespace Go.Proofs.YtfdokajjlkcdgaaGreatDoor
open Go.RowKit

theorem tSl {ops : Array Oper} {Q : Exit → Act → World → Prop} {S : World → Prop} (i : Nat) {v : Value} {A : Addr} {X : Operand} {oi : Oper} {fuel : Nat} {listed : Array Bool} {a : Act} {w : World} (hi : ops[i]? = some oi) (hop : oi.op = .load 31 X)
    (h4 : (Region.noSelect ops && Region.free .any ops listed i && (Region.ready .any ops listed).contains i && Region.wanted oi (yielded ops a.tmps)) = true) (hQ : ∀ c a w, Q (.panic c) (a.put oi.dst v) w → Q (.panic c) a w)
    (he : a.eval X = .pointer (some A)) (hc : ∀ w, S w → w.cell? A = some v) (hS : S w) (h : wpAnyH Tryz.prog .any ops Q S fuel (listed.setIfInBounds i true) (a.put oi.dst v) w) : wpAnyH Tryz.prog .any ops Q S (fuel + 1) listed a w :=
  tL i hi hop h4 hQ he (fun w h => by simp [Instr.loadAt, go_sem, h]) hc hS h
theorem tBo {ops : Array Oper} {Q : Exit → Act → World → Prop} {S : World → Prop} (i : Nat) {v : Value} {A : Addr} {X : Operand} {oi : Oper} {fuel : Nat} {listed : Array Bool} {a : Act} {w : World} (hi : ops[i]? = some oi) (hop : oi.op = .load 4 X)
    (h4 : (Region.noSelect ops && Region.free .any ops listed i && (Region.ready .any ops listed).contains i && Region.wanted oi (yielded ops a.tmps)) = true) (hQ : ∀ c a w, Q (.panic c) (a.put oi.dst v) w → Q (.panic c) a w)
    (he : a.eval X = .pointer (some A)) (hc : ∀ w, S w → w.cell? A = some v) (hS : S w) (h : wpAnyH Tryz.prog .any ops Q S fuel (listed.setIfInBounds i true) (a.put oi.dst v) w) : wpAnyH Tryz.prog .any ops Q S (fuel + 1) listed a w :=
  tL i hi hop h4 hQ he (fun w h => by simp [Instr.loadAt, go_sem, h]) hc hS h
theorem tX {ops : Array Oper} {Q : Exit → Act → World → Prop} {S : World → Prop} (i : Nat) {g k cap : Nat} {X Y : Operand} {oi : Oper} {fuel : Nat} {listed : Array Bool} {a : Act} {w : World} (hi : ops[i]? = some oi) (hop : oi.op = .indexAddr 31 X Y)
    (h4 : (Region.noSelect ops && Region.free .any ops listed i && (Region.ready .any ops listed).contains i && Region.wanted oi (yielded ops a.tmps)) = true) (hQ : ∀ c a w, Q (.panic c) (a.put oi.dst (.pointer (some ⟨g, k * 4, none⟩))) w → Q (.panic c) a w)
    (hx : a.eval X = .slice (some ⟨g, 0, none⟩) 8 cap) (hy : a.eval Y = .int .u32 k) (hk8 : (k : Int) < 8) (hS : S w) (h : wpAnyH Tryz.prog .any ops Q S fuel (listed.setIfInBounds i true) (a.put oi.dst (.pointer (some ⟨g, k * 4, none⟩))) w) : wpAnyH Tryz.prog .any ops Q S (fuel + 1) listed a w := by
  simp only [Bool.and_eq_true] at h4
  exact wpAnyH_take hi h4.1.1.1 h4.1.1.2 h4.1.2 hQ (Or.inl ⟨h4.2, fun w _ => by
    unfold execOp
    rw [hop]
    simp [hx, hy]
    go_simp⟩) hS h
def complR (s : RSt) (c : Nat) (v : Int) : RSt :=
  if v < 1 ∨ 7 < v then s else if (bits .and .u32 (enAt s c / 2 ^ v.toNat) 1 == 0) = true then s
  else if (srcAt s v.toNat).served then setW (setV s v.toNat false) v.toNat ((srcAt s v.toNat).high || (srcAt s v.toNat).waits) else s

set_option maxHeartbeats 4000000 in
set_option maxRecDepth 100000 in
theorem compl_any (W : World) (p : Nat) (b : RBl) (s : RSt) (h : RefAt W p b s) (A : b.Apart p) (c : Nat) (hc : c < 2) (v : Int) (v0 : 0 ≤ v) :
    Calls Tryz.prog 150 #[.pointer (some ⟨p, 0, none⟩), .int .i64 c, .int .u32 v] W fun e W' => e = .returned (.tuple #[]) ∧ RefAt W' p b (complR s c v) ∧ Offs (b.l p) W W' := by
  have HF : Hid (RefAt W p b s) := h
  have k1 := h.csrc
  have k2 := h.cen
  have f1 := h.fs
  have e1 : W.cell? ⟨b.en, c, none⟩ = some (.int .u32 (enAt s c)) := by have := h.en.cell c (by rw [h.nen]; exact hc); simpa [enAt, List.getD] using this
  have hci : (c : Int) < 2 := by omega
  clear h hc
  by_cases h1 : v < 1
  · have HE : Hid (complR s c v = s) := by unfold Hid complR; rw [if_pos (Or.inl h1)]
    go_enter Tryz.func150, Tryz.ntmps150
    go_wp2
    exact bodyPost_ret (v := .tuple #[]) (by simp [results, Tryz.results150, go_sem]) rfl ⟨rfl, by rw [HE.out]; exact HF.out, Offs.refl _ _⟩
  by_cases h7 : 7 < v
  · have HE : Hid (complR s c v = s) := by unfold Hid complR; rw [if_pos (Or.inr h7)]
    go_enter Tryz.func150, Tryz.ntmps150
    go_wp2
    exact bodyPost_ret (v := .tuple #[]) (by simp [results, Tryz.results150, go_sem]) rfl ⟨rfl, by rw [HE.out]; exact HF.out, Offs.refl _ _⟩
  obtain ⟨k, rfl⟩ : ∃ k : Nat, v = k := ⟨v.toNat, by omega⟩
  have h1' : ¬ ((k : Int) < 1) := h1
  have hk8 : (k : Int) < 8 := by omega
  have ce : complR s c (k : Int) = if (bits .and .u32 (enAt s c / 2 ^ k) 1 == 0) = true then s else if (srcAt s k).served then setW (setV s k false) k ((srcAt s k).high || (srcAt s k).waits) else s := by
    unfold complR; rw [if_neg (by omega)]; rfl
  by_cases hb : (bits .and .u32 (enAt s c / 2 ^ k) 1 == 0) = true
  · have HE : Hid (complR s c k = s) := by unfold Hid; rw [ce, if_pos hb]
    clear ce
    go_enter Tryz.func150, Tryz.ntmps150
    go_wp2
    exact bodyPost_ret (v := .tuple #[]) (by simp [results, Tryz.results150, go_sem]) rfl ⟨rfl, by rw [HE.out]; exact HF.out, Offs.refl _ _⟩
  have hb' : (bits .and .u32 (enAt s c / 2 ^ k) 1 == 0) = false := by simpa using hb
  rw [if_neg hb] at ce
  clear hb
  have c1 := HF.out.served k (by omega)
  have c2 := HF.out.high k (by omega)
  have c3 := HF.out.waits k (by omega)
  by_cases hs : (srcAt s k).served = true
  · have HE : Hid (complR s c k = setW (setV s k false) k ((srcAt s k).high || (srcAt s k).waits)) := by unfold Hid; rw [ce, if_pos hs]
    clear ce
    obtain ⟨hi, ehi⟩ : ∃ x, x = (srcAt s k).high := ⟨_, rfl⟩
    obtain ⟨wa, ewa⟩ : ∃ x, x = (srcAt s k).waits := ⟨_, rfl⟩
    rw [← ehi] at c2
    rw [← ewa] at c3
    have HI : Hid (hi = (srcAt s k).high) := ehi
    have HA : Hid (wa = (srcAt s k).waits) := ewa
    clear ehi ewa
    have R1 := HF.out.put_served A k (by omega) false
    have d1 : (W.setCell ⟨b.src, k * 4 + 2, none⟩ (.bool false)).cell? ⟨b.src, k * 4, none⟩ = some (.bool hi) := (World.cell?_setCell_other _ _ _ _ (by intro e; injection e with e1 e2; omega)).trans c2
    have d2 : (W.setCell ⟨b.src, k * 4 + 2, none⟩ (.bool false)).cell? ⟨b.src, k * 4 + 1, none⟩ = some (.bool wa) := (World.cell?_setCell_other _ _ _ _ (by intro e; injection e with e1 e2; omega)).trans c3
    have d3 : (W.setCell ⟨b.src, k * 4 + 2, none⟩ (.bool false)).cell? ⟨p, 30, none⟩ = some (.slice (some ⟨b.src, 0, none⟩) 8 b.ksrc) := R1.csrc
    have HR : Hid (RefAt (W.setCell ⟨b.src, k * 4 + 2, none⟩ (.bool false)) p b (setV s k false)) := R1
    have O1 : Hid (Offs (b.l p) W (W.setCell ⟨b.src, k * 4 + 2, none⟩ (.bool false))) := (Offs.refl _ _).put (by simp [RBl.l]) _
    clear R1
    cases hi
    · go_enter Tryz.func150, Tryz.ntmps150
      go_wp2_with fail
      have f3 := HR.out.fs
      generalize W.setCell ⟨b.src, k * 4 + 2, none⟩ (.bool false) = w0 at HR d1 d2 d3 f3 O1 ⊢
      have hS : w0.drew.cell? ⟨p, 30, none⟩ = some (.slice (some ⟨b.src, 0, none⟩) 8 b.ksrc) ∧ w0.drew.cell? ⟨b.src, k * 4, none⟩ = some (.bool false) ∧ w0.drew.cell? ⟨b.src, k * 4 + 1, none⟩ = some (.bool wa) := ⟨d3, d1, d2⟩
      refine wp_region_held (S := fun w' => w'.cell? ⟨p, 30, none⟩ = some (.slice (some ⟨b.src, 0, none⟩) 8 b.ksrc) ∧ w'.cell? ⟨b.src, k * 4, none⟩ = some (.bool false) ∧ w'.cell? ⟨b.src, k * 4 + 1, none⟩ = some (.bool wa)) (by kernel_rfl) ?_
      change wpAnyH _ _ _ _ _ _ _ _ (w0.drew)
      refine tK 0 (.pointer (some ⟨p, 0, none⟩)) rfl (by kernel_rfl) (fun _ _ _ h => h) (fun _ => by kernel_rfl) hS ?_
      refine tK 1 (.pointer (some ⟨p, 0, none⟩)) rfl (by kernel_rfl) (fun _ _ _ h => h) (fun _ => by kernel_rfl) hS ?_
      refine tK 2 (.pointer (some ⟨p, 30, none⟩)) rfl (by kernel_rfl) (fun _ _ _ h => h) (fun _ => by kernel_rfl) hS ?_
      refine tSl 3 rfl rfl (by kernel_rfl) (fun _ _ _ h => h) (by kernel_rfl) (fun _ h => h.1) hS ?_
      refine tK 4 (.int .u32 k) rfl (by kernel_rfl) (fun _ _ _ h => h) (fun _ => by kernel_rfl) hS ?_
      refine tK 5 (.pointer (some ⟨p, 0, none⟩)) rfl (by kernel_rfl) (fun _ _ _ h => h) (fun _ => by kernel_rfl) hS ?_
      refine tK 6 (.pointer (some ⟨p, 0, none⟩)) rfl (by kernel_rfl) (fun _ _ _ h => h) (fun _ => by kernel_rfl) hS ?_
      refine tK 7 (.pointer (some ⟨p, 30, none⟩)) rfl (by kernel_rfl) (fun _ _ _ h => h) (fun _ => by kernel_rfl) hS ?_
      refine tSl 8 rfl rfl (by kernel_rfl) (fun _ _ _ h => h) (by kernel_rfl) (fun _ h => h.1) hS ?_
      refine tK 9 (.int .u32 k) rfl (by kernel_rfl) (fun _ _ _ h => h) (fun _ => by kernel_rfl) hS ?_
      refine tX 10 (g := b.src) (k := k) (cap := b.ksrc) rfl rfl (by kernel_rfl) (fun _ _ _ h => h) (by kernel_rfl) (by kernel_rfl) hk8 hS ?_
      refine tK 11 (.pointer (some ⟨b.src, k * 4, none⟩)) rfl (by kernel_rfl) (fun _ _ _ h => h) (fun _ => by kernel_rfl) hS ?_
      refine tBo 12 rfl rfl (by kernel_rfl) (fun _ _ _ h => h) (by kernel_rfl) (fun _ h => h.2.1) hS ?_
      refine tK 13 (.bool false) rfl (by kernel_rfl) (fun _ _ _ h => h) (fun _ => by kernel_rfl) hS ?_
      refine tK 14 (.pointer (some ⟨p, 0, none⟩)) rfl (by kernel_rfl) (fun _ _ _ h => h) (fun _ => by kernel_rfl) hS ?_
      refine tK 15 (.pointer (some ⟨p, 0, none⟩)) rfl (by kernel_rfl) (fun _ _ _ h => h) (fun _ => by kernel_rfl) hS ?_
      refine tK 16 (.pointer (some ⟨p, 30, none⟩)) rfl (by kernel_rfl) (fun _ _ _ h => h) (fun _ => by kernel_rfl) hS ?_
      refine tSl 17 rfl rfl (by kernel_rfl) (fun _ _ _ h => h) (by kernel_rfl) (fun _ h => h.1) hS ?_
      refine tK 18 (.int .u32 k) rfl (by kernel_rfl) (fun _ _ _ h => h) (fun _ => by kernel_rfl) hS ?_
      refine tX 19 (g := b.src) (k := k) (cap := b.ksrc) rfl rfl (by kernel_rfl) (fun _ _ _ h => h) (by kernel_rfl) (by kernel_rfl) hk8 hS ?_
      refine tK 20 (.pointer (some ⟨b.src, k * 4 + 1, none⟩)) rfl (by kernel_rfl) (fun _ _ _ h => h) (fun _ => by kernel_rfl) hS ?_
      refine tBo 21 rfl rfl (by kernel_rfl) (fun _ _ _ h => h) (by kernel_rfl) (fun _ h => h.2.2) hS ?_
      refine tK 22 (.bool wa) rfl (by kernel_rfl) (fun _ _ _ h => h) (fun _ => by kernel_rfl) hS ?_
      refine tX 23 (g := b.src) (k := k) (cap := b.ksrc) rfl rfl (by kernel_rfl) (fun _ _ _ h => h) (by kernel_rfl) (by kernel_rfl) hk8 hS ?_
      refine tK 24 (.pointer (some ⟨b.src, k * 4 + 1, none⟩)) rfl (by kernel_rfl) (fun _ _ _ h => h) (fun _ => by kernel_rfl) hS ?_
      refine tA 25 (by kernel_rfl) (wpOp_step rfl fun K hK => ?_)
      go_simp
      have P := HR.out.put_waits A k (by omega) wa
      have q2 : (w0.setCell ⟨b.src, k * 4 + 1, none⟩ (.bool wa)).cell? ⟨b.src, k * 4, none⟩ = some (.bool false) := (World.cell?_setCell_other _ _ _ _ (by intro e; injection e with e1 e2; omega)).trans d1
      refine hK _ _ ⟨⟨P.csrc, q2, World.cell?_setCell_same _ _ _ d2⟩, wpAnyH_done (by kernel_rfl) ?_ _⟩
      clear hK K
      go_wp2_with fail
      go_end0
      exact ⟨rfl, by rw [HE.out, ← HI.out, ← HA.out]; exact P.drawn 1, (O1.out.put (by simp [RBl.l]) _).drawn 1⟩
    · go_enter Tryz.func150, Tryz.ntmps150
      go_wp2_with fail
      have f3 := HR.out.fs
      generalize W.setCell ⟨b.src, k * 4 + 2, none⟩ (.bool false) = w0 at HR d1 d2 d3 f3 O1 ⊢
      have hS : w0.drew.cell? ⟨p, 30, none⟩ = some (.slice (some ⟨b.src, 0, none⟩) 8 b.ksrc) ∧ w0.drew.cell? ⟨b.src, k * 4, none⟩ = some (.bool true) := ⟨d3, d1⟩
      refine wp_region_held (S := fun w' => w'.cell? ⟨p, 30, none⟩ = some (.slice (some ⟨b.src, 0, none⟩) 8 b.ksrc) ∧ w'.cell? ⟨b.src, k * 4, none⟩ = some (.bool true)) (by kernel_rfl) ?_
      change wpAnyH _ _ _ _ _ _ _ _ (w0.drew)
      refine tK 0 (.pointer (some ⟨p, 0, none⟩)) rfl (by kernel_rfl) (fun _ _ _ h => h) (fun _ => by kernel_rfl) hS ?_
      refine tK 1 (.pointer (some ⟨p, 0, none⟩)) rfl (by kernel_rfl) (fun _ _ _ h => h) (fun _ => by kernel_rfl) hS ?_
      refine tK 2 (.pointer (some ⟨p, 30, none⟩)) rfl (by kernel_rfl) (fun _ _ _ h => h) (fun _ => by kernel_rfl) hS ?_
      refine tSl 3 rfl rfl (by kernel_rfl) (fun _ _ _ h => h) (by kernel_rfl) (fun _ h => h.1) hS ?_
      refine tK 4 (.int .u32 k) rfl (by kernel_rfl) (fun _ _ _ h => h) (fun _ => by kernel_rfl) hS ?_
      refine tK 5 (.pointer (some ⟨p, 0, none⟩)) rfl (by kernel_rfl) (fun _ _ _ h => h) (fun _ => by kernel_rfl) hS ?_
      refine tK 6 (.pointer (some ⟨p, 0, none⟩)) rfl (by kernel_rfl) (fun _ _ _ h => h) (fun _ => by kernel_rfl) hS ?_
      refine tK 7 (.pointer (some ⟨p, 30, none⟩)) rfl (by kernel_rfl) (fun _ _ _ h => h) (fun _ => by kernel_rfl) hS ?_
      refine tSl 8 rfl rfl (by kernel_rfl) (fun _ _ _ h => h) (by kernel_rfl) (fun _ h => h.1) hS ?_
      refine tK 9 (.int .u32 k) rfl (by kernel_rfl) (fun _ _ _ h => h) (fun _ => by kernel_rfl) hS ?_
      refine tX 10 (g := b.src) (k := k) (cap := b.ksrc) rfl rfl (by kernel_rfl) (fun _ _ _ h => h) (by kernel_rfl) (by kernel_rfl) hk8 hS ?_
      refine tK 11 (.pointer (some ⟨b.src, k * 4, none⟩)) rfl (by kernel_rfl) (fun _ _ _ h => h) (fun _ => by kernel_rfl) hS ?_
      refine tBo 12 rfl rfl (by kernel_rfl) (fun _ _ _ h => h) (by kernel_rfl) (fun _ h => h.2) hS ?_
      refine tK 13 (.bool true) rfl (by kernel_rfl) (fun _ _ _ h => h) (fun _ => by kernel_rfl) hS ?_
      refine tN 14 rfl (by kernel_rfl) (fun _ _ _ h => h) hS ?_
      refine tN 15 rfl (by kernel_rfl) (fun _ _ _ h => h) hS ?_
      refine tN 16 rfl (by kernel_rfl) (fun _ _ _ h => h) hS ?_
      refine tN 17 rfl (by kernel_rfl) (fun _ _ _ h => h) hS ?_
      refine tN 18 rfl (by kernel_rfl) (fun _ _ _ h => h) hS ?_
      refine tN 19 rfl (by kernel_rfl) (fun _ _ _ h => h) hS ?_
      refine tN 20 rfl (by kernel_rfl) (fun _ _ _ h => h) hS ?_
      refine tN 21 rfl (by kernel_rfl) (fun _ _ _ h => h) hS ?_
      refine tK 22 (.bool true) rfl (by kernel_rfl) (fun _ _ _ h => h) (fun _ => by kernel_rfl) hS ?_
      refine tX 23 (g := b.src) (k := k) (cap := b.ksrc) rfl rfl (by kernel_rfl) (fun _ _ _ h => h) (by kernel_rfl) (by kernel_rfl) hk8 hS ?_
      refine tK 24 (.pointer (some ⟨b.src, k * 4 + 1, none⟩)) rfl (by kernel_rfl) (fun _ _ _ h => h) (fun _ => by kernel_rfl) hS ?_
      refine tA 25 (by kernel_rfl) (wpOp_step rfl fun K hK => ?_)
      go_simp
      have P := HR.out.put_waits A k (by omega) true
      have q2 : (w0.setCell ⟨b.src, k * 4 + 1, none⟩ (.bool true)).cell? ⟨b.src, k * 4, none⟩ = some (.bool true) := (World.cell?_setCell_other _ _ _ _ (by intro e; injection e with e1 e2; omega)).trans d1
      refine hK _ _ ⟨⟨P.csrc, q2⟩, wpAnyH_done (by kernel_rfl) ?_ _⟩
      clear hK K
      go_wp2_with fail
      go_end0
      exact ⟨rfl, by rw [HE.out, ← HI.out, ← HA.out]; exact P.drawn 1, (O1.out.put (by simp [RBl.l]) _).drawn 1⟩
  · have hs' : (srcAt s k).served = false := by simpa using hs
    have HE : Hid (complR s c k = s) := by unfold Hid; rw [ce, if_neg hs]
    clear ce hs
    go_enter Tryz.func150, Tryz.ntmps150
    go_wp2
    exact bodyPost_ret (v := .tuple #[]) (by simp [results, Tryz.results150, go_sem]) rfl ⟨rfl, by rw [HE.out]; exact HF.out, Offs.refl _ _⟩
end Go.Proofs.YtfdokajjlkcdgaaGreatDoor
