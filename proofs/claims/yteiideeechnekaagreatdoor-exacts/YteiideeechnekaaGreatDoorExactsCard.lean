/-
  hartkeep.Exacts: the row and its tied card.
-/
import Derived.Test.YteiideeechnekaaGreatDoorExactsAll
import Derived.Test.YteiideeechnekaaGreatDoorExactsLaid
import Derived.Test.YteiideeechnekaaGreatDoorRows
import Derived.Test.YteiideeechnekaaGreatDoorTie
import Derived.Test.YteiideeechnekaaGreatDoorCards
import Derived.ProofKit
import Derived.LaidMore
import Derived.OpenShut
import Derived.Deep.Slices
import Derived.Carry
import Derived.SevenTiedAt
namespace Go.Proofs.YteiideeechnekaaGreatDoor
open Go.ChangeShapes Go.WideShapes Go.ChangeAt Go.WideMaps Go.WideElems Go.RowKit Go.Deep
open Go.ChangeMaps (open_string shut_string)

theorem laidOut' : laidOutB Tryz.prog = true := by kernel_rfl
theorem cellsOp : Tryz.prog.cellsOf 45 = 4 := by kernel_rfl
theorem u32_of {n : Int} (h : (Lit.int .u32 n).wf = true) : 0 ≤ n ∧ n < 4294967296 := by
  simp [Lit.wf] at h
  have e1 : IntKind.u32.min = 0 := rfl
  have e2 : IntKind.u32.max = 4294967295 := rfl
  omega
set_option maxRecDepth 100000 in
theorem open_script {H : Type} {enc : TypeId × Value → H} {W : World} {b0 : Nat} {v : Value} {d : DataW H} {ps : List MemPlace} (hval : Value.okWide Tryz.prog W .any b0 42 v) (hd : DataW.Trod enc Tryz.prog W 0 (fun _ => true) true 42 v d ps) : Scr W v := by
  obtain ⟨a0, len, cap, rfl⟩ := okWide_slice Tryz.underlying42 hval
  obtain ⟨fuel, hf⟩ := hd
  have hf' : DataW.trod enc Tryz.prog W 0 (fun _ => true) true fuel 42 [.slice a0 len cap] = some (d, ps) := by simpa [Value.cells] using hf
  rcases open_slice Tryz.underlying42 hf' with ⟨hc, _⟩ | ⟨a, len', cap', m, n, D, Pl, hc, _, hl, hm, hmm, hx, hall⟩
  · simp only [List.cons.injEq, and_true] at hc
    rw [hc]
    exact .nil none 0
  · simp only [List.cons.injEq, and_true] at hc
    rw [hc]
    simp only [if_true] at hmm
    subst hmm
    rw [cellsOp] at hall
    by_cases h0 : len' = 0
    · subst h0
      exact .nil _ _
    · obtain ⟨sb, so, spot⟩ := a
      have one : ∀ i, i < m → ∃ (k a b : Int) (v : Nat), v < 4294967296 ∧ W.cell? ((⟨sb, so, spot⟩ : Addr).add (i * 4) |>.add 0) = some (.int .i64 k) ∧ W.cell? ((⟨sb, so, spot⟩ : Addr).add (i * 4) |>.add 1) = some (.int .i64 a) ∧ W.cell? ((⟨sb, so, spot⟩ : Addr).add (i * 4) |>.add 2) = some (.int .i64 b) ∧ W.cell? ((⟨sb, so, spot⟩ : Addr).add (i * 4) |>.add 3) = some (.int .u32 v) := fun i hi => by
        obtain ⟨cs, hcs, ht⟩ := hall i hi
        obtain ⟨_, hlen, hcell⟩ := World.cells?_some hcs
        obtain ⟨xs, n', _, _, _, hxl, hfs⟩ := DataW.trod_struct Tryz.underlying45 ht
        match cs, hlen with
        | [c0, c1, c2, c3], _ =>
          have hx4 : xs.length = 4 := hxl
          have g : ∀ j, j < 4 → ∃ x, xs[j]? = some x := fun j hj => ⟨_, List.getElem?_eq_getElem (by omega)⟩
          obtain ⟨x0, e0⟩ := g 0 (by decide)
          obtain ⟨x1, e1⟩ := g 1 (by decide)
          obtain ⟨x2, e2⟩ := g 2 (by decide)
          obtain ⟨x3, e3⟩ := g 3 (by decide)
          obtain ⟨k, q0, _, _⟩ := DataW.trod_int Tryz.underlying3 ((hfs 0 _ rfl).trans e0)
          obtain ⟨a, q1, _, _⟩ := DataW.trod_int Tryz.underlying3 ((hfs 1 _ rfl).trans e1)
          obtain ⟨b, q2, _, _⟩ := DataW.trod_int Tryz.underlying3 ((hfs 2 _ rfl).trans e2)
          obtain ⟨v, q3, _, wv⟩ := DataW.trod_int Tryz.underlying29 ((hfs 3 _ rfl).trans e3)
          simp [cells3, cells29] at q0 q1 q2 q3
          subst q0 q1 q2 q3
          have bv := u32_of wv
          obtain ⟨w, rfl⟩ : ∃ w : Nat, v = w := ⟨v.toNat, by omega⟩
          exact ⟨k, a, b, w, by omega, hcell 0 (by decide), hcell 1 (by decide), hcell 2 (by decide), hcell 3 (by decide)⟩
      have hspot : spot = none := by
        obtain ⟨_, _, _, _, _, h, _⟩ := one 0 (by omega)
        simpa [Addr.add] using World.cell?_spot h
      subst hspot
      refine .row sb so len' m (by omega) fun i hi => ?_
      obtain ⟨k, a, b, v, hv, h0, h1, h2, h3⟩ := one i (by omega)
      simp only [Addr.add_lit] at h0 h1 h2 h3
      exact ⟨k, a, b, v, hv, by simpa using h0, by simpa [Nat.add_assoc] using h1, by simpa [Nat.add_assoc] using h2, by simpa [Nat.add_assoc] using h3⟩

set_option maxRecDepth 100000 in
theorem exacts_lifted (os : Os) (started : os.Started) (H : Type) (enc : TypeId × Value → H) :
    ReturnsInHanded {} Tryz.checked os 8 .any (fun w args => (Rows.exactsSpec.pre enc Tryz.prog Tryz.f8 [] false w args ∧ laidMetH Tryz.prog Rows.exactsRow.laid w) ∧ sizedMet enc Tryz.prog Tryz.f8 (OpenSpec.ofChange Rows.exactsSpec) false w args)
      (Rows.exactsSpec.post enc Tryz.prog Tryz.f8 false true false false) := by
  refine returnsInHanded_of_change_and (C := Tryz.checked) (X := fun w _ => laidMetH Tryz.prog Rows.exactsRow.laid w) (fun _ _ _ hh h => h.of_heap hh) own started (by kernel_rfl) Tryz.func8
    (ChangeSpec.witness_shaped (enc := enc) (C := Tryz.checked) (os := os) (X := fun w _ => laidMetH Tryz.prog Rows.exactsRow.laid w) false (World.doorLaid Tryz.prog 400 os) #[.int .i64 0, .string ByteArray.empty, .slice none 0 0] 8 rfl (World.shaped_of_RefB (by kernel_rfl) (by kernel_rfl)) (by kernel_rfl) (by kernel_rfl) (by kernel_rfl) (door_met os _)) ?_
  intro W base args ds gs before hval0 hW _ _ hL _
  have hval : ∀ (j : Nat) t v, Tryz.f8.params[j]? = some t → args[j]? = some v → Value.okWide Tryz.prog W .any base t v := hval0
  have hW' := hW
  obtain ⟨p, q, hA0, hV, rfl, hfz, hnd⟩ := hW
  have hA : DataW.TrodAll enc Tryz.prog W 0 (fun _ => true) true Tryz.f8.params.toList args.toList ds p := hA0
  rw [Tryz.params8] at hA hval
  obtain ⟨v0, vs0, d0, ds0, p0, q0, hargs, rfl, rfl, h0, r0⟩ := trodAll_cons hA
  obtain ⟨v1, vs1, d1, ds1, p1, q1, rfl, rfl, rfl, h1, r1⟩ := trodAll_cons r0
  obtain ⟨v2, vs2, d2, ds2, p2, q2, rfl, rfl, rfl, h2, r2⟩ := trodAll_cons r1
  obtain ⟨rfl, rfl, rfl⟩ := trodAll_nil r2
  obtain rfl : args = #[v0, v1, v2] := by cases args; simp_all
  obtain ⟨rfl, rfl⟩ := trodVars_none hV
  obtain ⟨a0, rfl, rfl, rfl, w0⟩ := open_int Tryz.underlying3 (hval 0 3 v0 rfl rfl) h0
  obtain ⟨a1, rfl, rfl, rfl, w1⟩ := open_string Tryz.underlying9 (hval 1 9 v1 rfl rfl) h1
  have hs := open_script (hval 2 42 v2 rfl rfl) h2
  clear hA0 hval0
  have hlt : ∀ x ∈ p2, x.block < W.heap.size := fun x hx => hW'.lt x (by simp [hx])
  refine (exacts_any W (tabs_of_laid hL).1 (tabs_of_laid hL).2 a0 a1 v2 hs).mono fun e W' ⟨he, bel⟩ => ?_
  subst he
  exact ⟨_, rfl, _, _, _, [], [] ++ ([] ++ (p2 ++ [])), [], hW', trodAll_mk1 (shut_bool Tryz.underlying4 _), (trodAll_cons_mk (shut_int Tryz.underlying3 w0) (trodAll_cons_mk (shut_string Tryz.underlying9 w1) (trodAll_cons_mk (Below.trod laidOut' (by kernel_rfl) (of_decide_eq_true (by kernel_rfl)) h2 bel hlt) trodAll_mk0))), rfl, bel.frame _, fun h => by cases h⟩

theorem exacts_row : Rows.ExactsSaid :=
  OpenClaim.holds_of_wide 8 Tryz.f8 rfl rfl rfl rfl rfl rfl rfl ⟨rfl, rfl, rfl, rfl, rfl⟩ rfl rfl rfl rfl rfl (by kernel_rfl) Tryz.func8 (by kernel_rfl)
    (of_decide_eq_true (by kernel_rfl)) (by unfold Func.isWrapper; first | (rw [if_pos (by decide +kernel)]; kernel_rfl) | (rw [if_neg (by decide +kernel)]; exact ⟨rfl, rfl⟩))
    (fun os started H enc _ => exacts_lifted os started H enc)

theorem exacts_holds : Rows.ExactsCardSaid :=
  Claim7.holds_tied_plain_at .later [] [.data, .data, .data, .data, .data, .data, .data, .data, .data, .data, .data, .data, .data] true (true, "04297ff650f0584875fbd4c65fdaf5a0e5754408f6c417dc5e7eda42495a339e") false
    exacts_row (fun _ h => by cases h) (by kernel_rfl) (fun _ h => by cases h) exacts_row_tie rfl ⟨rfl, rfl⟩ (by kernel_rfl) rfl
    (fun f fn hf hfn => by
      obtain rfl : f = 8 := Option.some.inj ((show Tryz.prog.funcNamed "hart/hartkeep.Exacts" = some 8 by kernel_rfl).symm.trans hf) |>.symm
      obtain rfl : fn = Tryz.f8 := (Option.some.inj (Tryz.func8.symm.trans hfn)).symm
      exact ⟨by kernel_rfl, fun j t ht => by
        rw [Tryz.params8] at ht
        have h3 : t = 3 ∨ t = 9 ∨ t = 42 := by
          rcases j with _ | _ | _ | j
          · exact .inl (by simpa using ht.symm)
          · exact .inr (.inl (by simpa using ht.symm))
          · exact .inr (.inr (by simpa using ht.symm))
          · simp at ht
        rcases h3 with rfl | rfl | rfl
        · exact (show Tryz.prog.wantsStandIn 3 = false by kernel_rfl)
        · exact (show Tryz.prog.wantsStandIn 9 = false by kernel_rfl)
        · exact (show Tryz.prog.wantsStandIn 42 = false by kernel_rfl)⟩)
    (by kernel_rfl)
#print axioms exacts_holds
end Go.Proofs.YteiideeechnekaaGreatDoor
