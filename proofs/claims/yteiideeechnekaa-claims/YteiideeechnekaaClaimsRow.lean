/-
  hartkeep.Claims: the row.
-/
import Derived.Test.YteiideeechnekaaClaimsAll
import Derived.Test.YteiideeechnekaaRows
import Derived.ProofKit
import Derived.OpenShut
import Derived.Deep.Slices
import Derived.Carry
namespace Go.Proofs.Yteiideeechnekaa
open Go.ChangeShapes Go.WideShapes Go.ChangeAt Go.WideMaps Go.WideElems Go.RowKit Go.Deep
open Go.ChangeMaps (open_string shut_string)

theorem own : ownKnob Try.prog.godebug = none := by kernel_rfl
theorem u32_of {n : Int} (h : (Lit.int .u32 n).wf = true) : 0 ≤ n ∧ n < 4294967296 := by
  simp [Lit.wf] at h
  have e1 : IntKind.u32.min = 0 := rfl
  have e2 : IntKind.u32.max = 4294967295 := rfl
  omega
theorem i64_of {n : Int} (h : (Lit.int .i64 n).wf = true) : -9223372036854775808 ≤ n ∧ n ≤ 9223372036854775807 := by
  simp [Lit.wf] at h
  have e1 : IntKind.i64.min = -9223372036854775808 := rfl
  have e2 : IntKind.i64.max = 9223372036854775807 := rfl
  omega
theorem laidOut' : laidOutB Try.prog = true := by kernel_rfl
theorem cells3 : Try.prog.cellsOf 3 = 1 := by kernel_rfl
theorem cells29 : Try.prog.cellsOf 27 = 1 := by kernel_rfl
theorem cellsOp : Try.prog.cellsOf 46 = 4 := by kernel_rfl
set_option maxRecDepth 100000 in
theorem open_script {H : Type} {enc : TypeId × Value → H} {W : World} {b0 : Nat} {v : Value} {d : DataW H} {ps : List MemPlace} (hval : Value.okWide Try.prog W .any b0 41 v) (hd : DataW.Trod enc Try.prog W 0 (fun _ => true) true 41 v d ps) : Scr W v := by
  obtain ⟨a0, len, cap, rfl⟩ := okWide_slice Try.underlying41 hval
  obtain ⟨fuel, hf⟩ := hd
  have hf' : DataW.trod enc Try.prog W 0 (fun _ => true) true fuel 41 [.slice a0 len cap] = some (d, ps) := by simpa [Value.cells] using hf
  rcases open_slice Try.underlying41 hf' with ⟨hc, _⟩ | ⟨a, len', cap', m, n, D, Pl, hc, _, hl, hm, hmm, hx, hall⟩
  · simp only [List.cons.injEq, and_true] at hc
    rw [hc]
    exact .nil none 0
  · simp only [List.cons.injEq, and_true] at hc
    rw [hc]
    simp only [if_true] at hmm
    subst hmm
    rw [cellsOp] at hall
    by_cases h0 : len' = 0
    · subst h0
      exact .nil _ _
    · obtain ⟨sb, so, spot⟩ := a
      have one : ∀ i, i < m → ∃ (k a b : Int) (v : Nat), v < 4294967296 ∧ W.cell? ((⟨sb, so, spot⟩ : Addr).add (i * 4) |>.add 0) = some (.int .i64 k) ∧ W.cell? ((⟨sb, so, spot⟩ : Addr).add (i * 4) |>.add 1) = some (.int .i64 a) ∧ W.cell? ((⟨sb, so, spot⟩ : Addr).add (i * 4) |>.add 2) = some (.int .i64 b) ∧ W.cell? ((⟨sb, so, spot⟩ : Addr).add (i * 4) |>.add 3) = some (.int .u32 v) := fun i hi => by
        obtain ⟨cs, hcs, ht⟩ := hall i hi
        obtain ⟨_, hlen, hcell⟩ := World.cells?_some hcs
        obtain ⟨xs, n', _, _, _, hxl, hfs⟩ := DataW.trod_struct Try.underlying46 ht
        match cs, hlen with
        | [c0, c1, c2, c3], _ =>
          have hx4 : xs.length = 4 := hxl
          have g : ∀ j, j < 4 → ∃ x, xs[j]? = some x := fun j hj => ⟨_, List.getElem?_eq_getElem (by omega)⟩
          obtain ⟨x0, e0⟩ := g 0 (by decide)
          obtain ⟨x1, e1⟩ := g 1 (by decide)
          obtain ⟨x2, e2⟩ := g 2 (by decide)
          obtain ⟨x3, e3⟩ := g 3 (by decide)
          obtain ⟨k, q0, _, _⟩ := DataW.trod_int Try.underlying3 ((hfs 0 _ rfl).trans e0)
          obtain ⟨a, q1, _, _⟩ := DataW.trod_int Try.underlying3 ((hfs 1 _ rfl).trans e1)
          obtain ⟨b, q2, _, _⟩ := DataW.trod_int Try.underlying3 ((hfs 2 _ rfl).trans e2)
          obtain ⟨v, q3, _, wv⟩ := DataW.trod_int Try.underlying27 ((hfs 3 _ rfl).trans e3)
          simp [cells3, cells29] at q0 q1 q2 q3
          subst q0 q1 q2 q3
          have bv := u32_of wv
          obtain ⟨w, rfl⟩ : ∃ w : Nat, v = w := ⟨v.toNat, by omega⟩
          exact ⟨k, a, b, w, by omega, hcell 0 (by decide), hcell 1 (by decide), hcell 2 (by decide), hcell 3 (by decide)⟩
      have hspot : spot = none := by
        obtain ⟨_, _, _, _, _, h, _⟩ := one 0 (by omega)
        simpa [Addr.add] using World.cell?_spot h
      subst hspot
      refine .row sb so len' m (by omega) fun i hi => ?_
      obtain ⟨k, a, b, v, hv, h0, h1, h2, h3⟩ := one i (by omega)
      simp only [Addr.add_lit] at h0 h1 h2 h3
      exact ⟨k, a, b, v, hv, by simpa using h0, by simpa [Nat.add_assoc] using h1, by simpa [Nat.add_assoc] using h2, by simpa [Nat.add_assoc] using h3⟩


set_option maxRecDepth 100000 in
theorem claims_lifted (os : Os) (started : os.Started) (H : Type) (enc : TypeId × Value → H) :
    ReturnsInHanded {} Try.checked os 6 .any (Rows.claimsSpec.pre6 enc Try.prog Try.f6 Rows.claimsRow.domain false) (Rows.claimsSpec.post enc Try.prog Try.f6 false true false false) := by
  refine returnsInHanded_of_change (C := Try.checked) own started (by kernel_rfl) Try.func6
    (ChangeSpec.witness6 (enc := enc) (C := Try.checked) false ⟨#[], #[.slice none 0 0], []⟩ 8 (by kernel_rfl) (by kernel_rfl) (by kernel_rfl) (by kernel_rfl)) ?_
  intro W base args ds gs before hval0 hW hcnd _
  have hval : ∀ (j : Nat) t v, Try.f6.params[j]? = some t → args[j]? = some v → Value.okWide Try.prog W .any base t v := hval0
  have hW' := hW
  obtain ⟨p, q, hA0, hV, rfl, hfz, hnd⟩ := hW
  have hA : DataW.TrodAll enc Try.prog W 0 (fun _ => true) true Try.f6.params.toList args.toList ds p := hA0
  rw [Try.params6] at hA hval
  obtain ⟨v0, vs0, d0, ds0, p0, q0, hargs, rfl, rfl, h0, r0⟩ := trodAll_cons hA
  obtain ⟨rfl, rfl, rfl⟩ := trodAll_nil r0
  obtain rfl : args = #[v0] := by cases args; simp_all
  obtain ⟨rfl, rfl⟩ := trodVars_none hV
  have hs := open_script (hval 0 41 v0 rfl rfl) h0
  have hlt : ∀ x ∈ p0, x.block < W.heap.size := fun x hx => hW'.lt x (by simp [hx])
  clear hA0 hval0
  refine (claims_any W v0 hs).mono fun e W' ⟨he, bel⟩ => ?_
  subst he
  exact ⟨_, rfl, _, _, _, [], (p0 ++ []), [], hW', trodAll_mk1 (shut_bool Try.underlying4 _), (trodAll_cons_mk (Below.trod laidOut' (by kernel_rfl) (of_decide_eq_true (by kernel_rfl)) h0 bel hlt) trodAll_mk0), rfl, bel.frame _, fun h => by cases h⟩

theorem claims_holds : Rows.ClaimsSaid :=
  OpenClaim.holds_of_wide 6 Try.f6 rfl rfl rfl rfl rfl rfl rfl ⟨rfl, rfl, rfl, rfl, rfl⟩ rfl rfl rfl rfl rfl (by kernel_rfl) Try.func6 (by kernel_rfl)
    (of_decide_eq_true (by kernel_rfl)) (by unfold Func.isWrapper; first | (rw [if_pos (by decide +kernel)]; kernel_rfl) | (rw [if_neg (by decide +kernel)]; exact ⟨rfl, rfl⟩))
    (fun os started H enc _ => claims_lifted os started H enc)
#print axioms claims_holds
end Go.Proofs.Yteiideeechnekaa
