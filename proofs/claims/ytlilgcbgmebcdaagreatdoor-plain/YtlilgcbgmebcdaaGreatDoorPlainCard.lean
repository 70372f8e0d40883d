import Derived.Test.YtlilgcbgmebcdaaGreatDoorPlainTwo
import Derived.Test.YtlilgcbgmebcdaaGreatDoorRefClone2
import Derived.Test.YtlilgcbgmebcdaaGreatDoorMade
import Derived.Test.YtlilgcbgmebcdaaGreatDoorRows
import Derived.Test.YtlilgcbgmebcdaaGreatDoorDCode
import Derived.ProofKit
import Derived.LaidMore
import Derived.OpenShut
import Derived.Lib.LaidTab
import Derived.Stop.LaidErr
import Derived.Stop.Joined
import Derived.Test.YtlilgcbgmebcdaaGreatDoorTie
import Derived.Test.YtlilgcbgmebcdaaGreatDoorCards
import Derived.SevenTiedAt
/-
  hartlaw.Plain: the walk.
-/
namespace Go.Proofs.YtlilgcbgmebcdaaGreatDoor
open Go.RowKit

theorem i64_and4095 (n : Int) : bits .and .i64 n 4095 = n % 4096 := by
  have h127 : (BitVec.ofInt 64 4095).toNat = 2 ^ 12 - 1 := by decide
  have key : (BitVec.ofInt 64 n &&& BitVec.ofInt 64 4095).toNat = (n % ((2 ^ 64 : Nat) : Int)).toNat % 2 ^ 12 := by
    rw [BitVec.toNat_and, BitVec.toNat_ofInt, h127, Nat.and_two_pow_sub_one_eq_mod]
  show IntKind.i64.wrap ((BitVec.ofInt 64 n &&& BitVec.ofInt 64 4095).toNat : Nat) = n % 4096
  rw [key, IntKind.wrap_i64]
  omega
theorem some_any (W : World) (k : Int) : Calls Tryz.prog 5 #[.int .i64 k] W fun e W' => e = .returned (.int .i64 (k % 4096)) ∧ W' = W := by
  have h := i64_and4095 k
  go_enter Tryz.func5, Tryz.ntmps5
  go_wp2
  go_ret
  exact ⟨rfl, rfl⟩

structure PInv (W w : World) (n : Nat) (img : ByteArray) (x r p : Nat) (b : RBl) (xs : List Int) (pc : Int) (bs : List Int) : Prop where
  c : CodeAt w x r (cst n img xs pc bs)
  f : RefAt w p b (rst n img xs pc bs)
  a : b.Apart p
  ne : x ≠ r
  pi : PI n xs pc bs
  bel : Below W.heap.size W w
  l : ∀ k, k ∈ b.l p → W.heap.size ≤ k
  nx : x ∉ b.l p
  nr : r ∉ b.l p
  wx : W.heap.size ≤ x
  wr : W.heap.size ≤ r
theorem look_rst (n : Nat) (img : ByteArray) (xs : List Int) (pc : Int) (bs : List Int) : lookC (cst n img xs pc bs) = lookR (rst n img xs pc bs) := by kernel_rfl
theorem fine_rst (n : Nat) (img : ByteArray) (xs : List Int) (pc : Int) (bs : List Int) : Fine (rst n img xs pc bs) := ⟨by show (0 : Int) ≤ 0; decide, by show (0 : Int) ≤ 3; decide, by show (0 : Int) ≤ 0; decide, by show (0 : Int) ≤ 3; decide⟩
theorem PInv.looks {W w : World} {n : Nat} {img : ByteArray} {x r p : Nat} {b : RBl} {xs : List Int} {pc : Int} {bs : List Int} (h : PInv W w n img x r p b xs pc bs) :
    Calls Tryz.prog 8 #[.pointer (some ⟨x, 0, none⟩), .pointer (some ⟨p, 0, none⟩)] w fun e W' => e = .returned (.bool true) ∧ Below W.heap.size W W' := by
  refine (looks_same w x r p b _ _ (look_rst n img xs pc bs) (fine_rst n img xs pc bs) h.c h.f).mono ?_
  rintro e w1 ⟨rfl, hb⟩
  exact ⟨rfl, h.bel.trans (hb.mono h.bel.size)⟩
/-- What a world keeps that has new blocks alone, or has turned blocks of another. -/
theorem PInv.on {W w w' : World} {n : Nat} {img : ByteArray} {x r p : Nat} {b : RBl} {xs : List Int} {pc : Int} {bs : List Int} (h : PInv W w n img x r p b xs pc bs) {L : List Nat} (ho : Offs L w w') (hL : ∀ k, k ∈ L → w.heap.size ≤ k) : PInv W w' n img x r p b xs pc bs := by
  have lt := h.c.lt
  have lr := h.f.lt
  have kl : ∀ k, k ∈ b.l p → k < w.heap.size := fun k hk => by simp [RBl.l] at hk; omega
  have hs := h.bel.size
  exact { h with c := h.c.offs ho (fun e => by have := hL _ e; omega) (fun e => by have := hL _ e; omega), f := h.f.offs ho (fun k hk e => by have := hL _ e; have := kl k hk; omega), bel := h.bel.trans (ho.below (fun k hk => by have := hL k hk; omega) hs) }
theorem PInv.start {W w : World} {n : Nat} {img : ByteArray} {x r p : Nat} {b : RBl} (h4 : img.size ≤ n) (c : CodeAt w x r (newC n img)) (f : RefAt w p b (newR n img)) (a : b.Apart p) (ne : x ≠ r) (wx : W.heap.size ≤ x) (wr : W.heap.size ≤ r) (l : ∀ k, k ∈ b.l p → W.heap.size ≤ k) (nx : x ∉ b.l p) (nr : r ∉ b.l p) (bel : Below W.heap.size W w) :
    PInv W w n img x r p b (List.replicate 32 0) 0 (ramOf n img) :=
  ⟨c, f, a, ne, ⟨rfl, fun i => by rw [List.getElem?_replicate]; split <;> decide, by decide, by decide, by decide, ramOf_len n img h4, c.bytes.2.2⟩, bel, l, nx, nr, wx, wr⟩

set_option maxHeartbeats 4000000 in
theorem plain_good (W : World) (T : D.Tabs W) (n : Nat) (img : ByteArray) (k : Int) (h1 : 4 ≤ n) (h2 : n ≤ 512) (h3 : (n : Int) % 4 = 0) (h4 : img.size ≤ n) :
    Calls Tryz.prog 3 #[.int .i64 n, .string img, .int .i64 k] W fun e W' => e = .returned (.bool true) ∧ Below W.heap.size W W' := by
  have HM := made_any W n img h1 h2 h3 h4
  have HT : Hid (D.Tabs W) := T
  have HN : Hid (4 ≤ n ∧ img.size ≤ n) := ⟨h1, h4⟩
  obtain ⟨N, hN⟩ : ∃ N : Nat, k % 4096 = N := ⟨(k % 4096).toNat, by omega⟩
  have HS : Hid (∀ w, Calls Tryz.prog 5 #[.int .i64 k] w fun e W' => e = .returned (.int .i64 N) ∧ W' = w) := fun w => by rw [← hN]; exact some_any w k
  have N4 : (N : Int) < 4096 := by omega
  clear h1 h2 h3 h4 T hN
  go_enter Tryz.func3, Tryz.ntmps3
  go_wp2_with fail
  refine HM.mono ?_
  rintro e w0 ⟨x, p0, rfl, ⟨r, b0, hc, hr, hA, hne, hx, hr0, hl, nx, nr⟩, hb0⟩
  have P0 := PInv.start HN.out.2 hc hr hA hne hx hr0 hl nx nr hb0
  have HP : Hid (∃ b, PInv W w0 n img x r p0 b (List.replicate 32 0) 0 (ramOf n img)) := ⟨b0, P0⟩
  clear hc hr hA hne hx hr0 hl nx nr hb0 P0 HM
  go_wp2_with fail
  go_loopw [8, 10] (fun rv iv wr => ∃ i p : Nat, i ≤ N ∧ iv = .int .i64 i ∧ rv = .pointer (some ⟨p, 0, none⟩) ∧ Hid (∃ b xs pc bs, PInv W wr n img x r p b xs pc bs)) (fun _ iv _ => N - (intOf iv).toNat)
  case atStart => exact ⟨0, p0, Nat.zero_le _, rfl, rfl, ⟨HP.out.choose, _, _, _, HP.out.choose_spec⟩⟩
  case round =>
    obtain ⟨i, p, hi, rfl, rfl, hI⟩ := hrel
    obtain ⟨b, xs, pc, bs, I⟩ := hI.out
    have I0 : Hid (PInv W wr n img x r p b xs pc bs) := I
    clear hI HP
    by_cases hlt : i < N
    · have hlt' : (i : Int) < N := by omega
      have HC := clone_any wr p b _ I.f (by show 4 ≤ bs.length; rw [I.pi.bl]; exact HN.out.1)
      have hS := step_one (img := img) I.pi
      clear I
      go_wp2_with (first | (go_at_call 5; refine (HS.out _).mono ?_; rintro e w' ⟨rfl, hw⟩; rw [hw]; clear hw w'))
      refine HC.mono ?_
      rintro e w1 ⟨p', rfl, ⟨b', r1, A1, l1⟩, hb1⟩
      have I1 : Hid (PInv W w1 n img x r p b xs pc bs) := I0.out.on (L := []) (Offs.of_below hb1) (fun k hk => by cases hk)
      have s1 := hb1.size
      have lx := I0.out.c.lt
      have hx1 : x ∉ b'.l p' := fun hk => by have := l1 _ hk; omega
      have hr1 : r ∉ b'.l p' := fun hk => by have := l1 _ hk; omega
      have L1 : Hid (∀ k, k ∈ b'.l p' → wr.heap.size ≤ k) := l1
      have lW := I0.out.bel.size
      rcases hS with ⟨s', hb, hF⟩ | ⟨xs', pc', bs', hp, hF, hG⟩
      · have HF2 := hF w1 p' b' r1 A1
        clear hF HC hb1 l1
        go_wp2_with fail
        refine HF2.mono ?_
        rintro e w2 ⟨rfl, h2, o2⟩
        have I2 : Hid (∀ q, PInv W (w2.drewN q) n img x r p b xs pc bs) := fun q => by
          have c1 := I1.out.c
          have f1 := I1.out.f
          have hk : ∀ k, k ∈ b.l p → k < wr.heap.size := fun k hk => by have := I0.out.f.lt; simp [RBl.l] at hk; omega
          exact { I1.out with c := (c1.offs o2 hx1 hr1).drawn q, f := (f1.offs o2 (fun k hk' e => by have := L1.out k e; have := hk k hk'; omega)).drawn q, bel := (I1.out.bel.trans (o2.below (fun k hk => by have := L1.out k hk; omega) I1.out.bel.size)).trans ⟨rfl, rfl, rfl, Nat.le_refl _, fun _ _ => rfl⟩ }
        have c33 := h2.traps
        have c34 := h2.system
        have c35 := h2.device
        have t1 := hb.t
        have t2 := hb.y
        have t3 := hb.d
        have t4 := hb.pos
        clear h2 o2 hb HF2 r1 A1 hx1 hr1
        go_wp2_with fail
        go_quiet (fail)
        go_wp2_with fail
        refine (I2.out _).looks.mono ?_
        rintro e w3 ⟨rfl, hb3⟩
        go_wp2_with fail
        go_ret
        exact ⟨rfl, hb3⟩
      · have HF2 := hF w1 p' b' r1 A1
        have HG : Hid (∀ (W : World) (x r : Nat), CodeAt W x r (cst n img xs pc bs) → x ≠ r → D.Tabs W → Calls Tryz.prog 9 #[.pointer (some ⟨x, 0, none⟩)] W fun e W' => e = .returned (.tuple #[]) ∧ CodeAt W' x r (cst n img xs' pc' bs') ∧ Offs [x, r] W W') := hG
        have HPI : Hid (PI n xs' pc' bs') := hp
        clear hF hG hp HC hb1 l1
        go_wp2_with fail
        refine HF2.mono ?_
        rintro e w2 ⟨rfl, h2, o2⟩
        have c33 : w2.cell? ⟨p', 33, none⟩ = some (.int .i64 0) := h2.traps
        have c34 : w2.cell? ⟨p', 34, none⟩ = some (.int .i64 0) := h2.system
        have c35 : w2.cell? ⟨p', 35, none⟩ = some (.int .i64 0) := h2.device
        have H2 : Hid (∀ q, RefAt (w2.drewN q) p' b' (rst n img xs' pc' bs')) := fun q => h2.drawn q
        have C2 : Hid (∀ q, CodeAt (w2.drewN q) x r (cst n img xs pc bs)) := fun q => (I1.out.c.offs o2 hx1 hr1).drawn q
        have B2 : Hid (∀ q, Below W.heap.size W (w2.drewN q)) := fun q => (I1.out.bel.trans (o2.below (fun k hk => by have := L1.out k hk; omega) I1.out.bel.size)).trans ⟨rfl, rfl, rfl, Nat.le_refl _, fun _ _ => rfl⟩
        have A2 : Hid (b'.Apart p') := A1
        have X2 : Hid (x ∉ b'.l p' ∧ r ∉ b'.l p') := ⟨hx1, hr1⟩
        clear h2 o2 HF2 r1 A1 hx1 hr1
        go_wp2_with fail
        go_quiet (fail)
        go_wp2_with fail
        refine (HG.out _ x r (C2.out _) I0.out.ne (HT.out.below HT.out.size (B2.out _))).mono ?_
        rintro e w3 ⟨rfl, h3, o3⟩
        have I3 : Hid (PInv W w3 n img x r p' b' xs' pc' bs') :=
          ⟨h3, (H2.out _).offs o3 (fun k hk e => by simp at e; rcases e with rfl | rfl; exact X2.out.1 hk; exact X2.out.2 hk), A2.out, I0.out.ne, HPI.out,
            (B2.out _).trans (o3.below (fun k hk => by simp at hk; have := I0.out.wx; have := I0.out.wr; rcases hk with rfl | rfl <;> omega) (B2.out _).size), fun k hk => by have := L1.out k hk; omega, X2.out.1, X2.out.2, I0.out.wx, I0.out.wr⟩
        clear h3 o3
        go_wp2_with fail
        go_roundw
        case rel => exact ⟨i + 1, p', by omega, by go_num, rfl, ⟨b', xs', pc', bs', I3.out⟩⟩
        case measure => simp [intOf]; omega
    · have hlt' : ¬ ((i : Int) < N) := by omega
      have HL := I.looks
      clear I
      go_wp2_with (first | (go_at_call 5; refine (HS.out _).mono ?_; rintro e w' ⟨rfl, rfl⟩))
      refine HL.mono ?_
      rintro e w3 ⟨rfl, hb3⟩
      go_wp2_with fail
      go_ret
      exact ⟨rfl, hb3⟩

theorem plain_bad (W : World) (size : Int) (img : ByteArray) (k : Int) (h : errOf size img ≠ 0) :
    Calls Tryz.prog 3 #[.int .i64 size, .string img, .int .i64 k] W fun e W' => e = .returned (.bool true) ∧ Below W.heap.size W W' := by
  have HM := made_bad W size img h
  clear h
  go_enter Tryz.func3, Tryz.ntmps3
  go_wp2_with fail
  refine HM.mono ?_
  rintro e w1 ⟨rfl, hb1⟩
  go_wp2_with fail
  go_ret
  exact ⟨rfl, hb1⟩
theorem plain_any (W : World) (T : D.Tabs W) (size : Int) (img : ByteArray) (k : Int) :
    Calls Tryz.prog 3 #[.int .i64 size, .string img, .int .i64 k] W fun e W' => e = .returned (.bool true) ∧ Below W.heap.size W W' := by
  by_cases h : errOf size img = 0
  · have hb : ¬ (size < 4 ∨ 512 < size ∨ size % 4 ≠ 0) := fun hb => by simp [errOf, hb] at h
    have hl : ¬ (size < img.size) := fun hl => by simp [errOf, hb, hl] at h
    obtain ⟨n, rfl⟩ : ∃ n : Nat, size = n := ⟨size.toNat, by omega⟩
    exact plain_good W T n img k (by omega) (by omega) (by omega) (by omega)
  · exact plain_bad W size img k h
end Go.Proofs.YtlilgcbgmebcdaaGreatDoor

/-
  What the listed tables give the walk, and the row's start.
-/
namespace Go.Proofs.YtlilgcbgmebcdaaGreatDoor
open Go.ChangeShapes Go.WideShapes Go.ChangeAt Go.WideMaps Go.WideElems Go.RowKit

theorem own : ownKnob Tryz.prog.godebug = none := by kernel_rfl
theorem cells3 : Tryz.prog.cellsOf 3 = 1 := by kernel_rfl
theorem cells8 : Tryz.prog.cellsOf 104 = 8 := by kernel_rfl
theorem glob_jumps : Tryz.prog.globalNamed "hart/decode.jumps" = some 0 := by kernel_rfl
theorem type_jumps : (Tryz.prog.globals[0]?).map (·.type) = some 104 := by kernel_rfl
theorem glob_branches : Tryz.prog.globalNamed "hart/decode.branches" = some 1 := by kernel_rfl
theorem type_branches : (Tryz.prog.globals[1]?).map (·.type) = some 104 := by kernel_rfl
theorem glob_loads : Tryz.prog.globalNamed "hart/decode.loads" = some 2 := by kernel_rfl
theorem type_loads : (Tryz.prog.globals[2]?).map (·.type) = some 104 := by kernel_rfl
theorem glob_stores : Tryz.prog.globalNamed "hart/decode.stores" = some 3 := by kernel_rfl
theorem type_stores : (Tryz.prog.globals[3]?).map (·.type) = some 104 := by kernel_rfl
theorem glob_fences : Tryz.prog.globalNamed "hart/decode.fences" = some 4 := by kernel_rfl
theorem type_fences : (Tryz.prog.globals[4]?).map (·.type) = some 104 := by kernel_rfl
theorem glob_controls : Tryz.prog.globalNamed "hart/decode.controls" = some 10 := by kernel_rfl
theorem type_controls : (Tryz.prog.globals[10]?).map (·.type) = some 104 := by kernel_rfl
theorem glob_immediates : Tryz.prog.globalNamed "hart/decode.immediates" = some 5 := by kernel_rfl
theorem type_immediates : (Tryz.prog.globals[5]?).map (·.type) = some 104 := by kernel_rfl
theorem glob_shifts0 : Tryz.prog.globalNamed "hart/decode.shifts0" = some 6 := by kernel_rfl
theorem type_shifts0 : (Tryz.prog.globals[6]?).map (·.type) = some 104 := by kernel_rfl
theorem glob_shifts20 : Tryz.prog.globalNamed "hart/decode.shifts20" = some 7 := by kernel_rfl
theorem type_shifts20 : (Tryz.prog.globals[7]?).map (·.type) = some 104 := by kernel_rfl
theorem glob_registers0 : Tryz.prog.globalNamed "hart/decode.registers0" = some 8 := by kernel_rfl
theorem type_registers0 : (Tryz.prog.globals[8]?).map (·.type) = some 104 := by kernel_rfl
theorem glob_registers20 : Tryz.prog.globalNamed "hart/decode.registers20" = some 9 := by kernel_rfl
theorem type_registers20 : (Tryz.prog.globals[9]?).map (·.type) = some 104 := by kernel_rfl

theorem tabs_of_laid {W : World} (h : laidMetH Tryz.prog Rows.plainRow.laid W) : D.Tabs W := by
  rw [MakeChecks.laidMetH_plain _ _ _ (by kernel_rfl)] at h
  have t0 := Lib.tabIs_of_head (name := "hart/decode.jumps") (k := .i64) (zs := [4, 0, 0, 0, 0, 0, 0, 0]) glob_jumps type_jumps Tryz.underlying104 Tryz.underlying3 cells3 cells8 h
  have h0 := laidMet.tail h
  have t1 := Lib.tabIs_of_head (name := "hart/decode.branches") (k := .i64) (zs := [5, 6, 0, 0, 7, 8, 9, 10]) glob_branches type_branches Tryz.underlying104 Tryz.underlying3 cells3 cells8 h0
  have h1 := laidMet.tail h0
  have t2 := Lib.tabIs_of_head (name := "hart/decode.loads") (k := .i64) (zs := [11, 12, 13, 0, 14, 15, 0, 0]) glob_loads type_loads Tryz.underlying104 Tryz.underlying3 cells3 cells8 h1
  have h2 := laidMet.tail h1
  have t3 := Lib.tabIs_of_head (name := "hart/decode.stores") (k := .i64) (zs := [16, 17, 18, 0, 0, 0, 0, 0]) glob_stores type_stores Tryz.underlying104 Tryz.underlying3 cells3 cells8 h2
  have h3 := laidMet.tail h2
  have t4 := Lib.tabIs_of_head (name := "hart/decode.fences") (k := .i64) (zs := [38, 0, 0, 0, 0, 0, 0, 0]) glob_fences type_fences Tryz.underlying104 Tryz.underlying3 cells3 cells8 h3
  have h4 := laidMet.tail h3
  have t5 := Lib.tabIs_of_head (name := "hart/decode.controls") (k := .i64) (zs := [0, 44, 45, 46, 0, 47, 48, 49]) glob_controls type_controls Tryz.underlying104 Tryz.underlying3 cells3 cells8 h4
  have h5 := laidMet.tail h4
  have t6 := Lib.tabIs_of_head (name := "hart/decode.immediates") (k := .i64) (zs := [19, 0, 20, 21, 22, 0, 23, 24]) glob_immediates type_immediates Tryz.underlying104 Tryz.underlying3 cells3 cells8 h5
  have h6 := laidMet.tail h5
  have t7 := Lib.tabIs_of_head (name := "hart/decode.shifts0") (k := .i64) (zs := [0, 25, 0, 0, 0, 26, 0, 0]) glob_shifts0 type_shifts0 Tryz.underlying104 Tryz.underlying3 cells3 cells8 h6
  have h7 := laidMet.tail h6
  have t8 := Lib.tabIs_of_head (name := "hart/decode.shifts20") (k := .i64) (zs := [0, 0, 0, 0, 0, 27, 0, 0]) glob_shifts20 type_shifts20 Tryz.underlying104 Tryz.underlying3 cells3 cells8 h7
  have h8 := laidMet.tail h7
  have t9 := Lib.tabIs_of_head (name := "hart/decode.registers0") (k := .i64) (zs := [28, 30, 31, 32, 33, 34, 36, 37]) glob_registers0 type_registers0 Tryz.underlying104 Tryz.underlying3 cells3 cells8 h8
  have h9 := laidMet.tail h8
  have t10 := Lib.tabIs_of_head (name := "hart/decode.registers20") (k := .i64) (zs := [29, 0, 0, 0, 0, 35, 0, 0]) glob_registers20 type_registers20 Tryz.underlying104 Tryz.underlying3 cells3 cells8 h9
  refine ⟨World.block_lt_of_cell? W ⟨10, 0, none⟩ (t5.cell glob_controls 0 (by decide)), fun f hf => t0.cell glob_jumps f (by simpa using hf), fun f hf => t1.cell glob_branches f (by simpa using hf), fun f hf => t2.cell glob_loads f (by simpa using hf), fun f hf => t3.cell glob_stores f (by simpa using hf), fun f hf => t4.cell glob_fences f (by simpa using hf), fun f hf => t6.cell glob_immediates f (by simpa using hf), fun f hf => t7.cell glob_shifts0 f (by simpa using hf), fun f hf => t8.cell glob_shifts20 f (by simpa using hf), fun f hf => t9.cell glob_registers0 f (by simpa using hf), fun f hf => t10.cell glob_registers20 f (by simpa using hf), fun f hf => t5.cell glob_controls f (by simpa using hf)⟩

/-- The door's own heap meets the condition. -/
theorem door_met (os : Os) (args : Array Value) : laidMetH Tryz.prog Rows.plainRow.laid ((World.doorLaid Tryz.prog 400 os).forCall (fun _ _ => 0) ⟨#[], args, []⟩).memory :=
  laidMetH_of_parts3 (fuel := 8) (laidMet_of_run' 8 (by kernel_rfl) (by kernel_rfl)) (by kernel_rfl) (by kernel_rfl)
end Go.Proofs.YtlilgcbgmebcdaaGreatDoor

/-
  hartlaw.Plain: the row and its tied card.
-/
namespace Go.Proofs.YtlilgcbgmebcdaaGreatDoor
open Go.ChangeShapes Go.WideShapes Go.ChangeAt Go.WideMaps Go.WideElems Go.RowKit
open Go.ChangeMaps (open_string shut_string)

set_option maxRecDepth 100000 in
theorem plain_lifted (os : Os) (started : os.Started) (H : Type) (enc : TypeId × Value → H) :
    ReturnsInHanded {} Tryz.checked os 3 .any (fun w args => (Rows.plainSpec.pre enc Tryz.prog Tryz.f3 [] false w args ∧ laidMetH Tryz.prog Rows.plainRow.laid w) ∧ sizedMet enc Tryz.prog Tryz.f3 (OpenSpec.ofChange Rows.plainSpec) false w args)
      (Rows.plainSpec.post enc Tryz.prog Tryz.f3 false true false false) := by
  refine returnsInHanded_of_change_and (C := Tryz.checked) (X := fun w _ => laidMetH Tryz.prog Rows.plainRow.laid w) (fun _ _ _ hh h => h.of_heap hh) own started (by kernel_rfl) Tryz.func3
    (ChangeSpec.witness_shaped (enc := enc) (C := Tryz.checked) (os := os) (X := fun w _ => laidMetH Tryz.prog Rows.plainRow.laid w) false (World.doorLaid Tryz.prog 400 os) #[.int .i64 0, .string ByteArray.empty, .int .i64 0] 8 rfl (World.shaped_of_RefB (by kernel_rfl) (by kernel_rfl)) (by kernel_rfl) (by kernel_rfl) (by kernel_rfl) (door_met os _)) ?_
  intro W base args ds gs before hval0 hW _ _ hL _
  have hval : ∀ (j : Nat) t v, Tryz.f3.params[j]? = some t → args[j]? = some v → Value.okWide Tryz.prog W .any base t v := hval0
  have hW' := hW
  obtain ⟨p, q, hA0, hV, rfl, hfz, hnd⟩ := hW
  have hA : DataW.TrodAll enc Tryz.prog W 0 (fun _ => true) true Tryz.f3.params.toList args.toList ds p := hA0
  rw [Tryz.params3] at hA hval
  obtain ⟨v0, vs0, d0, ds0, p0, q0, hargs, rfl, rfl, h0, r0⟩ := trodAll_cons hA
  obtain ⟨v1, vs1, d1, ds1, p1, q1, rfl, rfl, rfl, h1, r1⟩ := trodAll_cons r0
  obtain ⟨v2, vs2, d2, ds2, p2, q2, rfl, rfl, rfl, h2, r2⟩ := trodAll_cons r1
  obtain ⟨rfl, rfl, rfl⟩ := trodAll_nil r2
  obtain rfl : args = #[v0, v1, v2] := by cases args; simp_all
  obtain ⟨rfl, rfl⟩ := trodVars_none hV
  obtain ⟨a0, rfl, rfl, rfl, w0⟩ := open_int Tryz.underlying3 (hval 0 3 v0 rfl rfl) h0
  obtain ⟨a1, rfl, rfl, rfl, w1⟩ := open_string Tryz.underlying9 (hval 1 9 v1 rfl rfl) h1
  obtain ⟨a2, rfl, rfl, rfl, w2⟩ := open_int Tryz.underlying3 (hval 2 3 v2 rfl rfl) h2
  clear hA0 hval0
  refine (plain_any W (tabs_of_laid hL) a0 a1 a2).mono fun e W' ⟨he, bel⟩ => ?_
  subst he
  exact ⟨_, rfl, _, _, _, [], [], [], hW', trodAll_mk1 (shut_bool Tryz.underlying4 _), (trodAll_cons_mk (shut_int Tryz.underlying3 w0) (trodAll_cons_mk (shut_string Tryz.underlying9 w1) (trodAll_cons_mk (shut_int Tryz.underlying3 w2) trodAll_mk0))), rfl, bel.frame _, fun h => by cases h⟩

theorem plain_row : Rows.PlainSaid :=
  OpenClaim.holds_of_wide 3 Tryz.f3 rfl rfl rfl rfl rfl rfl rfl ⟨rfl, rfl, rfl, rfl, rfl⟩ rfl rfl rfl rfl rfl (by kernel_rfl) Tryz.func3 (by kernel_rfl)
    (of_decide_eq_true (by kernel_rfl)) (by unfold Func.isWrapper; first | (rw [if_pos (by decide +kernel)]; kernel_rfl) | (rw [if_neg (by decide +kernel)]; exact ⟨rfl, rfl⟩))
    (fun os started H enc _ => plain_lifted os started H enc)

theorem plain_holds : Rows.PlainCardSaid :=
  Claim7.holds_tied_plain_at .later [] [.data, .data, .data, .data, .data, .data, .data, .data, .data, .data, .data] true (true, "49b0e472e1ae4a8a911849e2a29816f0792afe0863da92146080f432b117504e") false
    plain_row (fun _ h => by cases h) (by kernel_rfl) (fun _ h => by cases h) plain_row_tie rfl ⟨rfl, rfl⟩ (by kernel_rfl) rfl
    (fun f fn hf hfn => by
      obtain rfl : f = 3 := Option.some.inj ((show Tryz.prog.funcNamed "hart/hartlaw.Plain" = some 3 by kernel_rfl).symm.trans hf) |>.symm
      obtain rfl : fn = Tryz.f3 := (Option.some.inj (Tryz.func3.symm.trans hfn)).symm
      exact ⟨by kernel_rfl, fun j t ht => by
        rw [Tryz.params3] at ht
        have h3 : t = 3 ∨ t = 9 := by
          rcases j with _ | _ | _ | j
          · exact .inl (by simpa using ht.symm)
          · exact .inr (by simpa using ht.symm)
          · exact .inl (by simpa using ht.symm)
          · simp at ht
        rcases h3 with rfl | rfl
        · exact (show Tryz.prog.wantsStandIn 3 = false by kernel_rfl)
        · exact (show Tryz.prog.wantsStandIn 9 = false by kernel_rfl)⟩)
    (by kernel_rfl)
#print axioms plain_holds
end Go.Proofs.YtlilgcbgmebcdaaGreatDoor
