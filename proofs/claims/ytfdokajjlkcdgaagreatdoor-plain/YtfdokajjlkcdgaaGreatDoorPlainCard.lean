import Derived.Test.YtfdokajjlkcdgaaGreatDoorTrapOne
import Derived.Test.YtfdokajjlkcdgaaGreatDoorRefClone2
import Derived.Test.YtfdokajjlkcdgaaGreatDoorMade
import Derived.Test.YtfdokajjlkcdgaaGreatDoorRows
import Derived.Test.YtfdokajjlkcdgaaGreatDoorDCode
import Derived.Test.YtfdokajjlkcdgaaGreatDoorCodeCsr
import Derived.ProofKit
import Derived.LaidMore
import Derived.OpenShut
import Derived.Lib.LaidTab
import Derived.Stop.LaidErr
import Derived.Stop.Joined
import Derived.Test.YtfdokajjlkcdgaaGreatDoorTie
import Derived.Test.YtfdokajjlkcdgaaGreatDoorCards
import Derived.SevenTiedAt
/-
  hartlaw.Traps: the walk.
-/
namespace Go.Proofs.YtfdokajjlkcdgaaGreatDoor
open Go.RowKit

theorem i64_and4095 (n : Int) : bits .and .i64 n 4095 = n % 4096 := by
  have h127 : (BitVec.ofInt 64 4095).toNat = 2 ^ 12 - 1 := by decide
  have key : (BitVec.ofInt 64 n &&& BitVec.ofInt 64 4095).toNat = (n % ((2 ^ 64 : Nat) : Int)).toNat % 2 ^ 12 := by
    rw [BitVec.toNat_and, BitVec.toNat_ofInt, h127, Nat.and_two_pow_sub_one_eq_mod]
  show IntKind.i64.wrap ((BitVec.ofInt 64 n &&& BitVec.ofInt 64 4095).toNat : Nat) = n % 4096
  rw [key, IntKind.wrap_i64]
  omega
theorem some_any (W : World) (k : Int) : Calls Tryz.prog 9 #[.int .i64 k] W fun e W' => e = .returned (.int .i64 (k % 4096)) ∧ W' = W := by
  have h := i64_and4095 k
  go_enter Tryz.func9, Tryz.ntmps9
  go_wp2
  go_ret
  exact ⟨rfl, rfl⟩

theorem Gd.wake {s : RSt} (h : Gd s) : Gd (wakeR s) := { h with dv := { h.dv with } }
theorem step_go {s : RSt} (G : Gd s) (ha : s.asleep = false) (hm : bits .and .u32 (mipR s) s.mie = 0) : (∃ s', ((Nw s → s'.device = 1) ∧ CntB s s') ∧ RStep s s') ∨ (∃ s', (Gd s' ∧ Moves s s') ∧ RStep s s' ∧ CStep (cOf s) (cOf s')) := by
  have hc := G.chosen hm
  have C := G.cok
  obtain ⟨m, hp⟩ : ∃ m : Nat, s.pc = m := ⟨s.pc.toNat, by have := G.pc.1; omega⟩
  by_cases ho : m + 4 ≤ s.ram.length
  · rcases do_one G hp ho with ⟨s', h1, h2⟩ | ⟨s', h1, h2, h3⟩
    · exact .inl ⟨s', h1, fun W p b h A => stepd_a W p b s h ha hc m hp ho s' fun W' h' => h2 W' p b h' A⟩
    · exact .inr ⟨s', h1, fun W p b h A => stepd_a W p b s h ha hc m hp ho s' fun W' h' => h2 W' p b h' A, h3 ha⟩
  · have h32 : m < 4294967296 := by have := G.pc.2; omega
    refine .inr ⟨failR s 1 s.pc, ⟨G.fail 1 (by decide) _ G.pc, mv_fail s _ _⟩, fun W p b h A => stepf_a W p b s h A ha hc m hp h32 ho, fun W x r h A _ _ => ?_⟩
    rw [cOf_fail G 1 s.pc]
    exact cstep_fault W x r _ h A ha C.m0 C.m3 m hp h32 ho
theorem step_ends {s : RSt} (G : Gd s) : ∃ s', RStep s s' := by
  obtain ⟨m, hp⟩ : ∃ m : Nat, s.pc = m := ⟨s.pc.toNat, by have := G.pc.1; omega⟩
  have h32 : m < 4294967296 := by have := G.pc.2; omega
  by_cases ha : s.asleep = true
  · by_cases hm : bits .and .u32 (mipR s) s.mie = 0
    · exact ⟨s, fun W p b h _ => step_sleep W p b s h ha hm⟩
    · rcases chosenR_cases (wakeR s) with hc | ⟨i, hi, hc⟩
      · by_cases ho : m + 4 ≤ s.ram.length
        · rcases do_one G.wake hp ho with ⟨s', _, h2⟩ | ⟨s', _, h2, _⟩
          · exact ⟨s', fun W p b h A => stepd_w W p b s h A ha hm hc m hp ho s' fun W' h' => h2 W' p b h' A⟩
          · exact ⟨s', fun W p b h A => stepd_w W p b s h A ha hm hc m hp ho s' fun W' h' => h2 W' p b h' A⟩
        · exact ⟨_, fun W p b h A => stepf_w W p b s h A ha hm hc m hp h32 ho⟩
      · by_cases hs : isB s.mideleg i = true
        · exact ⟨_, fun W p b h A => stepi_w_true W p b s h A ha hm i hi hc hs⟩
        · exact ⟨_, fun W p b h A => stepi_w_false W p b s h A ha hm i hi hc (by simpa using hs)⟩
  · have ha' : s.asleep = false := by simpa using ha
    rcases chosenR_cases s with hc | ⟨i, hi, hc⟩
    · by_cases ho : m + 4 ≤ s.ram.length
      · rcases do_one G hp ho with ⟨s', _, h2⟩ | ⟨s', _, h2, _⟩
        · exact ⟨s', fun W p b h A => stepd_a W p b s h ha' hc m hp ho s' fun W' h' => h2 W' p b h' A⟩
        · exact ⟨s', fun W p b h A => stepd_a W p b s h ha' hc m hp ho s' fun W' h' => h2 W' p b h' A⟩
      · exact ⟨_, fun W p b h A => stepf_a W p b s h A ha' hc m hp h32 ho⟩
    · by_cases hs : isB s.mideleg i = true
      · exact ⟨_, fun W p b h A => stepi_a_true W p b s h A ha' i hi hc hs⟩
      · exact ⟨_, fun W p b h A => stepi_a_false W p b s h A ha' i hi hc (by simpa using hs)⟩

structure TInv (W w : World) (x r p : Nat) (b : RBl) (s : RSt) : Prop where
  c : CodeAt w x r (cOf s)
  f : RefAt w p b s
  a : b.Apart p
  ne : x ≠ r
  g : Gd s
  n : Nw s
  bel : Below W.heap.size W w
  l : ∀ k, k ∈ b.l p → W.heap.size ≤ k
  nx : x ∉ b.l p
  nr : r ∉ b.l p
  wx : W.heap.size ≤ x
  wr : W.heap.size ≤ r
theorem TInv.looks {W w : World} {x r p : Nat} {b : RBl} {s : RSt} (h : TInv W w x r p b s) :
    Calls Tryz.prog 12 #[.pointer (some ⟨x, 0, none⟩), .pointer (some ⟨p, 0, none⟩)] w fun e W' => e = .returned (.bool true) ∧ Below W.heap.size W W' := by
  refine (looks_same w x r p b _ _ h.g.look h.g.fine h.c h.f).mono ?_
  rintro e w1 ⟨rfl, hb⟩
  exact ⟨rfl, h.bel.trans (hb.mono h.bel.size)⟩
theorem TInv.on {W w w' : World} {x r p : Nat} {b : RBl} {s : RSt} (h : TInv W w x r p b s) {L : List Nat} (ho : Offs L w w') (hL : ∀ k, k ∈ L → w.heap.size ≤ k) : TInv W w' x r p b s := by
  have lt := h.c.lt
  have lr := h.f.lt
  have kl : ∀ k, k ∈ b.l p → k < w.heap.size := fun k hk => by simp [RBl.l] at hk; omega
  have hs := h.bel.size
  exact { h with c := h.c.offs ho (fun e => by have := hL _ e; omega) (fun e => by have := hL _ e; omega), f := h.f.offs ho (fun k hk e => by have := hL _ e; have := kl k hk; omega), bel := h.bel.trans (ho.below (fun k hk => by have := hL k hk; omega) hs) }
theorem TInv.drawn {W w : World} {x r p : Nat} {b : RBl} {s : RSt} (h : TInv W w x r p b s) (q : Nat) : TInv W (w.drewN q) x r p b s := { h with c := h.c.drawn q, f := h.f.drawn q, bel := below_drawn h.bel q }
/-- Behind a clone and its step. -/
theorem TInv.far {W w w1 w2 : World} {x r p p' : Nat} {b b' : RBl} {s : RSt} (h : TInv W w x r p b s) (hb : Below w.heap.size w w1) (o2 : Offs (b'.l p') w1 w2) (l1 : ∀ k, k ∈ b'.l p' → w.heap.size ≤ k) : TInv W w2 x r p b s := by
  have I1 := h.on (L := []) (Offs.of_below hb) (fun k hk => by cases hk)
  have lt := h.c.lt
  have lr := h.f.lt
  have hs := h.bel.size
  exact { I1 with c := I1.c.offs o2 (fun e => by have := l1 _ e; omega) (fun e => by have := l1 _ e; omega), f := I1.f.offs o2 (fun k hk e => by have := l1 _ e; simp [RBl.l] at hk; omega), bel := I1.bel.trans (o2.below (fun k hk => by have := l1 k hk; omega) I1.bel.size) }
theorem look_of_new (n : Nat) (img : ByteArray) : newC n img = cOf (newR n img) := by kernel_rfl
theorem gd_new (n : Nat) (img : ByteArray) (h4 : 4 ≤ n) (hi : img.size ≤ n) (hb : Byt (ramOf n img)) : Gd (newR n img) :=
  { z := rfl, x := (fun i => by show 0 ≤ (List.replicate 32 (0 : Int))[i]?.getD 0 ∧ (List.replicate 32 (0 : Int))[i]?.getD 0 < 4294967296; rw [List.getElem?_replicate]; split <;> decide), pc := W32.lit (n := 0) (by decide), p4 := rfl, n4 := (by show 4 ≤ (ramOf n img).length; rw [ramOf_len n img hi]; exact h4), b := hb, mode := .inr (.inr rfl), spp := .inl rfl, mpp := .inl rfl, medeleg := W32.lit (n := 0) (by decide), mideleg := W32.lit (n := 0) (by decide), mie := W32.lit (n := 0) (by decide), soft := W32.lit (n := 0) (by decide), stvec := W32.lit (n := 0) (by decide), sscratch := W32.lit (n := 0) (by decide), sepc := W32.lit (n := 0) (by decide), scause := W32.lit (n := 0) (by decide), stval := W32.lit (n := 0) (by decide), mtvec := W32.lit (n := 0) (by decide), mscratch := W32.lit (n := 0) (by decide), mepc := W32.lit (n := 0) (by decide), mcause := W32.lit (n := 0) (by decide), mtval := W32.lit (n := 0) (by decide), s4 := rfl, m4 := rfl, dv := ⟨rfl, rfl, rfl, .inl rfl, W32.lit (n := 0) (by decide), W32.lit (n := 0) (by decide), W32.lit (n := 0) (by decide), W32.lit (n := 0) (by decide), W32.lit (n := 4294967295) (by decide), W32.lit (n := 0) (by decide), fun i => by show W32 (((List.replicate 8 (⟨false, false, false, 0⟩ : Srce))[i]?).getD ⟨false, false, false, 0⟩).prio; rw [List.getElem?_replicate]; split <;> exact W32.lit (n := 0) (by decide), rfl⟩ }
theorem nw_new (n : Nat) (img : ByteArray) : Nw (newR n img) := ⟨rfl, rfl, rfl, rfl, rfl, rfl, rfl⟩

set_option maxHeartbeats 4000000 in
theorem traps_good (W : World) (T : D.Tabs W) (T9 : T19 W) (n : Nat) (img : ByteArray) (k : Int) (h1 : 4 ≤ n) (h2 : n ≤ 512) (h3 : (n : Int) % 4 = 0) (h4 : img.size ≤ n) :
    Calls Tryz.prog 4 #[.int .i64 n, .string img, .int .i64 k] W fun e W' => e = .returned (.bool true) ∧ Below W.heap.size W W' := by
  have HM := made_any W n img h1 h2 h3 h4
  have HT : Hid (D.Tabs W ∧ T19 W) := ⟨T, T9⟩
  have HN : Hid (4 ≤ n ∧ img.size ≤ n) := ⟨h1, h4⟩
  obtain ⟨N, hN⟩ : ∃ N : Nat, k % 4096 = N := ⟨(k % 4096).toNat, by omega⟩
  have HS : Hid (∀ w, Calls Tryz.prog 9 #[.int .i64 k] w fun e W' => e = .returned (.int .i64 N) ∧ W' = w) := fun w => by rw [← hN]; exact some_any w k
  have N4 : (N : Int) < 4096 := by omega
  clear h1 h2 h3 h4 T T9 hN
  go_enter Tryz.func4, Tryz.ntmps4
  go_wp2_with fail
  refine HM.mono ?_
  rintro e w0 ⟨x, p0, rfl, ⟨r, b0, hc, hr, hA, hne, hx, hr0, hl, nx, nr⟩, hb0⟩
  have hby : Byt (ramOf n img) := hc.bytes.2.2
  rw [look_of_new] at hc
  have HP : Hid (∃ b s, TInv W w0 x r p0 b s) := ⟨b0, newR n img, hc, hr, hA, hne, gd_new n img HN.out.1 HN.out.2 hby, nw_new n img, hb0, hl, nx, nr, hx, hr0⟩
  clear hc hr hA hne hx hr0 hl nx nr hb0 HM hby
  go_wp2_with fail
  go_loopw [8, 10] (fun rv iv wr => ∃ i p : Nat, i ≤ N ∧ iv = .int .i64 i ∧ rv = .pointer (some ⟨p, 0, none⟩) ∧ Hid (∃ b s, TInv W wr x r p b s)) (fun _ iv _ => N - (intOf iv).toNat)
  case atStart => exact ⟨0, p0, Nat.zero_le _, rfl, rfl, HP⟩
  case round =>
    obtain ⟨i, p, hi, rfl, rfl, hI⟩ := hrel
    obtain ⟨b, s, I⟩ := hI.out
    have I0 : Hid (TInv W wr x r p b s) := I
    clear hI HP
    by_cases hlt : i < N
    · have hlt' : (i : Int) < N := by omega
      have HG : Hid (Gd s) := I.g
      have HW : Hid (Nw s) := I.n
      have HQ := rmip_any wr p b s I.f
      clear I
      go_wp2_with (first | (go_at_call 9; refine (HS.out _).mono ?_; rintro e w' ⟨rfl, hw⟩; rw [hw]; clear hw w'))
      refine HQ.mono ?_
      rintro e w1 ⟨rfl, q, rfl⟩
      have I1 : Hid (TInv W (wr.drewN q) x r p b s) := I0.out.drawn q
      clear HQ
      go_wp2_with fail
      refine (clone_any _ p b s I1.out.f HG.out.n4).mono ?_
      rintro e w2 ⟨p', rfl, ⟨b', r2, A2, l2⟩, hb2⟩
      have R2 : Hid (RefAt w2 p' b' s) := r2
      have L2 : Hid (∀ k, k ∈ b'.l p' → (wr.drewN q).heap.size ≤ k) := l2
      have B2 : Hid (Below (wr.drewN q).heap.size (wr.drewN q) w2) := hb2
      have P2 : Hid (b'.Apart p') := A2
      clear r2 l2 hb2 A2
      by_cases hs : s.asleep = false ∧ bits .and .u32 (mipR s) s.mie = 0
      · rcases step_go HG.out hs.1 hs.2 with ⟨s', hd, hF⟩ | ⟨s', ⟨hg, hn⟩, hF, hC⟩
        · have HF2 := hF w2 p' b' R2.out P2.out
          clear hF
          go_wp2_with fail
          refine HF2.mono ?_
          rintro e w3 ⟨rfl, h3, o3⟩
          have I3 : Hid (TInv W w3 x r p b s) := I1.out.far B2.out o3 L2.out
          have c1 := I3.out.f.asleep
          have c2 := I3.out.f.mie
          have c3 := h3.device
          rw [hs.1] at c1
          rw [hd.1 HW.out] at c3
          have hm := hs.2
          clear h3 o3 HF2 hs hd
          go_wp2_with fail
          refine I3.out.looks.mono ?_
          rintro e w4 ⟨rfl, hb4⟩
          go_wp2_with fail
          go_ret
          exact ⟨rfl, hb4⟩
        · have HF2 := hF w2 p' b' R2.out P2.out
          have HC : Hid (CStep (cOf s) (cOf s')) := hC
          have HG2 : Hid (Gd s' ∧ Nw s') := ⟨hg, HW.out.still hn.1⟩
          clear hF hC hg hn
          go_wp2_with fail
          refine HF2.mono ?_
          rintro e w3 ⟨rfl, h3, o3⟩
          have I3 : Hid (TInv W w3 x r p b s) := I1.out.far B2.out o3 L2.out
          have c1 := I3.out.f.asleep
          have c2 := I3.out.f.mie
          have c3 := h3.device
          rw [hs.1] at c1
          rw [HG2.out.2.device] at c3
          have hm := hs.2
          have H3 : Hid (RefAt w3 p' b' s') := h3
          clear h3 o3 HF2 hs
          go_wp2_with fail
          have bl := I3.out.bel
          refine (HC.out _ x r I3.out.c I0.out.ne (HT.out.1.below HT.out.1.size bl) (HT.out.2.of (bl.block 11 HT.out.2.lt))).mono ?_
          rintro e w4 ⟨rfl, h4, o4⟩
          have I4 : Hid (TInv W w4 x r p' b' s') := by
            have ltx := I1.out.c.lt
            have hx' : x ∉ b'.l p' := fun hk => by have := L2.out _ hk; omega
            have hr' : r ∉ b'.l p' := fun hk => by have := L2.out _ hk; omega
            have sz := I1.out.bel.size
            exact ⟨h4, H3.out.offs o4 (fun k hk e => by simp at e; rcases e with rfl | rfl; exact hx' hk; exact hr' hk), P2.out, I0.out.ne, HG2.out.1, HG2.out.2,
              bl.trans (o4.below (fun k hk => by simp at hk; have := I0.out.wx; have := I0.out.wr; rcases hk with rfl | rfl <;> omega) bl.size), fun k hk => by have := L2.out k hk; omega, hx', hr', I0.out.wx, I0.out.wr⟩
          clear h4 o4 bl
          go_wp2_with fail
          go_roundw
          case rel => exact ⟨i + 1, p', by omega, by go_num, rfl, ⟨b', s', I4.out⟩⟩
          case measure => simp [intOf]; omega
      · obtain ⟨s', hF⟩ := step_ends HG.out
        have HF2 := hF w2 p' b' R2.out P2.out
        clear hF
        have HS2 : Hid (¬ (s.asleep = false ∧ bits .and .u32 (mipR s) s.mie = 0)) := hs
        clear hs
        go_wp2_with fail
        refine HF2.mono ?_
        rintro e w3 ⟨rfl, h3, o3⟩
        have I3 : Hid (TInv W w3 x r p b s) := I1.out.far B2.out o3 L2.out
        have c1 := I3.out.f.asleep
        have c2 := I3.out.f.mie
        clear h3 o3 HF2
        by_cases ha : s.asleep = true
        · rw [ha] at c1
          clear ha
          go_wp2_with fail
          refine I3.out.looks.mono ?_
          rintro e w4 ⟨rfl, hb4⟩
          go_wp2_with fail
          go_ret
          exact ⟨rfl, hb4⟩
        · have ha' : s.asleep = false := by simpa using ha
          have hm : (bits .and .u32 (mipR s) s.mie != 0) = true := by
            have : ¬ bits .and .u32 (mipR s) s.mie = 0 := fun e => HS2.out ⟨ha', e⟩
            simpa using this
          rw [ha'] at c1
          clear ha ha'
          go_wp2_with fail
          refine I3.out.looks.mono ?_
          rintro e w4 ⟨rfl, hb4⟩
          go_wp2_with fail
          go_ret
          exact ⟨rfl, hb4⟩
    · have hlt' : ¬ ((i : Int) < N) := by omega
      have HL := I.looks
      clear I
      go_wp2_with (first | (go_at_call 9; refine (HS.out _).mono ?_; rintro e w' ⟨rfl, rfl⟩))
      refine HL.mono ?_
      rintro e w3 ⟨rfl, hb3⟩
      go_wp2_with fail
      go_ret
      exact ⟨rfl, hb3⟩

theorem traps_bad (W : World) (size : Int) (img : ByteArray) (k : Int) (h : errOf size img ≠ 0) :
    Calls Tryz.prog 4 #[.int .i64 size, .string img, .int .i64 k] W fun e W' => e = .returned (.bool true) ∧ Below W.heap.size W W' := by
  have HM := made_bad W size img h
  clear h
  go_enter Tryz.func4, Tryz.ntmps4
  go_wp2_with fail
  refine HM.mono ?_
  rintro e w1 ⟨rfl, hb1⟩
  go_wp2_with fail
  go_ret
  exact ⟨rfl, hb1⟩
theorem traps_any (W : World) (T : D.Tabs W) (T9 : T19 W) (size : Int) (img : ByteArray) (k : Int) :
    Calls Tryz.prog 4 #[.int .i64 size, .string img, .int .i64 k] W fun e W' => e = .returned (.bool true) ∧ Below W.heap.size W W' := by
  by_cases h : errOf size img = 0
  · have hb : ¬ (size < 4 ∨ 512 < size ∨ size % 4 ≠ 0) := fun hb => by simp [errOf, hb] at h
    have hl : ¬ (size < img.size) := fun hl => by simp [errOf, hb, hl] at h
    obtain ⟨n, rfl⟩ : ∃ n : Nat, size = n := ⟨size.toNat, by omega⟩
    exact traps_good W T T9 n img k (by omega) (by omega) (by omega) (by omega)
  · exact traps_bad W size img k h
end Go.Proofs.YtfdokajjlkcdgaaGreatDoor

/-
  hartlaw.Plain: the walk.
-/
namespace Go.Proofs.YtfdokajjlkcdgaaGreatDoor
open Go.RowKit

theorem and_z (a : Int) (h : W32 a) : bits .and .u32 a 0 = 0 := by
  rw [u32_and a 0 h.1 h.2 (by decide) (by decide)]
  simp
structure QInv (W w : World) (x r p : Nat) (b : RBl) (s : RSt) : Prop where
  t : TInv W w x r p b s
  p : s.traps = 0
  y : s.system = 0
  e : s.mie = 0
  a : s.asleep = false

set_option maxHeartbeats 4000000 in
theorem plain_good (W : World) (T : D.Tabs W) (T9 : T19 W) (n : Nat) (img : ByteArray) (k : Int) (h1 : 4 ≤ n) (h2 : n ≤ 512) (h3 : (n : Int) % 4 = 0) (h4 : img.size ≤ n) :
    Calls Tryz.prog 3 #[.int .i64 n, .string img, .int .i64 k] W fun e W' => e = .returned (.bool true) ∧ Below W.heap.size W W' := by
  have HM := made_any W n img h1 h2 h3 h4
  have HT : Hid (D.Tabs W ∧ T19 W) := ⟨T, T9⟩
  have HN : Hid (4 ≤ n ∧ img.size ≤ n) := ⟨h1, h4⟩
  obtain ⟨N, hN⟩ : ∃ N : Nat, k % 4096 = N := ⟨(k % 4096).toNat, by omega⟩
  have HS : Hid (∀ w, Calls Tryz.prog 9 #[.int .i64 k] w fun e W' => e = .returned (.int .i64 N) ∧ W' = w) := fun w => by rw [← hN]; exact some_any w k
  have N4 : (N : Int) < 4096 := by omega
  clear h1 h2 h3 h4 T T9 hN
  go_enter Tryz.func3, Tryz.ntmps3
  go_wp2_with fail
  refine HM.mono ?_
  rintro e w0 ⟨x, p0, rfl, ⟨r, b0, hc, hr, hA, hne, hx, hr0, hl, nx, nr⟩, hb0⟩
  have hby : Byt (ramOf n img) := hc.bytes.2.2
  rw [look_of_new] at hc
  have HP : Hid (∃ b s, QInv W w0 x r p0 b s) := ⟨b0, newR n img, ⟨hc, hr, hA, hne, gd_new n img HN.out.1 HN.out.2 hby, nw_new n img, hb0, hl, nx, nr, hx, hr0⟩, rfl, rfl, rfl, rfl⟩
  clear hc hr hA hne hx hr0 hl nx nr hb0 HM hby
  go_wp2_with fail
  go_loopw [8, 10] (fun rv iv wr => ∃ i p : Nat, i ≤ N ∧ iv = .int .i64 i ∧ rv = .pointer (some ⟨p, 0, none⟩) ∧ Hid (∃ b s, QInv W wr x r p b s)) (fun _ iv _ => N - (intOf iv).toNat)
  case atStart => exact ⟨0, p0, Nat.zero_le _, rfl, rfl, HP⟩
  case round =>
    obtain ⟨i, p, hi, rfl, rfl, hI⟩ := hrel
    obtain ⟨b, s, I⟩ := hI.out
    have I0 : Hid (QInv W wr x r p b s) := I
    clear hI HP
    by_cases hlt : i < N
    · have hlt' : (i : Int) < N := by omega
      have HG : Hid (Gd s) := I.t.g
      have HW : Hid (Nw s) := I.t.n
      have hs : s.asleep = false ∧ bits .and .u32 (mipR s) s.mie = 0 := ⟨I.a, by rw [I.e]; exact and_z _ I.t.g.mip⟩
      have HZ : Hid (s.traps = 0 ∧ s.system = 0 ∧ s.mie = 0 ∧ s.asleep = false) := ⟨I.p, I.y, I.e, I.a⟩
      have HCl := clone_any wr p b s I.t.f I.t.g.n4
      clear I
      go_wp2_with (first | (go_at_call 9; refine (HS.out _).mono ?_; rintro e w' ⟨rfl, hw⟩; rw [hw]; clear hw w'))
      refine HCl.mono ?_
      rintro e w2 ⟨p', rfl, ⟨b', r2, A2, l2⟩, hb2⟩
      have R2 : Hid (RefAt w2 p' b' s) := r2
      have L2 : Hid (∀ k, k ∈ b'.l p' → wr.heap.size ≤ k) := l2
      have B2 : Hid (Below wr.heap.size wr w2) := hb2
      have P2 : Hid (b'.Apart p') := A2
      clear r2 l2 hb2 A2 HCl
      rcases step_go HG.out hs.1 hs.2 with ⟨s', hd, hF⟩ | ⟨s', ⟨hg, hn⟩, hF, hC⟩
      · have HF2 := hF w2 p' b' R2.out P2.out
        clear hF
        go_wp2_with fail
        refine HF2.mono ?_
        rintro e w3 ⟨rfl, h3, o3⟩
        have I3 : Hid (∀ q, TInv W (w3.drewN q) x r p b s) := fun q => (I0.out.t.far B2.out o3 L2.out).drawn q
        have c33 := h3.traps
        have c34 := h3.system
        have c35 := h3.device
        have d1 := hd.1 HW.out
        have t1 : s'.traps = 0 ∨ s'.traps = 1 := by have := hd.2.1; rw [HZ.out.1] at this; unfold wrap64 at this; omega
        have t2 : s'.system = 0 := hd.2.2.trans HZ.out.2.1
        rw [d1] at c35
        rw [t2] at c34
        clear h3 o3 HF2 hs hd d1 t2
        rcases t1 with t1 | t1
        all_goals
          rw [t1] at c33
          clear t1
          go_wp2_with fail
          go_quiet (fail)
          go_wp2_with fail
          refine (I3.out _).looks.mono ?_
          rintro e w4 ⟨rfl, hb4⟩
          go_wp2_with fail
          go_ret
          exact ⟨rfl, hb4⟩
      · have HF2 := hF w2 p' b' R2.out P2.out
        have HC : Hid (CStep (cOf s) (cOf s')) := hC
        have HG2 : Hid (Gd s' ∧ Nw s') := ⟨hg, HW.out.still hn.1⟩
        have HM : Hid (s'.system = s.system → s'.mie = s.mie ∧ s'.asleep = s.asleep) := hn.2.2.2
        have t1 : s'.traps = 0 ∨ s'.traps = 1 := by have := hn.2.1; rw [HZ.out.1] at this; unfold wrap64 at this; omega
        have t2 : s'.system = 0 ∨ s'.system = 1 := by have := hn.2.2.1; rw [HZ.out.2.1] at this; unfold wrap64 at this; omega
        clear hF hC hg hn hs
        go_wp2_with fail
        refine HF2.mono ?_
        rintro e w3 ⟨rfl, h3, o3⟩
        have I3 : Hid (∀ q, TInv W (w3.drewN q) x r p b s) := fun q => (I0.out.t.far B2.out o3 L2.out).drawn q
        have c33 := h3.traps
        have c34 := h3.system
        have c35 := h3.device
        rw [HG2.out.2.device] at c35
        have H3 : Hid (∀ q, RefAt (w3.drewN q) p' b' s') := fun q => h3.drawn q
        clear h3 o3 HF2
        by_cases hz : s'.traps = 0 ∧ s'.system = 0
        · have HZ2 : Hid (s'.traps = 0 ∧ s'.system = 0) := hz
          rw [hz.1] at c33
          rw [hz.2] at c34
          clear t1 t2 hz
          go_wp2_with fail
          go_quiet (fail)
          go_wp2_with fail
          have bl := fun q => (I3.out q).bel
          refine (HC.out _ x r (I3.out _).c I0.out.t.ne (HT.out.1.below HT.out.1.size (bl _)) (HT.out.2.of ((bl _).block 11 HT.out.2.lt))).mono ?_
          rintro e w4 ⟨rfl, h4, o4⟩
          have I4 : Hid (QInv W w4 x r p' b' s') := by
            have ltx := I0.out.t.c.lt
            have hx' : x ∉ b'.l p' := fun hk => by have := L2.out _ hk; omega
            have hr' : r ∉ b'.l p' := fun hk => by have := L2.out _ hk; omega
            have sz := I0.out.t.bel.size
            have mm := HM.out (HZ2.out.2.trans HZ.out.2.1.symm)
            exact ⟨⟨h4, (H3.out _).offs o4 (fun k hk e => by simp at e; rcases e with rfl | rfl; exact hx' hk; exact hr' hk), P2.out, I0.out.t.ne, HG2.out.1, HG2.out.2,
              (bl _).trans (o4.below (fun k hk => by simp at hk; have := I0.out.t.wx; have := I0.out.t.wr; rcases hk with rfl | rfl <;> omega) (bl _).size), fun k hk => by have := L2.out k hk; omega, hx', hr', I0.out.t.wx, I0.out.t.wr⟩,
              HZ2.out.1, HZ2.out.2, mm.1.trans HZ.out.2.2.1, mm.2.trans HZ.out.2.2.2⟩
          clear h4 o4 bl
          go_wp2_with fail
          go_roundw
          case rel => exact ⟨i + 1, p', by omega, by go_num, rfl, ⟨b', s', I4.out⟩⟩
          case measure => simp [intOf]; omega
        · have t3 : 0 < s'.traps + s'.system := by omega
          clear hz
          go_wp2_with fail
          go_quiet (fail)
          go_wp2_with fail
          refine (I3.out _).looks.mono ?_
          rintro e w4 ⟨rfl, hb4⟩
          go_wp2_with fail
          go_ret
          exact ⟨rfl, hb4⟩
    · have hlt' : ¬ ((i : Int) < N) := by omega
      have HL := I.t.looks
      clear I
      go_wp2_with (first | (go_at_call 9; refine (HS.out _).mono ?_; rintro e w' ⟨rfl, rfl⟩))
      refine HL.mono ?_
      rintro e w3 ⟨rfl, hb3⟩
      go_wp2_with fail
      go_ret
      exact ⟨rfl, hb3⟩

theorem plain_bad (W : World) (size : Int) (img : ByteArray) (k : Int) (h : errOf size img ≠ 0) :
    Calls Tryz.prog 3 #[.int .i64 size, .string img, .int .i64 k] W fun e W' => e = .returned (.bool true) ∧ Below W.heap.size W W' := by
  have HM := made_bad W size img h
  clear h
  go_enter Tryz.func3, Tryz.ntmps3
  go_wp2_with fail
  refine HM.mono ?_
  rintro e w1 ⟨rfl, hb1⟩
  go_wp2_with fail
  go_ret
  exact ⟨rfl, hb1⟩
theorem plain_any (W : World) (T : D.Tabs W) (T9 : T19 W) (size : Int) (img : ByteArray) (k : Int) :
    Calls Tryz.prog 3 #[.int .i64 size, .string img, .int .i64 k] W fun e W' => e = .returned (.bool true) ∧ Below W.heap.size W W' := by
  by_cases h : errOf size img = 0
  · have hb : ¬ (size < 4 ∨ 512 < size ∨ size % 4 ≠ 0) := fun hb => by simp [errOf, hb] at h
    have hl : ¬ (size < img.size) := fun hl => by simp [errOf, hb, hl] at h
    obtain ⟨n, rfl⟩ : ∃ n : Nat, size = n := ⟨size.toNat, by omega⟩
    exact plain_good W T T9 n img k (by omega) (by omega) (by omega) (by omega)
  · exact plain_bad W size img k h
end Go.Proofs.YtfdokajjlkcdgaaGreatDoor

/-
  What the listed tables give the walk, and the row's start.
-/
namespace Go.Proofs.YtfdokajjlkcdgaaGreatDoor
open Go.ChangeShapes Go.WideShapes Go.ChangeAt Go.WideMaps Go.WideElems Go.RowKit

theorem own : ownKnob Tryz.prog.godebug = none := by kernel_rfl
theorem cells3 : Tryz.prog.cellsOf 3 = 1 := by kernel_rfl
theorem cells8 : Tryz.prog.cellsOf 118 = 8 := by kernel_rfl
theorem cells29 : Tryz.prog.cellsOf 29 = 1 := by kernel_rfl
theorem cells19 : Tryz.prog.cellsOf 139 = 19 := by kernel_rfl
theorem glob_jumps : Tryz.prog.globalNamed "hart/decode.jumps" = some 0 := by kernel_rfl
theorem type_jumps : (Tryz.prog.globals[0]?).map (·.type) = some 118 := by kernel_rfl
theorem glob_branches : Tryz.prog.globalNamed "hart/decode.branches" = some 1 := by kernel_rfl
theorem type_branches : (Tryz.prog.globals[1]?).map (·.type) = some 118 := by kernel_rfl
theorem glob_loads : Tryz.prog.globalNamed "hart/decode.loads" = some 2 := by kernel_rfl
theorem type_loads : (Tryz.prog.globals[2]?).map (·.type) = some 118 := by kernel_rfl
theorem glob_stores : Tryz.prog.globalNamed "hart/decode.stores" = some 3 := by kernel_rfl
theorem type_stores : (Tryz.prog.globals[3]?).map (·.type) = some 118 := by kernel_rfl
theorem glob_fences : Tryz.prog.globalNamed "hart/decode.fences" = some 4 := by kernel_rfl
theorem type_fences : (Tryz.prog.globals[4]?).map (·.type) = some 118 := by kernel_rfl
theorem glob_controls : Tryz.prog.globalNamed "hart/decode.controls" = some 10 := by kernel_rfl
theorem type_controls : (Tryz.prog.globals[10]?).map (·.type) = some 118 := by kernel_rfl
theorem glob_immediates : Tryz.prog.globalNamed "hart/decode.immediates" = some 5 := by kernel_rfl
theorem type_immediates : (Tryz.prog.globals[5]?).map (·.type) = some 118 := by kernel_rfl
theorem glob_shifts0 : Tryz.prog.globalNamed "hart/decode.shifts0" = some 6 := by kernel_rfl
theorem type_shifts0 : (Tryz.prog.globals[6]?).map (·.type) = some 118 := by kernel_rfl
theorem glob_shifts20 : Tryz.prog.globalNamed "hart/decode.shifts20" = some 7 := by kernel_rfl
theorem type_shifts20 : (Tryz.prog.globals[7]?).map (·.type) = some 118 := by kernel_rfl
theorem glob_registers0 : Tryz.prog.globalNamed "hart/decode.registers0" = some 8 := by kernel_rfl
theorem type_registers0 : (Tryz.prog.globals[8]?).map (·.type) = some 118 := by kernel_rfl
theorem glob_registers20 : Tryz.prog.globalNamed "hart/decode.registers20" = some 9 := by kernel_rfl
theorem type_registers20 : (Tryz.prog.globals[9]?).map (·.type) = some 118 := by kernel_rfl
theorem glob_controlNumbers : Tryz.prog.globalNamed "hart/hart.controlNumbers" = some 11 := by kernel_rfl
theorem type_controlNumbers : (Tryz.prog.globals[11]?).map (·.type) = some 139 := by kernel_rfl

theorem tabs_of_laid {W : World} (h : laidMetH Tryz.prog Rows.plainRow.laid W) : D.Tabs W ∧ T19 W := by
  rw [MakeChecks.laidMetH_plain _ _ _ (by kernel_rfl)] at h
  have t0 := Lib.tabIs_of_head (name := "hart/decode.jumps") (k := .i64) (zs := [4, 0, 0, 0, 0, 0, 0, 0]) glob_jumps type_jumps Tryz.underlying118 Tryz.underlying3 cells3 cells8 h
  have h0 := laidMet.tail h
  have t1 := Lib.tabIs_of_head (name := "hart/decode.branches") (k := .i64) (zs := [5, 6, 0, 0, 7, 8, 9, 10]) glob_branches type_branches Tryz.underlying118 Tryz.underlying3 cells3 cells8 h0
  have h1 := laidMet.tail h0
  have t2 := Lib.tabIs_of_head (name := "hart/decode.loads") (k := .i64) (zs := [11, 12, 13, 0, 14, 15, 0, 0]) glob_loads type_loads Tryz.underlying118 Tryz.underlying3 cells3 cells8 h1
  have h2 := laidMet.tail h1
  have t3 := Lib.tabIs_of_head (name := "hart/decode.stores") (k := .i64) (zs := [16, 17, 18, 0, 0, 0, 0, 0]) glob_stores type_stores Tryz.underlying118 Tryz.underlying3 cells3 cells8 h2
  have h3 := laidMet.tail h2
  have t4 := Lib.tabIs_of_head (name := "hart/decode.fences") (k := .i64) (zs := [38, 0, 0, 0, 0, 0, 0, 0]) glob_fences type_fences Tryz.underlying118 Tryz.underlying3 cells3 cells8 h3
  have h4 := laidMet.tail h3
  have t5 := Lib.tabIs_of_head (name := "hart/decode.controls") (k := .i64) (zs := [0, 44, 45, 46, 0, 47, 48, 49]) glob_controls type_controls Tryz.underlying118 Tryz.underlying3 cells3 cells8 h4
  have h5 := laidMet.tail h4
  have t6 := Lib.tabIs_of_head (name := "hart/decode.immediates") (k := .i64) (zs := [19, 0, 20, 21, 22, 0, 23, 24]) glob_immediates type_immediates Tryz.underlying118 Tryz.underlying3 cells3 cells8 h5
  have h6 := laidMet.tail h5
  have t7 := Lib.tabIs_of_head (name := "hart/decode.shifts0") (k := .i64) (zs := [0, 25, 0, 0, 0, 26, 0, 0]) glob_shifts0 type_shifts0 Tryz.underlying118 Tryz.underlying3 cells3 cells8 h6
  have h7 := laidMet.tail h6
  have t8 := Lib.tabIs_of_head (name := "hart/decode.shifts20") (k := .i64) (zs := [0, 0, 0, 0, 0, 27, 0, 0]) glob_shifts20 type_shifts20 Tryz.underlying118 Tryz.underlying3 cells3 cells8 h7
  have h8 := laidMet.tail h7
  have t9 := Lib.tabIs_of_head (name := "hart/decode.registers0") (k := .i64) (zs := [28, 30, 31, 32, 33, 34, 36, 37]) glob_registers0 type_registers0 Tryz.underlying118 Tryz.underlying3 cells3 cells8 h8
  have h9 := laidMet.tail h8
  have t10 := Lib.tabIs_of_head (name := "hart/decode.registers20") (k := .i64) (zs := [29, 0, 0, 0, 0, 35, 0, 0]) glob_registers20 type_registers20 Tryz.underlying118 Tryz.underlying3 cells3 cells8 h9
  have h10 := laidMet.tail h9
  have t11 := Lib.tabIs_of_head (name := "hart/hart.controlNumbers") (k := .u32) (zs := numsR) glob_controlNumbers type_controlNumbers Tryz.underlying139 Tryz.underlying29 cells29 cells19 h10
  refine ⟨⟨World.block_lt_of_cell? W ⟨10, 0, none⟩ (t5.cell glob_controls 0 (by decide)), fun f hf => t0.cell glob_jumps f (by simpa using hf), fun f hf => t1.cell glob_branches f (by simpa using hf), fun f hf => t2.cell glob_loads f (by simpa using hf), fun f hf => t3.cell glob_stores f (by simpa using hf), fun f hf => t4.cell glob_fences f (by simpa using hf), fun f hf => t6.cell glob_immediates f (by simpa using hf), fun f hf => t7.cell glob_shifts0 f (by simpa using hf), fun f hf => t8.cell glob_shifts20 f (by simpa using hf), fun f hf => t9.cell glob_registers0 f (by simpa using hf), fun f hf => t10.cell glob_registers20 f (by simpa using hf), fun f hf => t5.cell glob_controls f (by simpa using hf)⟩, fun j hj => ?_⟩
  exact t11.cell glob_controlNumbers j hj

/-- The door's own heap meets the condition. -/
theorem door_met (os : Os) (args : Array Value) : laidMetH Tryz.prog Rows.plainRow.laid ((World.doorLaid Tryz.prog 400 os).forCall (fun _ _ => 0) ⟨#[], args, []⟩).memory :=
  laidMetH_of_parts3 (fuel := 8) (laidMet_of_run' 8 (by kernel_rfl) (by kernel_rfl)) (by kernel_rfl) (by kernel_rfl)
end Go.Proofs.YtfdokajjlkcdgaaGreatDoor

/-
  hartlaw.Plain: the row and its tied card.
-/
namespace Go.Proofs.YtfdokajjlkcdgaaGreatDoor
open Go.ChangeShapes Go.WideShapes Go.ChangeAt Go.WideMaps Go.WideElems Go.RowKit
open Go.ChangeMaps (open_string shut_string)

set_option maxRecDepth 100000 in
theorem plain_lifted (os : Os) (started : os.Started) (H : Type) (enc : TypeId × Value → H) :
    ReturnsInHanded {} Tryz.checked os 3 .any (fun w args => (Rows.plainSpec.pre enc Tryz.prog Tryz.f3 [] false w args ∧ laidMetH Tryz.prog Rows.plainRow.laid w) ∧ sizedMet enc Tryz.prog Tryz.f3 (OpenSpec.ofChange Rows.plainSpec) false w args)
      (Rows.plainSpec.post enc Tryz.prog Tryz.f3 false true false false) := by
  refine returnsInHanded_of_change_and (C := Tryz.checked) (X := fun w _ => laidMetH Tryz.prog Rows.plainRow.laid w) (fun _ _ _ hh h => h.of_heap hh) own started (by kernel_rfl) Tryz.func3
    (ChangeSpec.witness_shaped (enc := enc) (C := Tryz.checked) (os := os) (X := fun w _ => laidMetH Tryz.prog Rows.plainRow.laid w) false (World.doorLaid Tryz.prog 400 os) #[.int .i64 0, .string ByteArray.empty, .int .i64 0] 8 rfl (World.shaped_of_RefB (by kernel_rfl) (by kernel_rfl)) (by kernel_rfl) (by kernel_rfl) (by kernel_rfl) (door_met os _)) ?_
  intro W base args ds gs before hval0 hW _ _ hL _
  have hval : ∀ (j : Nat) t v, Tryz.f3.params[j]? = some t → args[j]? = some v → Value.okWide Tryz.prog W .any base t v := hval0
  have hW' := hW
  obtain ⟨p, q, hA0, hV, rfl, hfz, hnd⟩ := hW
  have hA : DataW.TrodAll enc Tryz.prog W 0 (fun _ => true) true Tryz.f3.params.toList args.toList ds p := hA0
  rw [Tryz.params3] at hA hval
  obtain ⟨v0, vs0, d0, ds0, p0, q0, hargs, rfl, rfl, h0, r0⟩ := trodAll_cons hA
  obtain ⟨v1, vs1, d1, ds1, p1, q1, rfl, rfl, rfl, h1, r1⟩ := trodAll_cons r0
  obtain ⟨v2, vs2, d2, ds2, p2, q2, rfl, rfl, rfl, h2, r2⟩ := trodAll_cons r1
  obtain ⟨rfl, rfl, rfl⟩ := trodAll_nil r2
  obtain rfl : args = #[v0, v1, v2] := by cases args; simp_all
  obtain ⟨rfl, rfl⟩ := trodVars_none hV
  obtain ⟨a0, rfl, rfl, rfl, w0⟩ := open_int Tryz.underlying3 (hval 0 3 v0 rfl rfl) h0
  obtain ⟨a1, rfl, rfl, rfl, w1⟩ := open_string Tryz.underlying9 (hval 1 9 v1 rfl rfl) h1
  obtain ⟨a2, rfl, rfl, rfl, w2⟩ := open_int Tryz.underlying3 (hval 2 3 v2 rfl rfl) h2
  clear hA0 hval0
  refine (plain_any W (tabs_of_laid hL).1 (tabs_of_laid hL).2 a0 a1 a2).mono fun e W' ⟨he, bel⟩ => ?_
  subst he
  exact ⟨_, rfl, _, _, _, [], [], [], hW', trodAll_mk1 (shut_bool Tryz.underlying4 _), (trodAll_cons_mk (shut_int Tryz.underlying3 w0) (trodAll_cons_mk (shut_string Tryz.underlying9 w1) (trodAll_cons_mk (shut_int Tryz.underlying3 w2) trodAll_mk0))), rfl, bel.frame _, fun h => by cases h⟩

theorem plain_row : Rows.PlainSaid :=
  OpenClaim.holds_of_wide 3 Tryz.f3 rfl rfl rfl rfl rfl rfl rfl ⟨rfl, rfl, rfl, rfl, rfl⟩ rfl rfl rfl rfl rfl (by kernel_rfl) Tryz.func3 (by kernel_rfl)
    (of_decide_eq_true (by kernel_rfl)) (by unfold Func.isWrapper; first | (rw [if_pos (by decide +kernel)]; kernel_rfl) | (rw [if_neg (by decide +kernel)]; exact ⟨rfl, rfl⟩))
    (fun os started H enc _ => plain_lifted os started H enc)

theorem plain_holds : Rows.PlainCardSaid :=
  Claim7.holds_tied_plain_at .later [] [.data, .data, .data, .data, .data, .data, .data, .data, .data, .data, .data, .data] true (true, "933698f6fb40bc40c5c8538636274ca7623f6ae139b97ea72ba328b9eedcabf3") false
    plain_row (fun _ h => by cases h) (by kernel_rfl) (fun _ h => by cases h) plain_row_tie rfl ⟨rfl, rfl⟩ (by kernel_rfl) rfl
    (fun f fn hf hfn => by
      obtain rfl : f = 3 := Option.some.inj ((show Tryz.prog.funcNamed "hart/hartlaw.Plain" = some 3 by kernel_rfl).symm.trans hf) |>.symm
      obtain rfl : fn = Tryz.f3 := (Option.some.inj (Tryz.func3.symm.trans hfn)).symm
      exact ⟨by kernel_rfl, fun j t ht => by
        rw [Tryz.params3] at ht
        have h3 : t = 3 ∨ t = 9 := by
          rcases j with _ | _ | _ | j
          · exact .inl (by simpa using ht.symm)
          · exact .inr (by simpa using ht.symm)
          · exact .inl (by simpa using ht.symm)
          · simp at ht
        rcases h3 with rfl | rfl
        · exact (show Tryz.prog.wantsStandIn 3 = false by kernel_rfl)
        · exact (show Tryz.prog.wantsStandIn 9 = false by kernel_rfl)⟩)
    (by kernel_rfl)
#print axioms plain_holds
end Go.Proofs.YtfdokajjlkcdgaaGreatDoor
