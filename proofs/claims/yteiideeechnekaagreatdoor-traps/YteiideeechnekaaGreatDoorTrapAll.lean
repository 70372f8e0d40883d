/-
  hartlaw.Traps: the walk.
-/
import Derived.Test.YteiideeechnekaaGreatDoorTrapOne
import Derived.Test.YteiideeechnekaaGreatDoorIntPure
import Derived.Test.YteiideeechnekaaGreatDoorRefClone2
import Derived.Test.YteiideeechnekaaGreatDoorMade
namespace Go.Proofs.YteiideeechnekaaGreatDoor
open Go.RowKit

theorem i64_and4095 (n : Int) : bits .and .i64 n 4095 = n % 4096 := by
  have h127 : (BitVec.ofInt 64 4095).toNat = 2 ^ 12 - 1 := by decide
  have key : (BitVec.ofInt 64 n &&& BitVec.ofInt 64 4095).toNat = (n % ((2 ^ 64 : Nat) : Int)).toNat % 2 ^ 12 := by
    rw [BitVec.toNat_and, BitVec.toNat_ofInt, h127, Nat.and_two_pow_sub_one_eq_mod]
  show IntKind.i64.wrap ((BitVec.ofInt 64 n &&& BitVec.ofInt 64 4095).toNat : Nat) = n % 4096
  rw [key, IntKind.wrap_i64]
  omega
theorem some_any (W : World) (k : Int) : Calls Tryz.prog 10 #[.int .i64 k] W fun e W' => e = .returned (.int .i64 (k % 4096)) ∧ W' = W := by
  have h := i64_and4095 k
  go_enter Tryz.func10, Tryz.ntmps10
  go_wp2
  go_ret
  exact ⟨rfl, rfl⟩

theorem step_go {s : RSt} (G : Gd s) (ha : s.asleep = false) (hm : bits .and .u32 (mipR s) s.mie = 0) : (∃ s', ((Nw s → s'.device = 1) ∧ CntB s s') ∧ RStep s s') ∨ (∃ s', (Gd s' ∧ Moves s s') ∧ RStep s s' ∧ CStep (cOf s) (cOf s')) := by
  have hc := G.chosen hm
  obtain ⟨e1, e2⟩ := int_none G hc
  have U : Up (cOf s) (cOf s) := .inl ⟨ha, rfl⟩
  have C := G.cok
  obtain ⟨m, hp⟩ : ∃ m : Nat, s.pc = m := ⟨s.pc.toNat, by have := G.pc.1; omega⟩
  by_cases ho : m + 4 ≤ s.ram.length
  · rcases do_one G hp ho with ⟨s', h1, h2⟩ | ⟨s', h1, h2, h3⟩
    · exact .inl ⟨s', h1, fun W p b h A => stepd_a W p b s h ha hc m hp ho s' fun W' h' => h2 W' p b h' A⟩
    · exact .inr ⟨s', h1, fun W p b h A => stepd_a W p b s h ha hc m hp ho s' fun W' h' => h2 W' p b h' A, cstep_next U e1 e2 h3⟩
  · have h32 : m < 4294967296 := by have := G.pc.2; omega
    refine .inr ⟨failR s 1 s.pc, ⟨G.fail 1 (by decide) _ G.pc, mv_fail s _ _⟩, fun W p b h A => stepf_a W p b s h A ha hc m hp h32 ho, cstep_next U e1 e2 fun W x r h A _ _ => ?_⟩
    rw [cOf_fail G 1 s.pc]
    exact next_fault W x r _ h A C.m0 C.m3 m hp h32 ho
theorem step_ends {s : RSt} (G : Gd s) : ∃ s', RStep s s' := by
  obtain ⟨m, hp⟩ : ∃ m : Nat, s.pc = m := ⟨s.pc.toNat, by have := G.pc.1; omega⟩
  have h32 : m < 4294967296 := by have := G.pc.2; omega
  by_cases ha : s.asleep = true
  · by_cases hm : bits .and .u32 (mipR s) s.mie = 0
    · exact ⟨s, fun W p b h _ => step_sleep W p b s h ha hm⟩
    · rcases chosenR_cases (wakeR s) with hc | ⟨i, hi, hc⟩
      · by_cases ho : m + 4 ≤ s.ram.length
        · rcases do_one G.wake hp ho with ⟨s', _, h2⟩ | ⟨s', _, h2, _⟩
          · exact ⟨s', fun W p b h A => stepd_w W p b s h A ha hm hc m hp ho s' fun W' h' => h2 W' p b h' A⟩
          · exact ⟨s', fun W p b h A => stepd_w W p b s h A ha hm hc m hp ho s' fun W' h' => h2 W' p b h' A⟩
        · exact ⟨_, fun W p b h A => stepf_w W p b s h A ha hm hc m hp h32 ho⟩
      · by_cases hs : isB s.mideleg i = true
        · exact ⟨_, fun W p b h A => stepi_w_true W p b s h A ha hm i hi hc hs⟩
        · exact ⟨_, fun W p b h A => stepi_w_false W p b s h A ha hm i hi hc (by simpa using hs)⟩
  · have ha' : s.asleep = false := by simpa using ha
    rcases chosenR_cases s with hc | ⟨i, hi, hc⟩
    · by_cases ho : m + 4 ≤ s.ram.length
      · rcases do_one G hp ho with ⟨s', _, h2⟩ | ⟨s', _, h2, _⟩
        · exact ⟨s', fun W p b h A => stepd_a W p b s h ha' hc m hp ho s' fun W' h' => h2 W' p b h' A⟩
        · exact ⟨s', fun W p b h A => stepd_a W p b s h ha' hc m hp ho s' fun W' h' => h2 W' p b h' A⟩
      · exact ⟨_, fun W p b h A => stepf_a W p b s h A ha' hc m hp h32 ho⟩
    · by_cases hs : isB s.mideleg i = true
      · exact ⟨_, fun W p b h A => stepi_a_true W p b s h A ha' i hi hc hs⟩
      · exact ⟨_, fun W p b h A => stepi_a_false W p b s h A ha' i hi hc (by simpa using hs)⟩

structure TInv (W w : World) (x r p : Nat) (b : RBl) (s : RSt) : Prop where
  c : CodeAt w x r (cOf s)
  f : RefAt w p b s
  a : b.Apart p
  ne : x ≠ r
  g : Gd s
  n : Nw s
  bel : Below W.heap.size W w
  l : ∀ k, k ∈ b.l p → W.heap.size ≤ k
  nx : x ∉ b.l p
  nr : r ∉ b.l p
  wx : W.heap.size ≤ x
  wr : W.heap.size ≤ r
theorem TInv.looks {W w : World} {x r p : Nat} {b : RBl} {s : RSt} (h : TInv W w x r p b s) :
    Calls Tryz.prog 13 #[.pointer (some ⟨x, 0, none⟩), .pointer (some ⟨p, 0, none⟩)] w fun e W' => e = .returned (.bool true) ∧ Below W.heap.size W W' := by
  refine (looks_same w x r p b _ _ h.g.look h.g.fine h.c h.f).mono ?_
  rintro e w1 ⟨rfl, hb⟩
  exact ⟨rfl, h.bel.trans (hb.mono h.bel.size)⟩
theorem TInv.on {W w w' : World} {x r p : Nat} {b : RBl} {s : RSt} (h : TInv W w x r p b s) {L : List Nat} (ho : Offs L w w') (hL : ∀ k, k ∈ L → w.heap.size ≤ k) : TInv W w' x r p b s := by
  have lt := h.c.lt
  have lr := h.f.lt
  have kl : ∀ k, k ∈ b.l p → k < w.heap.size := fun k hk => by simp [RBl.l] at hk; omega
  have hs := h.bel.size
  exact { h with c := h.c.offs ho (fun e => by have := hL _ e; omega) (fun e => by have := hL _ e; omega), f := h.f.offs ho (fun k hk e => by have := hL _ e; have := kl k hk; omega), bel := h.bel.trans (ho.below (fun k hk => by have := hL k hk; omega) hs) }
theorem TInv.drawn {W w : World} {x r p : Nat} {b : RBl} {s : RSt} (h : TInv W w x r p b s) (q : Nat) : TInv W (w.drewN q) x r p b s := { h with c := h.c.drawn q, f := h.f.drawn q, bel := below_drawn h.bel q }
/-- Behind a clone and its step. -/
theorem TInv.far {W w w1 w2 : World} {x r p p' : Nat} {b b' : RBl} {s : RSt} (h : TInv W w x r p b s) (hb : Below w.heap.size w w1) (o2 : Offs (b'.l p') w1 w2) (l1 : ∀ k, k ∈ b'.l p' → w.heap.size ≤ k) : TInv W w2 x r p b s := by
  have I1 := h.on (L := []) (Offs.of_below hb) (fun k hk => by cases hk)
  have lt := h.c.lt
  have lr := h.f.lt
  have hs := h.bel.size
  exact { I1 with c := I1.c.offs o2 (fun e => by have := l1 _ e; omega) (fun e => by have := l1 _ e; omega), f := I1.f.offs o2 (fun k hk e => by have := l1 _ e; simp [RBl.l] at hk; omega), bel := I1.bel.trans (o2.below (fun k hk => by have := l1 k hk; omega) I1.bel.size) }
theorem look_of_new (n : Nat) (img : ByteArray) : newC n img = cOf (newR n img) := by kernel_rfl
theorem gd_new (n : Nat) (img : ByteArray) (h4 : 4 ≤ n) (hi : img.size ≤ n) (hb : Byt (ramOf n img)) : Gd (newR n img) :=
  { z := rfl, x := (fun i => by show 0 ≤ (List.replicate 32 (0 : Int))[i]?.getD 0 ∧ (List.replicate 32 (0 : Int))[i]?.getD 0 < 4294967296; rw [List.getElem?_replicate]; split <;> decide), pc := W32.lit (n := 0) (by decide), p4 := rfl, n4 := (by show 4 ≤ (ramOf n img).length; rw [ramOf_len n img hi]; exact h4), b := hb, mode := .inr (.inr rfl), spp := .inl rfl, mpp := .inl rfl, medeleg := W32.lit (n := 0) (by decide), mideleg := W32.lit (n := 0) (by decide), mie := W32.lit (n := 0) (by decide), soft := W32.lit (n := 0) (by decide), stvec := W32.lit (n := 0) (by decide), sscratch := W32.lit (n := 0) (by decide), sepc := W32.lit (n := 0) (by decide), scause := W32.lit (n := 0) (by decide), stval := W32.lit (n := 0) (by decide), mtvec := W32.lit (n := 0) (by decide), mscratch := W32.lit (n := 0) (by decide), mepc := W32.lit (n := 0) (by decide), mcause := W32.lit (n := 0) (by decide), mtval := W32.lit (n := 0) (by decide), s4 := rfl, m4 := rfl, mb := (fun i hi => absurd hi (by show ¬ isB 0 i = true; rw [isB_zero]; decide)), db := (fun i hi => absurd hi (by show ¬ isB 0 i = true; rw [isB_zero]; decide)), dv := ⟨rfl, rfl, rfl, .inl rfl, W32.lit (n := 0) (by decide), W32.lit (n := 0) (by decide), W32.lit (n := 0) (by decide), W32.lit (n := 0) (by decide), W32.lit (n := 4294967295) (by decide), W32.lit (n := 0) (by decide), fun i => by show W32 (((List.replicate 8 (⟨false, false, false, 0⟩ : Srce))[i]?).getD ⟨false, false, false, 0⟩).prio; rw [List.getElem?_replicate]; split <;> exact W32.lit (n := 0) (by decide), rfl⟩ }
theorem nw_new (n : Nat) (img : ByteArray) : Nw (newR n img) := ⟨rfl, rfl, rfl, rfl, rfl, rfl, rfl⟩

set_option maxHeartbeats 4000000 in
theorem traps_good (W : World) (T : D.Tabs W) (T9 : T19 W) (n : Nat) (img : ByteArray) (k : Int) (h1 : 4 ≤ n) (h2 : n ≤ 512) (h3 : (n : Int) % 4 = 0) (h4 : img.size ≤ n) :
    Calls Tryz.prog 4 #[.int .i64 n, .string img, .int .i64 k] W fun e W' => e = .returned (.bool true) ∧ Below W.heap.size W W' := by
  have HM := made_any W n img h1 h2 h3 h4
  have HT : Hid (D.Tabs W ∧ T19 W) := ⟨T, T9⟩
  have HN : Hid (4 ≤ n ∧ img.size ≤ n) := ⟨h1, h4⟩
  obtain ⟨N, hN⟩ : ∃ N : Nat, k % 4096 = N := ⟨(k % 4096).toNat, by omega⟩
  have HS : Hid (∀ w, Calls Tryz.prog 10 #[.int .i64 k] w fun e W' => e = .returned (.int .i64 N) ∧ W' = w) := fun w => by rw [← hN]; exact some_any w k
  have N4 : (N : Int) < 4096 := by omega
  clear h1 h2 h3 h4 T T9 hN
  go_enter Tryz.func4, Tryz.ntmps4
  go_wp2_with fail
  refine HM.mono ?_
  rintro e w0 ⟨x, p0, rfl, ⟨r, b0, hc, hr, hA, hne, hx, hr0, hl, nx, nr⟩, hb0⟩
  have hby : Byt (ramOf n img) := hc.bytes.2.2
  rw [look_of_new] at hc
  have HP : Hid (∃ b s, TInv W w0 x r p0 b s) := ⟨b0, newR n img, hc, hr, hA, hne, gd_new n img HN.out.1 HN.out.2 hby, nw_new n img, hb0, hl, nx, nr, hx, hr0⟩
  clear hc hr hA hne hx hr0 hl nx nr hb0 HM hby
  go_wp2_with fail
  go_loopw [8, 10] (fun rv iv wr => ∃ i p : Nat, i ≤ N ∧ iv = .int .i64 i ∧ rv = .pointer (some ⟨p, 0, none⟩) ∧ Hid (∃ b s, TInv W wr x r p b s)) (fun _ iv _ => N - (intOf iv).toNat)
  case atStart => exact ⟨0, p0, Nat.zero_le _, rfl, rfl, HP⟩
  case round =>
    obtain ⟨i, p, hi, rfl, rfl, hI⟩ := hrel
    obtain ⟨b, s, I⟩ := hI.out
    have I0 : Hid (TInv W wr x r p b s) := I
    clear hI HP
    by_cases hlt : i < N
    · have hlt' : (i : Int) < N := by omega
      have HG : Hid (Gd s) := I.g
      have HW : Hid (Nw s) := I.n
      have HQ := rmip_any wr p b s I.f
      clear I
      go_wp2_with (first | (go_at_call 10; refine (HS.out _).mono ?_; rintro e w' ⟨rfl, hw⟩; rw [hw]; clear hw w'))
      refine HQ.mono ?_
      rintro e w1 ⟨rfl, q, rfl⟩
      have I1 : Hid (TInv W (wr.drewN q) x r p b s) := I0.out.drawn q
      clear HQ
      go_wp2_with fail
      refine (clone_any _ p b s I1.out.f HG.out.n4).mono ?_
      rintro e w2 ⟨p', rfl, ⟨b', r2, A2, l2⟩, hb2⟩
      have R2 : Hid (RefAt w2 p' b' s) := r2
      have L2 : Hid (∀ k, k ∈ b'.l p' → (wr.drewN q).heap.size ≤ k) := l2
      have B2 : Hid (Below (wr.drewN q).heap.size (wr.drewN q) w2) := hb2
      have P2 : Hid (b'.Apart p') := A2
      clear r2 l2 hb2 A2
      by_cases hs : s.asleep = false ∧ bits .and .u32 (mipR s) s.mie = 0
      · rcases step_go HG.out hs.1 hs.2 with ⟨s', hd, hF⟩ | ⟨s', ⟨hg, hn⟩, hF, hC⟩
        · have HF2 := hF w2 p' b' R2.out P2.out
          clear hF
          go_wp2_with fail
          refine HF2.mono ?_
          rintro e w3 ⟨rfl, h3, o3⟩
          have I3 : Hid (TInv W w3 x r p b s) := I1.out.far B2.out o3 L2.out
          have c1 := I3.out.f.asleep
          have c2 := I3.out.f.mie
          have c3 := h3.device
          rw [hs.1] at c1
          rw [hd.1 HW.out] at c3
          have hm := hs.2
          clear h3 o3 HF2 hs hd
          go_wp2_with fail
          refine I3.out.looks.mono ?_
          rintro e w4 ⟨rfl, hb4⟩
          go_wp2_with fail
          go_ret
          exact ⟨rfl, hb4⟩
        · have HF2 := hF w2 p' b' R2.out P2.out
          have HC : Hid (CStep (cOf s) (cOf s')) := hC
          have HG2 : Hid (Gd s' ∧ Nw s') := ⟨hg, HW.out.still hn.1⟩
          clear hF hC hg hn
          go_wp2_with fail
          refine HF2.mono ?_
          rintro e w3 ⟨rfl, h3, o3⟩
          have I3 : Hid (TInv W w3 x r p b s) := I1.out.far B2.out o3 L2.out
          have c1 := I3.out.f.asleep
          have c2 := I3.out.f.mie
          have c3 := h3.device
          rw [hs.1] at c1
          rw [HG2.out.2.device] at c3
          have hm := hs.2
          have H3 : Hid (RefAt w3 p' b' s') := h3
          clear h3 o3 HF2 hs
          go_wp2_with fail
          have bl := I3.out.bel
          refine (HC.out _ x r I3.out.c I0.out.ne (HT.out.1.below HT.out.1.size bl) (HT.out.2.below bl)).mono ?_
          rintro e w4 ⟨rfl, h4, o4⟩
          have I4 : Hid (TInv W w4 x r p' b' s') := by
            have ltx := I1.out.c.lt
            have hx' : x ∉ b'.l p' := fun hk => by have := L2.out _ hk; omega
            have hr' : r ∉ b'.l p' := fun hk => by have := L2.out _ hk; omega
            have sz := I1.out.bel.size
            exact ⟨h4, H3.out.offs o4 (fun k hk e => by simp at e; rcases e with rfl | rfl; exact hx' hk; exact hr' hk), P2.out, I0.out.ne, HG2.out.1, HG2.out.2,
              bl.trans (o4.below (fun k hk => by simp at hk; have := I0.out.wx; have := I0.out.wr; rcases hk with rfl | rfl <;> omega) bl.size), fun k hk => by have := L2.out k hk; omega, hx', hr', I0.out.wx, I0.out.wr⟩
          clear h4 o4 bl
          go_wp2_with fail
          go_roundw
          case rel => exact ⟨i + 1, p', by omega, by go_num, rfl, ⟨b', s', I4.out⟩⟩
          case measure => simp [intOf]; omega
      · obtain ⟨s', hF⟩ := step_ends HG.out
        have HF2 := hF w2 p' b' R2.out P2.out
        clear hF
        have HS2 : Hid (¬ (s.asleep = false ∧ bits .and .u32 (mipR s) s.mie = 0)) := hs
        clear hs
        go_wp2_with fail
        refine HF2.mono ?_
        rintro e w3 ⟨rfl, h3, o3⟩
        have I3 : Hid (TInv W w3 x r p b s) := I1.out.far B2.out o3 L2.out
        have c1 := I3.out.f.asleep
        have c2 := I3.out.f.mie
        clear h3 o3 HF2
        by_cases ha : s.asleep = true
        · rw [ha] at c1
          clear ha
          go_wp2_with fail
          refine I3.out.looks.mono ?_
          rintro e w4 ⟨rfl, hb4⟩
          go_wp2_with fail
          go_ret
          exact ⟨rfl, hb4⟩
        · have ha' : s.asleep = false := by simpa using ha
          have hm : (bits .and .u32 (mipR s) s.mie != 0) = true := by
            have : ¬ bits .and .u32 (mipR s) s.mie = 0 := fun e => HS2.out ⟨ha', e⟩
            simpa using this
          rw [ha'] at c1
          clear ha ha'
          go_wp2_with fail
          refine I3.out.looks.mono ?_
          rintro e w4 ⟨rfl, hb4⟩
          go_wp2_with fail
          go_ret
          exact ⟨rfl, hb4⟩
    · have hlt' : ¬ ((i : Int) < N) := by omega
      have HL := I.looks
      clear I
      go_wp2_with (first | (go_at_call 10; refine (HS.out _).mono ?_; rintro e w' ⟨rfl, rfl⟩))
      refine HL.mono ?_
      rintro e w3 ⟨rfl, hb3⟩
      go_wp2_with fail
      go_ret
      exact ⟨rfl, hb3⟩

theorem traps_bad (W : World) (size : Int) (img : ByteArray) (k : Int) (h : errOf size img ≠ 0) :
    Calls Tryz.prog 4 #[.int .i64 size, .string img, .int .i64 k] W fun e W' => e = .returned (.bool true) ∧ Below W.heap.size W W' := by
  have HM := made_bad W size img h
  clear h
  go_enter Tryz.func4, Tryz.ntmps4
  go_wp2_with fail
  refine HM.mono ?_
  rintro e w1 ⟨rfl, hb1⟩
  go_wp2_with fail
  go_ret
  exact ⟨rfl, hb1⟩
theorem traps_any (W : World) (T : D.Tabs W) (T9 : T19 W) (size : Int) (img : ByteArray) (k : Int) :
    Calls Tryz.prog 4 #[.int .i64 size, .string img, .int .i64 k] W fun e W' => e = .returned (.bool true) ∧ Below W.heap.size W W' := by
  by_cases h : errOf size img = 0
  · have hb : ¬ (size < 4 ∨ 512 < size ∨ size % 4 ≠ 0) := fun hb => by simp [errOf, hb] at h
    have hl : ¬ (size < img.size) := fun hl => by simp [errOf, hb, hl] at h
    obtain ⟨n, rfl⟩ : ∃ n : Nat, size = n := ⟨size.toNat, by omega⟩
    exact traps_good W T T9 n img k (by omega) (by omega) (by omega) (by omega)
  · exact traps_bad W size img k h
end Go.Proofs.YteiideeechnekaaGreatDoor
