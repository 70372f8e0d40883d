/-
  hartlaw.Plain: the walk.
-/
import Derived.Test.YteiideeechnekaaGreatDoorTrapAll
namespace Go.Proofs.YteiideeechnekaaGreatDoor
open Go.RowKit

theorem and_z (a : Int) (h : W32 a) : bits .and .u32 a 0 = 0 := by
  rw [u32_and a 0 h.1 h.2 (by decide) (by decide)]
  simp
structure QInv (W w : World) (x r p : Nat) (b : RBl) (s : RSt) : Prop where
  t : TInv W w x r p b s
  p : s.traps = 0
  y : s.system = 0
  e : s.mie = 0
  a : s.asleep = false

set_option maxHeartbeats 4000000 in
theorem plain_good (W : World) (T : D.Tabs W) (T9 : T19 W) (n : Nat) (img : ByteArray) (k : Int) (h1 : 4 ≤ n) (h2 : n ≤ 512) (h3 : (n : Int) % 4 = 0) (h4 : img.size ≤ n) :
    Calls Tryz.prog 3 #[.int .i64 n, .string img, .int .i64 k] W fun e W' => e = .returned (.bool true) ∧ Below W.heap.size W W' := by
  have HM := made_any W n img h1 h2 h3 h4
  have HT : Hid (D.Tabs W ∧ T19 W) := ⟨T, T9⟩
  have HN : Hid (4 ≤ n ∧ img.size ≤ n) := ⟨h1, h4⟩
  obtain ⟨N, hN⟩ : ∃ N : Nat, k % 4096 = N := ⟨(k % 4096).toNat, by omega⟩
  have HS : Hid (∀ w, Calls Tryz.prog 10 #[.int .i64 k] w fun e W' => e = .returned (.int .i64 N) ∧ W' = w) := fun w => by rw [← hN]; exact some_any w k
  have N4 : (N : Int) < 4096 := by omega
  clear h1 h2 h3 h4 T T9 hN
  go_enter Tryz.func3, Tryz.ntmps3
  go_wp2_with fail
  refine HM.mono ?_
  rintro e w0 ⟨x, p0, rfl, ⟨r, b0, hc, hr, hA, hne, hx, hr0, hl, nx, nr⟩, hb0⟩
  have hby : Byt (ramOf n img) := hc.bytes.2.2
  rw [look_of_new] at hc
  have HP : Hid (∃ b s, QInv W w0 x r p0 b s) := ⟨b0, newR n img, ⟨hc, hr, hA, hne, gd_new n img HN.out.1 HN.out.2 hby, nw_new n img, hb0, hl, nx, nr, hx, hr0⟩, rfl, rfl, rfl, rfl⟩
  clear hc hr hA hne hx hr0 hl nx nr hb0 HM hby
  go_wp2_with fail
  go_loopw [8, 10] (fun rv iv wr => ∃ i p : Nat, i ≤ N ∧ iv = .int .i64 i ∧ rv = .pointer (some ⟨p, 0, none⟩) ∧ Hid (∃ b s, QInv W wr x r p b s)) (fun _ iv _ => N - (intOf iv).toNat)
  case atStart => exact ⟨0, p0, Nat.zero_le _, rfl, rfl, HP⟩
  case round =>
    obtain ⟨i, p, hi, rfl, rfl, hI⟩ := hrel
    obtain ⟨b, s, I⟩ := hI.out
    have I0 : Hid (QInv W wr x r p b s) := I
    clear hI HP
    by_cases hlt : i < N
    · have hlt' : (i : Int) < N := by omega
      have HG : Hid (Gd s) := I.t.g
      have HW : Hid (Nw s) := I.t.n
      have hs : s.asleep = false ∧ bits .and .u32 (mipR s) s.mie = 0 := ⟨I.a, by rw [I.e]; exact and_z _ I.t.g.mip⟩
      have HZ : Hid (s.traps = 0 ∧ s.system = 0 ∧ s.mie = 0 ∧ s.asleep = false) := ⟨I.p, I.y, I.e, I.a⟩
      have HCl := clone_any wr p b s I.t.f I.t.g.n4
      clear I
      go_wp2_with (first | (go_at_call 10; refine (HS.out _).mono ?_; rintro e w' ⟨rfl, hw⟩; rw [hw]; clear hw w'))
      refine HCl.mono ?_
      rintro e w2 ⟨p', rfl, ⟨b', r2, A2, l2⟩, hb2⟩
      have R2 : Hid (RefAt w2 p' b' s) := r2
      have L2 : Hid (∀ k, k ∈ b'.l p' → wr.heap.size ≤ k) := l2
      have B2 : Hid (Below wr.heap.size wr w2) := hb2
      have P2 : Hid (b'.Apart p') := A2
      clear r2 l2 hb2 A2 HCl
      rcases step_go HG.out hs.1 hs.2 with ⟨s', hd, hF⟩ | ⟨s', ⟨hg, hn⟩, hF, hC⟩
      · have HF2 := hF w2 p' b' R2.out P2.out
        clear hF
        go_wp2_with fail
        refine HF2.mono ?_
        rintro e w3 ⟨rfl, h3, o3⟩
        have I3 : Hid (∀ q, TInv W (w3.drewN q) x r p b s) := fun q => (I0.out.t.far B2.out o3 L2.out).drawn q
        have c33 := h3.traps
        have c34 := h3.system
        have c35 := h3.device
        have d1 := hd.1 HW.out
        have t1 : s'.traps = 0 ∨ s'.traps = 1 := by have := hd.2.1; rw [HZ.out.1] at this; unfold wrap64 at this; omega
        have t2 : s'.system = 0 := hd.2.2.trans HZ.out.2.1
        rw [d1] at c35
        rw [t2] at c34
        clear h3 o3 HF2 hs hd d1 t2
        rcases t1 with t1 | t1
        all_goals
          rw [t1] at c33
          clear t1
          go_wp2_with fail
          go_quiet (fail)
          go_wp2_with fail
          refine (I3.out _).looks.mono ?_
          rintro e w4 ⟨rfl, hb4⟩
          go_wp2_with fail
          go_ret
          exact ⟨rfl, hb4⟩
      · have HF2 := hF w2 p' b' R2.out P2.out
        have HC : Hid (CStep (cOf s) (cOf s')) := hC
        have HG2 : Hid (Gd s' ∧ Nw s') := ⟨hg, HW.out.still hn.1⟩
        have HM : Hid (s'.system = s.system → s'.mie = s.mie ∧ s'.asleep = s.asleep) := hn.2.2.2
        have t1 : s'.traps = 0 ∨ s'.traps = 1 := by have := hn.2.1; rw [HZ.out.1] at this; unfold wrap64 at this; omega
        have t2 : s'.system = 0 ∨ s'.system = 1 := by have := hn.2.2.1; rw [HZ.out.2.1] at this; unfold wrap64 at this; omega
        clear hF hC hg hn hs
        go_wp2_with fail
        refine HF2.mono ?_
        rintro e w3 ⟨rfl, h3, o3⟩
        have I3 : Hid (∀ q, TInv W (w3.drewN q) x r p b s) := fun q => (I0.out.t.far B2.out o3 L2.out).drawn q
        have c33 := h3.traps
        have c34 := h3.system
        have c35 := h3.device
        rw [HG2.out.2.device] at c35
        have H3 : Hid (∀ q, RefAt (w3.drewN q) p' b' s') := fun q => h3.drawn q
        clear h3 o3 HF2
        by_cases hz : s'.traps = 0 ∧ s'.system = 0
        · have HZ2 : Hid (s'.traps = 0 ∧ s'.system = 0) := hz
          rw [hz.1] at c33
          rw [hz.2] at c34
          clear t1 t2 hz
          go_wp2_with fail
          go_quiet (fail)
          go_wp2_with fail
          have bl := fun q => (I3.out q).bel
          refine (HC.out _ x r (I3.out _).c I0.out.t.ne (HT.out.1.below HT.out.1.size (bl _)) (HT.out.2.below (bl _))).mono ?_
          rintro e w4 ⟨rfl, h4, o4⟩
          have I4 : Hid (QInv W w4 x r p' b' s') := by
            have ltx := I0.out.t.c.lt
            have hx' : x ∉ b'.l p' := fun hk => by have := L2.out _ hk; omega
            have hr' : r ∉ b'.l p' := fun hk => by have := L2.out _ hk; omega
            have sz := I0.out.t.bel.size
            have mm := HM.out (HZ2.out.2.trans HZ.out.2.1.symm)
            exact ⟨⟨h4, (H3.out _).offs o4 (fun k hk e => by simp at e; rcases e with rfl | rfl; exact hx' hk; exact hr' hk), P2.out, I0.out.t.ne, HG2.out.1, HG2.out.2,
              (bl _).trans (o4.below (fun k hk => by simp at hk; have := I0.out.t.wx; have := I0.out.t.wr; rcases hk with rfl | rfl <;> omega) (bl _).size), fun k hk => by have := L2.out k hk; omega, hx', hr', I0.out.t.wx, I0.out.t.wr⟩,
              HZ2.out.1, HZ2.out.2, mm.1.trans HZ.out.2.2.1, mm.2.trans HZ.out.2.2.2⟩
          clear h4 o4 bl
          go_wp2_with fail
          go_roundw
          case rel => exact ⟨i + 1, p', by omega, by go_num, rfl, ⟨b', s', I4.out⟩⟩
          case measure => simp [intOf]; omega
        · have t3 : 0 < s'.traps + s'.system := by omega
          clear hz
          go_wp2_with fail
          go_quiet (fail)
          go_wp2_with fail
          refine (I3.out _).looks.mono ?_
          rintro e w4 ⟨rfl, hb4⟩
          go_wp2_with fail
          go_ret
          exact ⟨rfl, hb4⟩
    · have hlt' : ¬ ((i : Int) < N) := by omega
      have HL := I.t.looks
      clear I
      go_wp2_with (first | (go_at_call 10; refine (HS.out _).mono ?_; rintro e w' ⟨rfl, rfl⟩))
      refine HL.mono ?_
      rintro e w3 ⟨rfl, hb3⟩
      go_wp2_with fail
      go_ret
      exact ⟨rfl, hb3⟩

theorem plain_bad (W : World) (size : Int) (img : ByteArray) (k : Int) (h : errOf size img ≠ 0) :
    Calls Tryz.prog 3 #[.int .i64 size, .string img, .int .i64 k] W fun e W' => e = .returned (.bool true) ∧ Below W.heap.size W W' := by
  have HM := made_bad W size img h
  clear h
  go_enter Tryz.func3, Tryz.ntmps3
  go_wp2_with fail
  refine HM.mono ?_
  rintro e w1 ⟨rfl, hb1⟩
  go_wp2_with fail
  go_ret
  exact ⟨rfl, hb1⟩
theorem plain_any (W : World) (T : D.Tabs W) (T9 : T19 W) (size : Int) (img : ByteArray) (k : Int) :
    Calls Tryz.prog 3 #[.int .i64 size, .string img, .int .i64 k] W fun e W' => e = .returned (.bool true) ∧ Below W.heap.size W W' := by
  by_cases h : errOf size img = 0
  · have hb : ¬ (size < 4 ∨ 512 < size ∨ size % 4 ≠ 0) := fun hb => by simp [errOf, hb] at h
    have hl : ¬ (size < img.size) := fun hl => by simp [errOf, hb, hl] at h
    obtain ⟨n, rfl⟩ : ∃ n : Nat, size = n := ⟨size.toNat, by omega⟩
    exact plain_good W T T9 n img k (by omega) (by omega) (by omega) (by omega)
  · exact plain_bad W size img k h
end Go.Proofs.YteiideeechnekaaGreatDoor
