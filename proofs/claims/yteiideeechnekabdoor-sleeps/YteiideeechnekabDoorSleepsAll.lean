/-
  hartkeep.Sleeps: the walk.
-/
import Derived.Test.YteiideeechnekabDoorKeepFrame
import Derived.Test.YteiideeechnekabDoorKeepSome
namespace Go.Proofs.YteiideeechnekabDoor
open Go.RowKit

/-- A script: empty, or a row of steps. -/
def Scr (W : World) (v : Value) : Prop := (∃ (a : Option Addr) (cap : Nat), v = .slice a 0 cap) ∨ ∃ sb so N cap : Nat, N ≤ maxLen ∧ (∀ i, i < N → ∃ (k a b : Int) (v : Nat), v < 4294967296 ∧ W.cell? ⟨sb, so + i * 4, none⟩ = some (.int .i64 k) ∧ W.cell? ⟨sb, so + i * 4 + 1, none⟩ = some (.int .i64 a) ∧ W.cell? ⟨sb, so + i * 4 + 2, none⟩ = some (.int .i64 b) ∧ W.cell? ⟨sb, so + i * 4 + 3, none⟩ = some (.int .u32 v)) ∧ v = .slice (some ⟨sb, so, none⟩) N cap
theorem Scr.nil {W : World} (a : Option Addr) (cap : Nat) : Scr W (.slice a 0 cap) := .inl ⟨a, cap, rfl⟩
theorem Scr.row {W : World} (sb so N cap : Nat) (hm : N ≤ maxLen) (h : ∀ i, i < N → ∃ (k a b : Int) (v : Nat), v < 4294967296 ∧ W.cell? ⟨sb, so + i * 4, none⟩ = some (.int .i64 k) ∧ W.cell? ⟨sb, so + i * 4 + 1, none⟩ = some (.int .i64 a) ∧ W.cell? ⟨sb, so + i * 4 + 2, none⟩ = some (.int .i64 b) ∧ W.cell? ⟨sb, so + i * 4 + 3, none⟩ = some (.int .u32 v)) : Scr W (.slice (some ⟨sb, so, none⟩) N cap) := .inr ⟨sb, so, N, cap, hm, h, rfl⟩
theorem words_true' (W : World) (g g' c c' : Nat) (xs : List Int) (n : Nat) (hn : xs.length = n) (h : RowAt W g c xs) (h' : RowAt W g' c' xs) :
    Calls Tryd.prog 12 #[.slice (some ⟨g, 0, none⟩) n c, .slice (some ⟨g', 0, none⟩) n c'] W fun e W' => e = .returned (.bool true) ∧ ∃ q, W' = W.drewN q := by
  rw [← hn]
  exact words_true W g g' c c' xs h h'
theorem words_some' (W : World) (g g' c c' : Nat) (xs ys : List Int) (n : Nat) (hn : xs.length = n) (hn' : ys.length = n) (h : RowAt W g c xs) (h' : RowAt W g' c' ys) :
    Calls Tryd.prog 12 #[.slice (some ⟨g, 0, none⟩) n c, .slice (some ⟨g', 0, none⟩) n c'] W fun e W' => ∃ b : Bool, e = .returned (.bool b) ∧ ∃ q, W' = W.drewN q := by
  have := words_some W g g' c c' xs ys h h' (by rw [hn, hn'])
  rw [hn, hn'] at this
  exact this
set_option maxHeartbeats 8000000 in
set_option maxRecDepth 100000 in
theorem sleeps_rows (W : World) (T : D.Tabs W) (T9 : T19 W) (size : Int) (img : ByteArray) (sb so N cap : Nat) (hm : N ≤ 1073741824) (h : ∀ i, i < N → ∃ (k a b : Int) (v : Nat), v < 4294967296 ∧ W.cell? ⟨sb, so + i * 4, none⟩ = some (.int .i64 k) ∧ W.cell? ⟨sb, so + i * 4 + 1, none⟩ = some (.int .i64 a) ∧ W.cell? ⟨sb, so + i * 4 + 2, none⟩ = some (.int .i64 b) ∧ W.cell? ⟨sb, so + i * 4 + 3, none⟩ = some (.int .u32 v)) :
    Calls Tryd.prog 3 #[.int .i64 size, .string img, .slice (some ⟨sb, so, none⟩) N cap] W fun e W' => e = .returned (.bool true) ∧ Below W.heap.size W W' := by
  have HM := kmade_any W size img
  have HS : Hid (∀ i, i < N → ∃ (k a b : Int) (v : Nat), v < 4294967296 ∧ W.cell? ⟨sb, so + i * 4, none⟩ = some (.int .i64 k) ∧ W.cell? ⟨sb, so + i * 4 + 1, none⟩ = some (.int .i64 a) ∧ W.cell? ⟨sb, so + i * 4 + 2, none⟩ = some (.int .i64 b) ∧ W.cell? ⟨sb, so + i * 4 + 3, none⟩ = some (.int .u32 v)) := h
  have HT : Hid (D.Tabs W ∧ T19 W) := ⟨T, T9⟩
  have hm' : ¬ (1073741824 < (N : Int)) := by omega
  clear h T T9
  go_enter Tryd.func3, Tryd.ntmps3
  go_wp2_with fail
  refine HM.mono ?_
  rintro e w0 ⟨x, rfl, r, n, im, K⟩
  have HP : Hid (∃ s, KI W w0 x r s) := ⟨_, KI.of_new K⟩
  clear HM K
  go_wp2_with fail
  go_loopw [8] (fun iv wr => ∃ i : Nat, i ≤ N ∧ iv = .int .i64 i ∧ Hid (∃ s, KI W wr x r s)) (fun iv _ => N - (intOf iv).toNat)
  case atStart => exact ⟨0, Nat.zero_le _, rfl, HP⟩
  case round =>
    obtain ⟨i, hi, rfl, hI⟩ := hrel
    clear HP
    by_cases hlt : i < N
    · have hlt' : (i : Int) < N := by omega
      obtain ⟨k, a, b, v, hv, k0, k1, k2, k3⟩ := HS.out i hlt
      obtain ⟨s, I⟩ := hI.out
      have sl : sb < W.heap.size := World.block_lt_of_cell? W _ k0
      have bc := fun j => Below.cell I.bel (p := ⟨sb, j, none⟩) sl
      have c0 := (bc _).trans k0
      have c1 := (bc _).trans k1
      have c2 := (bc _).trans k2
      have c3 := (bc _).trans k3
      have HI : Hid (KI W wr x r s) := I
      clear bc k0 k1 k2 k3 sl hI
      by_cases hk : k = 1
      · subst hk
        clear hv
        obtain ⟨s', G', CS, SP⟩ := kstep I.g
        have HC : Hid (Gd s' ∧ CStep (cOf s) (cOf s')) := ⟨G', CS⟩
        have HSP : Hid (KSp s s') := SP
        clear G' CS SP
        obtain ⟨L, hL⟩ : ∃ L, lookC (cOf s) = L := ⟨_, rfl⟩
        obtain ⟨L', hL'⟩ : ∃ L', lookC (cOf s') = L' := ⟨_, rfl⟩
        have EL : Hid (lookC (cOf s) = L ∧ lookC (cOf s') = L') := ⟨hL, hL'⟩
        have F : Hid (LFull L) := by unfold Hid; rw [← hL]; exact I.full
        clear hL hL' I
        go_wp2_with fail
        refine ((HI.out.new (.cells #[.int .i64 1, .int .i64 a, .int .i64 b, .int .u32 v] 27)).look L EL.out.1).mono ?_
        rintro e w1 ⟨p1, rfl, st1, ap1, k1, b1⟩
        have S1 : Hid (StAt w1 p1 L ∧ p1.Apart (wr.alloc (.cells #[.int .i64 1, .int .i64 a, .int .i64 b, .int .u32 v] 27)).heap.size ∧ KI W w1 x r s ∧ Below (wr.alloc (.cells #[.int .i64 1, .int .i64 a, .int .i64 b, .int .u32 v] 27)).heap.size (wr.alloc (.cells #[.int .i64 1, .int .i64 a, .int .i64 b, .int .u32 v] 27)) w1) := ⟨st1, ap1, k1, b1⟩
        clear st1 ap1 k1 b1
        go_wp2_with fail
        refine ((S1.out.2.2.1.new (.cells #[.slice (some ⟨p1.r, 0, none⟩) L.regs.length p1.cr, .int .u32 L.pc, .int .i64 L.mode, .bool L.asleep, .slice (some ⟨p1.c, 0, none⟩) L.csrs.length p1.cc, .string L.ram, .slice (some ⟨p1.k, 0, none⟩) L.clock.length p1.ck, .slice (some ⟨p1.p, 0, none⟩) L.prio.length p1.cp, .int .u32 L.pend, .int .u32 L.served, .int .u32 L.level, .slice (some ⟨p1.e, 0, none⟩) L.enable.length p1.ce, .slice (some ⟨p1.l, 0, none⟩) L.limit.length p1.cl] 31)).step HT.out.1 HT.out.2 HC.out.1 HC.out.2).mono ?_
        rintro e w2 ⟨rfl, k2, o2⟩
        have H2 : Hid (K1 W w2 x r w1.heap.size p1 L s') := by
          obtain ⟨st1, ap1, k1, b1⟩ := S1.out
          have lt := (HI.out.new (.cells #[.int .i64 1, .int .i64 a, .int .i64 b, .int .u32 v] 27)).c.lt
          exact K1.step st1 ap1 ⟨lt.1, lt.2, b1.size⟩ k2 o2
        clear S1 k2 o2
        generalize w1.heap.size = g1 at H2 ⊢
        go_wp2_with fail
        refine (H2.out.k.look L' EL.out.2).mono ?_
        rintro e w3 ⟨p2, rfl, st3, ap3, k3, b3⟩
        have H4 : Hid (K2 W (w3.alloc (.cells #[.slice (some ⟨p2.r, 0, none⟩) L'.regs.length p2.cr, .int .u32 L'.pc, .int .i64 L'.mode, .bool L'.asleep, .slice (some ⟨p2.c, 0, none⟩) L'.csrs.length p2.cc, .string L'.ram, .slice (some ⟨p2.k, 0, none⟩) L'.clock.length p2.ck, .slice (some ⟨p2.p, 0, none⟩) L'.prio.length p2.cp, .int .u32 L'.pend, .int .u32 L'.served, .int .u32 L'.level, .slice (some ⟨p2.e, 0, none⟩) L'.enable.length p2.ce, .slice (some ⟨p2.l, 0, none⟩) L'.limit.length p2.cl] 31)) x r g1 w3.heap.size p1 p2 L L' s') := H2.out.two k3 st3 b3
        have F' : Hid (LFull L') := by unfold Hid; rw [← EL.out.2]; exact k3.full
        clear st3 ap3 k3 b3 H2
        obtain ⟨k1_0, k1_1, k1_2, k1_3, k1_4, k1_5, k1_6, k1_7, k1_8, k1_9, k1_10, k1_11, k1_12⟩ := H4.out.b1
        go_wp2_with fail
        refine (whole_true _ p1 L F.out).mono ?_
        rintro e w5 ⟨rfl, b5⟩
        have H5 : Hid (K2 W w5 x r g1 w3.heap.size p1 p2 L L' s') := H4.out.below b5
        clear b5 H4 k1_0 k1_1 k1_2 k1_3 k1_4 k1_5 k1_6 k1_7 k1_8 k1_9 k1_10 k1_11 k1_12
        generalize w3.heap.size = g2 at H5 ⊢
        obtain ⟨k2_0, k2_1, k2_2, k2_3, k2_4, k2_5, k2_6, k2_7, k2_8, k2_9, k2_10, k2_11, k2_12⟩ := H5.out.b2
        go_wp2_with fail
        refine (whole_true _ p2 L' F'.out).mono ?_
        rintro e w6 ⟨rfl, b6⟩
        have H6 : Hid (K2 W w6 x r g1 g2 p1 p2 L L' s') := H5.out.below b6
        clear b6 H5 k2_0 k2_1 k2_2 k2_3 k2_4 k2_5 k2_6 k2_7 k2_8 k2_9 k2_10 k2_11 k2_12
        have k1_3 := H6.out.b1.c3
        have eA : L.asleep = s.asleep := by rw [← EL.out.1]; rfl
        cases ha0 : s.asleep
        · rw [eA, ha0] at k1_3
          have HX : Hid (∃ s, KI W w6 x r s) := ⟨s', H6.out.k⟩
          go_wp2_with fail
          go_roundw
          case rel => exact ⟨i + 1, by omega, by go_num, HX⟩
          case measure => simp [intOf]; omega
        · rw [eA, ha0] at k1_3
          have hA : Hid (L.asleep = true) := by unfold Hid; rw [eA, ha0]
          go_upto_region 18 with fail
          clear k1_3
          have ez : bits .and .u32 (L.csrs.getD 17 0) (L.csrs.getD 11 0) = bits .and .u32 (mipR s) s.mie := by
            rw [← EL.out.1, ← mip_dok HI.out.g.dv HI.out.g.soft]
            rfl
          clear eA
          by_cases hm : bits .and .u32 (mipR s) s.mie = 0
          · have hz : (bits .and .u32 (L.csrs.getD 17 0) (L.csrs.getD 11 0) == 0) = true := by rw [ez, hm]; rfl
            clear ez
            have es : s' = s := HSP.out.sleep ha0 hm
            have eL : L' = L := EL.out.2.symm.trans (by rw [es]; exact EL.out.1)
            have H6' : Hid (K2 W w6 x r g1 g2 p1 p2 L L s') := by have := H6.out; rw [eL] at this; exact this
            clear H6 eL
            have H6 : Hid (K2 W w6 x r g1 g2 p1 p2 L L s') := H6'
            clear H6'
            obtain ⟨k1_0, k1_1, k1_2, k1_3, k1_4, k1_5, k1_6, k1_7, k1_8, k1_9, k1_10, k1_11, k1_12⟩ := H6.out.b1
            obtain ⟨k2_0, k2_1, k2_2, k2_3, k2_4, k2_5, k2_6, k2_7, k2_8, k2_9, k2_10, k2_11, k2_12⟩ := H6.out.b2
            go_wp2_with fail
            refine (core_true _ p1 p2 L L H6.out.a1 H6.out.a2 rfl rfl).mono ?_
            rintro e w7 ⟨rfl, b7⟩
            have H7 : Hid (K2 W w7 x r g1 g2 p1 p2 L L s') := H6.out.below b7
            clear b7 H6 k1_0 k1_1 k1_2 k1_3 k1_4 k1_5 k1_6 k1_7 k1_8 k1_9 k1_10 k1_11 k1_12 k2_0 k2_1 k2_2 k2_3 k2_4 k2_5 k2_6 k2_7 k2_8 k2_9 k2_10 k2_11 k2_12
            obtain ⟨k1_0, k1_1, k1_2, k1_3, k1_4, k1_5, k1_6, k1_7, k1_8, k1_9, k1_10, k1_11, k1_12⟩ := H7.out.b1
            obtain ⟨k2_0, k2_1, k2_2, k2_3, k2_4, k2_5, k2_6, k2_7, k2_8, k2_9, k2_10, k2_11, k2_12⟩ := H7.out.b2
            go_wp2_with fail
            refine (devices_true _ p1 p2 L L H7.out.a1 H7.out.a2 rfl rfl rfl rfl rfl rfl rfl).mono ?_
            rintro e w8 ⟨rfl, b8⟩
            have H8 : Hid (K2 W w8 x r g1 g2 p1 p2 L L s') := H7.out.below b8
            clear b8 H7 k1_0 k1_1 k1_2 k1_3 k1_4 k1_5 k1_6 k1_7 k1_8 k1_9 k1_10 k1_11 k1_12 k2_0 k2_1 k2_2 k2_3 k2_4 k2_5 k2_6 k2_7 k2_8 k2_9 k2_10 k2_11 k2_12
            have k1_1 := H8.out.b1.c1
            have k1_2 := H8.out.b1.c2
            have k1_4 := H8.out.b1.c4
            rw [F.out.csrs] at k1_4
            have k2_1 := H8.out.b2.c1
            have k2_2 := H8.out.b2.c2
            have k2_3 := H8.out.b2.c3
            have k2_4 := H8.out.b2.c4
            rw [F.out.csrs] at k2_4
            have q17 := H8.out.a1.csrs.cell 17 (by rw [F.out.csrs]; decide)
            have q11 := H8.out.a1.csrs.cell 11 (by rw [F.out.csrs]; decide)
            go_wp2_with fail
            refine (words_true' _ p1.c p2.c p1.cc p2.cc L.csrs 19 F.out.csrs H8.out.a1.csrs H8.out.a2.csrs).mono ?_
            rintro e w9 ⟨rfl, q9, hw9⟩
            have b9 : Below w8.heap.size w8 w9 := by rw [hw9]; exact below_drawn (Below.refl _ _) _
            clear hw9
            have H9 : Hid (K2 W w9 x r g1 g2 p1 p2 L L s') := H8.out.below b9
            clear b9 H8 k1_1 k1_2 k1_4 k2_1 k2_2 k2_3 k2_4 q17 q11
            have HX : Hid (∀ q, ∃ s, KI W (w9.drewN q) x r s) := fun q => ⟨s', H9.out.k.below (below_drawn (Below.refl _ _) q)⟩
            have k1_1 := H9.out.b1.c1
            have k1_2 := H9.out.b1.c2
            have k1_4 := H9.out.b1.c4
            rw [F.out.csrs] at k1_4
            have k2_1 := H9.out.b2.c1
            have k2_2 := H9.out.b2.c2
            have k2_3 := H9.out.b2.c3
            have k2_4 := H9.out.b2.c4
            rw [F.out.csrs] at k2_4
            have q17 := H9.out.a1.csrs.cell 17 (by rw [F.out.csrs]; decide)
            have q11 := H9.out.a1.csrs.cell 11 (by rw [F.out.csrs]; decide)
            rw [hA.out] at k2_3
            generalize L.csrs.getD 17 0 = v17 at q17 hz
            generalize L.csrs.getD 11 0 = v11 at q11 hz
            go_wp2_with fail
            go_quiet (fail)
            go_wp2_with fail
            go_roundw
            case rel => exact ⟨i + 1, by omega, by go_num, HX.out _⟩
            case measure => simp [intOf]; omega
          · have hz : (bits .and .u32 (L.csrs.getD 17 0) (L.csrs.getD 11 0) == 0) = false := by rw [ez]; simpa using hm
            have hw : L'.asleep = false ∨ L'.pc ≠ L.pc := by
              rw [← EL.out.1, ← EL.out.2]
              exact HSP.out.wakes ha0 hm
            clear ez hA hm
            obtain ⟨k1_0, k1_1, k1_2, k1_3, k1_4, k1_5, k1_6, k1_7, k1_8, k1_9, k1_10, k1_11, k1_12⟩ := H6.out.b1
            obtain ⟨k2_0, k2_1, k2_2, k2_3, k2_4, k2_5, k2_6, k2_7, k2_8, k2_9, k2_10, k2_11, k2_12⟩ := H6.out.b2
            go_wp2_with fail
            refine (core_some _ p1 p2 L L' H6.out.a1 H6.out.a2 F.out F'.out).mono ?_
            rintro e w7 ⟨r7, rfl, b7⟩
            have H7 : Hid (K2 W w7 x r g1 g2 p1 p2 L L' s') := H6.out.below b7
            clear b7 H6 k1_0 k1_1 k1_2 k1_3 k1_4 k1_5 k1_6 k1_7 k1_8 k1_9 k1_10 k1_11 k1_12 k2_0 k2_1 k2_2 k2_3 k2_4 k2_5 k2_6 k2_7 k2_8 k2_9 k2_10 k2_11 k2_12
            obtain ⟨k1_0, k1_1, k1_2, k1_3, k1_4, k1_5, k1_6, k1_7, k1_8, k1_9, k1_10, k1_11, k1_12⟩ := H7.out.b1
            obtain ⟨k2_0, k2_1, k2_2, k2_3, k2_4, k2_5, k2_6, k2_7, k2_8, k2_9, k2_10, k2_11, k2_12⟩ := H7.out.b2
            go_wp2_with fail
            refine (devices_some _ p1 p2 L L' H7.out.a1 H7.out.a2 F.out F'.out).mono ?_
            rintro e w8 ⟨r8, rfl, b8⟩
            have H8 : Hid (K2 W w8 x r g1 g2 p1 p2 L L' s') := H7.out.below b8
            clear b8 H7 k1_0 k1_1 k1_2 k1_3 k1_4 k1_5 k1_6 k1_7 k1_8 k1_9 k1_10 k1_11 k1_12 k2_0 k2_1 k2_2 k2_3 k2_4 k2_5 k2_6 k2_7 k2_8 k2_9 k2_10 k2_11 k2_12
            have k1_1 := H8.out.b1.c1
            have k1_2 := H8.out.b1.c2
            have k1_4 := H8.out.b1.c4
            rw [F.out.csrs] at k1_4
            have k2_1 := H8.out.b2.c1
            have k2_2 := H8.out.b2.c2
            have k2_3 := H8.out.b2.c3
            have k2_4 := H8.out.b2.c4
            rw [F'.out.csrs] at k2_4
            have q17 := H8.out.a1.csrs.cell 17 (by rw [F.out.csrs]; decide)
            have q11 := H8.out.a1.csrs.cell 11 (by rw [F.out.csrs]; decide)
            go_wp2_with fail
            refine (words_some' _ p1.c p2.c p1.cc p2.cc L.csrs L'.csrs 19 F.out.csrs F'.out.csrs H8.out.a1.csrs H8.out.a2.csrs).mono ?_
            rintro e w9 ⟨r9, rfl, q9, hw9⟩
            have b9 : Below w8.heap.size w8 w9 := by rw [hw9]; exact below_drawn (Below.refl _ _) _
            clear hw9
            have H9 : Hid (K2 W w9 x r g1 g2 p1 p2 L L' s') := H8.out.below b9
            clear b9 H8 k1_1 k1_2 k1_4 k2_1 k2_2 k2_3 k2_4 q17 q11
            have HX : Hid (∀ q, ∃ s, KI W (w9.drewN q) x r s) := fun q => ⟨s', H9.out.k.below (below_drawn (Below.refl _ _) q)⟩
            have k1_1 := H9.out.b1.c1
            have k1_2 := H9.out.b1.c2
            have k1_4 := H9.out.b1.c4
            rw [F.out.csrs] at k1_4
            have k2_1 := H9.out.b2.c1
            have k2_2 := H9.out.b2.c2
            have k2_3 := H9.out.b2.c3
            have k2_4 := H9.out.b2.c4
            rw [F'.out.csrs] at k2_4
            have q17 := H9.out.a1.csrs.cell 17 (by rw [F.out.csrs]; decide)
            have q11 := H9.out.a1.csrs.cell 11 (by rw [F.out.csrs]; decide)
            generalize L.csrs.getD 17 0 = v17 at q17 hz
            generalize L.csrs.getD 11 0 = v11 at q11 hz
            cases r7
            · go_wp2_with fail
              go_quiet (fail)
              go_wp2_with fail
              go_roundw
              case rel => exact ⟨i + 1, by omega, by go_num, HX.out _⟩
              case measure => simp [intOf]; omega
            cases r8
            · go_wp2_with fail
              go_quiet (fail)
              go_wp2_with fail
              go_roundw
              case rel => exact ⟨i + 1, by omega, by go_num, HX.out _⟩
              case measure => simp [intOf]; omega
            cases r9
            · go_wp2_with fail
              go_quiet (fail)
              go_wp2_with fail
              go_roundw
              case rel => exact ⟨i + 1, by omega, by go_num, HX.out _⟩
              case measure => simp [intOf]; omega
            by_cases hpc : L'.pc = L.pc
            · have hp' : (L.pc == L'.pc) = true := by rw [hpc]; exact beq_self_eq_true _
              have ha' : L'.asleep = false := by
                rcases hw with h | h
                · exact h
                · exact absurd hpc h
              rw [ha'] at k2_3
              cases hmd : (L.mode == L'.mode)
              · clear hpc
                go_wp2_with fail
                go_quiet (fail)
                go_wp2_with fail
                go_roundw
                case rel => exact ⟨i + 1, by omega, by go_num, HX.out _⟩
                case measure => simp [intOf]; omega
              · clear hpc
                go_wp2_with fail
                go_quiet (fail)
                go_wp2_with fail
                go_roundw
                case rel => exact ⟨i + 1, by omega, by go_num, HX.out _⟩
                case measure => simp [intOf]; omega
            · have hp' : (L.pc == L'.pc) = false := by simpa using fun e : L.pc = L'.pc => hpc e.symm
              clear hpc hw
              go_wp2_with fail
              go_quiet (fail)
              go_wp2_with fail
              go_roundw
              case rel => exact ⟨i + 1, by omega, by go_num, HX.out _⟩
              case measure => simp [intOf]; omega
      · have hk' : (k != 1) = true := by simpa using hk
        have HL : Hid (Calls Tryd.prog 6 #[.pointer (some ⟨x, 0, none⟩), .agg #[.int .i64 k, .int .i64 a, .int .i64 b, .int .u32 v]] (wr.alloc (.cells #[.int .i64 k, .int .i64 a, .int .i64 b, .int .u32 v] 27)) fun e W' => e = .returned (.tuple #[]) ∧ ∃ s', KI W W' x r s' ∧ Core s s' ∧ Offs [x, r] (wr.alloc (.cells #[.int .i64 k, .int .i64 a, .int .i64 b, .int .u32 v] 27)) W') := (I.new _).call k a b v hv
        clear I hk hv
        go_wp2_with fail
        refine HL.out.mono ?_
        rintro e w3 ⟨rfl, s3, I3, _⟩
        have HX : Hid (∃ s, KI W w3 x r s) := ⟨s3, I3⟩
        clear I3 HL
        go_wp2_with fail
        go_roundw
        case rel => exact ⟨i + 1, by omega, by go_num, HX⟩
        case measure => simp [intOf]; omega
    · have hlt' : ¬ ((i : Int) < N) := by omega
      obtain ⟨s, I⟩ := hI.out
      have HB := I.bel
      clear I hI
      go_wp2
      go_ret
      exact ⟨rfl, HB⟩
set_option maxHeartbeats 1000000 in
theorem sleeps_far (W : World) (size : Int) (img : ByteArray) (a : Option Addr) (N cap : Nat) (h : 1073741824 < N) :
    Calls Tryd.prog 3 #[.int .i64 size, .string img, .slice a N cap] W fun e W' => e = .returned (.bool true) ∧ Below W.heap.size W W' := by
  have HM := kmade_any W size img
  have h' : (1073741824 : Int) < N := by omega
  clear h
  go_enter Tryd.func3, Tryd.ntmps3
  go_wp2_with fail
  refine HM.mono ?_
  rintro e w0 ⟨x, rfl, r, n, im, K⟩
  have HP : Hid (∃ s, KI W w0 x r s) := ⟨_, KI.of_new K⟩
  clear HM K
  obtain ⟨s, I⟩ := HP.out
  have HB := I.bel
  clear HP I
  go_wp2
  go_ret
  exact ⟨rfl, HB⟩
set_option maxHeartbeats 1000000 in
theorem sleeps_nil (W : World) (size : Int) (img : ByteArray) (a : Option Addr) (cap : Nat) :
    Calls Tryd.prog 3 #[.int .i64 size, .string img, .slice a 0 cap] W fun e W' => e = .returned (.bool true) ∧ Below W.heap.size W W' := by
  have HM := kmade_any W size img
  go_enter Tryd.func3, Tryd.ntmps3
  go_wp2_with fail
  refine HM.mono ?_
  rintro e w0 ⟨x, rfl, r, n, im, K⟩
  have HP : Hid (∃ s, KI W w0 x r s) := ⟨_, KI.of_new K⟩
  clear HM K
  go_wp2_with fail
  go_loopw [8] (fun iv wr => iv = .int .i64 0 ∧ Hid (∃ s, KI W wr x r s)) (fun _ _ => 0)
  case atStart => exact ⟨rfl, HP⟩
  case round =>
    obtain ⟨rfl, hI⟩ := hrel
    obtain ⟨s, I⟩ := hI.out
    have HB := I.bel
    clear HP I hI
    go_wp2
    go_ret
    exact ⟨rfl, HB⟩
theorem sleeps_any (W : World) (T : D.Tabs W) (T9 : T19 W) (size : Int) (img : ByteArray) (v : Value) (h : Scr W v) : Calls Tryd.prog 3 #[.int .i64 size, .string img, v] W fun e W' => e = .returned (.bool true) ∧ Below W.heap.size W W' := by
  rcases h with ⟨a, cap, rfl⟩ | ⟨sb, so, N, cap, hm, h, rfl⟩
  · exact sleeps_nil W size img a cap
  · by_cases hn : N ≤ 1073741824
    · exact sleeps_rows W T T9 size img sb so N cap hn h
    · exact sleeps_far W size img _ N cap (by omega)
end Go.Proofs.YteiideeechnekabDoor
