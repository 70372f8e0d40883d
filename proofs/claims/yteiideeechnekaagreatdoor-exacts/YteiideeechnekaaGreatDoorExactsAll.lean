/-
  hartkeep.Exacts: the walk.
-/
import Derived.Test.YteiideeechnekaaGreatDoorKeepAddi
import Derived.Test.YteiideeechnekaaGreatDoorKeepNone
namespace Go.Proofs.YteiideeechnekaaGreatDoor
open Go.RowKit

/-- A script: empty, or a row of steps. -/
def Scr (W : World) (v : Value) : Prop := (∃ (a : Option Addr) (cap : Nat), v = .slice a 0 cap) ∨ ∃ sb so N cap : Nat, N ≤ maxLen ∧ (∀ i, i < N → ∃ (k a b : Int) (v : Nat), v < 4294967296 ∧ W.cell? ⟨sb, so + i * 4, none⟩ = some (.int .i64 k) ∧ W.cell? ⟨sb, so + i * 4 + 1, none⟩ = some (.int .i64 a) ∧ W.cell? ⟨sb, so + i * 4 + 2, none⟩ = some (.int .i64 b) ∧ W.cell? ⟨sb, so + i * 4 + 3, none⟩ = some (.int .u32 v)) ∧ v = .slice (some ⟨sb, so, none⟩) N cap
theorem Scr.nil {W : World} (a : Option Addr) (cap : Nat) : Scr W (.slice a 0 cap) := .inl ⟨a, cap, rfl⟩
theorem Scr.row {W : World} (sb so N cap : Nat) (hm : N ≤ maxLen) (h : ∀ i, i < N → ∃ (k a b : Int) (v : Nat), v < 4294967296 ∧ W.cell? ⟨sb, so + i * 4, none⟩ = some (.int .i64 k) ∧ W.cell? ⟨sb, so + i * 4 + 1, none⟩ = some (.int .i64 a) ∧ W.cell? ⟨sb, so + i * 4 + 2, none⟩ = some (.int .i64 b) ∧ W.cell? ⟨sb, so + i * 4 + 3, none⟩ = some (.int .u32 v)) : Scr W (.slice (some ⟨sb, so, none⟩) N cap) := .inr ⟨sb, so, N, cap, hm, h, rfl⟩
theorem first_is (W : World) (p : Pl) (L : LSt) (st : StAt W p L) (F : LFull L) (f : Int) (h : firstT L 6 = f) :
    Calls Tryz.prog 22 #[.agg #[.slice (some ⟨p.r, 0, none⟩) L.regs.length p.cr, .int .u32 L.pc, .int .i64 L.mode, .bool L.asleep, .slice (some ⟨p.c, 0, none⟩) L.csrs.length p.cc, .string L.ram, .slice (some ⟨p.k, 0, none⟩) L.clock.length p.ck, .slice (some ⟨p.p, 0, none⟩) L.prio.length p.cp, .int .u32 L.pend, .int .u32 L.served, .int .u32 L.level, .slice (some ⟨p.e, 0, none⟩) L.enable.length p.ce, .slice (some ⟨p.l, 0, none⟩) L.limit.length p.cl]] W fun e W' => e = .returned (.int .i64 f) ∧ Below W.heap.size W W' := by
  rw [← h]
  exact first_any W p L st F
theorem KI.far {W w w' : World} {x r g : Nat} {s : RSt} (h : KI W w x r s) (o : Offs [g] w w') (hx : x ≠ g) (hr : r ≠ g) (hg : W.heap.size ≤ g) : KI W w' x r s :=
  { h with c := h.c.offs o (by simpa using hx) (by simpa using hr), bel := h.bel.trans (o.below (fun k hk => by simp at hk; omega) h.bel.size) }
theorem ad_of {s : RSt} (m nd n1 : Nat) (imm : Int) (ha : s.asleep = false) (hm : s.pc = m) (hs : m < 1024) : Ad (lookC (cOf s)) (lookC (cOf (next1 (putR s nd (aluV 19 (s.x[n1]?.getD 0) imm))))) m nd n1 imm := by
  refine ⟨?_, rfl, rfl, rfl, rfl, rfl, rfl, rfl, rfl, rfl, ha, rfl, ?_⟩
  · show putX s.x nd ((s.x[n1]?.getD 0 + imm) % 4294967296) = if nd = 0 then s.x else s.x.set nd ((s.x.getD n1 0 + imm) % 4294967296)
    unfold putX
    rw [List.getD_eq_getElem?_getD]
  · show (s.pc + 4) % 4294967296 = (m : Int) + 4
    rw [hm]
    omega
theorem no_m {s : RSt} (G : Gd s) (w : Int) (ha : s.asleep = false) (h : ((lookC (cOf s)).mode != 3) = false ∨ isB ((lookC (cOf s)).csrs.getD 9 0) 2 = false) : No (lookC (cOf s)) (lookC (cOf (failR s 2 w))) w 3 14 15 16 12 := by
  have e : failR s 2 w = trapM s 2 w 0 := by
    have : supB s 2 = false := by
      unfold supB
      rcases h with h | h
      · have h' : (s.mode != 3) = false := h
        rw [if_pos (by simpa using h')]
      · by_cases m3 : s.mode = 3
        · rw [if_pos m3]
        · rw [if_neg m3]; exact h
    unfold failR trapR
    rw [this]
    rfl
  rw [e]
  refine ⟨rfl, rfl, rfl, rfl, rfl, rfl, rfl, rfl, rfl, ha, rfl, rfl, rfl, rfl, ?_⟩
  show (bits .and .u32 s.mtvec 4294967292 + 0) % 4294967296 = bits .andNot .u32 s.mtvec 3
  have b := G.mtvec.and (W32.lit (n := 4294967292) (by decide))
  unfold W32 at b
  have e4 : ((4294967292 : Nat) : Int) = 4294967292 := rfl
  rw [e4] at b
  rw [andNot_3 G.mtvec]
  omega
theorem no_s {s : RSt} (G : Gd s) (w : Int) (ha : s.asleep = false) (h3 : ((lookC (cOf s)).mode != 3) = true) (h9 : isB ((lookC (cOf s)).csrs.getD 9 0) 2 = true) : No (lookC (cOf s)) (lookC (cOf (failR s 2 w))) w 1 4 5 6 2 := by
  have e : failR s 2 w = trapS s 2 w 0 := by
    have : supB s 2 = true := by
      unfold supB
      have h' : (s.mode != 3) = true := h3
      rw [if_neg (by simpa using h')]
      exact h9
    unfold failR trapR
    rw [this]
    rfl
  rw [e]
  refine ⟨rfl, rfl, rfl, rfl, rfl, rfl, rfl, rfl, rfl, ha, rfl, rfl, rfl, rfl, ?_⟩
  show (bits .and .u32 s.stvec 4294967292 + 0) % 4294967296 = bits .andNot .u32 s.stvec 3
  have b := G.stvec.and (W32.lit (n := 4294967292) (by decide))
  unfold W32 at b
  have e4 : ((4294967292 : Nat) : Int) = 4294967292 := rfl
  rw [e4] at b
  rw [andNot_3 G.stvec]
  omega
set_option maxHeartbeats 8000000 in
set_option maxRecDepth 100000 in
theorem exacts_rows (W : World) (T : D.Tabs W) (T9 : T19 W) (size : Int) (img : ByteArray) (sb so N cap : Nat) (hm : N ≤ 1073741824) (h : ∀ i, i < N → ∃ (k a b : Int) (v : Nat), v < 4294967296 ∧ W.cell? ⟨sb, so + i * 4, none⟩ = some (.int .i64 k) ∧ W.cell? ⟨sb, so + i * 4 + 1, none⟩ = some (.int .i64 a) ∧ W.cell? ⟨sb, so + i * 4 + 2, none⟩ = some (.int .i64 b) ∧ W.cell? ⟨sb, so + i * 4 + 3, none⟩ = some (.int .u32 v)) :
    Calls Tryz.prog 8 #[.int .i64 size, .string img, .slice (some ⟨sb, so, none⟩) N cap] W fun e W' => e = .returned (.bool true) ∧ Below W.heap.size W W' := by
  have HM := kmade_any W size img
  have HS : Hid (∀ i, i < N → ∃ (k a b : Int) (v : Nat), v < 4294967296 ∧ W.cell? ⟨sb, so + i * 4, none⟩ = some (.int .i64 k) ∧ W.cell? ⟨sb, so + i * 4 + 1, none⟩ = some (.int .i64 a) ∧ W.cell? ⟨sb, so + i * 4 + 2, none⟩ = some (.int .i64 b) ∧ W.cell? ⟨sb, so + i * 4 + 3, none⟩ = some (.int .u32 v)) := h
  have HT : Hid (D.Tabs W ∧ T19 W) := ⟨T, T9⟩
  have hm' : ¬ (1073741824 < (N : Int)) := by omega
  clear h T T9
  go_enter Tryz.func8, Tryz.ntmps8
  go_wp2_with fail
  refine HM.mono ?_
  rintro e w0 ⟨x, rfl, r, n, im, K⟩
  have HP : Hid (∃ s, KI W w0 x r s) := ⟨_, KI.of_new K⟩
  clear HM K
  go_wp2_with fail
  go_loopw [8] (fun iv wr => ∃ i : Nat, i ≤ N ∧ iv = .int .i64 i ∧ Hid (∃ s, KI W wr x r s)) (fun iv _ => N - (intOf iv).toNat)
  case atStart => exact ⟨0, Nat.zero_le _, rfl, HP⟩
  case round =>
    obtain ⟨i, hi, rfl, hI⟩ := hrel
    clear HP
    by_cases hlt : i < N
    · have hlt' : (i : Int) < N := by omega
      obtain ⟨k, a, b, v, hv, k0, k1, k2, k3⟩ := HS.out i hlt
      obtain ⟨s, I⟩ := hI.out
      have sl : sb < W.heap.size := World.block_lt_of_cell? W _ k0
      have bc := fun j => Below.cell I.bel (p := ⟨sb, j, none⟩) sl
      have c0 := (bc _).trans k0
      have c1 := (bc _).trans k1
      have c2 := (bc _).trans k2
      have c3 := (bc _).trans k3
      have HI : Hid (KI W wr x r s) := I
      clear bc k0 k1 k2 k3 sl hI
      by_cases hk : k = 1
      · subst hk
        clear hv
        obtain ⟨s', G', CS, SP⟩ := kstep I.g
        have HC : Hid (Gd s' ∧ CStep (cOf s) (cOf s')) := ⟨G', CS⟩
        have HSP : Hid (KSp s s') := SP
        clear G' CS SP
        obtain ⟨L, hL⟩ : ∃ L, lookC (cOf s) = L := ⟨_, rfl⟩
        obtain ⟨L', hL'⟩ : ∃ L', lookC (cOf s') = L' := ⟨_, rfl⟩
        have EL : Hid (lookC (cOf s) = L ∧ lookC (cOf s') = L') := ⟨hL, hL'⟩
        have F : Hid (LFull L) := by unfold Hid; rw [← hL]; exact I.full
        clear hL hL' I
        go_wp2_with fail
        refine ((HI.out.new (.cells #[.int .i64 1, .int .i64 a, .int .i64 b, .int .u32 v] 45)).look L EL.out.1).mono ?_
        rintro e w1 ⟨p1, rfl, st1, ap1, k1, b1⟩
        have S1 : Hid (StAt w1 p1 L ∧ p1.Apart (wr.alloc (.cells #[.int .i64 1, .int .i64 a, .int .i64 b, .int .u32 v] 45)).heap.size ∧ KI W w1 x r s ∧ Below (wr.alloc (.cells #[.int .i64 1, .int .i64 a, .int .i64 b, .int .u32 v] 45)).heap.size (wr.alloc (.cells #[.int .i64 1, .int .i64 a, .int .i64 b, .int .u32 v] 45)) w1) := ⟨st1, ap1, k1, b1⟩
        clear st1 ap1 k1 b1
        go_wp2_with fail
        refine ((S1.out.2.2.1.new (.cells #[.slice (some ⟨p1.r, 0, none⟩) L.regs.length p1.cr, .int .u32 L.pc, .int .i64 L.mode, .bool L.asleep, .slice (some ⟨p1.c, 0, none⟩) L.csrs.length p1.cc, .string L.ram, .slice (some ⟨p1.k, 0, none⟩) L.clock.length p1.ck, .slice (some ⟨p1.p, 0, none⟩) L.prio.length p1.cp, .int .u32 L.pend, .int .u32 L.served, .int .u32 L.level, .slice (some ⟨p1.e, 0, none⟩) L.enable.length p1.ce, .slice (some ⟨p1.l, 0, none⟩) L.limit.length p1.cl] 48)).step HT.out.1 HT.out.2 HC.out.1 HC.out.2).mono ?_
        rintro e w2 ⟨rfl, k2, o2⟩
        have H2 : Hid (K1 W w2 x r w1.heap.size p1 L s') := by
          obtain ⟨st1, ap1, k1, b1⟩ := S1.out
          have lt := (HI.out.new (.cells #[.int .i64 1, .int .i64 a, .int .i64 b, .int .u32 v] 45)).c.lt
          exact K1.step st1 ap1 ⟨lt.1, lt.2, b1.size⟩ k2 o2
        have HA0 : Hid (x ≠ p1.r ∧ r ≠ p1.r ∧ W.heap.size ≤ p1.r) := by
          obtain ⟨st1, ap1, k1, b1⟩ := S1.out
          have lt := (HI.out.new ((.cells #[.int .i64 1, .int .i64 a, .int .i64 b, .int .u32 v] 45))).c.lt
          have aa := ap1.b
          have zz := (HI.out.new ((.cells #[.int .i64 1, .int .i64 a, .int .i64 b, .int .u32 v] 45))).bel.size
          exact ⟨by omega, by omega, by omega⟩
        have AP0 : Hid (p1.c ≠ p1.r ∧ p1.k ≠ p1.r ∧ p1.p ≠ p1.r ∧ p1.e ≠ p1.r ∧ p1.l ≠ p1.r) := by
          have aa := S1.out.2.1.n
          exact ⟨fun h => aa.1 h.symm, fun h => aa.2.1 h.symm, fun h => aa.2.2.1 h.symm, fun h => aa.2.2.2.1 h.symm, fun h => aa.2.2.2.2.1 h.symm⟩
        clear S1 k2 o2
        generalize w1.heap.size = g1 at H2 ⊢
        go_wp2_with fail
        refine (H2.out.k.look L' EL.out.2).mono ?_
        rintro e w3 ⟨p2, rfl, st3, ap3, k3, b3⟩
        have HA : Hid (x ≠ p1.r ∧ r ≠ p1.r ∧ W.heap.size ≤ p1.r) := HA0.out
        have AP : Hid ((p1.c ≠ p1.r ∧ p1.k ≠ p1.r ∧ p1.p ≠ p1.r ∧ p1.e ≠ p1.r ∧ p1.l ≠ p1.r) ∧ (p2.r ≠ p1.r ∧ p2.c ≠ p1.r ∧ p2.k ≠ p1.r ∧ p2.p ≠ p1.r ∧ p2.e ≠ p1.r ∧ p2.l ≠ p1.r)) := by
          have aa := AP0.out
          have bb := ap3.b
          have ll := H2.out.a1.lt
          exact ⟨aa, by omega⟩
        have H4 : Hid (K2 W (w3.alloc (.cells #[.slice (some ⟨p2.r, 0, none⟩) L'.regs.length p2.cr, .int .u32 L'.pc, .int .i64 L'.mode, .bool L'.asleep, .slice (some ⟨p2.c, 0, none⟩) L'.csrs.length p2.cc, .string L'.ram, .slice (some ⟨p2.k, 0, none⟩) L'.clock.length p2.ck, .slice (some ⟨p2.p, 0, none⟩) L'.prio.length p2.cp, .int .u32 L'.pend, .int .u32 L'.served, .int .u32 L'.level, .slice (some ⟨p2.e, 0, none⟩) L'.enable.length p2.ce, .slice (some ⟨p2.l, 0, none⟩) L'.limit.length p2.cl] 48)) x r g1 w3.heap.size p1 p2 L L' s') := H2.out.two k3 st3 b3
        have F' : Hid (LFull L') := by unfold Hid; rw [← EL.out.2]; exact k3.full
        clear st3 ap3 k3 b3 H2
        obtain ⟨k1_0, k1_1, k1_2, k1_3, k1_4, k1_5, k1_6, k1_7, k1_8, k1_9, k1_10, k1_11, k1_12⟩ := H4.out.b1
        go_wp2_with fail
        refine (whole_true _ p1 L F.out).mono ?_
        rintro e w5 ⟨rfl, b5⟩
        have H5 : Hid (K2 W w5 x r g1 w3.heap.size p1 p2 L L' s') := H4.out.below b5
        clear b5 H4 k1_0 k1_1 k1_2 k1_3 k1_4 k1_5 k1_6 k1_7 k1_8 k1_9 k1_10 k1_11 k1_12
        generalize w3.heap.size = g2 at H5 ⊢
        obtain ⟨k2_0, k2_1, k2_2, k2_3, k2_4, k2_5, k2_6, k2_7, k2_8, k2_9, k2_10, k2_11, k2_12⟩ := H5.out.b2
        go_wp2_with fail
        refine (whole_true _ p2 L' F'.out).mono ?_
        rintro e w6 ⟨rfl, b6⟩
        have H6 : Hid (K2 W w6 x r g1 g2 p1 p2 L L' s') := H5.out.below b6
        clear b6 H5 k2_0 k2_1 k2_2 k2_3 k2_4 k2_5 k2_6 k2_7 k2_8 k2_9 k2_10 k2_11 k2_12
        have TB : Hid (∀ w, Below W.heap.size W w → D.Tabs w) := fun w hb => HT.out.1.below HT.out.1.size hb
        have k2_0 := H6.out.b2.c0
        rw [F'.out.regs] at k2_0
        have k2_1 := H6.out.b2.c1
        have q0 := H6.out.a2.regs.cell 0 (by rw [F'.out.regs]; decide)
        have z0 : L'.regs.getD 0 0 = 0 := by
          rw [← EL.out.2]
          have := HC.out.1.z
          rw [List.getD_eq_getElem?_getD]
          exact this
        rw [z0] at q0
        have p4 : L'.pc % 4 = 0 := by rw [← EL.out.2]; exact HC.out.1.p4
        have p5 : 0 ≤ L'.pc := by rw [← EL.out.2]; exact HC.out.1.pc.1
        clear z0
        go_upto_region 17 with fail
        clear k2_0 k2_1 q0 p4 p5
        obtain ⟨f, hf0⟩ : ∃ f, firstT L 6 = f := ⟨_, rfl⟩
        have hf : Hid (firstT L 6 = f) := hf0
        have hc0 : chosenR (wakeR s) = f := by rw [← first_chosen HI.out.g, EL.out.1]; exact hf0
        clear hf0
        have eA : Hid (L.asleep = s.asleep) := by unfold Hid; rw [← EL.out.1]; rfl
        rcases chosenR_cases (wakeR s) with h0 | ⟨j, hj12, hj⟩
        · obtain rfl : f = -1 := by omega
          obtain ⟨k1_0, k1_1, k1_2, k1_3, k1_4, k1_5, k1_6, k1_7, k1_8, k1_9, k1_10, k1_11, k1_12⟩ := H6.out.b1
          go_wp2_with fail
          refine (first_is _ p1 L H6.out.a1 F.out _ hf.out).mono ?_
          rintro e w7 ⟨rfl, b7⟩
          have H7 : Hid (K2 W w7 x r g1 g2 p1 p2 L L' s') := H6.out.below b7
          clear b7 H6 k1_0 k1_1 k1_2 k1_3 k1_4 k1_5 k1_6 k1_7 k1_8 k1_9 k1_10 k1_11 k1_12
          have k1_3 := H7.out.b1.c3
          cases ha0 : s.asleep
          · rw [eA.out, ha0] at k1_3
            have hc : chosenR s = -1 := by rw [wake_awake ha0] at hc0; exact hc0
            clear hc0 h0
            go_upto_region 19 with fail
            clear k1_3
            obtain ⟨m, hpm⟩ : ∃ m : Nat, s.pc = m := ⟨s.pc.toNat, by have := HI.out.g.pc.1; omega⟩
            have h32 : m < 4294967296 := by have := HI.out.g.pc.2; omega
            have hpc : L.pc = m := by rw [← EL.out.1]; exact hpm
            have hram : L.ram = bytesOf s.ram := by rw [← EL.out.1]; rfl
            have PH : Hid (s.pc = m ∧ L.pc = m ∧ L.ram = bytesOf s.ram) := ⟨hpm, hpc, hram⟩
            clear hpm hpc hram
            by_cases ho : m + 4 ≤ s.ram.length
            · obtain ⟨op, nd, n1, n2, imm, J⟩ := jns_of HI.out.g PH.out.1 ho
              have l1 : n1 < 32 := by have := J.K.s1; omega
              have l2 : nd < 32 := by have := J.K.d1; omega
              have HJ : Hid (D.dec (leV s.ram m 4) = ⟨op, nd, n1, n2, imm⟩) := J.hd
              clear J
              by_cases h19 : op = 19
              · subst h19
                have HE : Hid (Ad L L' m nd n1 imm) := by
                  have e := HSP.out.addi ha0 hc m nd n1 n2 imm PH.out.1 ho HJ.out
                  unfold Hid
                  rw [← EL.out.1, ← EL.out.2, e]
                  exact ad_of m nd n1 imm ha0 PH.out.1 (by have := H7.out.k.full.ram; have := F.out.ram; rw [PH.out.2.2, bytesOf_size] at this; omega)
                by_cases z : nd = 0
                · have z0 : Hid (nd = 0) := z
                  clear z
                  obtain ⟨k1_0, k1_1, k1_2, k1_3, k1_4, k1_5, k1_6, k1_7, k1_8, k1_9, k1_10, k1_11, k1_12⟩ := H7.out.b1
                  obtain ⟨k2_0, k2_1, k2_2, k2_3, k2_4, k2_5, k2_6, k2_7, k2_8, k2_9, k2_10, k2_11, k2_12⟩ := H7.out.b2
                  go_wp2_with fail
                  refine (exact_addi_z _ (TB.out _ H7.out.k.bel) p1 p2 L L' H7.out.a1 H7.out.a2 F.out F'.out s.ram HI.out.g.b PH.out.2.2 m PH.out.2.1 ho nd n1 n2 imm HJ.out z0.out l1 HE.out).mono ?_
                  rintro e w8 ⟨rfl, o8⟩
                  have HX : Hid (∃ s, KI W w8 x r s) := ⟨s', H7.out.k.far o8 HA.out.1 HA.out.2.1 HA.out.2.2⟩
                  clear o8 H7 k1_0 k1_1 k1_2 k1_3 k1_4 k1_5 k1_6 k1_7 k1_8 k1_9 k1_10 k1_11 k1_12 k2_0 k2_1 k2_2 k2_3 k2_4 k2_5 k2_6 k2_7 k2_8 k2_9 k2_10 k2_11 k2_12
                  go_wp2_with fail
                  go_roundw
                  case rel => exact ⟨i + 1, by omega, by go_num, HX⟩
                  case measure => simp [intOf]; omega
                · have z0 : Hid (nd ≠ 0) := z
                  clear z
                  obtain ⟨k1_0, k1_1, k1_2, k1_3, k1_4, k1_5, k1_6, k1_7, k1_8, k1_9, k1_10, k1_11, k1_12⟩ := H7.out.b1
                  obtain ⟨k2_0, k2_1, k2_2, k2_3, k2_4, k2_5, k2_6, k2_7, k2_8, k2_9, k2_10, k2_11, k2_12⟩ := H7.out.b2
                  go_wp2_with fail
                  refine (exact_addi_n _ (TB.out _ H7.out.k.bel) p1 p2 L L' H7.out.a1 H7.out.a2 F.out F'.out s.ram HI.out.g.b PH.out.2.2 m PH.out.2.1 ho nd n1 n2 imm HJ.out z0.out l1 l2 HE.out AP.out.1 AP.out.2).mono ?_
                  rintro e w8 ⟨rfl, o8⟩
                  have HX : Hid (∃ s, KI W w8 x r s) := ⟨s', H7.out.k.far o8 HA.out.1 HA.out.2.1 HA.out.2.2⟩
                  clear o8 H7 k1_0 k1_1 k1_2 k1_3 k1_4 k1_5 k1_6 k1_7 k1_8 k1_9 k1_10 k1_11 k1_12 k2_0 k2_1 k2_2 k2_3 k2_4 k2_5 k2_6 k2_7 k2_8 k2_9 k2_10 k2_11 k2_12
                  go_wp2_with fail
                  go_roundw
                  case rel => exact ⟨i + 1, by omega, by go_num, HX⟩
                  case measure => simp [intOf]; omega
              by_cases h0 : op = 0
              · subst h0
                have e : Hid (s' = failR s 2 (leV s.ram m 4)) := HSP.out.none ha0 hc m nd n1 n2 imm PH.out.1 ho HJ.out
                cases hmd : (L.mode != 3)
                · have HE : Hid (No L L' (leV s.ram m 4) 3 14 15 16 12) := by
                    unfold Hid
                    rw [← EL.out.1, ← EL.out.2, e.out]
                    rw [← EL.out.1] at hmd
                    exact no_m HI.out.g _ ha0 (.inl hmd)
                  have hm9 : Hid ((L.mode != 3) = false) := hmd
                  clear hmd
                  obtain ⟨k1_0, k1_1, k1_2, k1_3, k1_4, k1_5, k1_6, k1_7, k1_8, k1_9, k1_10, k1_11, k1_12⟩ := H7.out.b1
                  obtain ⟨k2_0, k2_1, k2_2, k2_3, k2_4, k2_5, k2_6, k2_7, k2_8, k2_9, k2_10, k2_11, k2_12⟩ := H7.out.b2
                  go_wp2_with fail
                  refine (exact_none_m _ (TB.out _ H7.out.k.bel) p1 p2 L L' H7.out.a1 H7.out.a2 F.out F'.out s.ram HI.out.g.b PH.out.2.2 m PH.out.2.1 ho nd n1 n2 imm HJ.out hm9.out HE.out).mono ?_
                  rintro e w8 ⟨rfl, o8⟩
                  have HX : Hid (∃ s, KI W w8 x r s) := ⟨s', H7.out.k.far o8 HA.out.1 HA.out.2.1 HA.out.2.2⟩
                  clear o8 H7 k1_0 k1_1 k1_2 k1_3 k1_4 k1_5 k1_6 k1_7 k1_8 k1_9 k1_10 k1_11 k1_12 k2_0 k2_1 k2_2 k2_3 k2_4 k2_5 k2_6 k2_7 k2_8 k2_9 k2_10 k2_11 k2_12
                  go_wp2_with fail
                  go_roundw
                  case rel => exact ⟨i + 1, by omega, by go_num, HX⟩
                  case measure => simp [intOf]; omega
                · have hm9 : Hid ((L.mode != 3) = true) := hmd
                  cases h9 : isB (L.csrs.getD 9 0) 2
                  · have HE : Hid (No L L' (leV s.ram m 4) 3 14 15 16 12) := by
                      unfold Hid
                      rw [← EL.out.1, ← EL.out.2, e.out]
                      rw [← EL.out.1] at h9
                      exact no_m HI.out.g _ ha0 (.inr h9)
                    have h99 : Hid (isB (L.csrs.getD 9 0) 2 = false) := h9
                    clear hmd h9
                    obtain ⟨k1_0, k1_1, k1_2, k1_3, k1_4, k1_5, k1_6, k1_7, k1_8, k1_9, k1_10, k1_11, k1_12⟩ := H7.out.b1
                    obtain ⟨k2_0, k2_1, k2_2, k2_3, k2_4, k2_5, k2_6, k2_7, k2_8, k2_9, k2_10, k2_11, k2_12⟩ := H7.out.b2
                    go_wp2_with fail
                    refine (exact_none_n _ (TB.out _ H7.out.k.bel) p1 p2 L L' H7.out.a1 H7.out.a2 F.out F'.out s.ram HI.out.g.b PH.out.2.2 m PH.out.2.1 ho nd n1 n2 imm HJ.out hm9.out h99.out HE.out).mono ?_
                    rintro e w8 ⟨rfl, o8⟩
                    have HX : Hid (∃ s, KI W w8 x r s) := ⟨s', H7.out.k.far o8 HA.out.1 HA.out.2.1 HA.out.2.2⟩
                    clear o8 H7 k1_0 k1_1 k1_2 k1_3 k1_4 k1_5 k1_6 k1_7 k1_8 k1_9 k1_10 k1_11 k1_12 k2_0 k2_1 k2_2 k2_3 k2_4 k2_5 k2_6 k2_7 k2_8 k2_9 k2_10 k2_11 k2_12
                    go_wp2_with fail
                    go_roundw
                    case rel => exact ⟨i + 1, by omega, by go_num, HX⟩
                    case measure => simp [intOf]; omega
                  · have HE : Hid (No L L' (leV s.ram m 4) 1 4 5 6 2) := by
                      unfold Hid
                      rw [← EL.out.1, ← EL.out.2, e.out]
                      rw [← EL.out.1] at h9 hmd
                      exact no_s HI.out.g _ ha0 hmd h9
                    have h99 : Hid (isB (L.csrs.getD 9 0) 2 = true) := h9
                    clear hmd h9
                    obtain ⟨k1_0, k1_1, k1_2, k1_3, k1_4, k1_5, k1_6, k1_7, k1_8, k1_9, k1_10, k1_11, k1_12⟩ := H7.out.b1
                    obtain ⟨k2_0, k2_1, k2_2, k2_3, k2_4, k2_5, k2_6, k2_7, k2_8, k2_9, k2_10, k2_11, k2_12⟩ := H7.out.b2
                    go_wp2_with fail
                    refine (exact_none_s _ (TB.out _ H7.out.k.bel) p1 p2 L L' H7.out.a1 H7.out.a2 F.out F'.out s.ram HI.out.g.b PH.out.2.2 m PH.out.2.1 ho nd n1 n2 imm HJ.out hm9.out h99.out HE.out).mono ?_
                    rintro e w8 ⟨rfl, o8⟩
                    have HX : Hid (∃ s, KI W w8 x r s) := ⟨s', H7.out.k.far o8 HA.out.1 HA.out.2.1 HA.out.2.2⟩
                    clear o8 H7 k1_0 k1_1 k1_2 k1_3 k1_4 k1_5 k1_6 k1_7 k1_8 k1_9 k1_10 k1_11 k1_12 k2_0 k2_1 k2_2 k2_3 k2_4 k2_5 k2_6 k2_7 k2_8 k2_9 k2_10 k2_11 k2_12
                    go_wp2_with fail
                    go_roundw
                    case rel => exact ⟨i + 1, by omega, by go_num, HX⟩
                    case measure => simp [intOf]; omega
              have h19' : Hid (op ≠ 19) := h19
              have h0' : Hid (op ≠ 0) := h0
              clear h19 h0
              obtain ⟨k1_0, k1_1, k1_2, k1_3, k1_4, k1_5, k1_6, k1_7, k1_8, k1_9, k1_10, k1_11, k1_12⟩ := H7.out.b1
              obtain ⟨k2_0, k2_1, k2_2, k2_3, k2_4, k2_5, k2_6, k2_7, k2_8, k2_9, k2_10, k2_11, k2_12⟩ := H7.out.b2
              go_wp2_with fail
              refine (exact_other _ (TB.out _ H7.out.k.bel) p1 p2 L L' H7.out.a1 H7.out.a2 F.out F'.out s.ram HI.out.g.b PH.out.2.2 m PH.out.2.1 ho op nd n1 n2 imm HJ.out h19'.out h0'.out).mono ?_
              rintro e w8 ⟨rfl, o8⟩
              have HX : Hid (∃ s, KI W w8 x r s) := ⟨s', H7.out.k.far o8 HA.out.1 HA.out.2.1 HA.out.2.2⟩
              clear o8 H7 k1_0 k1_1 k1_2 k1_3 k1_4 k1_5 k1_6 k1_7 k1_8 k1_9 k1_10 k1_11 k1_12 k2_0 k2_1 k2_2 k2_3 k2_4 k2_5 k2_6 k2_7 k2_8 k2_9 k2_10 k2_11 k2_12
              go_wp2_with fail
              go_roundw
              case rel => exact ⟨i + 1, by omega, by go_num, HX⟩
              case measure => simp [intOf]; omega
            · have ho' : Hid (¬ m + 4 ≤ s.ram.length) := ho
              clear ho
              obtain ⟨k1_0, k1_1, k1_2, k1_3, k1_4, k1_5, k1_6, k1_7, k1_8, k1_9, k1_10, k1_11, k1_12⟩ := H7.out.b1
              obtain ⟨k2_0, k2_1, k2_2, k2_3, k2_4, k2_5, k2_6, k2_7, k2_8, k2_9, k2_10, k2_11, k2_12⟩ := H7.out.b2
              go_wp2_with fail
              refine (exact_out _ p1 p2 L L' H7.out.a1 H7.out.a2 F.out F'.out s.ram PH.out.2.2 m PH.out.2.1 h32 ho'.out).mono ?_
              rintro e w8 ⟨rfl, o8⟩
              have HX : Hid (∃ s, KI W w8 x r s) := ⟨s', H7.out.k.far o8 HA.out.1 HA.out.2.1 HA.out.2.2⟩
              clear o8 H7 k1_0 k1_1 k1_2 k1_3 k1_4 k1_5 k1_6 k1_7 k1_8 k1_9 k1_10 k1_11 k1_12 k2_0 k2_1 k2_2 k2_3 k2_4 k2_5 k2_6 k2_7 k2_8 k2_9 k2_10 k2_11 k2_12
              go_wp2_with fail
              go_roundw
              case rel => exact ⟨i + 1, by omega, by go_num, HX⟩
              case measure => simp [intOf]; omega
          · rw [eA.out, ha0] at k1_3
            have HX : Hid (∃ s, KI W w7 x r s) := ⟨s', H7.out.k⟩
            go_wp2_with fail
            go_roundw
            case rel => exact ⟨i + 1, by omega, by go_num, HX⟩
            case measure => simp [intOf]; omega
        · obtain rfl : f = j := by omega
          have hj' : (j : Int) < 12 := by omega
          obtain ⟨k1_0, k1_1, k1_2, k1_3, k1_4, k1_5, k1_6, k1_7, k1_8, k1_9, k1_10, k1_11, k1_12⟩ := H6.out.b1
          go_wp2_with fail
          refine (first_is _ p1 L H6.out.a1 F.out _ hf.out).mono ?_
          rintro e w7 ⟨rfl, b7⟩
          have H7 : Hid (K2 W w7 x r g1 g2 p1 p2 L L' s') := H6.out.below b7
          clear b7 H6 k1_0 k1_1 k1_2 k1_3 k1_4 k1_5 k1_6 k1_7 k1_8 k1_9 k1_10 k1_11 k1_12
          have HX : Hid (∃ s, KI W w7 x r s) := ⟨s', H7.out.k⟩
          go_wp2_with fail
          go_roundw
          case rel => exact ⟨i + 1, by omega, by go_num, HX⟩
          case measure => simp [intOf]; omega
      · have hk' : (k != 1) = true := by simpa using hk
        have HL : Hid (Calls Tryz.prog 19 #[.pointer (some ⟨x, 0, none⟩), .agg #[.int .i64 k, .int .i64 a, .int .i64 b, .int .u32 v]] (wr.alloc (.cells #[.int .i64 k, .int .i64 a, .int .i64 b, .int .u32 v] 45)) fun e W' => e = .returned (.tuple #[]) ∧ ∃ s', KI W W' x r s' ∧ Core s s' ∧ Offs [x, r] (wr.alloc (.cells #[.int .i64 k, .int .i64 a, .int .i64 b, .int .u32 v] 45)) W') := (I.new _).call k a b v hv
        clear I hk hv
        go_wp2_with fail
        refine HL.out.mono ?_
        rintro e w3 ⟨rfl, s3, I3, _⟩
        have HX : Hid (∃ s, KI W w3 x r s) := ⟨s3, I3⟩
        clear I3 HL
        go_wp2_with fail
        go_roundw
        case rel => exact ⟨i + 1, by omega, by go_num, HX⟩
        case measure => simp [intOf]; omega
    · have hlt' : ¬ ((i : Int) < N) := by omega
      obtain ⟨s, I⟩ := hI.out
      have HB := I.bel
      clear I hI
      go_wp2
      go_ret
      exact ⟨rfl, HB⟩
set_option maxHeartbeats 1000000 in
theorem exacts_far (W : World) (size : Int) (img : ByteArray) (a : Option Addr) (N cap : Nat) (h : 1073741824 < N) :
    Calls Tryz.prog 8 #[.int .i64 size, .string img, .slice a N cap] W fun e W' => e = .returned (.bool true) ∧ Below W.heap.size W W' := by
  have HM := kmade_any W size img
  have h' : (1073741824 : Int) < N := by omega
  clear h
  go_enter Tryz.func8, Tryz.ntmps8
  go_wp2_with fail
  refine HM.mono ?_
  rintro e w0 ⟨x, rfl, r, n, im, K⟩
  have HP : Hid (∃ s, KI W w0 x r s) := ⟨_, KI.of_new K⟩
  clear HM K
  obtain ⟨s, I⟩ := HP.out
  have HB := I.bel
  clear HP I
  go_wp2
  go_ret
  exact ⟨rfl, HB⟩
set_option maxHeartbeats 1000000 in
theorem exacts_nil (W : World) (size : Int) (img : ByteArray) (a : Option Addr) (cap : Nat) :
    Calls Tryz.prog 8 #[.int .i64 size, .string img, .slice a 0 cap] W fun e W' => e = .returned (.bool true) ∧ Below W.heap.size W W' := by
  have HM := kmade_any W size img
  go_enter Tryz.func8, Tryz.ntmps8
  go_wp2_with fail
  refine HM.mono ?_
  rintro e w0 ⟨x, rfl, r, n, im, K⟩
  have HP : Hid (∃ s, KI W w0 x r s) := ⟨_, KI.of_new K⟩
  clear HM K
  go_wp2_with fail
  go_loopw [8] (fun iv wr => iv = .int .i64 0 ∧ Hid (∃ s, KI W wr x r s)) (fun _ _ => 0)
  case atStart => exact ⟨rfl, HP⟩
  case round =>
    obtain ⟨rfl, hI⟩ := hrel
    obtain ⟨s, I⟩ := hI.out
    have HB := I.bel
    clear HP I hI
    go_wp2
    go_ret
    exact ⟨rfl, HB⟩
theorem exacts_any (W : World) (T : D.Tabs W) (T9 : T19 W) (size : Int) (img : ByteArray) (v : Value) (h : Scr W v) : Calls Tryz.prog 8 #[.int .i64 size, .string img, v] W fun e W' => e = .returned (.bool true) ∧ Below W.heap.size W W' := by
  rcases h with ⟨a, cap, rfl⟩ | ⟨sb, so, N, cap, hm, h, rfl⟩
  · exact exacts_nil W size img a cap
  · by_cases hn : N ≤ 1073741824
    · exact exacts_rows W T T9 size img sb so N cap hn h
    · exact exacts_far W size img _ N cap (by omega)
end Go.Proofs.YteiideeechnekaaGreatDoor
