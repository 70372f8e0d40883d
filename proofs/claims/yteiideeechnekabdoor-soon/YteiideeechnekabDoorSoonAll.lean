/-
  hartkeep.Soon: the walk.
-/
import Derived.Test.YteiideeechnekabDoorKeepCount
namespace Go.Proofs.YteiideeechnekabDoor
open Go.RowKit

/-- A script: empty, or a row of steps. -/
def Scr (W : World) (v : Value) : Prop := (∃ (a : Option Addr) (cap : Nat), v = .slice a 0 cap) ∨ ∃ sb so N cap : Nat, N ≤ maxLen ∧ (∀ i, i < N → ∃ (k a b : Int) (v : Nat), v < 4294967296 ∧ W.cell? ⟨sb, so + i * 4, none⟩ = some (.int .i64 k) ∧ W.cell? ⟨sb, so + i * 4 + 1, none⟩ = some (.int .i64 a) ∧ W.cell? ⟨sb, so + i * 4 + 2, none⟩ = some (.int .i64 b) ∧ W.cell? ⟨sb, so + i * 4 + 3, none⟩ = some (.int .u32 v)) ∧ v = .slice (some ⟨sb, so, none⟩) N cap
theorem Scr.nil {W : World} (a : Option Addr) (cap : Nat) : Scr W (.slice a 0 cap) := .inl ⟨a, cap, rfl⟩
theorem Scr.row {W : World} (sb so N cap : Nat) (hm : N ≤ maxLen) (h : ∀ i, i < N → ∃ (k a b : Int) (v : Nat), v < 4294967296 ∧ W.cell? ⟨sb, so + i * 4, none⟩ = some (.int .i64 k) ∧ W.cell? ⟨sb, so + i * 4 + 1, none⟩ = some (.int .i64 a) ∧ W.cell? ⟨sb, so + i * 4 + 2, none⟩ = some (.int .i64 b) ∧ W.cell? ⟨sb, so + i * 4 + 3, none⟩ = some (.int .u32 v)) : Scr W (.slice (some ⟨sb, so, none⟩) N cap) := .inr ⟨sb, so, N, cap, hm, h, rfl⟩
theorem made12 (k : Nat) (hk : k < 12) : (madeCells #[Value.int .i64 0] 12)[k]? = some (.int .i64 0) := by
  have h := toList_madeCells_one (Value.int .i64 0) 12
  rw [← Array.getElem?_toList, h, List.getElem?_replicate, if_pos hk]
theorem make12 (w : World) : (Instr.makeSlice 37 (.int .i64 12) (.int .i64 12)).run Tryd.prog w = .ok (.slice (some ⟨w.heap.size, 0, none⟩) 12 12) (w.alloc (.cells (madeCells #[Value.int .i64 0] 12) 3)) := by
  have h : (Tryd.prog.info? 3).map (fun i => (i.zero, i.size, i.bytes)) = some (some (.int .i64 0), 1, 8) := by kernel_rfl
  obtain ⟨i, hi, he⟩ := Option.map_eq_some_iff.1 h
  simp only [Prod.mk.injEq] at he
  have := run_make (P := Tryd.prog) w 37 3 i (.int .i64 0) Tryd.underlying37 hi he.1 .i64 .i64 12 12 (by decide) (Int.le_refl _) (by rw [he.2.2]; decide) (by decide)
  rw [he.2.1] at this
  exact this
theorem first_is (W : World) (p : Pl) (L : LSt) (st : StAt W p L) (F : LFull L) (f : Int) (h : firstT L 6 = f) :
    Calls Tryd.prog 14 #[.agg #[.slice (some ⟨p.r, 0, none⟩) L.regs.length p.cr, .int .u32 L.pc, .int .i64 L.mode, .bool L.asleep, .slice (some ⟨p.c, 0, none⟩) L.csrs.length p.cc, .string L.ram, .slice (some ⟨p.k, 0, none⟩) L.clock.length p.ck, .slice (some ⟨p.p, 0, none⟩) L.prio.length p.cp, .int .u32 L.pend, .int .u32 L.served, .int .u32 L.level, .slice (some ⟨p.e, 0, none⟩) L.enable.length p.ce, .slice (some ⟨p.l, 0, none⟩) L.limit.length p.cl]] W fun e W' => e = .returned (.int .i64 f) ∧ Below W.heap.size W W' := by
  rw [← h]
  exact first_any W p L st F
/-- Between two steps. -/
structure SS (W w : World) (x r g : Nat) (v : Nat → Int) (s : RSt) : Prop where
  k : KI W w x r s
  r : SR w g v
  i : SI v s
/-- A look in its box, and the counts. -/
structure S1 (W w : World) (x r g g1 : Nat) (p1 : Pl) (L : LSt) (v : Nat → Int) (s : RSt) : Prop where
  k : K1 W w x r g1 p1 L s
  r : SR w g v
  n : g1 ≠ g ∧ p1.r ≠ g ∧ p1.c ≠ g ∧ p1.k ≠ g ∧ p1.p ≠ g ∧ p1.e ≠ g ∧ p1.l ≠ g
theorem S1.below {W w w' : World} {x r g g1 : Nat} {p1 : Pl} {L : LSt} {v : Nat → Int} {s : RSt} (h : S1 W w x r g g1 p1 L v s) (hb : Below w.heap.size w w') : S1 W w' x r g g1 p1 L v s := ⟨h.k.below hb, h.r.of (hb.block g h.r.lt), h.n⟩
theorem S1.new {W w w1 : World} {x r g : Nat} {p1 : Pl} {L : LSt} {v : Nat → Int} {s : RSt} (h : SR w g v) (st : StAt w1 p1 L) (ap : p1.Apart w.heap.size) (k : KI W w1 x r s) (hb : Below w.heap.size w w1) : S1 W (w1.alloc (.cells #[.slice (some ⟨p1.r, 0, none⟩) L.regs.length p1.cr, .int .u32 L.pc, .int .i64 L.mode, .bool L.asleep, .slice (some ⟨p1.c, 0, none⟩) L.csrs.length p1.cc, .string L.ram, .slice (some ⟨p1.k, 0, none⟩) L.clock.length p1.ck, .slice (some ⟨p1.p, 0, none⟩) L.prio.length p1.cp, .int .u32 L.pend, .int .u32 L.served, .int .u32 L.level, .slice (some ⟨p1.e, 0, none⟩) L.enable.length p1.ce, .slice (some ⟨p1.l, 0, none⟩) L.limit.length p1.cl] 31)) x r g w1.heap.size p1 L v s := by
  have ab := ap.b
  have lg := h.lt
  have sz := hb.size
  have bb := (Below.refl w1.heap.size w1).alloc (Nat.le_refl _) (.cells #[.slice (some ⟨p1.r, 0, none⟩) L.regs.length p1.cr, .int .u32 L.pc, .int .i64 L.mode, .bool L.asleep, .slice (some ⟨p1.c, 0, none⟩) L.csrs.length p1.cc, .string L.ram, .slice (some ⟨p1.k, 0, none⟩) L.clock.length p1.ck, .slice (some ⟨p1.p, 0, none⟩) L.prio.length p1.cp, .int .u32 L.pend, .int .u32 L.served, .int .u32 L.level, .slice (some ⟨p1.e, 0, none⟩) L.enable.length p1.ce, .slice (some ⟨p1.l, 0, none⟩) L.limit.length p1.cl] 31)
  exact ⟨K1.box k st, (h.of (hb.block g lg)).of (bb.block g (by omega)), by omega⟩
theorem S1.count {W w w' : World} {x r g g1 : Nat} {p1 : Pl} {L : LSt} {v v' : Nat → Int} {s : RSt} (h : S1 W w x r g g1 p1 L v s) (hr : SR w' g v') (o : Offs [g] w w') (hg : x ≠ g ∧ r ≠ g ∧ W.heap.size ≤ g) : S1 W w' x r g g1 p1 L v' s := by
  have n := h.n
  have l1 := h.k.b1.lt
  have l2 := h.k.a1.lt
  refine ⟨⟨h.k.k.far o hg.1 hg.2.1 hg.2.2, h.k.b1.of (o.block _ l1 (by simpa using n.1)), h.k.a1.of fun q hq => o.block q (by omega) (by simp; omega)⟩, hr, n⟩
set_option maxHeartbeats 8000000 in
set_option maxRecDepth 100000 in
theorem soon_rows (W : World) (T : D.Tabs W) (T9 : T19 W) (size : Int) (img : ByteArray) (sb so N cap : Nat) (hm : N ≤ 1073741824) (h : ∀ i, i < N → ∃ (k a b : Int) (v : Nat), v < 4294967296 ∧ W.cell? ⟨sb, so + i * 4, none⟩ = some (.int .i64 k) ∧ W.cell? ⟨sb, so + i * 4 + 1, none⟩ = some (.int .i64 a) ∧ W.cell? ⟨sb, so + i * 4 + 2, none⟩ = some (.int .i64 b) ∧ W.cell? ⟨sb, so + i * 4 + 3, none⟩ = some (.int .u32 v)) :
    Calls Tryd.prog 4 #[.int .i64 size, .string img, .slice (some ⟨sb, so, none⟩) N cap] W fun e W' => e = .returned (.bool true) ∧ Below W.heap.size W W' := by
  have HM := kmade_any W size img
  have HS : Hid (∀ i, i < N → ∃ (k a b : Int) (v : Nat), v < 4294967296 ∧ W.cell? ⟨sb, so + i * 4, none⟩ = some (.int .i64 k) ∧ W.cell? ⟨sb, so + i * 4 + 1, none⟩ = some (.int .i64 a) ∧ W.cell? ⟨sb, so + i * 4 + 2, none⟩ = some (.int .i64 b) ∧ W.cell? ⟨sb, so + i * 4 + 3, none⟩ = some (.int .u32 v)) := h
  have HT : Hid (D.Tabs W ∧ T19 W) := ⟨T, T9⟩
  have hm' : ¬ (1073741824 < (N : Int)) := by omega
  clear h T T9
  go_enter Tryd.func4, Tryd.ntmps4
  go_wp2_with fail
  refine HM.mono ?_
  rintro e w0 ⟨x, rfl, r, n, im, K⟩
  have HK : Hid (KI W w0 x r (newR n im)) := KI.of_new K
  clear HM K
  have hmk := make12
  have HP : Hid (∃ s v, SS W (w0.alloc (.cells (madeCells #[Value.int .i64 0] 12) 3)) x r w0.heap.size v s) := by
    have bb := (Below.refl w0.heap.size w0).alloc (Nat.le_refl _) (.cells (madeCells #[Value.int .i64 0] 12) 3)
    refine ⟨_, fun _ => 0, HK.out.below bb, ⟨_, heap_alloc_new w0 _, size_madeCells _ _, fun k hk => ?_⟩, ⟨fun _ _ => .inl rfl⟩⟩
    exact made12 k hk
  have HG : Hid (x ≠ w0.heap.size ∧ r ≠ w0.heap.size ∧ W.heap.size ≤ w0.heap.size) := by
    have := HK.out.c.lt
    exact ⟨by omega, by omega, HK.out.bel.size⟩
  clear HK
  go_wp2_with fail
  generalize w0.heap.size = g at HG HP ⊢
  go_loopw [9] (fun iv wr => ∃ i : Nat, i ≤ N ∧ iv = .int .i64 i ∧ Hid (∃ s v, SS W wr x r g v s)) (fun iv _ => N - (intOf iv).toNat)
  case atStart => exact ⟨0, Nat.zero_le _, rfl, HP⟩
  case round =>
    obtain ⟨i, hi, rfl, hI⟩ := hrel
    clear HP
    by_cases hlt : i < N
    · have hlt' : (i : Int) < N := by omega
      obtain ⟨k, a, b, v, hv, k0, k1, k2, k3⟩ := HS.out i hlt
      obtain ⟨s, v0, I⟩ := hI.out
      have sl : sb < W.heap.size := World.block_lt_of_cell? W _ k0
      have bc := fun j => Below.cell I.k.bel (p := ⟨sb, j, none⟩) sl
      have c0 := (bc _).trans k0
      have c1 := (bc _).trans k1
      have c2 := (bc _).trans k2
      have c3 := (bc _).trans k3
      have HI : Hid (SS W wr x r g v0 s) := I
      clear bc k0 k1 k2 k3 sl hI
      by_cases hk : k = 1
      · subst hk
        clear hv
        obtain ⟨s', G', CS, SP⟩ := kstep I.k.g
        have HC : Hid (Gd s' ∧ CStep (cOf s) (cOf s')) := ⟨G', CS⟩
        have HSP : Hid (KSp s s') := SP
        clear G' CS SP
        obtain ⟨L, hL⟩ : ∃ L, lookC (cOf s) = L := ⟨_, rfl⟩
        have F : Hid (LFull L) := by unfold Hid; rw [← hL]; exact I.k.full
        have EL : Hid (lookC (cOf s) = L) := hL
        have EW : Hid (∀ k, wantL L k = enB s k) := fun k => by rw [← hL]; exact want_en I.k.g k
        have HZ : Hid (∀ k, k < 12 → wantL L k = true → v0 k = 0) := fun k hk h => by
          rw [EW.out] at h
          have := en_cl I.k.g k h
          rcases I.i.z k hk with h | ⟨_, h⟩
          · exact h
          · rw [this] at h; cases h
        obtain ⟨f, hf⟩ : ∃ f, firstT L 6 = f := ⟨_, rfl⟩
        have hc : chosenR (wakeR s) = f := by rw [← first_chosen I.k.g, hL]; exact hf
        have HR0 : Hid (SR (wr.alloc (.cells #[.int .i64 1, .int .i64 a, .int .i64 b, .int .u32 v] 27)) g v0) := I.r.of (((Below.refl wr.heap.size wr).alloc (Nat.le_refl _) (.cells #[.int .i64 1, .int .i64 a, .int .i64 b, .int .u32 v] 27)).block g I.r.lt)
        clear hL I
        go_wp2_with fail
        refine ((HI.out.k.new (.cells #[.int .i64 1, .int .i64 a, .int .i64 b, .int .u32 v] 27)).look L EL.out).mono ?_
        rintro e w4 ⟨p1, rfl, st4, ap4, k4, b4⟩
        have H4 : Hid (S1 W (w4.alloc (.cells #[.slice (some ⟨p1.r, 0, none⟩) L.regs.length p1.cr, .int .u32 L.pc, .int .i64 L.mode, .bool L.asleep, .slice (some ⟨p1.c, 0, none⟩) L.csrs.length p1.cc, .string L.ram, .slice (some ⟨p1.k, 0, none⟩) L.clock.length p1.ck, .slice (some ⟨p1.p, 0, none⟩) L.prio.length p1.cp, .int .u32 L.pend, .int .u32 L.served, .int .u32 L.level, .slice (some ⟨p1.e, 0, none⟩) L.enable.length p1.ce, .slice (some ⟨p1.l, 0, none⟩) L.limit.length p1.cl] 31)) x r g w4.heap.size p1 L v0 s) := S1.new HR0.out st4 ap4 k4 b4
        clear st4 ap4 k4 b4 HR0
        obtain ⟨k1_0, k1_1, k1_2, k1_3, k1_4, k1_5, k1_6, k1_7, k1_8, k1_9, k1_10, k1_11, k1_12⟩ := H4.out.k.b1
        go_wp2_with fail
        refine (whole_true _ p1 L F.out).mono ?_
        rintro e w5 ⟨rfl, b5⟩
        have H5 : Hid (S1 W w5 x r g w4.heap.size p1 L v0 s) := H4.out.below b5
        clear b5 H4 k1_0 k1_1 k1_2 k1_3 k1_4 k1_5 k1_6 k1_7 k1_8 k1_9 k1_10 k1_11 k1_12
        generalize w4.heap.size = g1 at H5 ⊢
        obtain ⟨k1_0, k1_1, k1_2, k1_3, k1_4, k1_5, k1_6, k1_7, k1_8, k1_9, k1_10, k1_11, k1_12⟩ := H5.out.k.b1
        go_wp2_with fail
        refine (count_1 _ g v0 p1 L H5.out.r H5.out.k.a1 F.out H5.out.n.2 HZ.out).mono ?_
        rintro e w6 ⟨rfl, r6, o6⟩
        have H6 : Hid (S1 W w6 x r g g1 p1 L (cntV L 1) s) := H5.out.count r6 o6 HG.out
        clear r6 o6 H5 k1_0 k1_1 k1_2 k1_3 k1_4 k1_5 k1_6 k1_7 k1_8 k1_9 k1_10 k1_11 k1_12
        obtain ⟨k1_0, k1_1, k1_2, k1_3, k1_4, k1_5, k1_6, k1_7, k1_8, k1_9, k1_10, k1_11, k1_12⟩ := H6.out.k.b1
        go_wp2_with fail
        refine (first_is _ p1 L H6.out.k.a1 F.out f hf).mono ?_
        rintro e w7 ⟨rfl, b7⟩
        have H7 : Hid (S1 W w7 x r g g1 p1 L (cntV L 1) s) := H6.out.below b7
        clear b7 H6 k1_0 k1_1 k1_2 k1_3 k1_4 k1_5 k1_6 k1_7 k1_8 k1_9 k1_10 k1_11 k1_12
        go_wp2_with fail
        refine (H7.out.k.k.step HT.out.1 HT.out.2 HC.out.1 HC.out.2).mono ?_
        rintro e w8 ⟨rfl, k8, o8⟩
        have H8 : Hid (KI W w8 x r s' ∧ SR w8 g (cntV L 1)) := ⟨k8, H7.out.r.of (o8.block g H7.out.r.lt (by have := HG.out; simp; omega))⟩
        clear k8 o8 H7
        rcases chosenR_cases (wakeR s) with h0 | ⟨j, hj12, hj⟩
        · obtain rfl : f = -1 := by omega
          have HV : Hid ((∃ s v, SS W w8 x r g v s) ∧ ∀ k, k < 12 → (w8.cell? ⟨g, k, none⟩ = some (.int .i64 0) ∨ w8.cell? ⟨g, k, none⟩ = some (.int .i64 1))) := by
            have z : ∀ k, cntV L 1 k = 0 := fun k => by
              unfold cntV
              cases hw : wantL L k
              · rfl
              · rw [EW.out] at hw
                obtain ⟨i, hi, _⟩ := soon_next HI.out.k.g k hw
                omega
            exact ⟨⟨s', cntV L 1, H8.out.1, H8.out.2, ⟨fun k _ => .inl (z k)⟩⟩, fun k hk => .inl (by have := H8.out.2.cell k hk; rw [z k] at this; exact this)⟩
          clear H8
          go_wp2_with fail
          go_loopw [16] (fun kv wq => ∃ k : Nat, k ≤ 12 ∧ kv = .int .i64 k ∧ wq = w8) (fun kv _ => 12 - (intOf kv).toNat)
          case atStart => exact ⟨0, by decide, rfl, rfl⟩
          case round =>
            obtain ⟨k, hk, rfl, rfl⟩ := hrel
            by_cases hlt2 : k < 12
            · have hlt2' : (k : Int) < 12 := by omega
              rcases HV.out.2 k hlt2 with ⟨ck⟩ | ⟨ck⟩
              · go_wp2_with fail
                go_roundw
                case rel => exact ⟨k + 1, by omega, by go_num, by simp⟩
                case measure => simp [intOf]; omega
              · go_wp2_with fail
                go_roundw
                case rel => exact ⟨k + 1, by omega, by go_num, by simp⟩
                case measure => simp [intOf]; omega
            · obtain rfl : k = 12 := by omega
              have HX : Hid (∃ s v, SS W _ x r g v s) := HV.out.1
              go_wp2_with fail
              go_roundw
              case rel => exact ⟨i + 1, by omega, by go_num, HX⟩
              case measure => simp [intOf]; omega
        · obtain rfl : f = j := by omega
          have hj' : (j : Int) < 12 := by omega
          have fz := fun q => H8.out.2.fz q
          have cj := H8.out.2.cell j hj12
          have HV : Hid ((∃ s v, SS W (w8.setCell ⟨g, j, none⟩ (.int .i64 0)) x r g v s) ∧ ∀ k, k < 12 → ((w8.setCell ⟨g, j, none⟩ (.int .i64 0)).cell? ⟨g, k, none⟩ = some (.int .i64 0) ∨ (w8.setCell ⟨g, j, none⟩ (.int .i64 0)).cell? ⟨g, k, none⟩ = some (.int .i64 1))) := by
            have R : SR (w8.setCell ⟨g, j, none⟩ (.int .i64 0)) g (fun k => if k = j then 0 else cntV L 1 k) := H8.out.2.put j 0 fun _ _ => rfl
            have Z : ∀ k, k < 12 → (if k = j then 0 else cntV L 1 k) = 0 ∨ (if k = j then 0 else cntV L 1 k) = 1 ∧ clB s' k = true := fun k _ => by
              by_cases e : k = j
              · exact .inl (by rw [if_pos e])
              · rw [if_neg e]
                unfold cntV
                cases hw : wantL L k
                · exact .inl rfl
                · rw [EW.out] at hw
                  obtain ⟨i, hi, h2⟩ := soon_next HI.out.k.g k hw
                  obtain rfl : i = j := by omega
                  rw [← HSP.out.int (aw_chosen HI.out.k.g i hj) i hj] at h2
                  exact .inr ⟨rfl, h2⟩
            refine ⟨⟨s', _, H8.out.1.far (((Offs.refl [g] w8)).put (by simp) _) HG.out.1 HG.out.2.1 HG.out.2.2, R, ⟨Z⟩⟩, fun k hk => ?_⟩
            have c := R.cell k hk
            rcases Z k hk with z | ⟨z, _⟩
            · exact .inl (by rw [c, z])
            · exact .inr (by rw [c, z])
          clear H8
          go_wp2_with fail
          go_loopw [16] (fun kv wq => ∃ k : Nat, k ≤ 12 ∧ kv = .int .i64 k ∧ wq = (w8.setCell ⟨g, j, none⟩ (.int .i64 0))) (fun kv _ => 12 - (intOf kv).toNat)
          case atStart => exact ⟨0, by decide, rfl, rfl⟩
          case round =>
            obtain ⟨k, hk, rfl, rfl⟩ := hrel
            by_cases hlt2 : k < 12
            · have hlt2' : (k : Int) < 12 := by omega
              rcases HV.out.2 k hlt2 with ⟨ck⟩ | ⟨ck⟩
              · go_wp2_with fail
                go_roundw
                case rel => exact ⟨k + 1, by omega, by go_num, by simp⟩
                case measure => simp [intOf]; omega
              · go_wp2_with fail
                go_roundw
                case rel => exact ⟨k + 1, by omega, by go_num, by simp⟩
                case measure => simp [intOf]; omega
            · obtain rfl : k = 12 := by omega
              have HX : Hid (∃ s v, SS W _ x r g v s) := HV.out.1
              go_wp2_with fail
              go_roundw
              case rel => exact ⟨i + 1, by omega, by go_num, HX⟩
              case measure => simp [intOf]; omega
      · have hk' : (k != 1) = true := by simpa using hk
        have HL : Hid (Calls Tryd.prog 6 #[.pointer (some ⟨x, 0, none⟩), .agg #[.int .i64 k, .int .i64 a, .int .i64 b, .int .u32 v]] (wr.alloc (.cells #[.int .i64 k, .int .i64 a, .int .i64 b, .int .u32 v] 27)) fun e W' => e = .returned (.tuple #[]) ∧ ∃ s', KI W W' x r s' ∧ Core s s' ∧ Offs [x, r] (wr.alloc (.cells #[.int .i64 k, .int .i64 a, .int .i64 b, .int .u32 v] 27)) W') := (I.k.new _).call k a b v hv
        clear I hk hv
        go_wp2_with fail
        refine HL.out.mono ?_
        rintro e w3 ⟨rfl, s3, I3, co3, o3⟩
        obtain ⟨L, hL⟩ : ∃ L, lookC (cOf s3) = L := ⟨_, rfl⟩
        have F : Hid (LFull L) := by unfold Hid; rw [← hL]; exact I3.full
        have H3 : Hid (KI W w3 x r s3 ∧ SR w3 g v0) := ⟨I3, (HI.out.r.of ((Offs.of_below ((Below.refl wr.heap.size wr).alloc (Nat.le_refl _) _) : Offs [] wr _).block g HI.out.r.lt (by simp))).of (o3.block g (by have := HI.out.r.lt; simp; omega) (by have := HG.out; simp; omega))⟩
        have HZ : Hid (∀ k, k < 12 → wantL L k = true → v0 k = 0) := fun k hk h => by
          rw [← hL, want_en I3.g] at h
          have := en_cl I3.g k h
          rw [cl_core co3] at this
          rcases HI.out.i.z k hk with h | ⟨_, h⟩
          · exact h
          · rw [this] at h; cases h
        have HL3 : Hid (lookC (cOf s3) = L) := hL
        clear I3 co3 o3 HL hL
        go_wp2_with fail
        refine (H3.out.1.look L HL3.out).mono ?_
        rintro e w4 ⟨p1, rfl, st4, ap4, k4, b4⟩
        have H4 : Hid (S1 W (w4.alloc (.cells #[.slice (some ⟨p1.r, 0, none⟩) L.regs.length p1.cr, .int .u32 L.pc, .int .i64 L.mode, .bool L.asleep, .slice (some ⟨p1.c, 0, none⟩) L.csrs.length p1.cc, .string L.ram, .slice (some ⟨p1.k, 0, none⟩) L.clock.length p1.ck, .slice (some ⟨p1.p, 0, none⟩) L.prio.length p1.cp, .int .u32 L.pend, .int .u32 L.served, .int .u32 L.level, .slice (some ⟨p1.e, 0, none⟩) L.enable.length p1.ce, .slice (some ⟨p1.l, 0, none⟩) L.limit.length p1.cl] 31)) x r g w4.heap.size p1 L v0 s3) := S1.new H3.out.2 st4 ap4 k4 b4
        clear st4 ap4 k4 b4 H3
        obtain ⟨k1_0, k1_1, k1_2, k1_3, k1_4, k1_5, k1_6, k1_7, k1_8, k1_9, k1_10, k1_11, k1_12⟩ := H4.out.k.b1
        go_wp2_with fail
        refine (whole_true _ p1 L F.out).mono ?_
        rintro e w5 ⟨rfl, b5⟩
        have H5 : Hid (S1 W w5 x r g w4.heap.size p1 L v0 s3) := H4.out.below b5
        clear b5 H4 k1_0 k1_1 k1_2 k1_3 k1_4 k1_5 k1_6 k1_7 k1_8 k1_9 k1_10 k1_11 k1_12
        generalize w4.heap.size = g1 at H5 ⊢
        obtain ⟨k1_0, k1_1, k1_2, k1_3, k1_4, k1_5, k1_6, k1_7, k1_8, k1_9, k1_10, k1_11, k1_12⟩ := H5.out.k.b1
        go_wp2_with fail
        refine (count_0 _ g v0 p1 L H5.out.r H5.out.k.a1 F.out H5.out.n.2 HZ.out).mono ?_
        rintro e w6 ⟨rfl, r6, o6⟩
        have H6 : Hid (S1 W w6 x r g g1 p1 L (cntV L 0) s3) := H5.out.count r6 o6 HG.out
        clear r6 o6 H5 k1_0 k1_1 k1_2 k1_3 k1_4 k1_5 k1_6 k1_7 k1_8 k1_9 k1_10 k1_11 k1_12
        have HX : Hid (∃ s v, SS W w6 x r g v s) := ⟨s3, cntV L 0, H6.out.k.k, H6.out.r, ⟨fun k _ => .inl (by unfold cntV; split <;> rfl)⟩⟩
        go_wp2_with fail
        go_roundw
        case rel => exact ⟨i + 1, by omega, by go_num, HX⟩
        case measure => simp [intOf]; omega
    · have hlt' : ¬ ((i : Int) < N) := by omega
      obtain ⟨s, v0, I⟩ := hI.out
      have HB := I.k.bel
      clear I hI
      go_wp2
      go_ret
      exact ⟨rfl, HB⟩
set_option maxHeartbeats 1000000 in
set_option maxRecDepth 100000 in
theorem soon_far (W : World) (size : Int) (img : ByteArray) (a : Option Addr) (N cap : Nat) (h : 1073741824 < N) :
    Calls Tryd.prog 4 #[.int .i64 size, .string img, .slice a N cap] W fun e W' => e = .returned (.bool true) ∧ Below W.heap.size W W' := by
  have HM := kmade_any W size img
  have h' : (1073741824 : Int) < N := by omega
  clear h
  go_enter Tryd.func4, Tryd.ntmps4
  go_wp2_with fail
  refine HM.mono ?_
  rintro e w0 ⟨x, rfl, r, n, im, K⟩
  have HK : Hid (KI W w0 x r (newR n im)) := KI.of_new K
  clear HM K
  have hmk := make12
  have HB := HK.out.bel
  clear HK
  go_wp2
  go_ret
  exact ⟨rfl, HB⟩
set_option maxHeartbeats 1000000 in
set_option maxRecDepth 100000 in
theorem soon_nil (W : World) (size : Int) (img : ByteArray) (a : Option Addr) (cap : Nat) :
    Calls Tryd.prog 4 #[.int .i64 size, .string img, .slice a 0 cap] W fun e W' => e = .returned (.bool true) ∧ Below W.heap.size W W' := by
  have HM := kmade_any W size img
  go_enter Tryd.func4, Tryd.ntmps4
  go_wp2_with fail
  refine HM.mono ?_
  rintro e w0 ⟨x, rfl, r, n, im, K⟩
  have HK : Hid (KI W w0 x r (newR n im)) := KI.of_new K
  clear HM K
  have hmk := make12
  have HP : Hid (∃ s v, SS W (w0.alloc (.cells (madeCells #[Value.int .i64 0] 12) 3)) x r w0.heap.size v s) := by
    have bb := (Below.refl w0.heap.size w0).alloc (Nat.le_refl _) (.cells (madeCells #[Value.int .i64 0] 12) 3)
    refine ⟨_, fun _ => 0, HK.out.below bb, ⟨_, heap_alloc_new w0 _, size_madeCells _ _, fun k hk => ?_⟩, ⟨fun _ _ => .inl rfl⟩⟩
    exact made12 k hk
  have HG : Hid (x ≠ w0.heap.size ∧ r ≠ w0.heap.size ∧ W.heap.size ≤ w0.heap.size) := by
    have := HK.out.c.lt
    exact ⟨by omega, by omega, HK.out.bel.size⟩
  clear HK
  go_wp2_with fail
  clear HG
  go_loopw [9] (fun iv wr => iv = .int .i64 0 ∧ Hid (Below W.heap.size W wr)) (fun _ _ => 0)
  case atStart =>
    obtain ⟨s, v, I⟩ := HP.out
    exact ⟨rfl, I.k.bel⟩
  case round =>
    obtain ⟨rfl, hI⟩ := hrel
    clear HP
    go_wp2
    go_ret
    exact ⟨rfl, hI.out⟩
theorem soon_any (W : World) (T : D.Tabs W) (T9 : T19 W) (size : Int) (img : ByteArray) (v : Value) (h : Scr W v) : Calls Tryd.prog 4 #[.int .i64 size, .string img, v] W fun e W' => e = .returned (.bool true) ∧ Below W.heap.size W W' := by
  rcases h with ⟨a, cap, rfl⟩ | ⟨sb, so, N, cap, hm, h, rfl⟩
  · exact soon_nil W size img a cap
  · by_cases hn : N ≤ 1073741824
    · exact soon_rows W T T9 size img sb so N cap hn h
    · exact soon_far W size img _ N cap (by omega)
end Go.Proofs.YteiideeechnekabDoor
