/-
  hartkeep.Claims: the walk.
-/
import Derived.Test.YteiideeechnekaaClaimsBase
import Derived.Test.YteiideeechnekaaClaimsPure
namespace Go.Proofs.Yteiideeechnekaa
open Go.RowKit

set_option maxHeartbeats 8000000 in
set_option maxRecDepth 100000 in
theorem claims_row (W : World) (sb so N cap : Nat) (hm : N ≤ 1073741824) (h : ∀ i, i < N → ∃ (k a b : Int) (v : Nat), v < 4294967296 ∧ W.cell? ⟨sb, so + i * 4, none⟩ = some (.int .i64 k) ∧ W.cell? ⟨sb, so + i * 4 + 1, none⟩ = some (.int .i64 a) ∧ W.cell? ⟨sb, so + i * 4 + 2, none⟩ = some (.int .i64 b) ∧ W.cell? ⟨sb, so + i * 4 + 3, none⟩ = some (.int .u32 v)) :
    Calls Try.prog 6 #[.slice (some ⟨sb, so, none⟩) N cap] W fun e W' => e = .returned (.bool true) ∧ Below W.heap.size W W' := by
  have HS : Hid (∀ i, i < N → ∃ (k a b : Int) (v : Nat), v < 4294967296 ∧ W.cell? ⟨sb, so + i * 4, none⟩ = some (.int .i64 k) ∧ W.cell? ⟨sb, so + i * 4 + 1, none⟩ = some (.int .i64 a) ∧ W.cell? ⟨sb, so + i * 4 + 2, none⟩ = some (.int .i64 b) ∧ W.cell? ⟨sb, so + i * 4 + 3, none⟩ = some (.int .u32 v)) := h
  have HN := new_any W 4 ⟨#[]⟩ (by decide) (by decide) (by decide) (by decide)
  have hm' : ¬ (1073741824 < (N : Int)) := by omega
  clear h
  go_enter Try.func6, Try.ntmps6
  go_wp2_with fail
  refine HN.mono ?_
  rintro e w0 ⟨x, rfl, ⟨r, hc, hne, hx, hr⟩, hb⟩
  rw [newS_c] at hc
  have HP : Hid (∃ s, CInv W w0 x r s) := ⟨newS, hc, newS_d, newS_e, rfl, rfl, hne, hx, hr, hb⟩
  clear hc hne hx hr hb HN
  go_wp2_with fail
  go_loopw [5] (fun iv wr => ∃ i : Nat, i ≤ N ∧ iv = .int .i64 i ∧ Hid (∃ s, CInv W wr x r s)) (fun iv _ => N - (intOf iv).toNat)
  case atStart => exact ⟨0, Nat.zero_le _, rfl, HP⟩
  case round =>
    obtain ⟨i, hi, rfl, hI⟩ := hrel
    clear HP
    by_cases hlt : i < N
    · have hlt' : (i : Int) < N := by omega
      obtain ⟨k, a, b, v, hv, k0, k1, k2, k3⟩ := HS.out i hlt
      obtain ⟨s, I⟩ := hI.out
      have sl : sb < W.heap.size := World.block_lt_of_cell? W _ k0
      have bc := fun j => Below.cell I.bel (p := ⟨sb, j, none⟩) sl
      have c0 := (bc _).trans k0
      have c1 := (bc _).trans k1
      have c2 := (bc _).trans k2
      have c3 := (bc _).trans k3
      clear bc k0 k1 k2 k3 sl
      have HI : Hid (CInv W wr x r s) := I
      have HV : Hid (v < 4294967296) := hv
      obtain ⟨cc, hcc⟩ : ∃ cc : Nat, a % 2 = cc := ⟨(a % 2).toNat, by omega⟩
      have hA : bits .and .i64 a 1 = (cc : Int) := (i64_mask a 1 1 (by decide) (by decide)).trans hcc
      have HC : Hid (cc < 2) := by unfold Hid; omega
      obtain ⟨L, hL⟩ : ∃ L, lookC (cOf s) = L := ⟨_, rfl⟩
      have LKK : Hid (Lk L s) := by unfold Hid; rw [← hL]; exact lk_look I.c I.d
      have HL : Hid (∀ w, CodeAt w x r (cOf s) → Calls Try.prog 9 #[.pointer (some ⟨x, 0, none⟩)] w fun e W'' => ∃ p : Pl, e = .returned (.agg #[.slice (some ⟨p.r, 0, none⟩) L.regs.length p.cr, .int .u32 L.pc, .int .i64 L.mode, .bool L.asleep, .slice (some ⟨p.c, 0, none⟩) L.csrs.length p.cc, .string L.ram, .slice (some ⟨p.k, 0, none⟩) L.clock.length p.ck, .slice (some ⟨p.p, 0, none⟩) L.prio.length p.cp, .int .u32 L.pend, .int .u32 L.served, .int .u32 L.level, .slice (some ⟨p.e, 0, none⟩) L.enable.length p.ce, .slice (some ⟨p.l, 0, none⟩) L.limit.length p.cl]) ∧ StAt W'' p L ∧ p.Apart w.heap.size ∧ Below w.heap.size w W'') := fun w h => by have := look_any w x r _ h; rw [hL] at this; exact this
      clear I hI hL hcc hv
      go_wp2_with fail
      refine (HL.out _ (HI.out.below ((Below.refl wr.heap.size wr).alloc (Nat.le_refl _) (.cells #[.int .i64 k, .int .i64 a, .int .i64 b, .int .u32 v] 46))).c).mono ?_
      rintro e w2 ⟨p, rfl, st, ap, b2⟩
      have FR : Hid (Fr W (w2.alloc (.cells #[.slice (some ⟨p.r, 0, none⟩) L.regs.length p.cr, .int .u32 L.pc, .int .i64 L.mode, .bool L.asleep, .slice (some ⟨p.c, 0, none⟩) L.csrs.length p.cc, .string L.ram, .slice (some ⟨p.k, 0, none⟩) L.clock.length p.ck, .slice (some ⟨p.p, 0, none⟩) L.prio.length p.cp, .int .u32 L.pend, .int .u32 L.served, .int .u32 L.level, .slice (some ⟨p.e, 0, none⟩) L.enable.length p.ce, .slice (some ⟨p.l, 0, none⟩) L.limit.length p.cl] 31)) x r wr.heap.size w2.heap.size p L s k a b v) := by
        have bb := (Below.refl w2.heap.size w2).alloc (Nat.le_refl _) (.cells #[.slice (some ⟨p.r, 0, none⟩) L.regs.length p.cr, .int .u32 L.pc, .int .i64 L.mode, .bool L.asleep, .slice (some ⟨p.c, 0, none⟩) L.csrs.length p.cc, .string L.ram, .slice (some ⟨p.k, 0, none⟩) L.clock.length p.ck, .slice (some ⟨p.p, 0, none⟩) L.prio.length p.cp, .int .u32 L.pend, .int .u32 L.served, .int .u32 L.level, .slice (some ⟨p.e, 0, none⟩) L.enable.length p.ce, .slice (some ⟨p.l, 0, none⟩) L.limit.length p.cl] 31)
        have e := fun j => cell_of_row (wr.alloc (.cells #[.int .i64 k, .int .i64 a, .int .i64 b, .int .u32 v] 46)) wr.heap.size j _ _ (0, 0) (heap_alloc_new wr _)
        have sz := b2.size
        simp at sz
        have c := fun j => (bb.cell (p := ⟨wr.heap.size, j, none⟩) (by show wr.heap.size < w2.heap.size; omega)).trans (b2.cell (p := ⟨wr.heap.size, j, none⟩) (by simp))
        have ab := ap.b
        simp at ab
        have lx := HI.out.c.lt
        exact ⟨(c 0).trans ((e 0).trans rfl), (c 1).trans ((e 1).trans rfl), (c 2).trans ((e 2).trans rfl), (c 3).trans ((e 3).trans rfl), B13.new w2 p L, st.below bb, ((HI.out.below ((Below.refl wr.heap.size wr).alloc (Nat.le_refl _) (.cells #[.int .i64 k, .int .i64 a, .int .i64 b, .int .u32 v] 46))).below b2).below bb, fun z hz => by omega⟩
      clear st ap b2 c0 c1 c2 c3 HL
      obtain ⟨n0, n1, n2, n3, n4, n5, n6, n7, n8, n9, n10, n11, n12⟩ := FR.out.bA
      go_wp2_with fail
      refine (whole_true _ p L LKK.out.f).mono ?_
      rintro e w3 ⟨rfl, b3⟩
      have F3 : Hid (Fr W w3 x r wr.heap.size w2.heap.size p L s k a b v) := FR.out.below b3
      clear b3 FR n0 n1 n2 n3 n4 n5 n6 n7 n8 n9 n10 n11 n12
      generalize wr.heap.size = go at F3 ⊢
      generalize w2.heap.size = ga at F3 ⊢
      have q8 : w3.cell? ⟨ga, 8, none⟩ = some (.int .u32 (cOf s).pend) := by rw [← LKK.out.pend]; exact F3.out.bA.c8
      have q9 : w3.cell? ⟨ga, 9, none⟩ = some (.int .u32 (cOf s).served) := by rw [← LKK.out.served]; exact F3.out.bA.c9
      have q10 : w3.cell? ⟨ga, 10, none⟩ = some (.int .u32 (cOf s).level) := by rw [← LKK.out.level]; exact F3.out.bA.c10
      have z1 := HI.out.e.and
      have z2 := HI.out.e.level
      go_wp2_with fail
      clear z1 z2 q8 q9 q10
      go_loopw [10, 11, 12] (fun dv _ _ wx => ∃ d q : Nat, d ≤ 2 ∧ dv = .int .i64 d ∧ wx = w3.drewN q) (fun dv _ _ _ => 2 - (intOf dv).toNat)
      case atStart => exact ⟨0, 0, by decide, rfl, rfl⟩
      case round =>
        obtain ⟨d, q, hd, rfl, rfl⟩ := hrel
        by_cases hd2 : d < 2
        · have hd2' : (d : Int) < 2 := by omega
          go_wp2_with fail
          go_loopw [11, 12] (fun av jv wx => ∃ j q : Nat, 1 ≤ j ∧ j ≤ 8 ∧ jv = .int .i64 j ∧ av = .bool (askT (cOf s).pend (enAt s d) (liAt s d) (cOf s).prio (j - 1)) ∧ wx = w3.drewN q) (fun _ jv _ => 8 - (intOf jv).toNat)
          case atStart => exact ⟨1, q, Nat.le_refl _, by decide, rfl, rfl, rfl⟩
          case round =>
            obtain ⟨j, q, hj1, hj8, rfl, rfl, rfl⟩ := hrel
            by_cases hj : j < 8
            · have hj' : (j : Int) < 8 := by omega
              have s1 : (w3.drewN q).drew.cell? ⟨ga, 8, none⟩ = some (.int .u32 (cOf s).pend) := by have := F3.out.bA.c8; rw [LKK.out.pend] at this; exact this
              have s2 : (w3.drewN q).drew.cell? ⟨ga, 11, none⟩ = some (.slice (some ⟨p.e, 0, none⟩) 2 p.ce) := by have := F3.out.bA.c11; rw [LKK.out.f.enable] at this; exact this
              have s3 : (w3.drewN q).drew.cell? ⟨ga, 7, none⟩ = some (.slice (some ⟨p.p, 0, none⟩) 8 p.cp) := by have := F3.out.bA.c7; rw [LKK.out.f.prio] at this; exact this
              have s4 : (w3.drewN q).drew.cell? ⟨ga, 12, none⟩ = some (.slice (some ⟨p.l, 0, none⟩) 2 p.cl) := by have := F3.out.bA.c12; rw [LKK.out.f.limit] at this; exact this
              have s5 : (w3.drewN q).drew.cell? ⟨p.e, d, none⟩ = some (.int .u32 (enAt s d)) := (F3.out.st.enable.cell d (by rw [LKK.out.f.enable]; omega)).trans (by rw [LKK.out.enable, List.getD_eq_getElem?_getD]; rfl)
              have s6 : (w3.drewN q).drew.cell? ⟨p.p, j, none⟩ = some (.int .u32 ((cOf s).prio[j]?.getD 0)) := (F3.out.st.prio.cell j (by rw [LKK.out.f.prio]; omega)).trans (by rw [LKK.out.prio, List.getD_eq_getElem?_getD]; rfl)
              have s7 : (w3.drewN q).drew.cell? ⟨p.l, d, none⟩ = some (.int .u32 (liAt s d)) := (F3.out.st.limit.cell d (by rw [LKK.out.f.limit]; omega)).trans (by rw [LKK.out.limit, List.getD_eq_getElem?_getD]; rfl)
              have hj8 : (j : Int) < (8 : Nat) := by omega
              have hj32 : (j : Int) < 32 := by omega
              have hd9 : (d : Int) < (2 : Nat) := by omega
              have HT : Hid (askT (cOf s).pend (enAt s d) (liAt s d) (cOf s).prio j = (askT (cOf s).pend (enAt s d) (liAt s d) (cOf s).prio (j - 1) || (isB (cOf s).pend j && isB (enAt s d) j && decide (liAt s d < (cOf s).prio[j]?.getD 0)))) := by
                obtain ⟨n, rfl⟩ : ∃ n, j = n + 1 := ⟨j - 1, by omega⟩
                rfl
              generalize askT (cOf s).pend (enAt s d) (liAt s d) (cOf s).prio (j - 1) = tv at HT ⊢
              have HT' : Hid (∀ z : Bool, askT (cOf s).pend (enAt s d) (liAt s d) (cOf s).prio j = z → askT (cOf s).pend (enAt s d) (liAt s d) (cOf s).prio (j + 1 - 1) = z) := fun z h => h
              cases tv
              · cases hp : isB (cOf s).pend j
                · have HV2 : Hid (askT (cOf s).pend (enAt s d) (liAt s d) (cOf s).prio j = false) := by rw [HT.out]; rw [hp]; rfl
                  go_wp2_with fail
                  generalize hw1 : w3.drewN q = w5 at s1 s2 s3 s4 s5 s6 s7 ⊢
                  have hw0 : Hid (w3.drewN q = w5) := hw1
                  clear hw1
                  have hS : w5.drew.cell? ⟨ga, 8, none⟩ = some (.int .u32 (cOf s).pend) ∧ w5.drew.cell? ⟨ga, 11, none⟩ = some (.slice (some ⟨p.e, 0, none⟩) 2 p.ce) ∧ w5.drew.cell? ⟨ga, 7, none⟩ = some (.slice (some ⟨p.p, 0, none⟩) 8 p.cp) ∧ w5.drew.cell? ⟨ga, 12, none⟩ = some (.slice (some ⟨p.l, 0, none⟩) 2 p.cl) ∧ w5.drew.cell? ⟨p.e, d, none⟩ = some (.int .u32 (enAt s d)) ∧ w5.drew.cell? ⟨p.p, j, none⟩ = some (.int .u32 ((cOf s).prio[j]?.getD 0)) ∧ w5.drew.cell? ⟨p.l, d, none⟩ = some (.int .u32 (liAt s d)) := ⟨s1, s2, s3, s4, s5, s6, s7⟩
                  refine wp_region_held (S := fun w' => w'.cell? ⟨ga, 8, none⟩ = some (.int .u32 (cOf s).pend) ∧ w'.cell? ⟨ga, 11, none⟩ = some (.slice (some ⟨p.e, 0, none⟩) 2 p.ce) ∧ w'.cell? ⟨ga, 7, none⟩ = some (.slice (some ⟨p.p, 0, none⟩) 8 p.cp) ∧ w'.cell? ⟨ga, 12, none⟩ = some (.slice (some ⟨p.l, 0, none⟩) 2 p.cl) ∧ w'.cell? ⟨p.e, d, none⟩ = some (.int .u32 (enAt s d)) ∧ w'.cell? ⟨p.p, j, none⟩ = some (.int .u32 ((cOf s).prio[j]?.getD 0)) ∧ w'.cell? ⟨p.l, d, none⟩ = some (.int .u32 (liAt s d))) (by kernel_rfl) ?_
                  change wpAnyH _ _ _ _ _ _ _ _ (w5.drew)
                  refine tK 0 (.bool false) rfl (by kernel_rfl) (fun _ _ _ h => h) (fun _ => by kernel_rfl) hS ?_
                  refine tK 1 (.bool false) rfl (by kernel_rfl) (fun _ _ _ h => h) (fun _ => by kernel_rfl) hS ?_
                  refine tK 2 (.pointer (some ⟨ga, 8, none⟩)) rfl (by kernel_rfl) (fun _ _ _ h => h) (fun _ => by kernel_rfl) hS ?_
                  refine tU 3 rfl rfl (by kernel_rfl) (fun _ _ _ h => h) (by kernel_rfl) (fun _ h => h.1) hS ?_
                  refine tK 4 (.int .i64 j) rfl (by kernel_rfl) (fun _ _ _ h => h) (fun _ => by kernel_rfl) hS ?_
                  refine tF ⟨#[Value.slice (some { block := sb, off := so }) N cap, undef, u2, Value.pointer (some { block := x, off := 0 }), Value.int IntKind.i64 0, Value.int IntKind.i64 (i : Int), Value.pointer (some { block := go, off := 0 }), Value.int IntKind.i64 (cc : Int), Value.pointer (some { block := ga, off := 0 }), Value.bool true, Value.int IntKind.i64 (d : Int), .bool false, Value.int IntKind.i64 (j : Int), u13, u14, u15, u16, u17, u18, u19, u20, Value.tuple #[Value.pointer (some { block := x, off := 0 }), Value.int IntKind.i64 0], Value.tuple #[Value.pointer (some { block := x, off := 0 }), Value.int IntKind.i64 0], Value.pointer (some { block := x, off := 0 }), Value.int IntKind.i64 0, Value.pointer (some { block := x, off := 0 }), Value.bool false, Value.bool false, Value.slice (some { block := sb, off := so }) N cap, Value.int IntKind.i64 (N : Int), Value.bool (decide (1073741824 < (N : Int))), Value.bool (decide (1073741824 < (N : Int))), undef, undef, Value.int IntKind.i64 (i : Int), Value.slice (some { block := sb, off := so }) N cap, Value.int IntKind.i64 (N : Int), Value.bool true, u38, u39, Value.slice (some { block := sb, off := so }) N cap, Value.int IntKind.i64 (i : Int), Value.pointer (some { block := sb, off := so + i * 4 }), Value.agg #[Value.int IntKind.i64 k, Value.int IntKind.i64 a, Value.int IntKind.i64 b, Value.int IntKind.u32 (v : Int)], Value.pointer (some { block := go, off := 1 }), Value.int IntKind.i64 a, Value.int IntKind.i64 (cc : Int), Value.pointer (some { block := x, off := 0 }), Value.agg #[Value.slice (some { block := p.r, off := 0 }) L.regs.length p.cr, Value.int IntKind.u32 L.pc, Value.int IntKind.i64 L.mode, Value.bool L.asleep, Value.slice (some { block := p.c, off := 0 }) L.csrs.length p.cc, Value.string L.ram, Value.slice (some { block := p.k, off := 0 }) L.clock.length p.ck, Value.slice (some { block := p.p, off := 0 }) L.prio.length p.cp, Value.int IntKind.u32 L.pend, Value.int IntKind.u32 L.served, Value.int IntKind.u32 L.level, Value.slice (some { block := p.e, off := 0 }) L.enable.length p.ce, Value.slice (some { block := p.l, off := 0 }) L.limit.length p.cl], Value.agg #[Value.slice (some { block := p.r, off := 0 }) L.regs.length p.cr, Value.int IntKind.u32 L.pc, Value.int IntKind.i64 L.mode, Value.bool L.asleep, Value.slice (some { block := p.c, off := 0 }) L.csrs.length p.cc, Value.string L.ram, Value.slice (some { block := p.k, off := 0 }) L.clock.length p.ck, Value.slice (some { block := p.p, off := 0 }) L.prio.length p.cp, Value.int IntKind.u32 L.pend, Value.int IntKind.u32 L.served, Value.int IntKind.u32 L.level, Value.slice (some { block := p.e, off := 0 }) L.enable.length p.ce, Value.slice (some { block := p.l, off := 0 }) L.limit.length p.cl], Value.bool true, Value.bool true, Value.bool false, Value.bool false, Value.pointer (some { block := ga, off := 8 }), Value.int IntKind.u32 (cOf s).pend, Value.pointer (some { block := ga, off := 9 }), Value.int IntKind.u32 (cOf s).served, Value.int IntKind.u32 0, Value.bool false, Value.bool false, Value.bool false, Value.pointer (some { block := ga, off := 10 }), Value.int IntKind.u32 (cOf s).level, Value.pointer (some { block := ga, off := 9 }), Value.int IntKind.u32 (cOf s).served, Value.int IntKind.u32 (bits BinOp.andNot IntKind.u32 (cOf s).level (cOf s).served), Value.pointer (some { block := ga, off := 8 }), Value.int IntKind.u32 (cOf s).pend, Value.int IntKind.u32 0, Value.bool false, Value.bool false, Value.int IntKind.i64 (d : Int), Value.bool true, u74, u75, Value.int IntKind.i64 (j : Int), Value.bool (decide ((j : Int) ≤ 7)), u78, u79, .bool false, .bool false, .pointer (some ⟨ga, 8, none⟩), .int .u32 (cOf s).pend, .int .i64 j, u85, u86, u87, u88, u89, u90, u91, u92, u93, u94, u95, u96, u97, u98, u99, u100, u101, u102, u103, u104, u105, u106, u107, u108, u109, u110, u111, u112, u113, u114, u115, u116, u117, u118, u119, u120, u121, u122, u123, u124, u125, u126, u127, u128, u129, u130, u131, u132, u133, u134, u135, u136, u137, u138, u139, u140, u141, u142, u143, u144, u145, u146, u147, u148, u149, u150, u151, u152, u153, u154, u155, u156, u157, u158, u159, u160, u161, u162, u163, u164, u165, u166, u167, u168, u169, u170, u171, u172, u173, u174, u175, u176, u177, u178, u179, u180, u181, u182, u183, u184, u185, u186, u187, u188, u189, u190, u191, u192, u193, u194, u195, u196, u197, u198, u199, u200, u201, u202, u203, u204, u205, u206, u207, u208, u209, u210, u211, u212, u213, u214, u215, u216, u217, u218, u219, u220, u221, u222, u223, u224, u225, u226, u227, u228, u229, u230, u231, u232, u233, u234, u235, u236], []⟩ (by kernel_rfl) ?_
                  refine tA 5 (by kernel_rfl) (wpOp_step rfl fun K hK => ?_)
                  go_simp
                  refine (kset_is _ (cOf s).pend j hj32 false hp).mono ?_
                  rintro e w' ⟨rfl, hw⟩
                  rw [hw]
                  clear hw w'
                  refine hK _ _ ⟨hS, ?_⟩
                  clear hK K
                  refine tK 6 (.bool false) rfl (by kernel_rfl) (fun _ _ _ h => h) (fun _ => by kernel_rfl) hS ?_
                  refine tN 7 rfl (by kernel_rfl) (fun _ _ _ h => h) hS ?_
                  refine tN 8 rfl (by kernel_rfl) (fun _ _ _ h => h) hS ?_
                  refine tN 9 rfl (by kernel_rfl) (fun _ _ _ h => h) hS ?_
                  refine tN 10 rfl (by kernel_rfl) (fun _ _ _ h => h) hS ?_
                  refine tN 11 rfl (by kernel_rfl) (fun _ _ _ h => h) hS ?_
                  refine tN 12 rfl (by kernel_rfl) (fun _ _ _ h => h) hS ?_
                  refine tN 13 rfl (by kernel_rfl) (fun _ _ _ h => h) hS ?_
                  refine tK 14 (.bool false) rfl (by kernel_rfl) (fun _ _ _ h => h) (fun _ => by kernel_rfl) hS ?_
                  refine tK 15 (.bool false) rfl (by kernel_rfl) (fun _ _ _ h => h) (fun _ => by kernel_rfl) hS ?_
                  refine tN 16 rfl (by kernel_rfl) (fun _ _ _ h => h) hS ?_
                  refine tN 17 rfl (by kernel_rfl) (fun _ _ _ h => h) hS ?_
                  refine tN 18 rfl (by kernel_rfl) (fun _ _ _ h => h) hS ?_
                  refine tN 19 rfl (by kernel_rfl) (fun _ _ _ h => h) hS ?_
                  refine tN 20 rfl (by kernel_rfl) (fun _ _ _ h => h) hS ?_
                  refine tN 21 rfl (by kernel_rfl) (fun _ _ _ h => h) hS ?_
                  refine tN 22 rfl (by kernel_rfl) (fun _ _ _ h => h) hS ?_
                  refine tN 23 rfl (by kernel_rfl) (fun _ _ _ h => h) hS ?_
                  refine tN 24 rfl (by kernel_rfl) (fun _ _ _ h => h) hS ?_
                  refine tN 25 rfl (by kernel_rfl) (fun _ _ _ h => h) hS ?_
                  refine tN 26 rfl (by kernel_rfl) (fun _ _ _ h => h) hS ?_
                  refine tK 27 (.bool false) rfl (by kernel_rfl) (fun _ _ _ h => h) (fun _ => by kernel_rfl) hS ?_
                  refine tK 28 (.bool false) rfl (by kernel_rfl) (fun _ _ _ h => h) (fun _ => by kernel_rfl) hS ?_
                  refine tK 29 (.bool false) rfl (by kernel_rfl) (fun _ _ _ h => h) (fun _ => by kernel_rfl) hS ?_
                  refine tZ ⟨#[Value.slice (some { block := sb, off := so }) N cap, undef, u2, Value.pointer (some { block := x, off := 0 }), Value.int IntKind.i64 0, Value.int IntKind.i64 (i : Int), Value.pointer (some { block := go, off := 0 }), Value.int IntKind.i64 (cc : Int), Value.pointer (some { block := ga, off := 0 }), Value.bool true, Value.int IntKind.i64 (d : Int), .bool false, Value.int IntKind.i64 (j : Int), u13, u14, u15, u16, u17, u18, u19, u20, Value.tuple #[Value.pointer (some { block := x, off := 0 }), Value.int IntKind.i64 0], Value.tuple #[Value.pointer (some { block := x, off := 0 }), Value.int IntKind.i64 0], Value.pointer (some { block := x, off := 0 }), Value.int IntKind.i64 0, Value.pointer (some { block := x, off := 0 }), Value.bool false, Value.bool false, Value.slice (some { block := sb, off := so }) N cap, Value.int IntKind.i64 (N : Int), Value.bool (decide (1073741824 < (N : Int))), Value.bool (decide (1073741824 < (N : Int))), undef, undef, Value.int IntKind.i64 (i : Int), Value.slice (some { block := sb, off := so }) N cap, Value.int IntKind.i64 (N : Int), Value.bool true, u38, u39, Value.slice (some { block := sb, off := so }) N cap, Value.int IntKind.i64 (i : Int), Value.pointer (some { block := sb, off := so + i * 4 }), Value.agg #[Value.int IntKind.i64 k, Value.int IntKind.i64 a, Value.int IntKind.i64 b, Value.int IntKind.u32 (v : Int)], Value.pointer (some { block := go, off := 1 }), Value.int IntKind.i64 a, Value.int IntKind.i64 (cc : Int), Value.pointer (some { block := x, off := 0 }), Value.agg #[Value.slice (some { block := p.r, off := 0 }) L.regs.length p.cr, Value.int IntKind.u32 L.pc, Value.int IntKind.i64 L.mode, Value.bool L.asleep, Value.slice (some { block := p.c, off := 0 }) L.csrs.length p.cc, Value.string L.ram, Value.slice (some { block := p.k, off := 0 }) L.clock.length p.ck, Value.slice (some { block := p.p, off := 0 }) L.prio.length p.cp, Value.int IntKind.u32 L.pend, Value.int IntKind.u32 L.served, Value.int IntKind.u32 L.level, Value.slice (some { block := p.e, off := 0 }) L.enable.length p.ce, Value.slice (some { block := p.l, off := 0 }) L.limit.length p.cl], Value.agg #[Value.slice (some { block := p.r, off := 0 }) L.regs.length p.cr, Value.int IntKind.u32 L.pc, Value.int IntKind.i64 L.mode, Value.bool L.asleep, Value.slice (some { block := p.c, off := 0 }) L.csrs.length p.cc, Value.string L.ram, Value.slice (some { block := p.k, off := 0 }) L.clock.length p.ck, Value.slice (some { block := p.p, off := 0 }) L.prio.length p.cp, Value.int IntKind.u32 L.pend, Value.int IntKind.u32 L.served, Value.int IntKind.u32 L.level, Value.slice (some { block := p.e, off := 0 }) L.enable.length p.ce, Value.slice (some { block := p.l, off := 0 }) L.limit.length p.cl], Value.bool true, Value.bool true, Value.bool false, Value.bool false, Value.pointer (some { block := ga, off := 8 }), Value.int IntKind.u32 (cOf s).pend, Value.pointer (some { block := ga, off := 9 }), Value.int IntKind.u32 (cOf s).served, Value.int IntKind.u32 0, Value.bool false, Value.bool false, Value.bool false, Value.pointer (some { block := ga, off := 10 }), Value.int IntKind.u32 (cOf s).level, Value.pointer (some { block := ga, off := 9 }), Value.int IntKind.u32 (cOf s).served, Value.int IntKind.u32 (bits BinOp.andNot IntKind.u32 (cOf s).level (cOf s).served), Value.pointer (some { block := ga, off := 8 }), Value.int IntKind.u32 (cOf s).pend, Value.int IntKind.u32 0, Value.bool false, Value.bool false, Value.int IntKind.i64 (d : Int), Value.bool true, u74, u75, Value.int IntKind.i64 (j : Int), .bool true, u78, u79, .bool false, .bool false, .pointer (some ⟨ga, 8, none⟩), .int .u32 (cOf s).pend, .int .i64 j, .bool false, .bool false, undef, undef, undef, undef, undef, undef, undef, .bool false, .bool false, undef, undef, undef, undef, undef, undef, undef, undef, undef, undef, undef, .bool false, .bool false, u109, u110, u111, u112, u113, u114, u115, u116, u117, u118, u119, u120, u121, u122, u123, u124, u125, u126, u127, u128, u129, u130, u131, u132, u133, u134, u135, u136, u137, u138, u139, u140, u141, u142, u143, u144, u145, u146, u147, u148, u149, u150, u151, u152, u153, u154, u155, u156, u157, u158, u159, u160, u161, u162, u163, u164, u165, u166, u167, u168, u169, u170, u171, u172, u173, u174, u175, u176, u177, u178, u179, u180, u181, u182, u183, u184, u185, u186, u187, u188, u189, u190, u191, u192, u193, u194, u195, u196, u197, u198, u199, u200, u201, u202, u203, u204, u205, u206, u207, u208, u209, u210, u211, u212, u213, u214, u215, u216, u217, u218, u219, u220, u221, u222, u223, u224, u225, u226, u227, u228, u229, u230, u231, u232, u233, u234, u235, u236], []⟩ (by kernel_rfl) (by kernel_rfl) ?_
                  go_wp2_with fail
                  rw [← hw0.out]
                  go_roundw
                  case rel => exact ⟨j + 1, q + 1, by omega, by omega, by go_num, by rw [HT'.out _ HV2.out], drewN_two _ _ 1⟩
                  case measure => simp [intOf]; omega
                · cases he : isB (enAt s d) j
                  · have HV2 : Hid (askT (cOf s).pend (enAt s d) (liAt s d) (cOf s).prio j = false) := by rw [HT.out]; rw [hp, he]; rfl
                    go_wp2_with fail
                    generalize hw1 : w3.drewN q = w5 at s1 s2 s3 s4 s5 s6 s7 ⊢
                    have hw0 : Hid (w3.drewN q = w5) := hw1
                    clear hw1
                    have hS : w5.drew.cell? ⟨ga, 8, none⟩ = some (.int .u32 (cOf s).pend) ∧ w5.drew.cell? ⟨ga, 11, none⟩ = some (.slice (some ⟨p.e, 0, none⟩) 2 p.ce) ∧ w5.drew.cell? ⟨ga, 7, none⟩ = some (.slice (some ⟨p.p, 0, none⟩) 8 p.cp) ∧ w5.drew.cell? ⟨ga, 12, none⟩ = some (.slice (some ⟨p.l, 0, none⟩) 2 p.cl) ∧ w5.drew.cell? ⟨p.e, d, none⟩ = some (.int .u32 (enAt s d)) ∧ w5.drew.cell? ⟨p.p, j, none⟩ = some (.int .u32 ((cOf s).prio[j]?.getD 0)) ∧ w5.drew.cell? ⟨p.l, d, none⟩ = some (.int .u32 (liAt s d)) := ⟨s1, s2, s3, s4, s5, s6, s7⟩
                    refine wp_region_held (S := fun w' => w'.cell? ⟨ga, 8, none⟩ = some (.int .u32 (cOf s).pend) ∧ w'.cell? ⟨ga, 11, none⟩ = some (.slice (some ⟨p.e, 0, none⟩) 2 p.ce) ∧ w'.cell? ⟨ga, 7, none⟩ = some (.slice (some ⟨p.p, 0, none⟩) 8 p.cp) ∧ w'.cell? ⟨ga, 12, none⟩ = some (.slice (some ⟨p.l, 0, none⟩) 2 p.cl) ∧ w'.cell? ⟨p.e, d, none⟩ = some (.int .u32 (enAt s d)) ∧ w'.cell? ⟨p.p, j, none⟩ = some (.int .u32 ((cOf s).prio[j]?.getD 0)) ∧ w'.cell? ⟨p.l, d, none⟩ = some (.int .u32 (liAt s d))) (by kernel_rfl) ?_
                    change wpAnyH _ _ _ _ _ _ _ _ (w5.drew)
                    refine tK 0 (.bool false) rfl (by kernel_rfl) (fun _ _ _ h => h) (fun _ => by kernel_rfl) hS ?_
                    refine tK 1 (.bool false) rfl (by kernel_rfl) (fun _ _ _ h => h) (fun _ => by kernel_rfl) hS ?_
                    refine tK 2 (.pointer (some ⟨ga, 8, none⟩)) rfl (by kernel_rfl) (fun _ _ _ h => h) (fun _ => by kernel_rfl) hS ?_
                    refine tU 3 rfl rfl (by kernel_rfl) (fun _ _ _ h => h) (by kernel_rfl) (fun _ h => h.1) hS ?_
                    refine tK 4 (.int .i64 j) rfl (by kernel_rfl) (fun _ _ _ h => h) (fun _ => by kernel_rfl) hS ?_
                    refine tF ⟨#[Value.slice (some { block := sb, off := so }) N cap, undef, u2, Value.pointer (some { block := x, off := 0 }), Value.int IntKind.i64 0, Value.int IntKind.i64 (i : Int), Value.pointer (some { block := go, off := 0 }), Value.int IntKind.i64 (cc : Int), Value.pointer (some { block := ga, off := 0 }), Value.bool true, Value.int IntKind.i64 (d : Int), .bool false, Value.int IntKind.i64 (j : Int), u13, u14, u15, u16, u17, u18, u19, u20, Value.tuple #[Value.pointer (some { block := x, off := 0 }), Value.int IntKind.i64 0], Value.tuple #[Value.pointer (some { block := x, off := 0 }), Value.int IntKind.i64 0], Value.pointer (some { block := x, off := 0 }), Value.int IntKind.i64 0, Value.pointer (some { block := x, off := 0 }), Value.bool false, Value.bool false, Value.slice (some { block := sb, off := so }) N cap, Value.int IntKind.i64 (N : Int), Value.bool (decide (1073741824 < (N : Int))), Value.bool (decide (1073741824 < (N : Int))), undef, undef, Value.int IntKind.i64 (i : Int), Value.slice (some { block := sb, off := so }) N cap, Value.int IntKind.i64 (N : Int), Value.bool true, u38, u39, Value.slice (some { block := sb, off := so }) N cap, Value.int IntKind.i64 (i : Int), Value.pointer (some { block := sb, off := so + i * 4 }), Value.agg #[Value.int IntKind.i64 k, Value.int IntKind.i64 a, Value.int IntKind.i64 b, Value.int IntKind.u32 (v : Int)], Value.pointer (some { block := go, off := 1 }), Value.int IntKind.i64 a, Value.int IntKind.i64 (cc : Int), Value.pointer (some { block := x, off := 0 }), Value.agg #[Value.slice (some { block := p.r, off := 0 }) L.regs.length p.cr, Value.int IntKind.u32 L.pc, Value.int IntKind.i64 L.mode, Value.bool L.asleep, Value.slice (some { block := p.c, off := 0 }) L.csrs.length p.cc, Value.string L.ram, Value.slice (some { block := p.k, off := 0 }) L.clock.length p.ck, Value.slice (some { block := p.p, off := 0 }) L.prio.length p.cp, Value.int IntKind.u32 L.pend, Value.int IntKind.u32 L.served, Value.int IntKind.u32 L.level, Value.slice (some { block := p.e, off := 0 }) L.enable.length p.ce, Value.slice (some { block := p.l, off := 0 }) L.limit.length p.cl], Value.agg #[Value.slice (some { block := p.r, off := 0 }) L.regs.length p.cr, Value.int IntKind.u32 L.pc, Value.int IntKind.i64 L.mode, Value.bool L.asleep, Value.slice (some { block := p.c, off := 0 }) L.csrs.length p.cc, Value.string L.ram, Value.slice (some { block := p.k, off := 0 }) L.clock.length p.ck, Value.slice (some { block := p.p, off := 0 }) L.prio.length p.cp, Value.int IntKind.u32 L.pend, Value.int IntKind.u32 L.served, Value.int IntKind.u32 L.level, Value.slice (some { block := p.e, off := 0 }) L.enable.length p.ce, Value.slice (some { block := p.l, off := 0 }) L.limit.length p.cl], Value.bool true, Value.bool true, Value.bool false, Value.bool false, Value.pointer (some { block := ga, off := 8 }), Value.int IntKind.u32 (cOf s).pend, Value.pointer (some { block := ga, off := 9 }), Value.int IntKind.u32 (cOf s).served, Value.int IntKind.u32 0, Value.bool false, Value.bool false, Value.bool false, Value.pointer (some { block := ga, off := 10 }), Value.int IntKind.u32 (cOf s).level, Value.pointer (some { block := ga, off := 9 }), Value.int IntKind.u32 (cOf s).served, Value.int IntKind.u32 (bits BinOp.andNot IntKind.u32 (cOf s).level (cOf s).served), Value.pointer (some { block := ga, off := 8 }), Value.int IntKind.u32 (cOf s).pend, Value.int IntKind.u32 0, Value.bool false, Value.bool false, Value.int IntKind.i64 (d : Int), Value.bool true, u74, u75, Value.int IntKind.i64 (j : Int), Value.bool (decide ((j : Int) ≤ 7)), u78, u79, .bool false, .bool false, .pointer (some ⟨ga, 8, none⟩), .int .u32 (cOf s).pend, .int .i64 j, u85, u86, u87, u88, u89, u90, u91, u92, u93, u94, u95, u96, u97, u98, u99, u100, u101, u102, u103, u104, u105, u106, u107, u108, u109, u110, u111, u112, u113, u114, u115, u116, u117, u118, u119, u120, u121, u122, u123, u124, u125, u126, u127, u128, u129, u130, u131, u132, u133, u134, u135, u136, u137, u138, u139, u140, u141, u142, u143, u144, u145, u146, u147, u148, u149, u150, u151, u152, u153, u154, u155, u156, u157, u158, u159, u160, u161, u162, u163, u164, u165, u166, u167, u168, u169, u170, u171, u172, u173, u174, u175, u176, u177, u178, u179, u180, u181, u182, u183, u184, u185, u186, u187, u188, u189, u190, u191, u192, u193, u194, u195, u196, u197, u198, u199, u200, u201, u202, u203, u204, u205, u206, u207, u208, u209, u210, u211, u212, u213, u214, u215, u216, u217, u218, u219, u220, u221, u222, u223, u224, u225, u226, u227, u228, u229, u230, u231, u232, u233, u234, u235, u236], []⟩ (by kernel_rfl) ?_
                    refine tA 5 (by kernel_rfl) (wpOp_step rfl fun K hK => ?_)
                    go_simp
                    refine (kset_is _ (cOf s).pend j hj32 true hp).mono ?_
                    rintro e w' ⟨rfl, hw⟩
                    rw [hw]
                    clear hw w'
                    refine hK _ _ ⟨hS, ?_⟩
                    clear hK K
                    refine tK 6 (.bool true) rfl (by kernel_rfl) (fun _ _ _ h => h) (fun _ => by kernel_rfl) hS ?_
                    refine tK 7 (.pointer (some ⟨ga, 11, none⟩)) rfl (by kernel_rfl) (fun _ _ _ h => h) (fun _ => by kernel_rfl) hS ?_
                    refine tW 8 rfl rfl (by kernel_rfl) (fun _ _ _ h => h) (by kernel_rfl) (fun _ h => h.2.1) hS ?_
                    refine tK 9 (.int .i64 d) rfl (by kernel_rfl) (fun _ _ _ h => h) (fun _ => by kernel_rfl) hS ?_
                    refine tY 10 (g := p.e) (k := d) (n := 2) (cap := p.ce) rfl rfl (by kernel_rfl) (fun _ _ _ h => h) (by kernel_rfl) (by kernel_rfl) hd9 hS ?_
                    refine tU 11 rfl rfl (by kernel_rfl) (fun _ _ _ h => h) (by kernel_rfl) (fun _ h => h.2.2.2.2.1) hS ?_
                    refine tK 12 (.int .i64 j) rfl (by kernel_rfl) (fun _ _ _ h => h) (fun _ => by kernel_rfl) hS ?_
                    refine tF ⟨#[Value.slice (some { block := sb, off := so }) N cap, undef, u2, Value.pointer (some { block := x, off := 0 }), Value.int IntKind.i64 0, Value.int IntKind.i64 (i : Int), Value.pointer (some { block := go, off := 0 }), Value.int IntKind.i64 (cc : Int), Value.pointer (some { block := ga, off := 0 }), Value.bool true, Value.int IntKind.i64 (d : Int), .bool false, Value.int IntKind.i64 (j : Int), u13, u14, u15, u16, u17, u18, u19, u20, Value.tuple #[Value.pointer (some { block := x, off := 0 }), Value.int IntKind.i64 0], Value.tuple #[Value.pointer (some { block := x, off := 0 }), Value.int IntKind.i64 0], Value.pointer (some { block := x, off := 0 }), Value.int IntKind.i64 0, Value.pointer (some { block := x, off := 0 }), Value.bool false, Value.bool false, Value.slice (some { block := sb, off := so }) N cap, Value.int IntKind.i64 (N : Int), Value.bool (decide (1073741824 < (N : Int))), Value.bool (decide (1073741824 < (N : Int))), undef, undef, Value.int IntKind.i64 (i : Int), Value.slice (some { block := sb, off := so }) N cap, Value.int IntKind.i64 (N : Int), Value.bool true, u38, u39, Value.slice (some { block := sb, off := so }) N cap, Value.int IntKind.i64 (i : Int), Value.pointer (some { block := sb, off := so + i * 4 }), Value.agg #[Value.int IntKind.i64 k, Value.int IntKind.i64 a, Value.int IntKind.i64 b, Value.int IntKind.u32 (v : Int)], Value.pointer (some { block := go, off := 1 }), Value.int IntKind.i64 a, Value.int IntKind.i64 (cc : Int), Value.pointer (some { block := x, off := 0 }), Value.agg #[Value.slice (some { block := p.r, off := 0 }) L.regs.length p.cr, Value.int IntKind.u32 L.pc, Value.int IntKind.i64 L.mode, Value.bool L.asleep, Value.slice (some { block := p.c, off := 0 }) L.csrs.length p.cc, Value.string L.ram, Value.slice (some { block := p.k, off := 0 }) L.clock.length p.ck, Value.slice (some { block := p.p, off := 0 }) L.prio.length p.cp, Value.int IntKind.u32 L.pend, Value.int IntKind.u32 L.served, Value.int IntKind.u32 L.level, Value.slice (some { block := p.e, off := 0 }) L.enable.length p.ce, Value.slice (some { block := p.l, off := 0 }) L.limit.length p.cl], Value.agg #[Value.slice (some { block := p.r, off := 0 }) L.regs.length p.cr, Value.int IntKind.u32 L.pc, Value.int IntKind.i64 L.mode, Value.bool L.asleep, Value.slice (some { block := p.c, off := 0 }) L.csrs.length p.cc, Value.string L.ram, Value.slice (some { block := p.k, off := 0 }) L.clock.length p.ck, Value.slice (some { block := p.p, off := 0 }) L.prio.length p.cp, Value.int IntKind.u32 L.pend, Value.int IntKind.u32 L.served, Value.int IntKind.u32 L.level, Value.slice (some { block := p.e, off := 0 }) L.enable.length p.ce, Value.slice (some { block := p.l, off := 0 }) L.limit.length p.cl], Value.bool true, Value.bool true, Value.bool false, Value.bool false, Value.pointer (some { block := ga, off := 8 }), Value.int IntKind.u32 (cOf s).pend, Value.pointer (some { block := ga, off := 9 }), Value.int IntKind.u32 (cOf s).served, Value.int IntKind.u32 0, Value.bool false, Value.bool false, Value.bool false, Value.pointer (some { block := ga, off := 10 }), Value.int IntKind.u32 (cOf s).level, Value.pointer (some { block := ga, off := 9 }), Value.int IntKind.u32 (cOf s).served, Value.int IntKind.u32 (bits BinOp.andNot IntKind.u32 (cOf s).level (cOf s).served), Value.pointer (some { block := ga, off := 8 }), Value.int IntKind.u32 (cOf s).pend, Value.int IntKind.u32 0, Value.bool false, Value.bool false, Value.int IntKind.i64 (d : Int), Value.bool true, u74, u75, Value.int IntKind.i64 (j : Int), .bool true, u78, u79, .bool false, .bool false, .pointer (some ⟨ga, 8, none⟩), .int .u32 (cOf s).pend, .int .i64 j, .bool true, .bool true, .pointer (some ⟨ga, 11, none⟩), .slice (some ⟨p.e, 0, none⟩) 2 p.ce, .int .i64 d, .pointer (some ⟨p.e, d, none⟩), .int .u32 (enAt s d), .int .i64 j, u93, u94, u95, u96, u97, u98, u99, u100, u101, u102, u103, u104, u105, u106, u107, u108, u109, u110, u111, u112, u113, u114, u115, u116, u117, u118, u119, u120, u121, u122, u123, u124, u125, u126, u127, u128, u129, u130, u131, u132, u133, u134, u135, u136, u137, u138, u139, u140, u141, u142, u143, u144, u145, u146, u147, u148, u149, u150, u151, u152, u153, u154, u155, u156, u157, u158, u159, u160, u161, u162, u163, u164, u165, u166, u167, u168, u169, u170, u171, u172, u173, u174, u175, u176, u177, u178, u179, u180, u181, u182, u183, u184, u185, u186, u187, u188, u189, u190, u191, u192, u193, u194, u195, u196, u197, u198, u199, u200, u201, u202, u203, u204, u205, u206, u207, u208, u209, u210, u211, u212, u213, u214, u215, u216, u217, u218, u219, u220, u221, u222, u223, u224, u225, u226, u227, u228, u229, u230, u231, u232, u233, u234, u235, u236], []⟩ (by kernel_rfl) ?_
                    refine tA 13 (by kernel_rfl) (wpOp_step rfl fun K hK => ?_)
                    go_simp
                    refine (kset_is _ (enAt s d) j hj32 false he).mono ?_
                    rintro e w' ⟨rfl, hw⟩
                    rw [hw]
                    clear hw w'
                    refine hK _ _ ⟨hS, ?_⟩
                    clear hK K
                    refine tK 14 (.bool false) rfl (by kernel_rfl) (fun _ _ _ h => h) (fun _ => by kernel_rfl) hS ?_
                    refine tK 15 (.bool false) rfl (by kernel_rfl) (fun _ _ _ h => h) (fun _ => by kernel_rfl) hS ?_
                    refine tN 16 rfl (by kernel_rfl) (fun _ _ _ h => h) hS ?_
                    refine tN 17 rfl (by kernel_rfl) (fun _ _ _ h => h) hS ?_
                    refine tN 18 rfl (by kernel_rfl) (fun _ _ _ h => h) hS ?_
                    refine tN 19 rfl (by kernel_rfl) (fun _ _ _ h => h) hS ?_
                    refine tN 20 rfl (by kernel_rfl) (fun _ _ _ h => h) hS ?_
                    refine tN 21 rfl (by kernel_rfl) (fun _ _ _ h => h) hS ?_
                    refine tN 22 rfl (by kernel_rfl) (fun _ _ _ h => h) hS ?_
                    refine tN 23 rfl (by kernel_rfl) (fun _ _ _ h => h) hS ?_
                    refine tN 24 rfl (by kernel_rfl) (fun _ _ _ h => h) hS ?_
                    refine tN 25 rfl (by kernel_rfl) (fun _ _ _ h => h) hS ?_
                    refine tN 26 rfl (by kernel_rfl) (fun _ _ _ h => h) hS ?_
                    refine tK 27 (.bool false) rfl (by kernel_rfl) (fun _ _ _ h => h) (fun _ => by kernel_rfl) hS ?_
                    refine tK 28 (.bool false) rfl (by kernel_rfl) (fun _ _ _ h => h) (fun _ => by kernel_rfl) hS ?_
                    refine tK 29 (.bool false) rfl (by kernel_rfl) (fun _ _ _ h => h) (fun _ => by kernel_rfl) hS ?_
                    refine tZ ⟨#[Value.slice (some { block := sb, off := so }) N cap, undef, u2, Value.pointer (some { block := x, off := 0 }), Value.int IntKind.i64 0, Value.int IntKind.i64 (i : Int), Value.pointer (some { block := go, off := 0 }), Value.int IntKind.i64 (cc : Int), Value.pointer (some { block := ga, off := 0 }), Value.bool true, Value.int IntKind.i64 (d : Int), .bool false, Value.int IntKind.i64 (j : Int), u13, u14, u15, u16, u17, u18, u19, u20, Value.tuple #[Value.pointer (some { block := x, off := 0 }), Value.int IntKind.i64 0], Value.tuple #[Value.pointer (some { block := x, off := 0 }), Value.int IntKind.i64 0], Value.pointer (some { block := x, off := 0 }), Value.int IntKind.i64 0, Value.pointer (some { block := x, off := 0 }), Value.bool false, Value.bool false, Value.slice (some { block := sb, off := so }) N cap, Value.int IntKind.i64 (N : Int), Value.bool (decide (1073741824 < (N : Int))), Value.bool (decide (1073741824 < (N : Int))), undef, undef, Value.int IntKind.i64 (i : Int), Value.slice (some { block := sb, off := so }) N cap, Value.int IntKind.i64 (N : Int), Value.bool true, u38, u39, Value.slice (some { block := sb, off := so }) N cap, Value.int IntKind.i64 (i : Int), Value.pointer (some { block := sb, off := so + i * 4 }), Value.agg #[Value.int IntKind.i64 k, Value.int IntKind.i64 a, Value.int IntKind.i64 b, Value.int IntKind.u32 (v : Int)], Value.pointer (some { block := go, off := 1 }), Value.int IntKind.i64 a, Value.int IntKind.i64 (cc : Int), Value.pointer (some { block := x, off := 0 }), Value.agg #[Value.slice (some { block := p.r, off := 0 }) L.regs.length p.cr, Value.int IntKind.u32 L.pc, Value.int IntKind.i64 L.mode, Value.bool L.asleep, Value.slice (some { block := p.c, off := 0 }) L.csrs.length p.cc, Value.string L.ram, Value.slice (some { block := p.k, off := 0 }) L.clock.length p.ck, Value.slice (some { block := p.p, off := 0 }) L.prio.length p.cp, Value.int IntKind.u32 L.pend, Value.int IntKind.u32 L.served, Value.int IntKind.u32 L.level, Value.slice (some { block := p.e, off := 0 }) L.enable.length p.ce, Value.slice (some { block := p.l, off := 0 }) L.limit.length p.cl], Value.agg #[Value.slice (some { block := p.r, off := 0 }) L.regs.length p.cr, Value.int IntKind.u32 L.pc, Value.int IntKind.i64 L.mode, Value.bool L.asleep, Value.slice (some { block := p.c, off := 0 }) L.csrs.length p.cc, Value.string L.ram, Value.slice (some { block := p.k, off := 0 }) L.clock.length p.ck, Value.slice (some { block := p.p, off := 0 }) L.prio.length p.cp, Value.int IntKind.u32 L.pend, Value.int IntKind.u32 L.served, Value.int IntKind.u32 L.level, Value.slice (some { block := p.e, off := 0 }) L.enable.length p.ce, Value.slice (some { block := p.l, off := 0 }) L.limit.length p.cl], Value.bool true, Value.bool true, Value.bool false, Value.bool false, Value.pointer (some { block := ga, off := 8 }), Value.int IntKind.u32 (cOf s).pend, Value.pointer (some { block := ga, off := 9 }), Value.int IntKind.u32 (cOf s).served, Value.int IntKind.u32 0, Value.bool false, Value.bool false, Value.bool false, Value.pointer (some { block := ga, off := 10 }), Value.int IntKind.u32 (cOf s).level, Value.pointer (some { block := ga, off := 9 }), Value.int IntKind.u32 (cOf s).served, Value.int IntKind.u32 (bits BinOp.andNot IntKind.u32 (cOf s).level (cOf s).served), Value.pointer (some { block := ga, off := 8 }), Value.int IntKind.u32 (cOf s).pend, Value.int IntKind.u32 0, Value.bool false, Value.bool false, Value.int IntKind.i64 (d : Int), Value.bool true, u74, u75, Value.int IntKind.i64 (j : Int), .bool true, u78, u79, .bool false, .bool false, .pointer (some ⟨ga, 8, none⟩), .int .u32 (cOf s).pend, .int .i64 j, .bool true, .bool true, .pointer (some ⟨ga, 11, none⟩), .slice (some ⟨p.e, 0, none⟩) 2 p.ce, .int .i64 d, .pointer (some ⟨p.e, d, none⟩), .int .u32 (enAt s d), .int .i64 j, .bool false, .bool false, .bool false, undef, undef, undef, undef, undef, undef, undef, undef, undef, undef, undef, .bool false, .bool false, u109, u110, u111, u112, u113, u114, u115, u116, u117, u118, u119, u120, u121, u122, u123, u124, u125, u126, u127, u128, u129, u130, u131, u132, u133, u134, u135, u136, u137, u138, u139, u140, u141, u142, u143, u144, u145, u146, u147, u148, u149, u150, u151, u152, u153, u154, u155, u156, u157, u158, u159, u160, u161, u162, u163, u164, u165, u166, u167, u168, u169, u170, u171, u172, u173, u174, u175, u176, u177, u178, u179, u180, u181, u182, u183, u184, u185, u186, u187, u188, u189, u190, u191, u192, u193, u194, u195, u196, u197, u198, u199, u200, u201, u202, u203, u204, u205, u206, u207, u208, u209, u210, u211, u212, u213, u214, u215, u216, u217, u218, u219, u220, u221, u222, u223, u224, u225, u226, u227, u228, u229, u230, u231, u232, u233, u234, u235, u236], []⟩ (by kernel_rfl) (by kernel_rfl) ?_
                    go_wp2_with fail
                    rw [← hw0.out]
                    go_roundw
                    case rel => exact ⟨j + 1, q + 1, by omega, by omega, by go_num, by rw [HT'.out _ HV2.out], drewN_two _ _ 1⟩
                    case measure => simp [intOf]; omega
                  · have HV2 : Hid (askT (cOf s).pend (enAt s d) (liAt s d) (cOf s).prio j = decide (liAt s d < (cOf s).prio[j]?.getD 0)) := by unfold Hid; rw [HT.out, hp, he, Bool.false_or, Bool.true_and, Bool.true_and]
                    go_wp2_with fail
                    generalize hw1 : w3.drewN q = w5 at s1 s2 s3 s4 s5 s6 s7 ⊢
                    have hw0 : Hid (w3.drewN q = w5) := hw1
                    clear hw1
                    have hS : w5.drew.cell? ⟨ga, 8, none⟩ = some (.int .u32 (cOf s).pend) ∧ w5.drew.cell? ⟨ga, 11, none⟩ = some (.slice (some ⟨p.e, 0, none⟩) 2 p.ce) ∧ w5.drew.cell? ⟨ga, 7, none⟩ = some (.slice (some ⟨p.p, 0, none⟩) 8 p.cp) ∧ w5.drew.cell? ⟨ga, 12, none⟩ = some (.slice (some ⟨p.l, 0, none⟩) 2 p.cl) ∧ w5.drew.cell? ⟨p.e, d, none⟩ = some (.int .u32 (enAt s d)) ∧ w5.drew.cell? ⟨p.p, j, none⟩ = some (.int .u32 ((cOf s).prio[j]?.getD 0)) ∧ w5.drew.cell? ⟨p.l, d, none⟩ = some (.int .u32 (liAt s d)) := ⟨s1, s2, s3, s4, s5, s6, s7⟩
                    refine wp_region_held (S := fun w' => w'.cell? ⟨ga, 8, none⟩ = some (.int .u32 (cOf s).pend) ∧ w'.cell? ⟨ga, 11, none⟩ = some (.slice (some ⟨p.e, 0, none⟩) 2 p.ce) ∧ w'.cell? ⟨ga, 7, none⟩ = some (.slice (some ⟨p.p, 0, none⟩) 8 p.cp) ∧ w'.cell? ⟨ga, 12, none⟩ = some (.slice (some ⟨p.l, 0, none⟩) 2 p.cl) ∧ w'.cell? ⟨p.e, d, none⟩ = some (.int .u32 (enAt s d)) ∧ w'.cell? ⟨p.p, j, none⟩ = some (.int .u32 ((cOf s).prio[j]?.getD 0)) ∧ w'.cell? ⟨p.l, d, none⟩ = some (.int .u32 (liAt s d))) (by kernel_rfl) ?_
                    change wpAnyH _ _ _ _ _ _ _ _ (w5.drew)
                    refine tK 0 (.bool false) rfl (by kernel_rfl) (fun _ _ _ h => h) (fun _ => by kernel_rfl) hS ?_
                    refine tK 1 (.bool false) rfl (by kernel_rfl) (fun _ _ _ h => h) (fun _ => by kernel_rfl) hS ?_
                    refine tK 2 (.pointer (some ⟨ga, 8, none⟩)) rfl (by kernel_rfl) (fun _ _ _ h => h) (fun _ => by kernel_rfl) hS ?_
                    refine tU 3 rfl rfl (by kernel_rfl) (fun _ _ _ h => h) (by kernel_rfl) (fun _ h => h.1) hS ?_
                    refine tK 4 (.int .i64 j) rfl (by kernel_rfl) (fun _ _ _ h => h) (fun _ => by kernel_rfl) hS ?_
                    refine tF ⟨#[Value.slice (some { block := sb, off := so }) N cap, undef, u2, Value.pointer (some { block := x, off := 0 }), Value.int IntKind.i64 0, Value.int IntKind.i64 (i : Int), Value.pointer (some { block := go, off := 0 }), Value.int IntKind.i64 (cc : Int), Value.pointer (some { block := ga, off := 0 }), Value.bool true, Value.int IntKind.i64 (d : Int), .bool false, Value.int IntKind.i64 (j : Int), u13, u14, u15, u16, u17, u18, u19, u20, Value.tuple #[Value.pointer (some { block := x, off := 0 }), Value.int IntKind.i64 0], Value.tuple #[Value.pointer (some { block := x, off := 0 }), Value.int IntKind.i64 0], Value.pointer (some { block := x, off := 0 }), Value.int IntKind.i64 0, Value.pointer (some { block := x, off := 0 }), Value.bool false, Value.bool false, Value.slice (some { block := sb, off := so }) N cap, Value.int IntKind.i64 (N : Int), Value.bool (decide (1073741824 < (N : Int))), Value.bool (decide (1073741824 < (N : Int))), undef, undef, Value.int IntKind.i64 (i : Int), Value.slice (some { block := sb, off := so }) N cap, Value.int IntKind.i64 (N : Int), Value.bool true, u38, u39, Value.slice (some { block := sb, off := so }) N cap, Value.int IntKind.i64 (i : Int), Value.pointer (some { block := sb, off := so + i * 4 }), Value.agg #[Value.int IntKind.i64 k, Value.int IntKind.i64 a, Value.int IntKind.i64 b, Value.int IntKind.u32 (v : Int)], Value.pointer (some { block := go, off := 1 }), Value.int IntKind.i64 a, Value.int IntKind.i64 (cc : Int), Value.pointer (some { block := x, off := 0 }), Value.agg #[Value.slice (some { block := p.r, off := 0 }) L.regs.length p.cr, Value.int IntKind.u32 L.pc, Value.int IntKind.i64 L.mode, Value.bool L.asleep, Value.slice (some { block := p.c, off := 0 }) L.csrs.length p.cc, Value.string L.ram, Value.slice (some { block := p.k, off := 0 }) L.clock.length p.ck, Value.slice (some { block := p.p, off := 0 }) L.prio.length p.cp, Value.int IntKind.u32 L.pend, Value.int IntKind.u32 L.served, Value.int IntKind.u32 L.level, Value.slice (some { block := p.e, off := 0 }) L.enable.length p.ce, Value.slice (some { block := p.l, off := 0 }) L.limit.length p.cl], Value.agg #[Value.slice (some { block := p.r, off := 0 }) L.regs.length p.cr, Value.int IntKind.u32 L.pc, Value.int IntKind.i64 L.mode, Value.bool L.asleep, Value.slice (some { block := p.c, off := 0 }) L.csrs.length p.cc, Value.string L.ram, Value.slice (some { block := p.k, off := 0 }) L.clock.length p.ck, Value.slice (some { block := p.p, off := 0 }) L.prio.length p.cp, Value.int IntKind.u32 L.pend, Value.int IntKind.u32 L.served, Value.int IntKind.u32 L.level, Value.slice (some { block := p.e, off := 0 }) L.enable.length p.ce, Value.slice (some { block := p.l, off := 0 }) L.limit.length p.cl], Value.bool true, Value.bool true, Value.bool false, Value.bool false, Value.pointer (some { block := ga, off := 8 }), Value.int IntKind.u32 (cOf s).pend, Value.pointer (some { block := ga, off := 9 }), Value.int IntKind.u32 (cOf s).served, Value.int IntKind.u32 0, Value.bool false, Value.bool false, Value.bool false, Value.pointer (some { block := ga, off := 10 }), Value.int IntKind.u32 (cOf s).level, Value.pointer (some { block := ga, off := 9 }), Value.int IntKind.u32 (cOf s).served, Value.int IntKind.u32 (bits BinOp.andNot IntKind.u32 (cOf s).level (cOf s).served), Value.pointer (some { block := ga, off := 8 }), Value.int IntKind.u32 (cOf s).pend, Value.int IntKind.u32 0, Value.bool false, Value.bool false, Value.int IntKind.i64 (d : Int), Value.bool true, u74, u75, Value.int IntKind.i64 (j : Int), Value.bool (decide ((j : Int) ≤ 7)), u78, u79, .bool false, .bool false, .pointer (some ⟨ga, 8, none⟩), .int .u32 (cOf s).pend, .int .i64 j, u85, u86, u87, u88, u89, u90, u91, u92, u93, u94, u95, u96, u97, u98, u99, u100, u101, u102, u103, u104, u105, u106, u107, u108, u109, u110, u111, u112, u113, u114, u115, u116, u117, u118, u119, u120, u121, u122, u123, u124, u125, u126, u127, u128, u129, u130, u131, u132, u133, u134, u135, u136, u137, u138, u139, u140, u141, u142, u143, u144, u145, u146, u147, u148, u149, u150, u151, u152, u153, u154, u155, u156, u157, u158, u159, u160, u161, u162, u163, u164, u165, u166, u167, u168, u169, u170, u171, u172, u173, u174, u175, u176, u177, u178, u179, u180, u181, u182, u183, u184, u185, u186, u187, u188, u189, u190, u191, u192, u193, u194, u195, u196, u197, u198, u199, u200, u201, u202, u203, u204, u205, u206, u207, u208, u209, u210, u211, u212, u213, u214, u215, u216, u217, u218, u219, u220, u221, u222, u223, u224, u225, u226, u227, u228, u229, u230, u231, u232, u233, u234, u235, u236], []⟩ (by kernel_rfl) ?_
                    refine tA 5 (by kernel_rfl) (wpOp_step rfl fun K hK => ?_)
                    go_simp
                    refine (kset_is _ (cOf s).pend j hj32 true hp).mono ?_
                    rintro e w' ⟨rfl, hw⟩
                    rw [hw]
                    clear hw w'
                    refine hK _ _ ⟨hS, ?_⟩
                    clear hK K
                    refine tK 6 (.bool true) rfl (by kernel_rfl) (fun _ _ _ h => h) (fun _ => by kernel_rfl) hS ?_
                    refine tK 7 (.pointer (some ⟨ga, 11, none⟩)) rfl (by kernel_rfl) (fun _ _ _ h => h) (fun _ => by kernel_rfl) hS ?_
                    refine tW 8 rfl rfl (by kernel_rfl) (fun _ _ _ h => h) (by kernel_rfl) (fun _ h => h.2.1) hS ?_
                    refine tK 9 (.int .i64 d) rfl (by kernel_rfl) (fun _ _ _ h => h) (fun _ => by kernel_rfl) hS ?_
                    refine tY 10 (g := p.e) (k := d) (n := 2) (cap := p.ce) rfl rfl (by kernel_rfl) (fun _ _ _ h => h) (by kernel_rfl) (by kernel_rfl) hd9 hS ?_
                    refine tU 11 rfl rfl (by kernel_rfl) (fun _ _ _ h => h) (by kernel_rfl) (fun _ h => h.2.2.2.2.1) hS ?_
                    refine tK 12 (.int .i64 j) rfl (by kernel_rfl) (fun _ _ _ h => h) (fun _ => by kernel_rfl) hS ?_
                    refine tF ⟨#[Value.slice (some { block := sb, off := so }) N cap, undef, u2, Value.pointer (some { block := x, off := 0 }), Value.int IntKind.i64 0, Value.int IntKind.i64 (i : Int), Value.pointer (some { block := go, off := 0 }), Value.int IntKind.i64 (cc : Int), Value.pointer (some { block := ga, off := 0 }), Value.bool true, Value.int IntKind.i64 (d : Int), .bool false, Value.int IntKind.i64 (j : Int), u13, u14, u15, u16, u17, u18, u19, u20, Value.tuple #[Value.pointer (some { block := x, off := 0 }), Value.int IntKind.i64 0], Value.tuple #[Value.pointer (some { block := x, off := 0 }), Value.int IntKind.i64 0], Value.pointer (some { block := x, off := 0 }), Value.int IntKind.i64 0, Value.pointer (some { block := x, off := 0 }), Value.bool false, Value.bool false, Value.slice (some { block := sb, off := so }) N cap, Value.int IntKind.i64 (N : Int), Value.bool (decide (1073741824 < (N : Int))), Value.bool (decide (1073741824 < (N : Int))), undef, undef, Value.int IntKind.i64 (i : Int), Value.slice (some { block := sb, off := so }) N cap, Value.int IntKind.i64 (N : Int), Value.bool true, u38, u39, Value.slice (some { block := sb, off := so }) N cap, Value.int IntKind.i64 (i : Int), Value.pointer (some { block := sb, off := so + i * 4 }), Value.agg #[Value.int IntKind.i64 k, Value.int IntKind.i64 a, Value.int IntKind.i64 b, Value.int IntKind.u32 (v : Int)], Value.pointer (some { block := go, off := 1 }), Value.int IntKind.i64 a, Value.int IntKind.i64 (cc : Int), Value.pointer (some { block := x, off := 0 }), Value.agg #[Value.slice (some { block := p.r, off := 0 }) L.regs.length p.cr, Value.int IntKind.u32 L.pc, Value.int IntKind.i64 L.mode, Value.bool L.asleep, Value.slice (some { block := p.c, off := 0 }) L.csrs.length p.cc, Value.string L.ram, Value.slice (some { block := p.k, off := 0 }) L.clock.length p.ck, Value.slice (some { block := p.p, off := 0 }) L.prio.length p.cp, Value.int IntKind.u32 L.pend, Value.int IntKind.u32 L.served, Value.int IntKind.u32 L.level, Value.slice (some { block := p.e, off := 0 }) L.enable.length p.ce, Value.slice (some { block := p.l, off := 0 }) L.limit.length p.cl], Value.agg #[Value.slice (some { block := p.r, off := 0 }) L.regs.length p.cr, Value.int IntKind.u32 L.pc, Value.int IntKind.i64 L.mode, Value.bool L.asleep, Value.slice (some { block := p.c, off := 0 }) L.csrs.length p.cc, Value.string L.ram, Value.slice (some { block := p.k, off := 0 }) L.clock.length p.ck, Value.slice (some { block := p.p, off := 0 }) L.prio.length p.cp, Value.int IntKind.u32 L.pend, Value.int IntKind.u32 L.served, Value.int IntKind.u32 L.level, Value.slice (some { block := p.e, off := 0 }) L.enable.length p.ce, Value.slice (some { block := p.l, off := 0 }) L.limit.length p.cl], Value.bool true, Value.bool true, Value.bool false, Value.bool false, Value.pointer (some { block := ga, off := 8 }), Value.int IntKind.u32 (cOf s).pend, Value.pointer (some { block := ga, off := 9 }), Value.int IntKind.u32 (cOf s).served, Value.int IntKind.u32 0, Value.bool false, Value.bool false, Value.bool false, Value.pointer (some { block := ga, off := 10 }), Value.int IntKind.u32 (cOf s).level, Value.pointer (some { block := ga, off := 9 }), Value.int IntKind.u32 (cOf s).served, Value.int IntKind.u32 (bits BinOp.andNot IntKind.u32 (cOf s).level (cOf s).served), Value.pointer (some { block := ga, off := 8 }), Value.int IntKind.u32 (cOf s).pend, Value.int IntKind.u32 0, Value.bool false, Value.bool false, Value.int IntKind.i64 (d : Int), Value.bool true, u74, u75, Value.int IntKind.i64 (j : Int), .bool true, u78, u79, .bool false, .bool false, .pointer (some ⟨ga, 8, none⟩), .int .u32 (cOf s).pend, .int .i64 j, .bool true, .bool true, .pointer (some ⟨ga, 11, none⟩), .slice (some ⟨p.e, 0, none⟩) 2 p.ce, .int .i64 d, .pointer (some ⟨p.e, d, none⟩), .int .u32 (enAt s d), .int .i64 j, u93, u94, u95, u96, u97, u98, u99, u100, u101, u102, u103, u104, u105, u106, u107, u108, u109, u110, u111, u112, u113, u114, u115, u116, u117, u118, u119, u120, u121, u122, u123, u124, u125, u126, u127, u128, u129, u130, u131, u132, u133, u134, u135, u136, u137, u138, u139, u140, u141, u142, u143, u144, u145, u146, u147, u148, u149, u150, u151, u152, u153, u154, u155, u156, u157, u158, u159, u160, u161, u162, u163, u164, u165, u166, u167, u168, u169, u170, u171, u172, u173, u174, u175, u176, u177, u178, u179, u180, u181, u182, u183, u184, u185, u186, u187, u188, u189, u190, u191, u192, u193, u194, u195, u196, u197, u198, u199, u200, u201, u202, u203, u204, u205, u206, u207, u208, u209, u210, u211, u212, u213, u214, u215, u216, u217, u218, u219, u220, u221, u222, u223, u224, u225, u226, u227, u228, u229, u230, u231, u232, u233, u234, u235, u236], []⟩ (by kernel_rfl) ?_
                    refine tA 13 (by kernel_rfl) (wpOp_step rfl fun K hK => ?_)
                    go_simp
                    refine (kset_is _ (enAt s d) j hj32 true he).mono ?_
                    rintro e w' ⟨rfl, hw⟩
                    rw [hw]
                    clear hw w'
                    refine hK _ _ ⟨hS, ?_⟩
                    clear hK K
                    refine tK 14 (.bool true) rfl (by kernel_rfl) (fun _ _ _ h => h) (fun _ => by kernel_rfl) hS ?_
                    refine tK 15 (.bool true) rfl (by kernel_rfl) (fun _ _ _ h => h) (fun _ => by kernel_rfl) hS ?_
                    refine tK 16 (.pointer (some ⟨ga, 7, none⟩)) rfl (by kernel_rfl) (fun _ _ _ h => h) (fun _ => by kernel_rfl) hS ?_
                    refine tW 17 rfl rfl (by kernel_rfl) (fun _ _ _ h => h) (by kernel_rfl) (fun _ h => h.2.2.1) hS ?_
                    refine tK 18 (.int .i64 j) rfl (by kernel_rfl) (fun _ _ _ h => h) (fun _ => by kernel_rfl) hS ?_
                    refine tY 19 (g := p.p) (k := j) (n := 8) (cap := p.cp) rfl rfl (by kernel_rfl) (fun _ _ _ h => h) (by kernel_rfl) (by kernel_rfl) hj8 hS ?_
                    refine tU 20 rfl rfl (by kernel_rfl) (fun _ _ _ h => h) (by kernel_rfl) (fun _ h => h.2.2.2.2.2.1) hS ?_
                    refine tK 21 (.pointer (some ⟨ga, 12, none⟩)) rfl (by kernel_rfl) (fun _ _ _ h => h) (fun _ => by kernel_rfl) hS ?_
                    refine tW 22 rfl rfl (by kernel_rfl) (fun _ _ _ h => h) (by kernel_rfl) (fun _ h => h.2.2.2.1) hS ?_
                    refine tK 23 (.int .i64 d) rfl (by kernel_rfl) (fun _ _ _ h => h) (fun _ => by kernel_rfl) hS ?_
                    refine tY 24 (g := p.l) (k := d) (n := 2) (cap := p.cl) rfl rfl (by kernel_rfl) (fun _ _ _ h => h) (by kernel_rfl) (by kernel_rfl) hd9 hS ?_
                    refine tU 25 rfl rfl (by kernel_rfl) (fun _ _ _ h => h) (by kernel_rfl) (fun _ h => h.2.2.2.2.2.2) hS ?_
                    refine tK 26 (.bool (decide ((liAt s d) < (((cOf s).prio[j]?.getD 0))))) rfl (by kernel_rfl) (fun _ _ _ h => h) (fun _ => by kernel_rfl) hS ?_
                    refine tK 27 (.bool (decide ((liAt s d) < (((cOf s).prio[j]?.getD 0))))) rfl (by kernel_rfl) (fun _ _ _ h => h) (fun _ => by kernel_rfl) hS ?_
                    refine tK 28 (.bool (decide ((liAt s d) < (((cOf s).prio[j]?.getD 0))))) rfl (by kernel_rfl) (fun _ _ _ h => h) (fun _ => by kernel_rfl) hS ?_
                    refine tK 29 (.bool (decide ((liAt s d) < (((cOf s).prio[j]?.getD 0))))) rfl (by kernel_rfl) (fun _ _ _ h => h) (fun _ => by kernel_rfl) hS ?_
                    refine tZ ⟨#[Value.slice (some { block := sb, off := so }) N cap, undef, u2, Value.pointer (some { block := x, off := 0 }), Value.int IntKind.i64 0, Value.int IntKind.i64 (i : Int), Value.pointer (some { block := go, off := 0 }), Value.int IntKind.i64 (cc : Int), Value.pointer (some { block := ga, off := 0 }), Value.bool true, Value.int IntKind.i64 (d : Int), .bool (decide ((liAt s d) < (((cOf s).prio[j]?.getD 0)))), Value.int IntKind.i64 (j : Int), u13, u14, u15, u16, u17, u18, u19, u20, Value.tuple #[Value.pointer (some { block := x, off := 0 }), Value.int IntKind.i64 0], Value.tuple #[Value.pointer (some { block := x, off := 0 }), Value.int IntKind.i64 0], Value.pointer (some { block := x, off := 0 }), Value.int IntKind.i64 0, Value.pointer (some { block := x, off := 0 }), Value.bool false, Value.bool false, Value.slice (some { block := sb, off := so }) N cap, Value.int IntKind.i64 (N : Int), Value.bool (decide (1073741824 < (N : Int))), Value.bool (decide (1073741824 < (N : Int))), undef, undef, Value.int IntKind.i64 (i : Int), Value.slice (some { block := sb, off := so }) N cap, Value.int IntKind.i64 (N : Int), Value.bool true, u38, u39, Value.slice (some { block := sb, off := so }) N cap, Value.int IntKind.i64 (i : Int), Value.pointer (some { block := sb, off := so + i * 4 }), Value.agg #[Value.int IntKind.i64 k, Value.int IntKind.i64 a, Value.int IntKind.i64 b, Value.int IntKind.u32 (v : Int)], Value.pointer (some { block := go, off := 1 }), Value.int IntKind.i64 a, Value.int IntKind.i64 (cc : Int), Value.pointer (some { block := x, off := 0 }), Value.agg #[Value.slice (some { block := p.r, off := 0 }) L.regs.length p.cr, Value.int IntKind.u32 L.pc, Value.int IntKind.i64 L.mode, Value.bool L.asleep, Value.slice (some { block := p.c, off := 0 }) L.csrs.length p.cc, Value.string L.ram, Value.slice (some { block := p.k, off := 0 }) L.clock.length p.ck, Value.slice (some { block := p.p, off := 0 }) L.prio.length p.cp, Value.int IntKind.u32 L.pend, Value.int IntKind.u32 L.served, Value.int IntKind.u32 L.level, Value.slice (some { block := p.e, off := 0 }) L.enable.length p.ce, Value.slice (some { block := p.l, off := 0 }) L.limit.length p.cl], Value.agg #[Value.slice (some { block := p.r, off := 0 }) L.regs.length p.cr, Value.int IntKind.u32 L.pc, Value.int IntKind.i64 L.mode, Value.bool L.asleep, Value.slice (some { block := p.c, off := 0 }) L.csrs.length p.cc, Value.string L.ram, Value.slice (some { block := p.k, off := 0 }) L.clock.length p.ck, Value.slice (some { block := p.p, off := 0 }) L.prio.length p.cp, Value.int IntKind.u32 L.pend, Value.int IntKind.u32 L.served, Value.int IntKind.u32 L.level, Value.slice (some { block := p.e, off := 0 }) L.enable.length p.ce, Value.slice (some { block := p.l, off := 0 }) L.limit.length p.cl], Value.bool true, Value.bool true, Value.bool false, Value.bool false, Value.pointer (some { block := ga, off := 8 }), Value.int IntKind.u32 (cOf s).pend, Value.pointer (some { block := ga, off := 9 }), Value.int IntKind.u32 (cOf s).served, Value.int IntKind.u32 0, Value.bool false, Value.bool false, Value.bool false, Value.pointer (some { block := ga, off := 10 }), Value.int IntKind.u32 (cOf s).level, Value.pointer (some { block := ga, off := 9 }), Value.int IntKind.u32 (cOf s).served, Value.int IntKind.u32 (bits BinOp.andNot IntKind.u32 (cOf s).level (cOf s).served), Value.pointer (some { block := ga, off := 8 }), Value.int IntKind.u32 (cOf s).pend, Value.int IntKind.u32 0, Value.bool false, Value.bool false, Value.int IntKind.i64 (d : Int), Value.bool true, u74, u75, Value.int IntKind.i64 (j : Int), .bool true, u78, u79, .bool false, .bool false, .pointer (some ⟨ga, 8, none⟩), .int .u32 (cOf s).pend, .int .i64 j, .bool true, .bool true, .pointer (some ⟨ga, 11, none⟩), .slice (some ⟨p.e, 0, none⟩) 2 p.ce, .int .i64 d, .pointer (some ⟨p.e, d, none⟩), .int .u32 (enAt s d), .int .i64 j, .bool true, .bool true, .bool true, .pointer (some ⟨ga, 7, none⟩), .slice (some ⟨p.p, 0, none⟩) 8 p.cp, .int .i64 j, .pointer (some ⟨p.p, j, none⟩), .int .u32 ((cOf s).prio[j]?.getD 0), .pointer (some ⟨ga, 12, none⟩), .slice (some ⟨p.l, 0, none⟩) 2 p.cl, .int .i64 d, .pointer (some ⟨p.l, d, none⟩), .int .u32 (liAt s d), .bool (decide ((liAt s d) < (((cOf s).prio[j]?.getD 0)))), .bool (decide ((liAt s d) < (((cOf s).prio[j]?.getD 0)))), .bool (decide ((liAt s d) < (((cOf s).prio[j]?.getD 0)))), u109, u110, u111, u112, u113, u114, u115, u116, u117, u118, u119, u120, u121, u122, u123, u124, u125, u126, u127, u128, u129, u130, u131, u132, u133, u134, u135, u136, u137, u138, u139, u140, u141, u142, u143, u144, u145, u146, u147, u148, u149, u150, u151, u152, u153, u154, u155, u156, u157, u158, u159, u160, u161, u162, u163, u164, u165, u166, u167, u168, u169, u170, u171, u172, u173, u174, u175, u176, u177, u178, u179, u180, u181, u182, u183, u184, u185, u186, u187, u188, u189, u190, u191, u192, u193, u194, u195, u196, u197, u198, u199, u200, u201, u202, u203, u204, u205, u206, u207, u208, u209, u210, u211, u212, u213, u214, u215, u216, u217, u218, u219, u220, u221, u222, u223, u224, u225, u226, u227, u228, u229, u230, u231, u232, u233, u234, u235, u236], []⟩ (by kernel_rfl) (by kernel_rfl) ?_
                    go_wp2_with fail
                    rw [← hw0.out]
                    go_roundw
                    case rel => exact ⟨j + 1, q + 1, by omega, by omega, by go_num, by rw [HT'.out _ HV2.out], drewN_two _ _ 1⟩
                    case measure => simp [intOf]; omega
              · have HV2 : Hid (askT (cOf s).pend (enAt s d) (liAt s d) (cOf s).prio j = true) := by rw [HT.out]; rfl
                go_wp2_with fail
                generalize hw1 : w3.drewN q = w5 at s1 s2 s3 s4 s5 s6 s7 ⊢
                have hw0 : Hid (w3.drewN q = w5) := hw1
                clear hw1
                have hS : w5.drew.cell? ⟨ga, 8, none⟩ = some (.int .u32 (cOf s).pend) ∧ w5.drew.cell? ⟨ga, 11, none⟩ = some (.slice (some ⟨p.e, 0, none⟩) 2 p.ce) ∧ w5.drew.cell? ⟨ga, 7, none⟩ = some (.slice (some ⟨p.p, 0, none⟩) 8 p.cp) ∧ w5.drew.cell? ⟨ga, 12, none⟩ = some (.slice (some ⟨p.l, 0, none⟩) 2 p.cl) ∧ w5.drew.cell? ⟨p.e, d, none⟩ = some (.int .u32 (enAt s d)) ∧ w5.drew.cell? ⟨p.p, j, none⟩ = some (.int .u32 ((cOf s).prio[j]?.getD 0)) ∧ w5.drew.cell? ⟨p.l, d, none⟩ = some (.int .u32 (liAt s d)) := ⟨s1, s2, s3, s4, s5, s6, s7⟩
                refine wp_region_held (S := fun w' => w'.cell? ⟨ga, 8, none⟩ = some (.int .u32 (cOf s).pend) ∧ w'.cell? ⟨ga, 11, none⟩ = some (.slice (some ⟨p.e, 0, none⟩) 2 p.ce) ∧ w'.cell? ⟨ga, 7, none⟩ = some (.slice (some ⟨p.p, 0, none⟩) 8 p.cp) ∧ w'.cell? ⟨ga, 12, none⟩ = some (.slice (some ⟨p.l, 0, none⟩) 2 p.cl) ∧ w'.cell? ⟨p.e, d, none⟩ = some (.int .u32 (enAt s d)) ∧ w'.cell? ⟨p.p, j, none⟩ = some (.int .u32 ((cOf s).prio[j]?.getD 0)) ∧ w'.cell? ⟨p.l, d, none⟩ = some (.int .u32 (liAt s d))) (by kernel_rfl) ?_
                change wpAnyH _ _ _ _ _ _ _ _ (w5.drew)
                refine tK 0 (.bool true) rfl (by kernel_rfl) (fun _ _ _ h => h) (fun _ => by kernel_rfl) hS ?_
                refine tK 1 (.bool true) rfl (by kernel_rfl) (fun _ _ _ h => h) (fun _ => by kernel_rfl) hS ?_
                refine tN 2 rfl (by kernel_rfl) (fun _ _ _ h => h) hS ?_
                refine tN 3 rfl (by kernel_rfl) (fun _ _ _ h => h) hS ?_
                refine tN 4 rfl (by kernel_rfl) (fun _ _ _ h => h) hS ?_
                refine tN 5 rfl (by kernel_rfl) (fun _ _ _ h => h) hS ?_
                refine tN 6 rfl (by kernel_rfl) (fun _ _ _ h => h) hS ?_
                refine tN 7 rfl (by kernel_rfl) (fun _ _ _ h => h) hS ?_
                refine tN 8 rfl (by kernel_rfl) (fun _ _ _ h => h) hS ?_
                refine tN 9 rfl (by kernel_rfl) (fun _ _ _ h => h) hS ?_
                refine tN 10 rfl (by kernel_rfl) (fun _ _ _ h => h) hS ?_
                refine tN 11 rfl (by kernel_rfl) (fun _ _ _ h => h) hS ?_
                refine tN 12 rfl (by kernel_rfl) (fun _ _ _ h => h) hS ?_
                refine tN 13 rfl (by kernel_rfl) (fun _ _ _ h => h) hS ?_
                refine tN 14 rfl (by kernel_rfl) (fun _ _ _ h => h) hS ?_
                refine tN 15 rfl (by kernel_rfl) (fun _ _ _ h => h) hS ?_
                refine tN 16 rfl (by kernel_rfl) (fun _ _ _ h => h) hS ?_
                refine tN 17 rfl (by kernel_rfl) (fun _ _ _ h => h) hS ?_
                refine tN 18 rfl (by kernel_rfl) (fun _ _ _ h => h) hS ?_
                refine tN 19 rfl (by kernel_rfl) (fun _ _ _ h => h) hS ?_
                refine tN 20 rfl (by kernel_rfl) (fun _ _ _ h => h) hS ?_
                refine tN 21 rfl (by kernel_rfl) (fun _ _ _ h => h) hS ?_
                refine tN 22 rfl (by kernel_rfl) (fun _ _ _ h => h) hS ?_
                refine tN 23 rfl (by kernel_rfl) (fun _ _ _ h => h) hS ?_
                refine tN 24 rfl (by kernel_rfl) (fun _ _ _ h => h) hS ?_
                refine tN 25 rfl (by kernel_rfl) (fun _ _ _ h => h) hS ?_
                refine tN 26 rfl (by kernel_rfl) (fun _ _ _ h => h) hS ?_
                refine tN 27 rfl (by kernel_rfl) (fun _ _ _ h => h) hS ?_
                refine tK 28 (.bool true) rfl (by kernel_rfl) (fun _ _ _ h => h) (fun _ => by kernel_rfl) hS ?_
                refine tK 29 (.bool true) rfl (by kernel_rfl) (fun _ _ _ h => h) (fun _ => by kernel_rfl) hS ?_
                refine tZ ⟨#[Value.slice (some { block := sb, off := so }) N cap, undef, u2, Value.pointer (some { block := x, off := 0 }), Value.int IntKind.i64 0, Value.int IntKind.i64 (i : Int), Value.pointer (some { block := go, off := 0 }), Value.int IntKind.i64 (cc : Int), Value.pointer (some { block := ga, off := 0 }), Value.bool true, Value.int IntKind.i64 (d : Int), .bool true, Value.int IntKind.i64 (j : Int), u13, u14, u15, u16, u17, u18, u19, u20, Value.tuple #[Value.pointer (some { block := x, off := 0 }), Value.int IntKind.i64 0], Value.tuple #[Value.pointer (some { block := x, off := 0 }), Value.int IntKind.i64 0], Value.pointer (some { block := x, off := 0 }), Value.int IntKind.i64 0, Value.pointer (some { block := x, off := 0 }), Value.bool false, Value.bool false, Value.slice (some { block := sb, off := so }) N cap, Value.int IntKind.i64 (N : Int), Value.bool (decide (1073741824 < (N : Int))), Value.bool (decide (1073741824 < (N : Int))), undef, undef, Value.int IntKind.i64 (i : Int), Value.slice (some { block := sb, off := so }) N cap, Value.int IntKind.i64 (N : Int), Value.bool true, u38, u39, Value.slice (some { block := sb, off := so }) N cap, Value.int IntKind.i64 (i : Int), Value.pointer (some { block := sb, off := so + i * 4 }), Value.agg #[Value.int IntKind.i64 k, Value.int IntKind.i64 a, Value.int IntKind.i64 b, Value.int IntKind.u32 (v : Int)], Value.pointer (some { block := go, off := 1 }), Value.int IntKind.i64 a, Value.int IntKind.i64 (cc : Int), Value.pointer (some { block := x, off := 0 }), Value.agg #[Value.slice (some { block := p.r, off := 0 }) L.regs.length p.cr, Value.int IntKind.u32 L.pc, Value.int IntKind.i64 L.mode, Value.bool L.asleep, Value.slice (some { block := p.c, off := 0 }) L.csrs.length p.cc, Value.string L.ram, Value.slice (some { block := p.k, off := 0 }) L.clock.length p.ck, Value.slice (some { block := p.p, off := 0 }) L.prio.length p.cp, Value.int IntKind.u32 L.pend, Value.int IntKind.u32 L.served, Value.int IntKind.u32 L.level, Value.slice (some { block := p.e, off := 0 }) L.enable.length p.ce, Value.slice (some { block := p.l, off := 0 }) L.limit.length p.cl], Value.agg #[Value.slice (some { block := p.r, off := 0 }) L.regs.length p.cr, Value.int IntKind.u32 L.pc, Value.int IntKind.i64 L.mode, Value.bool L.asleep, Value.slice (some { block := p.c, off := 0 }) L.csrs.length p.cc, Value.string L.ram, Value.slice (some { block := p.k, off := 0 }) L.clock.length p.ck, Value.slice (some { block := p.p, off := 0 }) L.prio.length p.cp, Value.int IntKind.u32 L.pend, Value.int IntKind.u32 L.served, Value.int IntKind.u32 L.level, Value.slice (some { block := p.e, off := 0 }) L.enable.length p.ce, Value.slice (some { block := p.l, off := 0 }) L.limit.length p.cl], Value.bool true, Value.bool true, Value.bool false, Value.bool false, Value.pointer (some { block := ga, off := 8 }), Value.int IntKind.u32 (cOf s).pend, Value.pointer (some { block := ga, off := 9 }), Value.int IntKind.u32 (cOf s).served, Value.int IntKind.u32 0, Value.bool false, Value.bool false, Value.bool false, Value.pointer (some { block := ga, off := 10 }), Value.int IntKind.u32 (cOf s).level, Value.pointer (some { block := ga, off := 9 }), Value.int IntKind.u32 (cOf s).served, Value.int IntKind.u32 (bits BinOp.andNot IntKind.u32 (cOf s).level (cOf s).served), Value.pointer (some { block := ga, off := 8 }), Value.int IntKind.u32 (cOf s).pend, Value.int IntKind.u32 0, Value.bool false, Value.bool false, Value.int IntKind.i64 (d : Int), Value.bool true, u74, u75, Value.int IntKind.i64 (j : Int), Value.bool (decide ((j : Int) ≤ 7)), u78, u79, .bool true, .bool true, undef, undef, undef, undef, undef, undef, undef, undef, undef, undef, undef, undef, undef, undef, undef, undef, undef, undef, undef, undef, undef, undef, undef, undef, undef, undef, .bool true, u109, u110, u111, u112, u113, u114, u115, u116, u117, u118, u119, u120, u121, u122, u123, u124, u125, u126, u127, u128, u129, u130, u131, u132, u133, u134, u135, u136, u137, u138, u139, u140, u141, u142, u143, u144, u145, u146, u147, u148, u149, u150, u151, u152, u153, u154, u155, u156, u157, u158, u159, u160, u161, u162, u163, u164, u165, u166, u167, u168, u169, u170, u171, u172, u173, u174, u175, u176, u177, u178, u179, u180, u181, u182, u183, u184, u185, u186, u187, u188, u189, u190, u191, u192, u193, u194, u195, u196, u197, u198, u199, u200, u201, u202, u203, u204, u205, u206, u207, u208, u209, u210, u211, u212, u213, u214, u215, u216, u217, u218, u219, u220, u221, u222, u223, u224, u225, u226, u227, u228, u229, u230, u231, u232, u233, u234, u235, u236], []⟩ (by kernel_rfl) (by kernel_rfl) ?_
                go_wp2_with fail
                rw [← hw0.out]
                go_roundw
                case rel => exact ⟨j + 1, q + 1, by omega, by omega, by go_num, by rw [HT'.out _ HV2.out], drewN_two _ _ 1⟩
                case measure => simp [intOf]; omega
            · obtain rfl : j = 8 := by omega
              clear hj hj1 hj8
              have EQ : Hid (askT (cOf s).pend (enAt s d) (liAt s d) (cOf s).prio (8 - 1) = askC (cOf s).pend (enAt s d) (liAt s d) (cOf s).prio) := askT_eq (mk_w (fun i => (srcAt s i).waits)) (by
                have hdd : d = 0 ∨ d = 1 := by omega
                rcases hdd with rfl | rfl
                · exact HI.out.d.en0
                · exact HI.out.d.en1)
              have M := mip_asks (c := cOf s) HI.out.soft
              have s8 : (w3.drewN q).cell? ⟨ga, 4, none⟩ = some (.slice (some ⟨p.c, 0, none⟩) 19 p.cc) := by have := F3.out.bA.c4; rw [LKK.out.f.csrs] at this; exact this
              have s9 : (w3.drewN q).cell? ⟨p.c, 17, none⟩ = some (.int .u32 (mipC (cOf s))) := (F3.out.st.csrs.cell 17 (by rw [LKK.out.f.csrs]; decide)).trans (by rw [LKK.out.mip])
              rw [EQ.out]
              have hdd : d = 0 ∨ d = 1 := by omega
              rcases hdd with rfl | rfl
              · have KS := kset_is (w3.drewN q) (mipC (cOf s)) 11 (by decide) _ M.1
                have e0 : askC (cOf s).pend (enAt s 0) (liAt s 0) (cOf s).prio = askC (cOf s).pend (cOf s).en0 (cOf s).li0 (cOf s).prio := rfl
                rw [e0]
                generalize askC (cOf s).pend (cOf s).en0 (cOf s).li0 (cOf s).prio = az at KS ⊢
                clear M EQ e0
                go_wp2_with fail
                refine KS.mono ?_
                rintro e w6 ⟨rfl, hw⟩
                rw [hw]
                clear hw w6
                go_wp2
                go_roundw
                case rel => exact ⟨1, q, by decide, rfl, rfl⟩
                case measure => simp [intOf]
              · have KS := kset_is (w3.drewN q) (mipC (cOf s)) 9 (by decide) _ M.2
                have e0 : askC (cOf s).pend (enAt s 1) (liAt s 1) (cOf s).prio = askC (cOf s).pend (cOf s).en1 (cOf s).li1 (cOf s).prio := rfl
                rw [e0]
                generalize askC (cOf s).pend (cOf s).en1 (cOf s).li1 (cOf s).prio = az at KS ⊢
                clear M EQ e0
                go_wp2_with fail
                refine KS.mono ?_
                rintro e w6 ⟨rfl, hw⟩
                rw [hw]
                clear hw w6
                go_wp2
                go_roundw
                case rel => exact ⟨2, q, by decide, rfl, rfl⟩
                case measure => simp [intOf]
        · have hd2' : ¬ ((d : Int) < 2) := by omega
          have F4 : Hid (Fr W (w3.drewN q) x r go ga p L s k a b v) := F3.out.below (below_drawn (Below.refl _ _) q)
          clear F3 hd hd2
          generalize w3.drewN q = w4 at F4 ⊢
          have o0 := F4.out.o0
          have o1 := F4.out.o1
          have o2 := F4.out.o2
          have o3 := F4.out.o3
          by_cases k4 : k = 4
          · subst k4
            as_aux_lemma =>
              obtain ⟨m, hm⟩ : ∃ m, topT s cc 7 = m := ⟨_, rfl⟩
              have m7 : m ≤ 7 := by rw [← hm]; exact topT_le s cc 7
              obtain ⟨s2, hs2⟩ : ∃ s2, claimS s m = s2 := ⟨_, rfl⟩
              have CB := claim_bits HI.out.d m m7
              rw [hs2] at CB
              have HR : Hid (∀ w, CodeAt w x r (cOf s) → ∀ z : Int, z = 8244 + 8 * cc → Calls Try.prog 11 #[.pointer (some ⟨x, 0, none⟩), .int .u32 z, .int .i64 4] w fun e W' => e = .returned (.tuple #[.int .u32 (m : Int), .bool true]) ∧ CodeAt W' x r (cOf s2) ∧ Offs [x, r] w W') := fun w h z hz => by
                have h2 := HC.out
                obtain rfl : z = ((8244 + 8 * cc : Nat) : Int) := by omega
                have := cread_any w x r _ h HI.out.ne (8244 + 8 * cc) (by omega) 4
                rw [read_claim HI.out.d HI.out.ram cc h2 _ rfl, hm, hs2] at this
                exact this
              have HD2 : Hid (Dvs s2) := by unfold Hid; rw [← hs2]; exact HI.out.d.claim m m7
              have HE2 : Hid (Ex s2) := by unfold Hid; rw [← hs2]; exact HI.out.e.claim HI.out.d m m7
              have HS2 : Hid (s2.soft = 0 ∧ s2.ram.length = 4) := by unfold Hid; rw [← hs2, (claim_soft s m).1, (claim_soft s m).2]; exact ⟨HI.out.soft, HI.out.ram⟩
              have HM : Hid (topT s cc 7 = m) := hm
              have hcc : (cc : Int) < 2 := by have := HC.out; omega
              clear hs2 hm
              go_wp2_with fail
              refine (HR.out _ F4.out.ci.c _ (by omega)).mono ?_
              rintro e w5 ⟨rfl, C5, o5⟩
              clear HR
              have D2 : Dvs s2 := HD2.out
              have F5 : Hid (Fr W w5 x r go ga p L s2 _ a b v) := F4.out.offs o5 (F4.out.ci.step C5 o5 D2 HE2.out HS2.out.1 HS2.out.2)
              obtain ⟨L2, hL2⟩ : ∃ L2, lookC (cOf s2) = L2 := ⟨_, rfl⟩
              have LK2 : Hid (Lk L2 s2) := by unfold Hid; rw [← hL2]; exact lk_look C5 D2
              have HL2 : Hid (∀ w, CodeAt w x r (cOf s2) → Calls Try.prog 9 #[.pointer (some ⟨x, 0, none⟩)] w fun e W'' => ∃ p : Pl, e = .returned (.agg #[.slice (some ⟨p.r, 0, none⟩) L2.regs.length p.cr, .int .u32 L2.pc, .int .i64 L2.mode, .bool L2.asleep, .slice (some ⟨p.c, 0, none⟩) L2.csrs.length p.cc, .string L2.ram, .slice (some ⟨p.k, 0, none⟩) L2.clock.length p.ck, .slice (some ⟨p.p, 0, none⟩) L2.prio.length p.cp, .int .u32 L2.pend, .int .u32 L2.served, .int .u32 L2.level, .slice (some ⟨p.e, 0, none⟩) L2.enable.length p.ce, .slice (some ⟨p.l, 0, none⟩) L2.limit.length p.cl]) ∧ StAt W'' p L2 ∧ p.Apart w.heap.size ∧ Below w.heap.size w W'') := fun w h => by have := look_any w x r _ h; rw [hL2] at this; exact this
              clear hL2
              clear C5 o5 F4 D2
              go_wp2_with fail
              refine (HL2.out _ F5.out.ci.c).mono ?_
              rintro e w6 ⟨p2, rfl, st2, ap2, b6⟩
              have bb := (Below.refl w6.heap.size w6).alloc (Nat.le_refl _) (.cells #[.slice (some ⟨p2.r, 0, none⟩) L2.regs.length p2.cr, .int .u32 L2.pc, .int .i64 L2.mode, .bool L2.asleep, .slice (some ⟨p2.c, 0, none⟩) L2.csrs.length p2.cc, .string L2.ram, .slice (some ⟨p2.k, 0, none⟩) L2.clock.length p2.ck, .slice (some ⟨p2.p, 0, none⟩) L2.prio.length p2.cp, .int .u32 L2.pend, .int .u32 L2.served, .int .u32 L2.level, .slice (some ⟨p2.e, 0, none⟩) L2.enable.length p2.ce, .slice (some ⟨p2.l, 0, none⟩) L2.limit.length p2.cl] 31)
              have F6 : Hid (Fr W (w6.alloc (.cells #[.slice (some ⟨p2.r, 0, none⟩) L2.regs.length p2.cr, .int .u32 L2.pc, .int .i64 L2.mode, .bool L2.asleep, .slice (some ⟨p2.c, 0, none⟩) L2.csrs.length p2.cc, .string L2.ram, .slice (some ⟨p2.k, 0, none⟩) L2.clock.length p2.ck, .slice (some ⟨p2.p, 0, none⟩) L2.prio.length p2.cp, .int .u32 L2.pend, .int .u32 L2.served, .int .u32 L2.level, .slice (some ⟨p2.e, 0, none⟩) L2.enable.length p2.ce, .slice (some ⟨p2.l, 0, none⟩) L2.limit.length p2.cl] 31)) x r go ga p L s2 _ a b v) := (F5.out.below b6).below bb
              have B6 : Hid (B13 (w6.alloc (.cells #[.slice (some ⟨p2.r, 0, none⟩) L2.regs.length p2.cr, .int .u32 L2.pc, .int .i64 L2.mode, .bool L2.asleep, .slice (some ⟨p2.c, 0, none⟩) L2.csrs.length p2.cc, .string L2.ram, .slice (some ⟨p2.k, 0, none⟩) L2.clock.length p2.ck, .slice (some ⟨p2.p, 0, none⟩) L2.prio.length p2.cp, .int .u32 L2.pend, .int .u32 L2.served, .int .u32 L2.level, .slice (some ⟨p2.e, 0, none⟩) L2.enable.length p2.ce, .slice (some ⟨p2.l, 0, none⟩) L2.limit.length p2.cl] 31)) w6.heap.size p2 L2) := B13.new w6 p2 L2
              clear bb b6 st2 ap2 F5 HL2
              obtain ⟨n0, n1, n2, n3, n4, n5, n6, n7, n8, n9, n10, n11, n12⟩ := F6.out.bA
              go_wp2_with fail
              refine (ktop_any _ p L F6.out.st s HI.out.d LKK.out.pend LKK.out.enable LKK.out.prio cc HC.out).mono ?_
              rintro e w7 ⟨rfl, b7⟩
              rw [HM.out]
              have F7 : Hid (Fr W w7 x r go ga p L s2 _ a b v) := F6.out.below b7
              have B7 : Hid (B13 w7 w6.heap.size p2 L2) := B6.out.below b7
              clear F6 B6 b7 n0 n1 n2 n3 n4 n5 n6 n7 n8 n9 n10 n11 n12
              generalize w6.heap.size = gb at B7 ⊢
              have q8 : w7.cell? ⟨ga, 8, none⟩ = some (.int .u32 (cOf s).pend) := by rw [← LKK.out.pend]; exact F7.out.bA.c8
              have q9 : w7.cell? ⟨ga, 9, none⟩ = some (.int .u32 (cOf s).served) := by rw [← LKK.out.served]; exact F7.out.bA.c9
              have q10 : w7.cell? ⟨ga, 10, none⟩ = some (.int .u32 (cOf s).level) := by rw [← LKK.out.level]; exact F7.out.bA.c10
              have r8 : w7.cell? ⟨gb, 8, none⟩ = some (.int .u32 (cOf s2).pend) := by rw [← LK2.out.pend]; exact B7.out.c8
              have r9 : w7.cell? ⟨gb, 9, none⟩ = some (.int .u32 (cOf s2).served) := by rw [← LK2.out.served]; exact B7.out.c9
              rw [CB.1] at r8
              rw [CB.2] at r9
              have hk : (2 : Int) ^ m % 4294967296 = ((2 ^ m : Nat) : Int) := p2_int m m7
              have hm7 : (m : Int) ≤ 7 := by omega
              clear CB HM m7
              generalize ((2 ^ m : Nat) : Int) = bz at hk r8 r9
              go_wp2_with fail
              go_roundw
              case rel => exact ⟨i + 1, by omega, by go_num, ⟨_, F7.out.ci⟩⟩
              case measure => simp [intOf]; omega
          by_cases k5 : k = 5
          · subst k5
            as_aux_lemma =>
              obtain ⟨s2, hs2⟩ : ∃ s2, complR s cc v = s2 := ⟨_, rfl⟩
              have HR : Hid (∀ w, CodeAt w x r (cOf s) → ∀ z : Int, z = 8244 + 8 * cc → Calls Try.prog 10 #[.pointer (some ⟨x, 0, none⟩), .int .u32 z, .int .i64 4, .int .u32 v] w fun e W' => e = .returned (.bool true) ∧ CodeAt W' x r (cOf s2) ∧ Offs [x, r] w W') := fun w h z hz => by
                have h2 := HC.out
                have h3 := HV.out
                obtain rfl : z = ((8244 + 8 * cc : Nat) : Int) := by omega
                have := cwrite_any w x r _ h HI.out.ne (8244 + 8 * cc) (by omega) 4 v (by omega) (by omega)
                rw [write_claim HI.out.d HI.out.ram cc h2 _ rfl, hs2] at this
                exact this
              have HD2 : Hid (Dvs s2) := by unfold Hid; rw [← hs2]; exact HI.out.d.compl cc v
              have HE2 : Hid (Ex s2) := by unfold Hid; rw [← hs2]; exact HI.out.e.compl HI.out.d cc v
              have HS2 : Hid (s2.soft = 0 ∧ s2.ram.length = 4) := by unfold Hid; rw [← hs2, (compl_soft s cc v).1, (compl_soft s cc v).2]; exact ⟨HI.out.soft, HI.out.ram⟩
              have HZ : Hid (complR s cc v = s2) := hs2
              have hcc : (cc : Int) < 2 := by have := HC.out; omega
              clear hs2
              go_wp2_with fail
              refine (HR.out _ F4.out.ci.c _ (by omega)).mono ?_
              rintro e w5 ⟨rfl, C5, o5⟩
              clear HR
              have D2 : Dvs s2 := HD2.out
              have F5 : Hid (Fr W w5 x r go ga p L s2 _ a b v) := F4.out.offs o5 (F4.out.ci.step C5 o5 D2 HE2.out HS2.out.1 HS2.out.2)
              obtain ⟨L2, hL2⟩ : ∃ L2, lookC (cOf s2) = L2 := ⟨_, rfl⟩
              have LK2 : Hid (Lk L2 s2) := by unfold Hid; rw [← hL2]; exact lk_look C5 D2
              have HL2 : Hid (∀ w, CodeAt w x r (cOf s2) → Calls Try.prog 9 #[.pointer (some ⟨x, 0, none⟩)] w fun e W'' => ∃ p : Pl, e = .returned (.agg #[.slice (some ⟨p.r, 0, none⟩) L2.regs.length p.cr, .int .u32 L2.pc, .int .i64 L2.mode, .bool L2.asleep, .slice (some ⟨p.c, 0, none⟩) L2.csrs.length p.cc, .string L2.ram, .slice (some ⟨p.k, 0, none⟩) L2.clock.length p.ck, .slice (some ⟨p.p, 0, none⟩) L2.prio.length p.cp, .int .u32 L2.pend, .int .u32 L2.served, .int .u32 L2.level, .slice (some ⟨p.e, 0, none⟩) L2.enable.length p.ce, .slice (some ⟨p.l, 0, none⟩) L2.limit.length p.cl]) ∧ StAt W'' p L2 ∧ p.Apart w.heap.size ∧ Below w.heap.size w W'') := fun w h => by have := look_any w x r _ h; rw [hL2] at this; exact this
              clear hL2
              clear C5 o5 F4 D2
              go_wp2_with fail
              refine (HL2.out _ F5.out.ci.c).mono ?_
              rintro e w6 ⟨p2, rfl, st2, ap2, b6⟩
              have bb := (Below.refl w6.heap.size w6).alloc (Nat.le_refl _) (.cells #[.slice (some ⟨p2.r, 0, none⟩) L2.regs.length p2.cr, .int .u32 L2.pc, .int .i64 L2.mode, .bool L2.asleep, .slice (some ⟨p2.c, 0, none⟩) L2.csrs.length p2.cc, .string L2.ram, .slice (some ⟨p2.k, 0, none⟩) L2.clock.length p2.ck, .slice (some ⟨p2.p, 0, none⟩) L2.prio.length p2.cp, .int .u32 L2.pend, .int .u32 L2.served, .int .u32 L2.level, .slice (some ⟨p2.e, 0, none⟩) L2.enable.length p2.ce, .slice (some ⟨p2.l, 0, none⟩) L2.limit.length p2.cl] 31)
              have F6 : Hid (Fr W (w6.alloc (.cells #[.slice (some ⟨p2.r, 0, none⟩) L2.regs.length p2.cr, .int .u32 L2.pc, .int .i64 L2.mode, .bool L2.asleep, .slice (some ⟨p2.c, 0, none⟩) L2.csrs.length p2.cc, .string L2.ram, .slice (some ⟨p2.k, 0, none⟩) L2.clock.length p2.ck, .slice (some ⟨p2.p, 0, none⟩) L2.prio.length p2.cp, .int .u32 L2.pend, .int .u32 L2.served, .int .u32 L2.level, .slice (some ⟨p2.e, 0, none⟩) L2.enable.length p2.ce, .slice (some ⟨p2.l, 0, none⟩) L2.limit.length p2.cl] 31)) x r go ga p L s2 _ a b v) := (F5.out.below b6).below bb
              have B6 : Hid (B13 (w6.alloc (.cells #[.slice (some ⟨p2.r, 0, none⟩) L2.regs.length p2.cr, .int .u32 L2.pc, .int .i64 L2.mode, .bool L2.asleep, .slice (some ⟨p2.c, 0, none⟩) L2.csrs.length p2.cc, .string L2.ram, .slice (some ⟨p2.k, 0, none⟩) L2.clock.length p2.ck, .slice (some ⟨p2.p, 0, none⟩) L2.prio.length p2.cp, .int .u32 L2.pend, .int .u32 L2.served, .int .u32 L2.level, .slice (some ⟨p2.e, 0, none⟩) L2.enable.length p2.ce, .slice (some ⟨p2.l, 0, none⟩) L2.limit.length p2.cl] 31)) w6.heap.size p2 L2) := B13.new w6 p2 L2
              clear bb b6 st2 ap2 F5 HL2
              have q8 : (w6.alloc (.cells #[.slice (some ⟨p2.r, 0, none⟩) L2.regs.length p2.cr, .int .u32 L2.pc, .int .i64 L2.mode, .bool L2.asleep, .slice (some ⟨p2.c, 0, none⟩) L2.csrs.length p2.cc, .string L2.ram, .slice (some ⟨p2.k, 0, none⟩) L2.clock.length p2.ck, .slice (some ⟨p2.p, 0, none⟩) L2.prio.length p2.cp, .int .u32 L2.pend, .int .u32 L2.served, .int .u32 L2.level, .slice (some ⟨p2.e, 0, none⟩) L2.enable.length p2.ce, .slice (some ⟨p2.l, 0, none⟩) L2.limit.length p2.cl] 31)).cell? ⟨ga, 8, none⟩ = some (.int .u32 (cOf s).pend) := by rw [← LKK.out.pend]; exact F6.out.bA.c8
              have q9 : (w6.alloc (.cells #[.slice (some ⟨p2.r, 0, none⟩) L2.regs.length p2.cr, .int .u32 L2.pc, .int .i64 L2.mode, .bool L2.asleep, .slice (some ⟨p2.c, 0, none⟩) L2.csrs.length p2.cc, .string L2.ram, .slice (some ⟨p2.k, 0, none⟩) L2.clock.length p2.ck, .slice (some ⟨p2.p, 0, none⟩) L2.prio.length p2.cp, .int .u32 L2.pend, .int .u32 L2.served, .int .u32 L2.level, .slice (some ⟨p2.e, 0, none⟩) L2.enable.length p2.ce, .slice (some ⟨p2.l, 0, none⟩) L2.limit.length p2.cl] 31)).cell? ⟨ga, 9, none⟩ = some (.int .u32 (cOf s).served) := by rw [← LKK.out.served]; exact F6.out.bA.c9
              have q10 : (w6.alloc (.cells #[.slice (some ⟨p2.r, 0, none⟩) L2.regs.length p2.cr, .int .u32 L2.pc, .int .i64 L2.mode, .bool L2.asleep, .slice (some ⟨p2.c, 0, none⟩) L2.csrs.length p2.cc, .string L2.ram, .slice (some ⟨p2.k, 0, none⟩) L2.clock.length p2.ck, .slice (some ⟨p2.p, 0, none⟩) L2.prio.length p2.cp, .int .u32 L2.pend, .int .u32 L2.served, .int .u32 L2.level, .slice (some ⟨p2.e, 0, none⟩) L2.enable.length p2.ce, .slice (some ⟨p2.l, 0, none⟩) L2.limit.length p2.cl] 31)).cell? ⟨ga, 10, none⟩ = some (.int .u32 (cOf s).level) := by rw [← LKK.out.level]; exact F6.out.bA.c10
              have r8 : (w6.alloc (.cells #[.slice (some ⟨p2.r, 0, none⟩) L2.regs.length p2.cr, .int .u32 L2.pc, .int .i64 L2.mode, .bool L2.asleep, .slice (some ⟨p2.c, 0, none⟩) L2.csrs.length p2.cc, .string L2.ram, .slice (some ⟨p2.k, 0, none⟩) L2.clock.length p2.ck, .slice (some ⟨p2.p, 0, none⟩) L2.prio.length p2.cp, .int .u32 L2.pend, .int .u32 L2.served, .int .u32 L2.level, .slice (some ⟨p2.e, 0, none⟩) L2.enable.length p2.ce, .slice (some ⟨p2.l, 0, none⟩) L2.limit.length p2.cl] 31)).cell? ⟨w6.heap.size, 8, none⟩ = some (.int .u32 (cOf s2).pend) := by rw [← LK2.out.pend]; exact B6.out.c8
              have r9 : (w6.alloc (.cells #[.slice (some ⟨p2.r, 0, none⟩) L2.regs.length p2.cr, .int .u32 L2.pc, .int .i64 L2.mode, .bool L2.asleep, .slice (some ⟨p2.c, 0, none⟩) L2.csrs.length p2.cc, .string L2.ram, .slice (some ⟨p2.k, 0, none⟩) L2.clock.length p2.ck, .slice (some ⟨p2.p, 0, none⟩) L2.prio.length p2.cp, .int .u32 L2.pend, .int .u32 L2.served, .int .u32 L2.level, .slice (some ⟨p2.e, 0, none⟩) L2.enable.length p2.ce, .slice (some ⟨p2.l, 0, none⟩) L2.limit.length p2.cl] 31)).cell? ⟨w6.heap.size, 9, none⟩ = some (.int .u32 (cOf s2).served) := by rw [← LK2.out.served]; exact B6.out.c9
              have q3 : (w6.alloc (.cells #[.slice (some ⟨p2.r, 0, none⟩) L2.regs.length p2.cr, .int .u32 L2.pc, .int .i64 L2.mode, .bool L2.asleep, .slice (some ⟨p2.c, 0, none⟩) L2.csrs.length p2.cc, .string L2.ram, .slice (some ⟨p2.k, 0, none⟩) L2.clock.length p2.ck, .slice (some ⟨p2.p, 0, none⟩) L2.prio.length p2.cp, .int .u32 L2.pend, .int .u32 L2.served, .int .u32 L2.level, .slice (some ⟨p2.e, 0, none⟩) L2.enable.length p2.ce, .slice (some ⟨p2.l, 0, none⟩) L2.limit.length p2.cl] 31)).cell? ⟨go, 3, none⟩ = some (.int .u32 v) := F6.out.o3
              by_cases v7 : v ≤ 7
              · have CB := compl_bits HI.out.d cc (enAt_w HI.out.d cc HC.out) v v7
                rw [HZ.out] at CB
                rw [CB.2] at r8
                rw [CB.1] at r9
                have hk : (2 : Int) ^ v % 4294967296 = ((2 ^ v : Nat) : Int) := p2_int v v7
                have hv7 : (v : Int) ≤ 7 := by omega
                have q11 : (w6.alloc (.cells #[.slice (some ⟨p2.r, 0, none⟩) L2.regs.length p2.cr, .int .u32 L2.pc, .int .i64 L2.mode, .bool L2.asleep, .slice (some ⟨p2.c, 0, none⟩) L2.csrs.length p2.cc, .string L2.ram, .slice (some ⟨p2.k, 0, none⟩) L2.clock.length p2.ck, .slice (some ⟨p2.p, 0, none⟩) L2.prio.length p2.cp, .int .u32 L2.pend, .int .u32 L2.served, .int .u32 L2.level, .slice (some ⟨p2.e, 0, none⟩) L2.enable.length p2.ce, .slice (some ⟨p2.l, 0, none⟩) L2.limit.length p2.cl] 31)).cell? ⟨ga, 11, none⟩ = some (.slice (some ⟨p.e, 0, none⟩) 2 p.ce) := by have := F6.out.bA.c11; rw [LKK.out.f.enable] at this; exact this
                have qe : (w6.alloc (.cells #[.slice (some ⟨p2.r, 0, none⟩) L2.regs.length p2.cr, .int .u32 L2.pc, .int .i64 L2.mode, .bool L2.asleep, .slice (some ⟨p2.c, 0, none⟩) L2.csrs.length p2.cc, .string L2.ram, .slice (some ⟨p2.k, 0, none⟩) L2.clock.length p2.ck, .slice (some ⟨p2.p, 0, none⟩) L2.prio.length p2.cp, .int .u32 L2.pend, .int .u32 L2.served, .int .u32 L2.level, .slice (some ⟨p2.e, 0, none⟩) L2.enable.length p2.ce, .slice (some ⟨p2.l, 0, none⟩) L2.limit.length p2.cl] 31)).cell? ⟨p.e, cc, none⟩ = some (.int .u32 (enAt s cc)) := (F6.out.st.enable.cell cc (by rw [LKK.out.f.enable]; exact HC.out)).trans (by rw [LKK.out.enable, List.getD_eq_getElem?_getD]; rfl)
                clear CB HZ v7
                generalize ((2 ^ v : Nat) : Int) = bz at hk r8 r9
                go_wp2_with fail
                go_quiet (fail)
                go_wp2_with fail
                go_roundw
                case rel => exact ⟨i + 1, by omega, by go_num, ⟨_, F6.out.ci.below (below_drawn (Below.refl _ _) _)⟩⟩
                case measure => simp [intOf]; omega
              · have CB := compl_far (s := s) cc v v7
                rw [HZ.out] at CB
                rw [CB.2] at r8
                rw [CB.1] at r9
                have hv7 : ¬ ((v : Int) ≤ 7) := by omega
                clear CB HZ v7
                go_wp2_with fail
                go_roundw
                case rel => exact ⟨i + 1, by omega, by go_num, ⟨_, F6.out.ci⟩⟩
                case measure => simp [intOf]; omega
          by_cases k2 : k = 2
          · subst k2
            as_aux_lemma =>
              by_cases ha : 1 ≤ a ∧ a ≤ 7
              · obtain ⟨n, rfl⟩ : ∃ n : Nat, a = n := ⟨a.toNat, by omega⟩
                have HR : Hid (∀ w, CodeAt w x r (cOf s) → ∀ hi : Bool, Calls Try.prog 12 #[.pointer (some ⟨x, 0, none⟩), .int .i64 n, .bool hi] w fun e W' => e = .returned (.tuple #[]) ∧ CodeAt W' x r (cOf (lineR s n hi)) ∧ Offs [x, r] w W') := fun w h hi => by
                  rw [cOf_line HI.out.d n (by omega) (by omega) hi]
                  exact hline_any w x r _ h HI.out.ne n (by omega) (by omega) hi
                have n7 : Hid (n ≤ 7) := by unfold Hid; omega
                clear ha hA
                go_wp2_with fail
                refine (HR.out _ F4.out.ci.c _).mono ?_
                rintro e w5 ⟨rfl, C5, o5⟩
                have F5 := F4.out.ci.step C5 o5 (HI.out.d.line n n7.out _) (HI.out.e.line HI.out.d n n7.out _) ((line_soft s n _).1.trans HI.out.soft) (by rw [(line_soft s n _).2]; exact HI.out.ram)
                clear C5 o5 HR F4
                go_wp2_with fail
                go_roundw
                case rel => exact ⟨i + 1, by omega, by go_num, ⟨_, F5⟩⟩
                case measure => simp [intOf]; omega
              · have HR : Hid (∀ w, ∀ hi : Bool, Calls Try.prog 12 #[.pointer (some ⟨x, 0, none⟩), .int .i64 a, .bool hi] w fun e W' => e = .returned (.tuple #[]) ∧ W' = w) := fun w hi => hline_no w x a hi (by omega)
                clear ha
                go_wp2_with fail
                refine (HR.out _ _).mono ?_
                rintro e w5 ⟨rfl, hw⟩
                rw [hw]
                clear hw w5
                go_wp2_with fail
                go_roundw
                case rel => exact ⟨i + 1, by omega, by go_num, ⟨_, F4.out.ci⟩⟩
                case measure => simp [intOf]; omega
          by_cases k3 : k = 3
          · subst k3
            as_aux_lemma =>
              have hB : bits .and .i64 b 15 = b % 16 := i64_mask b 4 15 (by decide) (by decide)
              obtain ⟨bn, hbn⟩ : ∃ bn : Nat, b % 16 = bn := ⟨(b % 16).toNat, by omega⟩
              rw [hbn] at hB
              have hb16 : (bn : Int) < 16 := by omega
              have HR : Hid (∀ w, CodeAt w x r (cOf s) → ∀ z : Int, z = 8192 + 4 * bn → Calls Try.prog 10 #[.pointer (some ⟨x, 0, none⟩), .int .u32 z, .int .i64 4, .int .u32 v] w fun e W' => e = .returned (.bool (setR s (8192 + 4 * bn) v).2) ∧ CodeAt W' x r (cOf (setR s (8192 + 4 * bn) v).1) ∧ Offs [x, r] w W') := fun w h z hz => by
                have h3 := HV.out
                obtain rfl : z = ((8192 + 4 * bn : Nat) : Int) := by omega
                have := cwrite_any w x r _ h HI.out.ne (8192 + 4 * bn) (by omega) 4 v (by omega) (by omega)
                rw [write_word HI.out.d HI.out.ram _ (by omega)] at this
                exact this
              clear hbn
              go_wp2_with fail
              refine (HR.out _ F4.out.ci.c _ (by omega)).mono ?_
              rintro e w5 ⟨rfl, C5, o5⟩
              have F5 := F4.out.ci.step C5 o5 (HI.out.d.set _ _ ⟨by omega, by have := HV.out; omega⟩) (HI.out.e.set HI.out.d _ _) ((set_soft s _ _).1.trans HI.out.soft) (by rw [(set_soft s _ _).2]; exact HI.out.ram)
              clear C5 o5 HR F4
              go_wp2_with fail
              go_roundw
              case rel => exact ⟨i + 1, by omega, by go_num, ⟨_, F5⟩⟩
              case measure => simp [intOf]; omega
          as_aux_lemma =>
            go_wp2_with fail
            go_roundw
            case rel => exact ⟨i + 1, by omega, by go_num, ⟨_, F4.out.ci⟩⟩
            case measure => simp [intOf]; omega
    · have hlt' : ¬ ((i : Int) < N) := by omega
      obtain ⟨s, I⟩ := hI.out
      have HB : Hid (Below W.heap.size W wr) := I.bel
      clear I hI
      go_wp2
      go_ret
      exact ⟨rfl, HB.out⟩
end Go.Proofs.Yteiideeechnekaa
