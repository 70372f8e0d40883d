/-
  hartkeep's set and top.
-/
import Derived.Test.YteiideeechnekaaKeepLaw
import Derived.Test.YteiideeechnekaaKeepPure
namespace Go.Proofs.Yteiideeechnekaa
open Go.RowKit

theorem tW {ops : Array Oper} {Q : Exit → Act → World → Prop} {S : World → Prop} (i : Nat) {v : Value} {A : Addr} {X : Operand} {oi : Oper} {fuel : Nat} {listed : Array Bool} {a : Act} {w : World} (hi : ops[i]? = some oi) (hop : oi.op = .load 29 X)
    (h4 : (Region.noSelect ops && Region.free .any ops listed i && (Region.ready .any ops listed).contains i && Region.wanted oi (yielded ops a.tmps)) = true) (hQ : ∀ c a w, Q (.panic c) (a.put oi.dst v) w → Q (.panic c) a w)
    (he : a.eval X = .pointer (some A)) (hc : ∀ w, S w → w.cell? A = some v) (hS : S w) (h : wpAnyH Try.prog .any ops Q S fuel (listed.setIfInBounds i true) (a.put oi.dst v) w) : wpAnyH Try.prog .any ops Q S (fuel + 1) listed a w :=
  tL i hi hop h4 hQ he (fun w h => by simp [Instr.loadAt, go_sem, h]) hc hS h
theorem tY {ops : Array Oper} {Q : Exit → Act → World → Prop} {S : World → Prop} (i : Nat) {g k n cap : Nat} {X Y : Operand} {oi : Oper} {fuel : Nat} {listed : Array Bool} {a : Act} {w : World} (hi : ops[i]? = some oi) (hop : oi.op = .indexAddr 29 X Y)
    (h4 : (Region.noSelect ops && Region.free .any ops listed i && (Region.ready .any ops listed).contains i && Region.wanted oi (yielded ops a.tmps)) = true) (hQ : ∀ c a w, Q (.panic c) (a.put oi.dst (.pointer (some ⟨g, k, none⟩))) w → Q (.panic c) a w)
    (hx : a.eval X = .slice (some ⟨g, 0, none⟩) n cap) (hy : a.eval Y = .int .i64 k) (hk : (k : Int) < n) (hS : S w) (h : wpAnyH Try.prog .any ops Q S fuel (listed.setIfInBounds i true) (a.put oi.dst (.pointer (some ⟨g, k, none⟩))) w) : wpAnyH Try.prog .any ops Q S (fuel + 1) listed a w := by
  simp only [Bool.and_eq_true] at h4
  exact wpAnyH_take hi h4.1.1.1 h4.1.1.2 h4.1.2 hQ (Or.inl ⟨h4.2, fun w _ => by
    unfold execOp
    rw [hop]
    simp [hx, hy]
    go_simp⟩) hS h
/-- The region's end, the frame written out. -/
theorem tZ {P : Program} {ops : Array Oper} {Q : Exit → Act → World → Prop} {S : World → Prop} {fuel : Nat} {listed : Array Bool} {a : Act} {w : World} (a' : Act) (hr : Region.ready .any ops listed = []) (he : a = a') (h : Q .normal a' w) : wpAnyH P .any ops Q S fuel listed a w := by
  subst he
  exact wpAnyH_done hr h fuel
theorem tF {P : Program} {ops : Array Oper} {Q : Exit → Act → World → Prop} {S : World → Prop} {fuel : Nat} {listed : Array Bool} {a : Act} {w : World} (a' : Act) (he : a = a') (h : wpAnyH P .any ops Q S fuel listed a' w) : wpAnyH P .any ops Q S fuel listed a w := by
  subst he
  exact h
/-- A comparison whose answer is known. -/
theorem tQ {P : Program} {ops : Array Oper} {Q : Exit → Act → World → Prop} {S : World → Prop} (i : Nat) (b c : Bool) (hb : b = c) {oi : Oper} {fuel : Nat} {listed : Array Bool} {a : Act} {w : World} (hi : ops[i]? = some oi)
    (h4 : (Region.noSelect ops && Region.free .any ops listed i && (Region.ready .any ops listed).contains i && Region.wanted oi (yielded ops a.tmps)) = true) (hQ : ∀ d a w, Q (.panic d) (a.put oi.dst (.bool c)) w → Q (.panic d) a w)
    (hx : ∀ w, (execOp a.eval oi).run P w = .ok (.value (.bool b)) w) (hS : S w) (h : wpAnyH P .any ops Q S fuel (listed.setIfInBounds i true) (a.put oi.dst (.bool c)) w) : wpAnyH P .any ops Q S (fuel + 1) listed a w := by
  subst hb
  exact tK i (.bool b) hi h4 hQ hx hS h
theorem kset_any (W : World) (v : Int) (k : Nat) (hk : (k : Int) < 32) :
    Calls Try.prog 18 #[.int .u32 v, .int .i64 k] W fun e W' => e = .returned (.bool (isB v k)) ∧ W' = W := by
  go_enter Try.func18, Try.ntmps18
  go_wp2
  go_ret
  exact ⟨rfl, rfl⟩
theorem kset_is (W : World) (v : Int) (k : Nat) (hk : (k : Int) < 32) (b : Bool) (h : isB v k = b) :
    Calls Try.prog 18 #[.int .u32 v, .int .i64 k] W fun e W' => e = .returned (.bool b) ∧ W' = W := by
  rw [← h]
  exact kset_any W v k hk
theorem topT_yes {s : RSt} {c j : Nat} (h : pickT s c (7 - j) (topT s c j) = true) : topT s c (j + 1) = 7 - j := by
  conv => lhs; unfold topT
  rw [if_pos h]
theorem topT_no {s : RSt} {c j : Nat} (h : pickT s c (7 - j) (topT s c j) = false) : topT s c (j + 1) = topT s c j := by
  conv => lhs; unfold topT
  rw [if_neg (by rw [h]; decide)]
set_option maxHeartbeats 4000000 in
set_option maxRecDepth 100000 in
theorem ktop_any (W : World) (p : Pl) (L : LSt) (st : StAt W p L) (s : RSt) (D : Dvs s) (e1 : L.pend = (cOf s).pend) (e2 : L.enable = s.enable) (e3 : L.prio = s.src.map (·.prio)) (c : Nat) (hc : c < 2) :
    Calls Try.prog 19 #[.agg #[.slice (some ⟨p.r, 0, none⟩) L.regs.length p.cr, .int .u32 L.pc, .int .i64 L.mode, .bool L.asleep, .slice (some ⟨p.c, 0, none⟩) L.csrs.length p.cc, .string L.ram, .slice (some ⟨p.k, 0, none⟩) L.clock.length p.ck, .slice (some ⟨p.p, 0, none⟩) L.prio.length p.cp, .int .u32 L.pend, .int .u32 L.served, .int .u32 L.level, .slice (some ⟨p.e, 0, none⟩) L.enable.length p.ce, .slice (some ⟨p.l, 0, none⟩) L.limit.length p.cl], .int .i64 c] W fun e W' => e = .returned (.int .i64 (topT s c 7 : Nat)) ∧ Below W.heap.size W W' := by
  have l2 : L.enable.length = 2 := by rw [e2]; exact D.nen
  have l8 : L.prio.length = 8 := by rw [e3, List.length_map]; exact D.nsrc
  have hB : Below W.heap.size W (W.alloc (.cells #[.slice (some ⟨p.r, 0, none⟩) L.regs.length p.cr, .int .u32 L.pc, .int .i64 L.mode, .bool L.asleep, .slice (some ⟨p.c, 0, none⟩) L.csrs.length p.cc, .string L.ram, .slice (some ⟨p.k, 0, none⟩) L.clock.length p.ck, .slice (some ⟨p.p, 0, none⟩) L.prio.length p.cp, .int .u32 L.pend, .int .u32 L.served, .int .u32 L.level, .slice (some ⟨p.e, 0, none⟩) L.enable.length p.ce, .slice (some ⟨p.l, 0, none⟩) L.limit.length p.cl] 31)) := (Below.refl _ _).alloc (Nat.le_refl _) _
  have HB : Hid (Below W.heap.size W (W.alloc (.cells #[.slice (some ⟨p.r, 0, none⟩) L.regs.length p.cr, .int .u32 L.pc, .int .i64 L.mode, .bool L.asleep, .slice (some ⟨p.c, 0, none⟩) L.csrs.length p.cc, .string L.ram, .slice (some ⟨p.k, 0, none⟩) L.clock.length p.ck, .slice (some ⟨p.p, 0, none⟩) L.prio.length p.cp, .int .u32 L.pend, .int .u32 L.served, .int .u32 L.level, .slice (some ⟨p.e, 0, none⟩) L.enable.length p.ce, .slice (some ⟨p.l, 0, none⟩) L.limit.length p.cl] 31))) := hB
  have st1 := st.below hB
  have HE : Hid (∀ i, i < 2 → (W.alloc (.cells #[.slice (some ⟨p.r, 0, none⟩) L.regs.length p.cr, .int .u32 L.pc, .int .i64 L.mode, .bool L.asleep, .slice (some ⟨p.c, 0, none⟩) L.csrs.length p.cc, .string L.ram, .slice (some ⟨p.k, 0, none⟩) L.clock.length p.ck, .slice (some ⟨p.p, 0, none⟩) L.prio.length p.cp, .int .u32 L.pend, .int .u32 L.served, .int .u32 L.level, .slice (some ⟨p.e, 0, none⟩) L.enable.length p.ce, .slice (some ⟨p.l, 0, none⟩) L.limit.length p.cl] 31)).cell? ⟨p.e, i, none⟩ = some (.int .u32 (enAt s i))) := fun i hi => by
    exact (st1.enable.cell i (by omega)).trans (by rw [e2, List.getD_eq_getElem?_getD]; rfl)
  have HP : Hid (∀ i, i < 8 → (W.alloc (.cells #[.slice (some ⟨p.r, 0, none⟩) L.regs.length p.cr, .int .u32 L.pc, .int .i64 L.mode, .bool L.asleep, .slice (some ⟨p.c, 0, none⟩) L.csrs.length p.cc, .string L.ram, .slice (some ⟨p.k, 0, none⟩) L.clock.length p.ck, .slice (some ⟨p.p, 0, none⟩) L.prio.length p.cp, .int .u32 L.pend, .int .u32 L.served, .int .u32 L.level, .slice (some ⟨p.e, 0, none⟩) L.enable.length p.ce, .slice (some ⟨p.l, 0, none⟩) L.limit.length p.cl] 31)).cell? ⟨p.p, i, none⟩ = some (.int .u32 (srcAt s i).prio)) := fun i hi => by
    exact (st1.prio.cell i (by omega)).trans (by rw [e3, List.getD_eq_getElem?_getD, prio_at s i])
  have q8 : (W.alloc (.cells #[.slice (some ⟨p.r, 0, none⟩) L.regs.length p.cr, .int .u32 L.pc, .int .i64 L.mode, .bool L.asleep, .slice (some ⟨p.c, 0, none⟩) L.csrs.length p.cc, .string L.ram, .slice (some ⟨p.k, 0, none⟩) L.clock.length p.ck, .slice (some ⟨p.p, 0, none⟩) L.prio.length p.cp, .int .u32 L.pend, .int .u32 L.served, .int .u32 L.level, .slice (some ⟨p.e, 0, none⟩) L.enable.length p.ce, .slice (some ⟨p.l, 0, none⟩) L.limit.length p.cl] 31)).cell? ⟨W.heap.size, 8, none⟩ = some (.int .u32 (cOf s).pend) := by rw [← e1]; exact (cell_of_row _ W.heap.size 8 _ _ (0, 0) (heap_alloc_new W _)).trans rfl
  have q11 : (W.alloc (.cells #[.slice (some ⟨p.r, 0, none⟩) L.regs.length p.cr, .int .u32 L.pc, .int .i64 L.mode, .bool L.asleep, .slice (some ⟨p.c, 0, none⟩) L.csrs.length p.cc, .string L.ram, .slice (some ⟨p.k, 0, none⟩) L.clock.length p.ck, .slice (some ⟨p.p, 0, none⟩) L.prio.length p.cp, .int .u32 L.pend, .int .u32 L.served, .int .u32 L.level, .slice (some ⟨p.e, 0, none⟩) L.enable.length p.ce, .slice (some ⟨p.l, 0, none⟩) L.limit.length p.cl] 31)).cell? ⟨W.heap.size, 11, none⟩ = some (.slice (some ⟨p.e, 0, none⟩) 2 p.ce) := by rw [← l2]; exact (cell_of_row _ W.heap.size 11 _ _ (0, 0) (heap_alloc_new W _)).trans rfl
  have q7 : (W.alloc (.cells #[.slice (some ⟨p.r, 0, none⟩) L.regs.length p.cr, .int .u32 L.pc, .int .i64 L.mode, .bool L.asleep, .slice (some ⟨p.c, 0, none⟩) L.csrs.length p.cc, .string L.ram, .slice (some ⟨p.k, 0, none⟩) L.clock.length p.ck, .slice (some ⟨p.p, 0, none⟩) L.prio.length p.cp, .int .u32 L.pend, .int .u32 L.served, .int .u32 L.level, .slice (some ⟨p.e, 0, none⟩) L.enable.length p.ce, .slice (some ⟨p.l, 0, none⟩) L.limit.length p.cl] 31)).cell? ⟨W.heap.size, 7, none⟩ = some (.slice (some ⟨p.p, 0, none⟩) 8 p.cp) := by rw [← l8]; exact (cell_of_row _ W.heap.size 7 _ _ (0, 0) (heap_alloc_new W _)).trans rfl
  have Q : Hid ((W.alloc (.cells #[.slice (some ⟨p.r, 0, none⟩) L.regs.length p.cr, .int .u32 L.pc, .int .i64 L.mode, .bool L.asleep, .slice (some ⟨p.c, 0, none⟩) L.csrs.length p.cc, .string L.ram, .slice (some ⟨p.k, 0, none⟩) L.clock.length p.ck, .slice (some ⟨p.p, 0, none⟩) L.prio.length p.cp, .int .u32 L.pend, .int .u32 L.served, .int .u32 L.level, .slice (some ⟨p.e, 0, none⟩) L.enable.length p.ce, .slice (some ⟨p.l, 0, none⟩) L.limit.length p.cl] 31)).cell? ⟨W.heap.size, 8, none⟩ = some (.int .u32 (cOf s).pend) ∧ (W.alloc (.cells #[.slice (some ⟨p.r, 0, none⟩) L.regs.length p.cr, .int .u32 L.pc, .int .i64 L.mode, .bool L.asleep, .slice (some ⟨p.c, 0, none⟩) L.csrs.length p.cc, .string L.ram, .slice (some ⟨p.k, 0, none⟩) L.clock.length p.ck, .slice (some ⟨p.p, 0, none⟩) L.prio.length p.cp, .int .u32 L.pend, .int .u32 L.served, .int .u32 L.level, .slice (some ⟨p.e, 0, none⟩) L.enable.length p.ce, .slice (some ⟨p.l, 0, none⟩) L.limit.length p.cl] 31)).cell? ⟨W.heap.size, 11, none⟩ = some (.slice (some ⟨p.e, 0, none⟩) 2 p.ce) ∧ (W.alloc (.cells #[.slice (some ⟨p.r, 0, none⟩) L.regs.length p.cr, .int .u32 L.pc, .int .i64 L.mode, .bool L.asleep, .slice (some ⟨p.c, 0, none⟩) L.csrs.length p.cc, .string L.ram, .slice (some ⟨p.k, 0, none⟩) L.clock.length p.ck, .slice (some ⟨p.p, 0, none⟩) L.prio.length p.cp, .int .u32 L.pend, .int .u32 L.served, .int .u32 L.level, .slice (some ⟨p.e, 0, none⟩) L.enable.length p.ce, .slice (some ⟨p.l, 0, none⟩) L.limit.length p.cl] 31)).cell? ⟨W.heap.size, 7, none⟩ = some (.slice (some ⟨p.p, 0, none⟩) 8 p.cp)) := ⟨q8, q11, q7⟩
  have hc2 : (c : Int) < (2 : Nat) := by omega
  have HC : Hid (c < 2) := hc
  clear st st1 hB e1 e2 e3 l2 l8 q8 q11 q7 hc
  go_enter Try.func19, Try.ntmps19
  go_wp2_with fail
  generalize W.alloc (.cells #[.slice (some ⟨p.r, 0, none⟩) L.regs.length p.cr, .int .u32 L.pc, .int .i64 L.mode, .bool L.asleep, .slice (some ⟨p.c, 0, none⟩) L.csrs.length p.cc, .string L.ram, .slice (some ⟨p.k, 0, none⟩) L.clock.length p.ck, .slice (some ⟨p.p, 0, none⟩) L.prio.length p.cp, .int .u32 L.pend, .int .u32 L.served, .int .u32 L.level, .slice (some ⟨p.e, 0, none⟩) L.enable.length p.ce, .slice (some ⟨p.l, 0, none⟩) L.limit.length p.cl] 31) = W1 at HB HE HP Q ⊢
  generalize W.heap.size = g at Q ⊢
  go_loopw [5, 6] (fun bv kv wr => ∃ j k q : Nat, j ≤ 7 ∧ k = 7 - j ∧ kv = .int .i64 k ∧ bv = .int .i64 (topT s c j : Nat) ∧ wr = W1.drewN q) (fun _ kv _ => (intOf kv).toNat)
  case atStart => exact ⟨0, 7, 0, by decide, rfl, rfl, rfl, rfl⟩
  case round =>
    obtain ⟨j, k, q, hj, hk, rfl, rfl, rfl⟩ := hrel
    by_cases h0 : 0 < k
    · have h0' : (0 : Int) < k := by omega
      have hk8 : (k : Int) < (8 : Nat) := by omega
      have hk32 : (k : Int) < 32 := by omega
      have m7 := topT_le s c j
      have HY := fun h => topT_yes (s := s) (c := c) (j := j) h
      have HN := fun h => topT_no (s := s) (c := c) (j := j) h
      rw [← hk] at HY HN
      obtain ⟨m, hm⟩ : ∃ m, m = topT s c j := ⟨_, rfl⟩
      rw [← hm] at HY HN m7 ⊢
      have HY' : Hid (pickT s c k m = true → topT s c (j + 1) = k) := HY
      have HN' : Hid (pickT s c k m = false → topT s c (j + 1) = m) := HN
      have hm8 : (m : Int) < (8 : Nat) := by omega
      have s1 : (W1.drewN q).drew.cell? ⟨g, 8, none⟩ = some (.int .u32 (cOf s).pend) := Q.out.1
      have s2 : (W1.drewN q).drew.cell? ⟨g, 11, none⟩ = some (.slice (some ⟨p.e, 0, none⟩) 2 p.ce) := Q.out.2.1
      have s3 : (W1.drewN q).drew.cell? ⟨g, 7, none⟩ = some (.slice (some ⟨p.p, 0, none⟩) 8 p.cp) := Q.out.2.2
      have s4 : (W1.drewN q).drew.cell? ⟨p.e, c, none⟩ = some (.int .u32 (enAt s c)) := HE.out c HC.out
      have s5 : (W1.drewN q).drew.cell? ⟨p.p, k, none⟩ = some (.int .u32 (srcAt s k).prio) := HP.out k (by omega)
      have s6 : (W1.drewN q).drew.cell? ⟨p.p, m, none⟩ = some (.int .u32 (srcAt s m).prio) := HP.out m (by omega)
      have wb : isB (cOf s).pend k = (srcAt s k).waits := mk_bit (fun i => (srcAt s i).waits) k (by omega) (by omega)
      have HP2 : Hid (pickT s c k m = (((srcAt s k).waits && isB (enAt s c) k && decide (0 < (srcAt s k).prio)) && decide ((srcAt s m).prio ≤ (srcAt s k).prio))) := rfl
      have HJ : Hid (j + 1 ≤ 7 ∧ k - 1 = 7 - (j + 1)) := ⟨by omega, by omega⟩
      rw [← wb] at HP2
      clear HY HN hm wb m7 hk hj
      generalize (cOf s).pend = pend at s1 HP2
      generalize enAt s c = en at s4 HP2
      generalize (srcAt s k).prio = pk at s5 HP2
      generalize (srcAt s m).prio = pm at s6 HP2
      cases hp : isB pend k
      · rw [hp] at HP2
        have HT : Hid (topT s c (j + 1) = m) := HN'.out (by rw [HP2.out, Bool.false_and, Bool.false_and, Bool.false_and])
        go_wp2_with fail
        generalize hw1 : W1.drewN q = w0 at s1 s2 s3 s4 s5 s6 ⊢
        have hw0 : Hid (W1.drewN q = w0) := hw1
        clear hw1
        have hS : w0.drew.cell? ⟨g, 8, none⟩ = some (.int .u32 pend) ∧ w0.drew.cell? ⟨g, 11, none⟩ = some (.slice (some ⟨p.e, 0, none⟩) 2 p.ce) ∧ w0.drew.cell? ⟨g, 7, none⟩ = some (.slice (some ⟨p.p, 0, none⟩) 8 p.cp) ∧ w0.drew.cell? ⟨p.e, c, none⟩ = some (.int .u32 en) ∧ w0.drew.cell? ⟨p.p, k, none⟩ = some (.int .u32 pk) ∧ w0.drew.cell? ⟨p.p, m, none⟩ = some (.int .u32 pm) := ⟨s1, s2, s3, s4, s5, s6⟩
        refine wp_region_held (S := fun w' => w'.cell? ⟨g, 8, none⟩ = some (.int .u32 pend) ∧ w'.cell? ⟨g, 11, none⟩ = some (.slice (some ⟨p.e, 0, none⟩) 2 p.ce) ∧ w'.cell? ⟨g, 7, none⟩ = some (.slice (some ⟨p.p, 0, none⟩) 8 p.cp) ∧ w'.cell? ⟨p.e, c, none⟩ = some (.int .u32 en) ∧ w'.cell? ⟨p.p, k, none⟩ = some (.int .u32 pk) ∧ w'.cell? ⟨p.p, m, none⟩ = some (.int .u32 pm)) (by kernel_rfl) ?_
        change wpAnyH _ _ _ _ _ _ _ _ (w0.drew)
        refine tK 0 (.pointer (some ⟨g, 8, none⟩)) rfl (by kernel_rfl) (fun _ _ _ h => h) (fun _ => by kernel_rfl) hS ?_
        refine tU 1 rfl rfl (by kernel_rfl) (fun _ _ _ h => h) (by kernel_rfl) (fun _ h => h.1) hS ?_
        refine tK 2 (.int .i64 k) rfl (by kernel_rfl) (fun _ _ _ h => h) (fun _ => by kernel_rfl) hS ?_
        refine tA 3 (by kernel_rfl) (wpOp_step rfl fun K hK => ?_)
        go_simp
        refine (kset_is _ pend k hk32 false hp).mono ?_
        rintro e w' ⟨rfl, hw⟩
        rw [hw]
        clear hw w'
        refine hK _ _ ⟨hS, ?_⟩
        clear hK K
        refine tK 4 (.bool false) rfl (by kernel_rfl) (fun _ _ _ h => h) (fun _ => by kernel_rfl) hS ?_
        refine tN 5 rfl (by kernel_rfl) (fun _ _ _ h => h) hS ?_
        refine tN 6 rfl (by kernel_rfl) (fun _ _ _ h => h) hS ?_
        refine tN 7 rfl (by kernel_rfl) (fun _ _ _ h => h) hS ?_
        refine tN 8 rfl (by kernel_rfl) (fun _ _ _ h => h) hS ?_
        refine tN 9 rfl (by kernel_rfl) (fun _ _ _ h => h) hS ?_
        refine tN 10 rfl (by kernel_rfl) (fun _ _ _ h => h) hS ?_
        refine tN 11 rfl (by kernel_rfl) (fun _ _ _ h => h) hS ?_
        refine tK 12 (.bool false) rfl (by kernel_rfl) (fun _ _ _ h => h) (fun _ => by kernel_rfl) hS ?_
        refine tK 13 (.bool false) rfl (by kernel_rfl) (fun _ _ _ h => h) (fun _ => by kernel_rfl) hS ?_
        refine tN 14 rfl (by kernel_rfl) (fun _ _ _ h => h) hS ?_
        refine tN 15 rfl (by kernel_rfl) (fun _ _ _ h => h) hS ?_
        refine tN 16 rfl (by kernel_rfl) (fun _ _ _ h => h) hS ?_
        refine tN 17 rfl (by kernel_rfl) (fun _ _ _ h => h) hS ?_
        refine tN 18 rfl (by kernel_rfl) (fun _ _ _ h => h) hS ?_
        refine tN 19 rfl (by kernel_rfl) (fun _ _ _ h => h) hS ?_
        refine tK 20 (.bool false) rfl (by kernel_rfl) (fun _ _ _ h => h) (fun _ => by kernel_rfl) hS ?_
        refine tK 21 (.bool false) rfl (by kernel_rfl) (fun _ _ _ h => h) (fun _ => by kernel_rfl) hS ?_
        refine tN 22 rfl (by kernel_rfl) (fun _ _ _ h => h) hS ?_
        refine tN 23 rfl (by kernel_rfl) (fun _ _ _ h => h) hS ?_
        refine tN 24 rfl (by kernel_rfl) (fun _ _ _ h => h) hS ?_
        refine tN 25 rfl (by kernel_rfl) (fun _ _ _ h => h) hS ?_
        refine tN 26 rfl (by kernel_rfl) (fun _ _ _ h => h) hS ?_
        refine tN 27 rfl (by kernel_rfl) (fun _ _ _ h => h) hS ?_
        refine tN 28 rfl (by kernel_rfl) (fun _ _ _ h => h) hS ?_
        refine tN 29 rfl (by kernel_rfl) (fun _ _ _ h => h) hS ?_
        refine tN 30 rfl (by kernel_rfl) (fun _ _ _ h => h) hS ?_
        refine tN 31 rfl (by kernel_rfl) (fun _ _ _ h => h) hS ?_
        refine tN 32 rfl (by kernel_rfl) (fun _ _ _ h => h) hS ?_
        refine tK 33 (.bool false) rfl (by kernel_rfl) (fun _ _ _ h => h) (fun _ => by kernel_rfl) hS ?_
        refine tZ ⟨#[.agg #[.slice (some ⟨p.r, 0, none⟩) L.regs.length p.cr, .int .u32 L.pc, .int .i64 L.mode, .bool L.asleep, .slice (some ⟨p.c, 0, none⟩) L.csrs.length p.cc, .string L.ram, .slice (some ⟨p.k, 0, none⟩) L.clock.length p.ck, .slice (some ⟨p.p, 0, none⟩) L.prio.length p.cp, .int .u32 L.pend, .int .u32 L.served, .int .u32 L.level, .slice (some ⟨p.e, 0, none⟩) L.enable.length p.ce, .slice (some ⟨p.l, 0, none⟩) L.limit.length p.cl], .int .i64 c, .pointer (some ⟨g, 0, none⟩), undef, .int .i64 0, .int .i64 m, .int .i64 k, .int .i64 k, .bool true, u9, u10, .pointer (some ⟨g, 8, none⟩), .int .u32 pend, .int .i64 k, .bool false, .bool false, undef, undef, undef, undef, undef, undef, undef, .bool false, .bool false, undef, undef, undef, undef, undef, undef, .bool false, .bool false, undef, undef, undef, undef, undef, undef, undef, undef, undef, undef, undef, .bool false, u45, undef], []⟩ (by kernel_rfl) (by kernel_rfl) ?_
        go_wp2_with fail
        rw [← hw0.out]
        go_roundw
        case rel => exact ⟨j + 1, k - 1, q + 1, HJ.out.1, HJ.out.2, by congr 1; omega, by rw [HT.out], drewN_two _ _ 1⟩
        case measure => simp [intOf]; omega
      · cases he : isB en k
        · rw [hp, he] at HP2
          have HT : Hid (topT s c (j + 1) = m) := HN'.out (by rw [HP2.out, Bool.true_and, Bool.false_and, Bool.false_and])
          go_wp2_with fail
          generalize hw1 : W1.drewN q = w0 at s1 s2 s3 s4 s5 s6 ⊢
          have hw0 : Hid (W1.drewN q = w0) := hw1
          clear hw1
          have hS : w0.drew.cell? ⟨g, 8, none⟩ = some (.int .u32 pend) ∧ w0.drew.cell? ⟨g, 11, none⟩ = some (.slice (some ⟨p.e, 0, none⟩) 2 p.ce) ∧ w0.drew.cell? ⟨g, 7, none⟩ = some (.slice (some ⟨p.p, 0, none⟩) 8 p.cp) ∧ w0.drew.cell? ⟨p.e, c, none⟩ = some (.int .u32 en) ∧ w0.drew.cell? ⟨p.p, k, none⟩ = some (.int .u32 pk) ∧ w0.drew.cell? ⟨p.p, m, none⟩ = some (.int .u32 pm) := ⟨s1, s2, s3, s4, s5, s6⟩
          refine wp_region_held (S := fun w' => w'.cell? ⟨g, 8, none⟩ = some (.int .u32 pend) ∧ w'.cell? ⟨g, 11, none⟩ = some (.slice (some ⟨p.e, 0, none⟩) 2 p.ce) ∧ w'.cell? ⟨g, 7, none⟩ = some (.slice (some ⟨p.p, 0, none⟩) 8 p.cp) ∧ w'.cell? ⟨p.e, c, none⟩ = some (.int .u32 en) ∧ w'.cell? ⟨p.p, k, none⟩ = some (.int .u32 pk) ∧ w'.cell? ⟨p.p, m, none⟩ = some (.int .u32 pm)) (by kernel_rfl) ?_
          change wpAnyH _ _ _ _ _ _ _ _ (w0.drew)
          refine tK 0 (.pointer (some ⟨g, 8, none⟩)) rfl (by kernel_rfl) (fun _ _ _ h => h) (fun _ => by kernel_rfl) hS ?_
          refine tU 1 rfl rfl (by kernel_rfl) (fun _ _ _ h => h) (by kernel_rfl) (fun _ h => h.1) hS ?_
          refine tK 2 (.int .i64 k) rfl (by kernel_rfl) (fun _ _ _ h => h) (fun _ => by kernel_rfl) hS ?_
          refine tA 3 (by kernel_rfl) (wpOp_step rfl fun K hK => ?_)
          go_simp
          refine (kset_is _ pend k hk32 true hp).mono ?_
          rintro e w' ⟨rfl, hw⟩
          rw [hw]
          clear hw w'
          refine hK _ _ ⟨hS, ?_⟩
          clear hK K
          refine tK 4 (.bool true) rfl (by kernel_rfl) (fun _ _ _ h => h) (fun _ => by kernel_rfl) hS ?_
          refine tK 5 (.pointer (some ⟨g, 11, none⟩)) rfl (by kernel_rfl) (fun _ _ _ h => h) (fun _ => by kernel_rfl) hS ?_
          refine tW 6 rfl rfl (by kernel_rfl) (fun _ _ _ h => h) (by kernel_rfl) (fun _ h => h.2.1) hS ?_
          refine tK 7 (.int .i64 c) rfl (by kernel_rfl) (fun _ _ _ h => h) (fun _ => by kernel_rfl) hS ?_
          refine tY 8 (g := p.e) (k := c) (n := 2) (cap := p.ce) rfl rfl (by kernel_rfl) (fun _ _ _ h => h) (by kernel_rfl) (by kernel_rfl) hc2 hS ?_
          refine tU 9 rfl rfl (by kernel_rfl) (fun _ _ _ h => h) (by kernel_rfl) (fun _ h => h.2.2.2.1) hS ?_
          refine tK 10 (.int .i64 k) rfl (by kernel_rfl) (fun _ _ _ h => h) (fun _ => by kernel_rfl) hS ?_
          refine tF ⟨#[.agg #[.slice (some ⟨p.r, 0, none⟩) L.regs.length p.cr, .int .u32 L.pc, .int .i64 L.mode, .bool L.asleep, .slice (some ⟨p.c, 0, none⟩) L.csrs.length p.cc, .string L.ram, .slice (some ⟨p.k, 0, none⟩) L.clock.length p.ck, .slice (some ⟨p.p, 0, none⟩) L.prio.length p.cp, .int .u32 L.pend, .int .u32 L.served, .int .u32 L.level, .slice (some ⟨p.e, 0, none⟩) L.enable.length p.ce, .slice (some ⟨p.l, 0, none⟩) L.limit.length p.cl], .int .i64 c, .pointer (some ⟨g, 0, none⟩), undef, .int .i64 0, .int .i64 m, .int .i64 k, .int .i64 k, .bool true, u9, u10, .pointer (some ⟨g, 8, none⟩), .int .u32 pend, .int .i64 k, .bool true, .bool true, .pointer (some ⟨g, 11, none⟩), .slice (some ⟨p.e, 0, none⟩) 2 p.ce, .int .i64 c, .pointer (some ⟨p.e, c, none⟩), .int .u32 en, .int .i64 k, u22, u23, u24, u25, u26, u27, u28, u29, u30, u31, u32, u33, u34, u35, u36, u37, u38, u39, u40, u41, u42, u43, u44, u45, undef], []⟩ (by kernel_rfl) ?_
          refine tA 11 (by kernel_rfl) (wpOp_step rfl fun K hK => ?_)
          go_simp
          refine (kset_is _ en k hk32 false he).mono ?_
          rintro e w' ⟨rfl, hw⟩
          rw [hw]
          clear hw w'
          refine hK _ _ ⟨hS, ?_⟩
          clear hK K
          refine tK 12 (.bool false) rfl (by kernel_rfl) (fun _ _ _ h => h) (fun _ => by kernel_rfl) hS ?_
          refine tK 13 (.bool false) rfl (by kernel_rfl) (fun _ _ _ h => h) (fun _ => by kernel_rfl) hS ?_
          refine tN 14 rfl (by kernel_rfl) (fun _ _ _ h => h) hS ?_
          refine tN 15 rfl (by kernel_rfl) (fun _ _ _ h => h) hS ?_
          refine tN 16 rfl (by kernel_rfl) (fun _ _ _ h => h) hS ?_
          refine tN 17 rfl (by kernel_rfl) (fun _ _ _ h => h) hS ?_
          refine tN 18 rfl (by kernel_rfl) (fun _ _ _ h => h) hS ?_
          refine tN 19 rfl (by kernel_rfl) (fun _ _ _ h => h) hS ?_
          refine tK 20 (.bool false) rfl (by kernel_rfl) (fun _ _ _ h => h) (fun _ => by kernel_rfl) hS ?_
          refine tK 21 (.bool false) rfl (by kernel_rfl) (fun _ _ _ h => h) (fun _ => by kernel_rfl) hS ?_
          refine tN 22 rfl (by kernel_rfl) (fun _ _ _ h => h) hS ?_
          refine tN 23 rfl (by kernel_rfl) (fun _ _ _ h => h) hS ?_
          refine tN 24 rfl (by kernel_rfl) (fun _ _ _ h => h) hS ?_
          refine tN 25 rfl (by kernel_rfl) (fun _ _ _ h => h) hS ?_
          refine tN 26 rfl (by kernel_rfl) (fun _ _ _ h => h) hS ?_
          refine tN 27 rfl (by kernel_rfl) (fun _ _ _ h => h) hS ?_
          refine tN 28 rfl (by kernel_rfl) (fun _ _ _ h => h) hS ?_
          refine tN 29 rfl (by kernel_rfl) (fun _ _ _ h => h) hS ?_
          refine tN 30 rfl (by kernel_rfl) (fun _ _ _ h => h) hS ?_
          refine tN 31 rfl (by kernel_rfl) (fun _ _ _ h => h) hS ?_
          refine tN 32 rfl (by kernel_rfl) (fun _ _ _ h => h) hS ?_
          refine tK 33 (.bool false) rfl (by kernel_rfl) (fun _ _ _ h => h) (fun _ => by kernel_rfl) hS ?_
          refine tZ ⟨#[.agg #[.slice (some ⟨p.r, 0, none⟩) L.regs.length p.cr, .int .u32 L.pc, .int .i64 L.mode, .bool L.asleep, .slice (some ⟨p.c, 0, none⟩) L.csrs.length p.cc, .string L.ram, .slice (some ⟨p.k, 0, none⟩) L.clock.length p.ck, .slice (some ⟨p.p, 0, none⟩) L.prio.length p.cp, .int .u32 L.pend, .int .u32 L.served, .int .u32 L.level, .slice (some ⟨p.e, 0, none⟩) L.enable.length p.ce, .slice (some ⟨p.l, 0, none⟩) L.limit.length p.cl], .int .i64 c, .pointer (some ⟨g, 0, none⟩), undef, .int .i64 0, .int .i64 m, .int .i64 k, .int .i64 k, .bool true, u9, u10, .pointer (some ⟨g, 8, none⟩), .int .u32 pend, .int .i64 k, .bool true, .bool true, .pointer (some ⟨g, 11, none⟩), .slice (some ⟨p.e, 0, none⟩) 2 p.ce, .int .i64 c, .pointer (some ⟨p.e, c, none⟩), .int .u32 en, .int .i64 k, .bool false, .bool false, .bool false, undef, undef, undef, undef, undef, undef, .bool false, .bool false, undef, undef, undef, undef, undef, undef, undef, undef, undef, undef, undef, .bool false, u45, undef], []⟩ (by kernel_rfl) (by kernel_rfl) ?_
          go_wp2_with fail
          rw [← hw0.out]
          go_roundw
          case rel => exact ⟨j + 1, k - 1, q + 1, HJ.out.1, HJ.out.2, by congr 1; omega, by rw [HT.out], drewN_two _ _ 1⟩
          case measure => simp [intOf]; omega
        · cases hq : decide (0 < pk)
          · rw [hp, he, hq] at HP2
            have HT : Hid (topT s c (j + 1) = m) := HN'.out (by rw [HP2.out, Bool.and_false, Bool.false_and])
            go_wp2_with fail
            generalize hw1 : W1.drewN q = w0 at s1 s2 s3 s4 s5 s6 ⊢
            have hw0 : Hid (W1.drewN q = w0) := hw1
            clear hw1
            have hS : w0.drew.cell? ⟨g, 8, none⟩ = some (.int .u32 pend) ∧ w0.drew.cell? ⟨g, 11, none⟩ = some (.slice (some ⟨p.e, 0, none⟩) 2 p.ce) ∧ w0.drew.cell? ⟨g, 7, none⟩ = some (.slice (some ⟨p.p, 0, none⟩) 8 p.cp) ∧ w0.drew.cell? ⟨p.e, c, none⟩ = some (.int .u32 en) ∧ w0.drew.cell? ⟨p.p, k, none⟩ = some (.int .u32 pk) ∧ w0.drew.cell? ⟨p.p, m, none⟩ = some (.int .u32 pm) := ⟨s1, s2, s3, s4, s5, s6⟩
            refine wp_region_held (S := fun w' => w'.cell? ⟨g, 8, none⟩ = some (.int .u32 pend) ∧ w'.cell? ⟨g, 11, none⟩ = some (.slice (some ⟨p.e, 0, none⟩) 2 p.ce) ∧ w'.cell? ⟨g, 7, none⟩ = some (.slice (some ⟨p.p, 0, none⟩) 8 p.cp) ∧ w'.cell? ⟨p.e, c, none⟩ = some (.int .u32 en) ∧ w'.cell? ⟨p.p, k, none⟩ = some (.int .u32 pk) ∧ w'.cell? ⟨p.p, m, none⟩ = some (.int .u32 pm)) (by kernel_rfl) ?_
            change wpAnyH _ _ _ _ _ _ _ _ (w0.drew)
            refine tK 0 (.pointer (some ⟨g, 8, none⟩)) rfl (by kernel_rfl) (fun _ _ _ h => h) (fun _ => by kernel_rfl) hS ?_
            refine tU 1 rfl rfl (by kernel_rfl) (fun _ _ _ h => h) (by kernel_rfl) (fun _ h => h.1) hS ?_
            refine tK 2 (.int .i64 k) rfl (by kernel_rfl) (fun _ _ _ h => h) (fun _ => by kernel_rfl) hS ?_
            refine tA 3 (by kernel_rfl) (wpOp_step rfl fun K hK => ?_)
            go_simp
            refine (kset_is _ pend k hk32 true hp).mono ?_
            rintro e w' ⟨rfl, hw⟩
            rw [hw]
            clear hw w'
            refine hK _ _ ⟨hS, ?_⟩
            clear hK K
            refine tK 4 (.bool true) rfl (by kernel_rfl) (fun _ _ _ h => h) (fun _ => by kernel_rfl) hS ?_
            refine tK 5 (.pointer (some ⟨g, 11, none⟩)) rfl (by kernel_rfl) (fun _ _ _ h => h) (fun _ => by kernel_rfl) hS ?_
            refine tW 6 rfl rfl (by kernel_rfl) (fun _ _ _ h => h) (by kernel_rfl) (fun _ h => h.2.1) hS ?_
            refine tK 7 (.int .i64 c) rfl (by kernel_rfl) (fun _ _ _ h => h) (fun _ => by kernel_rfl) hS ?_
            refine tY 8 (g := p.e) (k := c) (n := 2) (cap := p.ce) rfl rfl (by kernel_rfl) (fun _ _ _ h => h) (by kernel_rfl) (by kernel_rfl) hc2 hS ?_
            refine tU 9 rfl rfl (by kernel_rfl) (fun _ _ _ h => h) (by kernel_rfl) (fun _ h => h.2.2.2.1) hS ?_
            refine tK 10 (.int .i64 k) rfl (by kernel_rfl) (fun _ _ _ h => h) (fun _ => by kernel_rfl) hS ?_
            refine tF ⟨#[.agg #[.slice (some ⟨p.r, 0, none⟩) L.regs.length p.cr, .int .u32 L.pc, .int .i64 L.mode, .bool L.asleep, .slice (some ⟨p.c, 0, none⟩) L.csrs.length p.cc, .string L.ram, .slice (some ⟨p.k, 0, none⟩) L.clock.length p.ck, .slice (some ⟨p.p, 0, none⟩) L.prio.length p.cp, .int .u32 L.pend, .int .u32 L.served, .int .u32 L.level, .slice (some ⟨p.e, 0, none⟩) L.enable.length p.ce, .slice (some ⟨p.l, 0, none⟩) L.limit.length p.cl], .int .i64 c, .pointer (some ⟨g, 0, none⟩), undef, .int .i64 0, .int .i64 m, .int .i64 k, .int .i64 k, .bool true, u9, u10, .pointer (some ⟨g, 8, none⟩), .int .u32 pend, .int .i64 k, .bool true, .bool true, .pointer (some ⟨g, 11, none⟩), .slice (some ⟨p.e, 0, none⟩) 2 p.ce, .int .i64 c, .pointer (some ⟨p.e, c, none⟩), .int .u32 en, .int .i64 k, u22, u23, u24, u25, u26, u27, u28, u29, u30, u31, u32, u33, u34, u35, u36, u37, u38, u39, u40, u41, u42, u43, u44, u45, undef], []⟩ (by kernel_rfl) ?_
            refine tA 11 (by kernel_rfl) (wpOp_step rfl fun K hK => ?_)
            go_simp
            refine (kset_is _ en k hk32 true he).mono ?_
            rintro e w' ⟨rfl, hw⟩
            rw [hw]
            clear hw w'
            refine hK _ _ ⟨hS, ?_⟩
            clear hK K
            refine tK 12 (.bool true) rfl (by kernel_rfl) (fun _ _ _ h => h) (fun _ => by kernel_rfl) hS ?_
            refine tK 13 (.bool true) rfl (by kernel_rfl) (fun _ _ _ h => h) (fun _ => by kernel_rfl) hS ?_
            refine tK 14 (.pointer (some ⟨g, 7, none⟩)) rfl (by kernel_rfl) (fun _ _ _ h => h) (fun _ => by kernel_rfl) hS ?_
            refine tW 15 rfl rfl (by kernel_rfl) (fun _ _ _ h => h) (by kernel_rfl) (fun _ h => h.2.2.1) hS ?_
            refine tK 16 (.int .i64 k) rfl (by kernel_rfl) (fun _ _ _ h => h) (fun _ => by kernel_rfl) hS ?_
            refine tY 17 (g := p.p) (k := k) (n := 8) (cap := p.cp) rfl rfl (by kernel_rfl) (fun _ _ _ h => h) (by kernel_rfl) (by kernel_rfl) hk8 hS ?_
            refine tU 18 rfl rfl (by kernel_rfl) (fun _ _ _ h => h) (by kernel_rfl) (fun _ h => h.2.2.2.2.1) hS ?_
            refine tQ 19 (decide (0 < pk)) false hq rfl (by kernel_rfl) (fun _ _ _ h => h) (fun _ => by kernel_rfl) hS ?_
            refine tK 20 (.bool false) rfl (by kernel_rfl) (fun _ _ _ h => h) (fun _ => by kernel_rfl) hS ?_
            refine tK 21 (.bool false) rfl (by kernel_rfl) (fun _ _ _ h => h) (fun _ => by kernel_rfl) hS ?_
            refine tN 22 rfl (by kernel_rfl) (fun _ _ _ h => h) hS ?_
            refine tN 23 rfl (by kernel_rfl) (fun _ _ _ h => h) hS ?_
            refine tN 24 rfl (by kernel_rfl) (fun _ _ _ h => h) hS ?_
            refine tN 25 rfl (by kernel_rfl) (fun _ _ _ h => h) hS ?_
            refine tN 26 rfl (by kernel_rfl) (fun _ _ _ h => h) hS ?_
            refine tN 27 rfl (by kernel_rfl) (fun _ _ _ h => h) hS ?_
            refine tN 28 rfl (by kernel_rfl) (fun _ _ _ h => h) hS ?_
            refine tN 29 rfl (by kernel_rfl) (fun _ _ _ h => h) hS ?_
            refine tN 30 rfl (by kernel_rfl) (fun _ _ _ h => h) hS ?_
            refine tN 31 rfl (by kernel_rfl) (fun _ _ _ h => h) hS ?_
            refine tN 32 rfl (by kernel_rfl) (fun _ _ _ h => h) hS ?_
            refine tK 33 (.bool false) rfl (by kernel_rfl) (fun _ _ _ h => h) (fun _ => by kernel_rfl) hS ?_
            refine tZ ⟨#[.agg #[.slice (some ⟨p.r, 0, none⟩) L.regs.length p.cr, .int .u32 L.pc, .int .i64 L.mode, .bool L.asleep, .slice (some ⟨p.c, 0, none⟩) L.csrs.length p.cc, .string L.ram, .slice (some ⟨p.k, 0, none⟩) L.clock.length p.ck, .slice (some ⟨p.p, 0, none⟩) L.prio.length p.cp, .int .u32 L.pend, .int .u32 L.served, .int .u32 L.level, .slice (some ⟨p.e, 0, none⟩) L.enable.length p.ce, .slice (some ⟨p.l, 0, none⟩) L.limit.length p.cl], .int .i64 c, .pointer (some ⟨g, 0, none⟩), undef, .int .i64 0, .int .i64 m, .int .i64 k, .int .i64 k, .bool true, u9, u10, .pointer (some ⟨g, 8, none⟩), .int .u32 pend, .int .i64 k, .bool true, .bool true, .pointer (some ⟨g, 11, none⟩), .slice (some ⟨p.e, 0, none⟩) 2 p.ce, .int .i64 c, .pointer (some ⟨p.e, c, none⟩), .int .u32 en, .int .i64 k, .bool true, .bool true, .bool true, .pointer (some ⟨g, 7, none⟩), .slice (some ⟨p.p, 0, none⟩) 8 p.cp, .int .i64 k, .pointer (some ⟨p.p, k, none⟩), .int .u32 pk, .bool false, .bool false, .bool false, undef, undef, undef, undef, undef, undef, undef, undef, undef, undef, undef, .bool false, u45, undef], []⟩ (by kernel_rfl) (by kernel_rfl) ?_
            go_wp2_with fail
            rw [← hw0.out]
            go_roundw
            case rel => exact ⟨j + 1, k - 1, q + 1, HJ.out.1, HJ.out.2, by congr 1; omega, by rw [HT.out], drewN_two _ _ 1⟩
            case measure => simp [intOf]; omega
          · rw [hp, he, hq] at HP2
            by_cases hz : pm ≤ pk
            · have HT : Hid (topT s c (j + 1) = k) := HY'.out (by rw [HP2.out, decide_eq_true hz]; rfl)
              go_wp2_with fail
              generalize hw1 : W1.drewN q = w0 at s1 s2 s3 s4 s5 s6 ⊢
              have hw0 : Hid (W1.drewN q = w0) := hw1
              clear hw1
              have hS : w0.drew.cell? ⟨g, 8, none⟩ = some (.int .u32 pend) ∧ w0.drew.cell? ⟨g, 11, none⟩ = some (.slice (some ⟨p.e, 0, none⟩) 2 p.ce) ∧ w0.drew.cell? ⟨g, 7, none⟩ = some (.slice (some ⟨p.p, 0, none⟩) 8 p.cp) ∧ w0.drew.cell? ⟨p.e, c, none⟩ = some (.int .u32 en) ∧ w0.drew.cell? ⟨p.p, k, none⟩ = some (.int .u32 pk) ∧ w0.drew.cell? ⟨p.p, m, none⟩ = some (.int .u32 pm) := ⟨s1, s2, s3, s4, s5, s6⟩
              refine wp_region_held (S := fun w' => w'.cell? ⟨g, 8, none⟩ = some (.int .u32 pend) ∧ w'.cell? ⟨g, 11, none⟩ = some (.slice (some ⟨p.e, 0, none⟩) 2 p.ce) ∧ w'.cell? ⟨g, 7, none⟩ = some (.slice (some ⟨p.p, 0, none⟩) 8 p.cp) ∧ w'.cell? ⟨p.e, c, none⟩ = some (.int .u32 en) ∧ w'.cell? ⟨p.p, k, none⟩ = some (.int .u32 pk) ∧ w'.cell? ⟨p.p, m, none⟩ = some (.int .u32 pm)) (by kernel_rfl) ?_
              change wpAnyH _ _ _ _ _ _ _ _ (w0.drew)
              refine tK 0 (.pointer (some ⟨g, 8, none⟩)) rfl (by kernel_rfl) (fun _ _ _ h => h) (fun _ => by kernel_rfl) hS ?_
              refine tU 1 rfl rfl (by kernel_rfl) (fun _ _ _ h => h) (by kernel_rfl) (fun _ h => h.1) hS ?_
              refine tK 2 (.int .i64 k) rfl (by kernel_rfl) (fun _ _ _ h => h) (fun _ => by kernel_rfl) hS ?_
              refine tA 3 (by kernel_rfl) (wpOp_step rfl fun K hK => ?_)
              go_simp
              refine (kset_is _ pend k hk32 true hp).mono ?_
              rintro e w' ⟨rfl, hw⟩
              rw [hw]
              clear hw w'
              refine hK _ _ ⟨hS, ?_⟩
              clear hK K
              refine tK 4 (.bool true) rfl (by kernel_rfl) (fun _ _ _ h => h) (fun _ => by kernel_rfl) hS ?_
              refine tK 5 (.pointer (some ⟨g, 11, none⟩)) rfl (by kernel_rfl) (fun _ _ _ h => h) (fun _ => by kernel_rfl) hS ?_
              refine tW 6 rfl rfl (by kernel_rfl) (fun _ _ _ h => h) (by kernel_rfl) (fun _ h => h.2.1) hS ?_
              refine tK 7 (.int .i64 c) rfl (by kernel_rfl) (fun _ _ _ h => h) (fun _ => by kernel_rfl) hS ?_
              refine tY 8 (g := p.e) (k := c) (n := 2) (cap := p.ce) rfl rfl (by kernel_rfl) (fun _ _ _ h => h) (by kernel_rfl) (by kernel_rfl) hc2 hS ?_
              refine tU 9 rfl rfl (by kernel_rfl) (fun _ _ _ h => h) (by kernel_rfl) (fun _ h => h.2.2.2.1) hS ?_
              refine tK 10 (.int .i64 k) rfl (by kernel_rfl) (fun _ _ _ h => h) (fun _ => by kernel_rfl) hS ?_
              refine tF ⟨#[.agg #[.slice (some ⟨p.r, 0, none⟩) L.regs.length p.cr, .int .u32 L.pc, .int .i64 L.mode, .bool L.asleep, .slice (some ⟨p.c, 0, none⟩) L.csrs.length p.cc, .string L.ram, .slice (some ⟨p.k, 0, none⟩) L.clock.length p.ck, .slice (some ⟨p.p, 0, none⟩) L.prio.length p.cp, .int .u32 L.pend, .int .u32 L.served, .int .u32 L.level, .slice (some ⟨p.e, 0, none⟩) L.enable.length p.ce, .slice (some ⟨p.l, 0, none⟩) L.limit.length p.cl], .int .i64 c, .pointer (some ⟨g, 0, none⟩), undef, .int .i64 0, .int .i64 m, .int .i64 k, .int .i64 k, .bool true, u9, u10, .pointer (some ⟨g, 8, none⟩), .int .u32 pend, .int .i64 k, .bool true, .bool true, .pointer (some ⟨g, 11, none⟩), .slice (some ⟨p.e, 0, none⟩) 2 p.ce, .int .i64 c, .pointer (some ⟨p.e, c, none⟩), .int .u32 en, .int .i64 k, u22, u23, u24, u25, u26, u27, u28, u29, u30, u31, u32, u33, u34, u35, u36, u37, u38, u39, u40, u41, u42, u43, u44, u45, undef], []⟩ (by kernel_rfl) ?_
              refine tA 11 (by kernel_rfl) (wpOp_step rfl fun K hK => ?_)
              go_simp
              refine (kset_is _ en k hk32 true he).mono ?_
              rintro e w' ⟨rfl, hw⟩
              rw [hw]
              clear hw w'
              refine hK _ _ ⟨hS, ?_⟩
              clear hK K
              refine tK 12 (.bool true) rfl (by kernel_rfl) (fun _ _ _ h => h) (fun _ => by kernel_rfl) hS ?_
              refine tK 13 (.bool true) rfl (by kernel_rfl) (fun _ _ _ h => h) (fun _ => by kernel_rfl) hS ?_
              refine tK 14 (.pointer (some ⟨g, 7, none⟩)) rfl (by kernel_rfl) (fun _ _ _ h => h) (fun _ => by kernel_rfl) hS ?_
              refine tW 15 rfl rfl (by kernel_rfl) (fun _ _ _ h => h) (by kernel_rfl) (fun _ h => h.2.2.1) hS ?_
              refine tK 16 (.int .i64 k) rfl (by kernel_rfl) (fun _ _ _ h => h) (fun _ => by kernel_rfl) hS ?_
              refine tY 17 (g := p.p) (k := k) (n := 8) (cap := p.cp) rfl rfl (by kernel_rfl) (fun _ _ _ h => h) (by kernel_rfl) (by kernel_rfl) hk8 hS ?_
              refine tU 18 rfl rfl (by kernel_rfl) (fun _ _ _ h => h) (by kernel_rfl) (fun _ h => h.2.2.2.2.1) hS ?_
              refine tQ 19 (decide (0 < pk)) true hq rfl (by kernel_rfl) (fun _ _ _ h => h) (fun _ => by kernel_rfl) hS ?_
              refine tK 20 (.bool true) rfl (by kernel_rfl) (fun _ _ _ h => h) (fun _ => by kernel_rfl) hS ?_
              refine tK 21 (.bool true) rfl (by kernel_rfl) (fun _ _ _ h => h) (fun _ => by kernel_rfl) hS ?_
              refine tK 22 (.pointer (some ⟨g, 7, none⟩)) rfl (by kernel_rfl) (fun _ _ _ h => h) (fun _ => by kernel_rfl) hS ?_
              refine tW 23 rfl rfl (by kernel_rfl) (fun _ _ _ h => h) (by kernel_rfl) (fun _ h => h.2.2.1) hS ?_
              refine tK 24 (.int .i64 k) rfl (by kernel_rfl) (fun _ _ _ h => h) (fun _ => by kernel_rfl) hS ?_
              refine tY 25 (g := p.p) (k := k) (n := 8) (cap := p.cp) rfl rfl (by kernel_rfl) (fun _ _ _ h => h) (by kernel_rfl) (by kernel_rfl) hk8 hS ?_
              refine tU 26 rfl rfl (by kernel_rfl) (fun _ _ _ h => h) (by kernel_rfl) (fun _ h => h.2.2.2.2.1) hS ?_
              refine tK 27 (.pointer (some ⟨g, 7, none⟩)) rfl (by kernel_rfl) (fun _ _ _ h => h) (fun _ => by kernel_rfl) hS ?_
              refine tW 28 rfl rfl (by kernel_rfl) (fun _ _ _ h => h) (by kernel_rfl) (fun _ h => h.2.2.1) hS ?_
              refine tK 29 (.int .i64 m) rfl (by kernel_rfl) (fun _ _ _ h => h) (fun _ => by kernel_rfl) hS ?_
              refine tY 30 (g := p.p) (k := m) (n := 8) (cap := p.cp) rfl rfl (by kernel_rfl) (fun _ _ _ h => h) (by kernel_rfl) (by kernel_rfl) hm8 hS ?_
              refine tU 31 rfl rfl (by kernel_rfl) (fun _ _ _ h => h) (by kernel_rfl) (fun _ h => h.2.2.2.2.2) hS ?_
              refine tK 32 (.bool (decide (pm ≤ pk))) rfl (by kernel_rfl) (fun _ _ _ h => h) (fun _ => by kernel_rfl) hS ?_
              refine tK 33 (.bool (decide (pm ≤ pk))) rfl (by kernel_rfl) (fun _ _ _ h => h) (fun _ => by kernel_rfl) hS ?_
              refine tZ ⟨#[.agg #[.slice (some ⟨p.r, 0, none⟩) L.regs.length p.cr, .int .u32 L.pc, .int .i64 L.mode, .bool L.asleep, .slice (some ⟨p.c, 0, none⟩) L.csrs.length p.cc, .string L.ram, .slice (some ⟨p.k, 0, none⟩) L.clock.length p.ck, .slice (some ⟨p.p, 0, none⟩) L.prio.length p.cp, .int .u32 L.pend, .int .u32 L.served, .int .u32 L.level, .slice (some ⟨p.e, 0, none⟩) L.enable.length p.ce, .slice (some ⟨p.l, 0, none⟩) L.limit.length p.cl], .int .i64 c, .pointer (some ⟨g, 0, none⟩), undef, .int .i64 0, .int .i64 m, .int .i64 k, .int .i64 k, .bool true, u9, u10, .pointer (some ⟨g, 8, none⟩), .int .u32 pend, .int .i64 k, .bool true, .bool true, .pointer (some ⟨g, 11, none⟩), .slice (some ⟨p.e, 0, none⟩) 2 p.ce, .int .i64 c, .pointer (some ⟨p.e, c, none⟩), .int .u32 en, .int .i64 k, .bool true, .bool true, .bool true, .pointer (some ⟨g, 7, none⟩), .slice (some ⟨p.p, 0, none⟩) 8 p.cp, .int .i64 k, .pointer (some ⟨p.p, k, none⟩), .int .u32 pk, .bool true, .bool true, .bool true, .pointer (some ⟨g, 7, none⟩), .slice (some ⟨p.p, 0, none⟩) 8 p.cp, .int .i64 k, .pointer (some ⟨p.p, k, none⟩), .int .u32 pk, .pointer (some ⟨g, 7, none⟩), .slice (some ⟨p.p, 0, none⟩) 8 p.cp, .int .i64 m, .pointer (some ⟨p.p, m, none⟩), .int .u32 pm, .bool (decide (pm ≤ pk)), .bool (decide (pm ≤ pk)), u45, undef], []⟩ (by kernel_rfl) (by kernel_rfl) ?_
              go_wp2_with fail
              rw [← hw0.out]
              go_roundw
              case rel => exact ⟨j + 1, k - 1, q + 1, HJ.out.1, HJ.out.2, by congr 1; omega, by rw [HT.out], drewN_two _ _ 1⟩
              case measure => simp [intOf]; omega
            · have HT : Hid (topT s c (j + 1) = m) := HN'.out (by rw [HP2.out, decide_eq_false hz, Bool.and_false])
              have hz' : pk < pm := by omega
              clear hz
              go_wp2_with fail
              generalize hw1 : W1.drewN q = w0 at s1 s2 s3 s4 s5 s6 ⊢
              have hw0 : Hid (W1.drewN q = w0) := hw1
              clear hw1
              have hS : w0.drew.cell? ⟨g, 8, none⟩ = some (.int .u32 pend) ∧ w0.drew.cell? ⟨g, 11, none⟩ = some (.slice (some ⟨p.e, 0, none⟩) 2 p.ce) ∧ w0.drew.cell? ⟨g, 7, none⟩ = some (.slice (some ⟨p.p, 0, none⟩) 8 p.cp) ∧ w0.drew.cell? ⟨p.e, c, none⟩ = some (.int .u32 en) ∧ w0.drew.cell? ⟨p.p, k, none⟩ = some (.int .u32 pk) ∧ w0.drew.cell? ⟨p.p, m, none⟩ = some (.int .u32 pm) := ⟨s1, s2, s3, s4, s5, s6⟩
              refine wp_region_held (S := fun w' => w'.cell? ⟨g, 8, none⟩ = some (.int .u32 pend) ∧ w'.cell? ⟨g, 11, none⟩ = some (.slice (some ⟨p.e, 0, none⟩) 2 p.ce) ∧ w'.cell? ⟨g, 7, none⟩ = some (.slice (some ⟨p.p, 0, none⟩) 8 p.cp) ∧ w'.cell? ⟨p.e, c, none⟩ = some (.int .u32 en) ∧ w'.cell? ⟨p.p, k, none⟩ = some (.int .u32 pk) ∧ w'.cell? ⟨p.p, m, none⟩ = some (.int .u32 pm)) (by kernel_rfl) ?_
              change wpAnyH _ _ _ _ _ _ _ _ (w0.drew)
              refine tK 0 (.pointer (some ⟨g, 8, none⟩)) rfl (by kernel_rfl) (fun _ _ _ h => h) (fun _ => by kernel_rfl) hS ?_
              refine tU 1 rfl rfl (by kernel_rfl) (fun _ _ _ h => h) (by kernel_rfl) (fun _ h => h.1) hS ?_
              refine tK 2 (.int .i64 k) rfl (by kernel_rfl) (fun _ _ _ h => h) (fun _ => by kernel_rfl) hS ?_
              refine tA 3 (by kernel_rfl) (wpOp_step rfl fun K hK => ?_)
              go_simp
              refine (kset_is _ pend k hk32 true hp).mono ?_
              rintro e w' ⟨rfl, hw⟩
              rw [hw]
              clear hw w'
              refine hK _ _ ⟨hS, ?_⟩
              clear hK K
              refine tK 4 (.bool true) rfl (by kernel_rfl) (fun _ _ _ h => h) (fun _ => by kernel_rfl) hS ?_
              refine tK 5 (.pointer (some ⟨g, 11, none⟩)) rfl (by kernel_rfl) (fun _ _ _ h => h) (fun _ => by kernel_rfl) hS ?_
              refine tW 6 rfl rfl (by kernel_rfl) (fun _ _ _ h => h) (by kernel_rfl) (fun _ h => h.2.1) hS ?_
              refine tK 7 (.int .i64 c) rfl (by kernel_rfl) (fun _ _ _ h => h) (fun _ => by kernel_rfl) hS ?_
              refine tY 8 (g := p.e) (k := c) (n := 2) (cap := p.ce) rfl rfl (by kernel_rfl) (fun _ _ _ h => h) (by kernel_rfl) (by kernel_rfl) hc2 hS ?_
              refine tU 9 rfl rfl (by kernel_rfl) (fun _ _ _ h => h) (by kernel_rfl) (fun _ h => h.2.2.2.1) hS ?_
              refine tK 10 (.int .i64 k) rfl (by kernel_rfl) (fun _ _ _ h => h) (fun _ => by kernel_rfl) hS ?_
              refine tF ⟨#[.agg #[.slice (some ⟨p.r, 0, none⟩) L.regs.length p.cr, .int .u32 L.pc, .int .i64 L.mode, .bool L.asleep, .slice (some ⟨p.c, 0, none⟩) L.csrs.length p.cc, .string L.ram, .slice (some ⟨p.k, 0, none⟩) L.clock.length p.ck, .slice (some ⟨p.p, 0, none⟩) L.prio.length p.cp, .int .u32 L.pend, .int .u32 L.served, .int .u32 L.level, .slice (some ⟨p.e, 0, none⟩) L.enable.length p.ce, .slice (some ⟨p.l, 0, none⟩) L.limit.length p.cl], .int .i64 c, .pointer (some ⟨g, 0, none⟩), undef, .int .i64 0, .int .i64 m, .int .i64 k, .int .i64 k, .bool true, u9, u10, .pointer (some ⟨g, 8, none⟩), .int .u32 pend, .int .i64 k, .bool true, .bool true, .pointer (some ⟨g, 11, none⟩), .slice (some ⟨p.e, 0, none⟩) 2 p.ce, .int .i64 c, .pointer (some ⟨p.e, c, none⟩), .int .u32 en, .int .i64 k, u22, u23, u24, u25, u26, u27, u28, u29, u30, u31, u32, u33, u34, u35, u36, u37, u38, u39, u40, u41, u42, u43, u44, u45, undef], []⟩ (by kernel_rfl) ?_
              refine tA 11 (by kernel_rfl) (wpOp_step rfl fun K hK => ?_)
              go_simp
              refine (kset_is _ en k hk32 true he).mono ?_
              rintro e w' ⟨rfl, hw⟩
              rw [hw]
              clear hw w'
              refine hK _ _ ⟨hS, ?_⟩
              clear hK K
              refine tK 12 (.bool true) rfl (by kernel_rfl) (fun _ _ _ h => h) (fun _ => by kernel_rfl) hS ?_
              refine tK 13 (.bool true) rfl (by kernel_rfl) (fun _ _ _ h => h) (fun _ => by kernel_rfl) hS ?_
              refine tK 14 (.pointer (some ⟨g, 7, none⟩)) rfl (by kernel_rfl) (fun _ _ _ h => h) (fun _ => by kernel_rfl) hS ?_
              refine tW 15 rfl rfl (by kernel_rfl) (fun _ _ _ h => h) (by kernel_rfl) (fun _ h => h.2.2.1) hS ?_
              refine tK 16 (.int .i64 k) rfl (by kernel_rfl) (fun _ _ _ h => h) (fun _ => by kernel_rfl) hS ?_
              refine tY 17 (g := p.p) (k := k) (n := 8) (cap := p.cp) rfl rfl (by kernel_rfl) (fun _ _ _ h => h) (by kernel_rfl) (by kernel_rfl) hk8 hS ?_
              refine tU 18 rfl rfl (by kernel_rfl) (fun _ _ _ h => h) (by kernel_rfl) (fun _ h => h.2.2.2.2.1) hS ?_
              refine tQ 19 (decide (0 < pk)) true hq rfl (by kernel_rfl) (fun _ _ _ h => h) (fun _ => by kernel_rfl) hS ?_
              refine tK 20 (.bool true) rfl (by kernel_rfl) (fun _ _ _ h => h) (fun _ => by kernel_rfl) hS ?_
              refine tK 21 (.bool true) rfl (by kernel_rfl) (fun _ _ _ h => h) (fun _ => by kernel_rfl) hS ?_
              refine tK 22 (.pointer (some ⟨g, 7, none⟩)) rfl (by kernel_rfl) (fun _ _ _ h => h) (fun _ => by kernel_rfl) hS ?_
              refine tW 23 rfl rfl (by kernel_rfl) (fun _ _ _ h => h) (by kernel_rfl) (fun _ h => h.2.2.1) hS ?_
              refine tK 24 (.int .i64 k) rfl (by kernel_rfl) (fun _ _ _ h => h) (fun _ => by kernel_rfl) hS ?_
              refine tY 25 (g := p.p) (k := k) (n := 8) (cap := p.cp) rfl rfl (by kernel_rfl) (fun _ _ _ h => h) (by kernel_rfl) (by kernel_rfl) hk8 hS ?_
              refine tU 26 rfl rfl (by kernel_rfl) (fun _ _ _ h => h) (by kernel_rfl) (fun _ h => h.2.2.2.2.1) hS ?_
              refine tK 27 (.pointer (some ⟨g, 7, none⟩)) rfl (by kernel_rfl) (fun _ _ _ h => h) (fun _ => by kernel_rfl) hS ?_
              refine tW 28 rfl rfl (by kernel_rfl) (fun _ _ _ h => h) (by kernel_rfl) (fun _ h => h.2.2.1) hS ?_
              refine tK 29 (.int .i64 m) rfl (by kernel_rfl) (fun _ _ _ h => h) (fun _ => by kernel_rfl) hS ?_
              refine tY 30 (g := p.p) (k := m) (n := 8) (cap := p.cp) rfl rfl (by kernel_rfl) (fun _ _ _ h => h) (by kernel_rfl) (by kernel_rfl) hm8 hS ?_
              refine tU 31 rfl rfl (by kernel_rfl) (fun _ _ _ h => h) (by kernel_rfl) (fun _ h => h.2.2.2.2.2) hS ?_
              refine tK 32 (.bool (decide (pm ≤ pk))) rfl (by kernel_rfl) (fun _ _ _ h => h) (fun _ => by kernel_rfl) hS ?_
              refine tK 33 (.bool (decide (pm ≤ pk))) rfl (by kernel_rfl) (fun _ _ _ h => h) (fun _ => by kernel_rfl) hS ?_
              refine tZ ⟨#[.agg #[.slice (some ⟨p.r, 0, none⟩) L.regs.length p.cr, .int .u32 L.pc, .int .i64 L.mode, .bool L.asleep, .slice (some ⟨p.c, 0, none⟩) L.csrs.length p.cc, .string L.ram, .slice (some ⟨p.k, 0, none⟩) L.clock.length p.ck, .slice (some ⟨p.p, 0, none⟩) L.prio.length p.cp, .int .u32 L.pend, .int .u32 L.served, .int .u32 L.level, .slice (some ⟨p.e, 0, none⟩) L.enable.length p.ce, .slice (some ⟨p.l, 0, none⟩) L.limit.length p.cl], .int .i64 c, .pointer (some ⟨g, 0, none⟩), undef, .int .i64 0, .int .i64 m, .int .i64 k, .int .i64 k, .bool true, u9, u10, .pointer (some ⟨g, 8, none⟩), .int .u32 pend, .int .i64 k, .bool true, .bool true, .pointer (some ⟨g, 11, none⟩), .slice (some ⟨p.e, 0, none⟩) 2 p.ce, .int .i64 c, .pointer (some ⟨p.e, c, none⟩), .int .u32 en, .int .i64 k, .bool true, .bool true, .bool true, .pointer (some ⟨g, 7, none⟩), .slice (some ⟨p.p, 0, none⟩) 8 p.cp, .int .i64 k, .pointer (some ⟨p.p, k, none⟩), .int .u32 pk, .bool true, .bool true, .bool true, .pointer (some ⟨g, 7, none⟩), .slice (some ⟨p.p, 0, none⟩) 8 p.cp, .int .i64 k, .pointer (some ⟨p.p, k, none⟩), .int .u32 pk, .pointer (some ⟨g, 7, none⟩), .slice (some ⟨p.p, 0, none⟩) 8 p.cp, .int .i64 m, .pointer (some ⟨p.p, m, none⟩), .int .u32 pm, .bool (decide (pm ≤ pk)), .bool (decide (pm ≤ pk)), u45, undef], []⟩ (by kernel_rfl) (by kernel_rfl) ?_
              go_wp2_with fail
              rw [← hw0.out]
              go_roundw
              case rel => exact ⟨j + 1, k - 1, q + 1, HJ.out.1, HJ.out.2, by congr 1; omega, by rw [HT.out], drewN_two _ _ 1⟩
              case measure => simp [intOf]; omega
    · obtain rfl : k = 0 := by omega
      obtain rfl : j = 7 := by omega
      clear hk hj h0
      go_wp2
      go_ret
      exact ⟨rfl, below_drawn HB.out q⟩
end Go.Proofs.Yteiideeechnekaa
