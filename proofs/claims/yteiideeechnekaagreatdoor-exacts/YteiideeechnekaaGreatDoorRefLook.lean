/-
  The document's Look.
-/
import Derived.Test.YteiideeechnekaaGreatDoorRefMask
import Derived.Test.YteiideeechnekaaGreatDoorMakes
import Derived.Deep.AppendLies
import Derived.Deep.DeepCutAuto
import Derived.Test.YteiideeechnekaaGreatDoorLooks
namespace Go.Proofs.YteiideeechnekaaGreatDoor
open Go.RowKit

def lookR (s : RSt) : LSt := ⟨s.x, s.pc, s.mode, s.asleep, csrsR s, bytesOf s.ram, [s.msip, s.mtimecmp, s.mtime], s.src.map (·.prio), mk (fun i => (srcAt s i).waits) 7, mk (fun i => (srcAt s i).served) 7, mk (fun i => (srcAt s i).high) 7, s.enable, s.limit⟩

theorem two_of (l : List Int) (h : l.length = 2) : l = [l[0]?.getD 0, l[1]?.getD 0] := by
  match l, h with
  | [a, b], _ => rfl
theorem look_agg (s : RSt) (p : Pl) (n32 n19 n3 n8 n2 m2 : Nat) (a0 : (lookR s).regs.length = n32) (a1 : (lookR s).csrs.length = n19) (a2 : (lookR s).clock.length = n3) (a3 : (lookR s).prio.length = n8) (a4 : (lookR s).enable.length = n2) (a5 : (lookR s).limit.length = m2) :
    Ending.returned (.agg #[Value.slice (some ⟨p.r, 0, none⟩) n32 p.cr, .int .u32 s.pc, .int .i64 s.mode, .bool s.asleep, Value.slice (some ⟨p.c, 0, none⟩) n19 p.cc, .string (bytesOf s.ram), Value.slice (some ⟨p.k, 0, none⟩) n3 p.ck, Value.slice (some ⟨p.p, 0, none⟩) n8 p.cp, Value.int .u32 (mk (fun i => (srcAt s i).waits) 7), Value.int .u32 (mk (fun i => (srcAt s i).served) 7), Value.int .u32 (mk (fun i => (srcAt s i).high) 7), Value.slice (some ⟨p.e, 0, none⟩) n2 p.ce, Value.slice (some ⟨p.l, 0, none⟩) m2 p.cl]) = .returned (.agg #[.slice (some ⟨p.r, 0, none⟩) (lookR s).regs.length p.cr, .int .u32 (lookR s).pc, .int .i64 (lookR s).mode, .bool (lookR s).asleep, .slice (some ⟨p.c, 0, none⟩) (lookR s).csrs.length p.cc, .string (lookR s).ram, .slice (some ⟨p.k, 0, none⟩) (lookR s).clock.length p.ck, .slice (some ⟨p.p, 0, none⟩) (lookR s).prio.length p.cp, .int .u32 (lookR s).pend, .int .u32 (lookR s).served, .int .u32 (lookR s).level, .slice (some ⟨p.e, 0, none⟩) (lookR s).enable.length p.ce, .slice (some ⟨p.l, 0, none⟩) (lookR s).limit.length p.cl]) := by
  subst a0 a1 a2 a3 a4 a5
  rfl

/-- What lies in memory on the way: the state that is filled, the result's place, all old memory. -/
structure On (W w : World) (v : List Value) : Prop where
  len : v.length = 13
  st : w.heap[W.heap.size + 1]? = some (.cells v.toArray 48 (0, 0))
  res : w.heap[W.heap.size]? = some (.cells #[.slice none 0 0, .int .u32 0, .int .i64 0, .bool false, .slice none 0 0, .string { data := #[] }, .slice none 0 0, .slice none 0 0, .int .u32 0, .int .u32 0, .int .u32 0, .slice none 0 0, .slice none 0 0] 48 (0, 0))
  bel : Below W.heap.size W w

theorem On.cell {W w : World} {v : List Value} (h : On W w v) (j : Nat) : w.cell? ⟨W.heap.size + 1, j, none⟩ = v[j]? := by
  rw [cell_of_row w _ j _ _ (0, 0) h.st]; simp
theorem On.frozen {W w : World} {v : List Value} (h : On W w v) (j : Nat) : w.frozen? ⟨W.heap.size + 1, j, none⟩ = false := by
  unfold World.frozen?; rw [h.st]; simp
theorem On.lt {W w : World} {v : List Value} (h : On W w v) : W.heap.size + 1 < w.heap.size := (Array.getElem?_eq_some_iff.1 h.st).1
theorem On.set {W w : World} {v : List Value} (h : On W w v) (j : Nat) (x : Value) : On W (w.setCell ⟨W.heap.size + 1, j, none⟩ x) (v.set j x) := by
  refine ⟨by simp [h.len], ?_, ?_, h.bel.setCell (by simp) x⟩
  · rw [heap_setCell_at w _ j _ _ (0, 0) h.st]; simp
  · rw [Below.heap_setCell w _ x _ (by simp)]; exact h.res
theorem On.same {W w w' : World} {v : List Value} (h : On W w v) (hb : Below (W.heap.size + 2) w w') : On W w' v :=
  ⟨h.len, (hb.block _ (by omega)).trans h.st, (hb.block _ (by omega)).trans h.res, h.bel.trans (hb.mono (by omega))⟩
theorem On.alloc {W w : World} {v : List Value} (h : On W w v) (o : Obj) : On W (w.alloc o) v := h.same ((Below.refl _ _).alloc (by have := h.lt; omega) o)
theorem On.drawn {W w : World} {v : List Value} (h : On W w v) (q : Nat) : On W (w.drewN q) v := h.same (below_drawn (Below.refl _ _) q)
theorem RowAt.far {w : World} {g cap : Nat} {xs : List Int} (h : RowAt w g cap xs) {W : World} (hg : W.heap.size + 2 ≤ g) (j : Nat) (x : Value) : RowAt (w.setCell ⟨W.heap.size + 1, j, none⟩ x) g cap xs := by
  obtain ⟨cur, h1, r⟩ := h
  exact ⟨cur, (Below.heap_setCell w _ x g (by show g ≠ W.heap.size + 1; omega)).trans h1, r⟩
theorem RowAt.on {w : World} {g cap : Nat} {xs : List Int} (h : RowAt w g cap xs) {w' : World} (hb : Below w.heap.size w w') : RowAt w' g cap xs := h.below hb h.lt

theorem on_start (W : World) (z : Array Value) (hz : z = #[.slice none 0 0, .int .u32 0, .int .i64 0, .bool false, .slice none 0 0, .string { data := #[] }, .slice none 0 0, .slice none 0 0, .int .u32 0, .int .u32 0, .int .u32 0, .slice none 0 0, .slice none 0 0]) (v : List Value) (hv : v.length = 13) : On W ((W.alloc (.cells z 48)).alloc (.cells v.toArray 48)).drew v := by
  subst hz
  refine ⟨hv, ?_, ?_, (((Below.refl _ _).alloc (Nat.le_refl _) _).alloc (by simp) _).drew⟩
  · have e1 := heap_alloc_new (W.alloc (.cells #[.slice none 0 0, .int .u32 0, .int .i64 0, .bool false, .slice none 0 0, .string { data := #[] }, .slice none 0 0, .slice none 0 0, .int .u32 0, .int .u32 0, .int .u32 0, .slice none 0 0, .slice none 0 0] 48)) (.cells v.toArray 48)
    rw [show (W.alloc (.cells #[.slice none 0 0, .int .u32 0, .int .i64 0, .bool false, .slice none 0 0, .string { data := #[] }, .slice none 0 0, .slice none 0 0, .int .u32 0, .int .u32 0, .int .u32 0, .slice none 0 0, .slice none 0 0] 48)).heap.size = W.heap.size + 1 by simp] at e1
    exact e1
  · exact (heap_alloc_old (W.alloc (.cells #[.slice none 0 0, .int .u32 0, .int .i64 0, .bool false, .slice none 0 0, .string { data := #[] }, .slice none 0 0, .slice none 0 0, .int .u32 0, .int .u32 0, .int .u32 0, .slice none 0 0, .slice none 0 0] 48)) (.cells v.toArray 48) (by simp)).trans (heap_alloc_new W _)

/-- The registers' copy. -/
theorem copy_x (w : World) (g x kx : Nat) (xs : List Int) (hx : RowAt w x kx xs) (hn : xs.length = 32) (hg : w.heap[g]? = some (.cells (madeCells #[Value.int .u32 0] 32) 29 (0, 0))) (_hne : x ≠ g) :
    ∃ w', (∀ ty, (Builtin.copy_ #[28, 28] ty #[.slice (some ⟨g, 0, none⟩) 32 32, .slice (some ⟨x, 0, none⟩) 32 kx]).run Tryz.prog w = .ok (goInt 32) w') ∧ RowAt w' g 32 xs ∧ Below g w w' ∧ w'.heap.size = w.heap.size := by
  have hl : (xs.map (Value.int .u32)).length = 32 := by simp [hn]
  have hrun := fun ty => run_copy_row (P := Tryz.prog) w 28 28 ty 29 g 0 32 32 ⟨x, 0, none⟩ 32 kx (madeCells #[Value.int .u32 0] 32) 29 (xs.map (Value.int .u32)) Tryz.underlying28 size_u32 hg (by simp [hn])
    (fun j v hj => by
      have hl : j < xs.length := by have := (List.getElem?_eq_some_iff.1 hj).1; simpa using this
      have e : (⟨x, 0, none⟩ : Addr).add j = ⟨x, j, none⟩ := by unfold Addr.add; split <;> simp_all
      rw [e, hx.cell j hl, ← hj]
      simp [List.getD, hl])
    (by simp [hn, size_madeCells]) (fun u hu => by simp only [List.mem_map] at hu; obtain ⟨z, _, rfl⟩ := hu; rfl)
  rw [hl] at hrun
  refine ⟨_, hrun, ⟨_, setRow_heap _ g _ _ 29 (0, 0) hg, ?_, by omega, by decide, ?_⟩, below_setRow (Below.refl _ _) (Nat.le_refl _) _, by simp [World.setRow]⟩
  · simp [hn, size_madeCells]
  · simp [hn]

theorem On.drew {W w : World} {v : List Value} (h : On W w v) : On W w.drew v := h.same (Below.refl _ _).drew
theorem RowAt.keep3 {w W : World} {g cap : Nat} {xs : List Int} (h : RowAt w g cap xs) (hg : W.heap.size + 2 ≤ g) (o : Obj) (j : Nat) (x : Value) : RowAt ((w.alloc o).setCell ⟨W.heap.size + 1, j, none⟩ x).drew g cap xs :=
  ((h.on ((Below.refl _ _).alloc (Nat.le_refl _) o)).far hg j x).on (Below.refl _ _).drew
theorem row_put (w W : World) (hw : W.heap.size + 2 ≤ w.heap.size) (cur : Array Value) (xs : List Int) (n : Nat) (hn : xs.length = n) (hm : n ≤ 64) (hc : cur.toList = xs.map (Value.int .u32)) (j : Nat) (x : Value) : RowAt ((w.alloc (.cells cur 29)).setCell ⟨W.heap.size + 1, j, none⟩ x).drew w.heap.size n xs := by
  have hs : cur.size = n := by have := congrArg List.length hc; simpa [hn] using this
  have r : RowAt (w.alloc (.cells cur 29)) w.heap.size n xs := ⟨cur, heap_alloc_new w _, hs, by omega, by unfold maxLen; omega, by rw [hc, List.take_of_length_le (by simp)]⟩
  exact (r.far hw j x).on (Below.refl _ _).drew

theorem take_more (L : List Int) (k : Nat) (hk : k < L.length) : (L.map (Value.int .u32)).take k ++ [Value.int .u32 (L[k]?.getD 0)] = (L.map (Value.int .u32)).take (k + 1) := by
  rw [List.take_succ_eq_append_getElem (by simpa using hk)]; simp [hk]
theorem row_of_owns {w : World} {B n : Nat} {v : Value} {xs : List Int} (h : w.ownsRow B 29 1 v n (xs.map (Value.int .u32))) (hn : xs.length = n) (h0 : 0 < n) : ∃ g cap, v = .slice (some ⟨g, 0, none⟩) n cap ∧ B ≤ g ∧ RowAt w g cap xs := by
  rcases h.2 with ⟨_, e⟩ | ⟨g, cap, cur, hv, hb, hg, h1, h2, h3, h4⟩
  · omega
  · refine ⟨g, cap, hv, hb, cur, hg, by omega, by omega, h2, ?_⟩
    rw [hn, ← h4, Nat.mul_one]
theorem grown_below {W w w1 w' : World} {v : Value} {n B : Nat} {xs : List Value} {e : TypeId} (hb : Below B w w1) (hB : B ≤ w1.heap.size) (hown : W.ownsRow B e 1 v n xs) (hg : w1.grownBy w' v.ownBlock) : Below B w w' :=
  hb.grown hg hB (fun k hk => (hown.lt k hk).1)

set_option maxHeartbeats 4000000 in
set_option maxRecDepth 100000 in
theorem rlook_any (W : World) (p : Nat) (b : RBl) (s : RSt) (h : RefAt W p b s) (F : Fine s) :
    Calls Tryz.prog 33 #[.pointer (some ⟨p, 0, none⟩)] W fun e W'' => ∃ p : Pl, e = .returned (.agg #[.slice (some ⟨p.r, 0, none⟩) (lookR s).regs.length p.cr, .int .u32 (lookR s).pc, .int .i64 (lookR s).mode, .bool (lookR s).asleep, .slice (some ⟨p.c, 0, none⟩) (lookR s).csrs.length p.cc, .string (lookR s).ram, .slice (some ⟨p.k, 0, none⟩) (lookR s).clock.length p.ck, .slice (some ⟨p.p, 0, none⟩) (lookR s).prio.length p.cp, .int .u32 (lookR s).pend, .int .u32 (lookR s).served, .int .u32 (lookR s).level, .slice (some ⟨p.e, 0, none⟩) (lookR s).enable.length p.ce, .slice (some ⟨p.l, 0, none⟩) (lookR s).limit.length p.cl]) ∧ StAt W'' p (lookR s) ∧ Below W.heap.size W W'' := by
  have HH : Hid (∀ W', Below W.heap.size W W' → RefAt W' p b s) := fun W' hb => h.below hb (Nat.le_refl _)
  have k_pc : ∀ w', Below W.heap.size W w' → w'.cell? ⟨p, 1, none⟩ = some (.int .u32 s.pc) := fun w' hb => (HH.out w' hb).pc
  have k_mode : ∀ w', Below W.heap.size W w' → w'.cell? ⟨p, 2, none⟩ = some (.int .i64 s.mode) := fun w' hb => (HH.out w' hb).mode
  have k_asleep : ∀ w', Below W.heap.size W w' → w'.cell? ⟨p, 3, none⟩ = some (.bool s.asleep) := fun w' hb => (HH.out w' hb).asleep
  have k_ram : ∀ w', Below W.heap.size W w' → w'.cell? ⟨p, 4, none⟩ = some (.slice (some ⟨b.ram, 0, none⟩) s.ram.length b.kram) := fun w' hb => (HH.out w' hb).cram
  have hconv := fun w' (hb : Below W.heap.size W w') => ram_in_string w' b.ram b.kram s.ram (HH.out w' hb).ram
  clear h
  go_enter Tryz.func33, Tryz.ntmps33
  go_wp2_with fail
  go_cut [3] (fun v w => v = .pointer (some ⟨W.heap.size + 1, 0, none⟩) ∧ w.heap.size = W.heap.size + 2 ∧ On W w [.slice none 0 0, .int .u32 s.pc, .int .i64 s.mode, .bool s.asleep, .slice none 0 0, .string (bytesOf s.ram), .slice none 0 0, .slice none 0 0, .int .u32 0, .int .u32 0, .int .u32 0, .slice none 0 0, .slice none 0 0])
  case first =>
    have hb0 : Below W.heap.size W (W.alloc (Obj.cells #[.slice none 0 0, .int .u32 0, .int .i64 0, .bool false, .slice none 0 0, .string { data := #[] }, .slice none 0 0, .slice none 0 0, .int .u32 0, .int .u32 0, .int .u32 0, .slice none 0 0, .slice none 0 0] 48)) := (Below.refl _ _).alloc (Nat.le_refl _) _
    go_region_held3 (fun w' => Below W.heap.size W w') (first | with_reducible assumption | with_reducible exact hb0.drew | with_reducible exact (hb0.alloc hb0.size _).drew) (fail)
    all_goals go_wp2_with fail
    go_meet
    case rel =>
      exact ⟨rfl, by simp, on_start W _ rfl _ rfl⟩
  case rest =>
    obtain ⟨rfl, hsz, hon⟩ := hcut
    clear k_pc k_mode k_asleep k_ram hconv
    go_upto_region 2 with fail
    go_cut [] (fun w => w.heap.size = W.heap.size + 3 ∧ On W w [Value.slice (some ⟨W.heap.size + 2, 0, none⟩) 32 32, .int .u32 s.pc, .int .i64 s.mode, .bool s.asleep, Value.slice none 0 0, .string (bytesOf s.ram), Value.slice none 0 0, Value.slice none 0 0, Value.int .u32 0, Value.int .u32 0, Value.int .u32 0, Value.slice none 0 0, Value.slice none 0 0] ∧ w.heap[W.heap.size + 2]? = some (.cells (madeCells #[Value.int .u32 0] 32) 29 (0, 0)))
    case first =>
      obtain ⟨i0, hi, hz, hsz1, hby⟩ := info_u32
      have hmk := fun w => run_make (P := Tryz.prog) w 28 29 i0 (.int .u32 0) Tryz.underlying28 hi hz .i64 .i64 32 32 (by decide) (by decide) (by rw [hby]; decide) (by decide)
      simp only [hsz1] at hmk
      have s0 := hon.cell 0
      simp at s0
      have f0 := (alloc_cell wc (W.heap.size + 1) hon.lt).2
      have f1 := hon.frozen
      have a0 := (alloc_cell wc (W.heap.size + 1) hon.lt).1
      have ON : Hid (On W wc _) := hon
      clear hi hz hsz1 hby hon
      go_wp2_with fail
      go_meet
      case rel =>
        refine ⟨by simp [World.setCell, hsz], (ON.out.set 0 _).alloc _, ?_⟩
        have e := heap_alloc_new (wc.setCell ⟨W.heap.size + 1, 0, none⟩ (Value.slice (some ⟨W.heap.size + 2, 0, none⟩) 32 32)) (.cells (madeCells #[Value.int .u32 0] 32) 29 (0, 0))
        rw [show (wc.setCell ⟨W.heap.size + 1, 0, none⟩ (Value.slice (some ⟨W.heap.size + 2, 0, none⟩) 32 32)).heap.size = W.heap.size + 2 by simp [World.setCell, hsz]] at e
        exact e
    case rest =>
      obtain ⟨hsz3, hon3, hmade⟩ := hcut
      clear hsz hon
      rename World => wq
      go_upto_region 3 with fail
      go_cut [] (fun w => w.heap.size = W.heap.size + 3 ∧ On W w [Value.slice (some ⟨W.heap.size + 2, 0, none⟩) 32 32, .int .u32 s.pc, .int .i64 s.mode, .bool s.asleep, Value.slice none 0 0, .string (bytesOf s.ram), Value.slice none 0 0, Value.slice none 0 0, Value.int .u32 0, Value.int .u32 0, Value.int .u32 0, Value.slice none 0 0, Value.slice none 0 0] ∧ RowAt w (W.heap.size + 2) 32 s.x)
      case first =>
        have hr := HH.out wq hon3.bel
        obtain ⟨w4, hrun, hrow, hb4, hz4⟩ := copy_x wq.drew (W.heap.size + 2) b.x b.kx s.x (hr.x.on (Below.refl _ _).drew) hr.nx hmade (by have := (HH.out W (Below.refl _ _)).lt; omega)
        have k_x : ∀ w', Below W.heap.size W w' → w'.cell? ⟨p, 0, none⟩ = some (.slice (some ⟨b.x, 0, none⟩) 32 b.kx) := fun w' hb => (HH.out w' hb).cx
        have s0 := hon3.cell 0
        simp at s0
        have hbel := hon3.bel
        have hbelD := hbel.drew
        have s0d : wq.drew.cell? ⟨W.heap.size + 1, 0, none⟩ = some (Value.slice (some ⟨W.heap.size + 2, 0, none⟩) 32 32) := s0
        have on4 : On W w4 _ := (hon3.drawn 1).same hb4
        have bel4 := on4.bel
        have s4 := on4.cell 0
        simp at s4
        have sz4 : Hid (w4.heap.size = W.heap.size + 3) := hz4.trans hsz3
        have ON4 : Hid (On W w4 _) := on4
        have ROW4 : Hid (RowAt w4 (W.heap.size + 2) 32 s.x) := hrow
        clear hr hon3 hmade on4 hrow hb4 hz4
        go_region_held3 (fun w' => Below W.heap.size W w' ∧ w'.cell? ⟨W.heap.size + 1, 0, none⟩ = some (Value.slice (some ⟨W.heap.size + 2, 0, none⟩) 32 32)) (first | with_reducible exact ⟨hbelD, s0d⟩ | with_reducible exact ⟨bel4, s4⟩ | go_keep) (fail)
        all_goals go_wp2_with fail
        go_meet
        case rel => exact ⟨sz4.out, ON4.out, ROW4.out⟩
      case rest =>
        obtain ⟨hsz4, hon4, hrx⟩ := hcut
        clear hsz3 hon3 hmade
        go_wp2_with fail
        refine (numbers_any _).mono ?_
        rintro e w5 ⟨rfl, hnum, hb5⟩
        rw [hsz4] at hnum
        have hon5 : On W w5 [Value.slice (some ⟨W.heap.size + 2, 0, none⟩) 32 32, .int .u32 s.pc, .int .i64 s.mode, .bool s.asleep, Value.slice none 0 0, .string (bytesOf s.ram), Value.slice none 0 0, Value.slice none 0 0, Value.int .u32 0, Value.int .u32 0, Value.int .u32 0, Value.slice none 0 0, Value.slice none 0 0] := hon4.same (hb5.mono (by omega))
        have hrx5 := hrx.on hb5
        have hz5 : W.heap.size + 4 ≤ w5.heap.size := hnum.lt
        clear hon4 hrx hb5
        go_wp2_with fail
        go_loopw [5] (fun i wr => ∃ k : Nat, k ≤ 19 ∧ i = .int .i64 k ∧ ∃ vc, On W wr [Value.slice (some ⟨W.heap.size + 2, 0, none⟩) 32 32, .int .u32 s.pc, .int .i64 s.mode, .bool s.asleep, vc, .string (bytesOf s.ram), Value.slice none 0 0, Value.slice none 0 0, Value.int .u32 0, Value.int .u32 0, Value.int .u32 0, Value.slice none 0 0, Value.slice none 0 0] ∧ RowAt wr (W.heap.size + 2) 32 s.x ∧ RowAt wr (W.heap.size + 3) 19 numsR ∧ wr.ownsRow (W.heap.size + 4) 29 1 vc k (((csrsR s).map (Value.int .u32)).take k) ∧ W.heap.size + 4 ≤ wr.heap.size) (fun i _ => 19 - (intOf i).toNat)
        case atStart => exact ⟨0, Nat.zero_le _, rfl, _, hon5, hrx5, hnum, World.ownsRow_nil _ _ _ _, hz5⟩
        case round =>
          obtain ⟨k, hk, rfl, vc, onr, rxr, nur, ownr, szr⟩ := hrel
          clear hon5 hrx5 hnum hz5
          by_cases hlt : k < 19
          · have c1 := nur.cell k (by simpa [numsR] using hlt)
            have hi : (k : Int) < 19 := by omega
            have HR : Hid (RefAt wr p b s) := HH.out wr onr.bel
            have ON : Hid (On W wr [Value.slice (some ⟨W.heap.size + 2, 0, none⟩) 32 32, .int .u32 s.pc, .int .i64 s.mode, .bool s.asleep, vc, .string (bytesOf s.ram), Value.slice none 0 0, Value.slice none 0 0, Value.int .u32 0, Value.int .u32 0, Value.int .u32 0, Value.slice none 0 0, Value.slice none 0 0]) := onr
            have RX : Hid (RowAt wr (W.heap.size + 2) 32 s.x) := rxr
            have NU : Hid (RowAt wr (W.heap.size + 3) 19 numsR) := nur
            have OW : Hid (wr.ownsRow (W.heap.size + 4) 29 1 vc k (((csrsR s).map (Value.int .u32)).take k)) := ownr
            have s4 := onr.cell 4
            simp at s4
            clear onr rxr nur ownr
            go_wp2_with fail
            refine (csr_any _ p b s HR.out F k hlt).mono ?_
            rintro e w6 ⟨rfl, q6, rfl⟩
            obtain ⟨i0, hi0, hz0, hsz0, hby0⟩ := info_u32
            have OWD : Hid (∀ o, ((wr.drewN q6).alloc o).ownsRow (W.heap.size + 4) 29 1 vc k (((csrsR s).map (Value.int .u32)).take k)) := fun o => World.ownsRow.alloc (show (wr.drewN q6).ownsRow (W.heap.size + 4) 29 1 vc k (((csrsR s).map (Value.int .u32)).take k) from OW.out) o
            have szd : W.heap.size + 4 ≤ (wr.drewN q6).heap.size := szr
            go_wp2_with (at_builtin; refine wpList_append_lies _ rfl _ _ 28 rfl (W.heap.size + 4) 29 i0 _ 1 4 Tryz.underlying28 hi0 hz0 hsz0 hby0 rfl (by decide) vc k (((csrsR s).map (Value.int .u32)).take k) rfl (OWD.out _) ⟨wr.heap.size, 0, none⟩ 1 1 [.int .u32 ((csrsR s)[k]?.getD 0)] rfl rfl (cell_one_new _ _ _) (by intro u hu; simp at hu; subst hu; rfl) (by decide) (by unfold maxLen; omega) (by omega) (by simp; omega) (wr.heap.size + 1) (by simp) ?_)
            intro g cap w7 own7 gr7 at7 lt7
            have b7 : Below (W.heap.size + 4) wr w7 := grown_below (w1 := (wr.drewN q6).alloc _) ((below_drawn (Below.refl _ _) q6).alloc szd _) (by simp; omega) OW.out gr7
            have on7 := ON.out.same (b7.mono (by omega))
            have RX7 : Hid (RowAt w7 (W.heap.size + 2) 32 s.x) := RX.out.below b7 (by omega)
            have NU7 : Hid (RowAt w7 (W.heap.size + 3) 19 numsR) := NU.out.below b7 (by omega)
            have s7 := on7.cell 4
            simp at s7
            have f7 := on7.frozen
            have ON7 : Hid (On W w7 [Value.slice (some ⟨W.heap.size + 2, 0, none⟩) 32 32, .int .u32 s.pc, .int .i64 s.mode, .bool s.asleep, vc, .string (bytesOf s.ram), Value.slice none 0 0, Value.slice none 0 0, Value.int .u32 0, Value.int .u32 0, Value.int .u32 0, Value.slice none 0 0, Value.slice none 0 0]) := on7
            have OW7 : Hid (w7.ownsRow (W.heap.size + 4) 29 1 (.slice (some ⟨g, 0, none⟩) (k + 1) cap) (k + 1) (((csrsR s).map (Value.int .u32)).take (k + 1))) := by unfold Hid; rw [← take_more (csrsR s) k hlt]; exact own7
            have sz7 : W.heap.size + 4 ≤ w7.heap.size := by have := b7.size; omega
            clear on7 own7 gr7 at7 b7 OWD OW RX NU ON s4
            go_wp2_with fail
            go_roundw
            case rel => exact ⟨k + 1, by omega, by go_num, _, ON7.out.set 4 _, RX7.out.far (Nat.le_refl _) _ _, NU7.out.far (by omega) _ _, ownsRow_setCell_below OW7.out (by simp) _, by simpa [World.setCell] using sz7⟩
            case measure => simp [intOf]; omega
          · obtain rfl : k = 19 := by omega
            obtain ⟨gc, cc, rfl, hgc, RC⟩ := row_of_owns (show wr.ownsRow (W.heap.size + 4) 29 1 vc 19 ((csrsR s).map (Value.int .u32)) from ownr) rfl (by decide)
            clear ownr nur
            go_upto_region 10 with fail
            go_cut [] (fun w => ∃ gk, W.heap.size + 4 ≤ gk ∧ On W w [Value.slice (some ⟨W.heap.size + 2, 0, none⟩) 32 32, .int .u32 s.pc, .int .i64 s.mode, .bool s.asleep, Value.slice (some ⟨gc, 0, none⟩) 19 cc, .string (bytesOf s.ram), Value.slice (some ⟨gk, 0, none⟩) 3 3, Value.slice none 0 0, Value.int .u32 0, Value.int .u32 0, Value.int .u32 0, Value.slice none 0 0, Value.slice none 0 0] ∧ RowAt w (W.heap.size + 2) 32 s.x ∧ RowAt w gc cc (csrsR s) ∧ RowAt w gk 3 [s.msip, s.mtimecmp, s.mtime] ∧ W.heap.size + 4 ≤ w.heap.size)
            case first =>
              have k_1 : ∀ w', Below W.heap.size W w' → w'.cell? ⟨p, 27, none⟩ = some (.int .u32 s.msip) := fun w' hb => (HH.out w' hb).msip
              have k_2 : ∀ w', Below W.heap.size W w' → w'.cell? ⟨p, 28, none⟩ = some (.int .u32 s.mtimecmp) := fun w' hb => (HH.out w' hb).mtimecmp
              have k_3 : ∀ w', Below W.heap.size W w' → w'.cell? ⟨p, 29, none⟩ = some (.int .u32 s.mtime) := fun w' hb => (HH.out w' hb).mtime
              have s6 := onr.cell 6
              simp at s6
              have f6 := onr.frozen
              have a6 := (alloc_cell wr (W.heap.size + 1) onr.lt).1
              have b6 := (alloc_cell wr (W.heap.size + 1) onr.lt).2
              have hbw := onr.bel
              have hbd := hbw.drew
              have ON : Hid (On W wr [Value.slice (some ⟨W.heap.size + 2, 0, none⟩) 32 32, .int .u32 s.pc, .int .i64 s.mode, .bool s.asleep, Value.slice (some ⟨gc, 0, none⟩) 19 cc, .string (bytesOf s.ram), Value.slice none 0 0, Value.slice none 0 0, Value.int .u32 0, Value.int .u32 0, Value.int .u32 0, Value.slice none 0 0, Value.slice none 0 0]) := onr
              have RX : Hid (RowAt wr (W.heap.size + 2) 32 s.x) := rxr
              have RC' : Hid (RowAt wr gc cc (csrsR s)) := RC
              clear onr rxr RC
              go_region_held3 (fun w' => Below W.heap.size W w') (first | with_reducible assumption | with_reducible exact (hbw.alloc hbw.size _).drew | exact (Below.setCell (hbw.alloc hbw.size _) (by simp) _).drew) (fail)
              all_goals go_wp2_with fail
              go_meet
              case rel => exact ⟨wr.heap.size, szr, ((ON.out.alloc _).set 6 _).drew, RX.out.keep3 (Nat.le_refl _) _ _ _, RC'.out.keep3 (by omega) _ _ _, row_put wr W (by omega) _ [s.msip, s.mtimecmp, s.mtime] 3 rfl (by decide) rfl _ _, by show _ ≤ (World.setCell _ _ _).heap.size; simp [World.setCell]; omega⟩
            case rest =>
              obtain ⟨gk, hgk, hon, rx, rc, rk, hz⟩ := hcut
              clear onr rxr RC szr
              obtain ⟨B2, hB2⟩ : ∃ B2, B2 = wc.heap.size := ⟨_, rfl⟩
              have lc := rc.lt
              have lk := rk.lt
              rw [← hB2] at lc lk
              have hz2 : W.heap.size + 4 ≤ B2 := by omega
              have hs2 : B2 ≤ wc.heap.size := by omega
              clear hB2 hz
              obtain ⟨ps, hps⟩ : ∃ ps : List Int, ps = s.src.map (·.prio) := ⟨_, rfl⟩
              have hpl : ps.length = 8 := by rw [hps]; simp [(HH.out W (Below.refl _ _)).nsrc]
              have HPS : Hid (ps = s.src.map (·.prio)) := hps
              have k_s : ∀ w', Below W.heap.size W w' → w'.cell? ⟨p, 30, none⟩ = some (.slice (some ⟨b.src, 0, none⟩) 8 b.ksrc) := fun w' hb => (HH.out w' hb).csrc
              have KP : Hid (∀ k, k < 8 → ∀ w', Below W.heap.size W w' → w'.cell? ⟨b.src, k * 4 + 3, none⟩ = some (.int .u32 (ps[k]?.getD 0))) := fun k hk w' hb => by
                rw [(HH.out w' hb).prio k hk, hps]
                have : k < s.src.length := by rw [(HH.out w' hb).nsrc]; exact hk
                simp [srcAt, this]
              clear hps
              go_wp2_with fail
              go_loopw [8] (fun i wr => ∃ k : Nat, k ≤ 8 ∧ i = .int .i64 k ∧ ∃ vp, On W wr [Value.slice (some ⟨W.heap.size + 2, 0, none⟩) 32 32, .int .u32 s.pc, .int .i64 s.mode, .bool s.asleep, Value.slice (some ⟨gc, 0, none⟩) 19 cc, .string (bytesOf s.ram), Value.slice (some ⟨gk, 0, none⟩) 3 3, vp, Value.int .u32 0, Value.int .u32 0, Value.int .u32 0, Value.slice none 0 0, Value.slice none 0 0] ∧ RowAt wr (W.heap.size + 2) 32 s.x ∧ RowAt wr gc cc (csrsR s) ∧ RowAt wr gk 3 [s.msip, s.mtimecmp, s.mtime] ∧ wr.ownsRow B2 29 1 vp k ((ps.map (Value.int .u32)).take k) ∧ B2 ≤ wr.heap.size) (fun i _ => 8 - (intOf i).toNat)
              case atStart => exact ⟨0, Nat.zero_le _, rfl, _, hon, rx, rc, rk, World.ownsRow_nil _ _ _ _, hs2⟩
              case round =>
                obtain ⟨k, hk, rfl, vp, onr, rxr, rcr, rkr, ownr, szr⟩ := hrel
                clear hon rx rc rk hs2
                by_cases hlt : k < 8
                · have c1 := KP.out k hlt
                  have hi : (k : Int) < 8 := by omega
                  have s7 := onr.cell 7
                  simp at s7
                  have a7 := (alloc_cell wr (W.heap.size + 1) onr.lt).1
                  have hbw := onr.bel
                  have hbd := hbw.drew
                  obtain ⟨i0, hi0, hz0, hsz0, hby0⟩ := info_u32
                  have OWD : Hid (∀ o, ((wr.alloc o).drew).ownsRow B2 29 1 vp k ((ps.map (Value.int .u32)).take k)) := fun o => show (wr.alloc o).ownsRow B2 29 1 vp k ((ps.map (Value.int .u32)).take k) from World.ownsRow.alloc ownr o
                  have ON : Hid (On W wr [Value.slice (some ⟨W.heap.size + 2, 0, none⟩) 32 32, .int .u32 s.pc, .int .i64 s.mode, .bool s.asleep, Value.slice (some ⟨gc, 0, none⟩) 19 cc, .string (bytesOf s.ram), Value.slice (some ⟨gk, 0, none⟩) 3 3, vp, Value.int .u32 0, Value.int .u32 0, Value.int .u32 0, Value.slice none 0 0, Value.slice none 0 0]) := onr
                  have RX : Hid (RowAt wr (W.heap.size + 2) 32 s.x) := rxr
                  have RC' : Hid (RowAt wr gc cc (csrsR s)) := rcr
                  have RK : Hid (RowAt wr gk 3 [s.msip, s.mtimecmp, s.mtime]) := rkr
                  have OW : Hid (wr.ownsRow B2 29 1 vp k ((ps.map (Value.int .u32)).take k)) := ownr
                  clear onr rxr rcr rkr ownr
                  have c1w := c1 wr hbw
                  have k_sw := k_s wr hbw
                  have lts : b.src < wr.heap.size := World.block_lt_of_cell? wr _ c1w
                  have ltp : p < wr.heap.size := World.block_lt_of_cell? wr _ k_sw
                  have d1 := (alloc_cell wr b.src lts).1
                  have d2 := (alloc_cell wr p ltp).1
                  obtain ⟨xk, hxk⟩ : ∃ xk, xk = ps[k]?.getD 0 := ⟨_, rfl⟩
                  have HX : Hid (xk = ps[k]?.getD 0) := hxk
                  rw [← hxk] at c1w
                  clear c1 k_s KP hxk hbd hbw
                  go_wp2_with fail
                  go_region_law ((refine step_append_lies _ (by rfl) _ _ 28 (by rfl) B2 29 i0 (.int .u32 0) 1 4 Tryz.underlying28 hi0 hz0 hsz0 hby0 rfl (by decide) vp k ((ps.map (Value.int .u32)).take k) (by rfl) (OWD.out _) ⟨wr.heap.size, 0, none⟩ 1 1 [.int .u32 xk] (by rfl) rfl (cell_one_new wr _ _) (by intro u hu; simp at hu; subst hu; rfl) (by decide) (by unfold maxLen; omega) (by omega) (by show _ ≤ (wr.alloc _).heap.size; simp; omega) (wr.heap.size + 1) (by show (wr.alloc _).heap.size = _; simp) ?_; intro g cap w7 own7 gr7 at7 lt7; have b7 : Below B2 wr w7 := grown_below (w1 := (wr.alloc (Obj.cells #[Value.int .u32 xk] 29)).drew) (((Below.refl _ _).alloc szr _).drew) (by show _ ≤ (wr.alloc _).heap.size; simp; omega) OW.out gr7; have on7 := ON.out.same (b7.mono (by omega)); have t7 := on7.cell 7; simp only [List.getElem?_cons_succ, List.getElem?_cons_zero] at t7; have f7 := on7.frozen; have RX7 : Hid (RowAt w7 (W.heap.size + 2) 32 s.x) := RX.out.below b7 (by omega); have RC7 : Hid (RowAt w7 gc cc (csrsR s)) := RC'.out.below b7 lc; have RK7 : Hid (RowAt w7 gk 3 [s.msip, s.mtimecmp, s.mtime]) := RK.out.below b7 lk; have ON7 : Hid (On W w7 _) := on7; have OW7 : Hid (w7.ownsRow B2 29 1 (.slice (some ⟨g, 0, none⟩) (k + 1) cap) (k + 1) ((ps.map (Value.int .u32)).take (k + 1))) := (by unfold Hid; rw [← take_more ps k (by omega), ← HX.out]; exact own7); have sz7 : B2 ≤ w7.heap.size := (by have := b7.size; omega); clear own7 gr7 at7 b7 on7))
                  all_goals
                    go_wp2_with fail
                    go_roundw
                    case rel =>
                      have fin : ∃ k' : Nat, k' ≤ 8 ∧ Value.int .i64 ((k : Int) + 1) = .int .i64 k' ∧ ∃ vp, On W (w7.setCell ⟨W.heap.size + 1, 7, none⟩ (Value.slice (some ⟨g, 0, none⟩) (k + 1) cap)) [Value.slice (some ⟨W.heap.size + 2, 0, none⟩) 32 32, .int .u32 s.pc, .int .i64 s.mode, .bool s.asleep, Value.slice (some ⟨gc, 0, none⟩) 19 cc, .string (bytesOf s.ram), Value.slice (some ⟨gk, 0, none⟩) 3 3, vp, Value.int .u32 0, Value.int .u32 0, Value.int .u32 0, Value.slice none 0 0, Value.slice none 0 0] ∧ RowAt (w7.setCell ⟨W.heap.size + 1, 7, none⟩ (Value.slice (some ⟨g, 0, none⟩) (k + 1) cap)) (W.heap.size + 2) 32 s.x ∧ RowAt (w7.setCell ⟨W.heap.size + 1, 7, none⟩ (Value.slice (some ⟨g, 0, none⟩) (k + 1) cap)) gc cc (csrsR s) ∧ RowAt (w7.setCell ⟨W.heap.size + 1, 7, none⟩ (Value.slice (some ⟨g, 0, none⟩) (k + 1) cap)) gk 3 [s.msip, s.mtimecmp, s.mtime] ∧ (w7.setCell ⟨W.heap.size + 1, 7, none⟩ (Value.slice (some ⟨g, 0, none⟩) (k + 1) cap)).ownsRow B2 29 1 vp k' ((ps.map (Value.int .u32)).take k') ∧ B2 ≤ (w7.setCell ⟨W.heap.size + 1, 7, none⟩ (Value.slice (some ⟨g, 0, none⟩) (k + 1) cap)).heap.size :=
                        ⟨k + 1, by omega, by go_num, _, ON7.out.set 7 _, RX7.out.far (Nat.le_refl _) _ _, RC7.out.far (by omega) _ _, RK7.out.far (by omega) _ _, ownsRow_setCell_below OW7.out (by show W.heap.size + 1 < B2; omega) _, by simpa [World.setCell] using sz7⟩
                      first | exact fin | ((repeat apply Exists.intro); exact ⟨fin, rfl⟩)
                    case measure => simp [intOf]; omega
                · obtain rfl : k = 8 := by omega
                  obtain ⟨gp, cp, rfl, hgp, RP⟩ := row_of_owns (show wr.ownsRow B2 29 1 vp 8 (ps.map (Value.int .u32)) from by rw [List.take_of_length_le (by simp; omega)] at ownr; exact ownr) hpl (by decide)
                  clear ownr k_s KP
                  have hz8 : W.heap.size + 4 ≤ wr.heap.size := by omega
                  have hgc2 : W.heap.size + 2 ≤ gc := by omega
                  have hgk2 : W.heap.size + 2 ≤ gk := by omega
                  have hgp2 : W.heap.size + 2 ≤ gp := by omega
                  go_upto_region 15 with fail
                  go_cut [] (fun w => On W w [Value.slice (some ⟨W.heap.size + 2, 0, none⟩) 32 32, .int .u32 s.pc, .int .i64 s.mode, .bool s.asleep, Value.slice (some ⟨gc, 0, none⟩) 19 cc, .string (bytesOf s.ram), Value.slice (some ⟨gk, 0, none⟩) 3 3, Value.slice (some ⟨gp, 0, none⟩) 8 cp, Value.int .u32 (mk (fun i => (srcAt s i).waits) 7), Value.int .u32 0, Value.int .u32 0, Value.slice none 0 0, Value.slice none 0 0] ∧ RowAt w (W.heap.size + 2) 32 s.x ∧ RowAt w gc cc (csrsR s) ∧ RowAt w gk 3 [s.msip, s.mtimecmp, s.mtime] ∧ RowAt w gp cp ps ∧ W.heap.size + 4 ≤ w.heap.size)
                  case first =>
                    go_wp2_with fail
                    refine (mask_0 _ p b s (HH.out _ onr.bel)).mono ?_
                    rintro e w' ⟨rfl, q, rfl⟩
                    have sx := (onr.drawn q).cell 8
                    simp only [List.getElem?_cons_succ, List.getElem?_cons_zero] at sx
                    have fx := (onr.drawn q).frozen
                    have ONX : Hid (On W (wr.drewN q) _) := onr.drawn q
                    have D : Hid (Below wr.heap.size wr (wr.drewN q)) := below_drawn (Below.refl _ _) q
                    have R1 : Hid (RowAt wr (W.heap.size + 2) 32 s.x ∧ RowAt wr gc cc (csrsR s) ∧ RowAt wr gk 3 [s.msip, s.mtimecmp, s.mtime] ∧ RowAt wr gp cp ps) := ⟨rxr, rcr, rkr, RP⟩
                    clear onr rxr rcr rkr RP
                    go_wp2_with fail
                    go_meet
                    case rel =>
                      obtain ⟨x1, x2, x3, x4⟩ := R1.out
                      exact ⟨ONX.out.set 8 _, (x1.on D.out).far (Nat.le_refl _) _ _, (x2.on D.out).far hgc2 _ _, (x3.on D.out).far hgk2 _ _, (x4.on D.out).far hgp2 _ _, by simpa [World.setCell] using hz8⟩
                  case rest =>
                    obtain ⟨on0, rx0, rc0, rk0, rp0, hz_0⟩ := hcut
                    clear onr rxr rcr rkr RP hz8
                    obtain ⟨wm0, hwm0⟩ : ∃ w, w = wc := ⟨_, rfl⟩
                    rw [← hwm0] at on0 rx0 rc0 rk0 rp0 hz_0
                    rw [← hwm0]
                    clear hwm0
                    go_upto_region 16 with fail
                    go_cut [] (fun w => On W w [Value.slice (some ⟨W.heap.size + 2, 0, none⟩) 32 32, .int .u32 s.pc, .int .i64 s.mode, .bool s.asleep, Value.slice (some ⟨gc, 0, none⟩) 19 cc, .string (bytesOf s.ram), Value.slice (some ⟨gk, 0, none⟩) 3 3, Value.slice (some ⟨gp, 0, none⟩) 8 cp, Value.int .u32 (mk (fun i => (srcAt s i).waits) 7), Value.int .u32 (mk (fun i => (srcAt s i).served) 7), Value.int .u32 0, Value.slice none 0 0, Value.slice none 0 0] ∧ RowAt w (W.heap.size + 2) 32 s.x ∧ RowAt w gc cc (csrsR s) ∧ RowAt w gk 3 [s.msip, s.mtimecmp, s.mtime] ∧ RowAt w gp cp ps ∧ W.heap.size + 4 ≤ w.heap.size)
                    case first =>
                      go_wp2_with fail
                      refine (mask_1 _ p b s (HH.out _ on0.bel)).mono ?_
                      rintro e w' ⟨rfl, q, rfl⟩
                      have sx := (on0.drawn q).cell 9
                      simp only [List.getElem?_cons_succ, List.getElem?_cons_zero] at sx
                      have fx := (on0.drawn q).frozen
                      have ONX : Hid (On W (wm0.drewN q) _) := on0.drawn q
                      have D : Hid (Below wm0.heap.size wm0 (wm0.drewN q)) := below_drawn (Below.refl _ _) q
                      have R1 : Hid (RowAt wm0 (W.heap.size + 2) 32 s.x ∧ RowAt wm0 gc cc (csrsR s) ∧ RowAt wm0 gk 3 [s.msip, s.mtimecmp, s.mtime] ∧ RowAt wm0 gp cp ps) := ⟨rx0, rc0, rk0, rp0⟩
                      clear on0 rx0 rc0 rk0 rp0
                      go_wp2_with fail
                      go_meet
                      case rel =>
                        obtain ⟨x1, x2, x3, x4⟩ := R1.out
                        exact ⟨ONX.out.set 9 _, (x1.on D.out).far (Nat.le_refl _) _ _, (x2.on D.out).far hgc2 _ _, (x3.on D.out).far hgk2 _ _, (x4.on D.out).far hgp2 _ _, by simpa [World.setCell] using hz_0⟩
                    case rest =>
                      obtain ⟨on1, rx1, rc1, rk1, rp1, hz_1⟩ := hcut
                      clear on0 rx0 rc0 rk0 rp0 hz_0
                      obtain ⟨wm1, hwm1⟩ : ∃ w, w = wc := ⟨_, rfl⟩
                      rw [← hwm1] at on1 rx1 rc1 rk1 rp1 hz_1
                      rw [← hwm1]
                      clear hwm1
                      go_upto_region 17 with fail
                      go_cut [] (fun w => On W w [Value.slice (some ⟨W.heap.size + 2, 0, none⟩) 32 32, .int .u32 s.pc, .int .i64 s.mode, .bool s.asleep, Value.slice (some ⟨gc, 0, none⟩) 19 cc, .string (bytesOf s.ram), Value.slice (some ⟨gk, 0, none⟩) 3 3, Value.slice (some ⟨gp, 0, none⟩) 8 cp, Value.int .u32 (mk (fun i => (srcAt s i).waits) 7), Value.int .u32 (mk (fun i => (srcAt s i).served) 7), Value.int .u32 (mk (fun i => (srcAt s i).high) 7), Value.slice none 0 0, Value.slice none 0 0] ∧ RowAt w (W.heap.size + 2) 32 s.x ∧ RowAt w gc cc (csrsR s) ∧ RowAt w gk 3 [s.msip, s.mtimecmp, s.mtime] ∧ RowAt w gp cp ps ∧ W.heap.size + 4 ≤ w.heap.size)
                      case first =>
                        go_wp2_with fail
                        refine (mask_2 _ p b s (HH.out _ on1.bel)).mono ?_
                        rintro e w' ⟨rfl, q, rfl⟩
                        have sx := (on1.drawn q).cell 10
                        simp only [List.getElem?_cons_succ, List.getElem?_cons_zero] at sx
                        have fx := (on1.drawn q).frozen
                        have ONX : Hid (On W (wm1.drewN q) _) := on1.drawn q
                        have D : Hid (Below wm1.heap.size wm1 (wm1.drewN q)) := below_drawn (Below.refl _ _) q
                        have R1 : Hid (RowAt wm1 (W.heap.size + 2) 32 s.x ∧ RowAt wm1 gc cc (csrsR s) ∧ RowAt wm1 gk 3 [s.msip, s.mtimecmp, s.mtime] ∧ RowAt wm1 gp cp ps) := ⟨rx1, rc1, rk1, rp1⟩
                        clear on1 rx1 rc1 rk1 rp1
                        go_wp2_with fail
                        go_meet
                        case rel =>
                          obtain ⟨x1, x2, x3, x4⟩ := R1.out
                          exact ⟨ONX.out.set 10 _, (x1.on D.out).far (Nat.le_refl _) _ _, (x2.on D.out).far hgc2 _ _, (x3.on D.out).far hgk2 _ _, (x4.on D.out).far hgp2 _ _, by simpa [World.setCell] using hz_1⟩
                      case rest =>
                        obtain ⟨on2, rx2, rc2, rk2, rp2, hz_2⟩ := hcut
                        clear on1 rx1 rc1 rk1 rp1 hz_1
                        obtain ⟨wm2, hwm2⟩ : ∃ w, w = wc := ⟨_, rfl⟩
                        rw [← hwm2] at on2 rx2 rc2 rk2 rp2 hz_2
                        rw [← hwm2]
                        clear hwm2
                        go_upto_region 18 with fail
                        go_cut [] (fun w => ∃ ge, W.heap.size + 4 ≤ ge ∧ On W w [Value.slice (some ⟨W.heap.size + 2, 0, none⟩) 32 32, .int .u32 s.pc, .int .i64 s.mode, .bool s.asleep, Value.slice (some ⟨gc, 0, none⟩) 19 cc, .string (bytesOf s.ram), Value.slice (some ⟨gk, 0, none⟩) 3 3, Value.slice (some ⟨gp, 0, none⟩) 8 cp, Value.int .u32 (mk (fun i => (srcAt s i).waits) 7), Value.int .u32 (mk (fun i => (srcAt s i).served) 7), Value.int .u32 (mk (fun i => (srcAt s i).high) 7), Value.slice (some ⟨ge, 0, none⟩) 2 2, Value.slice none 0 0] ∧ RowAt w (W.heap.size + 2) 32 s.x ∧ RowAt w gc cc (csrsR s) ∧ RowAt w gk 3 [s.msip, s.mtimecmp, s.mtime] ∧ RowAt w gp cp ps ∧ W.heap.size + 4 ≤ w.heap.size ∧ RowAt w ge 2 [enAt s 0, enAt s 1])
                        case first =>
                          have k_1 : ∀ w', Below W.heap.size W w' → w'.cell? ⟨p, 31, none⟩ = some (.slice (some ⟨b.en, 0, none⟩) 2 b.ken) := fun w' hb => (HH.out w' hb).cen
                          have k_2 : ∀ w', Below W.heap.size W w' → w'.cell? ⟨b.en, 0, none⟩ = some (.int .u32 (enAt s 0)) := fun w' hb => by have h := HH.out w' hb; have := h.en.cell 0 (by rw [h.nen]; decide); simpa [enAt, List.getD] using this
                          have k_3 : ∀ w', Below W.heap.size W w' → w'.cell? ⟨b.en, 1, none⟩ = some (.int .u32 (enAt s 1)) := fun w' hb => by have h := HH.out w' hb; have := h.en.cell 1 (by rw [h.nen]; decide); simpa [enAt, List.getD] using this
                          have sx := on2.cell 11
                          simp only [List.getElem?_cons_succ, List.getElem?_cons_zero] at sx
                          have fx := on2.frozen
                          have ax := (alloc_cell wm2 (W.heap.size + 1) on2.lt).1
                          have bx := (alloc_cell wm2 (W.heap.size + 1) on2.lt).2
                          have hbw := on2.bel
                          have hbd := hbw.drew
                          have ONX : Hid (On W wm2 _) := on2
                          have R1 : Hid (RowAt wm2 (W.heap.size + 2) 32 s.x ∧ RowAt wm2 gc cc (csrsR s) ∧ RowAt wm2 gk 3 [s.msip, s.mtimecmp, s.mtime] ∧ RowAt wm2 gp cp ps) := ⟨rx2, rc2, rk2, rp2⟩
                          clear on2 rx2 rc2 rk2 rp2
                          go_region_held3 (fun w' => Below W.heap.size W w') (first | with_reducible assumption | with_reducible exact (hbw.alloc hbw.size _).drew | exact (Below.setCell (hbw.alloc hbw.size _) (by simp) _).drew) (fail)
                          all_goals go_wp2_with fail
                          go_meet
                          case rel =>
                            obtain ⟨x1, x2, x3, x4⟩ := R1.out
                            exact ⟨wm2.heap.size, hz_2, ((ONX.out.alloc _).set 11 _).drew, x1.keep3 (Nat.le_refl _) _ _ _, x2.keep3 hgc2 _ _ _, x3.keep3 hgk2 _ _ _, x4.keep3 hgp2 _ _ _, by show _ ≤ (World.setCell _ _ _).heap.size; simp [World.setCell]; omega, row_put wm2 W (by omega) _ [enAt s 0, enAt s 1] 2 rfl (by decide) rfl _ _⟩
                        case rest =>
                          obtain ⟨ge, hge, on3, rx3, rc3, rk3, rp3, hz_3, n0row⟩ := hcut
                          clear on2 rx2 rc2 rk2 rp2 hz_2
                          obtain ⟨wm3, hwm3⟩ : ∃ w, w = wc := ⟨_, rfl⟩
                          rw [← hwm3] at on3 rx3 rc3 rk3 rp3 hz_3 n0row
                          rw [← hwm3]
                          clear hwm3
                          go_upto_region 19 with fail
                          go_cut [] (fun w => ∃ gl, W.heap.size + 4 ≤ gl ∧ On W w [Value.slice (some ⟨W.heap.size + 2, 0, none⟩) 32 32, .int .u32 s.pc, .int .i64 s.mode, .bool s.asleep, Value.slice (some ⟨gc, 0, none⟩) 19 cc, .string (bytesOf s.ram), Value.slice (some ⟨gk, 0, none⟩) 3 3, Value.slice (some ⟨gp, 0, none⟩) 8 cp, Value.int .u32 (mk (fun i => (srcAt s i).waits) 7), Value.int .u32 (mk (fun i => (srcAt s i).served) 7), Value.int .u32 (mk (fun i => (srcAt s i).high) 7), Value.slice (some ⟨ge, 0, none⟩) 2 2, Value.slice (some ⟨gl, 0, none⟩) 2 2] ∧ RowAt w (W.heap.size + 2) 32 s.x ∧ RowAt w gc cc (csrsR s) ∧ RowAt w gk 3 [s.msip, s.mtimecmp, s.mtime] ∧ RowAt w gp cp ps ∧ W.heap.size + 4 ≤ w.heap.size ∧ RowAt w gl 2 [liAt s 0, liAt s 1] ∧ RowAt w ge 2 [enAt s 0, enAt s 1])
                          case first =>
                            have k_1 : ∀ w', Below W.heap.size W w' → w'.cell? ⟨p, 32, none⟩ = some (.slice (some ⟨b.li, 0, none⟩) 2 b.kli) := fun w' hb => (HH.out w' hb).cli
                            have k_2 : ∀ w', Below W.heap.size W w' → w'.cell? ⟨b.li, 0, none⟩ = some (.int .u32 (liAt s 0)) := fun w' hb => by have h := HH.out w' hb; have := h.li.cell 0 (by rw [h.nli]; decide); simpa [liAt, List.getD] using this
                            have k_3 : ∀ w', Below W.heap.size W w' → w'.cell? ⟨b.li, 1, none⟩ = some (.int .u32 (liAt s 1)) := fun w' hb => by have h := HH.out w' hb; have := h.li.cell 1 (by rw [h.nli]; decide); simpa [liAt, List.getD] using this
                            have sx := on3.cell 12
                            simp only [List.getElem?_cons_succ, List.getElem?_cons_zero] at sx
                            have fx := on3.frozen
                            have ax := (alloc_cell wm3 (W.heap.size + 1) on3.lt).1
                            have bx := (alloc_cell wm3 (W.heap.size + 1) on3.lt).2
                            have hbw := on3.bel
                            have hbd := hbw.drew
                            have ONX : Hid (On W wm3 _) := on3
                            have R1 : Hid (RowAt wm3 (W.heap.size + 2) 32 s.x ∧ RowAt wm3 gc cc (csrsR s) ∧ RowAt wm3 gk 3 [s.msip, s.mtimecmp, s.mtime] ∧ RowAt wm3 gp cp ps ∧ RowAt wm3 ge 2 [enAt s 0, enAt s 1]) := ⟨rx3, rc3, rk3, rp3, n0row⟩
                            clear on3 rx3 rc3 rk3 rp3 n0row
                            go_region_held3 (fun w' => Below W.heap.size W w') (first | with_reducible assumption | with_reducible exact (hbw.alloc hbw.size _).drew | exact (Below.setCell (hbw.alloc hbw.size _) (by simp) _).drew) (fail)
                            all_goals go_wp2_with fail
                            go_meet
                            case rel =>
                              obtain ⟨x1, x2, x3, x4, y0⟩ := R1.out
                              exact ⟨wm3.heap.size, hz_3, ((ONX.out.alloc _).set 12 _).drew, x1.keep3 (Nat.le_refl _) _ _ _, x2.keep3 hgc2 _ _ _, x3.keep3 hgk2 _ _ _, x4.keep3 hgp2 _ _ _, by show _ ≤ (World.setCell _ _ _).heap.size; simp [World.setCell]; omega, row_put wm3 W (by omega) _ [liAt s 0, liAt s 1] 2 rfl (by decide) rfl _ _, y0.keep3 (by omega) _ _ _⟩
                          case rest =>
                            obtain ⟨gl, hgl, on4, rx4, rc4, rk4, rp4, hz_4, n1row, n0rowx⟩ := hcut
                            clear on3 rx3 rc3 rk3 rp3 hz_3 n0row
                            obtain ⟨wm4, hwm4⟩ : ∃ w, w = wc := ⟨_, rfl⟩
                            rw [← hwm4] at on4 rx4 rc4 rk4 rp4 hz_4 n1row n0rowx
                            rw [← hwm4]
                            clear hwm4
                            have zf : ∀ j, wm4.frozen? ⟨W.heap.size, j, none⟩ = false := fun j => by unfold World.frozen?; rw [on4.res]; simp
                            have zc0 : wm4.cell? ⟨W.heap.size, 0, none⟩ = some (.slice none 0 0) := (cell_of_row wm4 _ 0 _ _ (0, 0) on4.res).trans rfl
                            have sc0 := on4.cell 0
                            have zc1 : wm4.cell? ⟨W.heap.size, 1, none⟩ = some (.int .u32 0) := (cell_of_row wm4 _ 1 _ _ (0, 0) on4.res).trans rfl
                            have sc1 := on4.cell 1
                            have zc2 : wm4.cell? ⟨W.heap.size, 2, none⟩ = some (.int .i64 0) := (cell_of_row wm4 _ 2 _ _ (0, 0) on4.res).trans rfl
                            have sc2 := on4.cell 2
                            have zc3 : wm4.cell? ⟨W.heap.size, 3, none⟩ = some (.bool false) := (cell_of_row wm4 _ 3 _ _ (0, 0) on4.res).trans rfl
                            have sc3 := on4.cell 3
                            have zc4 : wm4.cell? ⟨W.heap.size, 4, none⟩ = some (.slice none 0 0) := (cell_of_row wm4 _ 4 _ _ (0, 0) on4.res).trans rfl
                            have sc4 := on4.cell 4
                            have zc5 : wm4.cell? ⟨W.heap.size, 5, none⟩ = some (.string { data := #[] }) := (cell_of_row wm4 _ 5 _ _ (0, 0) on4.res).trans rfl
                            have sc5 := on4.cell 5
                            have zc6 : wm4.cell? ⟨W.heap.size, 6, none⟩ = some (.slice none 0 0) := (cell_of_row wm4 _ 6 _ _ (0, 0) on4.res).trans rfl
                            have sc6 := on4.cell 6
                            have zc7 : wm4.cell? ⟨W.heap.size, 7, none⟩ = some (.slice none 0 0) := (cell_of_row wm4 _ 7 _ _ (0, 0) on4.res).trans rfl
                            have sc7 := on4.cell 7
                            have zc8 : wm4.cell? ⟨W.heap.size, 8, none⟩ = some (.int .u32 0) := (cell_of_row wm4 _ 8 _ _ (0, 0) on4.res).trans rfl
                            have sc8 := on4.cell 8
                            have zc9 : wm4.cell? ⟨W.heap.size, 9, none⟩ = some (.int .u32 0) := (cell_of_row wm4 _ 9 _ _ (0, 0) on4.res).trans rfl
                            have sc9 := on4.cell 9
                            have zc10 : wm4.cell? ⟨W.heap.size, 10, none⟩ = some (.int .u32 0) := (cell_of_row wm4 _ 10 _ _ (0, 0) on4.res).trans rfl
                            have sc10 := on4.cell 10
                            have zc11 : wm4.cell? ⟨W.heap.size, 11, none⟩ = some (.slice none 0 0) := (cell_of_row wm4 _ 11 _ _ (0, 0) on4.res).trans rfl
                            have sc11 := on4.cell 11
                            have zc12 : wm4.cell? ⟨W.heap.size, 12, none⟩ = some (.slice none 0 0) := (cell_of_row wm4 _ 12 _ _ (0, 0) on4.res).trans rfl
                            have sc12 := on4.cell 12
                            simp only [List.getElem?_cons_succ, List.getElem?_cons_zero] at sc0 sc1 sc2 sc3 sc4 sc5 sc6 sc7 sc8 sc9 sc10 sc11 sc12
                            have hbel := on4.bel
                            have ne := on4.lt
                            have RR : Hid (RowAt wm4 (W.heap.size + 2) 32 s.x ∧ RowAt wm4 gc cc (csrsR s) ∧ RowAt wm4 gk 3 [s.msip, s.mtimecmp, s.mtime] ∧ RowAt wm4 gp cp ps ∧ RowAt wm4 ge 2 [enAt s 0, enAt s 1] ∧ RowAt wm4 gl 2 [liAt s 0, liAt s 1]) := ⟨rx4, rc4, rk4, rp4, n0rowx, n1row⟩
                            clear on4 rx4 rc4 rk4 rp4 n0rowx n1row
                            go_wp2_with fail
                            have rr := HH.out W (Below.refl _ _)
                            have een : s.enable = [enAt s 0, enAt s 1] := two_of s.enable rr.nen
                            have eli : s.limit = [liAt s 0, liAt s 1] := two_of s.limit rr.nli
                            have eps := HPS.out
                            have lps : (s.src.map (·.prio)).length = 8 := by rw [← eps]; exact hpl
                            have h32 := rr.nx
                            obtain ⟨x1, x2, x3, x4, x5, x6⟩ := RR.out
                            exact bodyPost_ret (v := .agg #[Value.slice (some ⟨W.heap.size + 2, 0, none⟩) 32 32, .int .u32 s.pc, .int .i64 s.mode, .bool s.asleep, Value.slice (some ⟨gc, 0, none⟩) 19 cc, .string (bytesOf s.ram), Value.slice (some ⟨gk, 0, none⟩) 3 3, Value.slice (some ⟨gp, 0, none⟩) 8 cp, Value.int .u32 (mk (fun i => (srcAt s i).waits) 7), Value.int .u32 (mk (fun i => (srcAt s i).served) 7), Value.int .u32 (mk (fun i => (srcAt s i).high) 7), Value.slice (some ⟨ge, 0, none⟩) 2 2, Value.slice (some ⟨gl, 0, none⟩) 2 2]) (by simp [results, Tryz.results33, go_sem, get13_0 _ _ _ _ _ _ _ _ _ _ _ _ _ _ _ _ zc0, get13_1 _ _ _ _ _ _ _ _ _ _ _ _ _ _ _ _ zc1, get13_2 _ _ _ _ _ _ _ _ _ _ _ _ _ _ _ _ zc2, get13_3 _ _ _ _ _ _ _ _ _ _ _ _ _ _ _ _ zc3, get13_4 _ _ _ _ _ _ _ _ _ _ _ _ _ _ _ _ zc4, get13_5 _ _ _ _ _ _ _ _ _ _ _ _ _ _ _ _ zc5, get13_6 _ _ _ _ _ _ _ _ _ _ _ _ _ _ _ _ zc6, get13_7 _ _ _ _ _ _ _ _ _ _ _ _ _ _ _ _ zc7, get13_8 _ _ _ _ _ _ _ _ _ _ _ _ _ _ _ _ zc8, get13_9 _ _ _ _ _ _ _ _ _ _ _ _ _ _ _ _ zc9, get13_10 _ _ _ _ _ _ _ _ _ _ _ _ _ _ _ _ zc10, get13_11 _ _ _ _ _ _ _ _ _ _ _ _ _ _ _ _ zc11, get13_12 _ _ _ _ _ _ _ _ _ _ _ _ _ _ _ _ zc12]) rfl ⟨⟨W.heap.size + 2, 32, gc, cc, gk, 3, gp, cp, ge, 2, gl, 2⟩, look_agg s ⟨W.heap.size + 2, 32, gc, cc, gk, 3, gp, cp, ge, 2, gl, 2⟩ 32 19 3 8 2 2 h32 rfl rfl lps rr.nen rr.nli, ⟨x1.put13 (by omega) _ _ _ _ _ _ _ _ _ _ _ _ _, x2.put13 (by omega) _ _ _ _ _ _ _ _ _ _ _ _ _, x3.put13 (by omega) _ _ _ _ _ _ _ _ _ _ _ _ _, (show RowAt wm4 gp cp (s.src.map (·.prio)) from eps ▸ x4).put13 (by omega) _ _ _ _ _ _ _ _ _ _ _ _ _, (show RowAt wm4 ge 2 s.enable from een ▸ x5).put13 (by omega) _ _ _ _ _ _ _ _ _ _ _ _ _, (show RowAt wm4 gl 2 s.limit from eli ▸ x6).put13 (by omega) _ _ _ _ _ _ _ _ _ _ _ _ _⟩, below_put13 hbel (Nat.le_refl _) _ _ _ _ _ _ _ _ _ _ _ _ _⟩
end Go.Proofs.YteiideeechnekaaGreatDoor
