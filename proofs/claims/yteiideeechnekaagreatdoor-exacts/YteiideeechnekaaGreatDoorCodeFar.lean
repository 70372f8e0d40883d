/-
  The code's loads and stores that leave the memory.
-/
import Derived.Test.YteiideeechnekaaGreatDoorCodeDo1
namespace Go.Proofs.YteiideeechnekaaGreatDoor
open Go.RowKit

/-- What a load of a word outside the memory leaves; a store. -/
def ldC (c : CSt) (rd a : Nat) : CSt := if (devC c a).2.2 then resC (devC c a).1 rd (devC c a).2.1 else excC (devC c a).1 5 a
def stC (c : CSt) (a : Nat) (v : Int) : CSt := if (setD c a v).2 then { (setD c a v).1 with pc := ((setD c a v).1.pc + 4) % 4294967296 } else excC (setD c a v).1 7 a
theorem claimC_mode (c : CSt) (m : Nat) : (claimC c m).mode = c.mode := by unfold claimC; split <;> rfl
theorem complC_mode (c : CSt) (en v : Int) : (complC c en v).mode = c.mode := by unfold complC; split <;> rfl
theorem devC_mode (c : CSt) (a : Nat) : (devC c a).1.mode = c.mode := by
  unfold devC
  split
  · rfl
  · unfold linV
    repeat' (first | rfl | exact claimC_mode _ _ | split)
theorem setD_mode (c : CSt) (a : Nat) (v : Int) : (setD c a v).1.mode = c.mode := by
  unfold setD
  split
  · unfold clkW
    repeat' (first | rfl | split)
  · unfold linW
    repeat' (first | rfl | exact complC_mode _ _ _ | split)
theorem box_far {W w2 : World} {L : List Nat} {c : Array Value} {t : TypeId} (hL : W.heap.size ∉ L) (o2 : Offs L (W.alloc (.cells c t)) w2) (j : Nat) : w2.cell? ⟨W.heap.size, j, none⟩ = c[j]? := by
  have e : w2.heap[W.heap.size]? = some (.cells c t (0, 0)) := (o2.block _ (by simp) hL).trans (heap_alloc_new W _)
  exact cell_of_row w2 _ j c _ (0, 0) e
theorem cload_far_11 (W : World) (x r : Nat) (c : CSt) (h : CodeAt W x r c) (A : x ≠ r) (m0 : 0 ≤ c.mode) (m3 : c.mode ≤ 3) (rd : Nat) (r1 r2 imm : Int) (a : Nat) (h32 : a < 4294967296) (ha : ¬ a + 1 ≤ c.ram.length) :
    Calls Tryz.prog 115 #[.pointer (some ⟨x, 0, none⟩), .agg #[.int .i64 11, .int .i64 rd, .int .i64 r1, .int .i64 r2, .int .u32 imm], .int .u32 a] W (CP W x r (excC c 5 a)) := by
  have HF0 : Hid (∀ o, CodeAt (W.alloc o) x r c) := fun o => h.below ((Below.refl W.heap.size W).alloc (Nat.le_refl _) o) h.lt.1 h.lt.2
  clear h
  go_enter Tryz.func115, Tryz.ntmps115
  go_wp2_with (first | (go_at_call 148; refine (width_11 _).mono ?_; rintro e w' ⟨rfl, rfl⟩) | (go_at_call 46; refine (cread_no _ x a 1 (by decide) (loadRam_no _ x a 1 (inRam_out_1 _ x r c (HF0.out _) a h32 ha))).mono ?_; rintro e w1 ⟨rfl, q, rfl⟩) | (go_at_call 79; refine (exc_any _ x r c ((HF0.out _).drawn _) A m0 m3 5 (by decide) _).mono ?_; rintro e w2 ⟨rfl, h2, o2⟩))
  exact bodyPost_ret (v := .tuple #[]) (by simp [results, Tryz.results115, go_sem]) rfl ⟨rfl, h2, (((Offs.refl _ _).new _).drawn _).trans o2⟩
theorem cload_far_12 (W : World) (x r : Nat) (c : CSt) (h : CodeAt W x r c) (A : x ≠ r) (m0 : 0 ≤ c.mode) (m3 : c.mode ≤ 3) (rd : Nat) (r1 r2 imm : Int) (a : Nat) (h32 : a < 4294967296) (ha : ¬ a + 2 ≤ c.ram.length) :
    Calls Tryz.prog 115 #[.pointer (some ⟨x, 0, none⟩), .agg #[.int .i64 12, .int .i64 rd, .int .i64 r1, .int .i64 r2, .int .u32 imm], .int .u32 a] W (CP W x r (excC c 5 a)) := by
  have HF0 : Hid (∀ o, CodeAt (W.alloc o) x r c) := fun o => h.below ((Below.refl W.heap.size W).alloc (Nat.le_refl _) o) h.lt.1 h.lt.2
  clear h
  go_enter Tryz.func115, Tryz.ntmps115
  go_wp2_with (first | (go_at_call 148; refine (width_12 _).mono ?_; rintro e w' ⟨rfl, rfl⟩) | (go_at_call 46; refine (cread_no _ x a 2 (by decide) (loadRam_no _ x a 2 (inRam_out_2 _ x r c (HF0.out _) a h32 ha))).mono ?_; rintro e w1 ⟨rfl, q, rfl⟩) | (go_at_call 79; refine (exc_any _ x r c ((HF0.out _).drawn _) A m0 m3 5 (by decide) _).mono ?_; rintro e w2 ⟨rfl, h2, o2⟩))
  exact bodyPost_ret (v := .tuple #[]) (by simp [results, Tryz.results115, go_sem]) rfl ⟨rfl, h2, (((Offs.refl _ _).new _).drawn _).trans o2⟩
theorem cload_far_14 (W : World) (x r : Nat) (c : CSt) (h : CodeAt W x r c) (A : x ≠ r) (m0 : 0 ≤ c.mode) (m3 : c.mode ≤ 3) (rd : Nat) (r1 r2 imm : Int) (a : Nat) (h32 : a < 4294967296) (ha : ¬ a + 1 ≤ c.ram.length) :
    Calls Tryz.prog 115 #[.pointer (some ⟨x, 0, none⟩), .agg #[.int .i64 14, .int .i64 rd, .int .i64 r1, .int .i64 r2, .int .u32 imm], .int .u32 a] W (CP W x r (excC c 5 a)) := by
  have HF0 : Hid (∀ o, CodeAt (W.alloc o) x r c) := fun o => h.below ((Below.refl W.heap.size W).alloc (Nat.le_refl _) o) h.lt.1 h.lt.2
  clear h
  go_enter Tryz.func115, Tryz.ntmps115
  go_wp2_with (first | (go_at_call 148; refine (width_14 _).mono ?_; rintro e w' ⟨rfl, rfl⟩) | (go_at_call 46; refine (cread_no _ x a 1 (by decide) (loadRam_no _ x a 1 (inRam_out_1 _ x r c (HF0.out _) a h32 ha))).mono ?_; rintro e w1 ⟨rfl, q, rfl⟩) | (go_at_call 79; refine (exc_any _ x r c ((HF0.out _).drawn _) A m0 m3 5 (by decide) _).mono ?_; rintro e w2 ⟨rfl, h2, o2⟩))
  exact bodyPost_ret (v := .tuple #[]) (by simp [results, Tryz.results115, go_sem]) rfl ⟨rfl, h2, (((Offs.refl _ _).new _).drawn _).trans o2⟩
theorem cload_far_15 (W : World) (x r : Nat) (c : CSt) (h : CodeAt W x r c) (A : x ≠ r) (m0 : 0 ≤ c.mode) (m3 : c.mode ≤ 3) (rd : Nat) (r1 r2 imm : Int) (a : Nat) (h32 : a < 4294967296) (ha : ¬ a + 2 ≤ c.ram.length) :
    Calls Tryz.prog 115 #[.pointer (some ⟨x, 0, none⟩), .agg #[.int .i64 15, .int .i64 rd, .int .i64 r1, .int .i64 r2, .int .u32 imm], .int .u32 a] W (CP W x r (excC c 5 a)) := by
  have HF0 : Hid (∀ o, CodeAt (W.alloc o) x r c) := fun o => h.below ((Below.refl W.heap.size W).alloc (Nat.le_refl _) o) h.lt.1 h.lt.2
  clear h
  go_enter Tryz.func115, Tryz.ntmps115
  go_wp2_with (first | (go_at_call 148; refine (width_15 _).mono ?_; rintro e w' ⟨rfl, rfl⟩) | (go_at_call 46; refine (cread_no _ x a 2 (by decide) (loadRam_no _ x a 2 (inRam_out_2 _ x r c (HF0.out _) a h32 ha))).mono ?_; rintro e w1 ⟨rfl, q, rfl⟩) | (go_at_call 79; refine (exc_any _ x r c ((HF0.out _).drawn _) A m0 m3 5 (by decide) _).mono ?_; rintro e w2 ⟨rfl, h2, o2⟩))
  exact bodyPost_ret (v := .tuple #[]) (by simp [results, Tryz.results115, go_sem]) rfl ⟨rfl, h2, (((Offs.refl _ _).new _).drawn _).trans o2⟩
set_option maxHeartbeats 1000000 in
theorem cload_far_13 (W : World) (x r : Nat) (c : CSt) (h : CodeAt W x r c) (A : x ≠ r) (m0 : 0 ≤ c.mode) (m3 : c.mode ≤ 3) (rd : Nat) (hrd : rd < 32) (r1 r2 imm : Int) (a : Nat) (h32 : a < 4294967296) (ha : ¬ a + 4 ≤ c.ram.length) :
    Calls Tryz.prog 115 #[.pointer (some ⟨x, 0, none⟩), .agg #[.int .i64 13, .int .i64 rd, .int .i64 r1, .int .i64 r2, .int .u32 imm], .int .u32 a] W (CP W x r (ldC c rd a)) := by
  have HF0 : Hid (∀ o, CodeAt (W.alloc o) x r c) := fun o => h.below ((Below.refl W.heap.size W).alloc (Nat.le_refl _) o) h.lt.1 h.lt.2
  have HL : Hid (W.heap.size ∉ [x, r]) := fun hk => by have := h.lt; simp at hk; omega
  have HE0 : ldC c rd a = if (devC c a).2.2 then resC (devC c a).1 rd (devC c a).2.1 else excC (devC c a).1 5 a := rfl
  have hm := devC_mode c a
  have HR0 := fun W h => cread_4 W x r c h A a (loadRam_no W x a 4 (inRam_out_4 W x r c h a h32 ha))
  obtain ⟨c', v, ok, hD⟩ : ∃ c' v ok, devC c a = (c', v, ok) := ⟨_, _, _, rfl⟩
  rw [hD] at HE0 hm
  have HR : Hid (∀ W, CodeAt W x r c → Calls Tryz.prog 46 #[.pointer (some ⟨x, 0, none⟩), .int .u32 a, .int .i64 4] W fun e W' => e = .returned (.tuple #[.int .u32 v, .bool ok]) ∧ CodeAt W' x r c' ∧ Offs [x, r] W W') := fun W h => by
    have := HR0 W h
    rw [hD] at this
    exact this
  have n0 : 0 ≤ c'.mode := by rw [show c'.mode = c.mode from hm]; exact m0
  have n3 : c'.mode ≤ 3 := by rw [show c'.mode = c.mode from hm]; exact m3
  clear hD HR0 h hm m0 m3
  cases ok
  · have HE : Hid (ldC c rd a = excC c' 5 a) := HE0
    clear HE0 hrd
    go_enter Tryz.func115, Tryz.ntmps115
    go_wp2_with (first | (go_at_call 148; refine (width_13 _).mono ?_; rintro e w' ⟨rfl, rfl⟩) | (go_at_call 46; refine (HR.out _ (HF0.out _)).mono ?_; rintro e w0 ⟨rfl, h1, o1⟩) | (go_at_call 79; refine (exc_any _ x r c' h1 A n0 n3 5 (by decide) _).mono ?_; rintro e w2 ⟨rfl, h2, o2⟩))
    exact bodyPost_ret (v := .tuple #[]) (by simp [results, Tryz.results115, go_sem]) rfl ⟨rfl, by rw [HE.out]; exact h2, (((Offs.refl _ _).new _).trans o1).trans o2⟩
  · have HE : Hid (ldC c rd a = resC c' rd v) := HE0
    clear HE0 n0 n3
    go_enter Tryz.func115, Tryz.ntmps115
    go_wp2_with (first | (go_at_call 148; refine (width_13 _).mono ?_; rintro e w' ⟨rfl, rfl⟩) | (go_at_call 46; refine (HR.out _ (HF0.out _)).mono ?_; rintro e w0 ⟨rfl, h1, o1⟩))
    have C0 : Hid (CodeAt w0.drew x r c') := h1.drawn 1
    have O0 : Hid (Offs [x, r] W w0.drew) := (((Offs.refl _ _).new _).trans o1).drawn 1
    have hS : w0.drew.cell? ⟨W.heap.size, 0, none⟩ = some (.int .i64 13) ∧ w0.drew.cell? ⟨W.heap.size, 1, none⟩ = some (.int .i64 rd) := ⟨(box_far HL.out o1 0).trans rfl, (box_far HL.out o1 1).trans rfl⟩
    have HG : Hid (W.heap.size < w0.drew.heap.size ∧ W.heap.size ∉ [x, r]) := ⟨Nat.lt_of_lt_of_le (show W.heap.size < (W.alloc (.cells #[.int .i64 13, .int .i64 rd, .int .i64 r1, .int .i64 r2, .int .u32 imm] 72)).heap.size by simp) o1.size, HL.out⟩
    generalize W.heap.size = g at hS HG ⊢
    clear h1 o1
    refine wp_region_held (S := fun w' => w'.cell? ⟨g, 0, none⟩ = some (.int .i64 13) ∧ w'.cell? ⟨g, 1, none⟩ = some (.int .i64 rd)) (by kernel_rfl) ?_
    change wpAnyH _ _ _ _ _ _ _ _ (w0.drew)
    refine yK 0 (.pointer (some ⟨x, 0, none⟩)) hS ?_
    refine yK 1 (.pointer (some ⟨g, 1, none⟩)) hS ?_
    refine yI 2 (fun _ h => h.2) hS ?_
    refine yK 3 (.pointer (some ⟨g, 0, none⟩)) hS ?_
    refine yI 4 (fun _ h => h.1) hS ?_
    refine yK 5 (.int .u32 v) hS ?_
    refine tA 6 (by kernel_rfl) (wpOp_step rfl fun K hK => ?_)
    go_simp
    refine (widen_other _ 13 _ rfl rfl).mono ?_
    rintro e w' ⟨rfl, hw⟩
    rw [hw]
    clear hw w'
    refine hK _ _ ⟨hS, ?_⟩
    clear hK K
    refine tA 7 (by kernel_rfl) (wpOp_step rfl fun K hK => ?_)
    go_simp
    refine (result_c _ x r c' C0.out A rd hrd _).mono ?_
    rintro e w2 ⟨rfl, h2, o2⟩
    have hS3 : w2.cell? ⟨g, 0, none⟩ = some (.int .i64 13) ∧ w2.cell? ⟨g, 1, none⟩ = some (.int .i64 rd) := by
      have b3 := fun j => World.cell?_of_block (w := w0.drew) (a := ⟨g, j, none⟩) (o2.block g HG.out.1 HG.out.2)
      exact ⟨(b3 0).trans hS.1, (b3 1).trans hS.2⟩
    refine hK _ _ ⟨hS3, wpAnyH_done (by kernel_rfl) ?_ _⟩
    clear hK K
    go_wp2_with fail
    go_end0
    exact ⟨rfl, by rw [HE.out]; exact h2, O0.out.trans o2⟩
theorem cstore_far_16 (W : World) (x r : Nat) (c : CSt) (h : CodeAt W x r c) (A : x ≠ r) (m0 : 0 ≤ c.mode) (m3 : c.mode ≤ 3) (a : Nat) (h32 : a < 4294967296) (v : Int) (ha : ¬ a + 1 ≤ c.ram.length) :
    Calls Tryz.prog 116 #[.pointer (some ⟨x, 0, none⟩), .int .i64 16, .int .u32 a, .int .u32 v] W (CP W x r (excC c 7 a)) := by
  have HF : Hid (CodeAt W x r c) := h
  clear h
  go_enter Tryz.func116, Tryz.ntmps116
  go_wp2_with (first | (go_at_call 148; refine (width_16 _).mono ?_; rintro e w' ⟨rfl, rfl⟩) | (go_at_call 47; refine (cwrite_no _ x a 1 v (by decide) (storeRam_no _ x a 1 v (inRam_out_1 _ x r c HF.out a h32 ha))).mono ?_; rintro e w1 ⟨rfl, q, rfl⟩) | (go_at_call 79; refine (exc_any _ x r c (HF.out.drawn _) A m0 m3 7 (by decide) _).mono ?_; rintro e w2 ⟨rfl, h2, o2⟩))
  exact bodyPost_ret (v := .tuple #[]) (by simp [results, Tryz.results116, go_sem]) rfl ⟨rfl, h2, ((Offs.refl _ _).drawn _).trans o2⟩
theorem cstore_far_17 (W : World) (x r : Nat) (c : CSt) (h : CodeAt W x r c) (A : x ≠ r) (m0 : 0 ≤ c.mode) (m3 : c.mode ≤ 3) (a : Nat) (h32 : a < 4294967296) (v : Int) (ha : ¬ a + 2 ≤ c.ram.length) :
    Calls Tryz.prog 116 #[.pointer (some ⟨x, 0, none⟩), .int .i64 17, .int .u32 a, .int .u32 v] W (CP W x r (excC c 7 a)) := by
  have HF : Hid (CodeAt W x r c) := h
  clear h
  go_enter Tryz.func116, Tryz.ntmps116
  go_wp2_with (first | (go_at_call 148; refine (width_17 _).mono ?_; rintro e w' ⟨rfl, rfl⟩) | (go_at_call 47; refine (cwrite_no _ x a 2 v (by decide) (storeRam_no _ x a 2 v (inRam_out_2 _ x r c HF.out a h32 ha))).mono ?_; rintro e w1 ⟨rfl, q, rfl⟩) | (go_at_call 79; refine (exc_any _ x r c (HF.out.drawn _) A m0 m3 7 (by decide) _).mono ?_; rintro e w2 ⟨rfl, h2, o2⟩))
  exact bodyPost_ret (v := .tuple #[]) (by simp [results, Tryz.results116, go_sem]) rfl ⟨rfl, h2, ((Offs.refl _ _).drawn _).trans o2⟩
set_option maxHeartbeats 1000000 in
theorem cstore_far_18 (W : World) (x r : Nat) (c : CSt) (h : CodeAt W x r c) (A : x ≠ r) (m0 : 0 ≤ c.mode) (m3 : c.mode ≤ 3) (a : Nat) (h32 : a < 4294967296) (v : Int) (v0 : 0 ≤ v) (ha : ¬ a + 4 ≤ c.ram.length) :
    Calls Tryz.prog 116 #[.pointer (some ⟨x, 0, none⟩), .int .i64 18, .int .u32 a, .int .u32 v] W (CP W x r (stC c a v)) := by
  have HE0 : stC c a v = if (setD c a v).2 then { (setD c a v).1 with pc := ((setD c a v).1.pc + 4) % 4294967296 } else excC (setD c a v).1 7 a := rfl
  have hm := setD_mode c a v
  have HR0 := cwrite_4 W x r c h A a v v0 (storeRam_no W x a 4 v (inRam_out_4 W x r c h a h32 ha))
  obtain ⟨c', ok, hD⟩ : ∃ c' ok, setD c a v = (c', ok) := ⟨_, _, rfl⟩
  rw [hD] at HE0 hm HR0
  have n0 : 0 ≤ c'.mode := by rw [show c'.mode = c.mode from hm]; exact m0
  have n3 : c'.mode ≤ 3 := by rw [show c'.mode = c.mode from hm]; exact m3
  have HR : Hid (Calls Tryz.prog 47 #[.pointer (some ⟨x, 0, none⟩), .int .u32 a, .int .i64 4, .int .u32 v] W fun e W' => e = .returned (.bool ok) ∧ CodeAt W' x r c' ∧ Offs [x, r] W W') := HR0
  clear hD HR0 h hm m0 m3 v0
  cases ok
  · have HE : Hid (stC c a v = excC c' 7 a) := HE0
    clear HE0
    go_enter Tryz.func116, Tryz.ntmps116
    go_wp2_with (first | (go_at_call 148; refine (width_18 _).mono ?_; rintro e w' ⟨rfl, rfl⟩) | (go_at_call 47; refine HR.out.mono ?_; rintro e w1 ⟨rfl, h1, o1⟩) | (go_at_call 79; refine (exc_any _ x r c' h1 A n0 n3 7 (by decide) _).mono ?_; rintro e w2 ⟨rfl, h2, o2⟩))
    exact bodyPost_ret (v := .tuple #[]) (by simp [results, Tryz.results116, go_sem]) rfl ⟨rfl, by rw [HE.out]; exact h2, o1.trans o2⟩
  · have HE : Hid (stC c a v = { c' with pc := (c'.pc + 4) % 4294967296 }) := HE0
    clear HE0 n0 n3
    go_enter Tryz.func116, Tryz.ntmps116
    go_wp2_with (first | (go_at_call 148; refine (width_18 _).mono ?_; rintro e w' ⟨rfl, rfl⟩) | (go_at_call 47; refine HR.out.mono ?_; rintro e w1 ⟨rfl, h1, o1⟩; have c9 := h1.pc; have f9 := h1.fx))
    go_end0
    exact ⟨rfl, by rw [HE.out]; exact h1.put_pc A _, o1.put (by simp) _⟩
set_option maxHeartbeats 4000000 in
set_option maxRecDepth 100000 in
theorem cdo_11_far {W : World} {x r rd r1 r2 : Nat} {c : CSt} {imm : Int} (J : Din W x r c rd r1 r2 imm) (w : Int) (a : Nat) (ea : (c.regs[r1]?.getD 0 + imm) % 4294967296 = a) (ha : ¬ a + 1 ≤ c.ram.length) : CDo W x r 11 rd r1 r2 imm w (excC c 5 a) := by
  obtain ⟨HF0, HF, HAT, HL, HZ, A, ⟨hd, hd'⟩, h1, h2, ⟨i0, i1⟩, xa, xb, ⟨p0, p1⟩, ⟨m0, m3⟩, c1, f1⟩ := J.facts
  clear J
  unfold CDo
  go_enter Tryz.func81, Tryz.ntmps81
  go_wp2_with (first | (go_at_call 110; (first | (refine (reg_any _ x r c (HF0.out _) HZ.out _ (by omega)).mono ?_) | (refine (reg_any _ x r c (HF.out _ _) HZ.out _ (by omega)).mono ?_)); rintro e w' ⟨rfl, q, rfl⟩))
  refine (cload_far_11 _ x r c (HF.out _ _) A m0 m3 rd _ _ _ a (by omega) ha).mono ?_
  rintro e w3 ⟨rfl, h3, o3⟩
  go_wp2_with fail
  go_end0
  exact ⟨rfl, h3, (((Offs.refl _ _).new _).drawn _).trans o3⟩
set_option maxHeartbeats 4000000 in
set_option maxRecDepth 100000 in
theorem cdo_12_far {W : World} {x r rd r1 r2 : Nat} {c : CSt} {imm : Int} (J : Din W x r c rd r1 r2 imm) (w : Int) (a : Nat) (ea : (c.regs[r1]?.getD 0 + imm) % 4294967296 = a) (ha : ¬ a + 2 ≤ c.ram.length) : CDo W x r 12 rd r1 r2 imm w (excC c 5 a) := by
  obtain ⟨HF0, HF, HAT, HL, HZ, A, ⟨hd, hd'⟩, h1, h2, ⟨i0, i1⟩, xa, xb, ⟨p0, p1⟩, ⟨m0, m3⟩, c1, f1⟩ := J.facts
  clear J
  unfold CDo
  go_enter Tryz.func81, Tryz.ntmps81
  go_wp2_with (first | (go_at_call 110; (first | (refine (reg_any _ x r c (HF0.out _) HZ.out _ (by omega)).mono ?_) | (refine (reg_any _ x r c (HF.out _ _) HZ.out _ (by omega)).mono ?_)); rintro e w' ⟨rfl, q, rfl⟩))
  refine (cload_far_12 _ x r c (HF.out _ _) A m0 m3 rd _ _ _ a (by omega) ha).mono ?_
  rintro e w3 ⟨rfl, h3, o3⟩
  go_wp2_with fail
  go_end0
  exact ⟨rfl, h3, (((Offs.refl _ _).new _).drawn _).trans o3⟩
set_option maxHeartbeats 4000000 in
set_option maxRecDepth 100000 in
theorem cdo_14_far {W : World} {x r rd r1 r2 : Nat} {c : CSt} {imm : Int} (J : Din W x r c rd r1 r2 imm) (w : Int) (a : Nat) (ea : (c.regs[r1]?.getD 0 + imm) % 4294967296 = a) (ha : ¬ a + 1 ≤ c.ram.length) : CDo W x r 14 rd r1 r2 imm w (excC c 5 a) := by
  obtain ⟨HF0, HF, HAT, HL, HZ, A, ⟨hd, hd'⟩, h1, h2, ⟨i0, i1⟩, xa, xb, ⟨p0, p1⟩, ⟨m0, m3⟩, c1, f1⟩ := J.facts
  clear J
  unfold CDo
  go_enter Tryz.func81, Tryz.ntmps81
  go_wp2_with (first | (go_at_call 110; (first | (refine (reg_any _ x r c (HF0.out _) HZ.out _ (by omega)).mono ?_) | (refine (reg_any _ x r c (HF.out _ _) HZ.out _ (by omega)).mono ?_)); rintro e w' ⟨rfl, q, rfl⟩))
  refine (cload_far_14 _ x r c (HF.out _ _) A m0 m3 rd _ _ _ a (by omega) ha).mono ?_
  rintro e w3 ⟨rfl, h3, o3⟩
  go_wp2_with fail
  go_end0
  exact ⟨rfl, h3, (((Offs.refl _ _).new _).drawn _).trans o3⟩
set_option maxHeartbeats 4000000 in
set_option maxRecDepth 100000 in
theorem cdo_15_far {W : World} {x r rd r1 r2 : Nat} {c : CSt} {imm : Int} (J : Din W x r c rd r1 r2 imm) (w : Int) (a : Nat) (ea : (c.regs[r1]?.getD 0 + imm) % 4294967296 = a) (ha : ¬ a + 2 ≤ c.ram.length) : CDo W x r 15 rd r1 r2 imm w (excC c 5 a) := by
  obtain ⟨HF0, HF, HAT, HL, HZ, A, ⟨hd, hd'⟩, h1, h2, ⟨i0, i1⟩, xa, xb, ⟨p0, p1⟩, ⟨m0, m3⟩, c1, f1⟩ := J.facts
  clear J
  unfold CDo
  go_enter Tryz.func81, Tryz.ntmps81
  go_wp2_with (first | (go_at_call 110; (first | (refine (reg_any _ x r c (HF0.out _) HZ.out _ (by omega)).mono ?_) | (refine (reg_any _ x r c (HF.out _ _) HZ.out _ (by omega)).mono ?_)); rintro e w' ⟨rfl, q, rfl⟩))
  refine (cload_far_15 _ x r c (HF.out _ _) A m0 m3 rd _ _ _ a (by omega) ha).mono ?_
  rintro e w3 ⟨rfl, h3, o3⟩
  go_wp2_with fail
  go_end0
  exact ⟨rfl, h3, (((Offs.refl _ _).new _).drawn _).trans o3⟩
set_option maxHeartbeats 4000000 in
set_option maxRecDepth 100000 in
theorem cdo_13_far {W : World} {x r rd r1 r2 : Nat} {c : CSt} {imm : Int} (J : Din W x r c rd r1 r2 imm) (w : Int) (a : Nat) (ea : (c.regs[r1]?.getD 0 + imm) % 4294967296 = a) (ha : ¬ a + 4 ≤ c.ram.length) : CDo W x r 13 rd r1 r2 imm w (ldC c rd a) := by
  obtain ⟨HF0, HF, HAT, HL, HZ, A, ⟨hd, hd'⟩, h1, h2, ⟨i0, i1⟩, xa, xb, ⟨p0, p1⟩, ⟨m0, m3⟩, c1, f1⟩ := J.facts
  clear J
  unfold CDo
  go_enter Tryz.func81, Tryz.ntmps81
  go_wp2_with (first | (go_at_call 110; (first | (refine (reg_any _ x r c (HF0.out _) HZ.out _ (by omega)).mono ?_) | (refine (reg_any _ x r c (HF.out _ _) HZ.out _ (by omega)).mono ?_)); rintro e w' ⟨rfl, q, rfl⟩))
  refine (cload_far_13 _ x r c (HF.out _ _) A m0 m3 rd hd _ _ _ a (by omega) ha).mono ?_
  rintro e w3 ⟨rfl, h3, o3⟩
  go_wp2_with fail
  go_end0
  exact ⟨rfl, h3, (((Offs.refl _ _).new _).drawn _).trans o3⟩
set_option maxHeartbeats 4000000 in
set_option maxRecDepth 100000 in
theorem cdo_16_far {W : World} {x r rd r1 r2 : Nat} {c : CSt} {imm : Int} (J : Din W x r c rd r1 r2 imm) (w : Int) (a : Nat) (ea : (c.regs[r1]?.getD 0 + imm) % 4294967296 = a) (ha : ¬ a + 1 ≤ c.ram.length) : CDo W x r 16 rd r1 r2 imm w (excC c 7 a) := by
  obtain ⟨HF0, HF, HAT, HL, HZ, A, ⟨hd, hd'⟩, h1, h2, ⟨i0, i1⟩, xa, xb, ⟨p0, p1⟩, ⟨m0, m3⟩, c1, f1⟩ := J.facts
  clear J
  unfold CDo
  go_enter Tryz.func81, Tryz.ntmps81
  go_wp2_with (first | (go_at_call 110; (first | (refine (reg_any _ x r c (HF0.out _) HZ.out _ (by omega)).mono ?_) | (refine (reg_any _ x r c (HF.out _ _) HZ.out _ (by omega)).mono ?_)); rintro e w' ⟨rfl, q, rfl⟩))
  refine (cstore_far_16 _ x r c (HF.out _ _) A m0 m3 a (by omega) _ ha).mono ?_
  rintro e w3 ⟨rfl, h3, o3⟩
  go_wp2_with fail
  go_end0
  exact ⟨rfl, h3, (((Offs.refl _ _).new _).drawn _).trans o3⟩
set_option maxHeartbeats 4000000 in
set_option maxRecDepth 100000 in
theorem cdo_17_far {W : World} {x r rd r1 r2 : Nat} {c : CSt} {imm : Int} (J : Din W x r c rd r1 r2 imm) (w : Int) (a : Nat) (ea : (c.regs[r1]?.getD 0 + imm) % 4294967296 = a) (ha : ¬ a + 2 ≤ c.ram.length) : CDo W x r 17 rd r1 r2 imm w (excC c 7 a) := by
  obtain ⟨HF0, HF, HAT, HL, HZ, A, ⟨hd, hd'⟩, h1, h2, ⟨i0, i1⟩, xa, xb, ⟨p0, p1⟩, ⟨m0, m3⟩, c1, f1⟩ := J.facts
  clear J
  unfold CDo
  go_enter Tryz.func81, Tryz.ntmps81
  go_wp2_with (first | (go_at_call 110; (first | (refine (reg_any _ x r c (HF0.out _) HZ.out _ (by omega)).mono ?_) | (refine (reg_any _ x r c (HF.out _ _) HZ.out _ (by omega)).mono ?_)); rintro e w' ⟨rfl, q, rfl⟩))
  refine (cstore_far_17 _ x r c (HF.out _ _) A m0 m3 a (by omega) _ ha).mono ?_
  rintro e w3 ⟨rfl, h3, o3⟩
  go_wp2_with fail
  go_end0
  exact ⟨rfl, h3, (((Offs.refl _ _).new _).drawn _).trans o3⟩
set_option maxHeartbeats 4000000 in
set_option maxRecDepth 100000 in
theorem cdo_18_far {W : World} {x r rd r1 r2 : Nat} {c : CSt} {imm : Int} (J : Din W x r c rd r1 r2 imm) (w : Int) (a : Nat) (ea : (c.regs[r1]?.getD 0 + imm) % 4294967296 = a) (ha : ¬ a + 4 ≤ c.ram.length) : CDo W x r 18 rd r1 r2 imm w (stC c a (c.regs[r2]?.getD 0)) := by
  obtain ⟨HF0, HF, HAT, HL, HZ, A, ⟨hd, hd'⟩, h1, h2, ⟨i0, i1⟩, xa, xb, ⟨p0, p1⟩, ⟨m0, m3⟩, c1, f1⟩ := J.facts
  clear J
  unfold CDo
  go_enter Tryz.func81, Tryz.ntmps81
  go_wp2_with (first | (go_at_call 110; (first | (refine (reg_any _ x r c (HF0.out _) HZ.out _ (by omega)).mono ?_) | (refine (reg_any _ x r c (HF.out _ _) HZ.out _ (by omega)).mono ?_)); rintro e w' ⟨rfl, q, rfl⟩))
  refine (cstore_far_18 _ x r c (HF.out _ _) A m0 m3 a (by omega) _ xb.1 ha).mono ?_
  rintro e w3 ⟨rfl, h3, o3⟩
  go_wp2_with fail
  go_end0
  exact ⟨rfl, h3, (((Offs.refl _ _).new _).drawn _).trans o3⟩
end Go.Proofs.YteiideeechnekaaGreatDoor
