/-
  The document's computer as it lies in memory, and its small readers: one, mstatus, Asks, Mip.
-/
import Derived.Test.YteiideeechnekaaGreatDoorCodeAt
namespace Go.Proofs.YteiideeechnekaaGreatDoor
open Go.RowKit

structure Srce where
  high : Bool
  waits : Bool
  served : Bool
  prio : Int
structure RSt where
  x : List Int
  ram : List Int
  src : List Srce
  enable : List Int
  limit : List Int
  pc : Int
  mode : Int
  asleep : Bool
  sie : Bool
  mieb : Bool
  spie : Bool
  mpie : Bool
  spp : Int
  mpp : Int
  tw : Bool
  tsr : Bool
  medeleg : Int
  mideleg : Int
  mie : Int
  soft : Int
  mtvec : Int
  stvec : Int
  mscratch : Int
  sscratch : Int
  mepc : Int
  sepc : Int
  mcause : Int
  scause : Int
  mtval : Int
  stval : Int
  msip : Int
  mtimecmp : Int
  mtime : Int
  traps : Int
  system : Int
  device : Int
structure RBl where
  x : Nat
  ram : Nat
  src : Nat
  en : Nat
  li : Nat
  kx : Nat
  kram : Nat
  ksrc : Nat
  ken : Nat
  kli : Nat
def srcAt (s : RSt) (i : Nat) : Srce := (s.src[i]?).getD ⟨false, false, false, 0⟩

structure RBl.Apart (b : RBl) (p : Nat) : Prop where
  d0 : b.x ≠ b.ram
  d1 : b.x ≠ b.src
  d2 : b.x ≠ b.en
  d3 : b.x ≠ b.li
  d4 : b.ram ≠ b.src
  d5 : b.ram ≠ b.en
  d6 : b.ram ≠ b.li
  d7 : b.src ≠ b.en
  d8 : b.src ≠ b.li
  d9 : b.en ≠ b.li
  e0 : p ≠ b.x
  e1 : p ≠ b.ram
  e2 : p ≠ b.src
  e3 : p ≠ b.en
  e4 : p ≠ b.li

structure RefAt (W : World) (p : Nat) (b : RBl) (s : RSt) : Prop where
  nx : s.x.length = 32
  nsrc : s.src.length = 8
  nen : s.enable.length = 2
  nli : s.limit.length = 2
  cx : W.cell? ⟨p, 0, none⟩ = some (.slice (some ⟨b.x, 0, none⟩) 32 b.kx)
  cram : W.cell? ⟨p, 4, none⟩ = some (.slice (some ⟨b.ram, 0, none⟩) s.ram.length b.kram)
  csrc : W.cell? ⟨p, 30, none⟩ = some (.slice (some ⟨b.src, 0, none⟩) 8 b.ksrc)
  cen : W.cell? ⟨p, 31, none⟩ = some (.slice (some ⟨b.en, 0, none⟩) 2 b.ken)
  cli : W.cell? ⟨p, 32, none⟩ = some (.slice (some ⟨b.li, 0, none⟩) 2 b.kli)
  pc : W.cell? ⟨p, 1, none⟩ = some (.int .u32 s.pc)
  mode : W.cell? ⟨p, 2, none⟩ = some (.int .i64 s.mode)
  asleep : W.cell? ⟨p, 3, none⟩ = some (.bool s.asleep)
  sie : W.cell? ⟨p, 5, none⟩ = some (.bool s.sie)
  mieb : W.cell? ⟨p, 6, none⟩ = some (.bool s.mieb)
  spie : W.cell? ⟨p, 7, none⟩ = some (.bool s.spie)
  mpie : W.cell? ⟨p, 8, none⟩ = some (.bool s.mpie)
  spp : W.cell? ⟨p, 9, none⟩ = some (.int .i64 s.spp)
  mpp : W.cell? ⟨p, 10, none⟩ = some (.int .i64 s.mpp)
  tw : W.cell? ⟨p, 11, none⟩ = some (.bool s.tw)
  tsr : W.cell? ⟨p, 12, none⟩ = some (.bool s.tsr)
  medeleg : W.cell? ⟨p, 13, none⟩ = some (.int .u32 s.medeleg)
  mideleg : W.cell? ⟨p, 14, none⟩ = some (.int .u32 s.mideleg)
  mie : W.cell? ⟨p, 15, none⟩ = some (.int .u32 s.mie)
  soft : W.cell? ⟨p, 16, none⟩ = some (.int .u32 s.soft)
  mtvec : W.cell? ⟨p, 17, none⟩ = some (.int .u32 s.mtvec)
  stvec : W.cell? ⟨p, 18, none⟩ = some (.int .u32 s.stvec)
  mscratch : W.cell? ⟨p, 19, none⟩ = some (.int .u32 s.mscratch)
  sscratch : W.cell? ⟨p, 20, none⟩ = some (.int .u32 s.sscratch)
  mepc : W.cell? ⟨p, 21, none⟩ = some (.int .u32 s.mepc)
  sepc : W.cell? ⟨p, 22, none⟩ = some (.int .u32 s.sepc)
  mcause : W.cell? ⟨p, 23, none⟩ = some (.int .u32 s.mcause)
  scause : W.cell? ⟨p, 24, none⟩ = some (.int .u32 s.scause)
  mtval : W.cell? ⟨p, 25, none⟩ = some (.int .u32 s.mtval)
  stval : W.cell? ⟨p, 26, none⟩ = some (.int .u32 s.stval)
  msip : W.cell? ⟨p, 27, none⟩ = some (.int .u32 s.msip)
  mtimecmp : W.cell? ⟨p, 28, none⟩ = some (.int .u32 s.mtimecmp)
  mtime : W.cell? ⟨p, 29, none⟩ = some (.int .u32 s.mtime)
  traps : W.cell? ⟨p, 33, none⟩ = some (.int .i64 s.traps)
  system : W.cell? ⟨p, 34, none⟩ = some (.int .i64 s.system)
  device : W.cell? ⟨p, 35, none⟩ = some (.int .i64 s.device)
  x : RowAt W b.x b.kx s.x
  ram : RamIn W b.ram b.kram s.ram
  high : ∀ i, i < 8 → W.cell? ⟨b.src, i * 4, none⟩ = some (.bool (srcAt s i).high)
  waits : ∀ i, i < 8 → W.cell? ⟨b.src, i * 4 + 1, none⟩ = some (.bool (srcAt s i).waits)
  served : ∀ i, i < 8 → W.cell? ⟨b.src, i * 4 + 2, none⟩ = some (.bool (srcAt s i).served)
  prio : ∀ i, i < 8 → W.cell? ⟨b.src, i * 4 + 3, none⟩ = some (.int .u32 (srcAt s i).prio)
  en : RowAt W b.en b.ken s.enable
  li : RowAt W b.li b.kli s.limit
  fp : ∀ j, W.frozen? ⟨p, j, none⟩ = false
  fs : ∀ j, W.frozen? ⟨b.src, j, none⟩ = false
  ksrc : 8 ≤ b.ksrc ∧ b.ksrc ≤ maxLen

theorem RefAt.of {W W' : World} {p : Nat} {b : RBl} {s : RSt} (h : RefAt W p b s) (hp : W'.heap[p]? = W.heap[p]?) (hx : W'.heap[b.x]? = W.heap[b.x]?) (hr : W'.heap[b.ram]? = W.heap[b.ram]?) (hs : W'.heap[b.src]? = W.heap[b.src]?) (he : W'.heap[b.en]? = W.heap[b.en]?) (hl : W'.heap[b.li]? = W.heap[b.li]?) : RefAt W' p b s := by
  have c : ∀ j, W'.cell? ⟨p, j, none⟩ = W.cell? ⟨p, j, none⟩ := fun j => World.cell?_of_block (w := W) hp
  have d : ∀ j, W'.cell? ⟨b.src, j, none⟩ = W.cell? ⟨b.src, j, none⟩ := fun j => World.cell?_of_block (w := W) hs
  have row : ∀ {g cap : Nat} {xs : List Int}, RowAt W g cap xs → W'.heap[g]? = W.heap[g]? → RowAt W' g cap xs := fun h e => by
    obtain ⟨cur, h1, r⟩ := h
    exact ⟨cur, e.trans h1, r⟩
  exact ⟨h.nx, h.nsrc, h.nen, h.nli, (c _).trans h.cx, (c _).trans h.cram, (c _).trans h.csrc, (c _).trans h.cen, (c _).trans h.cli, (c _).trans h.pc, (c _).trans h.mode, (c _).trans h.asleep, (c _).trans h.sie, (c _).trans h.mieb, (c _).trans h.spie, (c _).trans h.mpie, (c _).trans h.spp, (c _).trans h.mpp, (c _).trans h.tw, (c _).trans h.tsr, (c _).trans h.medeleg, (c _).trans h.mideleg, (c _).trans h.mie, (c _).trans h.soft, (c _).trans h.mtvec, (c _).trans h.stvec, (c _).trans h.mscratch, (c _).trans h.sscratch, (c _).trans h.mepc, (c _).trans h.sepc, (c _).trans h.mcause, (c _).trans h.scause, (c _).trans h.mtval, (c _).trans h.stval, (c _).trans h.msip, (c _).trans h.mtimecmp, (c _).trans h.mtime, (c _).trans h.traps, (c _).trans h.system, (c _).trans h.device,
    row h.x hx, h.ram.of hr, fun i hi => (d _).trans (h.high i hi), fun i hi => (d _).trans (h.waits i hi), fun i hi => (d _).trans (h.served i hi), fun i hi => (d _).trans (h.prio i hi), row h.en he, row h.li hl, fun j => (World.frozen?_of_block (w := W) (a := ⟨p, j, none⟩) hp).trans (h.fp j), fun j => (World.frozen?_of_block (w := W) (a := ⟨b.src, j, none⟩) hs).trans (h.fs j), h.ksrc⟩
theorem RefAt.lt {W : World} {p : Nat} {b : RBl} {s : RSt} (h : RefAt W p b s) : p < W.heap.size ∧ b.x < W.heap.size ∧ b.ram < W.heap.size ∧ b.src < W.heap.size ∧ b.en < W.heap.size ∧ b.li < W.heap.size :=
  ⟨World.block_lt_of_cell? W _ h.cx, h.x.lt, h.ram.lt, World.block_lt_of_cell? W _ (h.high 0 (by decide)), h.en.lt, h.li.lt⟩
theorem RefAt.below {W W' : World} {p : Nat} {b : RBl} {s : RSt} (h : RefAt W p b s) {B : Nat} (hb : Below B W W') (hB : W.heap.size ≤ B) : RefAt W' p b s := by
  have l := h.lt
  exact h.of (hb.block _ (by omega)) (hb.block _ (by omega)) (hb.block _ (by omega)) (hb.block _ (by omega)) (hb.block _ (by omega)) (hb.block _ (by omega))
theorem RefAt.drawn {W : World} {p : Nat} {b : RBl} {s : RSt} (h : RefAt W p b s) (q : Nat) : RefAt (W.drewN q) p b s := h.of rfl rfl rfl rfl rfl rfl

def oneV (y : Bool) (n : Int) : Int := if y then n else 0
theorem one_1 (W : World) (y : Bool) : Calls Tryz.prog 40 #[.bool y, .int .i64 1] W fun e W' => e = .returned (.int .u32 (oneV y 2)) ∧ W' = W := by
  cases y
  · go_enter Tryz.func40, Tryz.ntmps40
    go_wp2
    go_ret
    exact ⟨rfl, rfl⟩
  · go_enter Tryz.func40, Tryz.ntmps40
    go_wp2
    go_ret
    exact ⟨rfl, rfl⟩
theorem one_3 (W : World) (y : Bool) : Calls Tryz.prog 40 #[.bool y, .int .i64 3] W fun e W' => e = .returned (.int .u32 (oneV y 8)) ∧ W' = W := by
  cases y
  · go_enter Tryz.func40, Tryz.ntmps40
    go_wp2
    go_ret
    exact ⟨rfl, rfl⟩
  · go_enter Tryz.func40, Tryz.ntmps40
    go_wp2
    go_ret
    exact ⟨rfl, rfl⟩
theorem one_5 (W : World) (y : Bool) : Calls Tryz.prog 40 #[.bool y, .int .i64 5] W fun e W' => e = .returned (.int .u32 (oneV y 32)) ∧ W' = W := by
  cases y
  · go_enter Tryz.func40, Tryz.ntmps40
    go_wp2
    go_ret
    exact ⟨rfl, rfl⟩
  · go_enter Tryz.func40, Tryz.ntmps40
    go_wp2
    go_ret
    exact ⟨rfl, rfl⟩
theorem one_7 (W : World) (y : Bool) : Calls Tryz.prog 40 #[.bool y, .int .i64 7] W fun e W' => e = .returned (.int .u32 (oneV y 128)) ∧ W' = W := by
  cases y
  · go_enter Tryz.func40, Tryz.ntmps40
    go_wp2
    go_ret
    exact ⟨rfl, rfl⟩
  · go_enter Tryz.func40, Tryz.ntmps40
    go_wp2
    go_ret
    exact ⟨rfl, rfl⟩
theorem one_21 (W : World) (y : Bool) : Calls Tryz.prog 40 #[.bool y, .int .i64 21] W fun e W' => e = .returned (.int .u32 (oneV y 2097152)) ∧ W' = W := by
  cases y
  · go_enter Tryz.func40, Tryz.ntmps40
    go_wp2
    go_ret
    exact ⟨rfl, rfl⟩
  · go_enter Tryz.func40, Tryz.ntmps40
    go_wp2
    go_ret
    exact ⟨rfl, rfl⟩
theorem one_22 (W : World) (y : Bool) : Calls Tryz.prog 40 #[.bool y, .int .i64 22] W fun e W' => e = .returned (.int .u32 (oneV y 4194304)) ∧ W' = W := by
  cases y
  · go_enter Tryz.func40, Tryz.ntmps40
    go_wp2
    go_ret
    exact ⟨rfl, rfl⟩
  · go_enter Tryz.func40, Tryz.ntmps40
    go_wp2
    go_ret
    exact ⟨rfl, rfl⟩
theorem one_11 (W : World) (y : Bool) : Calls Tryz.prog 40 #[.bool y, .int .i64 11] W fun e W' => e = .returned (.int .u32 (oneV y 2048)) ∧ W' = W := by
  cases y
  · go_enter Tryz.func40, Tryz.ntmps40
    go_wp2
    go_ret
    exact ⟨rfl, rfl⟩
  · go_enter Tryz.func40, Tryz.ntmps40
    go_wp2
    go_ret
    exact ⟨rfl, rfl⟩
theorem one_9 (W : World) (y : Bool) : Calls Tryz.prog 40 #[.bool y, .int .i64 9] W fun e W' => e = .returned (.int .u32 (oneV y 512)) ∧ W' = W := by
  cases y
  · go_enter Tryz.func40, Tryz.ntmps40
    go_wp2
    go_ret
    exact ⟨rfl, rfl⟩
  · go_enter Tryz.func40, Tryz.ntmps40
    go_wp2
    go_ret
    exact ⟨rfl, rfl⟩
theorem one_0 (W : World) (y : Bool) : Calls Tryz.prog 40 #[.bool y, .int .i64 0] W fun e W' => e = .returned (.int .u32 (oneV y 1)) ∧ W' = W := by
  cases y
  · go_enter Tryz.func40, Tryz.ntmps40
    go_wp2
    go_ret
    exact ⟨rfl, rfl⟩
  · go_enter Tryz.func40, Tryz.ntmps40
    go_wp2
    go_ret
    exact ⟨rfl, rfl⟩

def msV (s : RSt) : Int :=
  bits .or .u32 (bits .or .u32 (bits .or .u32 (bits .or .u32 (bits .or .u32 (bits .or .u32 (bits .or .u32 (oneV s.sie 2) (oneV s.mieb 8)) (oneV s.spie 32)) (oneV s.mpie 128)) (oneV s.tw 2097152)) (oneV s.tsr 4194304)) (s.spp * 256)) (s.mpp * 2048)

set_option maxHeartbeats 1000000 in
theorem mstatus_any (W : World) (p : Nat) (b : RBl) (s : RSt) (h : RefAt W p b s) (p0 : 0 ≤ s.spp) (p1 : s.spp ≤ 3) (m0 : 0 ≤ s.mpp) (m1 : s.mpp ≤ 3) :
    Calls Tryz.prog 101 #[.pointer (some ⟨p, 0, none⟩)] W fun e W' => e = .returned (.int .u32 (msV s)) ∧ ∃ q, W' = W.drewN q := by
  have c1 := h.sie
  have c2 := h.mieb
  have c3 := h.spie
  have c4 := h.mpie
  have c5 := h.tw
  have c6 := h.tsr
  have c7 := h.spp
  have c8 := h.mpp
  clear h
  go_enter Tryz.func101, Tryz.ntmps101
  go_wp2_with (first | (go_at_call_of 40 (Value.int IntKind.i64 1); refine (one_1 _ _).mono ?_; rintro e w' ⟨rfl, rfl⟩) | (go_at_call_of 40 (Value.int IntKind.i64 3); refine (one_3 _ _).mono ?_; rintro e w' ⟨rfl, rfl⟩) | (go_at_call_of 40 (Value.int IntKind.i64 5); refine (one_5 _ _).mono ?_; rintro e w' ⟨rfl, rfl⟩) | (go_at_call_of 40 (Value.int IntKind.i64 7); refine (one_7 _ _).mono ?_; rintro e w' ⟨rfl, rfl⟩) | (go_at_call_of 40 (Value.int IntKind.i64 21); refine (one_21 _ _).mono ?_; rintro e w' ⟨rfl, rfl⟩) | (go_at_call_of 40 (Value.int IntKind.i64 22); refine (one_22 _ _).mono ?_; rintro e w' ⟨rfl, rfl⟩))
  go_quiet (fail)
  go_wp2
  go_ret
  exact ⟨rfl, _, rfl⟩

def enAt (s : RSt) (c : Nat) : Int := s.enable[c]?.getD 0
def liAt (s : RSt) (c : Nat) : Int := s.limit[c]?.getD 0
def askRB (s : RSt) (c j : Nat) : Bool := (srcAt s j).waits && (bits .and .u32 (enAt s c / 2 ^ j) 1 == 1) && decide (liAt s c < (srcAt s j).prio)
def askR (s : RSt) (c : Nat) : Bool := (List.range 7).any fun i => askRB s c (i + 1)
theorem askR_false {s : RSt} {c : Nat} (h : ∀ j, 1 ≤ j → j < 8 → askRB s c j = false) : askR s c = false := by
  unfold askR
  rw [List.any_eq_false]
  intro i hi
  simp at hi
  simp [h (i + 1) (by omega) (by omega)]
theorem askR_true {s : RSt} {c : Nat} (j : Nat) (h1 : 1 ≤ j) (h2 : j < 8) (h : askRB s c j = true) : askR s c = true := by
  unfold askR
  rw [List.any_eq_true]
  exact ⟨j - 1, by simp; omega, by rw [show j - 1 + 1 = j by omega]; exact h⟩

set_option maxHeartbeats 1000000 in
theorem rasks_any (W : World) (p : Nat) (b : RBl) (s : RSt) (h : RefAt W p b s) (c : Nat) (hc : c < 2) :
    Calls Tryz.prog 39 #[.pointer (some ⟨p, 0, none⟩), .int .i64 c] W fun e W' => e = .returned (.bool (askR s c)) ∧ ∃ q, W' = W.drewN q := by
  have k1 := h.csrc
  have k2 := h.cen
  have k3 := h.cli
  have e1 : W.cell? ⟨b.en, c, none⟩ = some (.int .u32 (enAt s c)) := by have := h.en.cell c (by rw [h.nen]; exact hc); simpa [enAt, List.getD] using this
  have e2 : W.cell? ⟨b.li, c, none⟩ = some (.int .u32 (liAt s c)) := by have := h.li.cell c (by rw [h.nli]; exact hc); simpa [liAt, List.getD] using this
  have HW : Hid (∀ i, i < 8 → W.cell? ⟨b.src, i * 4 + 1, none⟩ = some (.bool (srcAt s i).waits) ∧ W.cell? ⟨b.src, i * 4 + 3, none⟩ = some (.int .u32 (srcAt s i).prio)) := fun i hi => ⟨h.waits i hi, h.prio i hi⟩
  have hci : (c : Int) < 2 := by omega
  clear h hc
  obtain ⟨R, hR⟩ : ∃ R, R = askR s c := ⟨_, rfl⟩
  rw [← hR]
  have HR : Hid (R = askR s c) := hR
  clear hR
  go_enter Tryz.func39, Tryz.ntmps39
  go_wp2
  go_loopw [5] (fun i wr => ∃ k q : Nat, 1 ≤ k ∧ k ≤ 8 ∧ i = .int .i64 k ∧ wr = W.drewN q ∧ Hid (∀ j, 1 ≤ j → j < k → askRB s c j = false)) (fun i _ => 8 - (intOf i).toNat)
  case atStart => exact ⟨1, 0, Nat.le_refl _, by decide, rfl, rfl, fun j h1 h2 => absurd h2 (by omega)⟩
  case round =>
    obtain ⟨k, q, hk1, hk8, rfl, rfl, hno⟩ := hrel
    by_cases hlt : k < 8
    · obtain ⟨c1, c2⟩ := HW.out k hlt
      have hi : (k : Int) < 8 := by omega
      by_cases hw : (srcAt s k).waits = true
      · by_cases hb : (bits .and .u32 (enAt s c / 2 ^ k) 1 == 1) = true
        · by_cases hg : liAt s c < (srcAt s k).prio
          · obtain rfl : R = true := HR.out.trans (askR_true k hk1 hlt (by unfold askRB; rw [hw, hb, Bool.true_and, Bool.true_and]; exact decide_eq_true hg))
            go_wp2_with fail
            go_quiet (fail)
            go_wp2
            go_ret
            exact ⟨rfl, _, drewN_two _ _ _⟩
          · have hg' : (srcAt s k).prio ≤ liAt s c := by omega
            have HN : Hid (askRB s c k = false) := by unfold Hid askRB; rw [Bool.and_eq_false_iff, decide_eq_false_iff_not]; exact .inr hg
            clear hg
            go_wp2_with fail
            go_quiet (fail)
            go_wp2
            go_roundw
            case rel =>
              refine ⟨k + 1, _, by omega, by omega, by go_num, rfl, fun j h1 h2 => ?_⟩
              by_cases e : j = k
              · subst e; exact HN.out
              · exact hno.out j h1 (by omega)
            case measure => simp [intOf]; omega
        · have hb' : (bits .and .u32 (enAt s c / 2 ^ k) 1 == 1) = false := by simpa using hb
          have HN : Hid (askRB s c k = false) := by unfold Hid askRB; rw [hb', Bool.and_false, Bool.false_and]
          clear hb
          go_wp2_with fail
          go_quiet (fail)
          go_wp2
          go_roundw
          case rel =>
            refine ⟨k + 1, _, by omega, by omega, by go_num, rfl, fun j h1 h2 => ?_⟩
            by_cases e : j = k
            · subst e; exact HN.out
            · exact hno.out j h1 (by omega)
          case measure => simp [intOf]; omega
      · have hw' : (srcAt s k).waits = false := by simpa using hw
        have HN : Hid (askRB s c k = false) := by unfold Hid askRB; rw [hw', Bool.false_and, Bool.false_and]
        clear hw
        go_wp2_with fail
        go_quiet (fail)
        go_wp2
        go_roundw
        case rel =>
          refine ⟨k + 1, _, by omega, by omega, by go_num, rfl, fun j h1 h2 => ?_⟩
          by_cases e : j = k
          · subst e; exact HN.out
          · exact hno.out j h1 (by omega)
        case measure => simp [intOf]; omega
    · obtain rfl : R = false := HR.out.trans (askR_false (fun j h1 h2 => hno.out j h1 (by omega)))
      go_wp2
      go_ret
      exact ⟨rfl, _, rfl⟩

def mipR (s : RSt) : Int :=
  bits .or .u32 (bits .or .u32 (bits .or .u32 (bits .or .u32 s.soft (oneV (askR s 0) 2048)) (oneV (askR s 1) 512)) (oneV (s.msip == 1) 8)) (oneV (decide (s.mtimecmp ≤ s.mtime)) 128)

set_option maxHeartbeats 1000000 in
theorem rmip_any (W : World) (p : Nat) (b : RBl) (s : RSt) (h : RefAt W p b s) :
    Calls Tryz.prog 15 #[.pointer (some ⟨p, 0, none⟩)] W fun e W' => e = .returned (.int .u32 (mipR s)) ∧ ∃ q, W' = W.drewN q := by
  have HA0 : Hid (RefAt W p b s) := h
  clear h
  go_enter Tryz.func15, Tryz.ntmps15
  go_wp2_with fail
  refine (rasks_any _ p b s HA0.out 0 (by decide)).mono ?_
  rintro e w1 ⟨rfl, q1, hq1⟩
  have HA1 : Hid (RefAt w1 p b s) := by rw [hq1]; exact HA0.out.drawn q1
  have Q1 : Hid (w1 = W.drewN q1) := hq1
  clear hq1
  go_wp2_with fail
  refine (rasks_any _ p b s HA1.out 1 (by decide)).mono ?_
  rintro e w2 ⟨rfl, q2, hq2⟩
  have h2 : RefAt w2 p b s := by rw [hq2]; exact HA1.out.drawn q2
  have Q2 : Hid (w2 = W.drewN (q1 + q2)) := by unfold Hid; rw [hq2, Q1.out, drewN_two]
  have c1 := h2.soft
  have c2 := h2.msip
  have c3 := h2.mtimecmp
  have c4 := h2.mtime
  clear hq2 h2
  go_wp2_with (first | (go_at_call_of 40 (Value.int IntKind.i64 11); refine (one_11 _ _).mono ?_; rintro e w' ⟨rfl, rfl⟩) | (go_at_call_of 40 (Value.int IntKind.i64 9); refine (one_9 _ _).mono ?_; rintro e w' ⟨rfl, rfl⟩) | (go_at_call_of 40 (Value.int IntKind.i64 3); refine (one_3 _ _).mono ?_; rintro e w' ⟨rfl, rfl⟩))
  go_quiet ((go_at_call 40; exact Calls.quiet_of_same (one_7 _ _)))
  go_wp2
  go_ret
  exact ⟨rfl, _, by rw [Q2.out, drewN_two]⟩
end Go.Proofs.YteiideeechnekaaGreatDoor
