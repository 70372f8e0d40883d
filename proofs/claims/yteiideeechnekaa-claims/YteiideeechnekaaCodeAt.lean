/-
  The code's computer as it lies in memory, and its mip, controlWords and Look.
-/
import Derived.Test.YteiideeechnekaaCode
import Derived.Laws.BytesString
namespace Go.Proofs.Yteiideeechnekaa
open Go.RowKit

structure CSt where
  regs : List Int
  pc : Int
  mode : Int
  asleep : Bool
  mstatus : Int
  medeleg : Int
  mideleg : Int
  mie : Int
  written : Int
  stvec : Int
  sscratch : Int
  sepc : Int
  scause : Int
  stval : Int
  mtvec : Int
  mscratch : Int
  mepc : Int
  mcause : Int
  mtval : Int
  ram : List Int
  msip : Int
  mtimecmp : Int
  mtime : Int
  prio : List Int
  pend : Int
  served : Int
  level : Int
  en0 : Int
  en1 : Int
  li0 : Int
  li1 : Int

/-- Block r holds the memory's bytes. -/
def RamAt (W : World) (r : Nat) (bs : List Int) : Prop :=
  W.heap[r]? = some (.cells (bs.map (Value.int .u8)).toArray 5 (0, 0)) ∧ bs.length ≤ 512 ∧ ∀ b ∈ bs, 0 ≤ b ∧ b < 256

/-- Block r holds the memory's bytes, and room behind them. -/
def RamIn (W : World) (r cap : Nat) (bs : List Int) : Prop :=
  ∃ cur : Array Value, W.heap[r]? = some (.cells cur 5 (0, 0)) ∧ cur.size = cap ∧ bs.length ≤ cap ∧ cap ≤ maxLen ∧ cur.toList.take bs.length = bs.map (Value.int .u8) ∧ bs.length ≤ 512 ∧ ∀ b ∈ bs, 0 ≤ b ∧ b < 256
theorem RamIn.of {W W' : World} {r cap : Nat} {bs : List Int} (h : RamIn W r cap bs) (e : W'.heap[r]? = W.heap[r]?) : RamIn W' r cap bs := by
  obtain ⟨cur, h1, r⟩ := h
  exact ⟨cur, e.trans h1, r⟩
theorem RamIn.lt {W : World} {r cap : Nat} {bs : List Int} (h : RamIn W r cap bs) : r < W.heap.size := by
  obtain ⟨cur, h1, _⟩ := h
  exact (Array.getElem?_eq_some_iff.1 h1).1
theorem RamAt.room {W : World} {r : Nat} {bs : List Int} (h : RamAt W r bs) : RamIn W r bs.length bs :=
  ⟨_, h.1, by simp, Nat.le_refl _, by have := h.2.1; unfold maxLen; omega, List.take_of_length_le (by simp), h.2⟩
theorem RamIn.cell {W : World} {r cap : Nat} {bs : List Int} (h : RamIn W r cap bs) (i : Nat) (hi : i < bs.length) : W.cell? ⟨r, i, none⟩ = some (.int .u8 (bs.getD i 0)) := by
  obtain ⟨cur, hg, hs, hl, _, ht, _⟩ := h
  rw [cell_of_row W r i cur _ (0, 0) hg]
  have e : cur.toList[i]? = (cur.toList.take bs.length)[i]? := by rw [List.getElem?_take, if_pos hi]
  have : cur[i]? = cur.toList[i]? := by simp
  rw [this, e, ht]
  simp [List.getD, hi]

structure CodeAt (W : World) (x r : Nat) (s : CSt) : Prop where
  nregs : s.regs.length = 32
  nprio : s.prio.length = 8
  regs : ∀ i, i < 32 → W.cell? ⟨x, 0 + i, none⟩ = some (.int .u32 (s.regs.getD i 0))
  pc : W.cell? ⟨x, 32, none⟩ = some (.int .u32 s.pc)
  mode : W.cell? ⟨x, 33, none⟩ = some (.int .i64 s.mode)
  asleep : W.cell? ⟨x, 34, none⟩ = some (.bool s.asleep)
  mstatus : W.cell? ⟨x, 35, none⟩ = some (.int .u32 s.mstatus)
  medeleg : W.cell? ⟨x, 36, none⟩ = some (.int .u32 s.medeleg)
  mideleg : W.cell? ⟨x, 37, none⟩ = some (.int .u32 s.mideleg)
  mie : W.cell? ⟨x, 38, none⟩ = some (.int .u32 s.mie)
  written : W.cell? ⟨x, 39, none⟩ = some (.int .u32 s.written)
  stvec : W.cell? ⟨x, 40, none⟩ = some (.int .u32 s.stvec)
  sscratch : W.cell? ⟨x, 41, none⟩ = some (.int .u32 s.sscratch)
  sepc : W.cell? ⟨x, 42, none⟩ = some (.int .u32 s.sepc)
  scause : W.cell? ⟨x, 43, none⟩ = some (.int .u32 s.scause)
  stval : W.cell? ⟨x, 44, none⟩ = some (.int .u32 s.stval)
  mtvec : W.cell? ⟨x, 45, none⟩ = some (.int .u32 s.mtvec)
  mscratch : W.cell? ⟨x, 46, none⟩ = some (.int .u32 s.mscratch)
  mepc : W.cell? ⟨x, 47, none⟩ = some (.int .u32 s.mepc)
  mcause : W.cell? ⟨x, 48, none⟩ = some (.int .u32 s.mcause)
  mtval : W.cell? ⟨x, 49, none⟩ = some (.int .u32 s.mtval)
  ram : W.cell? ⟨x, 50, none⟩ = some (.slice (some ⟨r, 0, none⟩) s.ram.length s.ram.length)
  msip : W.cell? ⟨x, 51, none⟩ = some (.int .u32 s.msip)
  mtimecmp : W.cell? ⟨x, 52, none⟩ = some (.int .u32 s.mtimecmp)
  mtime : W.cell? ⟨x, 53, none⟩ = some (.int .u32 s.mtime)
  prio : ∀ i, i < 8 → W.cell? ⟨x, 54 + i, none⟩ = some (.int .u32 (s.prio[i]?.getD 0))
  pend : W.cell? ⟨x, 62, none⟩ = some (.int .u32 s.pend)
  served : W.cell? ⟨x, 63, none⟩ = some (.int .u32 s.served)
  level : W.cell? ⟨x, 64, none⟩ = some (.int .u32 s.level)
  en0 : W.cell? ⟨x, 65, none⟩ = some (.int .u32 s.en0)
  en1 : W.cell? ⟨x, 66, none⟩ = some (.int .u32 s.en1)
  li0 : W.cell? ⟨x, 67, none⟩ = some (.int .u32 s.li0)
  li1 : W.cell? ⟨x, 68, none⟩ = some (.int .u32 s.li1)
  bytes : RamAt W r s.ram
  fx : ∀ j, W.frozen? ⟨x, j, none⟩ = false

theorem CodeAt.of {W W' : World} {x r : Nat} {s : CSt} (h : CodeAt W x r s) (hx : W'.heap[x]? = W.heap[x]?) (hr : W'.heap[r]? = W.heap[r]?) : CodeAt W' x r s := by
  have c : ∀ j, W'.cell? ⟨x, j, none⟩ = W.cell? ⟨x, j, none⟩ := fun j => World.cell?_of_block (w := W) hx
  exact ⟨h.nregs, h.nprio, fun i hi => (c _).trans (h.regs i hi), (c _).trans h.pc, (c _).trans h.mode, (c _).trans h.asleep, (c _).trans h.mstatus, (c _).trans h.medeleg, (c _).trans h.mideleg, (c _).trans h.mie, (c _).trans h.written, (c _).trans h.stvec, (c _).trans h.sscratch, (c _).trans h.sepc, (c _).trans h.scause, (c _).trans h.stval, (c _).trans h.mtvec, (c _).trans h.mscratch, (c _).trans h.mepc, (c _).trans h.mcause, (c _).trans h.mtval,
    (c _).trans h.ram, (c _).trans h.msip, (c _).trans h.mtimecmp, (c _).trans h.mtime, fun i hi => (c _).trans (h.prio i hi), (c _).trans h.pend, (c _).trans h.served, (c _).trans h.level, (c _).trans h.en0, (c _).trans h.en1, (c _).trans h.li0, (c _).trans h.li1, ⟨hr.trans h.bytes.1, h.bytes.2⟩, fun j => (World.frozen?_of_block (w := W) (a := ⟨x, j, none⟩) hx).trans (h.fx j)⟩
theorem CodeAt.below {W W' : World} {x r : Nat} {s : CSt} (h : CodeAt W x r s) {B : Nat} (hb : Below B W W') (hx : x < B) (hr : r < B) : CodeAt W' x r s := h.of (hb.block x hx) (hb.block r hr)
theorem CodeAt.lt {W : World} {x r : Nat} {s : CSt} (h : CodeAt W x r s) : x < W.heap.size ∧ r < W.heap.size :=
  ⟨World.block_lt_of_cell? W _ h.pc, (Array.getElem?_eq_some_iff.1 h.bytes.1).1⟩
theorem CodeAt.drawn {W : World} {x r : Nat} {s : CSt} (h : CodeAt W x r s) (q : Nat) : CodeAt (W.drewN q) x r s := h.of rfl rfl

def orIf (b : Bool) (p m : Int) : Int := if b then bits .or .u32 p m else p
def mipC (s : CSt) : Int :=
  orIf (askC s.pend s.en1 s.li1 s.prio) (orIf (askC s.pend s.en0 s.li0 s.prio) (orIf (decide (s.mtimecmp ≤ s.mtime)) (orIf (bits .and .u32 s.msip 1 == 1) s.written 8) 128) 2048) 512

set_option maxHeartbeats 4000000 in
theorem mip_core (W : World) (x : Nat) (wr ms : Int) (b1 b2 b3 b4 : Bool) (h1 : W.cell? ⟨x, 39, none⟩ = some (.int .u32 wr)) (h2 : W.cell? ⟨x, 51, none⟩ = some (.int .u32 ms)) (hb1 : (bits .and .u32 ms 1 == 1) = b1)
    (HD : ∀ W', (∃ q, W' = W.drewN q) → Calls Try.prog 49 #[.pointer (some ⟨x, 51, none⟩)] W' fun e W'' => e = .returned (.bool b2) ∧ ∃ q, W'' = W.drewN q)
    (HA : ∀ W', (∃ q, W' = W.drewN q) → Calls Try.prog 50 #[.pointer (some ⟨x, 54, none⟩), .int .i64 0] W' fun e W'' => e = .returned (.bool b3) ∧ ∃ q, W'' = W.drewN q)
    (HB : ∀ W', (∃ q, W' = W.drewN q) → Calls Try.prog 50 #[.pointer (some ⟨x, 54, none⟩), .int .i64 1] W' fun e W'' => e = .returned (.bool b4) ∧ ∃ q, W'' = W.drewN q) :
    Calls Try.prog 37 #[.pointer (some ⟨x, 0, none⟩)] W fun e W' => e = .returned (.int .u32 (orIf b4 (orIf b3 (orIf b2 (orIf b1 wr 8) 128) 2048) 512)) ∧ ∃ q, W' = W.drewN q := by
  cases b1 <;> cases b2 <;> cases b3 <;> cases b4
  all_goals
    simp only [orIf, if_true, if_false, Bool.false_eq_true]
    go_enter Try.func37, Try.ntmps37
    go_wp2_with fail
    refine (HD W ⟨0, rfl⟩).mono ?_
    rintro e w1 ⟨rfl, q1, rfl⟩
    go_wp2_with fail
    refine (HA _ ⟨_, rfl⟩).mono ?_
    rintro e w2 ⟨rfl, q2, rfl⟩
    go_wp2_with fail
    refine (HB _ ⟨_, rfl⟩).mono ?_
    rintro e w3 ⟨rfl, q3, rfl⟩
    go_wp2_with fail
    go_ret
    exact ⟨rfl, _, rfl⟩

theorem mip_any (W : World) (x r : Nat) (s : CSt) (h : CodeAt W x r s) :
    Calls Try.prog 37 #[.pointer (some ⟨x, 0, none⟩)] W fun e W' => e = .returned (.int .u32 (mipC s)) ∧ ∃ q, W' = W.drewN q := by
  refine mip_core W x s.written s.msip _ _ _ _ h.written h.msip rfl ?_ ?_ ?_
  · rintro W' ⟨q, rfl⟩
    have h := h.drawn q
    refine (due_any (W.drewN q) x 51 s.mtimecmp s.mtime h.mtimecmp h.mtime).mono ?_
    rintro e w' ⟨rfl, q', rfl⟩
    exact ⟨rfl, _, drewN_two _ _ _⟩
  · rintro W' ⟨q, rfl⟩
    have h := h.drawn q
    refine (asks_0 (W.drewN q) x s.pend s.en0 s.li0 s.prio h.pend h.en0 h.li0 h.prio).mono ?_
    rintro e w' ⟨rfl, q', rfl⟩
    exact ⟨rfl, _, drewN_two _ _ _⟩
  · rintro W' ⟨q, rfl⟩
    have h := h.drawn q
    refine (asks_1 (W.drewN q) x s.pend s.en1 s.li1 s.prio h.pend h.en1 h.li1 h.prio).mono ?_
    rintro e w' ⟨rfl, q', rfl⟩
    exact ⟨rfl, _, drewN_two _ _ _⟩
theorem CodeAt.offs {W W' : World} {x r : Nat} {s : CSt} (h : CodeAt W x r s) {L : List Nat} (ho : Offs L W W') (hx : x ∉ L) (hr : r ∉ L) : CodeAt W' x r s := h.of (ho.block x h.lt.1 hx) (ho.block r h.lt.2 hr)
theorem RamIn.put {W : World} {g cap : Nat} {xs : List Int} (h : RamIn W g cap xs) (i : Nat) (v : Int) (v0 : 0 ≤ v) (v1 : v < 256) : RamIn (W.setCell ⟨g, i, none⟩ (.int .u8 v)) g cap (xs.set i v) := by
  obtain ⟨cur, h1, h2, h3, h4, h5, h6, h7⟩ := h
  refine ⟨_, heap_set_same W g i _ cur _ _ h1, by simp [h2], by simpa using h3, h4, ?_, by simpa using h6, fun b hb => ?_⟩
  · rw [Array.toList_setIfInBounds, List.length_set, List.take_set, h5, List.map_set]
  · rcases List.mem_or_eq_of_mem_set hb with hb | rfl
    · exact h7 b hb
    · exact ⟨v0, v1⟩
theorem RamAt.put {W : World} {g : Nat} {xs : List Int} (h : RamAt W g xs) (i : Nat) (v : Int) (v0 : 0 ≤ v) (v1 : v < 256) : RamAt (W.setCell ⟨g, i, none⟩ (.int .u8 v)) g (xs.set i v) := by
  obtain ⟨h1, h6, h7⟩ := h
  refine ⟨(heap_set_same W g i _ _ _ _ h1).trans ?_, by simpa using h6, fun b hb => ?_⟩
  · rw [List.map_set]; simp
  · rcases List.mem_or_eq_of_mem_set hb with hb | rfl
    · exact h7 b hb
    · exact ⟨v0, v1⟩
end Go.Proofs.Yteiideeechnekaa
