/-
  The code's New.
-/
import Derived.Test.YteiideeechnekaaGreatDoorMakes
import Derived.Lib.BufferWrite
import Derived.Laws.OwnMore
import Derived.Deep.DeepCutAuto
import Derived.Deep.RegionWith
namespace Go.Proofs.YteiideeechnekaaGreatDoor
open Go.RowKit Go.Lib

def ramOf (n : Nat) (img : ByteArray) : List Int := img.data.toList.map (fun b => (b.toNat : Int)) ++ List.replicate (n - img.size) 0

theorem info_u8 : ∃ i, Tryz.prog.info? 5 = some i ∧ i.zero = some (.int .u8 0) ∧ i.size = 1 ∧ i.bytes = 1 := by
  have h : (Tryz.prog.info? 5).map (fun i => (i.zero, i.size, i.bytes)) = some (some (.int .u8 0), 1, 1) := by kernel_rfl
  obtain ⟨i, hi, he⟩ := Option.map_eq_some_iff.1 h
  simp only [Prod.mk.injEq] at he
  exact ⟨i, hi, he.1, he.2.1, he.2.2⟩
theorem size_u8 : (Tryz.prog.info? 5).map (·.size) = some 1 := by kernel_rfl

theorem ramOf_len (n : Nat) (img : ByteArray) (h : img.size ≤ n) : (ramOf n img).length = n := by
  have : img.data.toList.length = img.size := by rw [Array.length_toList]; rfl
  simp only [ramOf, List.length_append, List.length_map, List.length_replicate, this]; omega

/-- The image's copy into a new row. -/
theorem copy_image (w : World) (g n : Nat) (img : ByteArray) (hn : n ≤ 512) (hi : img.size ≤ n) (hg : w.heap[g]? = some (.cells (madeCells #[Value.int .u8 0] n) 5 (0, 0))) :
    ∃ w', (∀ ty, (Builtin.copy_ #[30, 9] ty #[.slice (some ⟨g, 0, none⟩) n n, .string img]).run Tryz.prog w = .ok (goInt img.size) w') ∧ RamAt w' g (ramOf n img) ∧ (∀ k, k ≠ g → w'.heap[k]? = w.heap[k]?) ∧ ∀ (B : Nat) (a : World), B ≤ g → Below B a w → Below B a w' := by
  have hrun := fun ty => run_copy_row_string (P := Tryz.prog) w 30 9 ty 5 g 0 n n img (madeCells #[Value.int .u8 0] n) 5 Tryz.underlying30 size_u8 hg hi (by rw [size_madeCells]; omega)
  refine ⟨_, hrun, ⟨?_, by rw [ramOf_len n img hi]; exact hn, ?_⟩, fun k hk => setRow_other w g k _ hk, fun B a hB hb => below_setRow hb hB _⟩
  · rw [setRow_heap w g _ _ 5 (0, 0) hg]
    have : (List.take 0 (madeCells #[Value.int IntKind.u8 0] n).toList ++ byteCells img.data.toList ++ List.drop (0 + img.size) (madeCells #[Value.int IntKind.u8 0] n).toList) = (ramOf n img).map (Value.int .u8) := by
      rw [toList_madeCells_one]
      simp [ramOf, byteCells, List.map_append, List.map_map]
    rw [this]
  · intro b hb
    simp only [ramOf, List.mem_append, List.mem_map, List.mem_replicate] at hb
    rcases hb with ⟨z, _, rfl⟩ | ⟨_, rfl⟩
    · have := z.toNat_lt; omega
    · decide

theorem clock_any (W : World) : Calls Tryz.prog 56 #[] W fun e W' => e = .returned (.agg #[.int .u32 0, .int .u32 4294967295, .int .u32 0]) ∧ Below W.heap.size W W' := by
  go_enter Tryz.func56, Tryz.ntmps56
  go_wp2
  exact bodyPost_ret (v := .agg #[.int .u32 0, .int .u32 4294967295, .int .u32 0]) (by simp [results, Tryz.results56, go_sem]) rfl ⟨rfl, (Below.refl _ _).alloc (Nat.le_refl _) _⟩

def zeroC : Array Value := #[.int .u32 0, .int .u32 0, .int .u32 0, .int .u32 0, .int .u32 0, .int .u32 0, .int .u32 0, .int .u32 0, .int .u32 0, .int .u32 0, .int .u32 0, .int .u32 0, .int .u32 0, .int .u32 0, .int .u32 0, .int .u32 0, .int .u32 0, .int .u32 0, .int .u32 0, .int .u32 0, .int .u32 0, .int .u32 0, .int .u32 0, .int .u32 0, .int .u32 0, .int .u32 0, .int .u32 0, .int .u32 0, .int .u32 0, .int .u32 0, .int .u32 0, .int .u32 0, .int .u32 0, .int .i64 0, .bool false, .int .u32 0, .int .u32 0, .int .u32 0, .int .u32 0, .int .u32 0, .int .u32 0, .int .u32 0, .int .u32 0, .int .u32 0, .int .u32 0, .int .u32 0, .int .u32 0, .int .u32 0, .int .u32 0, .int .u32 0, .slice none 0 0, .int .u32 0, .int .u32 0, .int .u32 0, .int .u32 0, .int .u32 0, .int .u32 0, .int .u32 0, .int .u32 0, .int .u32 0, .int .u32 0, .int .u32 0, .int .u32 0, .int .u32 0, .int .u32 0, .int .u32 0, .int .u32 0, .int .u32 0, .int .u32 0]
theorem zero_hart (w : World) : (zeroValue 89).run Tryz.prog w = .ok (.agg zeroC) w := by
  kernel_rfl
theorem zeroC_size : zeroC.size = 69 := rfl
theorem zeroC_ne : ¬ zeroC = #[] := fun h => by have := congrArg Array.size h; rw [zeroC_size] at this; exact absurd this (by decide)
def newCells (n r : Nat) : Array Value := #[.int .u32 0, .int .u32 0, .int .u32 0, .int .u32 0, .int .u32 0, .int .u32 0, .int .u32 0, .int .u32 0, .int .u32 0, .int .u32 0, .int .u32 0, .int .u32 0, .int .u32 0, .int .u32 0, .int .u32 0, .int .u32 0, .int .u32 0, .int .u32 0, .int .u32 0, .int .u32 0, .int .u32 0, .int .u32 0, .int .u32 0, .int .u32 0, .int .u32 0, .int .u32 0, .int .u32 0, .int .u32 0, .int .u32 0, .int .u32 0, .int .u32 0, .int .u32 0, .int .u32 0, .int .i64 3, .bool false, .int .u32 0, .int .u32 0, .int .u32 0, .int .u32 0, .int .u32 0, .int .u32 0, .int .u32 0, .int .u32 0, .int .u32 0, .int .u32 0, .int .u32 0, .int .u32 0, .int .u32 0, .int .u32 0, .int .u32 0, .slice (some ⟨r, 0, none⟩) n n, .int .u32 0, .int .u32 4294967295, .int .u32 0, .int .u32 0, .int .u32 0, .int .u32 0, .int .u32 0, .int .u32 0, .int .u32 0, .int .u32 0, .int .u32 0, .int .u32 0, .int .u32 0, .int .u32 0, .int .u32 0, .int .u32 0, .int .u32 0, .int .u32 0]
theorem newCells_eq (n r : Nat) : (((((zeroC.setIfInBounds 33 (.int .i64 3)).setIfInBounds 50 (.slice (some ⟨r, 0, none⟩) n n)).setIfInBounds 51 (.int .u32 0)).setIfInBounds 52 (.int .u32 4294967295)).setIfInBounds 53 (.int .u32 0)) = newCells n r := by
  simp [zeroC, newCells]

def errOf (size : Int) (img : ByteArray) : Int := if size < 4 ∨ 512 < size ∨ size % 4 ≠ 0 then 1 else if size < img.size then 2 else 0

set_option maxHeartbeats 1000000 in
theorem new_bad (W : World) (size : Int) (img : ByteArray) (h : errOf size img ≠ 0) :
    Calls Tryz.prog 24 #[.int .i64 size, .string img] W fun e W' => e = .returned (.tuple #[.pointer none, .int .i64 (errOf size img)]) ∧ Below W.heap.size W W' := by
  by_cases a1 : size < 4
  · have er : errOf size img = 1 := by simp [errOf, a1]
    rw [er]
    clear h er
    go_enter Tryz.func24, Tryz.ntmps24
    go_wp2
    exact bodyPost_ret (v := .tuple #[.pointer none, .int .i64 1]) (by simp [results, Tryz.results24, go_sem]) rfl ⟨rfl, Below.refl _ _⟩
  · by_cases a2 : 512 < size
    · have er : errOf size img = 1 := by simp [errOf, a2]
      rw [er]
      clear h er
      go_enter Tryz.func24, Tryz.ntmps24
      go_wp2
      exact bodyPost_ret (v := .tuple #[.pointer none, .int .i64 1]) (by simp [results, Tryz.results24, go_sem]) rfl ⟨rfl, Below.refl _ _⟩
    · by_cases a3 : size % 4 = 0
      · have a4 : size < img.size := by
          refine Classical.byContradiction fun a4 => h ?_
          simp [errOf, a1, a2, a3, a4]
        have er : errOf size img = 2 := by simp [errOf, a1, a2, a3, a4]
        rw [er]
        clear h er
        go_enter Tryz.func24, Tryz.ntmps24
        go_wp2
        exact bodyPost_ret (v := .tuple #[.pointer none, .int .i64 2]) (by simp [results, Tryz.results24, go_sem]) rfl ⟨rfl, Below.refl _ _⟩
      · have er : errOf size img = 1 := by simp [errOf, a3]
        rw [er]
        have a5 : (size % 4 != 0) = true := by simpa using a3
        clear h er
        go_enter Tryz.func24, Tryz.ntmps24
        go_wp2
        exact bodyPost_ret (v := .tuple #[.pointer none, .int .i64 1]) (by simp [results, Tryz.results24, go_sem]) rfl ⟨rfl, Below.refl _ _⟩

def newC (n : Nat) (img : ByteArray) : CSt :=
  { regs := List.replicate 32 0, pc := 0, mode := 3, asleep := false, mstatus := 0, medeleg := 0, mideleg := 0, mie := 0, mtvec := 0, mscratch := 0, mepc := 0, mcause := 0, mtval := 0, stvec := 0, sscratch := 0, sepc := 0, scause := 0, stval := 0, written := 0, ram := ramOf n img, msip := 0, mtimecmp := 4294967295, mtime := 0, prio := List.replicate 8 0, pend := 0, served := 0, level := 0, en0 := 0, en1 := 0, li0 := 0, li1 := 0 }

theorem new_regs (n r i : Nat) (hi : i < 32) : (newCells n r)[0 + i]? = some (.int .u32 ((List.replicate 32 (0 : Int)).getD i 0)) := by
  match i, hi with
  | 0, _ => rfl
  | 1, _ => rfl
  | 2, _ => rfl
  | 3, _ => rfl
  | 4, _ => rfl
  | 5, _ => rfl
  | 6, _ => rfl
  | 7, _ => rfl
  | 8, _ => rfl
  | 9, _ => rfl
  | 10, _ => rfl
  | 11, _ => rfl
  | 12, _ => rfl
  | 13, _ => rfl
  | 14, _ => rfl
  | 15, _ => rfl
  | 16, _ => rfl
  | 17, _ => rfl
  | 18, _ => rfl
  | 19, _ => rfl
  | 20, _ => rfl
  | 21, _ => rfl
  | 22, _ => rfl
  | 23, _ => rfl
  | 24, _ => rfl
  | 25, _ => rfl
  | 26, _ => rfl
  | 27, _ => rfl
  | 28, _ => rfl
  | 29, _ => rfl
  | 30, _ => rfl
  | 31, _ => rfl
  | k + 32, h => exact absurd h (by omega)
theorem new_prio (n r i : Nat) (hi : i < 8) : (newCells n r)[54 + i]? = some (.int .u32 ((List.replicate 8 (0 : Int))[i]?.getD 0)) := by
  match i, hi with
  | 0, _ => rfl
  | 1, _ => rfl
  | 2, _ => rfl
  | 3, _ => rfl
  | 4, _ => rfl
  | 5, _ => rfl
  | 6, _ => rfl
  | 7, _ => rfl
  | k + 8, h => exact absurd h (by omega)
theorem new_at (w : World) (x r n : Nat) (img : ByteArray) (hi : img.size ≤ n) (hx : w.heap[x]? = some (.cells (newCells n r) 89 (0, 0))) (hr : RamAt w r (ramOf n img)) : CodeAt w x r (newC n img) := by
  have c := fun j => cell_of_row w x j (newCells n r) _ (0, 0) hx
  exact { nregs := rfl, nprio := rfl, bytes := hr, fx := (fun j => by simp [World.frozen?, hx]), regs := (fun i hi => (c _).trans (new_regs n r i hi)), prio := (fun i hi => (c _).trans (new_prio n r i hi)), ram := (c 50).trans (by show _ = some (Value.slice _ (ramOf n img).length (ramOf n img).length); rw [ramOf_len n img hi]; rfl), pc := (c 32).trans rfl, mode := (c 33).trans rfl, asleep := (c 34).trans rfl, msip := (c 51).trans rfl, mtimecmp := (c 52).trans rfl, mtime := (c 53).trans rfl, pend := (c 62).trans rfl, served := (c 63).trans rfl, level := (c 64).trans rfl, en0 := (c 65).trans rfl, en1 := (c 66).trans rfl, li0 := (c 67).trans rfl, li1 := (c 68).trans rfl, mstatus := (c 35).trans rfl, medeleg := (c 36).trans rfl, mideleg := (c 37).trans rfl, mie := (c 38).trans rfl, written := (c 39).trans rfl, stvec := (c 40).trans rfl, sscratch := (c 41).trans rfl, sepc := (c 42).trans rfl, scause := (c 43).trans rfl, stval := (c 44).trans rfl, mtvec := (c 45).trans rfl, mscratch := (c 46).trans rfl, mepc := (c 47).trans rfl, mcause := (c 48).trans rfl, mtval := (c 49).trans rfl }

set_option maxHeartbeats 4000000 in
set_option maxRecDepth 100000 in
theorem new_any (W : World) (n : Nat) (img : ByteArray) (h1 : 4 ≤ n) (h2 : n ≤ 512) (h3 : (n : Int) % 4 = 0) (h4 : img.size ≤ n) :
    Calls Tryz.prog 24 #[.int .i64 n, .string img] W fun e W' => ∃ x : Nat, e = .returned (.tuple #[.pointer (some ⟨x, 0, none⟩), .int .i64 0]) ∧ (∃ r : Nat, CodeAt W' x r (newC n img) ∧ x ≠ r ∧ W.heap.size ≤ x ∧ W.heap.size ≤ r) ∧ Below W.heap.size W W' := by
  have a1 : ¬ ((n : Int) < 4) := by omega
  have a2 : ¬ (512 < (n : Int)) := by omega
  have a4 : ¬ ((n : Int) < img.size) := by omega
  obtain ⟨i0, hi, hz, hsz, hby⟩ := info_u8
  have hmk := fun w => run_make (P := Tryz.prog) w 30 5 i0 (.int .u8 0) Tryz.underlying30 hi hz .i64 .i64 (n : Int) (n : Int) (by omega) (Int.le_refl _) (by rw [hby]; omega) (by omega)
  simp only [Int.toNat_natCast, hsz, Nat.mul_one, show (Value.int IntKind.u8 0).cells = #[.int .u8 0] from rfl] at hmk
  have z1 := zero_hart
  have z2 := zeroC_size
  have z3 := zeroC_ne
  have z4 := newCells_eq
  clear hi hz hsz hby h1
  go_enter Tryz.func24, Tryz.ntmps24
  go_upto_region 5 with fail
  go_cut [6] (fun v w => ∃ x r : Nat, v = .pointer (some ⟨x, 0, none⟩) ∧ W.heap.size ≤ x ∧ W.heap.size ≤ r ∧ x ≠ r ∧ w.heap[x]? = some (.cells (newCells n r) 89 (0, 0)) ∧ w.heap[r]? = some (.cells (madeCells #[Value.int .u8 0] n) 5 (0, 0)) ∧ Below W.heap.size W w)
  case first =>
    go_region_with (go_at_call 56; refine (clock_any _).mono ?_; rintro e w1 ⟨rfl, hb1⟩)
    all_goals go_wp2
    all_goals go_meet
    · exact ⟨w1.heap.size, W.heap.size, rfl, Nat.le_trans (by simp) hb1.size, Nat.le_refl _, by have := hb1.size; simp at this; omega, heap_alloc_new _ _, (heap_alloc_old _ _ (by have := hb1.size; simp at this; omega)).trans ((hb1.block _ (by simp)).trans (heap_alloc_new W.drew _)), (((Below.refl W.heap.size W).drew.alloc (Nat.le_refl _) _).trans (hb1.mono (by simp))).alloc (Nat.le_trans (by simp) hb1.size) _⟩
    · have hs := hb1.size
      refine ⟨w1.heap.size + 1, w1.heap.size, rfl, by simp at hs; omega, by simpa using hs, by omega, ?_, ?_, ?_⟩
      · have := heap_alloc_new (w1.alloc (Obj.cells (madeCells #[Value.int IntKind.u8 0] n) 5)) (Obj.cells (newCells n w1.heap.size) 89)
        rw [show (w1.alloc (Obj.cells (madeCells #[Value.int IntKind.u8 0] n) 5)).heap.size = w1.heap.size + 1 by simp] at this
        exact this
      · exact (heap_alloc_old _ _ (by simp)).trans (heap_alloc_new _ _)
      · exact ((((Below.refl W.heap.size W).drew).trans hb1).alloc hs _).alloc (by simp at hs ⊢; omega) _
  case rest =>
    obtain ⟨x, r, rfl, hx, hr, hne, cx, cr, hb⟩ := hcut
    obtain ⟨w2, hrun, hram, hoth, hbel⟩ := copy_image wc r n img h2 h4 cr
    have c50 : wc.cell? ⟨x, 50, none⟩ = some (.slice (some ⟨r, 0, none⟩) n n) := (cell_of_row wc x 50 (newCells n r) _ (0, 0) cx).trans rfl
    have HB := hbel W.heap.size W hr hb
    have HX := new_at w2 x r n img h4 ((hoth x hne).trans cx) hram
    clear cx cr hram hoth hbel hb
    go_wp2
    exact bodyPost_ret (v := .tuple #[.pointer (some ⟨x, 0, none⟩), .int .i64 0]) (by simp [results, Tryz.results24, go_sem]) rfl ⟨x, rfl, ⟨r, HX, hne, hx, hr⟩, HB⟩
end Go.Proofs.YteiideeechnekaaGreatDoor
