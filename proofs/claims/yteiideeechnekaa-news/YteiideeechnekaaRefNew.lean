/-
  The document's New.
-/
import Derived.Test.YteiideeechnekaaMakes
import Derived.Test.YteiideeechnekaaCodeNew
import Derived.Test.YteiideeechnekaaRefAt
namespace Go.Proofs.Yteiideeechnekaa
open Go.RowKit Go.Lib

def made0 : Array Value := madeCells #[Value.int .u32 0] 32
def made2 : Array Value := madeCells #[Value.bool false, Value.bool false, Value.bool false, Value.int .u32 0] 32
def made3 : Array Value := madeCells #[Value.int .u32 0] 2

theorem info_src : ∃ i, Try.prog.info? 83 = some i ∧ i.zero = some (.agg #[.bool false, .bool false, .bool false, .int .u32 0]) ∧ i.size = 4 ∧ i.bytes = 8 := by
  have h : (Try.prog.info? 83).map (fun i => (i.zero, i.size, i.bytes)) = some (some (.agg #[.bool false, .bool false, .bool false, .int .u32 0]), 4, 8) := by kernel_rfl
  obtain ⟨i, hi, he⟩ := Option.map_eq_some_iff.1 h
  simp only [Prod.mk.injEq] at he
  exact ⟨i, hi, he.1, he.2.1, he.2.2⟩

theorem make_x (w : World) : (Instr.makeSlice 29 (.int .i64 32) (.int .i64 32)).run Try.prog w = .ok (.slice (some ⟨w.heap.size, 0, none⟩) 32 32) (w.alloc (.cells made0 27)) := by
  obtain ⟨i0, hi, hz, hsz, hby⟩ := info_u32
  have := run_make (P := Try.prog) w 29 27 i0 (.int .u32 0) Try.underlying29 hi hz .i64 .i64 32 32 (by decide) (by decide) (by rw [hby]; decide) (by decide)
  rw [hsz] at this
  exact this
theorem make_2 (w : World) : (Instr.makeSlice 29 (.int .i64 2) (.int .i64 2)).run Try.prog w = .ok (.slice (some ⟨w.heap.size, 0, none⟩) 2 2) (w.alloc (.cells made3 27)) := by
  obtain ⟨i0, hi, hz, hsz, hby⟩ := info_u32
  have := run_make (P := Try.prog) w 29 27 i0 (.int .u32 0) Try.underlying29 hi hz .i64 .i64 2 2 (by decide) (by decide) (by rw [hby]; decide) (by decide)
  rw [hsz] at this
  exact this
theorem make_src (w : World) : (Instr.makeSlice 73 (.int .i64 8) (.int .i64 8)).run Try.prog w = .ok (.slice (some ⟨w.heap.size, 0, none⟩) 8 8) (w.alloc (.cells made2 83)) := by
  obtain ⟨i0, hi, hz, hsz, hby⟩ := info_src
  have := run_make (P := Try.prog) w 73 83 i0 _ Try.underlying73 hi hz .i64 .i64 8 8 (by decide) (by decide) (by rw [hby]; decide) (by decide)
  rw [hsz] at this
  exact this

def newCellsR (n b0 b1 b2 b3 b4 : Nat) : Array Value := #[.slice (some ⟨b0, 0, none⟩) 32 32, .int .u32 0, .int .i64 3, .bool false, .slice (some ⟨b1, 0, none⟩) n n, .bool false, .bool false, .bool false, .bool false, .int .i64 0, .int .i64 0, .bool false, .bool false, .int .u32 0, .int .u32 0, .int .u32 0, .int .u32 0, .int .u32 0, .int .u32 0, .int .u32 0, .int .u32 0, .int .u32 0, .int .u32 0, .int .u32 0, .int .u32 0, .int .u32 0, .int .u32 0, .int .u32 0, .int .u32 4294967295, .int .u32 0, .slice (some ⟨b2, 0, none⟩) 8 8, .slice (some ⟨b3, 0, none⟩) 2 2, .slice (some ⟨b4, 0, none⟩) 2 2, .int .i64 0, .int .i64 0, .int .i64 0]
def newR (n : Nat) (img : ByteArray) : RSt :=
  { x := List.replicate 32 0, ram := ramOf n img, src := List.replicate 8 ⟨false, false, false, 0⟩, enable := List.replicate 2 0, limit := List.replicate 2 0, pc := 0, mode := 3, asleep := false, sie := false, mieb := false, spie := false, mpie := false, spp := 0, mpp := 0, tw := false, tsr := false, medeleg := 0, mideleg := 0, mie := 0, soft := 0, mtvec := 0, stvec := 0, mscratch := 0, sscratch := 0, mepc := 0, sepc := 0, mcause := 0, scause := 0, mtval := 0, stval := 0, msip := 0, mtimecmp := 4294967295, mtime := 0, traps := 0, system := 0, device := 0 }

theorem row_made (w : World) (b n : Nat) (hn : n ≤ 64) (h : w.heap[b]? = some (.cells (madeCells #[Value.int .u32 0] n) 27 (0, 0))) : RowAt w b n (List.replicate n 0) :=
  ⟨_, h, size_madeCells _ _, by simp, by unfold maxLen; omega, by rw [toList_madeCells_one]; simp⟩

theorem newr_at (w : World) (p n : Nat) (bx br bs be bl : Nat) (img : ByteArray) (hi : img.size ≤ n) (hp : w.heap[p]? = some (.cells (newCellsR n bx br bs be bl) 75 (0, 0)))
    (hx : w.heap[bx]? = some (.cells made0 27 (0, 0))) (hs : w.heap[bs]? = some (.cells made2 83 (0, 0))) (he : w.heap[be]? = some (.cells made3 27 (0, 0))) (hl : w.heap[bl]? = some (.cells made3 27 (0, 0)))
    (hr : RamAt w br (ramOf n img)) : RefAt w p ⟨bx, br, bs, be, bl, 32, n, 8, 2, 2⟩ (newR n img) := by
  have c := fun j => cell_of_row w p j (newCellsR n bx br bs be bl) _ (0, 0) hp
  have d := fun j => cell_of_row w bs j made2 _ (0, 0) hs
  have g : ∀ i, i < 8 → srcAt (newR n img) i = ⟨false, false, false, 0⟩ := fun i hi => by
    show ((List.replicate 8 (⟨false, false, false, 0⟩ : Srce))[i]?).getD _ = _
    rw [List.getElem?_replicate, if_pos hi]; rfl
  have mj : ∀ j, j < 32 → made2[j]? = some (#[Value.bool false, Value.bool false, Value.bool false, Value.int .u32 0][j % 4]!) := fun j hj => by simp [made2, madeCells, hj]
  have m : ∀ i, i < 8 → made2[i * 4]? = some (.bool false) ∧ made2[i * 4 + 1]? = some (.bool false) ∧ made2[i * 4 + 2]? = some (.bool false) ∧ made2[i * 4 + 3]? = some (.int .u32 0) := fun i hi => by
    match i, hi with
    | 0, _ => exact ⟨(mj _ (by decide)).trans rfl, (mj _ (by decide)).trans rfl, (mj _ (by decide)).trans rfl, (mj _ (by decide)).trans rfl⟩
    | 1, _ => exact ⟨(mj _ (by decide)).trans rfl, (mj _ (by decide)).trans rfl, (mj _ (by decide)).trans rfl, (mj _ (by decide)).trans rfl⟩
    | 2, _ => exact ⟨(mj _ (by decide)).trans rfl, (mj _ (by decide)).trans rfl, (mj _ (by decide)).trans rfl, (mj _ (by decide)).trans rfl⟩
    | 3, _ => exact ⟨(mj _ (by decide)).trans rfl, (mj _ (by decide)).trans rfl, (mj _ (by decide)).trans rfl, (mj _ (by decide)).trans rfl⟩
    | 4, _ => exact ⟨(mj _ (by decide)).trans rfl, (mj _ (by decide)).trans rfl, (mj _ (by decide)).trans rfl, (mj _ (by decide)).trans rfl⟩
    | 5, _ => exact ⟨(mj _ (by decide)).trans rfl, (mj _ (by decide)).trans rfl, (mj _ (by decide)).trans rfl, (mj _ (by decide)).trans rfl⟩
    | 6, _ => exact ⟨(mj _ (by decide)).trans rfl, (mj _ (by decide)).trans rfl, (mj _ (by decide)).trans rfl, (mj _ (by decide)).trans rfl⟩
    | 7, _ => exact ⟨(mj _ (by decide)).trans rfl, (mj _ (by decide)).trans rfl, (mj _ (by decide)).trans rfl, (mj _ (by decide)).trans rfl⟩
    | k + 8, h => exact absurd h (by omega)
  exact { nx := rfl, nsrc := rfl, nen := rfl, nli := rfl, fp := (fun j => by simp [World.frozen?, hp]), fs := (fun j => by simp [World.frozen?, hs]), ksrc := ⟨Nat.le_refl _, by show 8 ≤ maxLen; decide⟩, cx := (c 0).trans rfl, cram := (c 4).trans (by show _ = some (Value.slice _ (ramOf n img).length n); rw [ramOf_len n img hi]; rfl), csrc := (c 30).trans rfl, cen := (c 31).trans rfl, cli := (c 32).trans rfl, pc := (c 1).trans rfl, mode := (c 2).trans rfl, asleep := (c 3).trans rfl, sie := (c 5).trans rfl, mieb := (c 6).trans rfl, spie := (c 7).trans rfl, mpie := (c 8).trans rfl, spp := (c 9).trans rfl, mpp := (c 10).trans rfl, tw := (c 11).trans rfl, tsr := (c 12).trans rfl, medeleg := (c 13).trans rfl, mideleg := (c 14).trans rfl, mie := (c 15).trans rfl, soft := (c 16).trans rfl, mtvec := (c 17).trans rfl, stvec := (c 18).trans rfl, mscratch := (c 19).trans rfl, sscratch := (c 20).trans rfl, mepc := (c 21).trans rfl, sepc := (c 22).trans rfl, mcause := (c 23).trans rfl, scause := (c 24).trans rfl, mtval := (c 25).trans rfl, stval := (c 26).trans rfl, msip := (c 27).trans rfl, mtimecmp := (c 28).trans rfl, mtime := (c 29).trans rfl, traps := (c 33).trans rfl, system := (c 34).trans rfl, device := (c 35).trans rfl, x := row_made w bx 32 (by decide) hx, ram := (by have := hr.room; rw [ramOf_len n img hi] at this; exact this), high := (fun i hi => by rw [d, g i hi]; exact (m i hi).1), waits := (fun i hi => by rw [d, g i hi]; exact (m i hi).2.1), served := (fun i hi => by rw [d, g i hi]; exact (m i hi).2.2.1), prio := (fun i hi => by rw [d, g i hi]; exact (m i hi).2.2.2), en := row_made w be 2 (by decide) he, li := row_made w bl 2 (by decide) hl }

set_option maxHeartbeats 4000000 in
set_option maxRecDepth 100000 in
theorem rnew_any (W : World) (n : Nat) (img : ByteArray) (h1 : 4 ≤ n) (h2 : n ≤ 512) (h3 : (n : Int) % 4 = 0) (h4 : img.size ≤ n) :
    Calls Try.prog 20 #[.int .i64 n, .string img] W fun e W' => ∃ p : Nat, e = .returned (.tuple #[.pointer (some ⟨p, 0, none⟩), .int .i64 0]) ∧ (∃ b : RBl, RefAt W' p b (newR n img) ∧ b.Apart p ∧ W.heap.size ≤ p ∧ W.heap.size ≤ b.x ∧ W.heap.size ≤ b.ram ∧ W.heap.size ≤ b.src ∧ W.heap.size ≤ b.en ∧ W.heap.size ≤ b.li) ∧ Below W.heap.size W W' := by
  have a1 : ¬ ((n : Int) < 4) := by omega
  have a2 : ¬ (512 < (n : Int)) := by omega
  have a4 : ¬ ((n : Int) < img.size) := by omega
  obtain ⟨i0, hi, hz, hsz, hby⟩ := info_u8
  have hmk := fun w => run_make (P := Try.prog) w 59 5 i0 (.int .u8 0) Try.underlying59 hi hz .i64 .i64 (n : Int) (n : Int) (by omega) (Int.le_refl _) (by rw [hby]; omega) (by omega)
  simp only [Int.toNat_natCast, hsz, Nat.mul_one, show (Value.int IntKind.u8 0).cells = #[.int .u8 0] from rfl] at hmk
  have k1 := make_x
  have k2 := make_2
  have k3 := make_src
  clear hi hz hsz hby h1
  go_enter Try.func20, Try.ntmps20
  go_upto_region 5 with fail
  go_cut [6] (fun v w => ∃ p b0 b1 b2 b3 b4 : Nat, v = .pointer (some ⟨p, 0, none⟩) ∧ Inv5 W made0 (madeCells #[Value.int .u8 0] n) made2 made3 made3 27 5 83 27 27 w true true true true true b0 b1 b2 b3 b4 ∧ W.heap.size ≤ p ∧ p ≠ b0 ∧ p ≠ b1 ∧ p ≠ b2 ∧ p ≠ b3 ∧ p ≠ b4 ∧ w.heap[p]? = some (.cells (newCellsR n b0 b1 b2 b3 b4) 75 (0, 0)))
  case first =>
    rw [h3]
    refine wp_region_any (by kernel_rfl) ?_
    refine wpAny_take (i := 1) (v := .int .i64 n) rfl (by kernel_rfl) (by kernel_rfl) (by kernel_rfl) (fun _ _ _ h => h) (Or.inl ⟨by rfl, ?_⟩) ?_
    · intro w
      go_simp
    refine makes5 (fun l0 l2 l3 l4 l5 a w => ∃ b0 b1 b2 b3 b4 : Nat, a = ⟨#[.int .i64 n, .string img, undef, undef, .pointer none, .int .i64 0, undef, .int .i64 n, .bool false, .bool false, .int .i64 n, .bool false, .bool false, .bool false, .int .i64 n, .int .i64 0, .bool false, .bool false, .string img, .int .i64 img.size, .int .i64 n, .bool false, sl l0 b0 32, .int .i64 n, sl l2 b1 n, sl l3 b2 8, sl l4 b3 2, sl l5 b4 2, undef, undef, undef, undef, undef, undef, undef, undef, undef], []⟩ ∧ Inv5 W made0 (madeCells #[Value.int .u8 0] n) made2 made3 made3 27 5 83 27 27 w l0 l2 l3 l4 l5 b0 b1 b2 b3 b4) ?_ ?_ ?_ ?_ ?_ ?_ ?_ 5 false false false false false _ _ rfl ?_
    · intro l0 l2 l3 l4 l5 h
      cases l0 <;> cases l2 <;> cases l3 <;> cases l4 <;> cases l5 <;> first | (exact absurd h (by decide)) | kernel_rfl
    · intro l2 l3 l4 l5 a w K' h H
      obtain ⟨b0, b1, b2, b3, b4, rfl, hI⟩ := h
      refine wpOp_step rfl (fun K hK => ?_)
      go_simp
      refine hK _ _ (H _ _ ⟨w.heap.size, b1, b2, b3, b4, rfl, hI.step0⟩)
    · intro l0 l3 l4 l5 a w K' h H
      obtain ⟨b0, b1, b2, b3, b4, rfl, hI⟩ := h
      refine wpOp_step rfl (fun K hK => ?_)
      go_simp
      refine hK _ _ (H _ _ ⟨b0, w.heap.size, b2, b3, b4, rfl, hI.step1⟩)
    · intro l0 l2 l4 l5 a w K' h H
      obtain ⟨b0, b1, b2, b3, b4, rfl, hI⟩ := h
      refine wpOp_step rfl (fun K hK => ?_)
      go_simp
      refine hK _ _ (H _ _ ⟨b0, b1, w.heap.size, b3, b4, rfl, hI.step2⟩)
    · intro l0 l2 l3 l5 a w K' h H
      obtain ⟨b0, b1, b2, b3, b4, rfl, hI⟩ := h
      refine wpOp_step rfl (fun K hK => ?_)
      go_simp
      refine hK _ _ (H _ _ ⟨b0, b1, b2, w.heap.size, b4, rfl, hI.step3⟩)
    · intro l0 l2 l3 l4 a w K' h H
      obtain ⟨b0, b1, b2, b3, b4, rfl, hI⟩ := h
      refine wpOp_step rfl (fun K hK => ?_)
      go_simp
      refine hK _ _ (H _ _ ⟨b0, b1, b2, b3, w.heap.size, rfl, hI.step4⟩)
    · intro a w h
      obtain ⟨b0, b1, b2, b3, b4, rfl, hI⟩ := h
      refine wpAny_take (i := 6) (v := .agg (newCellsR n b0 b1 b2 b3 b4)) rfl (by kernel_rfl) (by kernel_rfl) (by kernel_rfl) (fun _ _ _ h => h) (Or.inl ⟨by rfl, ?_⟩) ?_
      · intro w
        kernel_rfl
      refine wpAny_ready (rs := [7]) (by kernel_rfl) (by simp) ?_
      refine AllReady.cons rfl (fun K hK => ?_) AllReady.nil
      go_simp
      refine hK _ _ ?_
      clear hK K
      refine wpAny_take (i := 8) (v := .pointer (some ⟨w.heap.size, 0, none⟩)) rfl (by kernel_rfl) (by kernel_rfl) (by kernel_rfl) (fun _ _ _ h => h) (Or.inl ⟨by rfl, ?_⟩) ?_
      · intro w
        go_simp
      refine wpAny_done (by kernel_rfl) ?_ _
      go_wp2
      go_meet
      case rel =>
        have A0 := hI.a0 rfl
        have A1 := hI.a1 rfl
        have A2 := hI.a2 rfl
        have A3 := hI.a3 rfl
        have A4 := hI.a4 rfl
        have hs := hI.bel.size
        have o := fun b (h : b < w.heap.size) => heap_alloc_old w (Obj.cells (newCellsR n b0 b1 b2 b3 b4) 75) h
        refine ⟨w.heap.size, b0, b1, b2, b3, b4, rfl, ⟨hI.bel.alloc hs _, fun _ => ⟨A0.1, by simp; omega, (o _ A0.2.1).trans A0.2.2⟩, fun _ => ⟨A1.1, by simp; omega, (o _ A1.2.1).trans A1.2.2⟩, fun _ => ⟨A2.1, by simp; omega, (o _ A2.2.1).trans A2.2.2⟩, fun _ => ⟨A3.1, by simp; omega, (o _ A3.2.1).trans A3.2.2⟩, fun _ => ⟨A4.1, by simp; omega, (o _ A4.2.1).trans A4.2.2⟩, hI.p01, hI.p02, hI.p03, hI.p04, hI.p12, hI.p13, hI.p14, hI.p23, hI.p24, hI.p34⟩, hs, by omega, by omega, by omega, by omega, by omega, heap_alloc_new w _⟩
    · exact ⟨0, 0, 0, 0, 0, rfl, ⟨(Below.refl _ _).drew, (fun h => by cases h), (fun h => by cases h), (fun h => by cases h), (fun h => by cases h), (fun h => by cases h), (fun h => by cases h), (fun h => by cases h), (fun h => by cases h), (fun h => by cases h), (fun h => by cases h), (fun h => by cases h), (fun h => by cases h), (fun h => by cases h), (fun h => by cases h), (fun h => by cases h)⟩⟩
  case rest =>
    obtain ⟨p, b0, b1, b2, b3, b4, rfl, hI, hp, q0, q1, q2, q3, q4, cp⟩ := hcut
    have A0 := hI.a0 rfl
    have A1 := hI.a1 rfl
    have A2 := hI.a2 rfl
    have A3 := hI.a3 rfl
    have A4 := hI.a4 rfl
    obtain ⟨w2, hrun, hram, hoth, hbel⟩ := copy_image wc b1 n img h2 h4 A1.2.2
    have c4 : wc.cell? ⟨p, 4, none⟩ = some (.slice (some ⟨b1, 0, none⟩) n n) := (cell_of_row wc p 4 (newCellsR n b0 b1 b2 b3 b4) _ (0, 0) cp).trans rfl
    have HB := hbel W.heap.size W A1.1 hI.bel
    have HX := newr_at w2 p n b0 b1 b2 b3 b4 img h4 ((hoth p q1).trans cp) ((hoth b0 (hI.p01 rfl rfl)).trans A0.2.2) ((hoth b2 (Ne.symm (hI.p12 rfl rfl))).trans A2.2.2) ((hoth b3 (Ne.symm (hI.p13 rfl rfl))).trans A3.2.2) ((hoth b4 (Ne.symm (hI.p14 rfl rfl))).trans A4.2.2) hram
    have HA : RBl.Apart ⟨b0, b1, b2, b3, b4, 32, n, 8, 2, 2⟩ p := ⟨hI.p01 rfl rfl, hI.p02 rfl rfl, hI.p03 rfl rfl, hI.p04 rfl rfl, hI.p12 rfl rfl, hI.p13 rfl rfl, hI.p14 rfl rfl, hI.p23 rfl rfl, hI.p24 rfl rfl, hI.p34 rfl rfl, q0, q1, q2, q3, q4⟩
    have HE : Hid (∃ b : RBl, RefAt w2 p b (newR n img) ∧ b.Apart p ∧ W.heap.size ≤ p ∧ W.heap.size ≤ b.x ∧ W.heap.size ≤ b.ram ∧ W.heap.size ≤ b.src ∧ W.heap.size ≤ b.en ∧ W.heap.size ≤ b.li) := ⟨_, HX, HA, hp, A0.1, A1.1, A2.1, A3.1, A4.1⟩
    clear HX HA A0 A1 A2 A3 A4 hI hram hoth hbel cp
    go_wp2
    exact bodyPost_ret (v := .tuple #[.pointer (some ⟨p, 0, none⟩), .int .i64 0]) (by simp [results, Try.results20, go_sem]) rfl ⟨p, rfl, HE.out, HB⟩
end Go.Proofs.Yteiideeechnekaa
