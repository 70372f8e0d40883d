/-
  hartlaw.plays, upTo and Devices: the walk.
-/
import Derived.Test.YteiideeechnekaaGreatDoorDevPure
import Derived.Test.YteiideeechnekaaGreatDoorMade
namespace Go.Proofs.YteiideeechnekaaGreatDoor
open Go.RowKit

structure DInv (W w : World) (x r p : Nat) (b : RBl) (s : RSt) : Prop where
  c : CodeAt w x r (cOf s)
  f : RefAt w p b s
  a : b.Apart p
  ne : x ≠ r
  g : Gd s
  bel : Below W.heap.size W w
  l : ∀ k, k ∈ b.l p → W.heap.size ≤ k
  nx : x ∉ b.l p
  nr : r ∉ b.l p
  wx : W.heap.size ≤ x
  wr : W.heap.size ≤ r
theorem DInv.on {W w w' : World} {x r p : Nat} {b : RBl} {s : RSt} (h : DInv W w x r p b s) {L : List Nat} (ho : Offs L w w') (hL : ∀ k, k ∈ L → w.heap.size ≤ k) : DInv W w' x r p b s := by
  have lt := h.c.lt
  have lr := h.f.lt
  have kl : ∀ k, k ∈ b.l p → k < w.heap.size := fun k hk => by simp [RBl.l] at hk; omega
  have hs := h.bel.size
  exact { h with c := h.c.offs ho (fun e => by have := hL _ e; omega) (fun e => by have := hL _ e; omega), f := h.f.offs ho (fun k hk e => by have := hL _ e; have := kl k hk; omega), bel := h.bel.trans (ho.below (fun k hk => by have := hL k hk; omega) hs) }
theorem DInv.new {W w : World} {x r p : Nat} {b : RBl} {s : RSt} (h : DInv W w x r p b s) (o : Obj) : DInv W (w.alloc o) x r p b s := h.on (L := []) ((Offs.refl _ _).new o) (fun k hk => by cases hk)
theorem DInv.drawn {W w : World} {x r p : Nat} {b : RBl} {s : RSt} (h : DInv W w x r p b s) (q : Nat) : DInv W (w.drewN q) x r p b s := { h with c := h.c.drawn q, f := h.f.drawn q, bel := below_drawn h.bel q }
theorem DInv.below {W w w' : World} {x r p : Nat} {b : RBl} {s : RSt} (h : DInv W w x r p b s) (hb : Below w.heap.size w w') : DInv W w' x r p b s := h.on (L := []) (Offs.of_below hb) (fun k hk => by cases hk)
/-- Behind the code's call. -/
theorem DInv.mid {W w w1 : World} {x r p : Nat} {b : RBl} {s : RSt} (h : DInv W w x r p b s) {o : Obj} (o1 : Offs [x, r] (w.alloc o) w1) : RefAt w1 p b s :=
  (h.new o).f.offs o1 fun k hk e => by simp at e; rcases e with rfl | rfl; exact h.nx hk; exact h.nr hk
/-- Behind the calls of both. -/
theorem DInv.both {W w w1 w2 : World} {x r p : Nat} {b : RBl} {s s' : RSt} (h : DInv W w x r p b s) {o : Obj} (g : Gd s') (h1 : CodeAt w1 x r (cOf s')) (o1 : Offs [x, r] (w.alloc o) w1) (h2 : RefAt w2 p b s') (o2 : Offs (b.l p) w1 w2) : DInv W w2 x r p b s' := by
  have hn := (h.new o).bel
  have b1 := o1.below (B := W.heap.size) (fun k hk => by have := h.wx; have := h.wr; simp at hk; rcases hk with rfl | rfl <;> omega) hn.size
  have b2 := o2.below (B := W.heap.size) (fun k hk => h.l k hk) (Nat.le_trans hn.size b1.size)
  exact { h with c := h1.offs o2 h.nx h.nr, f := h2, g := g, bel := (hn.trans b1).trans b2 }
theorem DInv.looks {W w : World} {x r p : Nat} {b : RBl} {s : RSt} (h : DInv W w x r p b s) :
    Calls Tryz.prog 13 #[.pointer (some ⟨x, 0, none⟩), .pointer (some ⟨p, 0, none⟩)] w fun e W' => e = .returned (.bool true) ∧ DInv W W' x r p b s := by
  refine (looks_same w x r p b _ _ h.g.look h.g.fine h.c h.f).mono ?_
  rintro e w1 ⟨rfl, hb⟩
  exact ⟨rfl, h.below hb⟩
theorem look_of_new (n : Nat) (img : ByteArray) : newC n img = cOf (newR n img) := by kernel_rfl
theorem gd_new (n : Nat) (img : ByteArray) (h4 : 4 ≤ n) (hi : img.size ≤ n) (hb : Byt (ramOf n img)) : Gd (newR n img) :=
  { z := rfl, x := (fun i => by show 0 ≤ (List.replicate 32 (0 : Int))[i]?.getD 0 ∧ (List.replicate 32 (0 : Int))[i]?.getD 0 < 4294967296; rw [List.getElem?_replicate]; split <;> decide), pc := W32.lit (n := 0) (by decide), p4 := rfl, n4 := (by show 4 ≤ (ramOf n img).length; rw [ramOf_len n img hi]; exact h4), b := hb, mode := .inr (.inr rfl), spp := .inl rfl, mpp := .inl rfl, medeleg := W32.lit (n := 0) (by decide), mideleg := W32.lit (n := 0) (by decide), mie := W32.lit (n := 0) (by decide), soft := W32.lit (n := 0) (by decide), stvec := W32.lit (n := 0) (by decide), sscratch := W32.lit (n := 0) (by decide), sepc := W32.lit (n := 0) (by decide), scause := W32.lit (n := 0) (by decide), stval := W32.lit (n := 0) (by decide), mtvec := W32.lit (n := 0) (by decide), mscratch := W32.lit (n := 0) (by decide), mepc := W32.lit (n := 0) (by decide), mcause := W32.lit (n := 0) (by decide), mtval := W32.lit (n := 0) (by decide), s4 := rfl, m4 := rfl, mb := (fun i hi => absurd hi (by show ¬ isB 0 i = true; rw [isB_zero]; decide)), db := (fun i hi => absurd hi (by show ¬ isB 0 i = true; rw [isB_zero]; decide)), dv := ⟨rfl, rfl, rfl, .inl rfl, W32.lit (n := 0) (by decide), W32.lit (n := 0) (by decide), W32.lit (n := 0) (by decide), W32.lit (n := 0) (by decide), W32.lit (n := 4294967295) (by decide), W32.lit (n := 0) (by decide), fun i => by show W32 (((List.replicate 8 (⟨false, false, false, 0⟩ : Srce))[i]?).getD ⟨false, false, false, 0⟩).prio; rw [List.getElem?_replicate]; split <;> exact W32.lit (n := 0) (by decide), rfl⟩ }
set_option maxHeartbeats 1000000 in
theorem plays_line (W0 W : World) (x r p : Nat) (bl : RBl) (s : RSt) (I : DInv W0 W x r p bl s) (a b : Int) (v : Nat) :
    Calls Tryz.prog 41 #[.pointer (some ⟨x, 0, none⟩), .pointer (some ⟨p, 0, none⟩), .agg #[.int .i64 2, .int .i64 a, .int .i64 b, .int .u32 v]] W fun e W' => e = .returned (.bool true) ∧ ∃ s', DInv W0 W' x r p bl s' := by
  have HI : Hid (DInv W0 W x r p bl s) := I
  have lt := I.c.lt
  have HX : Hid (W.heap.size ∉ [x, r]) := fun e => by simp at e; omega
  obtain ⟨s1, HC, HR, HG⟩ : ∃ s1, Hid (∀ w, CodeAt w x r (cOf s) → Calls Tryz.prog 44 #[.pointer (some ⟨x, 0, none⟩), .int .i64 a, .bool (b != 0)] w (CP w x r (cOf s1))) ∧ Hid (∀ w, RefAt w p bl s → Calls Tryz.prog 82 #[.pointer (some ⟨p, 0, none⟩), .int .i64 a, .bool (b != 0)] w (RP w p bl s1)) ∧ Hid (Gd s1) := by
    by_cases hk : a < 1 ∨ 7 < a
    · refine ⟨s, fun w h => ?_, fun w h => ?_, I.g⟩
      · refine (hline_no w x a _ hk).mono ?_
        rintro e w' ⟨rfl, rfl⟩
        exact ⟨rfl, h, Offs.refl _ _⟩
      · refine (line_no w p a _ hk).mono ?_
        rintro e w' ⟨rfl, rfl⟩
        exact ⟨rfl, h, Offs.refl _ _⟩
    · obtain ⟨k, rfl⟩ : ∃ k : Nat, a = k := ⟨a.toNat, by omega⟩
      refine ⟨lineR s k (b != 0), fun w h => ?_, fun w h => line_any w p bl s h I.a k (by omega) (by omega) _, I.g.line k (by omega) _⟩
      rw [cOf_line I.g.dv k (by omega) (by omega)]
      exact hline_any w x r _ h I.ne k (by omega) (by omega) _
  clear I lt
  go_enter Tryz.func41, Tryz.ntmps41
  go_wp2_with fail
  refine (HC.out _ (HI.out.new _).c).mono ?_
  rintro e w1 ⟨rfl, h1, o1⟩
  have d1 := box_kept0 HX.out o1 1
  have d2 := box_kept0 HX.out o1 2
  simp at d1 d2
  have H1 : Hid (CodeAt w1 x r (cOf s1)) := h1
  have O1 : Hid (Offs [x, r] (W.alloc (.cells #[.int .i64 2, .int .i64 a, .int .i64 b, .int .u32 v] 69)) w1) := o1
  clear h1 o1
  go_wp2_with fail
  refine (HR.out _ (HI.out.mid O1.out)).mono ?_
  rintro e w2 ⟨rfl, h2, o2⟩
  go_wp2
  go_ret
  exact ⟨rfl, s1, HI.out.both HG.out H1.out O1.out h2 o2⟩
set_option maxHeartbeats 1000000 in
theorem plays_tick (W0 W : World) (x r p : Nat) (bl : RBl) (s : RSt) (I : DInv W0 W x r p bl s) (a b : Int) (v : Nat) :
    Calls Tryz.prog 41 #[.pointer (some ⟨x, 0, none⟩), .pointer (some ⟨p, 0, none⟩), .agg #[.int .i64 3, .int .i64 a, .int .i64 b, .int .u32 v]] W fun e W' => e = .returned (.bool true) ∧ ∃ s', DInv W0 W' x r p bl s' := by
  have HI : Hid (DInv W0 W x r p bl s) := I
  have lt := I.c.lt
  have HX : Hid (W.heap.size ∉ [x, r]) := fun e => by simp at e; omega
  obtain ⟨s1, HC, HR, HG⟩ : ∃ s1, Hid (∀ w, CodeAt w x r (cOf s) → Calls Tryz.prog 45 #[.pointer (some ⟨x, 0, none⟩)] w (CP w x r (cOf s1))) ∧ Hid (∀ w, RefAt w p bl s → Calls Tryz.prog 83 #[.pointer (some ⟨p, 0, none⟩)] w (RP w p bl s1)) ∧ Hid (Gd s1) :=
    ⟨tickR s, fun w h => htick_any w x r _ h I.ne, fun w h => tick_any w p bl s h I.a, I.g.tick⟩
  clear I lt
  go_enter Tryz.func41, Tryz.ntmps41
  go_wp2_with fail
  refine (HC.out _ (HI.out.new _).c).mono ?_
  rintro e w1 ⟨rfl, h1, o1⟩
  have H1 : Hid (CodeAt w1 x r (cOf s1)) := h1
  have O1 : Hid (Offs [x, r] (W.alloc (.cells #[.int .i64 3, .int .i64 a, .int .i64 b, .int .u32 v] 69)) w1) := o1
  clear h1 o1
  go_wp2_with fail
  refine (HR.out _ (HI.out.mid O1.out)).mono ?_
  rintro e w2 ⟨rfl, h2, o2⟩
  go_wp2
  go_ret
  exact ⟨rfl, s1, HI.out.both HG.out H1.out O1.out h2 o2⟩
set_option maxHeartbeats 1000000 in
theorem plays_read (W0 W : World) (x r p : Nat) (bl : RBl) (s : RSt) (I : DInv W0 W x r p bl s) (a b : Int) (v : Nat) (hv : v < 4294967296) :
    Calls Tryz.prog 41 #[.pointer (some ⟨x, 0, none⟩), .pointer (some ⟨p, 0, none⟩), .agg #[.int .i64 4, .int .i64 a, .int .i64 b, .int .u32 v]] W fun e W' => e = .returned (.bool true) ∧ ∃ s', DInv W0 W' x r p bl s' := by
  have HI : Hid (DInv W0 W x r p bl s) := I
  have lt := I.c.lt
  have HX : Hid (W.heap.size ∉ [x, r]) := fun e => by simp at e; omega
  obtain ⟨s1, z, ok, HC, HR, HG⟩ : ∃ s1 z ok, Hid (∀ w, CodeAt w x r (cOf s) → Calls Tryz.prog 46 #[.pointer (some ⟨x, 0, none⟩), .int .u32 v, .int .i64 a] w fun e w' => e = .returned (.tuple #[.int .u32 z, .bool ok]) ∧ CodeAt w' x r (cOf s1) ∧ Offs [x, r] w w') ∧ Hid (∀ w, RefAt w p bl s → Calls Tryz.prog 31 #[.pointer (some ⟨p, 0, none⟩), .int .u32 v, .int .i64 a] w fun e w' => e = .returned (.tuple #[.int .u32 z, .bool ok]) ∧ RefAt w' p bl s1 ∧ Offs (bl.l p) w w') ∧ Hid (Gd s1) := by
    obtain ⟨e, g⟩ := read_of I.g v a
    refine ⟨(readR s v a).1, (readR s v a).2.1, (readR s v a).2.2, fun w h => ?_, fun w h => read_any w p bl s h I.a v hv a, g⟩
    have := cread_any w x r _ h I.ne v hv a
    rw [e] at this
    exact this
  clear I lt
  go_enter Tryz.func41, Tryz.ntmps41
  go_wp2_with fail
  refine (HC.out _ (HI.out.new _).c).mono ?_
  rintro e w1 ⟨rfl, h1, o1⟩
  have d1 := box_kept0 HX.out o1 1
  have d3 := box_kept0 HX.out o1 3
  simp at d1 d3
  have H1 : Hid (CodeAt w1 x r (cOf s1)) := h1
  have O1 : Hid (Offs [x, r] (W.alloc (.cells #[.int .i64 4, .int .i64 a, .int .i64 b, .int .u32 v] 69)) w1) := o1
  clear h1 o1
  go_wp2_with fail
  refine (HR.out _ (HI.out.mid O1.out)).mono ?_
  rintro e w2 ⟨rfl, h2, o2⟩
  go_wp2
  go_ret
  exact ⟨rfl, s1, HI.out.both HG.out H1.out O1.out h2 o2⟩
set_option maxHeartbeats 1000000 in
theorem plays_write (W0 W : World) (x r p : Nat) (bl : RBl) (s : RSt) (I : DInv W0 W x r p bl s) (a b : Int) (v : Nat) (hv : v < 4294967296) :
    Calls Tryz.prog 41 #[.pointer (some ⟨x, 0, none⟩), .pointer (some ⟨p, 0, none⟩), .agg #[.int .i64 5, .int .i64 a, .int .i64 b, .int .u32 v]] W fun e W' => e = .returned (.bool true) ∧ ∃ s', DInv W0 W' x r p bl s' := by
  have HI : Hid (DInv W0 W x r p bl s) := I
  have lt := I.c.lt
  have HX : Hid (W.heap.size ∉ [x, r]) := fun e => by simp at e; omega
  obtain ⟨s1, ok, HC, HR, HG⟩ : ∃ s1 ok, Hid (∀ w, CodeAt w x r (cOf s) → Calls Tryz.prog 47 #[.pointer (some ⟨x, 0, none⟩), .int .u32 v, .int .i64 a, .int .u32 (b % 4294967296)] w fun e w' => e = .returned (.bool ok) ∧ CodeAt w' x r (cOf s1) ∧ Offs [x, r] w w') ∧ Hid (∀ w, RefAt w p bl s → Calls Tryz.prog 84 #[.pointer (some ⟨p, 0, none⟩), .int .u32 v, .int .i64 a, .int .u32 (b % 4294967296)] w fun e w' => e = .returned (.bool ok) ∧ RefAt w' p bl s1 ∧ Offs (bl.l p) w w') ∧ Hid (Gd s1) := by
    have b0 : 0 ≤ b % 4294967296 := by omega
    have b1 : b % 4294967296 < 4294967296 := by omega
    obtain ⟨e, g⟩ := write_of I.g v a (b % 4294967296) ⟨b0, b1⟩
    refine ⟨(writeR s v a (b % 4294967296)).1, (writeR s v a (b % 4294967296)).2, fun w h => ?_, fun w h => write_any w p bl s h I.a v hv a _ b0 b1 (fun W' h' c hc => compl_any W' p bl (dvR s) h' I.a c hc _ b0), g⟩
    have := cwrite_any w x r _ h I.ne v hv a _ b0 b1
    rw [e] at this
    exact this
  clear I lt
  go_enter Tryz.func41, Tryz.ntmps41
  go_wp2_with fail
  refine (HC.out _ (HI.out.new _).c).mono ?_
  rintro e w1 ⟨rfl, h1, o1⟩
  have d1 := box_kept0 HX.out o1 1
  have d2 := box_kept0 HX.out o1 2
  have d3 := box_kept0 HX.out o1 3
  simp at d1 d2 d3
  have H1 : Hid (CodeAt w1 x r (cOf s1)) := h1
  have O1 : Hid (Offs [x, r] (W.alloc (.cells #[.int .i64 5, .int .i64 a, .int .i64 b, .int .u32 v] 69)) w1) := o1
  clear h1 o1
  go_wp2_with fail
  refine (HR.out _ (HI.out.mid O1.out)).mono ?_
  rintro e w2 ⟨rfl, h2, o2⟩
  go_wp2
  go_ret
  exact ⟨rfl, s1, HI.out.both HG.out H1.out O1.out h2 o2⟩
set_option maxHeartbeats 1000000 in
theorem plays_look (W0 W : World) (x r p : Nat) (bl : RBl) (s : RSt) (I : DInv W0 W x r p bl s) (a b : Int) (v : Nat) :
    Calls Tryz.prog 41 #[.pointer (some ⟨x, 0, none⟩), .pointer (some ⟨p, 0, none⟩), .agg #[.int .i64 6, .int .i64 a, .int .i64 b, .int .u32 v]] W fun e W' => e = .returned (.bool true) ∧ ∃ s', DInv W0 W' x r p bl s' := by
  have HL := (I.new (.cells #[.int .i64 6, .int .i64 a, .int .i64 b, .int .u32 v] 69)).looks
  clear I
  go_enter Tryz.func41, Tryz.ntmps41
  go_wp2_with fail
  refine HL.mono ?_
  rintro e w1 ⟨rfl, h1⟩
  go_wp2
  go_ret
  exact ⟨rfl, s, h1⟩
theorem plays_none (W0 W : World) (x r p : Nat) (bl : RBl) (s : RSt) (I : DInv W0 W x r p bl s) (a b : Int) (v : Nat) (k : Int) (h1 : (k == 1) = false) (h2 : (k == 2) = false) (h3 : (k == 3) = false) (h4 : (k == 4) = false) (h5 : (k == 5) = false) (h6 : (k == 6) = false) :
    Calls Tryz.prog 41 #[.pointer (some ⟨x, 0, none⟩), .pointer (some ⟨p, 0, none⟩), .agg #[.int .i64 k, .int .i64 a, .int .i64 b, .int .u32 v]] W fun e W' => e = .returned (.bool true) ∧ ∃ s', DInv W0 W' x r p bl s' := by
  have HI : Hid (DInv W0 W x r p bl s) := I
  clear I
  go_enter Tryz.func41, Tryz.ntmps41
  go_wp2
  go_ret
  exact ⟨rfl, s, HI.out.new _⟩
theorem plays_any (W0 W : World) (x r p : Nat) (bl : RBl) (s : RSt) (I : DInv W0 W x r p bl s) (a b : Int) (v : Nat) (hv : v < 4294967296) (k : Int) (h1 : k ≠ 1) :
    Calls Tryz.prog 41 #[.pointer (some ⟨x, 0, none⟩), .pointer (some ⟨p, 0, none⟩), .agg #[.int .i64 k, .int .i64 a, .int .i64 b, .int .u32 v]] W fun e W' => e = .returned (.bool true) ∧ ∃ s', DInv W0 W' x r p bl s' := by
  by_cases h2 : k = 2
  · subst h2; exact plays_line W0 W x r p bl s I a b v
  by_cases h3 : k = 3
  · subst h3; exact plays_tick W0 W x r p bl s I a b v
  by_cases h4 : k = 4
  · subst h4; exact plays_read W0 W x r p bl s I a b v hv
  by_cases h5 : k = 5
  · subst h5; exact plays_write W0 W x r p bl s I a b v hv
  by_cases h6 : k = 6
  · subst h6; exact plays_look W0 W x r p bl s I a b v
  exact plays_none W0 W x r p bl s I a b v k (by simpa using h1) (by simpa using h2) (by simpa using h3) (by simpa using h4) (by simpa using h5) (by simpa using h6)

/-- A script: empty, or a row of steps. -/
def Scr (W : World) (v : Value) : Prop := (∃ (a : Option Addr) (cap : Nat), v = .slice a 0 cap) ∨ ∃ sb so n cap : Nat, n ≤ maxLen ∧ (∀ i, i < n → ∃ (k a b : Int) (v : Nat), v < 4294967296 ∧ W.cell? ⟨sb, so + i * 4, none⟩ = some (.int .i64 k) ∧ W.cell? ⟨sb, so + i * 4 + 1, none⟩ = some (.int .i64 a) ∧ W.cell? ⟨sb, so + i * 4 + 2, none⟩ = some (.int .i64 b) ∧ W.cell? ⟨sb, so + i * 4 + 3, none⟩ = some (.int .u32 v)) ∧ v = .slice (some ⟨sb, so, none⟩) n cap
theorem Scr.nil {W : World} (a : Option Addr) (cap : Nat) : Scr W (.slice a 0 cap) := .inl ⟨a, cap, rfl⟩
theorem Scr.row {W : World} (sb so n cap : Nat) (hm : n ≤ maxLen) (h : ∀ i, i < n → ∃ (k a b : Int) (v : Nat), v < 4294967296 ∧ W.cell? ⟨sb, so + i * 4, none⟩ = some (.int .i64 k) ∧ W.cell? ⟨sb, so + i * 4 + 1, none⟩ = some (.int .i64 a) ∧ W.cell? ⟨sb, so + i * 4 + 2, none⟩ = some (.int .i64 b) ∧ W.cell? ⟨sb, so + i * 4 + 3, none⟩ = some (.int .u32 v)) : Scr W (.slice (some ⟨sb, so, none⟩) n cap) := .inr ⟨sb, so, n, cap, hm, h, rfl⟩
set_option maxHeartbeats 4000000 in
theorem upTo_row (W : World) (n : Nat) (img : ByteArray) (but : Int) (h1 : 4 ≤ n) (h2 : n ≤ 512) (h3 : (n : Int) % 4 = 0) (h4 : img.size ≤ n) (PL : ∀ w x r p bl s, DInv W w x r p bl s → ∀ (k a b : Int) (v : Nat), v < 4294967296 → k ≠ but → Calls Tryz.prog 41 #[.pointer (some ⟨x, 0, none⟩), .pointer (some ⟨p, 0, none⟩), .agg #[.int .i64 k, .int .i64 a, .int .i64 b, .int .u32 v]] w fun e W' => e = .returned (.bool true) ∧ ∃ s', DInv W W' x r p bl s') (sb so N cap : Nat) (hm : N ≤ 1073741824)
    (h : ∀ i, i < N → ∃ (k a b : Int) (v : Nat), v < 4294967296 ∧ W.cell? ⟨sb, so + i * 4, none⟩ = some (.int .i64 k) ∧ W.cell? ⟨sb, so + i * 4 + 1, none⟩ = some (.int .i64 a) ∧ W.cell? ⟨sb, so + i * 4 + 2, none⟩ = some (.int .i64 b) ∧ W.cell? ⟨sb, so + i * 4 + 3, none⟩ = some (.int .u32 v)) :
    Calls Tryz.prog 16 #[.int .i64 n, .string img, .slice (some ⟨sb, so, none⟩) N cap, .int .i64 but] W fun e W' => e = .returned (.bool true) ∧ Below W.heap.size W W' := by
  have HS : Hid (∀ i, i < N → ∃ (k a b : Int) (v : Nat), v < 4294967296 ∧ W.cell? ⟨sb, so + i * 4, none⟩ = some (.int .i64 k) ∧ W.cell? ⟨sb, so + i * 4 + 1, none⟩ = some (.int .i64 a) ∧ W.cell? ⟨sb, so + i * 4 + 2, none⟩ = some (.int .i64 b) ∧ W.cell? ⟨sb, so + i * 4 + 3, none⟩ = some (.int .u32 v)) := h
  have HPL : Hid (∀ w x r p bl s, DInv W w x r p bl s → ∀ (k a b : Int) (v : Nat), v < 4294967296 → k ≠ but → Calls Tryz.prog 41 #[.pointer (some ⟨x, 0, none⟩), .pointer (some ⟨p, 0, none⟩), .agg #[.int .i64 k, .int .i64 a, .int .i64 b, .int .u32 v]] w fun e W' => e = .returned (.bool true) ∧ ∃ s', DInv W W' x r p bl s') := PL
  clear PL h
  have hm' : ¬ (1073741824 < (N : Int)) := by omega
  have HM := made_any W n img h1 h2 h3 h4
  have HN : Hid (4 ≤ n ∧ img.size ≤ n) := ⟨h1, h4⟩
  clear h1 h2 h3 h4
  go_enter Tryz.func16, Tryz.ntmps16
  go_wp2_with fail
  refine HM.mono ?_
  rintro e w0 ⟨x, p, rfl, ⟨r, bl, hc, hr, hA, hne, hx, hr0, hl, nx, nr⟩, hb0⟩
  have hby : Byt (ramOf n img) := hc.bytes.2.2
  rw [look_of_new] at hc
  have HP : Hid (∃ s, DInv W w0 x r p bl s) := ⟨newR n img, hc, hr, hA, hne, gd_new n img HN.out.1 HN.out.2 hby, hb0, hl, nx, nr, hx, hr0⟩
  clear hc hr hA hne hx hr0 hl nx nr hb0 HM hby
  go_wp2_with fail
  go_loopw [11, 12] (fun ov iv wr => ∃ i : Nat, i ≤ N ∧ iv = .int .i64 i ∧ ov = .bool true ∧ Hid (∃ s, DInv W wr x r p bl s)) (fun _ iv _ => N - (intOf iv).toNat)
  case atStart => exact ⟨0, Nat.zero_le _, rfl, rfl, HP⟩
  case round =>
    obtain ⟨i, hi, rfl, rfl, hI⟩ := hrel
    clear HP
    by_cases hlt : i < N
    · have hlt' : (i : Int) < N := by omega
      obtain ⟨k, a, b, v, hv, k0, k1, k2, k3⟩ := HS.out i hlt
      obtain ⟨s, I⟩ := hI.out
      have sl : sb < W.heap.size := World.block_lt_of_cell? W _ k0
      have bc := fun j => Below.cell I.bel (p := ⟨sb, j, none⟩) sl
      have c0 := (bc _).trans k0
      have c1 := (bc _).trans k1
      have c2 := (bc _).trans k2
      have c3 := (bc _).trans k3
      clear bc k0 k1 k2 k3 sl
      by_cases hk : k = but
      · subst hk
        have HI : Hid (∃ s, DInv W wr x r p bl s) := hI
        clear I hI hv
        go_wp2
        go_roundw
        case rel => exact ⟨i + 1, by omega, by go_num, rfl, HI⟩
        case measure => simp [intOf]; omega
      · have hk' : (k != but) = true := by simpa using hk
        have HL := HPL.out wr x r p bl s I k a b v hv hk
        clear I hI hk hv
        go_wp2_with fail
        refine HL.mono ?_
        rintro e w3 ⟨rfl, s3, I3⟩
        have HI : Hid (∃ s, DInv W w3 x r p bl s) := ⟨s3, I3⟩
        clear I3 HL
        go_wp2
        go_roundw
        case rel => exact ⟨i + 1, by omega, by go_num, rfl, HI⟩
        case measure => simp [intOf]; omega
    · have hlt' : ¬ ((i : Int) < N) := by omega
      obtain ⟨s, I⟩ := hI.out
      have HL := I.looks
      clear I hI
      go_wp2_with fail
      refine HL.mono ?_
      rintro e w3 ⟨rfl, hb3⟩
      have HB := hb3.bel
      clear hb3
      go_wp2
      go_ret
      exact ⟨rfl, HB⟩

set_option maxHeartbeats 4000000 in
theorem upTo_nil (W : World) (n : Nat) (img : ByteArray) (but : Int) (sa : Option Addr) (sc : Nat) (h1 : 4 ≤ n) (h2 : n ≤ 512) (h3 : (n : Int) % 4 = 0) (h4 : img.size ≤ n) :
    Calls Tryz.prog 16 #[.int .i64 n, .string img, .slice sa 0 sc, .int .i64 but] W fun e W' => e = .returned (.bool true) ∧ Below W.heap.size W W' := by
  have HM := made_any W n img h1 h2 h3 h4
  have HN : Hid (4 ≤ n ∧ img.size ≤ n) := ⟨h1, h4⟩
  clear h1 h2 h3 h4
  go_enter Tryz.func16, Tryz.ntmps16
  go_wp2_with fail
  refine HM.mono ?_
  rintro e w0 ⟨x, p, rfl, ⟨r, bl, hc, hr, hA, hne, hx, hr0, hl, nx, nr⟩, hb0⟩
  have hby : Byt (ramOf n img) := hc.bytes.2.2
  rw [look_of_new] at hc
  have HP : Hid (∃ s, DInv W w0 x r p bl s) := ⟨newR n img, hc, hr, hA, hne, gd_new n img HN.out.1 HN.out.2 hby, hb0, hl, nx, nr, hx, hr0⟩
  clear hc hr hA hne hx hr0 hl nx nr hb0 HM hby
  go_wp2_with fail
  go_loopw [11, 12] (fun ov iv wr => iv = .int .i64 0 ∧ ov = .bool true ∧ Hid (∃ s, DInv W wr x r p bl s)) (fun _ _ _ => 0)
  case atStart => exact ⟨rfl, rfl, HP⟩
  case round =>
    obtain ⟨rfl, rfl, hI⟩ := hrel
    clear HP
    · skip
      obtain ⟨s, I⟩ := hI.out
      have HL := I.looks
      clear I hI
      go_wp2_with fail
      refine HL.mono ?_
      rintro e w3 ⟨rfl, hb3⟩
      have HB := hb3.bel
      clear hb3
      go_wp2
      go_ret
      exact ⟨rfl, HB⟩

theorem upTo_long (W : World) (size : Int) (img : ByteArray) (but : Int) (a : Option Addr) (N cap : Nat) (h : 1073741824 < (N : Int)) :
    Calls Tryz.prog 16 #[.int .i64 size, .string img, .slice a N cap, .int .i64 but] W fun e W' => e = .returned (.bool true) ∧ Below W.heap.size W W' := by
  go_enter Tryz.func16, Tryz.ntmps16
  go_wp2
  go_ret
  exact ⟨rfl, Below.refl _ _⟩
theorem upTo_bad (W : World) (size : Int) (img : ByteArray) (but : Int) (a : Option Addr) (N cap : Nat) (hm : ¬ (1073741824 < (N : Int))) (h : errOf size img ≠ 0) :
    Calls Tryz.prog 16 #[.int .i64 size, .string img, .slice a N cap, .int .i64 but] W fun e W' => e = .returned (.bool true) ∧ Below W.heap.size W W' := by
  have HM := made_bad W size img h
  clear h
  go_enter Tryz.func16, Tryz.ntmps16
  go_wp2_with fail
  refine HM.mono ?_
  rintro e w1 ⟨rfl, hb1⟩
  go_wp2
  go_ret
  exact ⟨rfl, hb1⟩
theorem upTo_any (W : World) (size : Int) (img : ByteArray) (but : Int) (PL : ∀ w x r p bl s, DInv W w x r p bl s → ∀ (k a b : Int) (v : Nat), v < 4294967296 → k ≠ but → Calls Tryz.prog 41 #[.pointer (some ⟨x, 0, none⟩), .pointer (some ⟨p, 0, none⟩), .agg #[.int .i64 k, .int .i64 a, .int .i64 b, .int .u32 v]] w fun e W' => e = .returned (.bool true) ∧ ∃ s', DInv W W' x r p bl s') (sv : Value) (h : Scr W sv) :
    Calls Tryz.prog 16 #[.int .i64 size, .string img, sv, .int .i64 but] W fun e W' => e = .returned (.bool true) ∧ Below W.heap.size W W' := by
  have bad : ∀ (a : Option Addr) (N cap : Nat), errOf size img ≠ 0 → Calls Tryz.prog 16 #[.int .i64 size, .string img, .slice a N cap, .int .i64 but] W fun e W' => e = .returned (.bool true) ∧ Below W.heap.size W W' := fun a N cap he => by
    by_cases hl : 1073741824 < (N : Int)
    · exact upTo_long W size img but a N cap hl
    · exact upTo_bad W size img but a N cap hl he
  by_cases he : errOf size img = 0
  · have hb : ¬ (size < 4 ∨ 512 < size ∨ size % 4 ≠ 0) := fun hb => by simp [errOf, hb] at he
    have hl : ¬ (size < img.size) := fun hl => by simp [errOf, hb, hl] at he
    obtain ⟨n, rfl⟩ : ∃ n : Nat, size = n := ⟨size.toNat, by omega⟩
    rcases h with ⟨a, cap, rfl⟩ | ⟨sb, so, N, cap, hm, h, rfl⟩
    · exact upTo_nil W n img but a cap (by omega) (by omega) (by omega) (by omega)
    · by_cases hl : 1073741824 < (N : Int)
      · exact upTo_long W _ img but _ N cap hl
      · exact upTo_row W n img but (by omega) (by omega) (by omega) (by omega) PL sb so N cap (by omega) h
  · rcases h with ⟨a, cap, rfl⟩ | ⟨sb, so, N, cap, hm, h, rfl⟩
    · exact bad a 0 cap he
    · exact bad _ N cap he
end Go.Proofs.YteiideeechnekaaGreatDoor
