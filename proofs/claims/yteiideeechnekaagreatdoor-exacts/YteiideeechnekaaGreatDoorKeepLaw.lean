import Derived.Test.YteiideeechnekaaGreatDoorCodeNew
import Derived.Test.YteiideeechnekaaGreatDoorCodeLook
import Derived.Test.YteiideeechnekaaGreatDoorCodeOut
/-
  hartkeep's made.
-/
namespace Go.Proofs.YteiideeechnekaaGreatDoor
open Go.RowKit

theorem i64_mask (n : Int) (j : Nat) (k : Int) (h1 : (BitVec.ofInt 64 k).toNat = 2 ^ j - 1) (hj : j ≤ 12) : bits .and .i64 n k = n % 2 ^ j := by
  have key : (BitVec.ofInt 64 n &&& BitVec.ofInt 64 k).toNat = (n % ((2 ^ 64 : Nat) : Int)).toNat % 2 ^ j := by
    rw [BitVec.toNat_and, BitVec.toNat_ofInt, h1, Nat.and_two_pow_sub_one_eq_mod]
  show IntKind.i64.wrap ((BitVec.ofInt 64 n &&& BitVec.ofInt 64 k).toNat : Nat) = n % 2 ^ j
  rw [key, IntKind.wrap_i64]
  have : j = 0 ∨ j = 1 ∨ j = 2 ∨ j = 3 ∨ j = 4 ∨ j = 5 ∨ j = 6 ∨ j = 7 ∨ j = 8 ∨ j = 9 ∨ j = 10 ∨ j = 11 ∨ j = 12 := by omega
  rcases this with rfl | rfl | rfl | rfl | rfl | rfl | rfl | rfl | rfl | rfl | rfl | rfl | rfl <;> omega
theorem kbox_kept {W w2 : World} {L : List Nat} {c : Array Value} {t : TypeId} (hL : W.heap.size ∉ L) (o2 : Offs L (W.alloc (.cells c t)) w2) (j : Nat) : w2.cell? ⟨W.heap.size, j, none⟩ = c[j]? := by
  have e : w2.heap[W.heap.size]? = some (.cells c t (0, 0)) := (o2.block _ (by simp) hL).trans (heap_alloc_new W _)
  exact cell_of_row w2 _ j c _ (0, 0) e
/-- A new computer of the code's. -/
structure KNew (W w : World) (x r n : Nat) (im : ByteArray) : Prop where
  c : CodeAt w x r (newC n im)
  n4 : 4 ≤ n
  n5 : n ≤ 512
  im : im.size ≤ n
  ne : x ≠ r
  wx : W.heap.size ≤ x
  wr : W.heap.size ≤ r
  bel : Below W.heap.size W w
set_option maxRecDepth 100000 in
theorem kmade_any (W : World) (size : Int) (img : ByteArray) :
    Calls Tryz.prog 18 #[.int .i64 size, .string img] W fun e w => ∃ x : Nat, e = .returned (.pointer (some ⟨x, 0, none⟩)) ∧ ∃ r n im, KNew W w x r n im := by
  have hA : bits .and .i64 size 127 = size % 128 := i64_mask size 7 127 (by decide) (by decide)
  obtain ⟨m, hm⟩ : ∃ m : Nat, size % 128 = m := ⟨(size % 128).toNat, by omega⟩
  have hm8 : (m : Int) < 128 := by omega
  rw [hm] at hA
  clear hm
  by_cases hi : img.size ≤ 4 + 4 * m
  · have HN := new_any W (4 + 4 * m) img (by omega) (by omega) (by omega) hi
    have hi' : ¬ (4 + 4 * (m : Int) < (img.size : Int)) := by omega
    have HI : Hid (img.size ≤ 4 + 4 * m ∧ m < 128) := ⟨hi, by omega⟩
    have e : ((4 + 4 * m : Nat) : Int) = 4 + 4 * (m : Int) := by omega
    rw [e] at HN
    clear hi e
    go_enter Tryz.func18, Tryz.ntmps18
    go_wp2_with fail
    refine HN.mono ?_
    rintro e w1 ⟨x, rfl, ⟨r, hc, hne, hx, hr⟩, hb⟩
    have HK : Hid (KNew W w1 x r (4 + 4 * m) img) := ⟨hc, by omega, by have := HI.out.2; omega, HI.out.1, hne, hx, hr, hb⟩
    clear hc hne hx hr hb
    go_wp2
    go_ret
    exact ⟨x, rfl, r, _, img, HK.out⟩
  · have hz : (img.extract 0 (4 + 4 * m)).size ≤ 4 + 4 * m := by simp; omega
    have HN := new_any W (4 + 4 * m) (img.extract 0 (4 + 4 * m)) (by omega) (by omega) (by omega) hz
    have hi' : 4 + 4 * (m : Int) < (img.size : Int) := by omega
    have HI : Hid ((img.extract 0 (4 + 4 * m)).size ≤ 4 + 4 * m ∧ m < 128) := ⟨hz, by omega⟩
    have e : ((4 + 4 * m : Nat) : Int) = 4 + 4 * (m : Int) := by omega
    rw [e] at HN
    clear hi e hz
    go_enter Tryz.func18, Tryz.ntmps18
    go_wp2_with fail
    refine HN.mono ?_
    rintro e w1 ⟨x, rfl, ⟨r, hc, hne, hx, hr⟩, hb⟩
    have HK : Hid (KNew W w1 x r (4 + 4 * m) (img.extract 0 (4 + 4 * m))) := ⟨hc, by omega, by have := HI.out.2; omega, HI.out.1, hne, hx, hr, hb⟩
    clear hc hne hx hr hb
    go_wp2
    go_ret
    exact ⟨x, rfl, r, _, _, HK.out⟩
end Go.Proofs.YteiideeechnekaaGreatDoor

/-
  hartkeep's words, whole, core and devices, over states that lie in rows.
-/
namespace Go.Proofs.YteiideeechnekaaGreatDoor
open Go.RowKit

theorem kwords_true (W : World) (g g' c c' : Nat) (xs : List Int) (h : RowAt W g c xs) (h' : RowAt W g' c' xs) :
    Calls Tryz.prog 55 #[.slice (some ⟨g, 0, none⟩) xs.length c, .slice (some ⟨g', 0, none⟩) xs.length c'] W fun e W' => e = .returned (.bool true) ∧ ∃ q, W' = W.drewN q := by
  obtain ⟨n, hn⟩ : ∃ n, n = xs.length := ⟨_, rfl⟩
  have hm : n ≤ maxLen := by obtain ⟨_, _, _, a, b, _⟩ := h; omega
  have HC : Hid (∀ i, i < n → W.cell? ⟨g, i, none⟩ = some (.int .u32 (xs.getD i 0))) := fun i hi => h.cell i (by omega)
  have HC' : Hid (∀ i, i < n → W.cell? ⟨g', i, none⟩ = some (.int .u32 (xs.getD i 0))) := fun i hi => h'.cell i (by omega)
  rw [← hn]
  clear h h' hn
  unfold maxLen at hm
  go_enter Tryz.func55, Tryz.ntmps55
  go_wp2
  go_loopw [5] (fun i wr => ∃ k q : Nat, k ≤ n ∧ i = .int .i64 k ∧ wr = W.drewN q) (fun i _ => n - (intOf i).toNat)
  case atStart => exact ⟨0, 0, Nat.zero_le _, rfl, rfl⟩
  case round =>
    obtain ⟨k, q, hk, rfl, rfl⟩ := hrel
    by_cases hlt : k < n
    · have c1 := HC.out k hlt
      have c2 := HC'.out k hlt
      have hi : (k : Int) < (n : Int) := by omega
      go_wp2
      go_quiet (fail)
      go_wp2
      go_roundw
      case rel => exact ⟨k + 1, _, by omega, by go_num, rfl⟩
      case measure => simp [intOf]; omega
    · go_wp2
      go_ret
      exact ⟨rfl, _, rfl⟩
/-- A state with as many of everything as there are. -/
structure LFull (L : LSt) : Prop where
  regs : L.regs.length = 32
  csrs : L.csrs.length = 19
  clock : L.clock.length = 3
  prio : L.prio.length = 8
  enable : L.enable.length = 2
  limit : L.limit.length = 2
  ram : L.ram.size ≤ 512
set_option maxHeartbeats 1000000 in
set_option maxRecDepth 100000 in
theorem whole_true (W : World) (p : Pl) (L : LSt) (F : LFull L) :
    Calls Tryz.prog 21 #[.agg #[.slice (some ⟨p.r, 0, none⟩) L.regs.length p.cr, .int .u32 L.pc, .int .i64 L.mode, .bool L.asleep, .slice (some ⟨p.c, 0, none⟩) L.csrs.length p.cc, .string L.ram, .slice (some ⟨p.k, 0, none⟩) L.clock.length p.ck, .slice (some ⟨p.p, 0, none⟩) L.prio.length p.cp, .int .u32 L.pend, .int .u32 L.served, .int .u32 L.level, .slice (some ⟨p.e, 0, none⟩) L.enable.length p.ce, .slice (some ⟨p.l, 0, none⟩) L.limit.length p.cl]] W fun e W' => e = .returned (.bool true) ∧ Below W.heap.size W W' := by
  obtain ⟨f1, f2, f3, f4, f5, f6, f7⟩ := F
  have f7' : (L.ram.size : Int) ≤ 512 := by omega
  clear f7
  go_enter Tryz.func21, Tryz.ntmps21
  go_wp2
  go_ret
  exact ⟨rfl, (Below.refl _ _).alloc (Nat.le_refl _) _⟩
set_option maxHeartbeats 1000000 in
set_option maxRecDepth 100000 in
theorem core_true (W : World) (p p' : Pl) (L L' : LSt) (h : StAt W p L) (h' : StAt W p' L') (e0 : L'.regs = L.regs) (e1 : L'.ram = L.ram) :
    Calls Tryz.prog 54 #[.agg #[.slice (some ⟨p.r, 0, none⟩) L.regs.length p.cr, .int .u32 L.pc, .int .i64 L.mode, .bool L.asleep, .slice (some ⟨p.c, 0, none⟩) L.csrs.length p.cc, .string L.ram, .slice (some ⟨p.k, 0, none⟩) L.clock.length p.ck, .slice (some ⟨p.p, 0, none⟩) L.prio.length p.cp, .int .u32 L.pend, .int .u32 L.served, .int .u32 L.level, .slice (some ⟨p.e, 0, none⟩) L.enable.length p.ce, .slice (some ⟨p.l, 0, none⟩) L.limit.length p.cl], .agg #[.slice (some ⟨p'.r, 0, none⟩) L'.regs.length p'.cr, .int .u32 L'.pc, .int .i64 L'.mode, .bool L'.asleep, .slice (some ⟨p'.c, 0, none⟩) L'.csrs.length p'.cc, .string L'.ram, .slice (some ⟨p'.k, 0, none⟩) L'.clock.length p'.ck, .slice (some ⟨p'.p, 0, none⟩) L'.prio.length p'.cp, .int .u32 L'.pend, .int .u32 L'.served, .int .u32 L'.level, .slice (some ⟨p'.e, 0, none⟩) L'.enable.length p'.ce, .slice (some ⟨p'.l, 0, none⟩) L'.limit.length p'.cl]] W fun e W' => e = .returned (.bool true) ∧ Below W.heap.size W W' := by
  have B0 := fun (o1 o2 : Obj) (q : Nat) => below_drawn (((Below.refl W.heap.size W).alloc (Nat.le_refl _) o1).alloc (by simp) o2) q
  have K : Hid (∀ o1 o2 q, StAt (((W.alloc o1).alloc o2).drewN q) p L) := fun o1 o2 q => h.below (B0 o1 o2 q)
  have K' : Hid (∀ o1 o2 q, StAt (((W.alloc o1).alloc o2).drewN q) p' L') := fun o1 o2 q => h'.below (B0 o1 o2 q)
  have KB : Hid (∀ o1 o2 q, Below W.heap.size W (((W.alloc o1).alloc o2).drewN q)) := B0
  have Rregs : Hid (∀ o1 o2 q, RowAt (((W.alloc o1).alloc o2).drewN q) p'.r p'.cr L.regs) := fun o1 o2 q => by rw [← e0]; exact (K'.out o1 o2 q).regs
  clear B0 h h' K'
  rw [e0, e1]
  go_enter Tryz.func54, Tryz.ntmps54
  go_wp2_with fail
  refine (kwords_true _ p.r p'.r p.cr p'.cr L.regs (K.out _ _ 0).regs (Rregs.out _ _ 0)).mono ?_
  rintro e w' ⟨rfl, q0, rfl⟩
  go_wp2
  go_ret
  exact ⟨rfl, KB.out _ _ _⟩
set_option maxHeartbeats 1000000 in
set_option maxRecDepth 100000 in
theorem devices_true (W : World) (p p' : Pl) (L L' : LSt) (h : StAt W p L) (h' : StAt W p' L') (e0 : L'.clock = L.clock) (e1 : L'.prio = L.prio) (e2 : L'.enable = L.enable) (e3 : L'.limit = L.limit) (e4 : L'.pend = L.pend) (e5 : L'.served = L.served) (e6 : L'.level = L.level) :
    Calls Tryz.prog 53 #[.agg #[.slice (some ⟨p.r, 0, none⟩) L.regs.length p.cr, .int .u32 L.pc, .int .i64 L.mode, .bool L.asleep, .slice (some ⟨p.c, 0, none⟩) L.csrs.length p.cc, .string L.ram, .slice (some ⟨p.k, 0, none⟩) L.clock.length p.ck, .slice (some ⟨p.p, 0, none⟩) L.prio.length p.cp, .int .u32 L.pend, .int .u32 L.served, .int .u32 L.level, .slice (some ⟨p.e, 0, none⟩) L.enable.length p.ce, .slice (some ⟨p.l, 0, none⟩) L.limit.length p.cl], .agg #[.slice (some ⟨p'.r, 0, none⟩) L'.regs.length p'.cr, .int .u32 L'.pc, .int .i64 L'.mode, .bool L'.asleep, .slice (some ⟨p'.c, 0, none⟩) L'.csrs.length p'.cc, .string L'.ram, .slice (some ⟨p'.k, 0, none⟩) L'.clock.length p'.ck, .slice (some ⟨p'.p, 0, none⟩) L'.prio.length p'.cp, .int .u32 L'.pend, .int .u32 L'.served, .int .u32 L'.level, .slice (some ⟨p'.e, 0, none⟩) L'.enable.length p'.ce, .slice (some ⟨p'.l, 0, none⟩) L'.limit.length p'.cl]] W fun e W' => e = .returned (.bool true) ∧ Below W.heap.size W W' := by
  have B0 := fun (o1 o2 : Obj) (q : Nat) => below_drawn (((Below.refl W.heap.size W).alloc (Nat.le_refl _) o1).alloc (by simp) o2) q
  have K : Hid (∀ o1 o2 q, StAt (((W.alloc o1).alloc o2).drewN q) p L) := fun o1 o2 q => h.below (B0 o1 o2 q)
  have K' : Hid (∀ o1 o2 q, StAt (((W.alloc o1).alloc o2).drewN q) p' L') := fun o1 o2 q => h'.below (B0 o1 o2 q)
  have KB : Hid (∀ o1 o2 q, Below W.heap.size W (((W.alloc o1).alloc o2).drewN q)) := B0
  have Rclock : Hid (∀ o1 o2 q, RowAt (((W.alloc o1).alloc o2).drewN q) p'.k p'.ck L.clock) := fun o1 o2 q => by rw [← e0]; exact (K'.out o1 o2 q).clock
  have Rprio : Hid (∀ o1 o2 q, RowAt (((W.alloc o1).alloc o2).drewN q) p'.p p'.cp L.prio) := fun o1 o2 q => by rw [← e1]; exact (K'.out o1 o2 q).prio
  have Renable : Hid (∀ o1 o2 q, RowAt (((W.alloc o1).alloc o2).drewN q) p'.e p'.ce L.enable) := fun o1 o2 q => by rw [← e2]; exact (K'.out o1 o2 q).enable
  have Rlimit : Hid (∀ o1 o2 q, RowAt (((W.alloc o1).alloc o2).drewN q) p'.l p'.cl L.limit) := fun o1 o2 q => by rw [← e3]; exact (K'.out o1 o2 q).limit
  clear B0 h h' K'
  rw [e0, e1, e2, e3, e4, e5, e6]
  go_enter Tryz.func53, Tryz.ntmps53
  go_wp2_with fail
  refine (kwords_true _ p.k p'.k p.ck p'.ck L.clock (K.out _ _ 0).clock (Rclock.out _ _ 0)).mono ?_
  rintro e w' ⟨rfl, q0, rfl⟩
  go_wp2_with fail
  refine (kwords_true _ p.p p'.p p.cp p'.cp L.prio (K.out _ _ _).prio (Rprio.out _ _ _)).mono ?_
  rintro e w' ⟨rfl, q1, rfl⟩
  go_wp2_with fail
  refine (kwords_true _ p.e p'.e p.ce p'.ce L.enable (K.out _ _ _).enable (Renable.out _ _ _)).mono ?_
  rintro e w' ⟨rfl, q2, rfl⟩
  go_wp2_with fail
  refine (kwords_true _ p.l p'.l p.cl p'.cl L.limit (K.out _ _ _).limit (Rlimit.out _ _ _)).mono ?_
  rintro e w' ⟨rfl, q3, rfl⟩
  go_wp2
  go_ret
  exact ⟨rfl, KB.out _ _ _⟩
theorem bytesOf_eq (l : List Int) : bytesOf l = ⟨(l.map fun n => UInt8.ofNat n.toNat).toArray⟩ := by
  have h : ∀ (l : List Int) (r : ByteArray), l.foldl (fun r n => r.push (UInt8.ofNat n.toNat)) r = ⟨(r.data.toList ++ l.map fun n => UInt8.ofNat n.toNat).toArray⟩ := by
    intro l
    induction l with
    | nil => intro r; simp
    | cons a l ih =>
      intro r
      rw [List.foldl_cons, ih]
      simp [ByteArray.push]
  unfold bytesOf
  rw [h l ByteArray.empty]
  rfl
theorem bytesOf_size (l : List Int) : (bytesOf l).size = l.length := by rw [bytesOf_eq]; simp [ByteArray.size]
theorem full_look {W : World} {x r : Nat} {c : CSt} (h : CodeAt W x r c) : LFull (lookC c) :=
  { regs := h.nregs, csrs := rfl, clock := rfl, prio := h.nprio, enable := rfl, limit := rfl, ram := (by show (bytesOf c.ram).size ≤ 512; rw [bytesOf_size]; exact h.bytes.2.1) }
end Go.Proofs.YteiideeechnekaaGreatDoor

/-
  hartkeep's words, core and devices: some answer.
-/
namespace Go.Proofs.YteiideeechnekaaGreatDoor
open Go.RowKit

theorem words_some (W : World) (g g' c c' : Nat) (xs ys : List Int) (h : RowAt W g c xs) (h' : RowAt W g' c' ys) (e : ys.length = xs.length) :
    Calls Tryz.prog 55 #[.slice (some ⟨g, 0, none⟩) xs.length c, .slice (some ⟨g', 0, none⟩) ys.length c'] W fun e W' => ∃ b : Bool, e = .returned (.bool b) ∧ ∃ q, W' = W.drewN q := by
  obtain ⟨n, hn⟩ : ∃ n, n = xs.length := ⟨_, rfl⟩
  have hm : n ≤ maxLen := by obtain ⟨_, _, _, a, b, _⟩ := h; omega
  have HC : Hid (∀ i, i < n → W.cell? ⟨g, i, none⟩ = some (.int .u32 (xs.getD i 0))) := fun i hi => h.cell i (by omega)
  have HC' : Hid (∀ i, i < n → W.cell? ⟨g', i, none⟩ = some (.int .u32 (ys.getD i 0))) := fun i hi => h'.cell i (by omega)
  rw [e, ← hn]
  clear h h' hn e
  unfold maxLen at hm
  go_enter Tryz.func55, Tryz.ntmps55
  go_wp2
  go_loopw [5] (fun i wr => ∃ k q : Nat, k ≤ n ∧ i = .int .i64 k ∧ wr = W.drewN q) (fun i _ => n - (intOf i).toNat)
  case atStart => exact ⟨0, 0, Nat.zero_le _, rfl, rfl⟩
  case round =>
    obtain ⟨k, q, hk, rfl, rfl⟩ := hrel
    by_cases hlt : k < n
    · have c1 := HC.out k hlt
      have c2 := HC'.out k hlt
      have hi : (k : Int) < (n : Int) := by omega
      generalize xs.getD k 0 = u at c1
      generalize ys.getD k 0 = v at c2
      cases hne : (u != v)
      · go_wp2
        go_quiet (fail)
        go_wp2
        go_roundw
        case rel => exact ⟨k + 1, _, by omega, by go_num, rfl⟩
        case measure => simp [intOf]; omega
      · go_wp2
        go_quiet (fail)
        go_wp2
        go_ret
        exact ⟨false, rfl, _, drewN_two _ _ _⟩
    · go_wp2
      go_ret
      exact ⟨true, rfl, _, rfl⟩
set_option maxHeartbeats 1000000 in
set_option maxRecDepth 100000 in
theorem core_some (W : World) (p p' : Pl) (L L' : LSt) (h : StAt W p L) (h' : StAt W p' L') (F : LFull L) (F' : LFull L') :
    Calls Tryz.prog 54 #[.agg #[.slice (some ⟨p.r, 0, none⟩) L.regs.length p.cr, .int .u32 L.pc, .int .i64 L.mode, .bool L.asleep, .slice (some ⟨p.c, 0, none⟩) L.csrs.length p.cc, .string L.ram, .slice (some ⟨p.k, 0, none⟩) L.clock.length p.ck, .slice (some ⟨p.p, 0, none⟩) L.prio.length p.cp, .int .u32 L.pend, .int .u32 L.served, .int .u32 L.level, .slice (some ⟨p.e, 0, none⟩) L.enable.length p.ce, .slice (some ⟨p.l, 0, none⟩) L.limit.length p.cl], .agg #[.slice (some ⟨p'.r, 0, none⟩) L'.regs.length p'.cr, .int .u32 L'.pc, .int .i64 L'.mode, .bool L'.asleep, .slice (some ⟨p'.c, 0, none⟩) L'.csrs.length p'.cc, .string L'.ram, .slice (some ⟨p'.k, 0, none⟩) L'.clock.length p'.ck, .slice (some ⟨p'.p, 0, none⟩) L'.prio.length p'.cp, .int .u32 L'.pend, .int .u32 L'.served, .int .u32 L'.level, .slice (some ⟨p'.e, 0, none⟩) L'.enable.length p'.ce, .slice (some ⟨p'.l, 0, none⟩) L'.limit.length p'.cl]] W fun e W' => ∃ b : Bool, e = .returned (.bool b) ∧ Below W.heap.size W W' := by
  have B0 := fun (o1 o2 : Obj) (q : Nat) => below_drawn (((Below.refl W.heap.size W).alloc (Nat.le_refl _) o1).alloc (by simp) o2) q
  have K : Hid (∀ o1 o2 q, StAt (((W.alloc o1).alloc o2).drewN q) p L) := fun o1 o2 q => h.below (B0 o1 o2 q)
  have K' : Hid (∀ o1 o2 q, StAt (((W.alloc o1).alloc o2).drewN q) p' L') := fun o1 o2 q => h'.below (B0 o1 o2 q)
  have KB : Hid (∀ o1 o2 q, Below W.heap.size W (((W.alloc o1).alloc o2).drewN q)) := B0
  have HF : Hid (LFull L ∧ LFull L') := ⟨F, F'⟩
  clear B0 h h' F F'
  go_enter Tryz.func54, Tryz.ntmps54
  go_wp2_with fail
  refine (words_some _ p.r p'.r p.cr p'.cr L.regs L'.regs (K.out _ _ 0).regs (K'.out _ _ 0).regs (by rw [HF.out.1.regs, HF.out.2.regs])).mono ?_
  rintro e w' ⟨r0, rfl, q0, rfl⟩
  cases r0
  · go_wp2
    go_ret
    exact ⟨_, rfl, KB.out _ _ _⟩
  · go_wp2
    go_ret
    exact ⟨_, rfl, KB.out _ _ _⟩
set_option maxHeartbeats 1000000 in
set_option maxRecDepth 100000 in
theorem devices_some (W : World) (p p' : Pl) (L L' : LSt) (h : StAt W p L) (h' : StAt W p' L') (F : LFull L) (F' : LFull L') :
    Calls Tryz.prog 53 #[.agg #[.slice (some ⟨p.r, 0, none⟩) L.regs.length p.cr, .int .u32 L.pc, .int .i64 L.mode, .bool L.asleep, .slice (some ⟨p.c, 0, none⟩) L.csrs.length p.cc, .string L.ram, .slice (some ⟨p.k, 0, none⟩) L.clock.length p.ck, .slice (some ⟨p.p, 0, none⟩) L.prio.length p.cp, .int .u32 L.pend, .int .u32 L.served, .int .u32 L.level, .slice (some ⟨p.e, 0, none⟩) L.enable.length p.ce, .slice (some ⟨p.l, 0, none⟩) L.limit.length p.cl], .agg #[.slice (some ⟨p'.r, 0, none⟩) L'.regs.length p'.cr, .int .u32 L'.pc, .int .i64 L'.mode, .bool L'.asleep, .slice (some ⟨p'.c, 0, none⟩) L'.csrs.length p'.cc, .string L'.ram, .slice (some ⟨p'.k, 0, none⟩) L'.clock.length p'.ck, .slice (some ⟨p'.p, 0, none⟩) L'.prio.length p'.cp, .int .u32 L'.pend, .int .u32 L'.served, .int .u32 L'.level, .slice (some ⟨p'.e, 0, none⟩) L'.enable.length p'.ce, .slice (some ⟨p'.l, 0, none⟩) L'.limit.length p'.cl]] W fun e W' => ∃ b : Bool, e = .returned (.bool b) ∧ Below W.heap.size W W' := by
  have B0 := fun (o1 o2 : Obj) (q : Nat) => below_drawn (((Below.refl W.heap.size W).alloc (Nat.le_refl _) o1).alloc (by simp) o2) q
  have K : Hid (∀ o1 o2 q, StAt (((W.alloc o1).alloc o2).drewN q) p L) := fun o1 o2 q => h.below (B0 o1 o2 q)
  have K' : Hid (∀ o1 o2 q, StAt (((W.alloc o1).alloc o2).drewN q) p' L') := fun o1 o2 q => h'.below (B0 o1 o2 q)
  have KB : Hid (∀ o1 o2 q, Below W.heap.size W (((W.alloc o1).alloc o2).drewN q)) := B0
  have HF : Hid (LFull L ∧ LFull L') := ⟨F, F'⟩
  clear B0 h h' F F'
  go_enter Tryz.func53, Tryz.ntmps53
  go_wp2_with fail
  refine (words_some _ p.k p'.k p.ck p'.ck L.clock L'.clock (K.out _ _ 0).clock (K'.out _ _ 0).clock (by rw [HF.out.1.clock, HF.out.2.clock])).mono ?_
  rintro e w' ⟨r0, rfl, q0, rfl⟩
  go_wp2_with fail
  refine (words_some _ p.p p'.p p.cp p'.cp L.prio L'.prio (K.out _ _ _).prio (K'.out _ _ _).prio (by rw [HF.out.1.prio, HF.out.2.prio])).mono ?_
  rintro e w' ⟨r1, rfl, q1, rfl⟩
  go_wp2_with fail
  refine (words_some _ p.e p'.e p.ce p'.ce L.enable L'.enable (K.out _ _ _).enable (K'.out _ _ _).enable (by rw [HF.out.1.enable, HF.out.2.enable])).mono ?_
  rintro e w' ⟨r2, rfl, q2, rfl⟩
  go_wp2_with fail
  refine (words_some _ p.l p'.l p.cl p'.cl L.limit L'.limit (K.out _ _ _).limit (K'.out _ _ _).limit (by rw [HF.out.1.limit, HF.out.2.limit])).mono ?_
  rintro e w' ⟨r3, rfl, q3, rfl⟩
  cases r0
  · go_wp2
    go_ret
    exact ⟨_, rfl, KB.out _ _ _⟩
  · cases r1
    · go_wp2
      go_ret
      exact ⟨_, rfl, KB.out _ _ _⟩
    · cases r2
      · go_wp2
        go_ret
        exact ⟨_, rfl, KB.out _ _ _⟩
      · cases r3
        · go_wp2
          go_ret
          exact ⟨_, rfl, KB.out _ _ _⟩
        · cases h_pend : (L.pend == L'.pend)
          · go_wp2
            go_ret
            exact ⟨_, rfl, KB.out _ _ _⟩
          · cases h_served : (L.served == L'.served)
            · go_wp2
              go_ret
              exact ⟨_, rfl, KB.out _ _ _⟩
            · go_wp2
              go_ret
              exact ⟨_, rfl, KB.out _ _ _⟩
end Go.Proofs.YteiideeechnekaaGreatDoor
