/-
  hartkeep's words, whole, core and devices, over states that lie in rows.
-/
import Derived.Test.YteiideeechnekaaCodeLook
namespace Go.Proofs.Yteiideeechnekaa
open Go.RowKit

theorem words_true (W : World) (g g' c c' : Nat) (xs : List Int) (h : RowAt W g c xs) (h' : RowAt W g' c' xs) :
    Calls Try.prog 32 #[.slice (some ⟨g, 0, none⟩) xs.length c, .slice (some ⟨g', 0, none⟩) xs.length c'] W fun e W' => e = .returned (.bool true) ∧ ∃ q, W' = W.drewN q := by
  obtain ⟨n, hn⟩ : ∃ n, n = xs.length := ⟨_, rfl⟩
  have hm : n ≤ maxLen := by obtain ⟨_, _, _, a, b, _⟩ := h; omega
  have HC : Hid (∀ i, i < n → W.cell? ⟨g, i, none⟩ = some (.int .u32 (xs.getD i 0))) := fun i hi => h.cell i (by omega)
  have HC' : Hid (∀ i, i < n → W.cell? ⟨g', i, none⟩ = some (.int .u32 (xs.getD i 0))) := fun i hi => h'.cell i (by omega)
  rw [← hn]
  clear h h' hn
  unfold maxLen at hm
  go_enter Try.func32, Try.ntmps32
  go_wp2
  go_loopw [5] (fun i wr => ∃ k q : Nat, k ≤ n ∧ i = .int .i64 k ∧ wr = W.drewN q) (fun i _ => n - (intOf i).toNat)
  case atStart => exact ⟨0, 0, Nat.zero_le _, rfl, rfl⟩
  case round =>
    obtain ⟨k, q, hk, rfl, rfl⟩ := hrel
    by_cases hlt : k < n
    · have c1 := HC.out k hlt
      have c2 := HC'.out k hlt
      have hi : (k : Int) < (n : Int) := by omega
      go_wp2
      go_quiet (fail)
      go_wp2
      go_roundw
      case rel => exact ⟨k + 1, _, by omega, by go_num, rfl⟩
      case measure => simp [intOf]; omega
    · go_wp2
      go_ret
      exact ⟨rfl, _, rfl⟩
/-- A state with as many of everything as there are. -/
structure LFull (L : LSt) : Prop where
  regs : L.regs.length = 32
  csrs : L.csrs.length = 19
  clock : L.clock.length = 3
  prio : L.prio.length = 8
  enable : L.enable.length = 2
  limit : L.limit.length = 2
  ram : L.ram.size ≤ 512
set_option maxHeartbeats 1000000 in
set_option maxRecDepth 100000 in
theorem whole_true (W : World) (p : Pl) (L : LSt) (F : LFull L) :
    Calls Try.prog 14 #[.agg #[.slice (some ⟨p.r, 0, none⟩) L.regs.length p.cr, .int .u32 L.pc, .int .i64 L.mode, .bool L.asleep, .slice (some ⟨p.c, 0, none⟩) L.csrs.length p.cc, .string L.ram, .slice (some ⟨p.k, 0, none⟩) L.clock.length p.ck, .slice (some ⟨p.p, 0, none⟩) L.prio.length p.cp, .int .u32 L.pend, .int .u32 L.served, .int .u32 L.level, .slice (some ⟨p.e, 0, none⟩) L.enable.length p.ce, .slice (some ⟨p.l, 0, none⟩) L.limit.length p.cl]] W fun e W' => e = .returned (.bool true) ∧ Below W.heap.size W W' := by
  obtain ⟨f1, f2, f3, f4, f5, f6, f7⟩ := F
  have f7' : (L.ram.size : Int) ≤ 512 := by omega
  clear f7
  go_enter Try.func14, Try.ntmps14
  go_wp2
  go_ret
  exact ⟨rfl, (Below.refl _ _).alloc (Nat.le_refl _) _⟩
set_option maxHeartbeats 1000000 in
set_option maxRecDepth 100000 in
theorem core_true (W : World) (p p' : Pl) (L L' : LSt) (h : StAt W p L) (h' : StAt W p' L') (e0 : L'.regs = L.regs) (e1 : L'.ram = L.ram) :
    Calls Try.prog 15 #[.agg #[.slice (some ⟨p.r, 0, none⟩) L.regs.length p.cr, .int .u32 L.pc, .int .i64 L.mode, .bool L.asleep, .slice (some ⟨p.c, 0, none⟩) L.csrs.length p.cc, .string L.ram, .slice (some ⟨p.k, 0, none⟩) L.clock.length p.ck, .slice (some ⟨p.p, 0, none⟩) L.prio.length p.cp, .int .u32 L.pend, .int .u32 L.served, .int .u32 L.level, .slice (some ⟨p.e, 0, none⟩) L.enable.length p.ce, .slice (some ⟨p.l, 0, none⟩) L.limit.length p.cl], .agg #[.slice (some ⟨p'.r, 0, none⟩) L'.regs.length p'.cr, .int .u32 L'.pc, .int .i64 L'.mode, .bool L'.asleep, .slice (some ⟨p'.c, 0, none⟩) L'.csrs.length p'.cc, .string L'.ram, .slice (some ⟨p'.k, 0, none⟩) L'.clock.length p'.ck, .slice (some ⟨p'.p, 0, none⟩) L'.prio.length p'.cp, .int .u32 L'.pend, .int .u32 L'.served, .int .u32 L'.level, .slice (some ⟨p'.e, 0, none⟩) L'.enable.length p'.ce, .slice (some ⟨p'.l, 0, none⟩) L'.limit.length p'.cl]] W fun e W' => e = .returned (.bool true) ∧ Below W.heap.size W W' := by
  have B0 := fun (o1 o2 : Obj) (q : Nat) => below_drawn (((Below.refl W.heap.size W).alloc (Nat.le_refl _) o1).alloc (by simp) o2) q
  have K : Hid (∀ o1 o2 q, StAt (((W.alloc o1).alloc o2).drewN q) p L) := fun o1 o2 q => h.below (B0 o1 o2 q)
  have K' : Hid (∀ o1 o2 q, StAt (((W.alloc o1).alloc o2).drewN q) p' L') := fun o1 o2 q => h'.below (B0 o1 o2 q)
  have KB : Hid (∀ o1 o2 q, Below W.heap.size W (((W.alloc o1).alloc o2).drewN q)) := B0
  have Rregs : Hid (∀ o1 o2 q, RowAt (((W.alloc o1).alloc o2).drewN q) p'.r p'.cr L.regs) := fun o1 o2 q => by rw [← e0]; exact (K'.out o1 o2 q).regs
  clear B0 h h' K'
  rw [e0, e1]
  go_enter Try.func15, Try.ntmps15
  go_wp2_with fail
  refine (words_true _ p.r p'.r p.cr p'.cr L.regs (K.out _ _ 0).regs (Rregs.out _ _ 0)).mono ?_
  rintro e w' ⟨rfl, q0, rfl⟩
  go_wp2
  go_ret
  exact ⟨rfl, KB.out _ _ _⟩
set_option maxHeartbeats 1000000 in
set_option maxRecDepth 100000 in
theorem devices_true (W : World) (p p' : Pl) (L L' : LSt) (h : StAt W p L) (h' : StAt W p' L') (e0 : L'.clock = L.clock) (e1 : L'.prio = L.prio) (e2 : L'.enable = L.enable) (e3 : L'.limit = L.limit) (e4 : L'.pend = L.pend) (e5 : L'.served = L.served) (e6 : L'.level = L.level) :
    Calls Try.prog 16 #[.agg #[.slice (some ⟨p.r, 0, none⟩) L.regs.length p.cr, .int .u32 L.pc, .int .i64 L.mode, .bool L.asleep, .slice (some ⟨p.c, 0, none⟩) L.csrs.length p.cc, .string L.ram, .slice (some ⟨p.k, 0, none⟩) L.clock.length p.ck, .slice (some ⟨p.p, 0, none⟩) L.prio.length p.cp, .int .u32 L.pend, .int .u32 L.served, .int .u32 L.level, .slice (some ⟨p.e, 0, none⟩) L.enable.length p.ce, .slice (some ⟨p.l, 0, none⟩) L.limit.length p.cl], .agg #[.slice (some ⟨p'.r, 0, none⟩) L'.regs.length p'.cr, .int .u32 L'.pc, .int .i64 L'.mode, .bool L'.asleep, .slice (some ⟨p'.c, 0, none⟩) L'.csrs.length p'.cc, .string L'.ram, .slice (some ⟨p'.k, 0, none⟩) L'.clock.length p'.ck, .slice (some ⟨p'.p, 0, none⟩) L'.prio.length p'.cp, .int .u32 L'.pend, .int .u32 L'.served, .int .u32 L'.level, .slice (some ⟨p'.e, 0, none⟩) L'.enable.length p'.ce, .slice (some ⟨p'.l, 0, none⟩) L'.limit.length p'.cl]] W fun e W' => e = .returned (.bool true) ∧ Below W.heap.size W W' := by
  have B0 := fun (o1 o2 : Obj) (q : Nat) => below_drawn (((Below.refl W.heap.size W).alloc (Nat.le_refl _) o1).alloc (by simp) o2) q
  have K : Hid (∀ o1 o2 q, StAt (((W.alloc o1).alloc o2).drewN q) p L) := fun o1 o2 q => h.below (B0 o1 o2 q)
  have K' : Hid (∀ o1 o2 q, StAt (((W.alloc o1).alloc o2).drewN q) p' L') := fun o1 o2 q => h'.below (B0 o1 o2 q)
  have KB : Hid (∀ o1 o2 q, Below W.heap.size W (((W.alloc o1).alloc o2).drewN q)) := B0
  have Rclock : Hid (∀ o1 o2 q, RowAt (((W.alloc o1).alloc o2).drewN q) p'.k p'.ck L.clock) := fun o1 o2 q => by rw [← e0]; exact (K'.out o1 o2 q).clock
  have Rprio : Hid (∀ o1 o2 q, RowAt (((W.alloc o1).alloc o2).drewN q) p'.p p'.cp L.prio) := fun o1 o2 q => by rw [← e1]; exact (K'.out o1 o2 q).prio
  have Renable : Hid (∀ o1 o2 q, RowAt (((W.alloc o1).alloc o2).drewN q) p'.e p'.ce L.enable) := fun o1 o2 q => by rw [← e2]; exact (K'.out o1 o2 q).enable
  have Rlimit : Hid (∀ o1 o2 q, RowAt (((W.alloc o1).alloc o2).drewN q) p'.l p'.cl L.limit) := fun o1 o2 q => by rw [← e3]; exact (K'.out o1 o2 q).limit
  clear B0 h h' K'
  rw [e0, e1, e2, e3, e4, e5, e6]
  go_enter Try.func16, Try.ntmps16
  go_wp2_with fail
  refine (words_true _ p.k p'.k p.ck p'.ck L.clock (K.out _ _ 0).clock (Rclock.out _ _ 0)).mono ?_
  rintro e w' ⟨rfl, q0, rfl⟩
  go_wp2_with fail
  refine (words_true _ p.p p'.p p.cp p'.cp L.prio (K.out _ _ _).prio (Rprio.out _ _ _)).mono ?_
  rintro e w' ⟨rfl, q1, rfl⟩
  go_wp2_with fail
  refine (words_true _ p.e p'.e p.ce p'.ce L.enable (K.out _ _ _).enable (Renable.out _ _ _)).mono ?_
  rintro e w' ⟨rfl, q2, rfl⟩
  go_wp2_with fail
  refine (words_true _ p.l p'.l p.cl p'.cl L.limit (K.out _ _ _).limit (Rlimit.out _ _ _)).mono ?_
  rintro e w' ⟨rfl, q3, rfl⟩
  go_wp2
  go_ret
  exact ⟨rfl, KB.out _ _ _⟩
theorem bytesOf_eq (l : List Int) : bytesOf l = ⟨(l.map fun n => UInt8.ofNat n.toNat).toArray⟩ := by
  have h : ∀ (l : List Int) (r : ByteArray), l.foldl (fun r n => r.push (UInt8.ofNat n.toNat)) r = ⟨(r.data.toList ++ l.map fun n => UInt8.ofNat n.toNat).toArray⟩ := by
    intro l
    induction l with
    | nil => intro r; simp
    | cons a l ih =>
      intro r
      rw [List.foldl_cons, ih]
      simp [ByteArray.push]
  unfold bytesOf
  rw [h l ByteArray.empty]
  rfl
theorem bytesOf_size (l : List Int) : (bytesOf l).size = l.length := by rw [bytesOf_eq]; simp [ByteArray.size]
theorem full_look {W : World} {x r : Nat} {c : CSt} (h : CodeAt W x r c) : LFull (lookC c) :=
  { regs := h.nregs, csrs := rfl, clock := rfl, prio := h.nprio, enable := rfl, limit := rfl, ram := (by show (bytesOf c.ram).size ≤ 512; rw [bytesOf_size]; exact h.bytes.2.1) }
end Go.Proofs.Yteiideeechnekaa
