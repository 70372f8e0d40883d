/-
  hartkeep.Kept: the walk.
-/
import Derived.Test.YteiideeechnekaaKeepMade
namespace Go.Proofs.Yteiideeechnekaa
open Go.RowKit

theorem bytesOf_eq (l : List Int) : bytesOf l = ⟨(l.map fun n => UInt8.ofNat n.toNat).toArray⟩ := by
  have h : ∀ (l : List Int) (r : ByteArray), l.foldl (fun r n => r.push (UInt8.ofNat n.toNat)) r = ⟨(r.data.toList ++ l.map fun n => UInt8.ofNat n.toNat).toArray⟩ := by
    intro l
    induction l with
    | nil => intro r; simp
    | cons a l ih =>
      intro r
      rw [List.foldl_cons, ih]
      simp [ByteArray.push]
  unfold bytesOf
  rw [h l ByteArray.empty]
  rfl
theorem bytesOf_size (l : List Int) : (bytesOf l).size = l.length := by rw [bytesOf_eq]; simp [ByteArray.size]
theorem bytesOf_extract (l k : List Int) (i j : Nat) (h : (l.drop i).take (j - i) = (k.drop i).take (j - i)) : (bytesOf l).extract i j = (bytesOf k).extract i j := by
  rw [bytesOf_eq, bytesOf_eq]
  apply ByteArray.ext
  simp only [ByteArray.data_extract, List.extract_toArray, List.extract_eq_take_drop, ← List.map_drop, ← List.map_take, h]
theorem stV_take (bs : List Int) (a : Nat) (v : Int) (w : Nat) : (stV bs a v w).take a = bs.take a := by
  induction w with
  | zero => rfl
  | succ w ih => rw [show stV bs a v (w + 1) = (stV bs a v w).set (a + w) (v / 256 ^ w % 256) from rfl, List.take_set_of_le (by omega), ih]
theorem stV_drop (bs : List Int) (a : Nat) (v : Int) (w n : Nat) (h : w ≤ n) : (stV bs a v w).drop (a + n) = bs.drop (a + n) := by
  induction w with
  | zero => rfl
  | succ w ih => rw [show stV bs a v (w + 1) = (stV bs a v w).set (a + w) (v / 256 ^ w % 256) from rfl, List.drop_set_of_lt (by omega), ih (by omega)]
theorem le_st_1 (bs : List Int) (a : Nat) (v : Int) (h : a + 1 ≤ bs.length) : leV (stV bs a v 1) a 1 = v % 256 := by
  simp [leV, stV, show a < bs.length by omega]
theorem le_st_2 (bs : List Int) (a : Nat) (v : Int) (h : a + 2 ≤ bs.length) : leV (stV bs a v 2) a 2 = v % 65536 := by
  simp [leV, stV, show a < bs.length by omega, show a + 1 < bs.length by omega]
  omega
theorem le_st_4 (bs : List Int) (a : Nat) (v : Int) (v0 : 0 ≤ v) (v1 : v < 4294967296) (h : a + 4 ≤ bs.length) : leV (stV bs a v 4) a 4 = v := by
  simp [leV, stV, show a < bs.length by omega, show a + 1 < bs.length by omega, show a + 2 < bs.length by omega, show a + 3 < bs.length by omega]
  omega
theorem and_mask (v : Int) (v0 : 0 ≤ v) (v1 : v < 4294967296) : bits .and .u32 v 255 = v % 256 ∧ bits .and .u32 v 65535 = v % 65536 ∧ bits .and .u32 v 4294967295 = v := by
  have e : ∀ j : Nat, ((v.toNat &&& (2 ^ j - 1) : Nat) : Int) = ((v.toNat % 2 ^ j : Nat) : Int) := fun j => by rw [Nat.and_two_pow_sub_one_eq_mod]
  refine ⟨?_, ?_, ?_⟩
  · rw [u32_and v 255 v0 v1 (by decide) (by decide)]; have := e 8; simp at this ⊢; omega
  · rw [u32_and v 65535 v0 v1 (by decide) (by decide)]; have := e 16; simp at this ⊢; omega
  · rw [u32_and v 4294967295 v0 v1 (by decide) (by decide)]; have := e 32; simp at this ⊢; omega
/-- A write outside the memory: the bytes stay, and what is there is a device's word. -/
theorem setD_ram (c : CSt) (a : Nat) (v : Int) : (setD c a v).1.ram = c.ram ∧ ((setD c a v).2 = true → 4096 ≤ a) := by
  unfold setD clkW
  by_cases c1 : a = 4096
  · subst c1; exact ⟨rfl, fun _ => by decide⟩
  by_cases c2 : a = 4100
  · subst c2; exact ⟨rfl, fun _ => by decide⟩
  by_cases c3 : a = 4104
  · subst c3; exact ⟨rfl, fun _ => by decide⟩
  rw [if_neg c1, if_neg c2, if_neg c3, if_neg (fun e => by cases e)]
  unfold linW
  by_cases d8224 : a = 8224
  · rw [if_pos d8224]; exact ⟨rfl, fun _ => by omega⟩
  rw [if_neg d8224]
  by_cases d8228 : a = 8228
  · rw [if_pos d8228]; exact ⟨rfl, fun _ => by omega⟩
  rw [if_neg d8228]
  by_cases d8232 : a = 8232
  · rw [if_pos d8232]; exact ⟨rfl, fun _ => by omega⟩
  rw [if_neg d8232]
  by_cases d8240 : a = 8240
  · rw [if_pos d8240]; exact ⟨rfl, fun _ => by omega⟩
  rw [if_neg d8240]
  by_cases d8248 : a = 8248
  · rw [if_pos d8248]; exact ⟨rfl, fun _ => by omega⟩
  rw [if_neg d8248]
  by_cases d8244 : a = 8244
  · rw [if_pos d8244]; exact ⟨by show (complC c _ v).ram = c.ram; unfold complC; split <;> rfl, fun _ => by omega⟩
  rw [if_neg d8244]
  by_cases d8252 : a = 8252
  · rw [if_pos d8252]; exact ⟨by show (complC c _ v).ram = c.ram; unfold complC; split <;> rfl, fun _ => by omega⟩
  rw [if_neg d8252]
  by_cases hp : prC a
  · rw [if_pos hp]
    refine ⟨?_, fun _ => by unfold prC at hp; omega⟩
    show (if a = 8192 then c else _ : CSt).ram = c.ram
    split <;> rfl
  rw [if_neg hp]
  exact ⟨rfl, fun e => by cases e⟩
theorem klook (c : CSt) : ∃ L : LSt, L.ram = bytesOf c.ram ∧ ∀ (W : World) (x r : Nat), CodeAt W x r c → Calls Try.prog 9 #[.pointer (some ⟨x, 0, none⟩)] W fun e W'' => ∃ p : Pl, e = .returned (.agg #[.slice (some ⟨p.r, 0, none⟩) L.regs.length p.cr, .int .u32 L.pc, .int .i64 L.mode, .bool L.asleep, .slice (some ⟨p.c, 0, none⟩) L.csrs.length p.cc, .string L.ram, .slice (some ⟨p.k, 0, none⟩) L.clock.length p.ck, .slice (some ⟨p.p, 0, none⟩) L.prio.length p.cp, .int .u32 L.pend, .int .u32 L.served, .int .u32 L.level, .slice (some ⟨p.e, 0, none⟩) L.enable.length p.ce, .slice (some ⟨p.l, 0, none⟩) L.limit.length p.cl]) ∧ Below W.heap.size W W'' :=
  ⟨lookC c, rfl, fun W x r h => (look_any W x r c h).mono (fun _ _ ⟨p, he, _, _, hb⟩ => ⟨p, he, hb⟩)⟩
set_option maxHeartbeats 4000000 in
set_option maxRecDepth 100000 in
theorem kept_8 (W : World) (size : Int) (img : ByteArray) (a : Nat) (ha : a < 4294967296) (v : Int) (v0 : 0 ≤ v) (v1 : v < 4294967296) (width : Int) (hw : bits .and .i64 width 3 = 3) :
    Calls Try.prog 4 #[.int .i64 size, .string img, .int .u32 a, .int .u32 v, .int .i64 width] W fun e W' => e = .returned (.bool true) ∧ Below W.heap.size W W' := by
  have HM := kmade_any W size img
  go_enter Try.func4, Try.ntmps4
  go_wp2_with fail
  refine HM.mono ?_
  rintro e w0 ⟨x, rfl, r, n, im, K⟩
  have HK : Hid (KNew W w0 x r n im) := K
  obtain ⟨l, hl⟩ : ∃ l, l = (newC n im).ram := ⟨_, rfl⟩
  have ln : l.length = n := by rw [hl]; exact ramOf_len n im K.im
  have n5 := K.n5
  obtain ⟨L1, hL1, L1c⟩ := klook (newC n im)
  have HL1 : Hid (∀ (W : World) (x r : Nat), CodeAt W x r (newC n im) → Calls Try.prog 9 #[.pointer (some ⟨x, 0, none⟩)] W fun e W'' => ∃ p : Pl, e = .returned (.agg #[.slice (some ⟨p.r, 0, none⟩) L1.regs.length p.cr, .int .u32 L1.pc, .int .i64 L1.mode, .bool L1.asleep, .slice (some ⟨p.c, 0, none⟩) L1.csrs.length p.cc, .string L1.ram, .slice (some ⟨p.k, 0, none⟩) L1.clock.length p.ck, .slice (some ⟨p.p, 0, none⟩) L1.prio.length p.cp, .int .u32 L1.pend, .int .u32 L1.served, .int .u32 L1.level, .slice (some ⟨p.e, 0, none⟩) L1.enable.length p.ce, .slice (some ⟨p.l, 0, none⟩) L1.limit.length p.cl]) ∧ Below W.heap.size W W'') := L1c
  obtain ⟨c1, ok, hD⟩ : ∃ c1 ok, writeC (newC n im) a 8 v = (c1, ok) := ⟨_, _, rfl⟩
  have HWr : Hid (∀ w, CodeAt w x r (newC n im) → Calls Try.prog 10 #[.pointer (some ⟨x, 0, none⟩), .int .u32 a, .int .i64 8, .int .u32 v] w fun e W' => e = .returned (.bool ok) ∧ CodeAt W' x r c1 ∧ Offs [x, r] w W') := fun w h => by
    have := cwrite_any w x r _ h K.ne a ha 8 v v0 v1
    rw [hD] at this
    exact this
  obtain ⟨L2, hL2, L2c⟩ := klook c1
  have HL2 : Hid (∀ (W : World) (x r : Nat), CodeAt W x r c1 → Calls Try.prog 9 #[.pointer (some ⟨x, 0, none⟩)] W fun e W'' => ∃ p : Pl, e = .returned (.agg #[.slice (some ⟨p.r, 0, none⟩) L2.regs.length p.cr, .int .u32 L2.pc, .int .i64 L2.mode, .bool L2.asleep, .slice (some ⟨p.c, 0, none⟩) L2.csrs.length p.cc, .string L2.ram, .slice (some ⟨p.k, 0, none⟩) L2.clock.length p.ck, .slice (some ⟨p.p, 0, none⟩) L2.prio.length p.cp, .int .u32 L2.pend, .int .u32 L2.served, .int .u32 L2.level, .slice (some ⟨p.e, 0, none⟩) L2.enable.length p.ce, .slice (some ⟨p.l, 0, none⟩) L2.limit.length p.cl]) ∧ Below W.heap.size W W'') := L2c
  rw [← hl] at hL1
  have e := hD
  unfold writeC at e
  rw [if_neg (by decide), if_neg (by decide), if_neg (by decide)] at e
  obtain ⟨rfl, rfl⟩ : newC n im = c1 ∧ false = ok := by injection e with e1 e2; exact ⟨e1, e2⟩
  rw [← hl] at hL2
  clear K L1c L2c hD ha v0 v1 HM e hl
  go_wp2_with fail
  refine (HL1.out _ x r HK.out.c).mono ?_
  rintro e w1 ⟨p1, rfl, b1⟩
  have s1 := b1.size
  have HC1 : Hid (∀ o, CodeAt (w1.alloc o) x r (newC n im)) := fun o => (HK.out.c.below b1 HK.out.c.lt.1 HK.out.c.lt.2).below ((Below.refl w1.heap.size w1).alloc (Nat.le_refl _) o) (Nat.lt_of_lt_of_le HK.out.c.lt.1 s1) (Nat.lt_of_lt_of_le HK.out.c.lt.2 s1)
  have HX : Hid (w1.heap.size ∉ [x, r]) := fun e => by have := HK.out.c.lt; simp at e; omega
  have B1 : Hid (∀ o, Below W.heap.size W (w1.alloc o)) := fun o => (HK.out.bel.trans (b1.mono HK.out.bel.size)).alloc (Nat.le_trans HK.out.bel.size s1) o
  clear b1 s1
  go_wp2_with fail
  refine (HWr.out _ (HC1.out _)).mono ?_
  rintro e w2 ⟨rfl, h2, o2⟩
  have d1 := box_kept HX.out o2 5
  simp at d1
  have lt2 : w1.heap.size < w2.heap.size := by have := o2.size; simp at this; omega
  have B2 : Hid (Below W.heap.size W w2) := (B1.out _).trans (o2.below (fun k hk => by have := HK.out.wx; have := HK.out.wr; simp at hk; rcases hk with rfl | rfl <;> omega) (B1.out _).size)
  have H2 : Hid (CodeAt w2 x r (newC n im)) := h2
  clear h2 o2 B1 HC1
  go_wp2_with fail
  refine (HL2.out _ x r H2.out).mono ?_
  rintro e w3 ⟨p2, rfl, b3⟩
  have d3 : ∀ o, (w3.alloc o).cell? ⟨w1.heap.size, 5, none⟩ = some (.string (bytesOf l)) := fun o => ((alloc_cell w3 w1.heap.size (by have := b3.size; omega)).1 o 5).trans (((bcell b3).1 _ 5 lt2).trans d1)
  have B3 : Hid (Below W.heap.size W w3) := B2.out.trans (b3.mono B2.out.size)
  have C3 : Hid (∀ o, CodeAt (w3.alloc o) x r (newC n im)) := fun o => (H2.out.below b3 H2.out.lt.1 H2.out.lt.2).below ((Below.refl w3.heap.size w3).alloc (Nat.le_refl _) o) (Nat.lt_of_lt_of_le H2.out.lt.1 b3.size) (Nat.lt_of_lt_of_le H2.out.lt.2 b3.size)
  have S3 : Hid (w2.heap.size ≤ w3.heap.size ∧ w1.heap.size < w2.heap.size) := ⟨b3.size, lt2⟩
  clear b3 d1 lt2
  go_wp2
  go_ret
  exact ⟨rfl, B3.out.alloc (B3.out.size) _⟩
set_option maxHeartbeats 4000000 in
set_option maxRecDepth 100000 in
theorem kept_1 (W : World) (size : Int) (img : ByteArray) (a : Nat) (ha : a < 4294967296) (v : Int) (v0 : 0 ≤ v) (v1 : v < 4294967296) (width : Int) (hw : bits .and .i64 width 3 = 0) :
    Calls Try.prog 4 #[.int .i64 size, .string img, .int .u32 a, .int .u32 v, .int .i64 width] W fun e W' => e = .returned (.bool true) ∧ Below W.heap.size W W' := by
  have HM := kmade_any W size img
  go_enter Try.func4, Try.ntmps4
  go_wp2_with fail
  refine HM.mono ?_
  rintro e w0 ⟨x, rfl, r, n, im, K⟩
  have HK : Hid (KNew W w0 x r n im) := K
  obtain ⟨l, hl⟩ : ∃ l, l = (newC n im).ram := ⟨_, rfl⟩
  have ln : l.length = n := by rw [hl]; exact ramOf_len n im K.im
  have n5 := K.n5
  obtain ⟨L1, hL1, L1c⟩ := klook (newC n im)
  have HL1 : Hid (∀ (W : World) (x r : Nat), CodeAt W x r (newC n im) → Calls Try.prog 9 #[.pointer (some ⟨x, 0, none⟩)] W fun e W'' => ∃ p : Pl, e = .returned (.agg #[.slice (some ⟨p.r, 0, none⟩) L1.regs.length p.cr, .int .u32 L1.pc, .int .i64 L1.mode, .bool L1.asleep, .slice (some ⟨p.c, 0, none⟩) L1.csrs.length p.cc, .string L1.ram, .slice (some ⟨p.k, 0, none⟩) L1.clock.length p.ck, .slice (some ⟨p.p, 0, none⟩) L1.prio.length p.cp, .int .u32 L1.pend, .int .u32 L1.served, .int .u32 L1.level, .slice (some ⟨p.e, 0, none⟩) L1.enable.length p.ce, .slice (some ⟨p.l, 0, none⟩) L1.limit.length p.cl]) ∧ Below W.heap.size W W'') := L1c
  obtain ⟨c1, ok, hD⟩ : ∃ c1 ok, writeC (newC n im) a 1 v = (c1, ok) := ⟨_, _, rfl⟩
  have HWr : Hid (∀ w, CodeAt w x r (newC n im) → Calls Try.prog 10 #[.pointer (some ⟨x, 0, none⟩), .int .u32 a, .int .i64 1, .int .u32 v] w fun e W' => e = .returned (.bool ok) ∧ CodeAt W' x r c1 ∧ Offs [x, r] w W') := fun w h => by
    have := cwrite_any w x r _ h K.ne a ha 1 v v0 v1
    rw [hD] at this
    exact this
  obtain ⟨L2, hL2, L2c⟩ := klook c1
  have HL2 : Hid (∀ (W : World) (x r : Nat), CodeAt W x r c1 → Calls Try.prog 9 #[.pointer (some ⟨x, 0, none⟩)] W fun e W'' => ∃ p : Pl, e = .returned (.agg #[.slice (some ⟨p.r, 0, none⟩) L2.regs.length p.cr, .int .u32 L2.pc, .int .i64 L2.mode, .bool L2.asleep, .slice (some ⟨p.c, 0, none⟩) L2.csrs.length p.cc, .string L2.ram, .slice (some ⟨p.k, 0, none⟩) L2.clock.length p.ck, .slice (some ⟨p.p, 0, none⟩) L2.prio.length p.cp, .int .u32 L2.pend, .int .u32 L2.served, .int .u32 L2.level, .slice (some ⟨p.e, 0, none⟩) L2.enable.length p.ce, .slice (some ⟨p.l, 0, none⟩) L2.limit.length p.cl]) ∧ Below W.heap.size W W'') := L2c
  rw [← hl] at hL1
  by_cases hin : a + 1 ≤ n
  · have e := hD
    unfold writeC at e
    rw [if_pos rfl, if_pos (by rw [← hl, ln]; exact hin), ← hl] at e
    obtain ⟨rfl, rfl⟩ : { newC n im with ram := stV l a v 1 } = c1 ∧ true = ok := by injection e with e1 e2; exact ⟨e1, e2⟩
    have hL2' : L2.ram = bytesOf (stV l a v 1) := hL2
    have z1 : (bytesOf l).size = n := (bytesOf_size l).trans ln
    have z2 : (bytesOf (stV l a v 1)).size = n := (bytesOf_size _).trans ((stV_len l a v 1).trans ln)
    have E1 : (bytesOf l).extract 0 a = (bytesOf (stV l a v 1)).extract 0 a := bytesOf_extract _ _ _ _ (by simp [stV_take])
    have E2 : (bytesOf l).extract (a + 1) n = (bytesOf (stV l a v 1)).extract (a + 1) n := bytesOf_extract _ _ _ _ (by rw [stV_drop l a v 1 1 (Nat.le_refl _)])
    have hu : bits .and .u32 v 255 = leV (stV l a v 1) a 1 := by rw [le_st_1 l a v (by omega)]; exact (and_mask v v0 v1).1
    have hR : readC { newC n im with ram := stV l a v 1 } a 1 = ({ newC n im with ram := stV l a v 1 }, leV (stV l a v 1) a 1, true) := by
      unfold readC
      rw [if_pos rfl, if_pos (by show a + 1 ≤ (stV l a v 1).length; rw [stV_len, ln]; exact hin)]
    have HRd : Hid (∀ w', CodeAt w' x r { newC n im with ram := stV l a v 1 } → Calls Try.prog 11 #[.pointer (some ⟨x, 0, none⟩), .int .u32 a, .int .i64 1] w' fun e W' => e = .returned (.tuple #[.int .u32 (leV (stV l a v 1) a 1), .bool true]) ∧ CodeAt W' x r { newC n im with ram := stV l a v 1 } ∧ Offs [x, r] w' W') := fun w' h' => by
      have := cread_any w' x r _ h' K.ne a ha 1
      rw [hR] at this
      exact this
    have hin' : (a : Int) + 1 ≤ n := by omega
    have HA : Hid (a < 4294967296) := ha
    clear K L1c L2c hD ha v0 v1 HM e hl hL2 hR hin
    go_wp2_with fail
    refine (HL1.out _ x r HK.out.c).mono ?_
    rintro e w1 ⟨p1, rfl, b1⟩
    have s1 := b1.size
    have HC1 : Hid (∀ o, CodeAt (w1.alloc o) x r (newC n im)) := fun o => (HK.out.c.below b1 HK.out.c.lt.1 HK.out.c.lt.2).below ((Below.refl w1.heap.size w1).alloc (Nat.le_refl _) o) (Nat.lt_of_lt_of_le HK.out.c.lt.1 s1) (Nat.lt_of_lt_of_le HK.out.c.lt.2 s1)
    have HX : Hid (w1.heap.size ∉ [x, r]) := fun e => by have := HK.out.c.lt; simp at e; omega
    have B1 : Hid (∀ o, Below W.heap.size W (w1.alloc o)) := fun o => (HK.out.bel.trans (b1.mono HK.out.bel.size)).alloc (Nat.le_trans HK.out.bel.size s1) o
    clear b1 s1
    go_wp2_with fail
    refine (HWr.out _ (HC1.out _)).mono ?_
    rintro e w2 ⟨rfl, h2, o2⟩
    have d1 := box_kept HX.out o2 5
    simp at d1
    have lt2 : w1.heap.size < w2.heap.size := by have := o2.size; simp at this; omega
    have B2 : Hid (Below W.heap.size W w2) := (B1.out _).trans (o2.below (fun k hk => by have := HK.out.wx; have := HK.out.wr; simp at hk; rcases hk with rfl | rfl <;> omega) (B1.out _).size)
    have H2 : Hid (CodeAt w2 x r ({ newC n im with ram := stV l a v 1 })) := h2
    clear h2 o2 B1 HC1
    go_wp2_with fail
    refine (HL2.out _ x r H2.out).mono ?_
    rintro e w3 ⟨p2, rfl, b3⟩
    have d3 : ∀ o, (w3.alloc o).cell? ⟨w1.heap.size, 5, none⟩ = some (.string (bytesOf l)) := fun o => ((alloc_cell w3 w1.heap.size (by have := b3.size; omega)).1 o 5).trans (((bcell b3).1 _ 5 lt2).trans d1)
    have B3 : Hid (Below W.heap.size W w3) := B2.out.trans (b3.mono B2.out.size)
    have C3 : Hid (∀ o, CodeAt (w3.alloc o) x r ({ newC n im with ram := stV l a v 1 })) := fun o => (H2.out.below b3 H2.out.lt.1 H2.out.lt.2).below ((Below.refl w3.heap.size w3).alloc (Nat.le_refl _) o) (Nat.lt_of_lt_of_le H2.out.lt.1 b3.size) (Nat.lt_of_lt_of_le H2.out.lt.2 b3.size)
    have S3 : Hid (w2.heap.size ≤ w3.heap.size ∧ w1.heap.size < w2.heap.size) := ⟨b3.size, lt2⟩
    clear b3 d1 lt2
    go_wp2_with fail
    refine (HRd.out _ (C3.out _)).mono ?_
    rintro e w4 ⟨rfl, h4, o4⟩
    have g1 : w4.cell? ⟨w1.heap.size, 5, none⟩ = some (.string (bytesOf l)) := (World.cell?_of_block (o4.block w1.heap.size (by have := S3.out; simp; omega) HX.out)).trans (d3 _)
    have HX4 : w3.heap.size ∉ [x, r] := fun e => by have := H2.out.lt; have := S3.out; simp at e; omega
    have g2 := box_kept HX4 o4 5
    simp at g2
    have B4 : Hid (Below W.heap.size W w4) := (B3.out.alloc B3.out.size _).trans (o4.below (fun k hk => by have := HK.out.wx; have := HK.out.wr; simp at hk; rcases hk with rfl | rfl <;> omega) (B3.out.alloc B3.out.size _).size)
    clear h4 o4 HX4 d3 C3 H2 S3 HRd HX HL1 HL2 HWr
    generalize leV (stV l a v 1) a 1 = u at hu ⊢
    generalize bytesOf (stV l a v 1) = R2 at z2 E1 E2 g2 hL2' ⊢
    generalize bytesOf l = R1 at z1 E1 E2 g1 hL1 ⊢
    go_wp2_with fail
    go_quiet (fail)
    go_wp2
    go_ret
    exact ⟨rfl, below_drawn B4.out _⟩
  · have e := hD
    unfold writeC at e
    rw [if_pos rfl, if_neg (by rw [← hl, ln]; exact hin)] at e
    obtain ⟨rfl, rfl⟩ : newC n im = c1 ∧ false = ok := by injection e with e1 e2; exact ⟨e1, e2⟩
    rw [← hl] at hL2
    have z1 : (bytesOf l).size = n := (bytesOf_size l).trans ln
    have hin' : (n : Int) < (a : Int) + 1 := by omega
    have ha' : (a : Int) < 4294967296 := by omega
    clear K L1c L2c hD ha v0 v1 HM e hl hin
    go_wp2_with fail
    refine (HL1.out _ x r HK.out.c).mono ?_
    rintro e w1 ⟨p1, rfl, b1⟩
    have s1 := b1.size
    have HC1 : Hid (∀ o, CodeAt (w1.alloc o) x r (newC n im)) := fun o => (HK.out.c.below b1 HK.out.c.lt.1 HK.out.c.lt.2).below ((Below.refl w1.heap.size w1).alloc (Nat.le_refl _) o) (Nat.lt_of_lt_of_le HK.out.c.lt.1 s1) (Nat.lt_of_lt_of_le HK.out.c.lt.2 s1)
    have HX : Hid (w1.heap.size ∉ [x, r]) := fun e => by have := HK.out.c.lt; simp at e; omega
    have B1 : Hid (∀ o, Below W.heap.size W (w1.alloc o)) := fun o => (HK.out.bel.trans (b1.mono HK.out.bel.size)).alloc (Nat.le_trans HK.out.bel.size s1) o
    clear b1 s1
    go_wp2_with fail
    refine (HWr.out _ (HC1.out _)).mono ?_
    rintro e w2 ⟨rfl, h2, o2⟩
    have d1 := box_kept HX.out o2 5
    simp at d1
    have lt2 : w1.heap.size < w2.heap.size := by have := o2.size; simp at this; omega
    have B2 : Hid (Below W.heap.size W w2) := (B1.out _).trans (o2.below (fun k hk => by have := HK.out.wx; have := HK.out.wr; simp at hk; rcases hk with rfl | rfl <;> omega) (B1.out _).size)
    have H2 : Hid (CodeAt w2 x r (newC n im)) := h2
    clear h2 o2 B1 HC1
    go_wp2_with fail
    refine (HL2.out _ x r H2.out).mono ?_
    rintro e w3 ⟨p2, rfl, b3⟩
    have d3 : ∀ o, (w3.alloc o).cell? ⟨w1.heap.size, 5, none⟩ = some (.string (bytesOf l)) := fun o => ((alloc_cell w3 w1.heap.size (by have := b3.size; omega)).1 o 5).trans (((bcell b3).1 _ 5 lt2).trans d1)
    have B3 : Hid (Below W.heap.size W w3) := B2.out.trans (b3.mono B2.out.size)
    have C3 : Hid (∀ o, CodeAt (w3.alloc o) x r (newC n im)) := fun o => (H2.out.below b3 H2.out.lt.1 H2.out.lt.2).below ((Below.refl w3.heap.size w3).alloc (Nat.le_refl _) o) (Nat.lt_of_lt_of_le H2.out.lt.1 b3.size) (Nat.lt_of_lt_of_le H2.out.lt.2 b3.size)
    have S3 : Hid (w2.heap.size ≤ w3.heap.size ∧ w1.heap.size < w2.heap.size) := ⟨b3.size, lt2⟩
    clear b3 d1 lt2
    generalize bytesOf l = R at z1 d3 hL2 hL1
    go_wp2
    go_ret
    exact ⟨rfl, B3.out.alloc (B3.out.size) _⟩
set_option maxHeartbeats 4000000 in
set_option maxRecDepth 100000 in
theorem kept_2 (W : World) (size : Int) (img : ByteArray) (a : Nat) (ha : a < 4294967296) (v : Int) (v0 : 0 ≤ v) (v1 : v < 4294967296) (width : Int) (hw : bits .and .i64 width 3 = 1) :
    Calls Try.prog 4 #[.int .i64 size, .string img, .int .u32 a, .int .u32 v, .int .i64 width] W fun e W' => e = .returned (.bool true) ∧ Below W.heap.size W W' := by
  have HM := kmade_any W size img
  go_enter Try.func4, Try.ntmps4
  go_wp2_with fail
  refine HM.mono ?_
  rintro e w0 ⟨x, rfl, r, n, im, K⟩
  have HK : Hid (KNew W w0 x r n im) := K
  obtain ⟨l, hl⟩ : ∃ l, l = (newC n im).ram := ⟨_, rfl⟩
  have ln : l.length = n := by rw [hl]; exact ramOf_len n im K.im
  have n5 := K.n5
  obtain ⟨L1, hL1, L1c⟩ := klook (newC n im)
  have HL1 : Hid (∀ (W : World) (x r : Nat), CodeAt W x r (newC n im) → Calls Try.prog 9 #[.pointer (some ⟨x, 0, none⟩)] W fun e W'' => ∃ p : Pl, e = .returned (.agg #[.slice (some ⟨p.r, 0, none⟩) L1.regs.length p.cr, .int .u32 L1.pc, .int .i64 L1.mode, .bool L1.asleep, .slice (some ⟨p.c, 0, none⟩) L1.csrs.length p.cc, .string L1.ram, .slice (some ⟨p.k, 0, none⟩) L1.clock.length p.ck, .slice (some ⟨p.p, 0, none⟩) L1.prio.length p.cp, .int .u32 L1.pend, .int .u32 L1.served, .int .u32 L1.level, .slice (some ⟨p.e, 0, none⟩) L1.enable.length p.ce, .slice (some ⟨p.l, 0, none⟩) L1.limit.length p.cl]) ∧ Below W.heap.size W W'') := L1c
  obtain ⟨c1, ok, hD⟩ : ∃ c1 ok, writeC (newC n im) a 2 v = (c1, ok) := ⟨_, _, rfl⟩
  have HWr : Hid (∀ w, CodeAt w x r (newC n im) → Calls Try.prog 10 #[.pointer (some ⟨x, 0, none⟩), .int .u32 a, .int .i64 2, .int .u32 v] w fun e W' => e = .returned (.bool ok) ∧ CodeAt W' x r c1 ∧ Offs [x, r] w W') := fun w h => by
    have := cwrite_any w x r _ h K.ne a ha 2 v v0 v1
    rw [hD] at this
    exact this
  obtain ⟨L2, hL2, L2c⟩ := klook c1
  have HL2 : Hid (∀ (W : World) (x r : Nat), CodeAt W x r c1 → Calls Try.prog 9 #[.pointer (some ⟨x, 0, none⟩)] W fun e W'' => ∃ p : Pl, e = .returned (.agg #[.slice (some ⟨p.r, 0, none⟩) L2.regs.length p.cr, .int .u32 L2.pc, .int .i64 L2.mode, .bool L2.asleep, .slice (some ⟨p.c, 0, none⟩) L2.csrs.length p.cc, .string L2.ram, .slice (some ⟨p.k, 0, none⟩) L2.clock.length p.ck, .slice (some ⟨p.p, 0, none⟩) L2.prio.length p.cp, .int .u32 L2.pend, .int .u32 L2.served, .int .u32 L2.level, .slice (some ⟨p.e, 0, none⟩) L2.enable.length p.ce, .slice (some ⟨p.l, 0, none⟩) L2.limit.length p.cl]) ∧ Below W.heap.size W W'') := L2c
  rw [← hl] at hL1
  by_cases hin : a + 2 ≤ n
  · have e := hD
    unfold writeC at e
    rw [if_neg (by decide), if_pos rfl, if_pos (by rw [← hl, ln]; exact hin), ← hl] at e
    obtain ⟨rfl, rfl⟩ : { newC n im with ram := stV l a v 2 } = c1 ∧ true = ok := by injection e with e1 e2; exact ⟨e1, e2⟩
    have hL2' : L2.ram = bytesOf (stV l a v 2) := hL2
    have z1 : (bytesOf l).size = n := (bytesOf_size l).trans ln
    have z2 : (bytesOf (stV l a v 2)).size = n := (bytesOf_size _).trans ((stV_len l a v 2).trans ln)
    have E1 : (bytesOf l).extract 0 a = (bytesOf (stV l a v 2)).extract 0 a := bytesOf_extract _ _ _ _ (by simp [stV_take])
    have E2 : (bytesOf l).extract (a + 2) n = (bytesOf (stV l a v 2)).extract (a + 2) n := bytesOf_extract _ _ _ _ (by rw [stV_drop l a v 2 2 (Nat.le_refl _)])
    have hu : bits .and .u32 v 65535 = leV (stV l a v 2) a 2 := by rw [le_st_2 l a v (by omega)]; exact (and_mask v v0 v1).2.1
    have hR : readC { newC n im with ram := stV l a v 2 } a 2 = ({ newC n im with ram := stV l a v 2 }, leV (stV l a v 2) a 2, true) := by
      unfold readC
      rw [if_neg (by decide), if_pos rfl, if_pos (by show a + 2 ≤ (stV l a v 2).length; rw [stV_len, ln]; exact hin)]
    have HRd : Hid (∀ w', CodeAt w' x r { newC n im with ram := stV l a v 2 } → Calls Try.prog 11 #[.pointer (some ⟨x, 0, none⟩), .int .u32 a, .int .i64 2] w' fun e W' => e = .returned (.tuple #[.int .u32 (leV (stV l a v 2) a 2), .bool true]) ∧ CodeAt W' x r { newC n im with ram := stV l a v 2 } ∧ Offs [x, r] w' W') := fun w' h' => by
      have := cread_any w' x r _ h' K.ne a ha 2
      rw [hR] at this
      exact this
    have hin' : (a : Int) + 2 ≤ n := by omega
    have HA : Hid (a < 4294967296) := ha
    clear K L1c L2c hD ha v0 v1 HM e hl hL2 hR hin
    go_wp2_with fail
    refine (HL1.out _ x r HK.out.c).mono ?_
    rintro e w1 ⟨p1, rfl, b1⟩
    have s1 := b1.size
    have HC1 : Hid (∀ o, CodeAt (w1.alloc o) x r (newC n im)) := fun o => (HK.out.c.below b1 HK.out.c.lt.1 HK.out.c.lt.2).below ((Below.refl w1.heap.size w1).alloc (Nat.le_refl _) o) (Nat.lt_of_lt_of_le HK.out.c.lt.1 s1) (Nat.lt_of_lt_of_le HK.out.c.lt.2 s1)
    have HX : Hid (w1.heap.size ∉ [x, r]) := fun e => by have := HK.out.c.lt; simp at e; omega
    have B1 : Hid (∀ o, Below W.heap.size W (w1.alloc o)) := fun o => (HK.out.bel.trans (b1.mono HK.out.bel.size)).alloc (Nat.le_trans HK.out.bel.size s1) o
    clear b1 s1
    go_wp2_with fail
    refine (HWr.out _ (HC1.out _)).mono ?_
    rintro e w2 ⟨rfl, h2, o2⟩
    have d1 := box_kept HX.out o2 5
    simp at d1
    have lt2 : w1.heap.size < w2.heap.size := by have := o2.size; simp at this; omega
    have B2 : Hid (Below W.heap.size W w2) := (B1.out _).trans (o2.below (fun k hk => by have := HK.out.wx; have := HK.out.wr; simp at hk; rcases hk with rfl | rfl <;> omega) (B1.out _).size)
    have H2 : Hid (CodeAt w2 x r ({ newC n im with ram := stV l a v 2 })) := h2
    clear h2 o2 B1 HC1
    go_wp2_with fail
    refine (HL2.out _ x r H2.out).mono ?_
    rintro e w3 ⟨p2, rfl, b3⟩
    have d3 : ∀ o, (w3.alloc o).cell? ⟨w1.heap.size, 5, none⟩ = some (.string (bytesOf l)) := fun o => ((alloc_cell w3 w1.heap.size (by have := b3.size; omega)).1 o 5).trans (((bcell b3).1 _ 5 lt2).trans d1)
    have B3 : Hid (Below W.heap.size W w3) := B2.out.trans (b3.mono B2.out.size)
    have C3 : Hid (∀ o, CodeAt (w3.alloc o) x r ({ newC n im with ram := stV l a v 2 })) := fun o => (H2.out.below b3 H2.out.lt.1 H2.out.lt.2).below ((Below.refl w3.heap.size w3).alloc (Nat.le_refl _) o) (Nat.lt_of_lt_of_le H2.out.lt.1 b3.size) (Nat.lt_of_lt_of_le H2.out.lt.2 b3.size)
    have S3 : Hid (w2.heap.size ≤ w3.heap.size ∧ w1.heap.size < w2.heap.size) := ⟨b3.size, lt2⟩
    clear b3 d1 lt2
    go_wp2_with fail
    refine (HRd.out _ (C3.out _)).mono ?_
    rintro e w4 ⟨rfl, h4, o4⟩
    have g1 : w4.cell? ⟨w1.heap.size, 5, none⟩ = some (.string (bytesOf l)) := (World.cell?_of_block (o4.block w1.heap.size (by have := S3.out; simp; omega) HX.out)).trans (d3 _)
    have HX4 : w3.heap.size ∉ [x, r] := fun e => by have := H2.out.lt; have := S3.out; simp at e; omega
    have g2 := box_kept HX4 o4 5
    simp at g2
    have B4 : Hid (Below W.heap.size W w4) := (B3.out.alloc B3.out.size _).trans (o4.below (fun k hk => by have := HK.out.wx; have := HK.out.wr; simp at hk; rcases hk with rfl | rfl <;> omega) (B3.out.alloc B3.out.size _).size)
    clear h4 o4 HX4 d3 C3 H2 S3 HRd HX HL1 HL2 HWr
    generalize leV (stV l a v 2) a 2 = u at hu ⊢
    generalize bytesOf (stV l a v 2) = R2 at z2 E1 E2 g2 hL2' ⊢
    generalize bytesOf l = R1 at z1 E1 E2 g1 hL1 ⊢
    go_wp2_with fail
    go_quiet (fail)
    go_wp2
    go_ret
    exact ⟨rfl, below_drawn B4.out _⟩
  · have e := hD
    unfold writeC at e
    rw [if_neg (by decide), if_pos rfl, if_neg (by rw [← hl, ln]; exact hin)] at e
    obtain ⟨rfl, rfl⟩ : newC n im = c1 ∧ false = ok := by injection e with e1 e2; exact ⟨e1, e2⟩
    rw [← hl] at hL2
    have z1 : (bytesOf l).size = n := (bytesOf_size l).trans ln
    have hin' : (n : Int) < (a : Int) + 2 := by omega
    have ha' : (a : Int) < 4294967296 := by omega
    clear K L1c L2c hD ha v0 v1 HM e hl hin
    go_wp2_with fail
    refine (HL1.out _ x r HK.out.c).mono ?_
    rintro e w1 ⟨p1, rfl, b1⟩
    have s1 := b1.size
    have HC1 : Hid (∀ o, CodeAt (w1.alloc o) x r (newC n im)) := fun o => (HK.out.c.below b1 HK.out.c.lt.1 HK.out.c.lt.2).below ((Below.refl w1.heap.size w1).alloc (Nat.le_refl _) o) (Nat.lt_of_lt_of_le HK.out.c.lt.1 s1) (Nat.lt_of_lt_of_le HK.out.c.lt.2 s1)
    have HX : Hid (w1.heap.size ∉ [x, r]) := fun e => by have := HK.out.c.lt; simp at e; omega
    have B1 : Hid (∀ o, Below W.heap.size W (w1.alloc o)) := fun o => (HK.out.bel.trans (b1.mono HK.out.bel.size)).alloc (Nat.le_trans HK.out.bel.size s1) o
    clear b1 s1
    go_wp2_with fail
    refine (HWr.out _ (HC1.out _)).mono ?_
    rintro e w2 ⟨rfl, h2, o2⟩
    have d1 := box_kept HX.out o2 5
    simp at d1
    have lt2 : w1.heap.size < w2.heap.size := by have := o2.size; simp at this; omega
    have B2 : Hid (Below W.heap.size W w2) := (B1.out _).trans (o2.below (fun k hk => by have := HK.out.wx; have := HK.out.wr; simp at hk; rcases hk with rfl | rfl <;> omega) (B1.out _).size)
    have H2 : Hid (CodeAt w2 x r (newC n im)) := h2
    clear h2 o2 B1 HC1
    go_wp2_with fail
    refine (HL2.out _ x r H2.out).mono ?_
    rintro e w3 ⟨p2, rfl, b3⟩
    have d3 : ∀ o, (w3.alloc o).cell? ⟨w1.heap.size, 5, none⟩ = some (.string (bytesOf l)) := fun o => ((alloc_cell w3 w1.heap.size (by have := b3.size; omega)).1 o 5).trans (((bcell b3).1 _ 5 lt2).trans d1)
    have B3 : Hid (Below W.heap.size W w3) := B2.out.trans (b3.mono B2.out.size)
    have C3 : Hid (∀ o, CodeAt (w3.alloc o) x r (newC n im)) := fun o => (H2.out.below b3 H2.out.lt.1 H2.out.lt.2).below ((Below.refl w3.heap.size w3).alloc (Nat.le_refl _) o) (Nat.lt_of_lt_of_le H2.out.lt.1 b3.size) (Nat.lt_of_lt_of_le H2.out.lt.2 b3.size)
    have S3 : Hid (w2.heap.size ≤ w3.heap.size ∧ w1.heap.size < w2.heap.size) := ⟨b3.size, lt2⟩
    clear b3 d1 lt2
    generalize bytesOf l = R at z1 d3 hL2 hL1
    go_wp2
    go_ret
    exact ⟨rfl, B3.out.alloc (B3.out.size) _⟩
set_option maxHeartbeats 4000000 in
set_option maxRecDepth 100000 in
theorem kept_4 (W : World) (size : Int) (img : ByteArray) (a : Nat) (ha : a < 4294967296) (v : Int) (v0 : 0 ≤ v) (v1 : v < 4294967296) (width : Int) (hw : bits .and .i64 width 3 = 2) :
    Calls Try.prog 4 #[.int .i64 size, .string img, .int .u32 a, .int .u32 v, .int .i64 width] W fun e W' => e = .returned (.bool true) ∧ Below W.heap.size W W' := by
  have HM := kmade_any W size img
  go_enter Try.func4, Try.ntmps4
  go_wp2_with fail
  refine HM.mono ?_
  rintro e w0 ⟨x, rfl, r, n, im, K⟩
  have HK : Hid (KNew W w0 x r n im) := K
  obtain ⟨l, hl⟩ : ∃ l, l = (newC n im).ram := ⟨_, rfl⟩
  have ln : l.length = n := by rw [hl]; exact ramOf_len n im K.im
  have n5 := K.n5
  obtain ⟨L1, hL1, L1c⟩ := klook (newC n im)
  have HL1 : Hid (∀ (W : World) (x r : Nat), CodeAt W x r (newC n im) → Calls Try.prog 9 #[.pointer (some ⟨x, 0, none⟩)] W fun e W'' => ∃ p : Pl, e = .returned (.agg #[.slice (some ⟨p.r, 0, none⟩) L1.regs.length p.cr, .int .u32 L1.pc, .int .i64 L1.mode, .bool L1.asleep, .slice (some ⟨p.c, 0, none⟩) L1.csrs.length p.cc, .string L1.ram, .slice (some ⟨p.k, 0, none⟩) L1.clock.length p.ck, .slice (some ⟨p.p, 0, none⟩) L1.prio.length p.cp, .int .u32 L1.pend, .int .u32 L1.served, .int .u32 L1.level, .slice (some ⟨p.e, 0, none⟩) L1.enable.length p.ce, .slice (some ⟨p.l, 0, none⟩) L1.limit.length p.cl]) ∧ Below W.heap.size W W'') := L1c
  obtain ⟨c1, ok, hD⟩ : ∃ c1 ok, writeC (newC n im) a 4 v = (c1, ok) := ⟨_, _, rfl⟩
  have HWr : Hid (∀ w, CodeAt w x r (newC n im) → Calls Try.prog 10 #[.pointer (some ⟨x, 0, none⟩), .int .u32 a, .int .i64 4, .int .u32 v] w fun e W' => e = .returned (.bool ok) ∧ CodeAt W' x r c1 ∧ Offs [x, r] w W') := fun w h => by
    have := cwrite_any w x r _ h K.ne a ha 4 v v0 v1
    rw [hD] at this
    exact this
  obtain ⟨L2, hL2, L2c⟩ := klook c1
  have HL2 : Hid (∀ (W : World) (x r : Nat), CodeAt W x r c1 → Calls Try.prog 9 #[.pointer (some ⟨x, 0, none⟩)] W fun e W'' => ∃ p : Pl, e = .returned (.agg #[.slice (some ⟨p.r, 0, none⟩) L2.regs.length p.cr, .int .u32 L2.pc, .int .i64 L2.mode, .bool L2.asleep, .slice (some ⟨p.c, 0, none⟩) L2.csrs.length p.cc, .string L2.ram, .slice (some ⟨p.k, 0, none⟩) L2.clock.length p.ck, .slice (some ⟨p.p, 0, none⟩) L2.prio.length p.cp, .int .u32 L2.pend, .int .u32 L2.served, .int .u32 L2.level, .slice (some ⟨p.e, 0, none⟩) L2.enable.length p.ce, .slice (some ⟨p.l, 0, none⟩) L2.limit.length p.cl]) ∧ Below W.heap.size W W'') := L2c
  rw [← hl] at hL1
  by_cases hin : a + 4 ≤ n
  · have e := hD
    unfold writeC at e
    rw [if_neg (by decide), if_neg (by decide), if_pos rfl, if_pos (by rw [← hl, ln]; exact hin), ← hl] at e
    obtain ⟨rfl, rfl⟩ : { newC n im with ram := stV l a v 4 } = c1 ∧ true = ok := by injection e with e1 e2; exact ⟨e1, e2⟩
    have hL2' : L2.ram = bytesOf (stV l a v 4) := hL2
    have z1 : (bytesOf l).size = n := (bytesOf_size l).trans ln
    have z2 : (bytesOf (stV l a v 4)).size = n := (bytesOf_size _).trans ((stV_len l a v 4).trans ln)
    have E1 : (bytesOf l).extract 0 a = (bytesOf (stV l a v 4)).extract 0 a := bytesOf_extract _ _ _ _ (by simp [stV_take])
    have E2 : (bytesOf l).extract (a + 4) n = (bytesOf (stV l a v 4)).extract (a + 4) n := bytesOf_extract _ _ _ _ (by rw [stV_drop l a v 4 4 (Nat.le_refl _)])
    have hu : bits .and .u32 v 4294967295 = leV (stV l a v 4) a 4 := by rw [le_st_4 l a v v0 v1 (by omega)]; exact (and_mask v v0 v1).2.2
    have hR : readC { newC n im with ram := stV l a v 4 } a 4 = ({ newC n im with ram := stV l a v 4 }, leV (stV l a v 4) a 4, true) := by
      unfold readC
      rw [if_neg (by decide), if_neg (by decide), if_pos rfl, if_pos (by show a + 4 ≤ (stV l a v 4).length; rw [stV_len, ln]; exact hin)]
    have HRd : Hid (∀ w', CodeAt w' x r { newC n im with ram := stV l a v 4 } → Calls Try.prog 11 #[.pointer (some ⟨x, 0, none⟩), .int .u32 a, .int .i64 4] w' fun e W' => e = .returned (.tuple #[.int .u32 (leV (stV l a v 4) a 4), .bool true]) ∧ CodeAt W' x r { newC n im with ram := stV l a v 4 } ∧ Offs [x, r] w' W') := fun w' h' => by
      have := cread_any w' x r _ h' K.ne a ha 4
      rw [hR] at this
      exact this
    have hin' : (a : Int) + 4 ≤ n := by omega
    have HA : Hid (a < 4294967296) := ha
    clear K L1c L2c hD ha v0 v1 HM e hl hL2 hR hin
    go_wp2_with fail
    refine (HL1.out _ x r HK.out.c).mono ?_
    rintro e w1 ⟨p1, rfl, b1⟩
    have s1 := b1.size
    have HC1 : Hid (∀ o, CodeAt (w1.alloc o) x r (newC n im)) := fun o => (HK.out.c.below b1 HK.out.c.lt.1 HK.out.c.lt.2).below ((Below.refl w1.heap.size w1).alloc (Nat.le_refl _) o) (Nat.lt_of_lt_of_le HK.out.c.lt.1 s1) (Nat.lt_of_lt_of_le HK.out.c.lt.2 s1)
    have HX : Hid (w1.heap.size ∉ [x, r]) := fun e => by have := HK.out.c.lt; simp at e; omega
    have B1 : Hid (∀ o, Below W.heap.size W (w1.alloc o)) := fun o => (HK.out.bel.trans (b1.mono HK.out.bel.size)).alloc (Nat.le_trans HK.out.bel.size s1) o
    clear b1 s1
    go_wp2_with fail
    refine (HWr.out _ (HC1.out _)).mono ?_
    rintro e w2 ⟨rfl, h2, o2⟩
    have d1 := box_kept HX.out o2 5
    simp at d1
    have lt2 : w1.heap.size < w2.heap.size := by have := o2.size; simp at this; omega
    have B2 : Hid (Below W.heap.size W w2) := (B1.out _).trans (o2.below (fun k hk => by have := HK.out.wx; have := HK.out.wr; simp at hk; rcases hk with rfl | rfl <;> omega) (B1.out _).size)
    have H2 : Hid (CodeAt w2 x r ({ newC n im with ram := stV l a v 4 })) := h2
    clear h2 o2 B1 HC1
    go_wp2_with fail
    refine (HL2.out _ x r H2.out).mono ?_
    rintro e w3 ⟨p2, rfl, b3⟩
    have d3 : ∀ o, (w3.alloc o).cell? ⟨w1.heap.size, 5, none⟩ = some (.string (bytesOf l)) := fun o => ((alloc_cell w3 w1.heap.size (by have := b3.size; omega)).1 o 5).trans (((bcell b3).1 _ 5 lt2).trans d1)
    have B3 : Hid (Below W.heap.size W w3) := B2.out.trans (b3.mono B2.out.size)
    have C3 : Hid (∀ o, CodeAt (w3.alloc o) x r ({ newC n im with ram := stV l a v 4 })) := fun o => (H2.out.below b3 H2.out.lt.1 H2.out.lt.2).below ((Below.refl w3.heap.size w3).alloc (Nat.le_refl _) o) (Nat.lt_of_lt_of_le H2.out.lt.1 b3.size) (Nat.lt_of_lt_of_le H2.out.lt.2 b3.size)
    have S3 : Hid (w2.heap.size ≤ w3.heap.size ∧ w1.heap.size < w2.heap.size) := ⟨b3.size, lt2⟩
    clear b3 d1 lt2
    go_wp2_with fail
    refine (HRd.out _ (C3.out _)).mono ?_
    rintro e w4 ⟨rfl, h4, o4⟩
    have g1 : w4.cell? ⟨w1.heap.size, 5, none⟩ = some (.string (bytesOf l)) := (World.cell?_of_block (o4.block w1.heap.size (by have := S3.out; simp; omega) HX.out)).trans (d3 _)
    have HX4 : w3.heap.size ∉ [x, r] := fun e => by have := H2.out.lt; have := S3.out; simp at e; omega
    have g2 := box_kept HX4 o4 5
    simp at g2
    have B4 : Hid (Below W.heap.size W w4) := (B3.out.alloc B3.out.size _).trans (o4.below (fun k hk => by have := HK.out.wx; have := HK.out.wr; simp at hk; rcases hk with rfl | rfl <;> omega) (B3.out.alloc B3.out.size _).size)
    clear h4 o4 HX4 d3 C3 H2 S3 HRd HX HL1 HL2 HWr
    generalize leV (stV l a v 4) a 4 = u at hu ⊢
    generalize bytesOf (stV l a v 4) = R2 at z2 E1 E2 g2 hL2' ⊢
    generalize bytesOf l = R1 at z1 E1 E2 g1 hL1 ⊢
    go_wp2_with fail
    go_quiet (fail)
    go_wp2
    go_ret
    exact ⟨rfl, below_drawn B4.out _⟩
  · have e := hD
    unfold writeC at e
    rw [if_neg (by decide), if_neg (by decide), if_pos rfl, if_neg (by rw [← hl, ln]; exact hin)] at e
    have q := setD_ram (newC n im) a v
    rw [e] at q
    rw [q.1, ← hl] at hL2
    have h4k : ok = true → (4096 : Int) ≤ a := fun h => by have := q.2 h; omega
    have H4 : Hid (ok = true → (4096 : Int) ≤ a) := h4k
    clear q h4k
    have z1 : (bytesOf l).size = n := (bytesOf_size l).trans ln
    have hin' : (n : Int) < (a : Int) + 4 := by omega
    have ha' : (a : Int) < 4294967296 := by omega
    clear K L1c L2c hD ha v0 v1 HM e hl hin
    go_wp2_with fail
    refine (HL1.out _ x r HK.out.c).mono ?_
    rintro e w1 ⟨p1, rfl, b1⟩
    have s1 := b1.size
    have HC1 : Hid (∀ o, CodeAt (w1.alloc o) x r (newC n im)) := fun o => (HK.out.c.below b1 HK.out.c.lt.1 HK.out.c.lt.2).below ((Below.refl w1.heap.size w1).alloc (Nat.le_refl _) o) (Nat.lt_of_lt_of_le HK.out.c.lt.1 s1) (Nat.lt_of_lt_of_le HK.out.c.lt.2 s1)
    have HX : Hid (w1.heap.size ∉ [x, r]) := fun e => by have := HK.out.c.lt; simp at e; omega
    have B1 : Hid (∀ o, Below W.heap.size W (w1.alloc o)) := fun o => (HK.out.bel.trans (b1.mono HK.out.bel.size)).alloc (Nat.le_trans HK.out.bel.size s1) o
    clear b1 s1
    go_wp2_with fail
    refine (HWr.out _ (HC1.out _)).mono ?_
    rintro e w2 ⟨rfl, h2, o2⟩
    have d1 := box_kept HX.out o2 5
    simp at d1
    have lt2 : w1.heap.size < w2.heap.size := by have := o2.size; simp at this; omega
    have B2 : Hid (Below W.heap.size W w2) := (B1.out _).trans (o2.below (fun k hk => by have := HK.out.wx; have := HK.out.wr; simp at hk; rcases hk with rfl | rfl <;> omega) (B1.out _).size)
    have H2 : Hid (CodeAt w2 x r (c1)) := h2
    clear h2 o2 B1 HC1
    go_wp2_with fail
    refine (HL2.out _ x r H2.out).mono ?_
    rintro e w3 ⟨p2, rfl, b3⟩
    have d3 : ∀ o, (w3.alloc o).cell? ⟨w1.heap.size, 5, none⟩ = some (.string (bytesOf l)) := fun o => ((alloc_cell w3 w1.heap.size (by have := b3.size; omega)).1 o 5).trans (((bcell b3).1 _ 5 lt2).trans d1)
    have B3 : Hid (Below W.heap.size W w3) := B2.out.trans (b3.mono B2.out.size)
    have C3 : Hid (∀ o, CodeAt (w3.alloc o) x r (c1)) := fun o => (H2.out.below b3 H2.out.lt.1 H2.out.lt.2).below ((Below.refl w3.heap.size w3).alloc (Nat.le_refl _) o) (Nat.lt_of_lt_of_le H2.out.lt.1 b3.size) (Nat.lt_of_lt_of_le H2.out.lt.2 b3.size)
    have S3 : Hid (w2.heap.size ≤ w3.heap.size ∧ w1.heap.size < w2.heap.size) := ⟨b3.size, lt2⟩
    clear b3 d1 lt2
    generalize bytesOf l = R at z1 d3 hL2 hL1
    cases ok
    · go_wp2
      go_ret
      exact ⟨rfl, B3.out.alloc (B3.out.size) _⟩
    · have h4 := H4.out rfl
      go_wp2
      go_ret
      exact ⟨rfl, B3.out.alloc (B3.out.size) _⟩
theorem kept_any (W : World) (size : Int) (img : ByteArray) (a v : Int) (a0 : 0 ≤ a) (a1 : a < 4294967296) (v0 : 0 ≤ v) (v1 : v < 4294967296) (width : Int) :
    Calls Try.prog 4 #[.int .i64 size, .string img, .int .u32 a, .int .u32 v, .int .i64 width] W fun e W' => e = .returned (.bool true) ∧ Below W.heap.size W W' := by
  obtain ⟨m, rfl⟩ : ∃ m : Nat, a = m := ⟨a.toNat, by omega⟩
  have hw : bits .and .i64 width 3 = width % 4 := i64_mask width 2 3 (by decide) (by decide)
  have h4 : width % 4 = 0 ∨ width % 4 = 1 ∨ width % 4 = 2 ∨ width % 4 = 3 := by omega
  rcases h4 with h | h | h | h
  · exact kept_1 W size img m (by omega) v v0 v1 width (hw.trans h)
  · exact kept_2 W size img m (by omega) v v0 v1 width (hw.trans h)
  · exact kept_4 W size img m (by omega) v v0 v1 width (hw.trans h)
  · exact kept_8 W size img m (by omega) v v0 v1 width (hw.trans h)
end Go.Proofs.Yteiideeechnekaa
