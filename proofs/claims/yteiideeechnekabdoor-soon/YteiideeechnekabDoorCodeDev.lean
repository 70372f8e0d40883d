/-
  The code's devices.
-/
import Derived.Test.YteiideeechnekabDoorCodePut
namespace Go.Proofs.YteiideeechnekabDoor
open Go.RowKit

-- the code's devices
def claimC (c : CSt) (m : Nat) : CSt := if m = 0 then c else { c with pend := bits .andNot .u32 c.pend ((2 ^ m : Nat) : Int), served := bits .or .u32 c.served ((2 ^ m : Nat) : Int) }
def complC (c : CSt) (en v : Int) : CSt :=
  if v < 1 ∨ 7 < v then c else
    let bit := bits .and .u32 (bits .and .u32 c.served en) ((2 ^ v.toNat : Nat) : Int)
    { c with served := bits .andNot .u32 c.served bit, pend := bits .or .u32 c.pend (bits .and .u32 bit c.level) }
def lineC (c : CSt) (k : Nat) (hi : Bool) : CSt :=
  if hi then { c with level := bits .or .u32 c.level ((2 ^ k : Nat) : Int), pend := bits .or .u32 c.pend (bits .andNot .u32 ((2 ^ k : Nat) : Int) c.served) }
  else { c with level := bits .andNot .u32 c.level ((2 ^ k : Nat) : Int) }
def tickC (c : CSt) : CSt := { c with mtime := (c.mtime + 1) % 4294967296 }
def clkV (c : CSt) (a : Nat) : Int × Bool := if a = 4096 then (c.msip, true) else if a = 4100 then (c.mtimecmp, true) else if a = 4104 then (c.mtime, true) else (0, false)
def clkW (c : CSt) (a : Nat) (v : Int) : CSt × Bool := if a = 4096 then ({ c with msip := bits .and .u32 v 1 }, true) else if a = 4100 then ({ c with mtimecmp := v }, true) else if a = 4104 then ({ c with mtime := v }, true) else (c, false)
def prC (a : Nat) : Prop := 8192 ≤ a ∧ a < 8224 ∧ a % 4 = 0
def prD (a : Nat) : Decidable (prC a) := if h : 8192 ≤ a ∧ a < 8224 ∧ a % 4 = 0 then .isTrue h else .isFalse h
def linV (c : CSt) (a : Nat) : CSt × Int × Bool :=
  if a = 8224 then (c, c.pend, true) else if a = 8228 then (c, c.en0, true) else if a = 8232 then (c, c.en1, true) else if a = 8240 then (c, c.li0, true) else if a = 8248 then (c, c.li1, true)
  else if a = 8244 then (claimC c (bestC c.pend c.en0 0 c.prio 7).1, ((bestC c.pend c.en0 0 c.prio 7).1 : Nat), true) else if a = 8252 then (claimC c (bestC c.pend c.en1 0 c.prio 7).1, ((bestC c.pend c.en1 0 c.prio 7).1 : Nat), true)
  else @ite _ (prC a) (prD a) (c, c.prio[(a - 8192) / 4]?.getD 0, true) (c, 0, false)
def linW (c : CSt) (a : Nat) (v : Int) : CSt × Bool :=
  if a = 8224 then (c, true) else if a = 8228 then ({ c with en0 := bits .and .u32 v 254 }, true) else if a = 8232 then ({ c with en1 := bits .and .u32 v 254 }, true) else if a = 8240 then ({ c with li0 := bits .and .u32 v 7 }, true) else if a = 8248 then ({ c with li1 := bits .and .u32 v 7 }, true)
  else if a = 8244 then (complC c c.en0 v, true) else if a = 8252 then (complC c c.en1 v, true)
  else @ite _ (prC a) (prD a) (if a = 8192 then c else { c with prio := c.prio.set ((a - 8192) / 4) (bits .and .u32 v 7) }, true) (c, false)
def devC (c : CSt) (a : Nat) : CSt × Int × Bool := if (clkV c a).2 then (c, clkV c a) else linV c a
def setD (c : CSt) (a : Nat) (v : Int) : CSt × Bool := if (clkW c a v).2 then clkW c a v else linW c a v
theorem p2_int (m : Nat) (h : m ≤ 7) : (2 : Int) ^ m % 4294967296 = ((2 ^ m : Nat) : Int) := by
  have h2 : (2 : Nat) ^ m < 4294967296 := Nat.lt_of_le_of_lt (Nat.pow_le_pow_right (by decide) h) (by decide)
  rw [show (2 : Int) ^ m = ((2 ^ m : Nat) : Int) by simp]
  exact Int.emod_eq_of_lt (Int.natCast_nonneg _) (Int.ofNat_lt.2 h2)
-- the clock
theorem clkR_any (W : World) (x r : Nat) (s : CSt) (h : CodeAt W x r s) (a : Nat) :
    Calls Tryd.prog 31 #[.pointer (some ⟨x, 51, none⟩), .int .u32 a] W fun e W' => e = .returned (.tuple #[.int .u32 (clkV s a).1, .bool (clkV s a).2]) ∧ W' = W := by
  have c1 := h.msip
  have c2 := h.mtimecmp
  have c3 := h.mtime
  clear h
  by_cases a4096 : a = 4096
  · subst a4096
    go_enter Tryd.func31, Tryd.ntmps31
    go_wp2
    go_ret2
    exact ⟨rfl, rfl⟩
  by_cases a4100 : a = 4100
  · subst a4100
    go_enter Tryd.func31, Tryd.ntmps31
    go_wp2
    go_ret2
    exact ⟨rfl, rfl⟩
  by_cases a4104 : a = 4104
  · subst a4104
    go_enter Tryd.func31, Tryd.ntmps31
    go_wp2
    go_ret2
    exact ⟨rfl, rfl⟩
  have HE : Hid (clkV s a = (0, false)) := by unfold Hid clkV; rw [if_neg a4096, if_neg a4100, if_neg a4104]
  have b1 : ((a : Int) == 4096) = false := by simp; omega
  have b2 : ((a : Int) == 4100) = false := by simp; omega
  have b3 : ((a : Int) == 4104) = false := by simp; omega
  clear a4096 a4100 a4104
  go_enter Tryd.func31, Tryd.ntmps31
  go_wp2
  go_ret2
  exact ⟨by rw [HE.out]; rfl, rfl⟩
theorem clkW_any (W : World) (x r : Nat) (s : CSt) (h : CodeAt W x r s) (A : x ≠ r) (a : Nat) (v : Int) :
    Calls Tryd.prog 34 #[.pointer (some ⟨x, 51, none⟩), .int .u32 a, .int .u32 v] W fun e W' => e = .returned (.bool (clkW s a v).2) ∧ CodeAt W' x r (clkW s a v).1 ∧ Offs [x, r] W W' := by
  have HF : Hid (CodeAt W x r s) := h
  have c1 := h.msip
  have c2 := h.mtimecmp
  have c3 := h.mtime
  have fz := h.fx
  clear h
  by_cases a4096 : a = 4096
  · subst a4096
    go_enter Tryd.func34, Tryd.ntmps34
    go_wp2
    go_ret
    exact ⟨rfl, HF.out.put_msip A _, (Offs.refl _ _).put (by simp) _⟩
  by_cases a4100 : a = 4100
  · subst a4100
    go_enter Tryd.func34, Tryd.ntmps34
    go_wp2
    go_ret
    exact ⟨rfl, HF.out.put_mtimecmp A _, (Offs.refl _ _).put (by simp) _⟩
  by_cases a4104 : a = 4104
  · subst a4104
    go_enter Tryd.func34, Tryd.ntmps34
    go_wp2
    go_ret
    exact ⟨rfl, HF.out.put_mtime A _, (Offs.refl _ _).put (by simp) _⟩
  have HE : Hid (clkW s a v = (s, false)) := by unfold Hid clkW; rw [if_neg a4096, if_neg a4100, if_neg a4104]
  have b1 : ((a : Int) == 4096) = false := by simp; omega
  have b2 : ((a : Int) == 4100) = false := by simp; omega
  have b3 : ((a : Int) == 4104) = false := by simp; omega
  clear a4096 a4100 a4104
  go_enter Tryd.func34, Tryd.ntmps34
  go_wp2
  go_ret
  exact ⟨by rw [HE.out]; rfl, by rw [HE.out]; exact HF.out, Offs.refl _ _⟩
theorem ctick_any (W : World) (x r : Nat) (s : CSt) (h : CodeAt W x r s) (A : x ≠ r) :
    Calls Tryd.prog 29 #[.pointer (some ⟨x, 51, none⟩)] W fun e W' => e = .returned (.tuple #[]) ∧ CodeAt W' x r (tickC s) ∧ Offs [x, r] W W' := by
  have HF : Hid (CodeAt W x r s) := h
  have c3 := h.mtime
  have fz := h.fx
  clear h
  go_enter Tryd.func29, Tryd.ntmps29
  go_wp2
  go_end0
  exact ⟨rfl, HF.out.put_mtime A _, (Offs.refl _ _).put (by simp) _⟩

-- the controller: whose priority stands at an address
theorem psrc_yes (W : World) (a k : Nat) (h : a = 8192 + 4 * k) (h7 : k ≤ 7) : Calls Tryd.prog 46 #[.int .u32 a] W fun e W' => e = .returned (.tuple #[.int .u32 k, .bool true]) ∧ W' = W := by
  have e1 : ¬ ((a : Int) < 8192) := by omega
  have e2 : ¬ (8220 < (a : Int)) := by omega
  have e3 : (((a : Int) % 4) != 0) = false := by simp; omega
  have HE : Hid (((a : Int) - 8192) / 4 = (k : Int)) := by unfold Hid; omega
  have h32 : (a : Int) < 4294967296 := by omega
  clear h h7
  go_enter Tryd.func46, Tryd.ntmps46
  go_wp2
  go_ret2
  exact ⟨by rw [← HE.out]; rfl, rfl⟩
theorem psrc_no (W : World) (a : Nat) (h : ¬ prC a) : Calls Tryd.prog 46 #[.int .u32 a] W fun e W' => e = .returned (.tuple #[.int .u32 0, .bool false]) ∧ W' = W := by
  unfold prC at h
  by_cases h1 : (a : Int) < 8192
  · clear h
    go_enter Tryd.func46, Tryd.ntmps46
    go_wp2
    go_ret2
    exact ⟨rfl, rfl⟩
  · by_cases h2 : 8220 < (a : Int)
    · clear h
      go_enter Tryd.func46, Tryd.ntmps46
      go_wp2
      go_ret2
      exact ⟨rfl, rfl⟩
    · have h3 : (((a : Int) % 4) != 0) = true := by simp; omega
      clear h
      go_enter Tryd.func46, Tryd.ntmps46
      go_wp2
      go_ret2
      exact ⟨rfl, rfl⟩
-- claims
theorem p2_w2 (m : Nat) (h : m ≤ 7) : (1 : Int) * 2 ^ m % 4294967296 = ((2 ^ m : Nat) : Int) := by rw [Int.one_mul]; exact p2_int m h
set_option maxHeartbeats 1000000 in
theorem cclaim_0 (W : World) (x r : Nat) (s : CSt) (h : CodeAt W x r s) (A : x ≠ r) :
    Calls Tryd.prog 45 #[.pointer (some ⟨x, 54, none⟩), .int .i64 0] W fun e W' => e = .returned (.int .u32 ((bestC s.pend s.en0 0 s.prio 7).1 : Nat)) ∧ CodeAt W' x r (claimC s (bestC s.pend s.en0 0 s.prio 7).1) ∧ Offs [x, r] W W' := by
  have HF : Hid (CodeAt W x r s) := h
  have HB := best_any W x 54 s.pend s.en0 0 s.prio h.pend h.prio
  have c1 := h.en0
  have c2 := h.pend
  have c3 := h.served
  have fz := h.fx
  have h7 := bestC_le s.pend s.en0 0 s.prio 7
  generalize (bestC s.pend s.en0 0 s.prio 7).1 = m at HB h7 ⊢
  clear h
  by_cases h0 : m = 0
  · subst h0
    go_enter Tryd.func45, Tryd.ntmps45
    go_wp2_with (go_at_call 64; refine HB.mono ?_; rintro e w1 ⟨rfl, q, rfl⟩)
    go_ret
    exact ⟨rfl, HF.out.drawn q, (Offs.refl _ _).drawn q⟩
  · have hn : ((m : Int) == 0) = false := by simp; omega
    have hk : (2 : Int) ^ m % 4294967296 = ((2 ^ m : Nat) : Int) := p2_int m h7
    have HE : Hid (claimC s m = { s with pend := bits .andNot .u32 s.pend ((2 ^ m : Nat) : Int), served := bits .or .u32 s.served ((2 ^ m : Nat) : Int) }) := by unfold Hid claimC; rw [if_neg h0]
    clear h0
    go_enter Tryd.func45, Tryd.ntmps45
    go_wp2_with (go_at_call 64; refine HB.mono ?_; rintro e w1 ⟨rfl, q, rfl⟩)
    go_ret
    have P := ((HF.out.drawn q).put_pend A (bits .andNot .u32 s.pend ((2 ^ m : Nat) : Int))).put_served A (bits .or .u32 s.served ((2 ^ m : Nat) : Int))
    exact ⟨rfl, by rw [HE.out]; first | exact P | (rw [hk]; exact P) | (simp only [← hk] at P; exact P), (((Offs.refl _ _).drawn q).put (by simp) _).put (by simp) _⟩
set_option maxHeartbeats 1000000 in
theorem cclaim_1 (W : World) (x r : Nat) (s : CSt) (h : CodeAt W x r s) (A : x ≠ r) :
    Calls Tryd.prog 45 #[.pointer (some ⟨x, 54, none⟩), .int .i64 1] W fun e W' => e = .returned (.int .u32 ((bestC s.pend s.en1 0 s.prio 7).1 : Nat)) ∧ CodeAt W' x r (claimC s (bestC s.pend s.en1 0 s.prio 7).1) ∧ Offs [x, r] W W' := by
  have HF : Hid (CodeAt W x r s) := h
  have HB := best_any W x 54 s.pend s.en1 0 s.prio h.pend h.prio
  have c1 := h.en1
  have c2 := h.pend
  have c3 := h.served
  have fz := h.fx
  have h7 := bestC_le s.pend s.en1 0 s.prio 7
  generalize (bestC s.pend s.en1 0 s.prio 7).1 = m at HB h7 ⊢
  clear h
  by_cases h0 : m = 0
  · subst h0
    go_enter Tryd.func45, Tryd.ntmps45
    go_wp2_with (go_at_call 64; refine HB.mono ?_; rintro e w1 ⟨rfl, q, rfl⟩)
    go_ret
    exact ⟨rfl, HF.out.drawn q, (Offs.refl _ _).drawn q⟩
  · have hn : ((m : Int) == 0) = false := by simp; omega
    have hk : (2 : Int) ^ m % 4294967296 = ((2 ^ m : Nat) : Int) := p2_int m h7
    have HE : Hid (claimC s m = { s with pend := bits .andNot .u32 s.pend ((2 ^ m : Nat) : Int), served := bits .or .u32 s.served ((2 ^ m : Nat) : Int) }) := by unfold Hid claimC; rw [if_neg h0]
    clear h0
    go_enter Tryd.func45, Tryd.ntmps45
    go_wp2_with (go_at_call 64; refine HB.mono ?_; rintro e w1 ⟨rfl, q, rfl⟩)
    go_ret
    have P := ((HF.out.drawn q).put_pend A (bits .andNot .u32 s.pend ((2 ^ m : Nat) : Int))).put_served A (bits .or .u32 s.served ((2 ^ m : Nat) : Int))
    exact ⟨rfl, by rw [HE.out]; first | exact P | (rw [hk]; exact P) | (simp only [← hk] at P; exact P), (((Offs.refl _ _).drawn q).put (by simp) _).put (by simp) _⟩
set_option maxHeartbeats 4000000 in
set_option maxRecDepth 100000 in
theorem cline_any (W : World) (x r : Nat) (s : CSt) (h : CodeAt W x r s) (A : x ≠ r) (k : Nat) (h1 : 1 ≤ k) (h7 : k ≤ 7) (hi : Bool) :
    Calls Tryd.prog 28 #[.pointer (some ⟨x, 54, none⟩), .int .i64 k, .bool hi] W fun e W' => e = .returned (.tuple #[]) ∧ CodeAt W' x r (lineC s k hi) ∧ Offs [x, r] W W' := by
  have HF : Hid (CodeAt W x r s) := h
  have c1 := h.level
  have fz := h.fx
  have h1' : ¬ ((k : Int) < 1) := by omega
  have h7' : ¬ (7 < (k : Int)) := by omega
  have hk : (2 : Int) ^ k % 4294967296 = ((2 ^ k : Nat) : Int) := p2_int k h7
  unfold lineC
  generalize ((2 ^ k : Nat) : Int) = b at hk ⊢
  clear h h1 h7
  cases hi
  · rw [if_neg (by decide)]
    go_enter Tryd.func28, Tryd.ntmps28
    go_wp2
    exact bodyPost_ret (v := .tuple #[]) (by simp [results, Tryd.results28, go_sem]) rfl ⟨rfl, HF.out.put_level A _, (Offs.refl _ _).put (by simp) _⟩
  · rw [if_pos rfl]
    go_enter Tryd.func28, Tryd.ntmps28
    go_wp2_with fail
    have P1 := HF.out.put_level A (bits .or .u32 s.level b)
    have O1 : Hid (Offs [x, r] W (W.setCell ⟨x, 64, none⟩ (.int .u32 (bits .or .u32 s.level b)))) := (Offs.refl _ _).put (by simp) _
    generalize W.setCell ⟨x, 64, none⟩ (.int .u32 (bits .or .u32 s.level b)) = w0 at P1 O1 ⊢
    have HP : Hid (CodeAt w0 x r { s with level := bits .or .u32 s.level b }) := P1
    have d1 : w0.cell? ⟨x, 62, none⟩ = some (.int .u32 s.pend) := P1.pend
    have fz2 := P1.fx
    have hS : w0.drew.cell? ⟨x, 63, none⟩ = some (.int .u32 (s.served)) := P1.served
    clear P1
    refine wp_region_held (S := fun w' => w'.cell? ⟨x, 63, none⟩ = some (.int .u32 (s.served))) (by kernel_rfl) ?_
    change wpAnyH _ _ _ _ _ _ _ _ (w0.drew)
    refine tK 0 (.pointer (some ⟨x, 54, none⟩)) rfl (by kernel_rfl) (fun _ _ _ h => h) (fun _ => by kernel_rfl) hS ?_
    refine tK 1 (.pointer (some ⟨x, 54, none⟩)) rfl (by kernel_rfl) (fun _ _ _ h => h) (fun _ => by kernel_rfl) hS ?_
    refine tK 2 (.pointer (some ⟨x, 62, none⟩)) rfl (by kernel_rfl) (fun _ _ _ h => h) (fun _ => by kernel_rfl) hS ?_
    refine tK 4 (.int .u32 (b)) rfl (by kernel_rfl) (fun _ _ _ h => h) (fun _ => by kernel_rfl) hS ?_
    refine tK 5 (.pointer (some ⟨x, 54, none⟩)) rfl (by kernel_rfl) (fun _ _ _ h => h) (fun _ => by kernel_rfl) hS ?_
    refine tK 6 (.pointer (some ⟨x, 54, none⟩)) rfl (by kernel_rfl) (fun _ _ _ h => h) (fun _ => by kernel_rfl) hS ?_
    refine tK 7 (.pointer (some ⟨x, 63, none⟩)) rfl (by kernel_rfl) (fun _ _ _ h => h) (fun _ => by kernel_rfl) hS ?_
    refine tU 8 rfl rfl (by kernel_rfl) (fun _ _ _ h => h) (by kernel_rfl) (fun _ h => h) hS ?_
    refine tK 9 (.int .u32 (bits .andNot .u32 (b) (s.served))) rfl (by kernel_rfl) (fun _ _ _ h => h) (fun _ => by kernel_rfl) hS ?_
    refine tA 3 (by kernel_rfl) (wpOp_step rfl fun K hK => ?_)
    go_simp
    refine hK _ _ ⟨hS, ?_⟩
    clear hK K
    refine tK 10 (.int .u32 (bits .or .u32 s.pend ((bits .andNot .u32 (b) (s.served))))) rfl (by kernel_rfl) (fun _ _ _ h => h) (fun _ => by kernel_rfl) hS ?_
    refine tK 11 (.pointer (some ⟨x, 54, none⟩)) rfl (by kernel_rfl) (fun _ _ _ h => h) (fun _ => by kernel_rfl) hS ?_
    refine tK 12 (.pointer (some ⟨x, 62, none⟩)) rfl (by kernel_rfl) (fun _ _ _ h => h) (fun _ => by kernel_rfl) hS ?_
    refine tA 13 (by kernel_rfl) (wpOp_step rfl fun K hK => ?_)
    go_simp
    have P := HP.out.put_pend A (bits .or .u32 s.pend (bits .andNot .u32 b s.served))
    refine hK _ _ ⟨P.served, wpAnyH_done (by kernel_rfl) ?_ _⟩
    clear hK K
    go_wp2_with fail
    go_end0
    exact ⟨rfl, P.drawn 1, (O1.out.put (by simp) _).drawn 1⟩
theorem cline_no (W : World) (x : Nat) (k : Int) (hi : Bool) (hk : k < 1 ∨ 7 < k) :
    Calls Tryd.prog 28 #[.pointer (some ⟨x, 54, none⟩), .int .i64 k, .bool hi] W fun e W' => e = .returned (.tuple #[]) ∧ W' = W := by
  by_cases h1 : k < 1
  · clear hk
    go_enter Tryd.func28, Tryd.ntmps28
    go_wp2
    exact bodyPost_ret (v := .tuple #[]) (by simp [results, Tryd.results28, go_sem]) rfl ⟨rfl, rfl⟩
  · have h7 : 7 < k := by omega
    clear hk
    go_enter Tryd.func28, Tryd.ntmps28
    go_wp2
    exact bodyPost_ret (v := .tuple #[]) (by simp [results, Tryd.results28, go_sem]) rfl ⟨rfl, rfl⟩
set_option maxHeartbeats 4000000 in
set_option maxRecDepth 100000 in
theorem ccompl_0 (W : World) (x r : Nat) (s : CSt) (h : CodeAt W x r s) (A : x ≠ r) (v : Int) (v0 : 0 ≤ v) :
    Calls Tryd.prog 47 #[.pointer (some ⟨x, 54, none⟩), .int .i64 0, .int .u32 v] W fun e W' => e = .returned (.tuple #[]) ∧ CodeAt W' x r (complC s s.en0 v) ∧ Offs [x, r] W W' := by
  have HF : Hid (CodeAt W x r s) := h
  by_cases h1 : v < 1
  · have HE : Hid (complC s s.en0 v = s) := by unfold Hid complC; rw [if_pos (.inl h1)]
    clear h
    go_enter Tryd.func47, Tryd.ntmps47
    go_wp2
    exact bodyPost_ret (v := .tuple #[]) (by simp [results, Tryd.results47, go_sem]) rfl ⟨rfl, by rw [HE.out]; exact HF.out, Offs.refl _ _⟩
  by_cases h7 : 7 < v
  · have HE : Hid (complC s s.en0 v = s) := by unfold Hid complC; rw [if_pos (.inr h7)]
    clear h
    go_enter Tryd.func47, Tryd.ntmps47
    go_wp2
    exact bodyPost_ret (v := .tuple #[]) (by simp [results, Tryd.results47, go_sem]) rfl ⟨rfl, by rw [HE.out]; exact HF.out, Offs.refl _ _⟩
  have HE : Hid (complC s s.en0 v = { s with served := bits .andNot .u32 s.served (bits .and .u32 (bits .and .u32 s.served s.en0) ((2 ^ v.toNat : Nat) : Int)), pend := bits .or .u32 s.pend (bits .and .u32 (bits .and .u32 (bits .and .u32 s.served s.en0) ((2 ^ v.toNat : Nat) : Int)) s.level) }) := by unfold Hid complC; rw [if_neg (by omega)]
  obtain ⟨m, rfl⟩ : ∃ m : Nat, v = m := ⟨v.toNat, by omega⟩
  have hk : (2 : Int) ^ m % 4294967296 = ((2 ^ m : Nat) : Int) := p2_int m (by omega)
  rw [show ((m : Int)).toNat = m from rfl] at HE
  generalize ((2 ^ m : Nat) : Int) = z at hk HE
  have c1 := h.served
  have c2 := h.en0
  have fz := h.fx
  clear h
  go_enter Tryd.func47, Tryd.ntmps47
  go_wp2_with fail
  go_quiet (fail)
  generalize hb : bits .and .u32 (bits .and .u32 s.served s.en0) z = b at HE ⊢
  go_wp2_with fail
  generalize hw0 : World.setCell (World.drewN W _) _ _ = w0
  have P1 : CodeAt w0 x r { s with served := bits .andNot .u32 s.served b } := by rw [← hw0]; exact (HF.out.drawn _).put_served A _
  have O1 : Hid (Offs [x, r] W w0) := by unfold Hid; rw [← hw0]; exact ((Offs.refl _ _).drawn _).put (by simp) _
  clear hw0
  have HP : Hid (CodeAt w0 x r { s with served := bits .andNot .u32 s.served b }) := P1
  have d1 : w0.cell? ⟨x, 62, none⟩ = some (.int .u32 s.pend) := P1.pend
  have fz2 := P1.fx
  have hS : w0.drew.cell? ⟨x, 64, none⟩ = some (.int .u32 (s.level)) := P1.level
  clear P1
  refine wp_region_held (S := fun w' => w'.cell? ⟨x, 64, none⟩ = some (.int .u32 (s.level))) (by kernel_rfl) ?_
  change wpAnyH _ _ _ _ _ _ _ _ (w0.drew)
  refine tK 0 (.pointer (some ⟨x, 54, none⟩)) rfl (by kernel_rfl) (fun _ _ _ h => h) (fun _ => by kernel_rfl) hS ?_
  refine tK 1 (.pointer (some ⟨x, 54, none⟩)) rfl (by kernel_rfl) (fun _ _ _ h => h) (fun _ => by kernel_rfl) hS ?_
  refine tK 2 (.pointer (some ⟨x, 62, none⟩)) rfl (by kernel_rfl) (fun _ _ _ h => h) (fun _ => by kernel_rfl) hS ?_
  refine tK 4 (.int .u32 (b)) rfl (by kernel_rfl) (fun _ _ _ h => h) (fun _ => by kernel_rfl) hS ?_
  refine tK 5 (.pointer (some ⟨x, 54, none⟩)) rfl (by kernel_rfl) (fun _ _ _ h => h) (fun _ => by kernel_rfl) hS ?_
  refine tK 6 (.pointer (some ⟨x, 54, none⟩)) rfl (by kernel_rfl) (fun _ _ _ h => h) (fun _ => by kernel_rfl) hS ?_
  refine tK 7 (.pointer (some ⟨x, 64, none⟩)) rfl (by kernel_rfl) (fun _ _ _ h => h) (fun _ => by kernel_rfl) hS ?_
  refine tU 8 rfl rfl (by kernel_rfl) (fun _ _ _ h => h) (by kernel_rfl) (fun _ h => h) hS ?_
  refine tK 9 (.int .u32 (bits .and .u32 (b) (s.level))) rfl (by kernel_rfl) (fun _ _ _ h => h) (fun _ => by kernel_rfl) hS ?_
  refine tA 3 (by kernel_rfl) (wpOp_step rfl fun K hK => ?_)
  go_simp
  refine hK _ _ ⟨hS, ?_⟩
  clear hK K
  refine tK 10 (.int .u32 (bits .or .u32 s.pend ((bits .and .u32 (b) (s.level))))) rfl (by kernel_rfl) (fun _ _ _ h => h) (fun _ => by kernel_rfl) hS ?_
  refine tK 11 (.pointer (some ⟨x, 54, none⟩)) rfl (by kernel_rfl) (fun _ _ _ h => h) (fun _ => by kernel_rfl) hS ?_
  refine tK 12 (.pointer (some ⟨x, 62, none⟩)) rfl (by kernel_rfl) (fun _ _ _ h => h) (fun _ => by kernel_rfl) hS ?_
  refine tA 13 (by kernel_rfl) (wpOp_step rfl fun K hK => ?_)
  go_simp
  have P := HP.out.put_pend A (bits .or .u32 s.pend (bits .and .u32 b s.level))
  refine hK _ _ ⟨P.level, wpAnyH_done (by kernel_rfl) ?_ _⟩
  clear hK K
  go_wp2_with fail
  go_end0
  exact ⟨rfl, by rw [HE.out]; exact P.drawn 1, (O1.out.put (by simp) _).drawn 1⟩
set_option maxHeartbeats 4000000 in
set_option maxRecDepth 100000 in
theorem ccompl_1 (W : World) (x r : Nat) (s : CSt) (h : CodeAt W x r s) (A : x ≠ r) (v : Int) (v0 : 0 ≤ v) :
    Calls Tryd.prog 47 #[.pointer (some ⟨x, 54, none⟩), .int .i64 1, .int .u32 v] W fun e W' => e = .returned (.tuple #[]) ∧ CodeAt W' x r (complC s s.en1 v) ∧ Offs [x, r] W W' := by
  have HF : Hid (CodeAt W x r s) := h
  by_cases h1 : v < 1
  · have HE : Hid (complC s s.en1 v = s) := by unfold Hid complC; rw [if_pos (.inl h1)]
    clear h
    go_enter Tryd.func47, Tryd.ntmps47
    go_wp2
    exact bodyPost_ret (v := .tuple #[]) (by simp [results, Tryd.results47, go_sem]) rfl ⟨rfl, by rw [HE.out]; exact HF.out, Offs.refl _ _⟩
  by_cases h7 : 7 < v
  · have HE : Hid (complC s s.en1 v = s) := by unfold Hid complC; rw [if_pos (.inr h7)]
    clear h
    go_enter Tryd.func47, Tryd.ntmps47
    go_wp2
    exact bodyPost_ret (v := .tuple #[]) (by simp [results, Tryd.results47, go_sem]) rfl ⟨rfl, by rw [HE.out]; exact HF.out, Offs.refl _ _⟩
  have HE : Hid (complC s s.en1 v = { s with served := bits .andNot .u32 s.served (bits .and .u32 (bits .and .u32 s.served s.en1) ((2 ^ v.toNat : Nat) : Int)), pend := bits .or .u32 s.pend (bits .and .u32 (bits .and .u32 (bits .and .u32 s.served s.en1) ((2 ^ v.toNat : Nat) : Int)) s.level) }) := by unfold Hid complC; rw [if_neg (by omega)]
  obtain ⟨m, rfl⟩ : ∃ m : Nat, v = m := ⟨v.toNat, by omega⟩
  have hk : (2 : Int) ^ m % 4294967296 = ((2 ^ m : Nat) : Int) := p2_int m (by omega)
  rw [show ((m : Int)).toNat = m from rfl] at HE
  generalize ((2 ^ m : Nat) : Int) = z at hk HE
  have c1 := h.served
  have c2 := h.en1
  have fz := h.fx
  clear h
  go_enter Tryd.func47, Tryd.ntmps47
  go_wp2_with fail
  go_quiet (fail)
  generalize hb : bits .and .u32 (bits .and .u32 s.served s.en1) z = b at HE ⊢
  go_wp2_with fail
  generalize hw0 : World.setCell (World.drewN W _) _ _ = w0
  have P1 : CodeAt w0 x r { s with served := bits .andNot .u32 s.served b } := by rw [← hw0]; exact (HF.out.drawn _).put_served A _
  have O1 : Hid (Offs [x, r] W w0) := by unfold Hid; rw [← hw0]; exact ((Offs.refl _ _).drawn _).put (by simp) _
  clear hw0
  have HP : Hid (CodeAt w0 x r { s with served := bits .andNot .u32 s.served b }) := P1
  have d1 : w0.cell? ⟨x, 62, none⟩ = some (.int .u32 s.pend) := P1.pend
  have fz2 := P1.fx
  have hS : w0.drew.cell? ⟨x, 64, none⟩ = some (.int .u32 (s.level)) := P1.level
  clear P1
  refine wp_region_held (S := fun w' => w'.cell? ⟨x, 64, none⟩ = some (.int .u32 (s.level))) (by kernel_rfl) ?_
  change wpAnyH _ _ _ _ _ _ _ _ (w0.drew)
  refine tK 0 (.pointer (some ⟨x, 54, none⟩)) rfl (by kernel_rfl) (fun _ _ _ h => h) (fun _ => by kernel_rfl) hS ?_
  refine tK 1 (.pointer (some ⟨x, 54, none⟩)) rfl (by kernel_rfl) (fun _ _ _ h => h) (fun _ => by kernel_rfl) hS ?_
  refine tK 2 (.pointer (some ⟨x, 62, none⟩)) rfl (by kernel_rfl) (fun _ _ _ h => h) (fun _ => by kernel_rfl) hS ?_
  refine tK 4 (.int .u32 (b)) rfl (by kernel_rfl) (fun _ _ _ h => h) (fun _ => by kernel_rfl) hS ?_
  refine tK 5 (.pointer (some ⟨x, 54, none⟩)) rfl (by kernel_rfl) (fun _ _ _ h => h) (fun _ => by kernel_rfl) hS ?_
  refine tK 6 (.pointer (some ⟨x, 54, none⟩)) rfl (by kernel_rfl) (fun _ _ _ h => h) (fun _ => by kernel_rfl) hS ?_
  refine tK 7 (.pointer (some ⟨x, 64, none⟩)) rfl (by kernel_rfl) (fun _ _ _ h => h) (fun _ => by kernel_rfl) hS ?_
  refine tU 8 rfl rfl (by kernel_rfl) (fun _ _ _ h => h) (by kernel_rfl) (fun _ h => h) hS ?_
  refine tK 9 (.int .u32 (bits .and .u32 (b) (s.level))) rfl (by kernel_rfl) (fun _ _ _ h => h) (fun _ => by kernel_rfl) hS ?_
  refine tA 3 (by kernel_rfl) (wpOp_step rfl fun K hK => ?_)
  go_simp
  refine hK _ _ ⟨hS, ?_⟩
  clear hK K
  refine tK 10 (.int .u32 (bits .or .u32 s.pend ((bits .and .u32 (b) (s.level))))) rfl (by kernel_rfl) (fun _ _ _ h => h) (fun _ => by kernel_rfl) hS ?_
  refine tK 11 (.pointer (some ⟨x, 54, none⟩)) rfl (by kernel_rfl) (fun _ _ _ h => h) (fun _ => by kernel_rfl) hS ?_
  refine tK 12 (.pointer (some ⟨x, 62, none⟩)) rfl (by kernel_rfl) (fun _ _ _ h => h) (fun _ => by kernel_rfl) hS ?_
  refine tA 13 (by kernel_rfl) (wpOp_step rfl fun K hK => ?_)
  go_simp
  have P := HP.out.put_pend A (bits .or .u32 s.pend (bits .and .u32 b s.level))
  refine hK _ _ ⟨P.level, wpAnyH_done (by kernel_rfl) ?_ _⟩
  clear hK K
  go_wp2_with fail
  go_end0
  exact ⟨rfl, by rw [HE.out]; exact P.drawn 1, (O1.out.put (by simp) _).drawn 1⟩
theorem wprio_yes (W : World) (x r : Nat) (s : CSt) (h : CodeAt W x r s) (A : x ≠ r) (a k : Nat) (ha : a = 8192 + 4 * k) (h7 : k ≤ 7) (v : Int) :
    Calls Tryd.prog 48 #[.pointer (some ⟨x, 54, none⟩), .int .u32 a, .int .u32 v] W fun e W' => e = .returned (.bool true) ∧ CodeAt W' x r (if a = 8192 then s else { s with prio := s.prio.set k (bits .and .u32 v 7) }) ∧ Offs [x, r] W W' := by
  have HF : Hid (CodeAt W x r s) := h
  have HS := psrc_yes W a k ha h7
  have c1 := h.prio k (by omega)
  have fz := h.fx
  have hk8 : (k : Int) < 8 := by omega
  by_cases h0 : k = 0
  · rw [if_pos (by omega)]
    subst h0
    clear h ha h7 c1
    go_enter Tryd.func48, Tryd.ntmps48
    go_wp2_with (go_at_call 46; refine HS.mono ?_; rintro e w1 ⟨rfl, rfl⟩)
    go_ret
    exact ⟨rfl, HF.out, Offs.refl _ _⟩
  · rw [if_neg (by omega)]
    have hn : ((k : Int) != 0) = true := by simp; omega
    have HK : Hid (k < 8) := by unfold Hid; omega
    clear h ha h7 h0
    go_enter Tryd.func48, Tryd.ntmps48
    go_wp2_with (go_at_call 46; refine HS.mono ?_; rintro e w1 ⟨rfl, hw⟩; rw [hw]; clear hw w1)
    go_ret
    exact ⟨rfl, HF.out.put_prio A k HK.out _, (Offs.refl _ _).put (by simp) _⟩
theorem wprio_no (W : World) (x a : Nat) (h : ¬ prC a) (v : Int) :
    Calls Tryd.prog 48 #[.pointer (some ⟨x, 54, none⟩), .int .u32 a, .int .u32 v] W fun e W' => e = .returned (.bool false) ∧ W' = W := by
  have HS := psrc_no W a h
  clear h
  go_enter Tryd.func48, Tryd.ntmps48
  go_wp2_with (go_at_call 46; refine HS.mono ?_; rintro e w1 ⟨rfl, hw⟩; rw [hw]; clear hw w1)
  go_ret
  exact ⟨rfl, rfl⟩
set_option maxHeartbeats 1000000 in
theorem linR_any (W : World) (x r : Nat) (s : CSt) (h : CodeAt W x r s) (A : x ≠ r) (a : Nat) :
    Calls Tryd.prog 32 #[.pointer (some ⟨x, 54, none⟩), .int .u32 a] W fun e W' => e = .returned (.tuple #[.int .u32 (linV s a).2.1, .bool (linV s a).2.2]) ∧ CodeAt W' x r (linV s a).1 ∧ Offs [x, r] W W' := by
  have HF : Hid (CodeAt W x r s) := h
  have K0 := cclaim_0 W x r s h A
  have K1 := cclaim_1 W x r s h A
  by_cases a8224 : a = 8224
  · subst a8224
    have c1 := h.pend
    clear h K0 K1
    go_enter Tryd.func32, Tryd.ntmps32
    go_wp2
    go_ret2
    exact ⟨rfl, HF.out, Offs.refl _ _⟩
  by_cases a8228 : a = 8228
  · subst a8228
    have c1 := h.en0
    clear h K0 K1
    go_enter Tryd.func32, Tryd.ntmps32
    go_wp2
    go_ret2
    exact ⟨rfl, HF.out, Offs.refl _ _⟩
  by_cases a8232 : a = 8232
  · subst a8232
    have c1 := h.en1
    clear h K0 K1
    go_enter Tryd.func32, Tryd.ntmps32
    go_wp2
    go_ret2
    exact ⟨rfl, HF.out, Offs.refl _ _⟩
  by_cases a8240 : a = 8240
  · subst a8240
    have c1 := h.li0
    clear h K0 K1
    go_enter Tryd.func32, Tryd.ntmps32
    go_wp2
    go_ret2
    exact ⟨rfl, HF.out, Offs.refl _ _⟩
  by_cases a8248 : a = 8248
  · subst a8248
    have c1 := h.li1
    clear h K0 K1
    go_enter Tryd.func32, Tryd.ntmps32
    go_wp2
    go_ret2
    exact ⟨rfl, HF.out, Offs.refl _ _⟩
  by_cases a8244 : a = 8244
  · subst a8244
    clear h
    go_enter Tryd.func32, Tryd.ntmps32
    go_wp2_with (go_at_call 45; refine K0.mono ?_; rintro e w1 ⟨rfl, h1, o1⟩)
    go_ret2
    exact ⟨rfl, h1, o1⟩
  by_cases a8252 : a = 8252
  · subst a8252
    clear h
    go_enter Tryd.func32, Tryd.ntmps32
    go_wp2_with (go_at_call 45; refine K1.mono ?_; rintro e w1 ⟨rfl, h1, o1⟩)
    go_ret2
    exact ⟨rfl, h1, o1⟩
  clear K0 K1
  have b8224 : ((a : Int) == 8224) = false := by simp; omega
  have b8228 : ((a : Int) == 8228) = false := by simp; omega
  have b8232 : ((a : Int) == 8232) = false := by simp; omega
  have b8240 : ((a : Int) == 8240) = false := by simp; omega
  have b8248 : ((a : Int) == 8248) = false := by simp; omega
  have b8244 : ((a : Int) == 8244) = false := by simp; omega
  have b8252 : ((a : Int) == 8252) = false := by simp; omega
  by_cases hp : prC a
  · obtain ⟨k, hk, h7⟩ : ∃ k, a = 8192 + 4 * k ∧ k ≤ 7 := ⟨(a - 8192) / 4, by unfold prC at hp; omega, by unfold prC at hp; omega⟩
    have HE : Hid (linV s a = (s, s.prio[k]?.getD 0, true)) := by
      unfold Hid linV
      rw [if_neg a8224, if_neg a8228, if_neg a8232, if_neg a8240, if_neg a8248, if_neg a8244, if_neg a8252, if_pos hp, show (a - 8192) / 4 = k by omega]
    have HS := psrc_yes W a k hk h7
    have c1 := h.prio k (by omega)
    have hk8 : (k : Int) < 8 := by omega
    clear h hk h7 hp a8224 a8228 a8232 a8240 a8248 a8244 a8252
    go_enter Tryd.func32, Tryd.ntmps32
    go_wp2_with (go_at_call 46; refine HS.mono ?_; rintro e w1 ⟨rfl, hw⟩; rw [hw]; clear hw w1)
    go_ret2
    exact ⟨by rw [HE.out]; rfl, by rw [HE.out]; exact HF.out, Offs.refl _ _⟩
  · have HE : Hid (linV s a = (s, 0, false)) := by
      unfold Hid linV
      rw [if_neg a8224, if_neg a8228, if_neg a8232, if_neg a8240, if_neg a8248, if_neg a8244, if_neg a8252, if_neg hp]
    have HS := psrc_no W a hp
    clear h hp a8224 a8228 a8232 a8240 a8248 a8244 a8252
    go_enter Tryd.func32, Tryd.ntmps32
    go_wp2_with (go_at_call 46; refine HS.mono ?_; rintro e w1 ⟨rfl, hw⟩; rw [hw]; clear hw w1)
    go_ret2
    exact ⟨by rw [HE.out]; rfl, by rw [HE.out]; exact HF.out, Offs.refl _ _⟩
set_option maxHeartbeats 1000000 in
theorem linW_any (W : World) (x r : Nat) (s : CSt) (h : CodeAt W x r s) (A : x ≠ r) (a : Nat) (v : Int) (v0 : 0 ≤ v) :
    Calls Tryd.prog 35 #[.pointer (some ⟨x, 54, none⟩), .int .u32 a, .int .u32 v] W fun e W' => e = .returned (.bool (linW s a v).2) ∧ CodeAt W' x r (linW s a v).1 ∧ Offs [x, r] W W' := by
  have HF : Hid (CodeAt W x r s) := h
  have K0 := ccompl_0 W x r s h A v v0
  have K1 := ccompl_1 W x r s h A v v0
  have fz := h.fx
  clear v0
  by_cases a8224 : a = 8224
  · subst a8224
    clear h K0 K1
    go_enter Tryd.func35, Tryd.ntmps35
    go_wp2
    go_ret
    exact ⟨rfl, HF.out, Offs.refl _ _⟩
  by_cases a8228 : a = 8228
  · subst a8228
    have c1 := h.en0
    clear h K0 K1
    go_enter Tryd.func35, Tryd.ntmps35
    go_wp2
    go_ret
    exact ⟨rfl, HF.out.put_en0 A _, (Offs.refl _ _).put (by simp) _⟩
  by_cases a8232 : a = 8232
  · subst a8232
    have c1 := h.en1
    clear h K0 K1
    go_enter Tryd.func35, Tryd.ntmps35
    go_wp2
    go_ret
    exact ⟨rfl, HF.out.put_en1 A _, (Offs.refl _ _).put (by simp) _⟩
  by_cases a8240 : a = 8240
  · subst a8240
    have c1 := h.li0
    clear h K0 K1
    go_enter Tryd.func35, Tryd.ntmps35
    go_wp2
    go_ret
    exact ⟨rfl, HF.out.put_li0 A _, (Offs.refl _ _).put (by simp) _⟩
  by_cases a8248 : a = 8248
  · subst a8248
    have c1 := h.li1
    clear h K0 K1
    go_enter Tryd.func35, Tryd.ntmps35
    go_wp2
    go_ret
    exact ⟨rfl, HF.out.put_li1 A _, (Offs.refl _ _).put (by simp) _⟩
  by_cases a8244 : a = 8244
  · subst a8244
    clear h
    go_enter Tryd.func35, Tryd.ntmps35
    go_wp2_with (go_at_call 47; refine K0.mono ?_; rintro e w1 ⟨rfl, h1, o1⟩)
    go_ret
    exact ⟨rfl, h1, o1⟩
  by_cases a8252 : a = 8252
  · subst a8252
    clear h
    go_enter Tryd.func35, Tryd.ntmps35
    go_wp2_with (go_at_call 47; refine K1.mono ?_; rintro e w1 ⟨rfl, h1, o1⟩)
    go_ret
    exact ⟨rfl, h1, o1⟩
  clear K0 K1
  have b8224 : ((a : Int) == 8224) = false := by simp; omega
  have b8228 : ((a : Int) == 8228) = false := by simp; omega
  have b8232 : ((a : Int) == 8232) = false := by simp; omega
  have b8240 : ((a : Int) == 8240) = false := by simp; omega
  have b8248 : ((a : Int) == 8248) = false := by simp; omega
  have b8244 : ((a : Int) == 8244) = false := by simp; omega
  have b8252 : ((a : Int) == 8252) = false := by simp; omega
  by_cases hp : prC a
  · obtain ⟨k, hk, h7⟩ : ∃ k, a = 8192 + 4 * k ∧ k ≤ 7 := ⟨(a - 8192) / 4, by unfold prC at hp; omega, by unfold prC at hp; omega⟩
    have HE : Hid (linW s a v = (if a = 8192 then s else { s with prio := s.prio.set k (bits .and .u32 v 7) }, true)) := by
      unfold Hid linW
      rw [if_neg a8224, if_neg a8228, if_neg a8232, if_neg a8240, if_neg a8248, if_neg a8244, if_neg a8252, if_pos hp, show (a - 8192) / 4 = k by omega]
    have HS := wprio_yes W x r s h A a k hk h7 v
    clear h hk h7 hp a8224 a8228 a8232 a8240 a8248 a8244 a8252
    go_enter Tryd.func35, Tryd.ntmps35
    go_wp2_with (go_at_call 48; refine HS.mono ?_; rintro e w1 ⟨rfl, h1, o1⟩)
    go_ret
    exact ⟨by rw [HE.out]; rfl, by rw [HE.out]; exact h1, o1⟩
  · have HE : Hid (linW s a v = (s, false)) := by
      unfold Hid linW
      rw [if_neg a8224, if_neg a8228, if_neg a8232, if_neg a8240, if_neg a8248, if_neg a8244, if_neg a8252, if_neg hp]
    have HS := wprio_no W x a hp v
    clear h hp a8224 a8228 a8232 a8240 a8248 a8244 a8252
    go_enter Tryd.func35, Tryd.ntmps35
    go_wp2_with (go_at_call 48; refine HS.mono ?_; rintro e w1 ⟨rfl, hw⟩; rw [hw]; clear hw w1)
    go_ret
    exact ⟨by rw [HE.out]; rfl, by rw [HE.out]; exact HF.out, Offs.refl _ _⟩
end Go.Proofs.YteiideeechnekabDoor
