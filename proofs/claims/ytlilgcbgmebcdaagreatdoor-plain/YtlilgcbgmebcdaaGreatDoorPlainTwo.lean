import Derived.Test.YtlilgcbgmebcdaaGreatDoorRefSetCsr2
import Derived.Test.YtlilgcbgmebcdaaGreatDoorRefCtl
import Derived.Test.YtlilgcbgmebcdaaGreatDoorRefLev
import Derived.Test.YtlilgcbgmebcdaaGreatDoorRefLds
import Derived.Test.YtlilgcbgmebcdaaGreatDoorRefNew
import Derived.Test.YtlilgcbgmebcdaaGreatDoorRefDo
import Derived.Test.YtlilgcbgmebcdaaGreatDoorRefStep
import Derived.Test.YtlilgcbgmebcdaaGreatDoorCodeStep
import Derived.Test.YtlilgcbgmebcdaaGreatDoorCodeNew
import Derived.Test.YtlilgcbgmebcdaaGreatDoorCodeDoL
import Derived.Test.YtlilgcbgmebcdaaGreatDoorCodeDoT
import Derived.Test.YtlilgcbgmebcdaaGreatDoorCodeDoV
/-
  Plain: where the document's step counts something.
-/
namespace Go.Proofs.YtlilgcbgmebcdaaGreatDoor
open Go.RowKit

def rst (n : Nat) (img : ByteArray) (xs : List Int) (pc : Int) (bs : List Int) : RSt := { newR n img with x := xs, pc := pc, ram := bs }

/-- Each counter small, and one not 0. -/
structure Bad (s : RSt) : Prop where
  t : 0 ≤ s.traps ∧ s.traps ≤ 3
  y : 0 ≤ s.system ∧ s.system ≤ 3
  d : 0 ≤ s.device ∧ s.device ≤ 3
  pos : 0 < s.traps + s.system + s.device
theorem w64 (v : Int) (h0 : 0 ≤ v) (h1 : v ≤ 10) : wrap64 v = v := by unfold wrap64; omega
theorem w01 : wrap64 (0 + 1) = 1 := w64 _ (by decide) (by decide)
theorem fail_bad (s : RSt) (c : Nat) (t : Int) (ht : 0 ≤ s.traps ∧ s.traps ≤ 1) (hy : 0 ≤ s.system ∧ s.system ≤ 1) (hd : 0 ≤ s.device ∧ s.device ≤ 1) : Bad (failR s c t) := by
  have e := w64 (s.traps + 1) (by omega) (by omega)
  unfold failR trapR
  split
  · refine ⟨?_, hy.imp id (fun h => by show s.system ≤ 3; omega), hd.imp id (fun h => by show s.device ≤ 3; omega), ?_⟩
    · show 0 ≤ wrap64 (s.traps + 1) ∧ wrap64 (s.traps + 1) ≤ 3
      rw [e]; omega
    · show 0 < wrap64 (s.traps + 1) + s.system + s.device
      rw [e]; omega
  · refine ⟨?_, hy.imp id (fun h => by show s.system ≤ 3; omega), hd.imp id (fun h => by show s.device ≤ 3; omega), ?_⟩
    · show 0 ≤ wrap64 (s.traps + 1) ∧ wrap64 (s.traps + 1) ≤ 3
      rw [e]; omega
    · show 0 < wrap64 (s.traps + 1) + s.system + s.device
      rw [e]; omega
def Same3 (s s' : RSt) : Prop := s'.traps = s.traps ∧ s'.system = s.system ∧ s'.device = s.device
theorem Same3.bad {s s' : RSt} (h : Same3 s s') (hb : Bad s) : Bad s' := by
  obtain ⟨a, b, c⟩ := h
  exact ⟨by rw [a]; exact hb.t, by rw [b]; exact hb.y, by rw [c]; exact hb.d, by rw [a, b, c]; exact hb.pos⟩
theorem claim_same (s : RSt) (m : Nat) : Same3 s (claimS s m) := by
  unfold claimS
  split
  · exact ⟨rfl, rfl, rfl⟩
  · exact ⟨rfl, rfl, rfl⟩
theorem dev_same (s : RSt) (a : Nat) : Same3 s (devR s a).1 := by
  unfold devR
  split; · exact ⟨rfl, rfl, rfl⟩
  split; · exact ⟨rfl, rfl, rfl⟩
  split; · exact ⟨rfl, rfl, rfl⟩
  split; · exact ⟨rfl, rfl, rfl⟩
  split; · exact ⟨rfl, rfl, rfl⟩
  split; · exact ⟨rfl, rfl, rfl⟩
  split; · exact ⟨rfl, rfl, rfl⟩
  split; · exact claim_same s _
  split; · exact ⟨rfl, rfl, rfl⟩
  split; · exact ⟨rfl, rfl, rfl⟩
  split; · exact claim_same s _
  exact ⟨rfl, rfl, rfl⟩
theorem compl_same (s : RSt) (c : Nat) (v : Int) : Same3 s (complR s c v) := by
  unfold complR
  split; · exact ⟨rfl, rfl, rfl⟩
  split; · exact ⟨rfl, rfl, rfl⟩
  split; · exact ⟨rfl, rfl, rfl⟩
  exact ⟨rfl, rfl, rfl⟩
theorem set_same (s : RSt) (a : Nat) (v : Int) : Same3 s (setR s a v).1 := by
  unfold setR
  by_cases c0 : a = 4096
  · rw [if_pos c0]; exact ⟨rfl, rfl, rfl⟩
  rw [if_neg c0]
  by_cases c1 : a = 4100
  · rw [if_pos c1]; exact ⟨rfl, rfl, rfl⟩
  rw [if_neg c1]
  by_cases c2 : a = 4104
  · rw [if_pos c2]; exact ⟨rfl, rfl, rfl⟩
  rw [if_neg c2]
  by_cases c3 : a = 8224
  · rw [if_pos c3]; exact ⟨rfl, rfl, rfl⟩
  rw [if_neg c3]
  by_cases c4 : a = 8192
  · rw [if_pos c4]; exact ⟨rfl, rfl, rfl⟩
  rw [if_neg c4]
  by_cases c5 : 8192 < a ∧ a < 8224 ∧ a % 4 = 0
  · rw [if_pos c5]; exact ⟨rfl, rfl, rfl⟩
  rw [if_neg c5]
  by_cases c6 : a = 8228
  · rw [if_pos c6]; exact ⟨rfl, rfl, rfl⟩
  rw [if_neg c6]
  by_cases c7 : a = 8240
  · rw [if_pos c7]; exact ⟨rfl, rfl, rfl⟩
  rw [if_neg c7]
  by_cases c8 : a = 8244
  · rw [if_pos c8]; exact compl_same s _ _
  rw [if_neg c8]
  by_cases c9 : a = 8232
  · rw [if_pos c9]; exact ⟨rfl, rfl, rfl⟩
  rw [if_neg c9]
  by_cases c10 : a = 8248
  · rw [if_pos c10]; exact ⟨rfl, rfl, rfl⟩
  rw [if_neg c10]
  by_cases c11 : a = 8252
  · rw [if_pos c11]; exact compl_same s _ _
  rw [if_neg c11]
  exact ⟨rfl, rfl, rfl⟩
theorem bad_eq (s : RSt) (a b c : Int) (h1 : s.traps = a) (h2 : s.system = b) (h3 : s.device = c) (ha : 0 ≤ a ∧ a ≤ 3) (hb : 0 ≤ b ∧ b ≤ 3) (hc : 0 ≤ c ∧ c ≤ 3) (hp : 0 < a + b + c) : Bad s := ⟨by rw [h1]; exact ha, by rw [h2]; exact hb, by rw [h3]; exact hc, by rw [h1, h2, h3]; exact hp⟩
theorem fail_eq (s : RSt) (c : Nat) (t a b d : Int) (h1 : s.traps = a) (h2 : s.system = b) (h3 : s.device = d) (ha : 0 ≤ a ∧ a ≤ 1) (hb : 0 ≤ b ∧ b ≤ 1) (hd : 0 ≤ d ∧ d ≤ 1) : Bad (failR s c t) := fail_bad s c t (by rw [h1]; exact ha) (by rw [h2]; exact hb) (by rw [h3]; exact hd)

theorem dv_bad (n : Nat) (img : ByteArray) (xs : List Int) (pc : Int) (bs : List Int) : Bad (dvR (rst n img xs pc bs)) := bad_eq _ 0 0 1 rfl rfl w01 (by decide) (by decide) (by decide) (by decide)
theorem sys_bad (n : Nat) (img : ByteArray) (xs : List Int) (pc : Int) (bs : List Int) : Bad (sysR (rst n img xs pc bs)) := bad_eq _ 0 1 0 rfl w01 rfl (by decide) (by decide) (by decide) (by decide)
theorem rst_fail (n : Nat) (img : ByteArray) (xs : List Int) (pc : Int) (bs : List Int) (c : Nat) (t : Int) : Bad (failR (rst n img xs pc bs) c t) := fail_eq _ c t 0 0 0 rfl rfl rfl (by decide) (by decide) (by decide)
theorem sys_fail (n : Nat) (img : ByteArray) (xs : List Int) (pc : Int) (bs : List Int) (c : Nat) (t : Int) : Bad (failR (sysR (rst n img xs pc bs)) c t) := fail_eq _ c t 0 1 0 rfl w01 rfl (by decide) (by decide) (by decide)
theorem dv_fail (n : Nat) (img : ByteArray) (xs : List Int) (pc : Int) (bs : List Int) (c : Nat) (t : Int) (s' : RSt) (h : Same3 (dvR (rst n img xs pc bs)) s') : Bad (failR s' c t) := by
  obtain ⟨a, b, d⟩ := h
  exact fail_eq s' c t 0 0 1 a b (d.trans w01) (by decide) (by decide) (by decide)
theorem ldOut_bad (n : Nat) (img : ByteArray) (xs : List Int) (pc : Int) (bs : List Int) (rd a : Nat) : Bad (ldOut (rst n img xs pc bs) rd a) := by
  unfold ldOut
  split
  · exact Same3.bad (s := (devR (dvR (rst n img xs pc bs)) a).1) ⟨rfl, rfl, rfl⟩ ((dev_same _ a).bad (dv_bad n img xs pc bs))
  · exact dv_fail n img xs pc bs _ _ _ (dev_same _ a)
theorem stOut_bad (n : Nat) (img : ByteArray) (xs : List Int) (pc : Int) (bs : List Int) (a : Nat) (v : Int) : Bad (stOut (rst n img xs pc bs) a v) := by
  unfold stOut
  split
  · exact Same3.bad (s := (setR (dvR (rst n img xs pc bs)) a v).1) ⟨rfl, rfl, rfl⟩ ((set_same _ a v).bad (dv_bad n img xs pc bs))
  · exact dv_fail n img xs pc bs _ _ _ (set_same _ a v)
theorem lev_bad (n : Nat) (img : ByteArray) (xs : List Int) (pc : Int) (bs : List Int) (op w : Int) : Bad (levR (rst n img xs pc bs) op w) := by
  unfold levR
  split; · exact sys_fail n img xs pc bs _ _
  split; · exact sys_fail n img xs pc bs _ _
  split
  · rw [if_pos (show (rst n img xs pc bs).mode = 3 from rfl)]; exact Same3.bad (s := sysR (rst n img xs pc bs)) ⟨rfl, rfl, rfl⟩ (sys_bad n img xs pc bs)
  split
  · rw [if_pos (show (rst n img xs pc bs).mode = 3 from rfl)]; exact Same3.bad (s := sysR (rst n img xs pc bs)) ⟨rfl, rfl, rfl⟩ (sys_bad n img xs pc bs)
  · rw [if_pos (show (rst n img xs pc bs).mode = 3 from rfl)]; exact Same3.bad (s := sysR (rst n img xs pc bs)) ⟨rfl, rfl, rfl⟩ (sys_bad n img xs pc bs)
theorem ctl_bad (n : Nat) (img : ByteArray) (xs : List Int) (pc : Int) (bs : List Int) (op : Int) (rd r1 k : Nat) (w a old : Int) : Bad (ctlR (rst n img xs pc bs) op rd r1 k w a old (stR (sysR (rst n img xs pc bs)) k)) := by
  unfold ctlR
  split
  · have h2 : Bad (if wrB op r1 then stR (sysR (rst n img xs pc bs)) k (ctlV op old a r1) else sysR (rst n img xs pc bs)) := by
      split
      · exact Same3.bad (stR_cnt _ _ _) (sys_bad n img xs pc bs)
      · exact sys_bad n img xs pc bs
    exact Same3.bad (s := if wrB op r1 then stR (sysR (rst n img xs pc bs)) k (ctlV op old a r1) else sysR (rst n img xs pc bs)) ⟨rfl, rfl, rfl⟩ h2
  · exact sys_fail n img xs pc bs _ _
theorem csrs_zero (n : Nat) (img : ByteArray) (xs : List Int) (pc : Int) (bs : List Int) : csrsR (sysR (rst n img xs pc bs)) = List.replicate 19 0 := by kernel_rfl
theorem csr_zero (n : Nat) (img : ByteArray) (xs : List Int) (pc : Int) (bs : List Int) (k : Nat) : (csrsR (sysR (rst n img xs pc bs))).getD k 0 = 0 := by
  rw [csrs_zero, List.getD_eq_getElem?_getD, List.getElem?_replicate]
  split <;> rfl
theorem fine_sys (n : Nat) (img : ByteArray) (xs : List Int) (pc : Int) (bs : List Int) : Fine (sysR (rst n img xs pc bs)) := ⟨by show (0 : Int) ≤ 0; decide, by show (0 : Int) ≤ 3; decide, by show (0 : Int) ≤ 0; decide, by show (0 : Int) ≤ 3; decide⟩
end Go.Proofs.YtlilgcbgmebcdaaGreatDoor

/-
  Plain: instructions of control registers count.
-/
namespace Go.Proofs.YtlilgcbgmebcdaaGreatDoor
open Go.RowKit

def numsN : List Nat := [256, 260, 261, 320, 321, 322, 323, 324, 768, 770, 771, 772, 773, 832, 833, 834, 835, 836, 3860]
theorem nums_at (n : Nat) (hn : n ∈ numsN) : ∃ k, k < 19 ∧ ((n : Nat) : Int) = numsR.getD k 0 := by
  simp only [numsN, List.mem_cons, List.not_mem_nil, or_false] at hn
  rcases hn with rfl | rfl | rfl | rfl | rfl | rfl | rfl | rfl | rfl | rfl | rfl | rfl | rfl | rfl | rfl | rfl | rfl | rfl | rfl
  · exact ⟨0, by decide, rfl⟩
  · exact ⟨1, by decide, rfl⟩
  · exact ⟨2, by decide, rfl⟩
  · exact ⟨3, by decide, rfl⟩
  · exact ⟨4, by decide, rfl⟩
  · exact ⟨5, by decide, rfl⟩
  · exact ⟨6, by decide, rfl⟩
  · exact ⟨7, by decide, rfl⟩
  · exact ⟨8, by decide, rfl⟩
  · exact ⟨9, by decide, rfl⟩
  · exact ⟨10, by decide, rfl⟩
  · exact ⟨11, by decide, rfl⟩
  · exact ⟨12, by decide, rfl⟩
  · exact ⟨13, by decide, rfl⟩
  · exact ⟨14, by decide, rfl⟩
  · exact ⟨15, by decide, rfl⟩
  · exact ⟨16, by decide, rfl⟩
  · exact ⟨17, by decide, rfl⟩
  · exact ⟨18, by decide, rfl⟩
theorem control_bad (n : Nat) (img : ByteArray) (xs : List Int) (pc : Int) (bs : List Int) (op : Int) (ho : 44 ≤ op ∧ op ≤ 49) (rd r1 : Nat) (hrd : rd < 32) (hr1 : r1 < 32) (r2 : Int) (k : Nat) (hk : k < 4096) (w a : Int) (a0 : 0 ≤ a) (a1 : a < 4294967296) :
    ∃ s', Bad s' ∧ ∀ (W : World) (p : Nat) (b : RBl), RefAt W p b (rst n img xs pc bs) → b.Apart p →
      Calls Tryz.prog 38 #[.pointer (some ⟨p, 0, none⟩), .agg #[.int .i64 op, .int .i64 rd, .int .i64 r1, .int .i64 r2, .int .u32 k], .int .u32 w, .int .u32 a] W fun e W' => e = .returned (.tuple #[]) ∧ RefAt W' p b s' ∧ Offs (b.l p) W W' := by
  have hop : op = 44 ∨ op = 45 ∨ op = 46 ∨ op = 47 ∨ op = 48 ∨ op = 49 := by omega
  by_cases hn : k ∈ numsN
  · obtain ⟨j, hj, ej⟩ := nums_at k hn
    refine ⟨ctlR (rst n img xs pc bs) op rd r1 k w a 0 (stR (sysR (rst n img xs pc bs)) k), ctl_bad n img xs pc bs op rd r1 k w a 0, fun W p b h A => ?_⟩
    have AO : 0 ≤ a ∧ a < 4294967296 ∧ (0 : Int) ≤ 0 ∧ (0 : Int) < 4294967296 := ⟨a0, a1, by decide, by decide⟩
    have m0 : 0 ≤ (rst n img xs pc bs).mode := by show (0 : Int) ≤ 3; decide
    have m3 : (rst n img xs pc bs).mode ≤ 3 := by show (3 : Int) ≤ 3; decide
    have CS : ∀ W', RefAt W' p b (sysR (rst n img xs pc bs)) → Calls Tryz.prog 43 #[.pointer (some ⟨p, 0, none⟩), .int .u32 k] W' fun e W'' => e = .returned (.tuple #[.int .u32 0, .bool true]) ∧ ∃ q, W'' = W'.drewN q := fun W' h' => by
      have := csr_any W' p b _ h' (fine_sys n img xs pc bs) j hj
      rw [csr_zero, ← ej] at this
      exact this
    have ST : ∀ W' v, 0 ≤ v → v < 4294967296 → RefAt W' p b (sysR (rst n img xs pc bs)) → Calls Tryz.prog 68 #[.pointer (some ⟨p, 0, none⟩), .int .u32 k, .int .u32 v] W' fun e W'' => e = .returned (.tuple #[]) ∧ RefAt W'' p b (stR (sysR (rst n img xs pc bs)) k v) ∧ Offs (b.l p) W' W'' := fun W' v v0 v1 h' => setCsr_any W' p b _ h' A k hn v v0 v1
    rcases hop with rfl | rfl | rfl | rfl | rfl | rfl
    · exact ctl_44 W p b _ h A rd hrd r2 r1 k hr1 hk w a 0 AO m0 m3 _ CS ST
    · by_cases hz : r1 = 0
      · exact ctl_45_z W p b _ h A rd hrd r2 r1 k hr1 hk w a 0 hz AO m0 m3 _ CS ST
      · exact ctl_45_n W p b _ h A rd hrd r2 r1 k hr1 hk w a 0 hz AO m0 m3 _ CS ST
    · by_cases hz : r1 = 0
      · exact ctl_46_z W p b _ h A rd hrd r2 r1 k hr1 hk w a 0 hz AO m0 m3 _ CS ST
      · exact ctl_46_n W p b _ h A rd hrd r2 r1 k hr1 hk w a 0 hz AO m0 m3 _ CS ST
    · exact ctl_47 W p b _ h A rd hrd r2 r1 k hr1 hk w a 0 AO m0 m3 _ CS ST
    · by_cases hz : r1 = 0
      · exact ctl_48_z W p b _ h A rd hrd r2 r1 k hr1 hk w a 0 hz AO m0 m3 _ CS ST
      · exact ctl_48_n W p b _ h A rd hrd r2 r1 k hr1 hk w a 0 hz AO m0 m3 _ CS ST
    · by_cases hz : r1 = 0
      · exact ctl_49_z W p b _ h A rd hrd r2 r1 k hr1 hk w a 0 hz AO m0 m3 _ CS ST
      · exact ctl_49_n W p b _ h A rd hrd r2 r1 k hr1 hk w a 0 hz AO m0 m3 _ CS ST
  · refine ⟨failR (sysR (rst n img xs pc bs)) 2 w, sys_fail n img xs pc bs 2 w, fun W p b h A => ?_⟩
    have hne : ∀ z, z ∈ numsN → k ≠ z := fun z hz e => hn (e ▸ hz)
    have h256 : ((k : Int) == 256) = false := by have := hne 256 (by decide); simp; omega
    have h260 : ((k : Int) == 260) = false := by have := hne 260 (by decide); simp; omega
    have h261 : ((k : Int) == 261) = false := by have := hne 261 (by decide); simp; omega
    have h320 : ((k : Int) == 320) = false := by have := hne 320 (by decide); simp; omega
    have h321 : ((k : Int) == 321) = false := by have := hne 321 (by decide); simp; omega
    have h322 : ((k : Int) == 322) = false := by have := hne 322 (by decide); simp; omega
    have h323 : ((k : Int) == 323) = false := by have := hne 323 (by decide); simp; omega
    have h324 : ((k : Int) == 324) = false := by have := hne 324 (by decide); simp; omega
    have h768 : ((k : Int) == 768) = false := by have := hne 768 (by decide); simp; omega
    have h770 : ((k : Int) == 770) = false := by have := hne 770 (by decide); simp; omega
    have h771 : ((k : Int) == 771) = false := by have := hne 771 (by decide); simp; omega
    have h772 : ((k : Int) == 772) = false := by have := hne 772 (by decide); simp; omega
    have h773 : ((k : Int) == 773) = false := by have := hne 773 (by decide); simp; omega
    have h832 : ((k : Int) == 832) = false := by have := hne 832 (by decide); simp; omega
    have h833 : ((k : Int) == 833) = false := by have := hne 833 (by decide); simp; omega
    have h834 : ((k : Int) == 834) = false := by have := hne 834 (by decide); simp; omega
    have h835 : ((k : Int) == 835) = false := by have := hne 835 (by decide); simp; omega
    have h836 : ((k : Int) == 836) = false := by have := hne 836 (by decide); simp; omega
    have h3860 : ((k : Int) == 3860) = false := by have := hne 3860 (by decide); simp; omega
    have CS : ∀ W', RefAt W' p b (sysR (rst n img xs pc bs)) → Calls Tryz.prog 43 #[.pointer (some ⟨p, 0, none⟩), .int .u32 k] W' fun e W'' => e = .returned (.tuple #[.int .u32 0, .bool false]) ∧ ∃ q, W'' = W'.drewN q := fun W' _ => by
      refine (csr_none W' p k h256 h260 h261 h320 h321 h322 h323 h324 h768 h770 h771 h772 h773 h832 h833 h834 h835 h836 h3860).mono ?_
      rintro e w1 ⟨rfl, rfl⟩
      exact ⟨rfl, 0, rfl⟩
    rcases hop with rfl | rfl | rfl | rfl | rfl | rfl
    · exact ctlno_44 W p b _ h A rd hrd r2 r1 k hr1 hk w a 0 CS
    · exact ctlno_45 W p b _ h A rd hrd r2 r1 k hr1 hk w a 0 CS
    · exact ctlno_46 W p b _ h A rd hrd r2 r1 k hr1 hk w a 0 CS
    · exact ctlno_47 W p b _ h A rd hrd r2 r1 k hr1 hk w a 0 CS
    · exact ctlno_48 W p b _ h A rd hrd r2 r1 k hr1 hk w a 0 CS
    · exact ctlno_49 W p b _ h A rd hrd r2 r1 k hr1 hk w a 0 CS
end Go.Proofs.YtlilgcbgmebcdaaGreatDoor

/-
  Plain: one step: either the document's step counts something, or both computers do the same.
-/
namespace Go.Proofs.YtlilgcbgmebcdaaGreatDoor
open Go.RowKit

def cst (n : Nat) (img : ByteArray) (xs : List Int) (pc : Int) (bs : List Int) : CSt := { newC n img with regs := xs, pc := pc, ram := bs }
structure PI (n : Nat) (xs : List Int) (pc : Int) (bs : List Int) : Prop where
  z : xs[0]?.getD 0 = 0
  x : ∀ i : Nat, 0 ≤ xs[i]?.getD 0 ∧ xs[i]?.getD 0 < 4294967296
  p0 : 0 ≤ pc
  p1 : pc < 4294967296
  p4 : pc % 4 = 0
  bl : bs.length = n
  b : Byt bs
theorem PI.cok {n : Nat} {xs : List Int} {pc : Int} {bs : List Int} (h : PI n xs pc bs) (img : ByteArray) : Cok (cst n img xs pc bs) := ⟨h.z, h.x, h.p0, h.p1⟩
theorem PI.xok {n : Nat} {xs : List Int} {pc : Int} {bs : List Int} (h : PI n xs pc bs) (img : ByteArray) : Xok (rst n img xs pc bs) := ⟨h.p0, h.p1, h.x⟩
theorem PI.pc {n : Nat} {xs : List Int} {pc : Int} {bs : List Int} (h : PI n xs pc bs) (z : Int) (h0 : 0 ≤ z) (h1 : z < 4294967296) (h4 : z % 4 = 0) : PI n xs z bs := ⟨h.z, h.x, h0, h1, h4, h.bl, h.b⟩
theorem PI.next {n : Nat} {xs : List Int} {pc : Int} {bs : List Int} (h : PI n xs pc bs) : PI n xs ((pc + 4) % 4294967296) bs := h.pc _ (by omega) (by omega) (by have := h.p4; omega)
theorem PI.put {n : Nat} {xs : List Int} {pc : Int} {bs : List Int} (h : PI n xs pc bs) (rd : Nat) (v : Int) (v0 : 0 ≤ v) (v1 : v < 4294967296) : PI n (putX xs rd v) pc bs := by
  refine ⟨?_, ?_, h.p0, h.p1, h.p4, h.bl, h.b⟩
  · unfold putX
    split
    · exact h.z
    · rename_i hr
      rw [List.getElem?_set]
      simp [hr]
      exact h.z
  · intro i
    unfold putX
    split
    · exact h.x i
    · rw [List.getElem?_set]
      split
      · split
        · simp; omega
        · simp
      · exact h.x i
theorem PI.ram {n : Nat} {xs : List Int} {pc : Int} {bs : List Int} (h : PI n xs pc bs) (a w : Nat) (v : Int) : PI n xs pc (stV bs a v w) := ⟨h.z, h.x, h.p0, h.p1, h.p4, by rw [stV_len]; exact h.bl, stV_byt h.b a v w⟩

def BadStep (n : Nat) (img : ByteArray) (xs : List Int) (pc : Int) (bs : List Int) : Prop := ∃ s', Bad s' ∧ ∀ (W : World) (p : Nat) (b : RBl), RefAt W p b (rst n img xs pc bs) → b.Apart p → Calls Tryz.prog 7 #[.pointer (some ⟨p, 0, none⟩)] W fun e W' => e = .returned (.tuple #[]) ∧ RefAt W' p b s' ∧ Offs (b.l p) W W'
def GoodStep (n : Nat) (img : ByteArray) (xs : List Int) (pc : Int) (bs : List Int) : Prop := ∃ xs' pc' bs', PI n xs' pc' bs' ∧
  (∀ (W : World) (p : Nat) (b : RBl), RefAt W p b (rst n img xs pc bs) → b.Apart p → Calls Tryz.prog 7 #[.pointer (some ⟨p, 0, none⟩)] W fun e W' => e = .returned (.tuple #[]) ∧ RefAt W' p b (rst n img xs' pc' bs') ∧ Offs (b.l p) W W') ∧
  (∀ (W : World) (x r : Nat), CodeAt W x r (cst n img xs pc bs) → x ≠ r → D.Tabs W → Calls Tryz.prog 9 #[.pointer (some ⟨x, 0, none⟩)] W fun e W' => e = .returned (.tuple #[]) ∧ CodeAt W' x r (cst n img xs' pc' bs') ∧ Offs [x, r] W W')

theorem chosen_rst (n : Nat) (img : ByteArray) (xs : List Int) (pc : Int) (bs : List Int) : chosenR (rst n img xs pc bs) = -1 := by kernel_rfl

theorem bad_of {n : Nat} {img : ByteArray} {xs : List Int} {pc : Int} {bs : List Int} {m : Nat} (hm : pc = m) (ho : m + 4 ≤ bs.length) (s' : RSt) (hb : Bad s')
    (DO : ∀ (W : World) (p : Nat) (b : RBl), RefAt W p b (rst n img xs pc bs) → b.Apart p → Calls Tryz.prog 19 #[.pointer (some ⟨p, 0, none⟩), .int .u32 (leV bs m 4)] W fun e W' => e = .returned (.tuple #[]) ∧ RefAt W' p b s' ∧ Offs (b.l p) W W') : BadStep n img xs pc bs :=
  ⟨s', hb, fun W p b h A => step_do W p b _ h rfl (chosen_rst n img xs pc bs) m hm ho s' fun W' h' => DO W' p b h' A⟩
theorem good_of {n : Nat} {img : ByteArray} {xs : List Int} {pc : Int} {bs : List Int} {m : Nat} (hm : pc = m) (ho : m + 4 ≤ bs.length) (xs' : List Int) (pc' : Int) (bs' : List Int) (hp : PI n xs' pc' bs') (op rd r1 r2 imm : Int) (hd : D.dec (leV bs m 4) = ⟨op, rd, r1, r2, imm⟩) (h0 : op ≠ 0)
    (DO : ∀ (W : World) (p : Nat) (b : RBl), RefAt W p b (rst n img xs pc bs) → b.Apart p → Calls Tryz.prog 19 #[.pointer (some ⟨p, 0, none⟩), .int .u32 (leV bs m 4)] W fun e W' => e = .returned (.tuple #[]) ∧ RefAt W' p b (rst n img xs' pc' bs') ∧ Offs (b.l p) W W')
    (CO : ∀ (W : World) (x r : Nat), CodeAt W x r (cst n img xs pc bs) → x ≠ r → Calls Tryz.prog 27 #[.pointer (some ⟨x, 0, none⟩), .agg #[.int .i64 op, .int .i64 rd, .int .i64 r1, .int .i64 r2, .int .u32 imm]] W fun e W' => e = .returned (.tuple #[]) ∧ CodeAt W' x r (cst n img xs' pc' bs') ∧ Offs [x, r] W W') : GoodStep n img xs pc bs :=
  ⟨xs', pc', bs', hp, fun W p b h A => step_do W p b _ h rfl (chosen_rst n img xs pc bs) m hm ho _ fun W' h' => DO W' p b h' A,
    fun W x r h A T => cstep_do W x r _ h T m hm ho op rd r1 r2 imm hd (by simpa using h0) _ fun W' h' => CO W' x r h' A⟩

theorem alu_bd (op a b : Int) (a0 : 0 ≤ a) (a1 : a < 4294967296) (b0 : 0 ≤ b) (b1 : b < 4294967296) : 0 ≤ aluV op a b ∧ aluV op a b < 4294967296 := by
  have xo : 0 ≤ bits .xor .u32 a b ∧ bits .xor .u32 a b < 4294967296 := by
    rw [u32_xor a b a0 a1 b0 b1]
    have := Nat.xor_lt_two_pow (n := 32) (x := a.toNat) (y := b.toNat) (by omega) (by omega)
    omega
  have an : 0 ≤ bits .and .u32 a b ∧ bits .and .u32 a b < 4294967296 := by
    rw [u32_and a b a0 a1 b0 b1]
    have : a.toNat &&& b.toNat ≤ a.toNat := Nat.and_le_left
    omega
  have oo := or_bd a b a0 a1 b0 b1
  unfold aluV
  split; · omega
  split; · omega
  split; · unfold oneV; split <;> decide
  split; · unfold oneV; split <;> decide
  split; · exact xo
  split; · exact oo
  split; · exact an
  split; · exact ⟨Int.emod_nonneg _ (by decide), Int.emod_lt_of_pos _ (by decide)⟩
  split
  · exact ⟨Int.ediv_nonneg a0 (Int.pow_nonneg (by decide)), Int.lt_of_le_of_lt (Int.ediv_le_self _ a0) a1⟩
  split; · exact ⟨Int.emod_nonneg _ (by decide), Int.emod_lt_of_pos _ (by decide)⟩
  decide
end Go.Proofs.YtlilgcbgmebcdaaGreatDoor

/-
  Plain: one step, for every instruction.
-/
namespace Go.Proofs.YtlilgcbgmebcdaaGreatDoor
open Go.RowKit

theorem compl_dv (n : Nat) (img : ByteArray) (xs : List Int) (pc : Int) (bs : List Int) (v : Int) (v0 : 0 ≤ v) (p : Nat) (b : RBl) :
    ∀ W', RefAt W' p b (dvR (rst n img xs pc bs)) → ∀ c : Nat, c < 2 → Calls Tryz.prog 105 #[.pointer (some ⟨p, 0, none⟩), .int .i64 c, .int .u32 v] W' fun e W'' => e = .returned (.tuple #[]) ∧ RefAt W'' p b (complR (dvR (rst n img xs pc bs)) c v) ∧ Offs (b.l p) W' W'' := fun W' h c hc =>
  compl_none W' p b _ h c hc v v0 fun k => by
    show ((List.replicate 8 (⟨false, false, false, 0⟩ : Srce))[k]?.getD ⟨false, false, false, 0⟩).served = false
    rw [List.getElem?_replicate]
    split <;> rfl

theorem stp_1 {n : Nat} {img : ByteArray} {xs : List Int} {pc : Int} {bs : List Int} {m : Nat} (P : PI n xs pc bs) (hm : pc = m) (ho : m + 4 ≤ bs.length) (nd n1 n2 : Nat) (imm : Int) (K : InsOk 1 nd n1 n2 imm) (hd : D.dec (leV bs m 4) = ⟨1, nd, n1, n2, imm⟩) : GoodStep n img xs pc bs := by
  have lv := (leV_bd P.b m).2.2
  have xa := P.x n1
  have xb := P.x n2
  have i0 := K.i0
  have i1 := K.i1
  have hI : Iok nd n1 n2 imm := ⟨by have := K.d1; omega, by have := K.s1; omega, by have := K.t1; omega, i0, i1⟩
  exact good_of hm ho (putX xs nd imm) ((pc + 4) % 4294967296) (bs) ((P.put nd _ i0 i1).next) 1 nd n1 n2 imm hd (by decide) (fun W p b h A => do_lui W p b _ h A (P.xok img) _ lv.1 lv.2 nd n1 n2 imm hd K) (fun W x r h A => cdo_1 W x r _ h A (P.cok img) nd n1 n2 imm hI)
theorem stp_2 {n : Nat} {img : ByteArray} {xs : List Int} {pc : Int} {bs : List Int} {m : Nat} (P : PI n xs pc bs) (hm : pc = m) (ho : m + 4 ≤ bs.length) (nd n1 n2 : Nat) (imm : Int) (K : InsOk 2 nd n1 n2 imm) (hd : D.dec (leV bs m 4) = ⟨2, nd, n1, n2, imm⟩) : GoodStep n img xs pc bs := by
  have lv := (leV_bd P.b m).2.2
  have xa := P.x n1
  have xb := P.x n2
  have i0 := K.i0
  have i1 := K.i1
  have hI : Iok nd n1 n2 imm := ⟨by have := K.d1; omega, by have := K.s1; omega, by have := K.t1; omega, i0, i1⟩
  exact good_of hm ho (putX xs nd ((pc + imm) % 4294967296)) ((pc + 4) % 4294967296) (bs) ((P.put nd _ (by omega) (by omega)).next) 2 nd n1 n2 imm hd (by decide) (fun W p b h A => do_auipc W p b _ h A (P.xok img) _ lv.1 lv.2 nd n1 n2 imm hd K) (fun W x r h A => cdo_2 W x r _ h A (P.cok img) nd n1 n2 imm hI)
theorem stp_19 {n : Nat} {img : ByteArray} {xs : List Int} {pc : Int} {bs : List Int} {m : Nat} (P : PI n xs pc bs) (hm : pc = m) (ho : m + 4 ≤ bs.length) (nd n1 n2 : Nat) (imm : Int) (K : InsOk 19 nd n1 n2 imm) (hd : D.dec (leV bs m 4) = ⟨19, nd, n1, n2, imm⟩) : GoodStep n img xs pc bs := by
  have lv := (leV_bd P.b m).2.2
  have xa := P.x n1
  have xb := P.x n2
  have i0 := K.i0
  have i1 := K.i1
  have hI : Iok nd n1 n2 imm := ⟨by have := K.d1; omega, by have := K.s1; omega, by have := K.t1; omega, i0, i1⟩
  have ab := alu_bd 19 _ _ xa.1 xa.2 i0 i1
  refine good_of hm ho (putX xs nd (aluV 19 (xs[n1]?.getD 0) imm)) ((pc + 4) % 4294967296) bs ((P.put nd _ ab.1 ab.2).next) 19 nd n1 n2 imm hd (by decide) (fun W p b h A => ?_) (fun W x r h A => cdo_19 W x r _ h A (P.cok img) nd n1 n2 imm hI)
  have e : sumV 19 (xs[n1]?.getD 0) (xs[n2]?.getD 0) imm pc = aluV 19 (xs[n1]?.getD 0) imm := by simp [sumV]
  have := do_sum W p b _ h A (P.xok img) _ lv.1 lv.2 19 nd n1 n2 imm hd K (by decide) (by decide)
  rw [show sumV 19 (xAt (rst n img xs pc bs) n1) (xAt (rst n img xs pc bs) n2) imm (rst n img xs pc bs).pc = aluV 19 (xs[n1]?.getD 0) imm from e] at this
  exact this
theorem stp_20 {n : Nat} {img : ByteArray} {xs : List Int} {pc : Int} {bs : List Int} {m : Nat} (P : PI n xs pc bs) (hm : pc = m) (ho : m + 4 ≤ bs.length) (nd n1 n2 : Nat) (imm : Int) (K : InsOk 20 nd n1 n2 imm) (hd : D.dec (leV bs m 4) = ⟨20, nd, n1, n2, imm⟩) : GoodStep n img xs pc bs := by
  have lv := (leV_bd P.b m).2.2
  have xa := P.x n1
  have xb := P.x n2
  have i0 := K.i0
  have i1 := K.i1
  have hI : Iok nd n1 n2 imm := ⟨by have := K.d1; omega, by have := K.s1; omega, by have := K.t1; omega, i0, i1⟩
  have ab := alu_bd 20 _ _ xa.1 xa.2 i0 i1
  refine good_of hm ho (putX xs nd (aluV 20 (xs[n1]?.getD 0) imm)) ((pc + 4) % 4294967296) bs ((P.put nd _ ab.1 ab.2).next) 20 nd n1 n2 imm hd (by decide) (fun W p b h A => ?_) (fun W x r h A => cdo_20 W x r _ h A (P.cok img) nd n1 n2 imm hI)
  have e : sumV 20 (xs[n1]?.getD 0) (xs[n2]?.getD 0) imm pc = aluV 20 (xs[n1]?.getD 0) imm := by simp [sumV]
  have := do_sum W p b _ h A (P.xok img) _ lv.1 lv.2 20 nd n1 n2 imm hd K (by decide) (by decide)
  rw [show sumV 20 (xAt (rst n img xs pc bs) n1) (xAt (rst n img xs pc bs) n2) imm (rst n img xs pc bs).pc = aluV 20 (xs[n1]?.getD 0) imm from e] at this
  exact this
theorem stp_21 {n : Nat} {img : ByteArray} {xs : List Int} {pc : Int} {bs : List Int} {m : Nat} (P : PI n xs pc bs) (hm : pc = m) (ho : m + 4 ≤ bs.length) (nd n1 n2 : Nat) (imm : Int) (K : InsOk 21 nd n1 n2 imm) (hd : D.dec (leV bs m 4) = ⟨21, nd, n1, n2, imm⟩) : GoodStep n img xs pc bs := by
  have lv := (leV_bd P.b m).2.2
  have xa := P.x n1
  have xb := P.x n2
  have i0 := K.i0
  have i1 := K.i1
  have hI : Iok nd n1 n2 imm := ⟨by have := K.d1; omega, by have := K.s1; omega, by have := K.t1; omega, i0, i1⟩
  have ab := alu_bd 21 _ _ xa.1 xa.2 i0 i1
  refine good_of hm ho (putX xs nd (aluV 21 (xs[n1]?.getD 0) imm)) ((pc + 4) % 4294967296) bs ((P.put nd _ ab.1 ab.2).next) 21 nd n1 n2 imm hd (by decide) (fun W p b h A => ?_) (fun W x r h A => cdo_21 W x r _ h A (P.cok img) nd n1 n2 imm hI)
  have e : sumV 21 (xs[n1]?.getD 0) (xs[n2]?.getD 0) imm pc = aluV 21 (xs[n1]?.getD 0) imm := by simp [sumV]
  have := do_sum W p b _ h A (P.xok img) _ lv.1 lv.2 21 nd n1 n2 imm hd K (by decide) (by decide)
  rw [show sumV 21 (xAt (rst n img xs pc bs) n1) (xAt (rst n img xs pc bs) n2) imm (rst n img xs pc bs).pc = aluV 21 (xs[n1]?.getD 0) imm from e] at this
  exact this
theorem stp_22 {n : Nat} {img : ByteArray} {xs : List Int} {pc : Int} {bs : List Int} {m : Nat} (P : PI n xs pc bs) (hm : pc = m) (ho : m + 4 ≤ bs.length) (nd n1 n2 : Nat) (imm : Int) (K : InsOk 22 nd n1 n2 imm) (hd : D.dec (leV bs m 4) = ⟨22, nd, n1, n2, imm⟩) : GoodStep n img xs pc bs := by
  have lv := (leV_bd P.b m).2.2
  have xa := P.x n1
  have xb := P.x n2
  have i0 := K.i0
  have i1 := K.i1
  have hI : Iok nd n1 n2 imm := ⟨by have := K.d1; omega, by have := K.s1; omega, by have := K.t1; omega, i0, i1⟩
  have ab := alu_bd 22 _ _ xa.1 xa.2 i0 i1
  refine good_of hm ho (putX xs nd (aluV 22 (xs[n1]?.getD 0) imm)) ((pc + 4) % 4294967296) bs ((P.put nd _ ab.1 ab.2).next) 22 nd n1 n2 imm hd (by decide) (fun W p b h A => ?_) (fun W x r h A => cdo_22 W x r _ h A (P.cok img) nd n1 n2 imm hI)
  have e : sumV 22 (xs[n1]?.getD 0) (xs[n2]?.getD 0) imm pc = aluV 22 (xs[n1]?.getD 0) imm := by simp [sumV]
  have := do_sum W p b _ h A (P.xok img) _ lv.1 lv.2 22 nd n1 n2 imm hd K (by decide) (by decide)
  rw [show sumV 22 (xAt (rst n img xs pc bs) n1) (xAt (rst n img xs pc bs) n2) imm (rst n img xs pc bs).pc = aluV 22 (xs[n1]?.getD 0) imm from e] at this
  exact this
theorem stp_23 {n : Nat} {img : ByteArray} {xs : List Int} {pc : Int} {bs : List Int} {m : Nat} (P : PI n xs pc bs) (hm : pc = m) (ho : m + 4 ≤ bs.length) (nd n1 n2 : Nat) (imm : Int) (K : InsOk 23 nd n1 n2 imm) (hd : D.dec (leV bs m 4) = ⟨23, nd, n1, n2, imm⟩) : GoodStep n img xs pc bs := by
  have lv := (leV_bd P.b m).2.2
  have xa := P.x n1
  have xb := P.x n2
  have i0 := K.i0
  have i1 := K.i1
  have hI : Iok nd n1 n2 imm := ⟨by have := K.d1; omega, by have := K.s1; omega, by have := K.t1; omega, i0, i1⟩
  have ab := alu_bd 23 _ _ xa.1 xa.2 i0 i1
  refine good_of hm ho (putX xs nd (aluV 23 (xs[n1]?.getD 0) imm)) ((pc + 4) % 4294967296) bs ((P.put nd _ ab.1 ab.2).next) 23 nd n1 n2 imm hd (by decide) (fun W p b h A => ?_) (fun W x r h A => cdo_23 W x r _ h A (P.cok img) nd n1 n2 imm hI)
  have e : sumV 23 (xs[n1]?.getD 0) (xs[n2]?.getD 0) imm pc = aluV 23 (xs[n1]?.getD 0) imm := by simp [sumV]
  have := do_sum W p b _ h A (P.xok img) _ lv.1 lv.2 23 nd n1 n2 imm hd K (by decide) (by decide)
  rw [show sumV 23 (xAt (rst n img xs pc bs) n1) (xAt (rst n img xs pc bs) n2) imm (rst n img xs pc bs).pc = aluV 23 (xs[n1]?.getD 0) imm from e] at this
  exact this
theorem stp_24 {n : Nat} {img : ByteArray} {xs : List Int} {pc : Int} {bs : List Int} {m : Nat} (P : PI n xs pc bs) (hm : pc = m) (ho : m + 4 ≤ bs.length) (nd n1 n2 : Nat) (imm : Int) (K : InsOk 24 nd n1 n2 imm) (hd : D.dec (leV bs m 4) = ⟨24, nd, n1, n2, imm⟩) : GoodStep n img xs pc bs := by
  have lv := (leV_bd P.b m).2.2
  have xa := P.x n1
  have xb := P.x n2
  have i0 := K.i0
  have i1 := K.i1
  have hI : Iok nd n1 n2 imm := ⟨by have := K.d1; omega, by have := K.s1; omega, by have := K.t1; omega, i0, i1⟩
  have ab := alu_bd 24 _ _ xa.1 xa.2 i0 i1
  refine good_of hm ho (putX xs nd (aluV 24 (xs[n1]?.getD 0) imm)) ((pc + 4) % 4294967296) bs ((P.put nd _ ab.1 ab.2).next) 24 nd n1 n2 imm hd (by decide) (fun W p b h A => ?_) (fun W x r h A => cdo_24 W x r _ h A (P.cok img) nd n1 n2 imm hI)
  have e : sumV 24 (xs[n1]?.getD 0) (xs[n2]?.getD 0) imm pc = aluV 24 (xs[n1]?.getD 0) imm := by simp [sumV]
  have := do_sum W p b _ h A (P.xok img) _ lv.1 lv.2 24 nd n1 n2 imm hd K (by decide) (by decide)
  rw [show sumV 24 (xAt (rst n img xs pc bs) n1) (xAt (rst n img xs pc bs) n2) imm (rst n img xs pc bs).pc = aluV 24 (xs[n1]?.getD 0) imm from e] at this
  exact this
theorem stp_25 {n : Nat} {img : ByteArray} {xs : List Int} {pc : Int} {bs : List Int} {m : Nat} (P : PI n xs pc bs) (hm : pc = m) (ho : m + 4 ≤ bs.length) (nd n1 n2 : Nat) (imm : Int) (K : InsOk 25 nd n1 n2 imm) (hd : D.dec (leV bs m 4) = ⟨25, nd, n1, n2, imm⟩) : GoodStep n img xs pc bs := by
  have lv := (leV_bd P.b m).2.2
  have xa := P.x n1
  have xb := P.x n2
  have i0 := K.i0
  have i1 := K.i1
  have hI : Iok nd n1 n2 imm := ⟨by have := K.d1; omega, by have := K.s1; omega, by have := K.t1; omega, i0, i1⟩
  have ab := alu_bd 25 _ _ xa.1 xa.2 i0 i1
  refine good_of hm ho (putX xs nd (aluV 25 (xs[n1]?.getD 0) imm)) ((pc + 4) % 4294967296) bs ((P.put nd _ ab.1 ab.2).next) 25 nd n1 n2 imm hd (by decide) (fun W p b h A => ?_) (fun W x r h A => cdo_25 W x r _ h A (P.cok img) nd n1 n2 imm hI)
  have e : sumV 25 (xs[n1]?.getD 0) (xs[n2]?.getD 0) imm pc = aluV 25 (xs[n1]?.getD 0) imm := by simp [sumV]
  have := do_sum W p b _ h A (P.xok img) _ lv.1 lv.2 25 nd n1 n2 imm hd K (by decide) (by decide)
  rw [show sumV 25 (xAt (rst n img xs pc bs) n1) (xAt (rst n img xs pc bs) n2) imm (rst n img xs pc bs).pc = aluV 25 (xs[n1]?.getD 0) imm from e] at this
  exact this
theorem stp_26 {n : Nat} {img : ByteArray} {xs : List Int} {pc : Int} {bs : List Int} {m : Nat} (P : PI n xs pc bs) (hm : pc = m) (ho : m + 4 ≤ bs.length) (nd n1 n2 : Nat) (imm : Int) (K : InsOk 26 nd n1 n2 imm) (hd : D.dec (leV bs m 4) = ⟨26, nd, n1, n2, imm⟩) : GoodStep n img xs pc bs := by
  have lv := (leV_bd P.b m).2.2
  have xa := P.x n1
  have xb := P.x n2
  have i0 := K.i0
  have i1 := K.i1
  have hI : Iok nd n1 n2 imm := ⟨by have := K.d1; omega, by have := K.s1; omega, by have := K.t1; omega, i0, i1⟩
  have ab := alu_bd 26 _ _ xa.1 xa.2 i0 i1
  refine good_of hm ho (putX xs nd (aluV 26 (xs[n1]?.getD 0) imm)) ((pc + 4) % 4294967296) bs ((P.put nd _ ab.1 ab.2).next) 26 nd n1 n2 imm hd (by decide) (fun W p b h A => ?_) (fun W x r h A => cdo_26 W x r _ h A (P.cok img) nd n1 n2 imm hI)
  have e : sumV 26 (xs[n1]?.getD 0) (xs[n2]?.getD 0) imm pc = aluV 26 (xs[n1]?.getD 0) imm := by simp [sumV]
  have := do_sum W p b _ h A (P.xok img) _ lv.1 lv.2 26 nd n1 n2 imm hd K (by decide) (by decide)
  rw [show sumV 26 (xAt (rst n img xs pc bs) n1) (xAt (rst n img xs pc bs) n2) imm (rst n img xs pc bs).pc = aluV 26 (xs[n1]?.getD 0) imm from e] at this
  exact this
theorem stp_27 {n : Nat} {img : ByteArray} {xs : List Int} {pc : Int} {bs : List Int} {m : Nat} (P : PI n xs pc bs) (hm : pc = m) (ho : m + 4 ≤ bs.length) (nd n1 n2 : Nat) (imm : Int) (K : InsOk 27 nd n1 n2 imm) (hd : D.dec (leV bs m 4) = ⟨27, nd, n1, n2, imm⟩) : GoodStep n img xs pc bs := by
  have lv := (leV_bd P.b m).2.2
  have xa := P.x n1
  have xb := P.x n2
  have i0 := K.i0
  have i1 := K.i1
  have hI : Iok nd n1 n2 imm := ⟨by have := K.d1; omega, by have := K.s1; omega, by have := K.t1; omega, i0, i1⟩
  have ab := alu_bd 27 _ _ xa.1 xa.2 i0 i1
  refine good_of hm ho (putX xs nd (aluV 27 (xs[n1]?.getD 0) imm)) ((pc + 4) % 4294967296) bs ((P.put nd _ ab.1 ab.2).next) 27 nd n1 n2 imm hd (by decide) (fun W p b h A => ?_) (fun W x r h A => cdo_27 W x r _ h A (P.cok img) nd n1 n2 imm hI)
  have e : sumV 27 (xs[n1]?.getD 0) (xs[n2]?.getD 0) imm pc = aluV 27 (xs[n1]?.getD 0) imm := by simp [sumV]
  have := do_sum W p b _ h A (P.xok img) _ lv.1 lv.2 27 nd n1 n2 imm hd K (by decide) (by decide)
  rw [show sumV 27 (xAt (rst n img xs pc bs) n1) (xAt (rst n img xs pc bs) n2) imm (rst n img xs pc bs).pc = aluV 27 (xs[n1]?.getD 0) imm from e] at this
  exact this
theorem stp_28 {n : Nat} {img : ByteArray} {xs : List Int} {pc : Int} {bs : List Int} {m : Nat} (P : PI n xs pc bs) (hm : pc = m) (ho : m + 4 ≤ bs.length) (nd n1 n2 : Nat) (imm : Int) (K : InsOk 28 nd n1 n2 imm) (hd : D.dec (leV bs m 4) = ⟨28, nd, n1, n2, imm⟩) : GoodStep n img xs pc bs := by
  have lv := (leV_bd P.b m).2.2
  have xa := P.x n1
  have xb := P.x n2
  have i0 := K.i0
  have i1 := K.i1
  have hI : Iok nd n1 n2 imm := ⟨by have := K.d1; omega, by have := K.s1; omega, by have := K.t1; omega, i0, i1⟩
  have ab := alu_bd 28 _ _ xa.1 xa.2 xb.1 xb.2
  refine good_of hm ho (putX xs nd (aluV 28 (xs[n1]?.getD 0) (xs[n2]?.getD 0))) ((pc + 4) % 4294967296) bs ((P.put nd _ ab.1 ab.2).next) 28 nd n1 n2 imm hd (by decide) (fun W p b h A => ?_) (fun W x r h A => cdo_28 W x r _ h A (P.cok img) nd n1 n2 imm hI)
  have e : sumV 28 (xs[n1]?.getD 0) (xs[n2]?.getD 0) imm pc = aluV 28 (xs[n1]?.getD 0) (xs[n2]?.getD 0) := by simp [sumV]
  have := do_sum W p b _ h A (P.xok img) _ lv.1 lv.2 28 nd n1 n2 imm hd K (by decide) (by decide)
  rw [show sumV 28 (xAt (rst n img xs pc bs) n1) (xAt (rst n img xs pc bs) n2) imm (rst n img xs pc bs).pc = aluV 28 (xs[n1]?.getD 0) (xs[n2]?.getD 0) from e] at this
  exact this
theorem stp_29 {n : Nat} {img : ByteArray} {xs : List Int} {pc : Int} {bs : List Int} {m : Nat} (P : PI n xs pc bs) (hm : pc = m) (ho : m + 4 ≤ bs.length) (nd n1 n2 : Nat) (imm : Int) (K : InsOk 29 nd n1 n2 imm) (hd : D.dec (leV bs m 4) = ⟨29, nd, n1, n2, imm⟩) : GoodStep n img xs pc bs := by
  have lv := (leV_bd P.b m).2.2
  have xa := P.x n1
  have xb := P.x n2
  have i0 := K.i0
  have i1 := K.i1
  have hI : Iok nd n1 n2 imm := ⟨by have := K.d1; omega, by have := K.s1; omega, by have := K.t1; omega, i0, i1⟩
  have ab := alu_bd 29 _ _ xa.1 xa.2 xb.1 xb.2
  refine good_of hm ho (putX xs nd (aluV 29 (xs[n1]?.getD 0) (xs[n2]?.getD 0))) ((pc + 4) % 4294967296) bs ((P.put nd _ ab.1 ab.2).next) 29 nd n1 n2 imm hd (by decide) (fun W p b h A => ?_) (fun W x r h A => cdo_29 W x r _ h A (P.cok img) nd n1 n2 imm hI)
  have e : sumV 29 (xs[n1]?.getD 0) (xs[n2]?.getD 0) imm pc = aluV 29 (xs[n1]?.getD 0) (xs[n2]?.getD 0) := by simp [sumV]
  have := do_sum W p b _ h A (P.xok img) _ lv.1 lv.2 29 nd n1 n2 imm hd K (by decide) (by decide)
  rw [show sumV 29 (xAt (rst n img xs pc bs) n1) (xAt (rst n img xs pc bs) n2) imm (rst n img xs pc bs).pc = aluV 29 (xs[n1]?.getD 0) (xs[n2]?.getD 0) from e] at this
  exact this
theorem stp_30 {n : Nat} {img : ByteArray} {xs : List Int} {pc : Int} {bs : List Int} {m : Nat} (P : PI n xs pc bs) (hm : pc = m) (ho : m + 4 ≤ bs.length) (nd n1 n2 : Nat) (imm : Int) (K : InsOk 30 nd n1 n2 imm) (hd : D.dec (leV bs m 4) = ⟨30, nd, n1, n2, imm⟩) : GoodStep n img xs pc bs := by
  have lv := (leV_bd P.b m).2.2
  have xa := P.x n1
  have xb := P.x n2
  have i0 := K.i0
  have i1 := K.i1
  have hI : Iok nd n1 n2 imm := ⟨by have := K.d1; omega, by have := K.s1; omega, by have := K.t1; omega, i0, i1⟩
  have ab := alu_bd 30 _ _ xa.1 xa.2 xb.1 xb.2
  refine good_of hm ho (putX xs nd (aluV 30 (xs[n1]?.getD 0) (xs[n2]?.getD 0))) ((pc + 4) % 4294967296) bs ((P.put nd _ ab.1 ab.2).next) 30 nd n1 n2 imm hd (by decide) (fun W p b h A => ?_) (fun W x r h A => cdo_30 W x r _ h A (P.cok img) nd n1 n2 imm hI)
  have e : sumV 30 (xs[n1]?.getD 0) (xs[n2]?.getD 0) imm pc = aluV 30 (xs[n1]?.getD 0) (xs[n2]?.getD 0) := by simp [sumV]
  have := do_sum W p b _ h A (P.xok img) _ lv.1 lv.2 30 nd n1 n2 imm hd K (by decide) (by decide)
  rw [show sumV 30 (xAt (rst n img xs pc bs) n1) (xAt (rst n img xs pc bs) n2) imm (rst n img xs pc bs).pc = aluV 30 (xs[n1]?.getD 0) (xs[n2]?.getD 0) from e] at this
  exact this
theorem stp_31 {n : Nat} {img : ByteArray} {xs : List Int} {pc : Int} {bs : List Int} {m : Nat} (P : PI n xs pc bs) (hm : pc = m) (ho : m + 4 ≤ bs.length) (nd n1 n2 : Nat) (imm : Int) (K : InsOk 31 nd n1 n2 imm) (hd : D.dec (leV bs m 4) = ⟨31, nd, n1, n2, imm⟩) : GoodStep n img xs pc bs := by
  have lv := (leV_bd P.b m).2.2
  have xa := P.x n1
  have xb := P.x n2
  have i0 := K.i0
  have i1 := K.i1
  have hI : Iok nd n1 n2 imm := ⟨by have := K.d1; omega, by have := K.s1; omega, by have := K.t1; omega, i0, i1⟩
  have ab := alu_bd 31 _ _ xa.1 xa.2 xb.1 xb.2
  refine good_of hm ho (putX xs nd (aluV 31 (xs[n1]?.getD 0) (xs[n2]?.getD 0))) ((pc + 4) % 4294967296) bs ((P.put nd _ ab.1 ab.2).next) 31 nd n1 n2 imm hd (by decide) (fun W p b h A => ?_) (fun W x r h A => cdo_31 W x r _ h A (P.cok img) nd n1 n2 imm hI)
  have e : sumV 31 (xs[n1]?.getD 0) (xs[n2]?.getD 0) imm pc = aluV 31 (xs[n1]?.getD 0) (xs[n2]?.getD 0) := by simp [sumV]
  have := do_sum W p b _ h A (P.xok img) _ lv.1 lv.2 31 nd n1 n2 imm hd K (by decide) (by decide)
  rw [show sumV 31 (xAt (rst n img xs pc bs) n1) (xAt (rst n img xs pc bs) n2) imm (rst n img xs pc bs).pc = aluV 31 (xs[n1]?.getD 0) (xs[n2]?.getD 0) from e] at this
  exact this
theorem stp_32 {n : Nat} {img : ByteArray} {xs : List Int} {pc : Int} {bs : List Int} {m : Nat} (P : PI n xs pc bs) (hm : pc = m) (ho : m + 4 ≤ bs.length) (nd n1 n2 : Nat) (imm : Int) (K : InsOk 32 nd n1 n2 imm) (hd : D.dec (leV bs m 4) = ⟨32, nd, n1, n2, imm⟩) : GoodStep n img xs pc bs := by
  have lv := (leV_bd P.b m).2.2
  have xa := P.x n1
  have xb := P.x n2
  have i0 := K.i0
  have i1 := K.i1
  have hI : Iok nd n1 n2 imm := ⟨by have := K.d1; omega, by have := K.s1; omega, by have := K.t1; omega, i0, i1⟩
  have ab := alu_bd 32 _ _ xa.1 xa.2 xb.1 xb.2
  refine good_of hm ho (putX xs nd (aluV 32 (xs[n1]?.getD 0) (xs[n2]?.getD 0))) ((pc + 4) % 4294967296) bs ((P.put nd _ ab.1 ab.2).next) 32 nd n1 n2 imm hd (by decide) (fun W p b h A => ?_) (fun W x r h A => cdo_32 W x r _ h A (P.cok img) nd n1 n2 imm hI)
  have e : sumV 32 (xs[n1]?.getD 0) (xs[n2]?.getD 0) imm pc = aluV 32 (xs[n1]?.getD 0) (xs[n2]?.getD 0) := by simp [sumV]
  have := do_sum W p b _ h A (P.xok img) _ lv.1 lv.2 32 nd n1 n2 imm hd K (by decide) (by decide)
  rw [show sumV 32 (xAt (rst n img xs pc bs) n1) (xAt (rst n img xs pc bs) n2) imm (rst n img xs pc bs).pc = aluV 32 (xs[n1]?.getD 0) (xs[n2]?.getD 0) from e] at this
  exact this
theorem stp_33 {n : Nat} {img : ByteArray} {xs : List Int} {pc : Int} {bs : List Int} {m : Nat} (P : PI n xs pc bs) (hm : pc = m) (ho : m + 4 ≤ bs.length) (nd n1 n2 : Nat) (imm : Int) (K : InsOk 33 nd n1 n2 imm) (hd : D.dec (leV bs m 4) = ⟨33, nd, n1, n2, imm⟩) : GoodStep n img xs pc bs := by
  have lv := (leV_bd P.b m).2.2
  have xa := P.x n1
  have xb := P.x n2
  have i0 := K.i0
  have i1 := K.i1
  have hI : Iok nd n1 n2 imm := ⟨by have := K.d1; omega, by have := K.s1; omega, by have := K.t1; omega, i0, i1⟩
  have ab := alu_bd 33 _ _ xa.1 xa.2 xb.1 xb.2
  refine good_of hm ho (putX xs nd (aluV 33 (xs[n1]?.getD 0) (xs[n2]?.getD 0))) ((pc + 4) % 4294967296) bs ((P.put nd _ ab.1 ab.2).next) 33 nd n1 n2 imm hd (by decide) (fun W p b h A => ?_) (fun W x r h A => cdo_33 W x r _ h A (P.cok img) nd n1 n2 imm hI)
  have e : sumV 33 (xs[n1]?.getD 0) (xs[n2]?.getD 0) imm pc = aluV 33 (xs[n1]?.getD 0) (xs[n2]?.getD 0) := by simp [sumV]
  have := do_sum W p b _ h A (P.xok img) _ lv.1 lv.2 33 nd n1 n2 imm hd K (by decide) (by decide)
  rw [show sumV 33 (xAt (rst n img xs pc bs) n1) (xAt (rst n img xs pc bs) n2) imm (rst n img xs pc bs).pc = aluV 33 (xs[n1]?.getD 0) (xs[n2]?.getD 0) from e] at this
  exact this
theorem stp_34 {n : Nat} {img : ByteArray} {xs : List Int} {pc : Int} {bs : List Int} {m : Nat} (P : PI n xs pc bs) (hm : pc = m) (ho : m + 4 ≤ bs.length) (nd n1 n2 : Nat) (imm : Int) (K : InsOk 34 nd n1 n2 imm) (hd : D.dec (leV bs m 4) = ⟨34, nd, n1, n2, imm⟩) : GoodStep n img xs pc bs := by
  have lv := (leV_bd P.b m).2.2
  have xa := P.x n1
  have xb := P.x n2
  have i0 := K.i0
  have i1 := K.i1
  have hI : Iok nd n1 n2 imm := ⟨by have := K.d1; omega, by have := K.s1; omega, by have := K.t1; omega, i0, i1⟩
  have ab := alu_bd 34 _ _ xa.1 xa.2 xb.1 xb.2
  refine good_of hm ho (putX xs nd (aluV 34 (xs[n1]?.getD 0) (xs[n2]?.getD 0))) ((pc + 4) % 4294967296) bs ((P.put nd _ ab.1 ab.2).next) 34 nd n1 n2 imm hd (by decide) (fun W p b h A => ?_) (fun W x r h A => cdo_34 W x r _ h A (P.cok img) nd n1 n2 imm hI)
  have e : sumV 34 (xs[n1]?.getD 0) (xs[n2]?.getD 0) imm pc = aluV 34 (xs[n1]?.getD 0) (xs[n2]?.getD 0) := by simp [sumV]
  have := do_sum W p b _ h A (P.xok img) _ lv.1 lv.2 34 nd n1 n2 imm hd K (by decide) (by decide)
  rw [show sumV 34 (xAt (rst n img xs pc bs) n1) (xAt (rst n img xs pc bs) n2) imm (rst n img xs pc bs).pc = aluV 34 (xs[n1]?.getD 0) (xs[n2]?.getD 0) from e] at this
  exact this
theorem stp_35 {n : Nat} {img : ByteArray} {xs : List Int} {pc : Int} {bs : List Int} {m : Nat} (P : PI n xs pc bs) (hm : pc = m) (ho : m + 4 ≤ bs.length) (nd n1 n2 : Nat) (imm : Int) (K : InsOk 35 nd n1 n2 imm) (hd : D.dec (leV bs m 4) = ⟨35, nd, n1, n2, imm⟩) : GoodStep n img xs pc bs := by
  have lv := (leV_bd P.b m).2.2
  have xa := P.x n1
  have xb := P.x n2
  have i0 := K.i0
  have i1 := K.i1
  have hI : Iok nd n1 n2 imm := ⟨by have := K.d1; omega, by have := K.s1; omega, by have := K.t1; omega, i0, i1⟩
  have ab := alu_bd 35 _ _ xa.1 xa.2 xb.1 xb.2
  refine good_of hm ho (putX xs nd (aluV 35 (xs[n1]?.getD 0) (xs[n2]?.getD 0))) ((pc + 4) % 4294967296) bs ((P.put nd _ ab.1 ab.2).next) 35 nd n1 n2 imm hd (by decide) (fun W p b h A => ?_) (fun W x r h A => cdo_35 W x r _ h A (P.cok img) nd n1 n2 imm hI)
  have e : sumV 35 (xs[n1]?.getD 0) (xs[n2]?.getD 0) imm pc = aluV 35 (xs[n1]?.getD 0) (xs[n2]?.getD 0) := by simp [sumV]
  have := do_sum W p b _ h A (P.xok img) _ lv.1 lv.2 35 nd n1 n2 imm hd K (by decide) (by decide)
  rw [show sumV 35 (xAt (rst n img xs pc bs) n1) (xAt (rst n img xs pc bs) n2) imm (rst n img xs pc bs).pc = aluV 35 (xs[n1]?.getD 0) (xs[n2]?.getD 0) from e] at this
  exact this
theorem stp_36 {n : Nat} {img : ByteArray} {xs : List Int} {pc : Int} {bs : List Int} {m : Nat} (P : PI n xs pc bs) (hm : pc = m) (ho : m + 4 ≤ bs.length) (nd n1 n2 : Nat) (imm : Int) (K : InsOk 36 nd n1 n2 imm) (hd : D.dec (leV bs m 4) = ⟨36, nd, n1, n2, imm⟩) : GoodStep n img xs pc bs := by
  have lv := (leV_bd P.b m).2.2
  have xa := P.x n1
  have xb := P.x n2
  have i0 := K.i0
  have i1 := K.i1
  have hI : Iok nd n1 n2 imm := ⟨by have := K.d1; omega, by have := K.s1; omega, by have := K.t1; omega, i0, i1⟩
  have ab := alu_bd 36 _ _ xa.1 xa.2 xb.1 xb.2
  refine good_of hm ho (putX xs nd (aluV 36 (xs[n1]?.getD 0) (xs[n2]?.getD 0))) ((pc + 4) % 4294967296) bs ((P.put nd _ ab.1 ab.2).next) 36 nd n1 n2 imm hd (by decide) (fun W p b h A => ?_) (fun W x r h A => cdo_36 W x r _ h A (P.cok img) nd n1 n2 imm hI)
  have e : sumV 36 (xs[n1]?.getD 0) (xs[n2]?.getD 0) imm pc = aluV 36 (xs[n1]?.getD 0) (xs[n2]?.getD 0) := by simp [sumV]
  have := do_sum W p b _ h A (P.xok img) _ lv.1 lv.2 36 nd n1 n2 imm hd K (by decide) (by decide)
  rw [show sumV 36 (xAt (rst n img xs pc bs) n1) (xAt (rst n img xs pc bs) n2) imm (rst n img xs pc bs).pc = aluV 36 (xs[n1]?.getD 0) (xs[n2]?.getD 0) from e] at this
  exact this
theorem stp_37 {n : Nat} {img : ByteArray} {xs : List Int} {pc : Int} {bs : List Int} {m : Nat} (P : PI n xs pc bs) (hm : pc = m) (ho : m + 4 ≤ bs.length) (nd n1 n2 : Nat) (imm : Int) (K : InsOk 37 nd n1 n2 imm) (hd : D.dec (leV bs m 4) = ⟨37, nd, n1, n2, imm⟩) : GoodStep n img xs pc bs := by
  have lv := (leV_bd P.b m).2.2
  have xa := P.x n1
  have xb := P.x n2
  have i0 := K.i0
  have i1 := K.i1
  have hI : Iok nd n1 n2 imm := ⟨by have := K.d1; omega, by have := K.s1; omega, by have := K.t1; omega, i0, i1⟩
  have ab := alu_bd 37 _ _ xa.1 xa.2 xb.1 xb.2
  refine good_of hm ho (putX xs nd (aluV 37 (xs[n1]?.getD 0) (xs[n2]?.getD 0))) ((pc + 4) % 4294967296) bs ((P.put nd _ ab.1 ab.2).next) 37 nd n1 n2 imm hd (by decide) (fun W p b h A => ?_) (fun W x r h A => cdo_37 W x r _ h A (P.cok img) nd n1 n2 imm hI)
  have e : sumV 37 (xs[n1]?.getD 0) (xs[n2]?.getD 0) imm pc = aluV 37 (xs[n1]?.getD 0) (xs[n2]?.getD 0) := by simp [sumV]
  have := do_sum W p b _ h A (P.xok img) _ lv.1 lv.2 37 nd n1 n2 imm hd K (by decide) (by decide)
  rw [show sumV 37 (xAt (rst n img xs pc bs) n1) (xAt (rst n img xs pc bs) n2) imm (rst n img xs pc bs).pc = aluV 37 (xs[n1]?.getD 0) (xs[n2]?.getD 0) from e] at this
  exact this
theorem stp_38 {n : Nat} {img : ByteArray} {xs : List Int} {pc : Int} {bs : List Int} {m : Nat} (P : PI n xs pc bs) (hm : pc = m) (ho : m + 4 ≤ bs.length) (nd n1 n2 : Nat) (imm : Int) (K : InsOk 38 nd n1 n2 imm) (hd : D.dec (leV bs m 4) = ⟨38, nd, n1, n2, imm⟩) : GoodStep n img xs pc bs := by
  have lv := (leV_bd P.b m).2.2
  have xa := P.x n1
  have xb := P.x n2
  have i0 := K.i0
  have i1 := K.i1
  have hI : Iok nd n1 n2 imm := ⟨by have := K.d1; omega, by have := K.s1; omega, by have := K.t1; omega, i0, i1⟩
  have z : nd = 0 := by have := K.fe rfl; omega
  refine good_of hm ho xs ((pc + 4) % 4294967296) bs P.next 38 nd n1 n2 imm hd (by decide) (fun W p b h A => ?_) (fun W x r h A => cdo_38 W x r _ h A (P.cok img) nd n1 n2 imm hI)
  have := do_sum W p b _ h A (P.xok img) _ lv.1 lv.2 38 nd n1 n2 imm hd K (by decide) (by decide)
  rw [show next1 (putR (rst n img xs pc bs) (nd : Int).toNat (sumV 38 (xAt (rst n img xs pc bs) n1) (xAt (rst n img xs pc bs) n2) imm (rst n img xs pc bs).pc)) = rst n img xs ((pc + 4) % 4294967296) bs by rw [z]; rfl] at this
  exact this
theorem stp_3 {n : Nat} {img : ByteArray} {xs : List Int} {pc : Int} {bs : List Int} {m : Nat} (P : PI n xs pc bs) (hm : pc = m) (ho : m + 4 ≤ bs.length) (nd n1 n2 : Nat) (imm : Int) (K : InsOk 3 nd n1 n2 imm) (hd : D.dec (leV bs m 4) = ⟨3, nd, n1, n2, imm⟩) (t4 : (pc + imm) % 4294967296 % 4 = 0) : GoodStep n img xs pc bs := by
  have lv := (leV_bd P.b m).2.2
  have xa := P.x n1
  have xb := P.x n2
  have i0 := K.i0
  have i1 := K.i1
  have hI : Iok nd n1 n2 imm := ⟨by have := K.d1; omega, by have := K.s1; omega, by have := K.t1; omega, i0, i1⟩
  refine good_of hm ho (putX xs nd ((pc + 4) % 4294967296)) ((pc + imm) % 4294967296) bs ((P.put nd _ (by omega) (by omega)).pc _ (by omega) (by omega) t4) 3 nd n1 n2 imm hd (by decide) (fun W p b h A => ?_) (fun W x r h A => cdo_3 W x r _ h A (P.cok img) nd n1 n2 imm hI t4)
  have := do_jal W p b _ h A (P.xok img) _ lv.1 lv.2 nd n1 n2 imm hd K
  rw [show jumpR (rst n img xs pc bs) (nd : Int).toNat (((rst n img xs pc bs).pc + imm) % 4294967296) = rst n img (putX xs nd ((pc + 4) % 4294967296)) ((pc + imm) % 4294967296) bs by unfold jumpR; rw [if_pos (show (((rst n img xs pc bs).pc + imm) % 4294967296) % 4 = 0 from t4)]; rfl] at this
  exact this
theorem bad_3 {n : Nat} {img : ByteArray} {xs : List Int} {pc : Int} {bs : List Int} {m : Nat} (P : PI n xs pc bs) (hm : pc = m) (ho : m + 4 ≤ bs.length) (nd n1 n2 : Nat) (imm : Int) (K : InsOk 3 nd n1 n2 imm) (hd : D.dec (leV bs m 4) = ⟨3, nd, n1, n2, imm⟩) (t4 : ¬ (pc + imm) % 4294967296 % 4 = 0) : BadStep n img xs pc bs := by
  have lv := (leV_bd P.b m).2.2
  have xa := P.x n1
  have xb := P.x n2
  have i0 := K.i0
  have i1 := K.i1
  have hI : Iok nd n1 n2 imm := ⟨by have := K.d1; omega, by have := K.s1; omega, by have := K.t1; omega, i0, i1⟩
  refine bad_of hm ho _ (rst_fail n img xs pc bs 0 ((pc + imm) % 4294967296)) (fun W p b h A => ?_)
  have := do_jal W p b _ h A (P.xok img) _ lv.1 lv.2 nd n1 n2 imm hd K
  rw [show jumpR (rst n img xs pc bs) (nd : Int).toNat (((rst n img xs pc bs).pc + imm) % 4294967296) = failR (rst n img xs pc bs) 0 ((pc + imm) % 4294967296) by unfold jumpR; rw [if_neg (show ¬ (((rst n img xs pc bs).pc + imm) % 4294967296) % 4 = 0 from t4)]; rfl] at this
  exact this
theorem stp_4 {n : Nat} {img : ByteArray} {xs : List Int} {pc : Int} {bs : List Int} {m : Nat} (P : PI n xs pc bs) (hm : pc = m) (ho : m + 4 ≤ bs.length) (nd n1 n2 : Nat) (imm : Int) (K : InsOk 4 nd n1 n2 imm) (hd : D.dec (leV bs m 4) = ⟨4, nd, n1, n2, imm⟩) (t4 : bits .andNot .u32 ((xs[n1]?.getD 0 + imm) % 4294967296) 1 % 4 = 0) : GoodStep n img xs pc bs := by
  have lv := (leV_bd P.b m).2.2
  have xa := P.x n1
  have xb := P.x n2
  have i0 := K.i0
  have i1 := K.i1
  have hI : Iok nd n1 n2 imm := ⟨by have := K.d1; omega, by have := K.s1; omega, by have := K.t1; omega, i0, i1⟩
  refine good_of hm ho (putX xs nd ((pc + 4) % 4294967296)) (bits .andNot .u32 ((xs[n1]?.getD 0 + imm) % 4294967296) 1) bs ((P.put nd _ (by omega) (by omega)).pc _ (an_bd _ (by omega) (by omega)).1 (an_bd _ (by omega) (by omega)).2 t4) 4 nd n1 n2 imm hd (by decide) (fun W p b h A => ?_) (fun W x r h A => cdo_4 W x r _ h A (P.cok img) nd n1 n2 imm hI t4)
  have := do_jalr W p b _ h A (P.xok img) _ lv.1 lv.2 nd n1 n2 imm hd K
  rw [show jumpR (rst n img xs pc bs) (nd : Int).toNat (bits .andNot .u32 ((xAt (rst n img xs pc bs) n1 + imm) % 4294967296) 1) = rst n img (putX xs nd ((pc + 4) % 4294967296)) (bits .andNot .u32 ((xs[n1]?.getD 0 + imm) % 4294967296) 1) bs by unfold jumpR; rw [if_pos (show (bits .andNot .u32 ((xAt (rst n img xs pc bs) n1 + imm) % 4294967296) 1) % 4 = 0 from t4)]; rfl] at this
  exact this
theorem bad_4 {n : Nat} {img : ByteArray} {xs : List Int} {pc : Int} {bs : List Int} {m : Nat} (P : PI n xs pc bs) (hm : pc = m) (ho : m + 4 ≤ bs.length) (nd n1 n2 : Nat) (imm : Int) (K : InsOk 4 nd n1 n2 imm) (hd : D.dec (leV bs m 4) = ⟨4, nd, n1, n2, imm⟩) (t4 : ¬ bits .andNot .u32 ((xs[n1]?.getD 0 + imm) % 4294967296) 1 % 4 = 0) : BadStep n img xs pc bs := by
  have lv := (leV_bd P.b m).2.2
  have xa := P.x n1
  have xb := P.x n2
  have i0 := K.i0
  have i1 := K.i1
  have hI : Iok nd n1 n2 imm := ⟨by have := K.d1; omega, by have := K.s1; omega, by have := K.t1; omega, i0, i1⟩
  refine bad_of hm ho _ (rst_fail n img xs pc bs 0 (bits .andNot .u32 ((xs[n1]?.getD 0 + imm) % 4294967296) 1)) (fun W p b h A => ?_)
  have := do_jalr W p b _ h A (P.xok img) _ lv.1 lv.2 nd n1 n2 imm hd K
  rw [show jumpR (rst n img xs pc bs) (nd : Int).toNat (bits .andNot .u32 ((xAt (rst n img xs pc bs) n1 + imm) % 4294967296) 1) = failR (rst n img xs pc bs) 0 (bits .andNot .u32 ((xs[n1]?.getD 0 + imm) % 4294967296) 1) by unfold jumpR; rw [if_neg (show ¬ (bits .andNot .u32 ((xAt (rst n img xs pc bs) n1 + imm) % 4294967296) 1) % 4 = 0 from t4)]; rfl] at this
  exact this
theorem stp_5_n {n : Nat} {img : ByteArray} {xs : List Int} {pc : Int} {bs : List Int} {m : Nat} (P : PI n xs pc bs) (hm : pc = m) (ho : m + 4 ≤ bs.length) (nd n1 n2 : Nat) (imm : Int) (K : InsOk 5 nd n1 n2 imm) (hd : D.dec (leV bs m 4) = ⟨5, nd, n1, n2, imm⟩) (ht : takenB 5 (xs[n1]?.getD 0) (xs[n2]?.getD 0) = false) : GoodStep n img xs pc bs := by
  have lv := (leV_bd P.b m).2.2
  have xa := P.x n1
  have xb := P.x n2
  have i0 := K.i0
  have i1 := K.i1
  have hI : Iok nd n1 n2 imm := ⟨by have := K.d1; omega, by have := K.s1; omega, by have := K.t1; omega, i0, i1⟩
  exact good_of hm ho xs ((pc + 4) % 4294967296) bs P.next 5 nd n1 n2 imm hd (by decide) (fun W p b h A => do_br_no W p b _ h A (P.xok img) _ lv.1 lv.2 5 nd n1 n2 imm hd K (by decide) (by decide) ht) (fun W x r h A => cdo_5_n W x r _ h A (P.cok img) nd n1 n2 imm hI ht (by have := P.p4; show (pc + 4) % 4294967296 % 4 = 0; omega))
theorem stp_5_y {n : Nat} {img : ByteArray} {xs : List Int} {pc : Int} {bs : List Int} {m : Nat} (P : PI n xs pc bs) (hm : pc = m) (ho : m + 4 ≤ bs.length) (nd n1 n2 : Nat) (imm : Int) (K : InsOk 5 nd n1 n2 imm) (hd : D.dec (leV bs m 4) = ⟨5, nd, n1, n2, imm⟩) (ht : takenB 5 (xs[n1]?.getD 0) (xs[n2]?.getD 0) = true) (t4 : (pc + imm) % 4294967296 % 4 = 0) : GoodStep n img xs pc bs := by
  have lv := (leV_bd P.b m).2.2
  have xa := P.x n1
  have xb := P.x n2
  have i0 := K.i0
  have i1 := K.i1
  have hI : Iok nd n1 n2 imm := ⟨by have := K.d1; omega, by have := K.s1; omega, by have := K.t1; omega, i0, i1⟩
  refine good_of hm ho xs ((pc + imm) % 4294967296) bs (P.pc _ (by omega) (by omega) t4) 5 nd n1 n2 imm hd (by decide) (fun W p b h A => ?_) (fun W x r h A => cdo_5_y W x r _ h A (P.cok img) nd n1 n2 imm hI ht t4)
  have := do_br_yes W p b _ h A (P.xok img) _ lv.1 lv.2 5 nd n1 n2 imm hd K (by decide) (by decide) ht
  rw [show jumpR (rst n img xs pc bs) 0 ((((rst n img xs pc bs).pc) + imm) % 4294967296) = rst n img xs ((pc + imm) % 4294967296) bs by unfold jumpR; rw [if_pos (show ((rst n img xs pc bs).pc + imm) % 4294967296 % 4 = 0 from t4)]; rfl] at this
  exact this
theorem bad_5 {n : Nat} {img : ByteArray} {xs : List Int} {pc : Int} {bs : List Int} {m : Nat} (P : PI n xs pc bs) (hm : pc = m) (ho : m + 4 ≤ bs.length) (nd n1 n2 : Nat) (imm : Int) (K : InsOk 5 nd n1 n2 imm) (hd : D.dec (leV bs m 4) = ⟨5, nd, n1, n2, imm⟩) (ht : takenB 5 (xs[n1]?.getD 0) (xs[n2]?.getD 0) = true) (t4 : ¬ (pc + imm) % 4294967296 % 4 = 0) : BadStep n img xs pc bs := by
  have lv := (leV_bd P.b m).2.2
  have xa := P.x n1
  have xb := P.x n2
  have i0 := K.i0
  have i1 := K.i1
  have hI : Iok nd n1 n2 imm := ⟨by have := K.d1; omega, by have := K.s1; omega, by have := K.t1; omega, i0, i1⟩
  refine bad_of hm ho _ (rst_fail n img xs pc bs 0 ((pc + imm) % 4294967296)) (fun W p b h A => ?_)
  have := do_br_yes W p b _ h A (P.xok img) _ lv.1 lv.2 5 nd n1 n2 imm hd K (by decide) (by decide) ht
  rw [show jumpR (rst n img xs pc bs) 0 ((((rst n img xs pc bs).pc) + imm) % 4294967296) = failR (rst n img xs pc bs) 0 ((pc + imm) % 4294967296) by unfold jumpR; rw [if_neg (show ¬ ((rst n img xs pc bs).pc + imm) % 4294967296 % 4 = 0 from t4)]; rfl] at this
  exact this
theorem stp_6_n {n : Nat} {img : ByteArray} {xs : List Int} {pc : Int} {bs : List Int} {m : Nat} (P : PI n xs pc bs) (hm : pc = m) (ho : m + 4 ≤ bs.length) (nd n1 n2 : Nat) (imm : Int) (K : InsOk 6 nd n1 n2 imm) (hd : D.dec (leV bs m 4) = ⟨6, nd, n1, n2, imm⟩) (ht : takenB 6 (xs[n1]?.getD 0) (xs[n2]?.getD 0) = false) : GoodStep n img xs pc bs := by
  have lv := (leV_bd P.b m).2.2
  have xa := P.x n1
  have xb := P.x n2
  have i0 := K.i0
  have i1 := K.i1
  have hI : Iok nd n1 n2 imm := ⟨by have := K.d1; omega, by have := K.s1; omega, by have := K.t1; omega, i0, i1⟩
  exact good_of hm ho xs ((pc + 4) % 4294967296) bs P.next 6 nd n1 n2 imm hd (by decide) (fun W p b h A => do_br_no W p b _ h A (P.xok img) _ lv.1 lv.2 6 nd n1 n2 imm hd K (by decide) (by decide) ht) (fun W x r h A => cdo_6_n W x r _ h A (P.cok img) nd n1 n2 imm hI ht (by have := P.p4; show (pc + 4) % 4294967296 % 4 = 0; omega))
theorem stp_6_y {n : Nat} {img : ByteArray} {xs : List Int} {pc : Int} {bs : List Int} {m : Nat} (P : PI n xs pc bs) (hm : pc = m) (ho : m + 4 ≤ bs.length) (nd n1 n2 : Nat) (imm : Int) (K : InsOk 6 nd n1 n2 imm) (hd : D.dec (leV bs m 4) = ⟨6, nd, n1, n2, imm⟩) (ht : takenB 6 (xs[n1]?.getD 0) (xs[n2]?.getD 0) = true) (t4 : (pc + imm) % 4294967296 % 4 = 0) : GoodStep n img xs pc bs := by
  have lv := (leV_bd P.b m).2.2
  have xa := P.x n1
  have xb := P.x n2
  have i0 := K.i0
  have i1 := K.i1
  have hI : Iok nd n1 n2 imm := ⟨by have := K.d1; omega, by have := K.s1; omega, by have := K.t1; omega, i0, i1⟩
  refine good_of hm ho xs ((pc + imm) % 4294967296) bs (P.pc _ (by omega) (by omega) t4) 6 nd n1 n2 imm hd (by decide) (fun W p b h A => ?_) (fun W x r h A => cdo_6_y W x r _ h A (P.cok img) nd n1 n2 imm hI ht t4)
  have := do_br_yes W p b _ h A (P.xok img) _ lv.1 lv.2 6 nd n1 n2 imm hd K (by decide) (by decide) ht
  rw [show jumpR (rst n img xs pc bs) 0 ((((rst n img xs pc bs).pc) + imm) % 4294967296) = rst n img xs ((pc + imm) % 4294967296) bs by unfold jumpR; rw [if_pos (show ((rst n img xs pc bs).pc + imm) % 4294967296 % 4 = 0 from t4)]; rfl] at this
  exact this
theorem bad_6 {n : Nat} {img : ByteArray} {xs : List Int} {pc : Int} {bs : List Int} {m : Nat} (P : PI n xs pc bs) (hm : pc = m) (ho : m + 4 ≤ bs.length) (nd n1 n2 : Nat) (imm : Int) (K : InsOk 6 nd n1 n2 imm) (hd : D.dec (leV bs m 4) = ⟨6, nd, n1, n2, imm⟩) (ht : takenB 6 (xs[n1]?.getD 0) (xs[n2]?.getD 0) = true) (t4 : ¬ (pc + imm) % 4294967296 % 4 = 0) : BadStep n img xs pc bs := by
  have lv := (leV_bd P.b m).2.2
  have xa := P.x n1
  have xb := P.x n2
  have i0 := K.i0
  have i1 := K.i1
  have hI : Iok nd n1 n2 imm := ⟨by have := K.d1; omega, by have := K.s1; omega, by have := K.t1; omega, i0, i1⟩
  refine bad_of hm ho _ (rst_fail n img xs pc bs 0 ((pc + imm) % 4294967296)) (fun W p b h A => ?_)
  have := do_br_yes W p b _ h A (P.xok img) _ lv.1 lv.2 6 nd n1 n2 imm hd K (by decide) (by decide) ht
  rw [show jumpR (rst n img xs pc bs) 0 ((((rst n img xs pc bs).pc) + imm) % 4294967296) = failR (rst n img xs pc bs) 0 ((pc + imm) % 4294967296) by unfold jumpR; rw [if_neg (show ¬ ((rst n img xs pc bs).pc + imm) % 4294967296 % 4 = 0 from t4)]; rfl] at this
  exact this
theorem stp_7_n {n : Nat} {img : ByteArray} {xs : List Int} {pc : Int} {bs : List Int} {m : Nat} (P : PI n xs pc bs) (hm : pc = m) (ho : m + 4 ≤ bs.length) (nd n1 n2 : Nat) (imm : Int) (K : InsOk 7 nd n1 n2 imm) (hd : D.dec (leV bs m 4) = ⟨7, nd, n1, n2, imm⟩) (ht : takenB 7 (xs[n1]?.getD 0) (xs[n2]?.getD 0) = false) : GoodStep n img xs pc bs := by
  have lv := (leV_bd P.b m).2.2
  have xa := P.x n1
  have xb := P.x n2
  have i0 := K.i0
  have i1 := K.i1
  have hI : Iok nd n1 n2 imm := ⟨by have := K.d1; omega, by have := K.s1; omega, by have := K.t1; omega, i0, i1⟩
  exact good_of hm ho xs ((pc + 4) % 4294967296) bs P.next 7 nd n1 n2 imm hd (by decide) (fun W p b h A => do_br_no W p b _ h A (P.xok img) _ lv.1 lv.2 7 nd n1 n2 imm hd K (by decide) (by decide) ht) (fun W x r h A => cdo_7_n W x r _ h A (P.cok img) nd n1 n2 imm hI ht (by have := P.p4; show (pc + 4) % 4294967296 % 4 = 0; omega))
theorem stp_7_y {n : Nat} {img : ByteArray} {xs : List Int} {pc : Int} {bs : List Int} {m : Nat} (P : PI n xs pc bs) (hm : pc = m) (ho : m + 4 ≤ bs.length) (nd n1 n2 : Nat) (imm : Int) (K : InsOk 7 nd n1 n2 imm) (hd : D.dec (leV bs m 4) = ⟨7, nd, n1, n2, imm⟩) (ht : takenB 7 (xs[n1]?.getD 0) (xs[n2]?.getD 0) = true) (t4 : (pc + imm) % 4294967296 % 4 = 0) : GoodStep n img xs pc bs := by
  have lv := (leV_bd P.b m).2.2
  have xa := P.x n1
  have xb := P.x n2
  have i0 := K.i0
  have i1 := K.i1
  have hI : Iok nd n1 n2 imm := ⟨by have := K.d1; omega, by have := K.s1; omega, by have := K.t1; omega, i0, i1⟩
  refine good_of hm ho xs ((pc + imm) % 4294967296) bs (P.pc _ (by omega) (by omega) t4) 7 nd n1 n2 imm hd (by decide) (fun W p b h A => ?_) (fun W x r h A => cdo_7_y W x r _ h A (P.cok img) nd n1 n2 imm hI ht t4)
  have := do_br_yes W p b _ h A (P.xok img) _ lv.1 lv.2 7 nd n1 n2 imm hd K (by decide) (by decide) ht
  rw [show jumpR (rst n img xs pc bs) 0 ((((rst n img xs pc bs).pc) + imm) % 4294967296) = rst n img xs ((pc + imm) % 4294967296) bs by unfold jumpR; rw [if_pos (show ((rst n img xs pc bs).pc + imm) % 4294967296 % 4 = 0 from t4)]; rfl] at this
  exact this
theorem bad_7 {n : Nat} {img : ByteArray} {xs : List Int} {pc : Int} {bs : List Int} {m : Nat} (P : PI n xs pc bs) (hm : pc = m) (ho : m + 4 ≤ bs.length) (nd n1 n2 : Nat) (imm : Int) (K : InsOk 7 nd n1 n2 imm) (hd : D.dec (leV bs m 4) = ⟨7, nd, n1, n2, imm⟩) (ht : takenB 7 (xs[n1]?.getD 0) (xs[n2]?.getD 0) = true) (t4 : ¬ (pc + imm) % 4294967296 % 4 = 0) : BadStep n img xs pc bs := by
  have lv := (leV_bd P.b m).2.2
  have xa := P.x n1
  have xb := P.x n2
  have i0 := K.i0
  have i1 := K.i1
  have hI : Iok nd n1 n2 imm := ⟨by have := K.d1; omega, by have := K.s1; omega, by have := K.t1; omega, i0, i1⟩
  refine bad_of hm ho _ (rst_fail n img xs pc bs 0 ((pc + imm) % 4294967296)) (fun W p b h A => ?_)
  have := do_br_yes W p b _ h A (P.xok img) _ lv.1 lv.2 7 nd n1 n2 imm hd K (by decide) (by decide) ht
  rw [show jumpR (rst n img xs pc bs) 0 ((((rst n img xs pc bs).pc) + imm) % 4294967296) = failR (rst n img xs pc bs) 0 ((pc + imm) % 4294967296) by unfold jumpR; rw [if_neg (show ¬ ((rst n img xs pc bs).pc + imm) % 4294967296 % 4 = 0 from t4)]; rfl] at this
  exact this
theorem stp_8_n {n : Nat} {img : ByteArray} {xs : List Int} {pc : Int} {bs : List Int} {m : Nat} (P : PI n xs pc bs) (hm : pc = m) (ho : m + 4 ≤ bs.length) (nd n1 n2 : Nat) (imm : Int) (K : InsOk 8 nd n1 n2 imm) (hd : D.dec (leV bs m 4) = ⟨8, nd, n1, n2, imm⟩) (ht : takenB 8 (xs[n1]?.getD 0) (xs[n2]?.getD 0) = false) : GoodStep n img xs pc bs := by
  have lv := (leV_bd P.b m).2.2
  have xa := P.x n1
  have xb := P.x n2
  have i0 := K.i0
  have i1 := K.i1
  have hI : Iok nd n1 n2 imm := ⟨by have := K.d1; omega, by have := K.s1; omega, by have := K.t1; omega, i0, i1⟩
  exact good_of hm ho xs ((pc + 4) % 4294967296) bs P.next 8 nd n1 n2 imm hd (by decide) (fun W p b h A => do_br_no W p b _ h A (P.xok img) _ lv.1 lv.2 8 nd n1 n2 imm hd K (by decide) (by decide) ht) (fun W x r h A => cdo_8_n W x r _ h A (P.cok img) nd n1 n2 imm hI ht (by have := P.p4; show (pc + 4) % 4294967296 % 4 = 0; omega))
theorem stp_8_y {n : Nat} {img : ByteArray} {xs : List Int} {pc : Int} {bs : List Int} {m : Nat} (P : PI n xs pc bs) (hm : pc = m) (ho : m + 4 ≤ bs.length) (nd n1 n2 : Nat) (imm : Int) (K : InsOk 8 nd n1 n2 imm) (hd : D.dec (leV bs m 4) = ⟨8, nd, n1, n2, imm⟩) (ht : takenB 8 (xs[n1]?.getD 0) (xs[n2]?.getD 0) = true) (t4 : (pc + imm) % 4294967296 % 4 = 0) : GoodStep n img xs pc bs := by
  have lv := (leV_bd P.b m).2.2
  have xa := P.x n1
  have xb := P.x n2
  have i0 := K.i0
  have i1 := K.i1
  have hI : Iok nd n1 n2 imm := ⟨by have := K.d1; omega, by have := K.s1; omega, by have := K.t1; omega, i0, i1⟩
  refine good_of hm ho xs ((pc + imm) % 4294967296) bs (P.pc _ (by omega) (by omega) t4) 8 nd n1 n2 imm hd (by decide) (fun W p b h A => ?_) (fun W x r h A => cdo_8_y W x r _ h A (P.cok img) nd n1 n2 imm hI ht t4)
  have := do_br_yes W p b _ h A (P.xok img) _ lv.1 lv.2 8 nd n1 n2 imm hd K (by decide) (by decide) ht
  rw [show jumpR (rst n img xs pc bs) 0 ((((rst n img xs pc bs).pc) + imm) % 4294967296) = rst n img xs ((pc + imm) % 4294967296) bs by unfold jumpR; rw [if_pos (show ((rst n img xs pc bs).pc + imm) % 4294967296 % 4 = 0 from t4)]; rfl] at this
  exact this
theorem bad_8 {n : Nat} {img : ByteArray} {xs : List Int} {pc : Int} {bs : List Int} {m : Nat} (P : PI n xs pc bs) (hm : pc = m) (ho : m + 4 ≤ bs.length) (nd n1 n2 : Nat) (imm : Int) (K : InsOk 8 nd n1 n2 imm) (hd : D.dec (leV bs m 4) = ⟨8, nd, n1, n2, imm⟩) (ht : takenB 8 (xs[n1]?.getD 0) (xs[n2]?.getD 0) = true) (t4 : ¬ (pc + imm) % 4294967296 % 4 = 0) : BadStep n img xs pc bs := by
  have lv := (leV_bd P.b m).2.2
  have xa := P.x n1
  have xb := P.x n2
  have i0 := K.i0
  have i1 := K.i1
  have hI : Iok nd n1 n2 imm := ⟨by have := K.d1; omega, by have := K.s1; omega, by have := K.t1; omega, i0, i1⟩
  refine bad_of hm ho _ (rst_fail n img xs pc bs 0 ((pc + imm) % 4294967296)) (fun W p b h A => ?_)
  have := do_br_yes W p b _ h A (P.xok img) _ lv.1 lv.2 8 nd n1 n2 imm hd K (by decide) (by decide) ht
  rw [show jumpR (rst n img xs pc bs) 0 ((((rst n img xs pc bs).pc) + imm) % 4294967296) = failR (rst n img xs pc bs) 0 ((pc + imm) % 4294967296) by unfold jumpR; rw [if_neg (show ¬ ((rst n img xs pc bs).pc + imm) % 4294967296 % 4 = 0 from t4)]; rfl] at this
  exact this
theorem stp_9_n {n : Nat} {img : ByteArray} {xs : List Int} {pc : Int} {bs : List Int} {m : Nat} (P : PI n xs pc bs) (hm : pc = m) (ho : m + 4 ≤ bs.length) (nd n1 n2 : Nat) (imm : Int) (K : InsOk 9 nd n1 n2 imm) (hd : D.dec (leV bs m 4) = ⟨9, nd, n1, n2, imm⟩) (ht : takenB 9 (xs[n1]?.getD 0) (xs[n2]?.getD 0) = false) : GoodStep n img xs pc bs := by
  have lv := (leV_bd P.b m).2.2
  have xa := P.x n1
  have xb := P.x n2
  have i0 := K.i0
  have i1 := K.i1
  have hI : Iok nd n1 n2 imm := ⟨by have := K.d1; omega, by have := K.s1; omega, by have := K.t1; omega, i0, i1⟩
  exact good_of hm ho xs ((pc + 4) % 4294967296) bs P.next 9 nd n1 n2 imm hd (by decide) (fun W p b h A => do_br_no W p b _ h A (P.xok img) _ lv.1 lv.2 9 nd n1 n2 imm hd K (by decide) (by decide) ht) (fun W x r h A => cdo_9_n W x r _ h A (P.cok img) nd n1 n2 imm hI ht (by have := P.p4; show (pc + 4) % 4294967296 % 4 = 0; omega))
theorem stp_9_y {n : Nat} {img : ByteArray} {xs : List Int} {pc : Int} {bs : List Int} {m : Nat} (P : PI n xs pc bs) (hm : pc = m) (ho : m + 4 ≤ bs.length) (nd n1 n2 : Nat) (imm : Int) (K : InsOk 9 nd n1 n2 imm) (hd : D.dec (leV bs m 4) = ⟨9, nd, n1, n2, imm⟩) (ht : takenB 9 (xs[n1]?.getD 0) (xs[n2]?.getD 0) = true) (t4 : (pc + imm) % 4294967296 % 4 = 0) : GoodStep n img xs pc bs := by
  have lv := (leV_bd P.b m).2.2
  have xa := P.x n1
  have xb := P.x n2
  have i0 := K.i0
  have i1 := K.i1
  have hI : Iok nd n1 n2 imm := ⟨by have := K.d1; omega, by have := K.s1; omega, by have := K.t1; omega, i0, i1⟩
  refine good_of hm ho xs ((pc + imm) % 4294967296) bs (P.pc _ (by omega) (by omega) t4) 9 nd n1 n2 imm hd (by decide) (fun W p b h A => ?_) (fun W x r h A => cdo_9_y W x r _ h A (P.cok img) nd n1 n2 imm hI ht t4)
  have := do_br_yes W p b _ h A (P.xok img) _ lv.1 lv.2 9 nd n1 n2 imm hd K (by decide) (by decide) ht
  rw [show jumpR (rst n img xs pc bs) 0 ((((rst n img xs pc bs).pc) + imm) % 4294967296) = rst n img xs ((pc + imm) % 4294967296) bs by unfold jumpR; rw [if_pos (show ((rst n img xs pc bs).pc + imm) % 4294967296 % 4 = 0 from t4)]; rfl] at this
  exact this
theorem bad_9 {n : Nat} {img : ByteArray} {xs : List Int} {pc : Int} {bs : List Int} {m : Nat} (P : PI n xs pc bs) (hm : pc = m) (ho : m + 4 ≤ bs.length) (nd n1 n2 : Nat) (imm : Int) (K : InsOk 9 nd n1 n2 imm) (hd : D.dec (leV bs m 4) = ⟨9, nd, n1, n2, imm⟩) (ht : takenB 9 (xs[n1]?.getD 0) (xs[n2]?.getD 0) = true) (t4 : ¬ (pc + imm) % 4294967296 % 4 = 0) : BadStep n img xs pc bs := by
  have lv := (leV_bd P.b m).2.2
  have xa := P.x n1
  have xb := P.x n2
  have i0 := K.i0
  have i1 := K.i1
  have hI : Iok nd n1 n2 imm := ⟨by have := K.d1; omega, by have := K.s1; omega, by have := K.t1; omega, i0, i1⟩
  refine bad_of hm ho _ (rst_fail n img xs pc bs 0 ((pc + imm) % 4294967296)) (fun W p b h A => ?_)
  have := do_br_yes W p b _ h A (P.xok img) _ lv.1 lv.2 9 nd n1 n2 imm hd K (by decide) (by decide) ht
  rw [show jumpR (rst n img xs pc bs) 0 ((((rst n img xs pc bs).pc) + imm) % 4294967296) = failR (rst n img xs pc bs) 0 ((pc + imm) % 4294967296) by unfold jumpR; rw [if_neg (show ¬ ((rst n img xs pc bs).pc + imm) % 4294967296 % 4 = 0 from t4)]; rfl] at this
  exact this
theorem stp_10_n {n : Nat} {img : ByteArray} {xs : List Int} {pc : Int} {bs : List Int} {m : Nat} (P : PI n xs pc bs) (hm : pc = m) (ho : m + 4 ≤ bs.length) (nd n1 n2 : Nat) (imm : Int) (K : InsOk 10 nd n1 n2 imm) (hd : D.dec (leV bs m 4) = ⟨10, nd, n1, n2, imm⟩) (ht : takenB 10 (xs[n1]?.getD 0) (xs[n2]?.getD 0) = false) : GoodStep n img xs pc bs := by
  have lv := (leV_bd P.b m).2.2
  have xa := P.x n1
  have xb := P.x n2
  have i0 := K.i0
  have i1 := K.i1
  have hI : Iok nd n1 n2 imm := ⟨by have := K.d1; omega, by have := K.s1; omega, by have := K.t1; omega, i0, i1⟩
  exact good_of hm ho xs ((pc + 4) % 4294967296) bs P.next 10 nd n1 n2 imm hd (by decide) (fun W p b h A => do_br_no W p b _ h A (P.xok img) _ lv.1 lv.2 10 nd n1 n2 imm hd K (by decide) (by decide) ht) (fun W x r h A => cdo_10_n W x r _ h A (P.cok img) nd n1 n2 imm hI ht (by have := P.p4; show (pc + 4) % 4294967296 % 4 = 0; omega))
theorem stp_10_y {n : Nat} {img : ByteArray} {xs : List Int} {pc : Int} {bs : List Int} {m : Nat} (P : PI n xs pc bs) (hm : pc = m) (ho : m + 4 ≤ bs.length) (nd n1 n2 : Nat) (imm : Int) (K : InsOk 10 nd n1 n2 imm) (hd : D.dec (leV bs m 4) = ⟨10, nd, n1, n2, imm⟩) (ht : takenB 10 (xs[n1]?.getD 0) (xs[n2]?.getD 0) = true) (t4 : (pc + imm) % 4294967296 % 4 = 0) : GoodStep n img xs pc bs := by
  have lv := (leV_bd P.b m).2.2
  have xa := P.x n1
  have xb := P.x n2
  have i0 := K.i0
  have i1 := K.i1
  have hI : Iok nd n1 n2 imm := ⟨by have := K.d1; omega, by have := K.s1; omega, by have := K.t1; omega, i0, i1⟩
  refine good_of hm ho xs ((pc + imm) % 4294967296) bs (P.pc _ (by omega) (by omega) t4) 10 nd n1 n2 imm hd (by decide) (fun W p b h A => ?_) (fun W x r h A => cdo_10_y W x r _ h A (P.cok img) nd n1 n2 imm hI ht t4)
  have := do_br_yes W p b _ h A (P.xok img) _ lv.1 lv.2 10 nd n1 n2 imm hd K (by decide) (by decide) ht
  rw [show jumpR (rst n img xs pc bs) 0 ((((rst n img xs pc bs).pc) + imm) % 4294967296) = rst n img xs ((pc + imm) % 4294967296) bs by unfold jumpR; rw [if_pos (show ((rst n img xs pc bs).pc + imm) % 4294967296 % 4 = 0 from t4)]; rfl] at this
  exact this
theorem bad_10 {n : Nat} {img : ByteArray} {xs : List Int} {pc : Int} {bs : List Int} {m : Nat} (P : PI n xs pc bs) (hm : pc = m) (ho : m + 4 ≤ bs.length) (nd n1 n2 : Nat) (imm : Int) (K : InsOk 10 nd n1 n2 imm) (hd : D.dec (leV bs m 4) = ⟨10, nd, n1, n2, imm⟩) (ht : takenB 10 (xs[n1]?.getD 0) (xs[n2]?.getD 0) = true) (t4 : ¬ (pc + imm) % 4294967296 % 4 = 0) : BadStep n img xs pc bs := by
  have lv := (leV_bd P.b m).2.2
  have xa := P.x n1
  have xb := P.x n2
  have i0 := K.i0
  have i1 := K.i1
  have hI : Iok nd n1 n2 imm := ⟨by have := K.d1; omega, by have := K.s1; omega, by have := K.t1; omega, i0, i1⟩
  refine bad_of hm ho _ (rst_fail n img xs pc bs 0 ((pc + imm) % 4294967296)) (fun W p b h A => ?_)
  have := do_br_yes W p b _ h A (P.xok img) _ lv.1 lv.2 10 nd n1 n2 imm hd K (by decide) (by decide) ht
  rw [show jumpR (rst n img xs pc bs) 0 ((((rst n img xs pc bs).pc) + imm) % 4294967296) = failR (rst n img xs pc bs) 0 ((pc + imm) % 4294967296) by unfold jumpR; rw [if_neg (show ¬ ((rst n img xs pc bs).pc + imm) % 4294967296 % 4 = 0 from t4)]; rfl] at this
  exact this
theorem stp_11_lo {n : Nat} {img : ByteArray} {xs : List Int} {pc : Int} {bs : List Int} {m : Nat} (P : PI n xs pc bs) (hm : pc = m) (ho : m + 4 ≤ bs.length) (nd n1 n2 : Nat) (imm : Int) (K : InsOk 11 nd n1 n2 imm) (hd : D.dec (leV bs m 4) = ⟨11, nd, n1, n2, imm⟩) (a : Nat) (ea : (xs[n1]?.getD 0 + imm) % 4294967296 = a) (ha : a + 1 ≤ bs.length) (hc : leV bs a 1 < 128) : GoodStep n img xs pc bs := by
  have lv := (leV_bd P.b m).2.2
  have xa := P.x n1
  have xb := P.x n2
  have i0 := K.i0
  have i1 := K.i1
  have hI : Iok nd n1 n2 imm := ⟨by have := K.d1; omega, by have := K.s1; omega, by have := K.t1; omega, i0, i1⟩
  have bd := leV_bd P.b a
  refine good_of hm ho (putX xs nd (leV bs a 1)) ((pc + 4) % 4294967296) bs ((P.put nd _ (by omega) (by omega)).next) 11 nd n1 n2 imm hd (by decide) (fun W p b h A => ?_) (fun W x r h A => cdo_11_lo W x r _ h A (P.cok img) nd n1 n2 imm hI a ea ha hc)
  refine do_load W p b _ h A (P.xok img) _ lv.1 lv.2 11 nd n1 n2 imm hd K (by decide) (by decide) _ fun W' h' => ?_
  have := load_in_11_lo W' p b _ h' A nd hI.d n1 n2 imm a ha hc
  rw [show (xAt (rst n img xs pc bs) n1 + imm) % 4294967296 = (a : Int) from ea]
  exact this
theorem stp_11_hi {n : Nat} {img : ByteArray} {xs : List Int} {pc : Int} {bs : List Int} {m : Nat} (P : PI n xs pc bs) (hm : pc = m) (ho : m + 4 ≤ bs.length) (nd n1 n2 : Nat) (imm : Int) (K : InsOk 11 nd n1 n2 imm) (hd : D.dec (leV bs m 4) = ⟨11, nd, n1, n2, imm⟩) (a : Nat) (ea : (xs[n1]?.getD 0 + imm) % 4294967296 = a) (ha : a + 1 ≤ bs.length) (hc : ¬ leV bs a 1 < 128) : GoodStep n img xs pc bs := by
  have lv := (leV_bd P.b m).2.2
  have xa := P.x n1
  have xb := P.x n2
  have i0 := K.i0
  have i1 := K.i1
  have hI : Iok nd n1 n2 imm := ⟨by have := K.d1; omega, by have := K.s1; omega, by have := K.t1; omega, i0, i1⟩
  have bd := leV_bd P.b a
  refine good_of hm ho (putX xs nd (leV bs a 1 + 4294967040)) ((pc + 4) % 4294967296) bs ((P.put nd _ (by omega) (by omega)).next) 11 nd n1 n2 imm hd (by decide) (fun W p b h A => ?_) (fun W x r h A => cdo_11_hi W x r _ h A (P.cok img) nd n1 n2 imm hI a ea ha hc)
  refine do_load W p b _ h A (P.xok img) _ lv.1 lv.2 11 nd n1 n2 imm hd K (by decide) (by decide) _ fun W' h' => ?_
  have := load_in_11_hi W' p b _ h' A nd hI.d n1 n2 imm a ha hc
  rw [show (xAt (rst n img xs pc bs) n1 + imm) % 4294967296 = (a : Int) from ea]
  exact this
theorem bad_11 {n : Nat} {img : ByteArray} {xs : List Int} {pc : Int} {bs : List Int} {m : Nat} (P : PI n xs pc bs) (hm : pc = m) (ho : m + 4 ≤ bs.length) (nd n1 n2 : Nat) (imm : Int) (K : InsOk 11 nd n1 n2 imm) (hd : D.dec (leV bs m 4) = ⟨11, nd, n1, n2, imm⟩) (a : Nat) (ea : (xs[n1]?.getD 0 + imm) % 4294967296 = a) (ha : ¬ a + 1 ≤ bs.length) : BadStep n img xs pc bs := by
  have lv := (leV_bd P.b m).2.2
  have xa := P.x n1
  have xb := P.x n2
  have i0 := K.i0
  have i1 := K.i1
  have hI : Iok nd n1 n2 imm := ⟨by have := K.d1; omega, by have := K.s1; omega, by have := K.t1; omega, i0, i1⟩
  refine bad_of hm ho (failR (dvR (rst n img xs pc bs)) 5 a) (dv_fail n img xs pc bs 5 a _ ⟨rfl, rfl, rfl⟩) (fun W p b h A => ?_)
  refine do_load W p b _ h A (P.xok img) _ lv.1 lv.2 11 nd n1 n2 imm hd K (by decide) (by decide) _ fun W' h' => ?_
  have := load_out_11 W' p b _ h' A nd hI.d n1 n2 imm a (by omega) ha
  rw [show (xAt (rst n img xs pc bs) n1 + imm) % 4294967296 = (a : Int) from ea]
  exact this
theorem stp_12_lo {n : Nat} {img : ByteArray} {xs : List Int} {pc : Int} {bs : List Int} {m : Nat} (P : PI n xs pc bs) (hm : pc = m) (ho : m + 4 ≤ bs.length) (nd n1 n2 : Nat) (imm : Int) (K : InsOk 12 nd n1 n2 imm) (hd : D.dec (leV bs m 4) = ⟨12, nd, n1, n2, imm⟩) (a : Nat) (ea : (xs[n1]?.getD 0 + imm) % 4294967296 = a) (ha : a + 2 ≤ bs.length) (hc : leV bs a 2 < 32768) : GoodStep n img xs pc bs := by
  have lv := (leV_bd P.b m).2.2
  have xa := P.x n1
  have xb := P.x n2
  have i0 := K.i0
  have i1 := K.i1
  have hI : Iok nd n1 n2 imm := ⟨by have := K.d1; omega, by have := K.s1; omega, by have := K.t1; omega, i0, i1⟩
  have bd := leV_bd P.b a
  refine good_of hm ho (putX xs nd (leV bs a 2)) ((pc + 4) % 4294967296) bs ((P.put nd _ (by omega) (by omega)).next) 12 nd n1 n2 imm hd (by decide) (fun W p b h A => ?_) (fun W x r h A => cdo_12_lo W x r _ h A (P.cok img) nd n1 n2 imm hI a ea ha hc)
  refine do_load W p b _ h A (P.xok img) _ lv.1 lv.2 12 nd n1 n2 imm hd K (by decide) (by decide) _ fun W' h' => ?_
  have := load_in_12_lo W' p b _ h' A nd hI.d n1 n2 imm a ha hc
  rw [show (xAt (rst n img xs pc bs) n1 + imm) % 4294967296 = (a : Int) from ea]
  exact this
theorem stp_12_hi {n : Nat} {img : ByteArray} {xs : List Int} {pc : Int} {bs : List Int} {m : Nat} (P : PI n xs pc bs) (hm : pc = m) (ho : m + 4 ≤ bs.length) (nd n1 n2 : Nat) (imm : Int) (K : InsOk 12 nd n1 n2 imm) (hd : D.dec (leV bs m 4) = ⟨12, nd, n1, n2, imm⟩) (a : Nat) (ea : (xs[n1]?.getD 0 + imm) % 4294967296 = a) (ha : a + 2 ≤ bs.length) (hc : ¬ leV bs a 2 < 32768) : GoodStep n img xs pc bs := by
  have lv := (leV_bd P.b m).2.2
  have xa := P.x n1
  have xb := P.x n2
  have i0 := K.i0
  have i1 := K.i1
  have hI : Iok nd n1 n2 imm := ⟨by have := K.d1; omega, by have := K.s1; omega, by have := K.t1; omega, i0, i1⟩
  have bd := leV_bd P.b a
  refine good_of hm ho (putX xs nd (leV bs a 2 + 4294901760)) ((pc + 4) % 4294967296) bs ((P.put nd _ (by omega) (by omega)).next) 12 nd n1 n2 imm hd (by decide) (fun W p b h A => ?_) (fun W x r h A => cdo_12_hi W x r _ h A (P.cok img) nd n1 n2 imm hI a ea ha hc)
  refine do_load W p b _ h A (P.xok img) _ lv.1 lv.2 12 nd n1 n2 imm hd K (by decide) (by decide) _ fun W' h' => ?_
  have := load_in_12_hi W' p b _ h' A nd hI.d n1 n2 imm a ha hc
  rw [show (xAt (rst n img xs pc bs) n1 + imm) % 4294967296 = (a : Int) from ea]
  exact this
theorem bad_12 {n : Nat} {img : ByteArray} {xs : List Int} {pc : Int} {bs : List Int} {m : Nat} (P : PI n xs pc bs) (hm : pc = m) (ho : m + 4 ≤ bs.length) (nd n1 n2 : Nat) (imm : Int) (K : InsOk 12 nd n1 n2 imm) (hd : D.dec (leV bs m 4) = ⟨12, nd, n1, n2, imm⟩) (a : Nat) (ea : (xs[n1]?.getD 0 + imm) % 4294967296 = a) (ha : ¬ a + 2 ≤ bs.length) : BadStep n img xs pc bs := by
  have lv := (leV_bd P.b m).2.2
  have xa := P.x n1
  have xb := P.x n2
  have i0 := K.i0
  have i1 := K.i1
  have hI : Iok nd n1 n2 imm := ⟨by have := K.d1; omega, by have := K.s1; omega, by have := K.t1; omega, i0, i1⟩
  refine bad_of hm ho (failR (dvR (rst n img xs pc bs)) 5 a) (dv_fail n img xs pc bs 5 a _ ⟨rfl, rfl, rfl⟩) (fun W p b h A => ?_)
  refine do_load W p b _ h A (P.xok img) _ lv.1 lv.2 12 nd n1 n2 imm hd K (by decide) (by decide) _ fun W' h' => ?_
  have := load_out_12 W' p b _ h' A nd hI.d n1 n2 imm a (by omega) ha
  rw [show (xAt (rst n img xs pc bs) n1 + imm) % 4294967296 = (a : Int) from ea]
  exact this
theorem stp_13 {n : Nat} {img : ByteArray} {xs : List Int} {pc : Int} {bs : List Int} {m : Nat} (P : PI n xs pc bs) (hm : pc = m) (ho : m + 4 ≤ bs.length) (nd n1 n2 : Nat) (imm : Int) (K : InsOk 13 nd n1 n2 imm) (hd : D.dec (leV bs m 4) = ⟨13, nd, n1, n2, imm⟩) (a : Nat) (ea : (xs[n1]?.getD 0 + imm) % 4294967296 = a) (ha : a + 4 ≤ bs.length) : GoodStep n img xs pc bs := by
  have lv := (leV_bd P.b m).2.2
  have xa := P.x n1
  have xb := P.x n2
  have i0 := K.i0
  have i1 := K.i1
  have hI : Iok nd n1 n2 imm := ⟨by have := K.d1; omega, by have := K.s1; omega, by have := K.t1; omega, i0, i1⟩
  have bd := leV_bd P.b a
  refine good_of hm ho (putX xs nd (leV bs a 4)) ((pc + 4) % 4294967296) bs ((P.put nd _ (by omega) (by omega)).next) 13 nd n1 n2 imm hd (by decide) (fun W p b h A => ?_) (fun W x r h A => cdo_13 W x r _ h A (P.cok img) nd n1 n2 imm hI a ea ha)
  refine do_load W p b _ h A (P.xok img) _ lv.1 lv.2 13 nd n1 n2 imm hd K (by decide) (by decide) _ fun W' h' => ?_
  have := load_in_13 W' p b _ h' A nd hI.d n1 n2 imm a ha
  rw [show (xAt (rst n img xs pc bs) n1 + imm) % 4294967296 = (a : Int) from ea]
  exact this
theorem bad_13 {n : Nat} {img : ByteArray} {xs : List Int} {pc : Int} {bs : List Int} {m : Nat} (P : PI n xs pc bs) (hm : pc = m) (ho : m + 4 ≤ bs.length) (nd n1 n2 : Nat) (imm : Int) (K : InsOk 13 nd n1 n2 imm) (hd : D.dec (leV bs m 4) = ⟨13, nd, n1, n2, imm⟩) (a : Nat) (ea : (xs[n1]?.getD 0 + imm) % 4294967296 = a) (ha : ¬ a + 4 ≤ bs.length) : BadStep n img xs pc bs := by
  have lv := (leV_bd P.b m).2.2
  have xa := P.x n1
  have xb := P.x n2
  have i0 := K.i0
  have i1 := K.i1
  have hI : Iok nd n1 n2 imm := ⟨by have := K.d1; omega, by have := K.s1; omega, by have := K.t1; omega, i0, i1⟩
  refine bad_of hm ho (ldOut (rst n img xs pc bs) nd a) (ldOut_bad n img xs pc bs nd a) (fun W p b h A => ?_)
  refine do_load W p b _ h A (P.xok img) _ lv.1 lv.2 13 nd n1 n2 imm hd K (by decide) (by decide) _ fun W' h' => ?_
  have := load_out_13 W' p b _ h' A nd hI.d n1 n2 imm a (by omega) ha
  rw [show (xAt (rst n img xs pc bs) n1 + imm) % 4294967296 = (a : Int) from ea]
  exact this
theorem stp_14 {n : Nat} {img : ByteArray} {xs : List Int} {pc : Int} {bs : List Int} {m : Nat} (P : PI n xs pc bs) (hm : pc = m) (ho : m + 4 ≤ bs.length) (nd n1 n2 : Nat) (imm : Int) (K : InsOk 14 nd n1 n2 imm) (hd : D.dec (leV bs m 4) = ⟨14, nd, n1, n2, imm⟩) (a : Nat) (ea : (xs[n1]?.getD 0 + imm) % 4294967296 = a) (ha : a + 1 ≤ bs.length) : GoodStep n img xs pc bs := by
  have lv := (leV_bd P.b m).2.2
  have xa := P.x n1
  have xb := P.x n2
  have i0 := K.i0
  have i1 := K.i1
  have hI : Iok nd n1 n2 imm := ⟨by have := K.d1; omega, by have := K.s1; omega, by have := K.t1; omega, i0, i1⟩
  have bd := leV_bd P.b a
  refine good_of hm ho (putX xs nd (leV bs a 1)) ((pc + 4) % 4294967296) bs ((P.put nd _ (by omega) (by omega)).next) 14 nd n1 n2 imm hd (by decide) (fun W p b h A => ?_) (fun W x r h A => cdo_14 W x r _ h A (P.cok img) nd n1 n2 imm hI a ea ha)
  refine do_load W p b _ h A (P.xok img) _ lv.1 lv.2 14 nd n1 n2 imm hd K (by decide) (by decide) _ fun W' h' => ?_
  have := load_in_14 W' p b _ h' A nd hI.d n1 n2 imm a ha
  rw [show (xAt (rst n img xs pc bs) n1 + imm) % 4294967296 = (a : Int) from ea]
  exact this
theorem bad_14 {n : Nat} {img : ByteArray} {xs : List Int} {pc : Int} {bs : List Int} {m : Nat} (P : PI n xs pc bs) (hm : pc = m) (ho : m + 4 ≤ bs.length) (nd n1 n2 : Nat) (imm : Int) (K : InsOk 14 nd n1 n2 imm) (hd : D.dec (leV bs m 4) = ⟨14, nd, n1, n2, imm⟩) (a : Nat) (ea : (xs[n1]?.getD 0 + imm) % 4294967296 = a) (ha : ¬ a + 1 ≤ bs.length) : BadStep n img xs pc bs := by
  have lv := (leV_bd P.b m).2.2
  have xa := P.x n1
  have xb := P.x n2
  have i0 := K.i0
  have i1 := K.i1
  have hI : Iok nd n1 n2 imm := ⟨by have := K.d1; omega, by have := K.s1; omega, by have := K.t1; omega, i0, i1⟩
  refine bad_of hm ho (failR (dvR (rst n img xs pc bs)) 5 a) (dv_fail n img xs pc bs 5 a _ ⟨rfl, rfl, rfl⟩) (fun W p b h A => ?_)
  refine do_load W p b _ h A (P.xok img) _ lv.1 lv.2 14 nd n1 n2 imm hd K (by decide) (by decide) _ fun W' h' => ?_
  have := load_out_14 W' p b _ h' A nd hI.d n1 n2 imm a (by omega) ha
  rw [show (xAt (rst n img xs pc bs) n1 + imm) % 4294967296 = (a : Int) from ea]
  exact this
theorem stp_15 {n : Nat} {img : ByteArray} {xs : List Int} {pc : Int} {bs : List Int} {m : Nat} (P : PI n xs pc bs) (hm : pc = m) (ho : m + 4 ≤ bs.length) (nd n1 n2 : Nat) (imm : Int) (K : InsOk 15 nd n1 n2 imm) (hd : D.dec (leV bs m 4) = ⟨15, nd, n1, n2, imm⟩) (a : Nat) (ea : (xs[n1]?.getD 0 + imm) % 4294967296 = a) (ha : a + 2 ≤ bs.length) : GoodStep n img xs pc bs := by
  have lv := (leV_bd P.b m).2.2
  have xa := P.x n1
  have xb := P.x n2
  have i0 := K.i0
  have i1 := K.i1
  have hI : Iok nd n1 n2 imm := ⟨by have := K.d1; omega, by have := K.s1; omega, by have := K.t1; omega, i0, i1⟩
  have bd := leV_bd P.b a
  refine good_of hm ho (putX xs nd (leV bs a 2)) ((pc + 4) % 4294967296) bs ((P.put nd _ (by omega) (by omega)).next) 15 nd n1 n2 imm hd (by decide) (fun W p b h A => ?_) (fun W x r h A => cdo_15 W x r _ h A (P.cok img) nd n1 n2 imm hI a ea ha)
  refine do_load W p b _ h A (P.xok img) _ lv.1 lv.2 15 nd n1 n2 imm hd K (by decide) (by decide) _ fun W' h' => ?_
  have := load_in_15 W' p b _ h' A nd hI.d n1 n2 imm a ha
  rw [show (xAt (rst n img xs pc bs) n1 + imm) % 4294967296 = (a : Int) from ea]
  exact this
theorem bad_15 {n : Nat} {img : ByteArray} {xs : List Int} {pc : Int} {bs : List Int} {m : Nat} (P : PI n xs pc bs) (hm : pc = m) (ho : m + 4 ≤ bs.length) (nd n1 n2 : Nat) (imm : Int) (K : InsOk 15 nd n1 n2 imm) (hd : D.dec (leV bs m 4) = ⟨15, nd, n1, n2, imm⟩) (a : Nat) (ea : (xs[n1]?.getD 0 + imm) % 4294967296 = a) (ha : ¬ a + 2 ≤ bs.length) : BadStep n img xs pc bs := by
  have lv := (leV_bd P.b m).2.2
  have xa := P.x n1
  have xb := P.x n2
  have i0 := K.i0
  have i1 := K.i1
  have hI : Iok nd n1 n2 imm := ⟨by have := K.d1; omega, by have := K.s1; omega, by have := K.t1; omega, i0, i1⟩
  refine bad_of hm ho (failR (dvR (rst n img xs pc bs)) 5 a) (dv_fail n img xs pc bs 5 a _ ⟨rfl, rfl, rfl⟩) (fun W p b h A => ?_)
  refine do_load W p b _ h A (P.xok img) _ lv.1 lv.2 15 nd n1 n2 imm hd K (by decide) (by decide) _ fun W' h' => ?_
  have := load_out_15 W' p b _ h' A nd hI.d n1 n2 imm a (by omega) ha
  rw [show (xAt (rst n img xs pc bs) n1 + imm) % 4294967296 = (a : Int) from ea]
  exact this
theorem stp_16 {n : Nat} {img : ByteArray} {xs : List Int} {pc : Int} {bs : List Int} {m : Nat} (P : PI n xs pc bs) (hm : pc = m) (ho : m + 4 ≤ bs.length) (nd n1 n2 : Nat) (imm : Int) (K : InsOk 16 nd n1 n2 imm) (hd : D.dec (leV bs m 4) = ⟨16, nd, n1, n2, imm⟩) (a : Nat) (ea : (xs[n1]?.getD 0 + imm) % 4294967296 = a) (ha : a + 1 ≤ bs.length) : GoodStep n img xs pc bs := by
  have lv := (leV_bd P.b m).2.2
  have xa := P.x n1
  have xb := P.x n2
  have i0 := K.i0
  have i1 := K.i1
  have hI : Iok nd n1 n2 imm := ⟨by have := K.d1; omega, by have := K.s1; omega, by have := K.t1; omega, i0, i1⟩
  refine good_of hm ho xs ((pc + 4) % 4294967296) (stV bs a (xs[n2]?.getD 0) 1) ((P.ram a 1 _).next) 16 nd n1 n2 imm hd (by decide) (fun W p b h A => ?_) (fun W x r h A => cdo_16 W x r _ h A (P.cok img) nd n1 n2 imm hI a ea ha)
  refine do_store W p b _ h A (P.xok img) _ lv.1 lv.2 16 nd n1 n2 imm hd K (by decide) (by decide) _ fun W' h' => ?_
  have := store_in_16 W' p b _ h' A a (xs[n2]?.getD 0) xb.1 xb.2 ha
  rw [show (xAt (rst n img xs pc bs) n1 + imm) % 4294967296 = (a : Int) from ea]
  exact this
theorem bad_16 {n : Nat} {img : ByteArray} {xs : List Int} {pc : Int} {bs : List Int} {m : Nat} (P : PI n xs pc bs) (hm : pc = m) (ho : m + 4 ≤ bs.length) (nd n1 n2 : Nat) (imm : Int) (K : InsOk 16 nd n1 n2 imm) (hd : D.dec (leV bs m 4) = ⟨16, nd, n1, n2, imm⟩) (a : Nat) (ea : (xs[n1]?.getD 0 + imm) % 4294967296 = a) (ha : ¬ a + 1 ≤ bs.length) : BadStep n img xs pc bs := by
  have lv := (leV_bd P.b m).2.2
  have xa := P.x n1
  have xb := P.x n2
  have i0 := K.i0
  have i1 := K.i1
  have hI : Iok nd n1 n2 imm := ⟨by have := K.d1; omega, by have := K.s1; omega, by have := K.t1; omega, i0, i1⟩
  refine bad_of hm ho (failR (dvR (rst n img xs pc bs)) 7 a) (dv_fail n img xs pc bs 7 a _ ⟨rfl, rfl, rfl⟩) (fun W p b h A => ?_)
  refine do_store W p b _ h A (P.xok img) _ lv.1 lv.2 16 nd n1 n2 imm hd K (by decide) (by decide) _ fun W' h' => ?_
  have := store_out_16 W' p b _ h' A a (xs[n2]?.getD 0) (by omega) ha
  rw [show (xAt (rst n img xs pc bs) n1 + imm) % 4294967296 = (a : Int) from ea]
  exact this
theorem stp_17 {n : Nat} {img : ByteArray} {xs : List Int} {pc : Int} {bs : List Int} {m : Nat} (P : PI n xs pc bs) (hm : pc = m) (ho : m + 4 ≤ bs.length) (nd n1 n2 : Nat) (imm : Int) (K : InsOk 17 nd n1 n2 imm) (hd : D.dec (leV bs m 4) = ⟨17, nd, n1, n2, imm⟩) (a : Nat) (ea : (xs[n1]?.getD 0 + imm) % 4294967296 = a) (ha : a + 2 ≤ bs.length) : GoodStep n img xs pc bs := by
  have lv := (leV_bd P.b m).2.2
  have xa := P.x n1
  have xb := P.x n2
  have i0 := K.i0
  have i1 := K.i1
  have hI : Iok nd n1 n2 imm := ⟨by have := K.d1; omega, by have := K.s1; omega, by have := K.t1; omega, i0, i1⟩
  refine good_of hm ho xs ((pc + 4) % 4294967296) (stV bs a (xs[n2]?.getD 0) 2) ((P.ram a 2 _).next) 17 nd n1 n2 imm hd (by decide) (fun W p b h A => ?_) (fun W x r h A => cdo_17 W x r _ h A (P.cok img) nd n1 n2 imm hI a ea ha)
  refine do_store W p b _ h A (P.xok img) _ lv.1 lv.2 17 nd n1 n2 imm hd K (by decide) (by decide) _ fun W' h' => ?_
  have := store_in_17 W' p b _ h' A a (xs[n2]?.getD 0) xb.1 xb.2 ha
  rw [show (xAt (rst n img xs pc bs) n1 + imm) % 4294967296 = (a : Int) from ea]
  exact this
theorem bad_17 {n : Nat} {img : ByteArray} {xs : List Int} {pc : Int} {bs : List Int} {m : Nat} (P : PI n xs pc bs) (hm : pc = m) (ho : m + 4 ≤ bs.length) (nd n1 n2 : Nat) (imm : Int) (K : InsOk 17 nd n1 n2 imm) (hd : D.dec (leV bs m 4) = ⟨17, nd, n1, n2, imm⟩) (a : Nat) (ea : (xs[n1]?.getD 0 + imm) % 4294967296 = a) (ha : ¬ a + 2 ≤ bs.length) : BadStep n img xs pc bs := by
  have lv := (leV_bd P.b m).2.2
  have xa := P.x n1
  have xb := P.x n2
  have i0 := K.i0
  have i1 := K.i1
  have hI : Iok nd n1 n2 imm := ⟨by have := K.d1; omega, by have := K.s1; omega, by have := K.t1; omega, i0, i1⟩
  refine bad_of hm ho (failR (dvR (rst n img xs pc bs)) 7 a) (dv_fail n img xs pc bs 7 a _ ⟨rfl, rfl, rfl⟩) (fun W p b h A => ?_)
  refine do_store W p b _ h A (P.xok img) _ lv.1 lv.2 17 nd n1 n2 imm hd K (by decide) (by decide) _ fun W' h' => ?_
  have := store_out_17 W' p b _ h' A a (xs[n2]?.getD 0) (by omega) ha
  rw [show (xAt (rst n img xs pc bs) n1 + imm) % 4294967296 = (a : Int) from ea]
  exact this
theorem stp_18 {n : Nat} {img : ByteArray} {xs : List Int} {pc : Int} {bs : List Int} {m : Nat} (P : PI n xs pc bs) (hm : pc = m) (ho : m + 4 ≤ bs.length) (nd n1 n2 : Nat) (imm : Int) (K : InsOk 18 nd n1 n2 imm) (hd : D.dec (leV bs m 4) = ⟨18, nd, n1, n2, imm⟩) (a : Nat) (ea : (xs[n1]?.getD 0 + imm) % 4294967296 = a) (ha : a + 4 ≤ bs.length) : GoodStep n img xs pc bs := by
  have lv := (leV_bd P.b m).2.2
  have xa := P.x n1
  have xb := P.x n2
  have i0 := K.i0
  have i1 := K.i1
  have hI : Iok nd n1 n2 imm := ⟨by have := K.d1; omega, by have := K.s1; omega, by have := K.t1; omega, i0, i1⟩
  refine good_of hm ho xs ((pc + 4) % 4294967296) (stV bs a (xs[n2]?.getD 0) 4) ((P.ram a 4 _).next) 18 nd n1 n2 imm hd (by decide) (fun W p b h A => ?_) (fun W x r h A => cdo_18 W x r _ h A (P.cok img) nd n1 n2 imm hI a ea ha)
  refine do_store W p b _ h A (P.xok img) _ lv.1 lv.2 18 nd n1 n2 imm hd K (by decide) (by decide) _ fun W' h' => ?_
  have := store_in_18 W' p b _ h' A a (xs[n2]?.getD 0) xb.1 xb.2 ha
  rw [show (xAt (rst n img xs pc bs) n1 + imm) % 4294967296 = (a : Int) from ea]
  exact this
theorem bad_18 {n : Nat} {img : ByteArray} {xs : List Int} {pc : Int} {bs : List Int} {m : Nat} (P : PI n xs pc bs) (hm : pc = m) (ho : m + 4 ≤ bs.length) (nd n1 n2 : Nat) (imm : Int) (K : InsOk 18 nd n1 n2 imm) (hd : D.dec (leV bs m 4) = ⟨18, nd, n1, n2, imm⟩) (a : Nat) (ea : (xs[n1]?.getD 0 + imm) % 4294967296 = a) (ha : ¬ a + 4 ≤ bs.length) : BadStep n img xs pc bs := by
  have lv := (leV_bd P.b m).2.2
  have xa := P.x n1
  have xb := P.x n2
  have i0 := K.i0
  have i1 := K.i1
  have hI : Iok nd n1 n2 imm := ⟨by have := K.d1; omega, by have := K.s1; omega, by have := K.t1; omega, i0, i1⟩
  refine bad_of hm ho (stOut (rst n img xs pc bs) a (xs[n2]?.getD 0)) (stOut_bad n img xs pc bs a _) (fun W p b h A => ?_)
  refine do_store W p b _ h A (P.xok img) _ lv.1 lv.2 18 nd n1 n2 imm hd K (by decide) (by decide) _ fun W' h' => ?_
  have := store_out_18 W' p b _ h' A a (xs[n2]?.getD 0) (by omega) ha (compl_dv n img xs pc bs _ xb.1 p b)
  rw [show (xAt (rst n img xs pc bs) n1 + imm) % 4294967296 = (a : Int) from ea]
  exact this
theorem bad_0 {n : Nat} {img : ByteArray} {xs : List Int} {pc : Int} {bs : List Int} {m : Nat} (P : PI n xs pc bs) (hm : pc = m) (ho : m + 4 ≤ bs.length) (nd n1 n2 : Nat) (imm : Int) (K : InsOk 0 nd n1 n2 imm) (hd : D.dec (leV bs m 4) = ⟨0, nd, n1, n2, imm⟩) : BadStep n img xs pc bs := by
  have lv := (leV_bd P.b m).2.2
  have xa := P.x n1
  have xb := P.x n2
  have i0 := K.i0
  have i1 := K.i1
  have hI : Iok nd n1 n2 imm := ⟨by have := K.d1; omega, by have := K.s1; omega, by have := K.t1; omega, i0, i1⟩
  exact bad_of hm ho _ (rst_fail n img xs pc bs 2 (leV bs m 4)) (fun W p b h A => do_none W p b _ h A (P.xok img) _ lv.1 lv.2 nd n1 n2 imm hd K)
theorem bad_lev {n : Nat} {img : ByteArray} {xs : List Int} {pc : Int} {bs : List Int} {m : Nat} (op : Int) (o1 : 39 ≤ op) (o2 : op ≤ 43) (P : PI n xs pc bs) (hm : pc = m) (ho : m + 4 ≤ bs.length) (nd n1 n2 : Nat) (imm : Int) (K : InsOk op nd n1 n2 imm) (hd : D.dec (leV bs m 4) = ⟨op, nd, n1, n2, imm⟩) : BadStep n img xs pc bs := by
  have lv := (leV_bd P.b m).2.2
  have xa := P.x n1
  have xb := P.x n2
  have i0 := K.i0
  have i1 := K.i1
  have hI : Iok nd n1 n2 imm := ⟨by have := K.d1; omega, by have := K.s1; omega, by have := K.t1; omega, i0, i1⟩
  exact bad_of hm ho _ (lev_bad n img xs pc bs op (leV bs m 4)) (fun W p b h A => do_lev W p b _ h A (P.xok img) _ lv.1 lv.2 op nd n1 n2 imm hd K o1 o2 _ fun W' h' => lev_any W' p b _ h' A op _ ⟨o1, o2⟩ (Or.inr (Or.inr rfl)))
theorem bad_ctl {n : Nat} {img : ByteArray} {xs : List Int} {pc : Int} {bs : List Int} {m : Nat} (op : Int) (o1 : 44 ≤ op) (o2 : op ≤ 49) (P : PI n xs pc bs) (hm : pc = m) (ho : m + 4 ≤ bs.length) (nd n1 n2 : Nat) (imm : Int) (K : InsOk op nd n1 n2 imm) (hd : D.dec (leV bs m 4) = ⟨op, nd, n1, n2, imm⟩) : BadStep n img xs pc bs := by
  have lv := (leV_bd P.b m).2.2
  have xa := P.x n1
  have xb := P.x n2
  have i0 := K.i0
  have i1 := K.i1
  have hI : Iok nd n1 n2 imm := ⟨by have := K.d1; omega, by have := K.s1; omega, by have := K.t1; omega, i0, i1⟩
  obtain ⟨k, rfl⟩ : ∃ k : Nat, imm = k := ⟨imm.toNat, by omega⟩
  have hk : k < 4096 := by have := K.cs o1; omega
  obtain ⟨s', hb, hC⟩ := control_bad n img xs pc bs op ⟨o1, o2⟩ nd n1 hI.d hI.s n2 k hk (leV bs m 4) (xs[n1]?.getD 0) xa.1 xa.2
  exact bad_of hm ho s' hb (fun W p b h A => do_ctl W p b _ h A (P.xok img) _ lv.1 lv.2 op nd n1 n2 k hd K o1 _ fun W' h' => hC W' p b h' A)

theorem step_one {n : Nat} {img : ByteArray} {xs : List Int} {pc : Int} {bs : List Int} (P : PI n xs pc bs) : BadStep n img xs pc bs ∨ GoodStep n img xs pc bs := by
  obtain ⟨m, hm⟩ : ∃ m : Nat, pc = m := ⟨pc.toNat, by have := P.p0; omega⟩
  by_cases ho : m + 4 ≤ bs.length
  · have lv := (leV_bd P.b m).2.2
    have K0 := dec_ok (leV bs m 4) lv.1 lv.2
    obtain ⟨op, rd, r1, r2, imm, hd⟩ : ∃ op rd r1 r2 imm, D.dec (leV bs m 4) = ⟨op, rd, r1, r2, imm⟩ := ⟨_, _, _, _, _, rfl⟩
    rw [hd] at K0
    have K : InsOk op rd r1 r2 imm := K0
    clear K0
    obtain ⟨nd, rfl⟩ : ∃ k : Nat, rd = k := ⟨rd.toNat, by have := K.d0; omega⟩
    obtain ⟨n1, rfl⟩ : ∃ k : Nat, r1 = k := ⟨r1.toNat, by have := K.s0; omega⟩
    obtain ⟨n2, rfl⟩ : ∃ k : Nat, r2 = k := ⟨r2.toNat, by have := K.t0; omega⟩
    obtain ⟨a, ea⟩ : ∃ a : Nat, (xs[n1]?.getD 0 + imm) % 4294967296 = a := ⟨((xs[n1]?.getD 0 + imm) % 4294967296).toNat, by omega⟩
    have o0 := K.o0
    have o1 := K.o1
    by_cases hl : 39 ≤ op
    · by_cases h44 : 44 ≤ op
      · exact .inl (bad_ctl op h44 o1 P hm ho nd n1 n2 imm K hd)
      · exact .inl (bad_lev op hl (by omega) P hm ho nd n1 n2 imm K hd)
    have hop : op = 0 ∨ op = 1 ∨ op = 2 ∨ op = 3 ∨ op = 4 ∨ op = 5 ∨ op = 6 ∨ op = 7 ∨ op = 8 ∨ op = 9 ∨ op = 10 ∨ op = 11 ∨ op = 12 ∨ op = 13 ∨ op = 14 ∨ op = 15 ∨ op = 16 ∨ op = 17 ∨ op = 18 ∨ op = 19 ∨ op = 20 ∨ op = 21 ∨ op = 22 ∨ op = 23 ∨ op = 24 ∨ op = 25 ∨ op = 26 ∨ op = 27 ∨ op = 28 ∨ op = 29 ∨ op = 30 ∨ op = 31 ∨ op = 32 ∨ op = 33 ∨ op = 34 ∨ op = 35 ∨ op = 36 ∨ op = 37 ∨ op = 38 := by omega
    rcases hop with rfl | rfl | rfl | rfl | rfl | rfl | rfl | rfl | rfl | rfl | rfl | rfl | rfl | rfl | rfl | rfl | rfl | rfl | rfl | rfl | rfl | rfl | rfl | rfl | rfl | rfl | rfl | rfl | rfl | rfl | rfl | rfl | rfl | rfl | rfl | rfl | rfl | rfl | rfl
    · exact .inl (bad_0 P hm ho nd n1 n2 imm K hd)
    · exact .inr (stp_1 P hm ho nd n1 n2 imm K hd)
    · exact .inr (stp_2 P hm ho nd n1 n2 imm K hd)
    · by_cases t4 : (pc + imm) % 4294967296 % 4 = 0
      · exact .inr (stp_3 P hm ho nd n1 n2 imm K hd t4)
      · exact .inl (bad_3 P hm ho nd n1 n2 imm K hd t4)
    · by_cases t4 : bits .andNot .u32 ((xs[n1]?.getD 0 + imm) % 4294967296) 1 % 4 = 0
      · exact .inr (stp_4 P hm ho nd n1 n2 imm K hd t4)
      · exact .inl (bad_4 P hm ho nd n1 n2 imm K hd t4)
    · by_cases ht : takenB 5 (xs[n1]?.getD 0) (xs[n2]?.getD 0) = true
      · by_cases t4 : (pc + imm) % 4294967296 % 4 = 0
        · exact .inr (stp_5_y P hm ho nd n1 n2 imm K hd ht t4)
        · exact .inl (bad_5 P hm ho nd n1 n2 imm K hd ht t4)
      · exact .inr (stp_5_n P hm ho nd n1 n2 imm K hd (by simpa using ht))
    · by_cases ht : takenB 6 (xs[n1]?.getD 0) (xs[n2]?.getD 0) = true
      · by_cases t4 : (pc + imm) % 4294967296 % 4 = 0
        · exact .inr (stp_6_y P hm ho nd n1 n2 imm K hd ht t4)
        · exact .inl (bad_6 P hm ho nd n1 n2 imm K hd ht t4)
      · exact .inr (stp_6_n P hm ho nd n1 n2 imm K hd (by simpa using ht))
    · by_cases ht : takenB 7 (xs[n1]?.getD 0) (xs[n2]?.getD 0) = true
      · by_cases t4 : (pc + imm) % 4294967296 % 4 = 0
        · exact .inr (stp_7_y P hm ho nd n1 n2 imm K hd ht t4)
        · exact .inl (bad_7 P hm ho nd n1 n2 imm K hd ht t4)
      · exact .inr (stp_7_n P hm ho nd n1 n2 imm K hd (by simpa using ht))
    · by_cases ht : takenB 8 (xs[n1]?.getD 0) (xs[n2]?.getD 0) = true
      · by_cases t4 : (pc + imm) % 4294967296 % 4 = 0
        · exact .inr (stp_8_y P hm ho nd n1 n2 imm K hd ht t4)
        · exact .inl (bad_8 P hm ho nd n1 n2 imm K hd ht t4)
      · exact .inr (stp_8_n P hm ho nd n1 n2 imm K hd (by simpa using ht))
    · by_cases ht : takenB 9 (xs[n1]?.getD 0) (xs[n2]?.getD 0) = true
      · by_cases t4 : (pc + imm) % 4294967296 % 4 = 0
        · exact .inr (stp_9_y P hm ho nd n1 n2 imm K hd ht t4)
        · exact .inl (bad_9 P hm ho nd n1 n2 imm K hd ht t4)
      · exact .inr (stp_9_n P hm ho nd n1 n2 imm K hd (by simpa using ht))
    · by_cases ht : takenB 10 (xs[n1]?.getD 0) (xs[n2]?.getD 0) = true
      · by_cases t4 : (pc + imm) % 4294967296 % 4 = 0
        · exact .inr (stp_10_y P hm ho nd n1 n2 imm K hd ht t4)
        · exact .inl (bad_10 P hm ho nd n1 n2 imm K hd ht t4)
      · exact .inr (stp_10_n P hm ho nd n1 n2 imm K hd (by simpa using ht))
    · by_cases ha : a + 1 ≤ bs.length
      · by_cases hc : leV bs a 1 < 128
        · exact .inr (stp_11_lo P hm ho nd n1 n2 imm K hd a ea ha hc)
        · exact .inr (stp_11_hi P hm ho nd n1 n2 imm K hd a ea ha hc)
      · exact .inl (bad_11 P hm ho nd n1 n2 imm K hd a ea ha)
    · by_cases ha : a + 2 ≤ bs.length
      · by_cases hc : leV bs a 2 < 32768
        · exact .inr (stp_12_lo P hm ho nd n1 n2 imm K hd a ea ha hc)
        · exact .inr (stp_12_hi P hm ho nd n1 n2 imm K hd a ea ha hc)
      · exact .inl (bad_12 P hm ho nd n1 n2 imm K hd a ea ha)
    · by_cases ha : a + 4 ≤ bs.length
      · exact .inr (stp_13 P hm ho nd n1 n2 imm K hd a ea ha)
      · exact .inl (bad_13 P hm ho nd n1 n2 imm K hd a ea ha)
    · by_cases ha : a + 1 ≤ bs.length
      · exact .inr (stp_14 P hm ho nd n1 n2 imm K hd a ea ha)
      · exact .inl (bad_14 P hm ho nd n1 n2 imm K hd a ea ha)
    · by_cases ha : a + 2 ≤ bs.length
      · exact .inr (stp_15 P hm ho nd n1 n2 imm K hd a ea ha)
      · exact .inl (bad_15 P hm ho nd n1 n2 imm K hd a ea ha)
    · by_cases ha : a + 1 ≤ bs.length
      · exact .inr (stp_16 P hm ho nd n1 n2 imm K hd a ea ha)
      · exact .inl (bad_16 P hm ho nd n1 n2 imm K hd a ea ha)
    · by_cases ha : a + 2 ≤ bs.length
      · exact .inr (stp_17 P hm ho nd n1 n2 imm K hd a ea ha)
      · exact .inl (bad_17 P hm ho nd n1 n2 imm K hd a ea ha)
    · by_cases ha : a + 4 ≤ bs.length
      · exact .inr (stp_18 P hm ho nd n1 n2 imm K hd a ea ha)
      · exact .inl (bad_18 P hm ho nd n1 n2 imm K hd a ea ha)
    · exact .inr (stp_19 P hm ho nd n1 n2 imm K hd)
    · exact .inr (stp_20 P hm ho nd n1 n2 imm K hd)
    · exact .inr (stp_21 P hm ho nd n1 n2 imm K hd)
    · exact .inr (stp_22 P hm ho nd n1 n2 imm K hd)
    · exact .inr (stp_23 P hm ho nd n1 n2 imm K hd)
    · exact .inr (stp_24 P hm ho nd n1 n2 imm K hd)
    · exact .inr (stp_25 P hm ho nd n1 n2 imm K hd)
    · exact .inr (stp_26 P hm ho nd n1 n2 imm K hd)
    · exact .inr (stp_27 P hm ho nd n1 n2 imm K hd)
    · exact .inr (stp_28 P hm ho nd n1 n2 imm K hd)
    · exact .inr (stp_29 P hm ho nd n1 n2 imm K hd)
    · exact .inr (stp_30 P hm ho nd n1 n2 imm K hd)
    · exact .inr (stp_31 P hm ho nd n1 n2 imm K hd)
    · exact .inr (stp_32 P hm ho nd n1 n2 imm K hd)
    · exact .inr (stp_33 P hm ho nd n1 n2 imm K hd)
    · exact .inr (stp_34 P hm ho nd n1 n2 imm K hd)
    · exact .inr (stp_35 P hm ho nd n1 n2 imm K hd)
    · exact .inr (stp_36 P hm ho nd n1 n2 imm K hd)
    · exact .inr (stp_37 P hm ho nd n1 n2 imm K hd)
    · exact .inr (stp_38 P hm ho nd n1 n2 imm K hd)
  · exact .inl ⟨_, rst_fail n img xs pc bs 1 pc, fun W p b h A => step_fault W p b _ h A rfl (chosen_rst n img xs pc bs) m hm (by have := P.p1; omega) ho⟩
end Go.Proofs.YtlilgcbgmebcdaaGreatDoor
