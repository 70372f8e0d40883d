/-
  Interrupts of both computers, in plain numbers.
-/
import Derived.Test.YteiideeechnekaaGreatDoorCodeStep
import Derived.Test.YteiideeechnekaaGreatDoorTrapPure
namespace Go.Proofs.YteiideeechnekaaGreatDoor
open Go.RowKit

theorem Gd.wake {s : RSt} (h : Gd s) : Gd (wakeR s) := { h with dv := { h.dv with } }
theorem Gd.pend {s : RSt} (h : Gd s) : pendC (cOf s) = bits .and .u32 (mipR s) s.mie := by
  unfold pendC
  rw [mip_dok h.dv h.soft]
  rfl
theorem en_bits : ∀ (a b c d e f : Bool) (i : Fin 2) (j : Fin 4), (bits .and .u32 (msF a b c d e f (i.val : Int) (j.val : Int)) 8 != 0) = b ∧ (bits .and .u32 (msF a b c d e f (i.val : Int) (j.val : Int)) 2 != 0) = a ∧ isB (msF a b c d e f (i.val : Int) (j.val : Int)) 3 = b ∧ isB (msF a b c d e f (i.val : Int) (j.val : Int)) 1 = a := by decide +kernel
theorem Gd.enb {s : RSt} (h : Gd s) : (bits .and .u32 (msV s) 8 != 0) = s.mieb ∧ (bits .and .u32 (msV s) 2 != 0) = s.sie ∧ isB (msV s) 3 = s.mieb ∧ isB (msV s) 1 = s.sie := by
  obtain ⟨i, hi⟩ := fin2 h.spp
  obtain ⟨j, hj⟩ := fin4 h.mpp
  rw [msF_s, hi, hj]
  exact en_bits s.sie s.mieb s.spie s.mpie s.tw s.tsr i j
theorem ib_M {s : RSt} (h : Gd s) : ibM (cOf s) = (if s.mode = 3 then s.mieb else true) := by
  show (if s.mode = 3 then (bits .and .u32 (msV s) 8 != 0) else decide (s.mode < 3)) = _
  rw [h.enb.1]
  rcases h.mode with e | e | e <;> simp [e]
theorem ib_S {s : RSt} (h : Gd s) : ibS (cOf s) = (if s.mode = 0 then true else if s.mode = 1 then s.sie else false) := by
  show (if s.mode = 1 then (bits .and .u32 (msV s) 2 != 0) else decide (s.mode < 1)) = _
  rw [h.enb.2.1]
  rcases h.mode with e | e | e <;> simp [e]
theorem en_M {s : RSt} (h : Gd s) (i : Nat) : isB (enM (cOf s)) i = okB s false i := by
  have e : isB (enM (cOf s)) i = (ibM (cOf s) && (isB (mipR s) i && isB s.mie i && !isB s.mideleg i)) := by
    unfold enM
    rw [h.pend]
    cases ibM (cOf s)
    · exact isB_zero i
    · show isB (bits .andNot .u32 (bits .and .u32 (mipR s) s.mie) s.mideleg) i = _
      rw [isB_andNot _ _ (h.mip.and h.mie) h.mideleg, isB_and _ _ h.mip h.mie]
      rfl
  rw [e, ib_M h]
  unfold okB enB
  cases isB (mipR s) i <;> cases isB s.mie i <;> cases isB s.mideleg i <;> simp
theorem en_S {s : RSt} (h : Gd s) (i : Nat) : isB (enS (cOf s)) i = okB s true i := by
  have e : isB (enS (cOf s)) i = (ibS (cOf s) && (isB (mipR s) i && isB s.mie i && isB s.mideleg i)) := by
    unfold enS
    rw [h.pend]
    cases ibS (cOf s)
    · exact isB_zero i
    · show isB (bits .and .u32 (bits .and .u32 (mipR s) s.mie) s.mideleg) i = _
      rw [isB_and _ _ (h.mip.and h.mie) h.mideleg, isB_and _ _ h.mip h.mie]
      rfl
  rw [e, ib_S h]
  unfold okB enB
  cases isB (mipR s) i <;> cases isB s.mie i <;> cases isB s.mideleg i <;> simp
theorem enM_w {s : RSt} (h : Gd s) : W32 (enM (cOf s)) := by
  unfold enM
  rw [h.pend]
  split
  · exact (h.mip.and h.mie).andNot h.mideleg
  · exact W32.lit (n := 0) (by decide)
theorem enS_w {s : RSt} (h : Gd s) : W32 (enS (cOf s)) := by
  unfold enS
  rw [h.pend]
  split
  · exact (h.mip.and h.mie).and h.mideleg
  · exact W32.lit (n := 0) (by decide)
theorem bit_ex {e : Int} (h : W32 e) (hn : e ≠ 0) : ∃ i, isB e i = true := by
  obtain ⟨n, rfl⟩ : ∃ n : Nat, e = n := ⟨e.toNat, by have := h.1; omega⟩
  obtain ⟨i, hi⟩ := Nat.exists_testBit_of_ne_zero (x := n) (by omega)
  exact ⟨i, by rw [isB_tb n i (by have := h.2; omega)]; exact hi⟩
theorem okB_mie {s : RSt} {sup : Bool} {i : Nat} (h : okB s sup i = true) : isB s.mie i = true := by
  unfold okB enB at h
  cases e : isB s.mie i
  · rw [e] at h
    cases isB (mipR s) i <;> simp at h
  · rfl
theorem ord_any {s : RSt} (G : Gd s) (sup : Bool) (e : Int) (he : W32 e) (hb : ∀ i, isB e i = okB s sup i) : ordP.any (isB e) = decide (e ≠ 0) := by
  by_cases hz : e = 0
  · rw [hz, List.any_eq_false.2 (fun i _ => by rw [isB_zero]; decide)]
    rfl
  · obtain ⟨i, hi⟩ := bit_ex he hz
    have hm := G.mb i (okB_mie ((hb i).symm.trans hi))
    rw [decide_eq_true hz, List.any_eq_true]
    refine ⟨i, ?_, hi⟩
    rcases hm with rfl | rfl | rfl | rfl | rfl | rfl <;> decide
theorem chosF_run (s : RSt) (sup : Bool) (e : Int) (hb : ∀ i, isB e i = okB s sup i) (l : List Nat) (r : List (Bool × Nat)) : chosenF s (l.map (fun i => (sup, i)) ++ r) = if l.any (isB e) then ((foreL e l : Nat) : Int) else chosenF s r := by
  induction l with
  | nil => rfl
  | cons a l ih =>
    show (if okB s sup a then (a : Int) else chosenF s (l.map (fun i => (sup, i)) ++ r)) = _
    rw [← hb a, ih, List.any_cons]
    have ef : foreL e (a :: l) = if isB e a then a else foreL e l := rfl
    rw [ef]
    cases isB e a
    · rw [Bool.false_or]
      rfl
    · rw [Bool.true_or]
      rfl
theorem chos_all {s : RSt} (G : Gd s) : chosenR s = if enM (cOf s) ≠ 0 then ((foreV (enM (cOf s)) : Nat) : Int) else if enS (cOf s) ≠ 0 then ((foreV (enS (cOf s)) : Nat) : Int) else -1 := by
  have e : prs = ordP.map (fun i => (false, i)) ++ (ordP.map (fun i => (true, i)) ++ []) := rfl
  unfold chosenR
  rw [e, chosF_run s false _ (en_M G), chosF_run s true _ (en_S G), ord_any G false _ (enM_w G) (en_M G), ord_any G true _ (enS_w G) (en_S G)]
  unfold foreV
  by_cases h1 : enM (cOf s) = 0 <;> by_cases h2 : enS (cOf s) = 0 <;> simp [h1, h2, chosenF]
theorem foreL_is (e : Int) (l : List Nat) (h : l.any (isB e) = true) : isB e (foreL e l) = true := by
  induction l with
  | nil => cases h
  | cons a l ih =>
    unfold foreL
    cases ha : isB e a
    · rw [List.any_cons, ha, Bool.false_or] at h
      simpa using ih h
    · simpa using ha
theorem fore_M {s : RSt} (G : Gd s) (h : enM (cOf s) ≠ 0) : okB s false (foreV (enM (cOf s))) = true := by
  rw [← en_M G]
  exact foreL_is _ _ (by rw [ord_any G false _ (enM_w G) (en_M G)]; exact decide_eq_true h)
theorem fore_S {s : RSt} (G : Gd s) (h : enS (cOf s) ≠ 0) : okB s true (foreV (enS (cOf s))) = true := by
  rw [← en_S G]
  exact foreL_is _ _ (by rw [ord_any G true _ (enS_w G) (en_S G)]; exact decide_eq_true h)
theorem okB_del {s : RSt} {sup : Bool} {i : Nat} (h : okB s sup i = true) : isB s.mideleg i = sup := by
  unfold okB at h
  split at h
  · simpa using h
  · cases h
theorem okS_mode {s : RSt} {i : Nat} (h : okB s true i = true) : s.mode = 0 ∨ s.mode = 1 := by
  have hd := okB_del h
  unfold okB enB at h
  rw [hd] at h
  by_cases m0 : s.mode = 0
  · exact .inl m0
  by_cases m1 : s.mode = 1
  · exact .inr m1
  simp [m0, m1] at h
theorem or_cause : ∀ i : Fin 12, bits .or .u32 2147483648 (i.val : Int) = 2147483648 + (i.val : Int) := by decide
theorem vand_one {v : Int} (h : W32 v) : bits .and .u32 v 1 = v % 2 := by
  have := D.mask_u32 1 (by decide) v h.1 h.2
  simpa using this
theorem vec_of {v : Int} (hv : W32 v) (i : Nat) : vecC v i (bits .and .u32 v 4294967292) = (bits .and .u32 v 4294967292 + intBy v i) % 4294967296 ∧ (bits .and .u32 v 4294967292 + intBy v i) % 4294967296 % 4 = 0 := by
  have b := hv.and (W32.lit (n := 4294967292) (by decide))
  have e : ((4294967292 : Nat) : Int) = 4294967292 := rfl
  rw [e] at b
  have b4 := and_four hv
  unfold vecC intBy
  rw [vand_one hv]
  generalize bits .and .u32 v 4294967292 = z at b b4
  unfold W32 at b
  have : v % 2 = 0 ∨ v % 2 = 1 := by omega
  rcases this with h | h
  · rw [h, if_neg (by decide)]
    omega
  · rw [h, if_pos (by decide)]
    omega
theorem cOf_intM {s : RSt} (G : Gd s) (i : Nat) (hi : i < 12) (hd : isB s.mideleg i = false) : cOf (intR s i) = tkM (cOf s) i := by
  have e0 : intR s i = trapM s (2147483648 + i) 0 (intBy s.mtvec i) := by
    unfold intR trapR
    rw [hd]
    rfl
  have e1 : cOf (trapM s (2147483648 + i) 0 (intBy s.mtvec i)) = { cOf (trapM s (2147483648 + i) 0 0) with pc := (bits .and .u32 s.mtvec 4294967292 + intBy s.mtvec i) % 4294967296 } := rfl
  rw [e0, e1, cOf_trapM G, ← (vec_of G.mtvec i).1]
  unfold tkM
  rw [or_cause ⟨i, hi⟩]
  rfl
theorem cOf_intS {s : RSt} (G : Gd s) (hm : s.mode = 0 ∨ s.mode = 1) (i : Nat) (hi : i < 12) (hd : isB s.mideleg i = true) : cOf (intR s i) = tkS (cOf s) i := by
  have e0 : intR s i = trapS s (2147483648 + i) 0 (intBy s.stvec i) := by
    unfold intR trapR
    rw [hd]
    rfl
  have e1 : cOf (trapS s (2147483648 + i) 0 (intBy s.stvec i)) = { cOf (trapS s (2147483648 + i) 0 0) with pc := (bits .and .u32 s.stvec 4294967292 + intBy s.stvec i) % 4294967296 } := rfl
  rw [e0, e1, cOf_trapS G hm, ← (vec_of G.stvec i).1]
  unfold tkS
  rw [or_cause ⟨i, hi⟩]
  rfl
theorem Gd.int {s : RSt} (G : Gd s) (i : Nat) (hi : i < 12) (hm : isB s.mideleg i = true → s.mode = 0 ∨ s.mode = 1) : Gd (intR s i) := by
  have c : W32 (2147483648 + (i : Int)) := ⟨by omega, by omega⟩
  have z : W32 0 := W32.lit (n := 0) (by decide)
  unfold intR trapR
  cases hd : isB s.mideleg i
  · have := (vec_of G.mtvec i).2
    exact { G.trapM _ _ c z with pc := ⟨by show 0 ≤ (bits .and .u32 s.mtvec 4294967292 + intBy s.mtvec i) % 4294967296; omega, by show (bits .and .u32 s.mtvec 4294967292 + intBy s.mtvec i) % 4294967296 < 4294967296; omega⟩, p4 := this, dv := { (G.trapM _ _ c z).dv with } }
  · have := (vec_of G.stvec i).2
    exact { G.trapS (hm hd) _ _ c z with pc := ⟨by show 0 ≤ (bits .and .u32 s.stvec 4294967292 + intBy s.stvec i) % 4294967296; omega, by show (bits .and .u32 s.stvec 4294967292 + intBy s.stvec i) % 4294967296 < 4294967296; omega⟩, p4 := this, dv := { (G.trapS (hm hd) _ _ c z).dv with } }
/-- An interrupt is taken: what both make of it. -/
theorem int_both {s : RSt} (G : Gd s) (c : CSt) (U : Up c (cOf s)) (i : Nat) (hc : chosenR s = i) : i < 12 ∧ Gd (intR s i) ∧ CStep c (cOf (intR s i)) := by
  have m0 : 0 ≤ (cOf s).mode := by have := G.mode; show 0 ≤ s.mode; omega
  have m3 : (cOf s).mode ≤ 3 := by have := G.mode; show s.mode ≤ 3; omega
  have A := chos_all G
  rw [hc] at A
  by_cases h1 : enM (cOf s) = 0
  · by_cases h2 : enS (cOf s) = 0
    · rw [if_neg (by simpa using h1), if_neg (by simpa using h2)] at A
      omega
    · rw [if_neg (by simpa using h1), if_pos h2] at A
      have hi : foreV (enS (cOf s)) = i := by omega
      have ok := fore_S G h2
      have lt := foreV_lt (enS (cOf s))
      rw [hi] at ok lt
      refine ⟨lt, G.int i lt fun _ => okS_mode ok, ?_⟩
      rw [cOf_intS G (okS_mode ok) i lt (okB_del ok)]
      exact fun W x r h A T T9 => cstep_S W x r c h A T T9 _ U m0 m3 h1 h2 i hi
  · rw [if_pos h1] at A
    have hi : foreV (enM (cOf s)) = i := by omega
    have ok := fore_M G h1
    have lt := foreV_lt (enM (cOf s))
    rw [hi] at ok lt
    have hd := okB_del ok
    refine ⟨lt, G.int i lt (fun e => by rw [hd] at e; cases e), ?_⟩
    rw [cOf_intM G i lt hd]
    exact fun W x r h A T T9 => cstep_M W x r c h A T T9 _ U m0 m3 h1 i hi
theorem int_none {s : RSt} (G : Gd s) (hc : chosenR s = -1) : enM (cOf s) = 0 ∧ enS (cOf s) = 0 := by
  have A := chos_all G
  rw [hc] at A
  by_cases h1 : enM (cOf s) = 0
  · by_cases h2 : enS (cOf s) = 0
    · exact ⟨h1, h2⟩
    · rw [if_neg (by simpa using h1), if_pos h2] at A
      omega
  · rw [if_pos h1] at A
    omega
theorem wake_awake {s : RSt} (h : s.asleep = false) : wakeR s = s := by
  cases s
  simp only [wakeR] at h ⊢
  rw [h]
/-- Awake, or woken by the step. -/
def Aw (s : RSt) : Prop := s.asleep = false ∨ s.asleep = true ∧ bits .and .u32 (mipR s) s.mie ≠ 0
theorem Aw.up {s : RSt} (G : Gd s) (h : Aw s) : Up (cOf s) (cOf (wakeR s)) := by
  rcases h with h | ⟨h, hp⟩
  · exact .inl ⟨h, by rw [wake_awake h]⟩
  · exact .inr ⟨h, by rw [G.pend]; exact hp, rfl⟩
theorem aw_or (s : RSt) : Aw s ∨ s.asleep = true ∧ bits .and .u32 (mipR s) s.mie = 0 := by
  unfold Aw
  cases s.asleep
  · exact .inl (.inl rfl)
  · by_cases h : bits .and .u32 (mipR s) s.mie = 0
    · exact .inr ⟨rfl, h⟩
    · exact .inl (.inr ⟨rfl, h⟩)
end Go.Proofs.YteiideeechnekaaGreatDoor
