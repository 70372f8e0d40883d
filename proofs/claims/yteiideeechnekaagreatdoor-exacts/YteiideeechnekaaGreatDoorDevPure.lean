/-
  The devices of both computers, in plain numbers.
-/
import Derived.Test.YteiideeechnekaaGreatDoorTrapOf
import Derived.Test.YteiideeechnekaaGreatDoorRefOut
import Derived.Test.YteiideeechnekaaGreatDoorCodeOut
namespace Go.Proofs.YteiideeechnekaaGreatDoor
open Go.RowKit

-- sources, one at a time
theorem src_set (s : RSt) (m : Nat) (f : Srce) (i : Nat) (hm : m < s.src.length) : srcAt { s with src := s.src.set m f } i = if i = m then f else srcAt s i := by
  unfold srcAt
  rw [List.getElem?_set]
  by_cases e : m = i
  · subst e; simp [hm]
  · rw [if_neg e, if_neg (fun h => e h.symm)]
theorem mk_congr {f g : Nat → Bool} (h : ∀ i, 1 ≤ i → i ≤ 7 → f i = g i) : mk f 7 = mk g 7 := by
  rw [mk_eq, mk_eq, h 1 (by decide) (by decide), h 2 (by decide) (by decide), h 3 (by decide) (by decide), h 4 (by decide) (by decide), h 5 (by decide) (by decide), h 6 (by decide) (by decide), h 7 (by decide) (by decide)]
def up (m i : Nat) (v y : Bool) : Bool := if i = m then v else y
theorem mk7_on : ∀ (m : Fin 8) (a b c d e f g : Bool), m.val ≠ 0 → bits .or .u32 (mk7 a b c d e f g) ((2 ^ m.val : Nat) : Int) = mk7 (up m.val 1 true a) (up m.val 2 true b) (up m.val 3 true c) (up m.val 4 true d) (up m.val 5 true e) (up m.val 6 true f) (up m.val 7 true g) := by decide +kernel
theorem mk7_off : ∀ (m : Fin 8) (a b c d e f g : Bool), m.val ≠ 0 → bits .andNot .u32 (mk7 a b c d e f g) ((2 ^ m.val : Nat) : Int) = mk7 (up m.val 1 false a) (up m.val 2 false b) (up m.val 3 false c) (up m.val 4 false d) (up m.val 5 false e) (up m.val 6 false f) (up m.val 7 false g) := by decide +kernel
theorem mk_on (f : Nat → Bool) (m : Nat) (h1 : 1 ≤ m) (h7 : m ≤ 7) : bits .or .u32 (mk f 7) ((2 ^ m : Nat) : Int) = mk (fun i => up m i true (f i)) 7 := by
  rw [mk_eq, mk_eq]; exact mk7_on ⟨m, by omega⟩ _ _ _ _ _ _ _ (by show m ≠ 0; omega)
theorem mk_off (f : Nat → Bool) (m : Nat) (h1 : 1 ≤ m) (h7 : m ≤ 7) : bits .andNot .u32 (mk f 7) ((2 ^ m : Nat) : Int) = mk (fun i => up m i false (f i)) 7 := by
  rw [mk_eq, mk_eq]; exact mk7_off ⟨m, by omega⟩ _ _ _ _ _ _ _ (by show m ≠ 0; omega)
theorem p2_lt {m : Nat} (h : m ≤ 7) : 2 ^ m < 4294967296 := Nat.lt_of_le_of_lt (Nat.pow_le_pow_right (by decide) h) (by decide)
theorem p2_w {m : Nat} (h : m ≤ 7) : W32 ((2 ^ m : Nat) : Int) := W32.lit (p2_lt h)
/-- A number and one bit. -/
theorem and_one {a : Int} (ha : W32 a) (m : Nat) (h : m ≤ 7) : bits .and .u32 a ((2 ^ m : Nat) : Int) = if isB a m then ((2 ^ m : Nat) : Int) else 0 := by
  obtain ⟨n, rfl⟩ : ∃ n : Nat, a = n := ⟨a.toNat, by have := ha.1; omega⟩
  have h1 : n < 4294967296 := by have := ha.2; omega
  rw [u32_and_nat n _ h1 (p2_lt h), and_2pow, isB_tb n m h1]
  cases n.testBit m <;> simp
theorem one_and {a : Int} (ha : W32 a) (m : Nat) (h : m ≤ 7) : bits .and .u32 ((2 ^ m : Nat) : Int) a = if isB a m then ((2 ^ m : Nat) : Int) else 0 := by
  rw [← and_one ha m h]
  obtain ⟨n, rfl⟩ : ∃ n : Nat, a = n := ⟨a.toNat, by have := ha.1; omega⟩
  have h1 : n < 4294967296 := by have := ha.2; omega
  rw [u32_and_nat n _ h1 (p2_lt h), u32_and_nat _ n (p2_lt h) h1, Nat.and_comm]
theorem one_andNot {a : Int} (ha : W32 a) (m : Nat) (h : m ≤ 7) : bits .andNot .u32 ((2 ^ m : Nat) : Int) a = if isB a m then 0 else ((2 ^ m : Nat) : Int) := by
  obtain ⟨n, rfl⟩ : ∃ n : Nat, a = n := ⟨a.toNat, by have := ha.1; omega⟩
  have h1 : n < 4294967296 := by have := ha.2; omega
  rw [u32_andNot _ _ (p2_w h).1 (p2_w h).2 ha.1 ha.2, isB_tb n m h1]
  have e1 : (((2 ^ m : Nat) : Int)).toNat = 2 ^ m := rfl
  have e2 : ((n : Nat) : Int).toNat = n := rfl
  rw [e1, e2, Nat.and_comm, and_2pow, show 4294967295 - n = 2 ^ 32 - (n + 1) by omega, Nat.testBit_two_pow_sub_succ (by omega)]
  have : m < 32 := by omega
  cases n.testBit m <;> simp [this]
theorem zero_or {a : Int} (ha : W32 a) : bits .or .u32 a 0 = a := or_zero a ha
theorem andNot_zero {a : Int} (ha : W32 a) : bits .andNot .u32 a 0 = a := by
  rw [u32_andNot a 0 ha.1 ha.2 (by decide) (by decide)]
  have e : a.toNat &&& (4294967295 - (0 : Int).toNat) = a.toNat := by
    show a.toNat &&& (2 ^ 32 - 1) = a.toNat
    rw [Nat.and_two_pow_sub_one_eq_mod]
    have := ha.1; have := ha.2; omega
  rw [e]; have := ha.1; omega

theorem prio_at (s : RSt) (i : Nat) : (s.src.map (·.prio))[i]?.getD 0 = (srcAt s i).prio := by
  unfold srcAt
  rw [List.getElem?_map]
  cases s.src[i]? <;> rfl
theorem best_of {s : RSt} (h : Dvs s) (c : Nat) (he : W32 (enAt s c)) : ∀ k, k ≤ 7 → bestC (cOf s).pend (enAt s c) 0 (cOf s).prio k = (bestR s c k, (srcAt s (bestR s c k)).prio) := by
  intro k
  induction k with
  | zero => intro _; show ((0 : Nat), (0 : Int)) = (0, (srcAt s 0).prio); rw [h.p0]
  | succ k ih =>
    intro hk
    have ih := ih (by omega)
    have b := isB_and _ _ (mk_w (fun i => (srcAt s i).waits)) he (k + 1)
    rw [mk_bit _ (k + 1) (by omega) (by omega)] at b
    have e : askB (cOf s).pend (enAt s c) (srcAt s (bestR s c k)).prio (cOf s).prio (k + 1) = pickB s c (k + 1) (bestR s c k) := by
      unfold askB pickB
      rw [show (cOf s).prio[k + 1]?.getD 0 = (srcAt s (k + 1)).prio from prio_at s (k + 1), show (bits .and .u32 (bits .and .u32 (cOf s).pend (enAt s c) / 2 ^ (k + 1)) 1 == 1) = ((srcAt s (k + 1)).waits && isB (enAt s c) (k + 1)) from b]
      rfl
    show (if askB (cOf s).pend (enAt s c) (bestC (cOf s).pend (enAt s c) 0 (cOf s).prio k).2 (cOf s).prio (k + 1) then (k + 1, (cOf s).prio[k + 1]?.getD 0) else bestC (cOf s).pend (enAt s c) 0 (cOf s).prio k) = _
    rw [ih, e]
    by_cases y : pickB s c (k + 1) (bestR s c k) = true
    · rw [if_pos y, best_yes (by omega) (show pickB s c (k + 1) (bestR s c (k + 1 - 1)) = true from y), show (cOf s).prio[k + 1]?.getD 0 = (srcAt s (k + 1)).prio from prio_at s (k + 1)]
    · rw [if_neg y, best_no (by omega) (show pickB s c (k + 1) (bestR s c (k + 1 - 1)) = false by simpa using y)]
      rfl
theorem cst_src (s : RSt) (l : List Srce) (p q r : Int) (pr : List Int) (h0 : l.map (·.prio) = pr) (h1 : mk (fun i => (srcAt { s with src := l } i).waits) 7 = p) (h2 : mk (fun i => (srcAt { s with src := l } i).served) 7 = q) (h3 : mk (fun i => (srcAt { s with src := l } i).high) 7 = r) :
    cOf { s with src := l } = { cOf s with prio := pr, pend := p, served := q, level := r } := by subst h0 h1 h2 h3; rfl
theorem map_same (l : List Srce) (m : Nat) (f : Srce) (hf : f.prio = ((l[m]?).getD ⟨false, false, false, 0⟩).prio) : (l.set m f).map (·.prio) = l.map (·.prio) := by
  rw [List.map_set, hf]
  apply List.ext_getElem?
  intro i
  rw [List.getElem?_set]
  by_cases e : m = i
  · subst e
    by_cases hl : m < l.length
    · simp [hl]
    · simp [hl]
  · simp [e]
/-- One source's three marks are set anew. -/
theorem cOf_marks {s : RSt} (h : Dvs s) (m : Nat) (hm : m < 8) (w v g : Bool) : cOf { s with src := s.src.set m { srcAt s m with waits := w, served := v, high := g } } = { cOf s with pend := mk (fun i => up m i w (srcAt s i).waits) 7, served := mk (fun i => up m i v (srcAt s i).served) 7, level := mk (fun i => up m i g (srcAt s i).high) 7 } := by
  have hl : m < s.src.length := by rw [h.nsrc]; exact hm
  refine cst_src s _ _ _ _ _ (map_same _ _ _ rfl) ?_ ?_ ?_
  all_goals
    refine mk_congr fun i _ _ => ?_
    rw [src_set s m _ i hl]
    unfold up
    split <;> rfl
theorem up_self (f : Nat → Bool) (m : Nat) : (fun i => up m i (f m) (f i)) = f := by
  funext i
  unfold up
  split
  · rename_i e; rw [e]
  · rfl
theorem claim_marks {s : RSt} (h : Dvs s) (m : Nat) (h8 : m < 8) (w v : Bool) : setV (setW s m w) m v = { s with src := s.src.set m { srcAt s m with waits := w, served := v } } := by
  have hl : m < s.src.length := by rw [h.nsrc]; exact h8
  unfold setV setW
  simp only [List.set_set]
  rw [src_set s m _ m hl, if_pos rfl]
theorem cOf_claim {s : RSt} (h : Dvs s) (m : Nat) (h7 : m ≤ 7) : cOf (claimS s m) = claimC (cOf s) m := by
  unfold claimS claimC
  by_cases e : m = 0
  · rw [if_pos e, if_pos e]
  · rw [if_neg e, if_neg e, claim_marks h m (by omega)]
    have := cOf_marks h m (by omega) false true (srcAt s m).high
    rw [show ({ srcAt s m with waits := false, served := true } : Srce) = { srcAt s m with waits := false, served := true, high := (srcAt s m).high } from rfl, this, up_self (fun i => (srcAt s i).high), ← mk_off (fun i => (srcAt s i).waits) m (by omega) h7, ← mk_on (fun i => (srcAt s i).served) m (by omega) h7]
    rfl
theorem compl_marks {s : RSt} (h : Dvs s) (m : Nat) (h8 : m < 8) (w v : Bool) : setW (setV s m v) m w = { s with src := s.src.set m { srcAt s m with waits := w, served := v } } := by
  have hl : m < s.src.length := by rw [h.nsrc]; exact h8
  unfold setV setW
  simp only [List.set_set]
  rw [src_set s m _ m hl, if_pos rfl]
theorem cOf_compl {s : RSt} (h : Dvs s) (c : Nat) (he : W32 (enAt s c)) (v : Int) : cOf (complR s c v) = complC (cOf s) (enAt s c) v := by
  unfold complR complC
  by_cases o : v < 1 ∨ 7 < v
  · rw [if_pos o, if_pos o]
  · rw [if_neg o, if_neg o]
    obtain ⟨m, rfl⟩ : ∃ m : Nat, v = m := ⟨v.toNat, by omega⟩
    have h1 : 1 ≤ m := by omega
    have h7 : m ≤ 7 := by omega
    rw [show ((m : Int)).toNat = m from rfl]
    have wp : W32 (cOf s).pend := mk_w (fun i => (srcAt s i).waits)
    have ws : W32 (cOf s).served := mk_w (fun i => (srcAt s i).served)
    have wl : W32 (cOf s).level := mk_w (fun i => (srcAt s i).high)
    have eb : bits .and .u32 (bits .and .u32 (cOf s).served (enAt s c)) ((2 ^ m : Nat) : Int) = if ((srcAt s m).served && isB (enAt s c) m) = true then ((2 ^ m : Nat) : Int) else 0 := by
      rw [and_one (W32.and ws he) m h7, isB_and _ _ ws he, show isB (cOf s).served m = (srcAt s m).served from mk_bit (fun i => (srcAt s i).served) m h1 (by omega)]
    simp only [eb]
    have en : (bits .and .u32 (enAt s c / 2 ^ m) 1 == 0) = !isB (enAt s c) m := by
      obtain ⟨n, hn⟩ : ∃ n : Nat, enAt s c = n := ⟨(enAt s c).toNat, by have := he.1; omega⟩
      rw [hn]
      have h32 : n < 4294967296 := by have := he.2; omega
      unfold isB
      have e : ((n : Int) / 2 ^ m) = ((n / 2 ^ m : Nat) : Int) := by simp
      rw [e, show (1 : Int) = ((1 : Nat) : Int) from rfl, u32_and_nat _ 1 (Nat.lt_of_le_of_lt (Nat.div_le_self _ _) h32) (by decide)]
      have : n / 2 ^ m &&& 1 = 0 ∨ n / 2 ^ m &&& 1 = 1 := by rw [Nat.and_one_is_mod]; omega
      rcases this with h | h <;> rw [h] <;> rfl
    rw [en]
    by_cases y : isB (enAt s c) m = true
    · rw [y, if_neg (by decide)]
      by_cases z : (srcAt s m).served = true
      · rw [if_pos z, if_pos (by rw [z]; rfl), one_and wl m h7, compl_marks h m (by omega)]
        have := cOf_marks h m (by omega) ((srcAt s m).high || (srcAt s m).waits) false (srcAt s m).high
        rw [show ({ srcAt s m with waits := (srcAt s m).high || (srcAt s m).waits, served := false } : Srce) = { srcAt s m with waits := (srcAt s m).high || (srcAt s m).waits, served := false, high := (srcAt s m).high } from rfl, this, up_self (fun i => (srcAt s i).high), ← mk_off (fun i => (srcAt s i).served) m h1 h7,
          show isB (cOf s).level m = (srcAt s m).high from mk_bit (fun i => (srcAt s i).high) m h1 (by omega)]
        cases hh : (srcAt s m).high
        · rw [Bool.false_or, up_self (fun i => (srcAt s i).waits), if_neg (by decide), show bits .or .u32 (cOf s).pend 0 = (cOf s).pend from zero_or wp]
          rfl
        · rw [Bool.true_or, if_pos rfl, ← mk_on (fun i => (srcAt s i).waits) m h1 h7]
          rfl
      · rw [if_neg z, if_neg (by simpa using z), show bits .andNot .u32 (cOf s).served 0 = (cOf s).served from andNot_zero ws, show bits .and .u32 0 (cOf s).level = 0 by rw [u32_and 0 _ (by decide) (by decide) wl.1 wl.2]; simp, show bits .or .u32 (cOf s).pend 0 = (cOf s).pend from zero_or wp]
    · have y' : isB (enAt s c) m = false := by simpa using y
      rw [y', if_pos (show (!false) = true from rfl), Bool.and_false, if_neg (by decide), show bits .andNot .u32 (cOf s).served 0 = (cOf s).served from andNot_zero ws, show bits .and .u32 0 (cOf s).level = 0 by rw [u32_and 0 _ (by decide) (by decide) wl.1 wl.2]; simp, show bits .or .u32 (cOf s).pend 0 = (cOf s).pend from zero_or wp]
theorem cOf_line {s : RSt} (h : Dvs s) (k : Nat) (h1 : 1 ≤ k) (h7 : k ≤ 7) (hi : Bool) : cOf (lineR s k hi) = lineC (cOf s) k hi := by
  have wp : W32 (cOf s).pend := mk_w (fun i => (srcAt s i).waits)
  have ws : W32 (cOf s).served := mk_w (fun i => (srcAt s i).served)
  have hl : k < s.src.length := by rw [h.nsrc]; omega
  have E : ∀ y w : Bool, cOf { s with src := s.src.set k { srcAt s k with waits := w, high := y } } = { cOf s with pend := mk (fun i => up k i w (srcAt s i).waits) 7, level := mk (fun i => up k i y (srcAt s i).high) 7 } := fun y w => by
    have := cOf_marks h k (by omega) w (srcAt s k).served y
    rw [up_self (fun i => (srcAt s i).served)] at this
    exact this
  have E1 : ∀ y : Bool, cOf (setH s k y) = { cOf s with level := mk (fun i => up k i y (srcAt s i).high) 7 } := fun y => by
    have := E y (srcAt s k).waits
    rw [up_self (fun i => (srcAt s i).waits)] at this
    exact this
  have E2 : setW (setH s k true) k true = { s with src := s.src.set k { srcAt s k with waits := true, high := true } } := by
    unfold setW setH
    simp only [List.set_set]
    rw [src_set s k _ k hl, if_pos rfl]
  unfold lineR lineC
  cases hi
  · rw [if_neg (by decide), if_neg (by decide), E1, ← mk_off (fun i => (srcAt s i).high) k h1 h7]
    rfl
  · rw [if_pos rfl, if_pos rfl, one_andNot ws k h7, show isB (cOf s).served k = (srcAt s k).served from mk_bit (fun i => (srcAt s i).served) k h1 (by omega)]
    by_cases z : (srcAt s k).served = true
    · rw [if_pos z, if_pos z, E1, ← mk_on (fun i => (srcAt s i).high) k h1 h7, show bits .or .u32 (cOf s).pend 0 = (cOf s).pend from zero_or wp]
      rfl
    · rw [if_neg z, if_neg z, E2, E, ← mk_on (fun i => (srcAt s i).high) k h1 h7, ← mk_on (fun i => (srcAt s i).waits) k h1 h7]
      rfl
theorem cOf_prio {s : RSt} (h : Dvs s) (m : Nat) (h8 : m < 8) (v : Int) : cOf (setP s m v) = { cOf s with prio := (cOf s).prio.set m v } := by
  have hl : m < s.src.length := by rw [h.nsrc]; exact h8
  have e : ∀ g : Srce → Bool, (∀ q : Srce, g { q with prio := v } = g q) → mk (fun i => g (srcAt (setP s m v) i)) 7 = mk (fun i => g (srcAt s i)) 7 := fun g hg => mk_congr fun i _ _ => by
    unfold setP
    rw [src_set s m _ i hl]
    split
    · rename_i e; rw [e]; exact hg _
    · rfl
  exact cst_src s _ (cOf s).pend (cOf s).served (cOf s).level _ (by rw [List.map_set]; rfl) (e (·.waits) fun _ => rfl) (e (·.served) fun _ => rfl) (e (·.high) fun _ => rfl)

-- the devices' words
theorem dev_of {s : RSt} (h : Dvs s) (a : Nat) : devC (cOf s) a = (cOf (devR s a).1, (devR s a).2) := by
  have b0 := best_of h 0 h.en0 7 (Nat.le_refl _)
  have b1 := best_of h 1 h.en1 7 (Nat.le_refl _)
  have r0 := bestR_le s 0 7
  have r1 := bestR_le s 1 7
  unfold devC clkV devR
  by_cases c1 : a = 4096
  · subst c1; rfl
  by_cases c2 : a = 4100
  · subst c2; rfl
  by_cases c3 : a = 4104
  · subst c3; rfl
  rw [if_neg c1, if_neg c2, if_neg c3, if_neg c1, if_neg c2, if_neg c3, if_neg (by decide)]
  unfold linV
  by_cases c4 : a = 8224
  · subst c4; rfl
  rw [if_neg c4, if_neg c4]
  by_cases c5 : 8192 ≤ a ∧ a < 8224 ∧ a % 4 = 0
  · rw [if_pos c5, if_neg (by omega), if_neg (by omega), if_neg (by omega), if_neg (by omega), if_neg (by omega), if_neg (by omega), if_pos (show prC a from c5)]
    rw [show (cOf s).prio[(a - 8192) / 4]?.getD 0 = _ from prio_at s _]
  rw [if_neg c5]
  by_cases d1 : a = 8228
  · subst d1; rfl
  by_cases d2 : a = 8232
  · subst d2; rfl
  by_cases d3 : a = 8240
  · subst d3; rfl
  by_cases d4 : a = 8248
  · subst d4; rfl
  by_cases d5 : a = 8244
  · subst d5
    rw [if_neg (by decide), if_neg (by decide), if_neg (by decide), if_neg (by decide), if_pos rfl, if_neg (by decide), if_neg (by decide), if_pos rfl]
    rw [show bestC (cOf s).pend (cOf s).en0 0 (cOf s).prio 7 = _ from b0, cOf_claim h _ r0]
  by_cases d6 : a = 8252
  · subst d6
    rw [if_neg (by decide), if_neg (by decide), if_neg (by decide), if_neg (by decide), if_neg (by decide), if_pos rfl, if_neg (by decide), if_neg (by decide), if_neg (by decide), if_neg (by decide), if_neg (by decide), if_pos rfl]
    rw [show bestC (cOf s).pend (cOf s).en1 0 (cOf s).prio 7 = _ from b1, cOf_claim h _ r1]
  rw [if_neg d1, if_neg d2, if_neg d3, if_neg d4, if_neg d5, if_neg d6, if_neg (show ¬ prC a from c5), if_neg d1, if_neg d3, if_neg d5, if_neg d2, if_neg d4, if_neg d6]
theorem two_set (l : List Int) (h : l.length = 2) (v : Int) : (l.set 0 v)[0]?.getD 0 = v ∧ (l.set 0 v)[1]?.getD 0 = l[1]?.getD 0 ∧ (l.set 1 v)[0]?.getD 0 = l[0]?.getD 0 ∧ (l.set 1 v)[1]?.getD 0 = v := by
  match l, h with
  | [a, b], _ => exact ⟨rfl, rfl, rfl, rfl⟩
theorem cOf_two (s : RSt) (l k : List Int) : cOf { s with enable := l, limit := k } = { cOf s with en0 := l[0]?.getD 0, en1 := l[1]?.getD 0, li0 := k[0]?.getD 0, li1 := k[1]?.getD 0 } := rfl
theorem set_of {s : RSt} (h : Dvs s) (a : Nat) (v : Int) : setD (cOf s) a v = (cOf (setR s a v).1, (setR s a v).2) := by
  have E := fun v => two_set s.enable h.nen v
  have L := fun v => two_set s.limit h.nli v
  unfold setD clkW setR
  by_cases c1 : a = 4096
  · subst c1; rfl
  by_cases c2 : a = 4100
  · subst c2; rfl
  by_cases c3 : a = 4104
  · subst c3; rfl
  rw [if_neg c1, if_neg c2, if_neg c3, if_neg c1, if_neg c2, if_neg c3, if_neg (fun e => by cases e)]
  unfold linW
  by_cases c4 : a = 8224
  · subst c4; rfl
  rw [if_neg c4, if_neg c4]
  by_cases c0 : a = 8192
  · subst c0; rfl
  rw [if_neg c0, if_neg c0]
  by_cases c5 : 8192 < a ∧ a < 8224 ∧ a % 4 = 0
  · rw [if_pos c5, if_neg (by omega), if_neg (by omega), if_neg (by omega), if_neg (by omega), if_neg (by omega), if_neg (by omega), if_pos (show prC a from ⟨by omega, c5.2⟩), cOf_prio h _ (by omega)]
  rw [if_neg c5]
  by_cases d1 : a = 8228
  · subst d1
    rw [if_pos rfl, if_pos rfl]
    have := cOf_two s (s.enable.set 0 (bits .and .u32 v 254)) s.limit
    rw [(E _).1, (E _).2.1] at this
    rw [this]
    rfl
  by_cases d2 : a = 8232
  · subst d2
    rw [if_neg (by decide), if_pos rfl, if_neg (by decide), if_neg (by decide), if_neg (by decide), if_pos rfl]
    have := cOf_two s (s.enable.set 1 (bits .and .u32 v 254)) s.limit
    rw [(E _).2.2.1, (E _).2.2.2] at this
    rw [this]
    rfl
  by_cases d3 : a = 8240
  · subst d3
    rw [if_neg (by decide), if_neg (by decide), if_pos rfl, if_neg (by decide), if_pos rfl]
    have := cOf_two s s.enable (s.limit.set 0 (bits .and .u32 v 7))
    rw [(L _).1, (L _).2.1] at this
    rw [this]
    rfl
  by_cases d4 : a = 8248
  · subst d4
    rw [if_neg (by decide), if_neg (by decide), if_neg (by decide), if_pos rfl, if_neg (by decide), if_neg (by decide), if_neg (by decide), if_neg (by decide), if_pos rfl]
    have := cOf_two s s.enable (s.limit.set 1 (bits .and .u32 v 7))
    rw [(L _).2.2.1, (L _).2.2.2] at this
    rw [this]
    rfl
  by_cases d5 : a = 8244
  · subst d5
    rw [if_neg (by decide), if_neg (by decide), if_neg (by decide), if_neg (by decide), if_pos rfl, if_neg (by decide), if_neg (by decide), if_pos rfl, cOf_compl h 0 h.en0 v]
    rfl
  by_cases d6 : a = 8252
  · subst d6
    rw [if_neg (by decide), if_neg (by decide), if_neg (by decide), if_neg (by decide), if_neg (by decide), if_pos rfl, if_neg (by decide), if_neg (by decide), if_neg (by decide), if_neg (by decide), if_neg (by decide), if_pos rfl, cOf_compl h 1 h.en1 v]
    rfl
  rw [if_neg d1, if_neg d2, if_neg d3, if_neg d4, if_neg d5, if_neg d6, if_neg (show ¬ prC a by unfold prC; omega), if_neg d1, if_neg d3, if_neg d5, if_neg d2, if_neg d4, if_neg d6]

-- what holds of the devices stays
theorem Dvs.marks {s : RSt} (h : Dvs s) (m : Nat) (hm : m < 8) (f : Srce) (hf : f.prio = (srcAt s m).prio) : Dvs { s with src := s.src.set m f } := by
  have hl : m < s.src.length := by rw [h.nsrc]; exact hm
  have e : ∀ i, (srcAt { s with src := s.src.set m f } i).prio = (srcAt s i).prio := fun i => by
    rw [src_set s m f i hl]
    split
    · rename_i e; rw [hf, e]
    · rfl
  exact { h with nsrc := (List.length_set ..).trans h.nsrc, pr := fun i => by rw [e]; exact h.pr i, p0 := by rw [e]; exact h.p0 }
theorem Dvs.setW {s : RSt} (h : Dvs s) (m : Nat) (hm : m < 8) (v : Bool) : Dvs (setW s m v) := h.marks m hm _ rfl
theorem Dvs.setV {s : RSt} (h : Dvs s) (m : Nat) (hm : m < 8) (v : Bool) : Dvs (setV s m v) := h.marks m hm _ rfl
theorem Dvs.setH {s : RSt} (h : Dvs s) (m : Nat) (hm : m < 8) (v : Bool) : Dvs (setH s m v) := h.marks m hm _ rfl
theorem Dvs.claim {s : RSt} (h : Dvs s) (m : Nat) (hm : m ≤ 7) : Dvs (claimS s m) := by
  unfold claimS
  split
  · exact h
  · exact (h.setW m (by omega) _).setV m (by omega) _
theorem Dvs.compl {s : RSt} (h : Dvs s) (c : Nat) (v : Int) : Dvs (complR s c v) := by
  unfold complR
  split
  · exact h
  · split
    · exact h
    · split
      · exact (h.setV _ (by omega) _).setW _ (by omega) _
      · exact h
theorem Dvs.line {s : RSt} (h : Dvs s) (k : Nat) (h7 : k ≤ 7) (hi : Bool) : Dvs (lineR s k hi) := by
  unfold lineR
  split
  · split
    · exact h.setH k (by omega) _
    · exact (h.setH k (by omega) _).setW k (by omega) _
  · exact h.setH k (by omega) _
theorem Dvs.prio {s : RSt} (h : Dvs s) (m : Nat) (h1 : 1 ≤ m) (hm : m < 8) (v : Int) (hv : W32 v) : Dvs (setP s m v) := by
  have hl : m < s.src.length := by rw [h.nsrc]; exact hm
  refine { h with nsrc := (List.length_set ..).trans h.nsrc, pr := fun i => ?_, p0 := ?_ }
  · unfold setP
    rw [src_set s m _ i hl]
    split
    · exact hv
    · exact h.pr i
  · unfold setP
    rw [src_set s m _ 0 hl, if_neg (by omega)]
    exact h.p0
theorem Dvs.tick {s : RSt} (h : Dvs s) : Dvs (tickR s) := { h with mtm := ⟨by show 0 ≤ (s.mtime + 1) % 4294967296; omega, by show (s.mtime + 1) % 4294967296 < 4294967296; omega⟩ }
theorem Dvs.dev {s : RSt} (h : Dvs s) (a : Nat) : Dvs (devR s a).1 := by
  have r0 := bestR_le s 0 7
  have r1 := bestR_le s 1 7
  unfold devR
  split; exact h
  split; exact h
  split; exact h
  split; exact h
  split; exact h
  split; exact h
  split; exact h
  split; exact h.claim _ r0
  split; exact h
  split; exact h
  split; exact h.claim _ r1
  exact h
theorem and1 {v : Int} (hv : W32 v) : bits .and .u32 v 1 = 0 ∨ bits .and .u32 v 1 = 1 := by
  rw [u32_and v 1 hv.1 hv.2 (by decide) (by decide)]
  show ((v.toNat &&& 1 : Nat) : Int) = 0 ∨ ((v.toNat &&& 1 : Nat) : Int) = 1
  rw [Nat.and_one_is_mod]
  omega
theorem Dvs.set {s : RSt} (h : Dvs s) (a : Nat) (v : Int) (hv : W32 v) : Dvs (setR s a v).1 := by
  have E := fun v => two_set s.enable h.nen v
  have L := fun v => two_set s.limit h.nli v
  have v7 : W32 (bits .and .u32 v 7) := hv.and (W32.lit (n := 7) (by decide))
  have v2 : W32 (bits .and .u32 v 254) := hv.and (W32.lit (n := 254) (by decide))
  unfold setR
  by_cases c0 : a = 4096
  · rw [if_pos c0]; exact { h with msip := and1 hv }
  rw [if_neg c0]
  by_cases c1 : a = 4100
  · rw [if_pos c1]; exact { h with mtc := hv }
  rw [if_neg c1]
  by_cases c2 : a = 4104
  · rw [if_pos c2]; exact { h with mtm := hv }
  rw [if_neg c2]
  by_cases c3 : a = 8224
  · rw [if_pos c3]; exact h
  rw [if_neg c3]
  by_cases c4 : a = 8192
  · rw [if_pos c4]; exact h
  rw [if_neg c4]
  by_cases c5 : 8192 < a ∧ a < 8224 ∧ a % 4 = 0
  · rw [if_pos c5]; exact h.prio _ (by omega) (by omega) _ v7
  rw [if_neg c5]
  by_cases c6 : a = 8228
  · rw [if_pos c6]; exact { h with nen := (List.length_set ..).trans h.nen, en0 := (by show W32 _; unfold enAt; rw [(E _).1]; exact v2), en1 := (by show W32 _; unfold enAt; rw [(E _).2.1]; exact h.en1) }
  rw [if_neg c6]
  by_cases c7 : a = 8240
  · rw [if_pos c7]; exact { h with nli := (List.length_set ..).trans h.nli, li0 := (by show W32 _; unfold liAt; rw [(L _).1]; exact v7), li1 := (by show W32 _; unfold liAt; rw [(L _).2.1]; exact h.li1) }
  rw [if_neg c7]
  by_cases c8 : a = 8244
  · rw [if_pos c8]; exact h.compl _ _
  rw [if_neg c8]
  by_cases c9 : a = 8232
  · rw [if_pos c9]; exact { h with nen := (List.length_set ..).trans h.nen, en0 := (by show W32 _; unfold enAt; rw [(E _).2.2.1]; exact h.en0), en1 := (by show W32 _; unfold enAt; rw [(E _).2.2.2]; exact v2) }
  rw [if_neg c9]
  by_cases c10 : a = 8248
  · rw [if_pos c10]; exact { h with nli := (List.length_set ..).trans h.nli, li0 := (by show W32 _; unfold liAt; rw [(L _).2.2.1]; exact h.li0), li1 := (by show W32 _; unfold liAt; rw [(L _).2.2.2]; exact v7) }
  rw [if_neg c10]
  by_cases c11 : a = 8252
  · rw [if_pos c11]; exact h.compl _ _
  rw [if_neg c11]
  exact h

-- the rest of the computer stays
def Cor (s s' : RSt) : Prop := s' = { s with msip := s'.msip, mtimecmp := s'.mtimecmp, mtime := s'.mtime, src := s'.src, enable := s'.enable, limit := s'.limit, device := s'.device }
theorem Cor.gd {s s' : RSt} (e : Cor s s') (h : Gd s) (d : Dvs s') : Gd s' := by
  have d' : Dvs { s with msip := s'.msip, mtimecmp := s'.mtimecmp, mtime := s'.mtime, src := s'.src, enable := s'.enable, limit := s'.limit, device := s'.device } := by rw [← e]; exact d
  rw [e]
  exact { h with dv := d' }
theorem cor_claim (s : RSt) (m : Nat) : Cor s (claimS s m) := by
  unfold claimS
  split <;> rfl
theorem cor_compl (s : RSt) (c : Nat) (v : Int) : Cor s (complR s c v) := by
  unfold complR
  split
  · rfl
  · split
    · rfl
    · split <;> rfl
theorem cor_line (s : RSt) (k : Nat) (hi : Bool) : Cor s (lineR s k hi) := by
  unfold lineR
  split
  · split <;> rfl
  · rfl
theorem cor_dev (s : RSt) (a : Nat) : Cor s (devR s a).1 := by
  unfold devR
  by_cases c0 : a = 4096
  · rw [if_pos c0]; rfl
  rw [if_neg c0]
  by_cases c1 : a = 4100
  · rw [if_pos c1]; rfl
  rw [if_neg c1]
  by_cases c2 : a = 4104
  · rw [if_pos c2]; rfl
  rw [if_neg c2]
  by_cases c3 : a = 8224
  · rw [if_pos c3]; rfl
  rw [if_neg c3]
  by_cases c4 : 8192 ≤ a ∧ a < 8224 ∧ a % 4 = 0
  · rw [if_pos c4]; rfl
  rw [if_neg c4]
  by_cases c5 : a = 8228
  · rw [if_pos c5]; rfl
  rw [if_neg c5]
  by_cases c6 : a = 8240
  · rw [if_pos c6]; rfl
  rw [if_neg c6]
  by_cases c7 : a = 8244
  · rw [if_pos c7]; exact cor_claim s _
  rw [if_neg c7]
  by_cases c8 : a = 8232
  · rw [if_pos c8]; rfl
  rw [if_neg c8]
  by_cases c9 : a = 8248
  · rw [if_pos c9]; rfl
  rw [if_neg c9]
  by_cases c10 : a = 8252
  · rw [if_pos c10]; exact cor_claim s _
  rw [if_neg c10]
  rfl
theorem cor_set (s : RSt) (a : Nat) (v : Int) : Cor s (setR s a v).1 := by
  unfold setR
  by_cases c0 : a = 4096
  · rw [if_pos c0]; rfl
  rw [if_neg c0]
  by_cases c1 : a = 4100
  · rw [if_pos c1]; rfl
  rw [if_neg c1]
  by_cases c2 : a = 4104
  · rw [if_pos c2]; rfl
  rw [if_neg c2]
  by_cases c3 : a = 8224
  · rw [if_pos c3]; rfl
  rw [if_neg c3]
  by_cases c4 : a = 8192
  · rw [if_pos c4]; rfl
  rw [if_neg c4]
  by_cases c5 : 8192 < a ∧ a < 8224 ∧ a % 4 = 0
  · rw [if_pos c5]; rfl
  rw [if_neg c5]
  by_cases c6 : a = 8228
  · rw [if_pos c6]; rfl
  rw [if_neg c6]
  by_cases c7 : a = 8240
  · rw [if_pos c7]; rfl
  rw [if_neg c7]
  by_cases c8 : a = 8244
  · rw [if_pos c8]; exact cor_compl s _ _
  rw [if_neg c8]
  by_cases c9 : a = 8232
  · rw [if_pos c9]; rfl
  rw [if_neg c9]
  by_cases c10 : a = 8248
  · rw [if_pos c10]; rfl
  rw [if_neg c10]
  by_cases c11 : a = 8252
  · rw [if_pos c11]; exact cor_compl s _ _
  rw [if_neg c11]
  rfl
theorem Gd.dvr {s : RSt} (h : Gd s) : Gd (dvR s) := { h with dv := { h.dv with } }
theorem Gd.dev {s : RSt} (h : Gd s) (a : Nat) : Gd (devR s a).1 := (cor_dev s a).gd h (h.dv.dev a)
theorem Gd.set {s : RSt} (h : Gd s) (a : Nat) (v : Int) (hv : W32 v) : Gd (setR s a v).1 := (cor_set s a v).gd h (h.dv.set a v hv)
theorem Gd.line {s : RSt} (h : Gd s) (k : Nat) (h7 : k ≤ 7) (hi : Bool) : Gd (lineR s k hi) := (cor_line s k hi).gd h (h.dv.line k h7 hi)
theorem Gd.tick {s : RSt} (h : Gd s) : Gd (tickR s) := { h with dv := h.dv.tick }
theorem Gd.rams {s : RSt} (h : Gd s) (a w : Nat) (v : Int) : Gd { s with ram := stV s.ram a v w } := { h with dv := { h.dv with }, n4 := (by show 4 ≤ (stV s.ram a v w).length; rw [stV_len]; exact h.n4), b := stV_byt h.b a v w }

-- a read and a write from outside
theorem read_of {s : RSt} (h : Gd s) (a : Nat) (w : Int) : readC (cOf s) a w = (cOf (readR s a w).1, (readR s a w).2) ∧ Gd (readR s a w).1 := by
  have D : devC (cOf (dvR s)) a = _ := dev_of h.dvr.dv a
  unfold readC readR
  by_cases w1 : w = 1
  · rw [if_pos w1, if_pos w1]
    by_cases ho : a + 1 ≤ s.ram.length
    · rw [if_pos (show a + 1 ≤ (cOf s).ram.length from ho), if_pos ho]
      exact ⟨rfl, h⟩
    · rw [if_neg (show ¬ a + 1 ≤ (cOf s).ram.length from ho), if_neg ho]
      exact ⟨rfl, h.dvr⟩
  by_cases w2 : w = 2
  · rw [if_neg w1, if_pos w2, if_neg w1, if_pos w2]
    by_cases ho : a + 2 ≤ s.ram.length
    · rw [if_pos (show a + 2 ≤ (cOf s).ram.length from ho), if_pos ho]
      exact ⟨rfl, h⟩
    · rw [if_neg (show ¬ a + 2 ≤ (cOf s).ram.length from ho), if_neg ho]
      exact ⟨rfl, h.dvr⟩
  by_cases w4 : w = 4
  · rw [if_neg w1, if_neg w2, if_pos w4, if_neg w1, if_neg w2, if_pos w4]
    by_cases ho : a + 4 ≤ s.ram.length
    · rw [if_pos (show a + 4 ≤ (cOf s).ram.length from ho), if_pos ho]
      exact ⟨rfl, h⟩
    · rw [if_neg (show ¬ a + 4 ≤ (cOf s).ram.length from ho), if_neg ho]
      exact ⟨D, h.dvr.dev a⟩
  · rw [if_neg w1, if_neg w2, if_neg w4, if_neg w1, if_neg w2, if_neg w4]
    exact ⟨rfl, h⟩
theorem write_of {s : RSt} (h : Gd s) (a : Nat) (w v : Int) (hv : W32 v) : writeC (cOf s) a w v = (cOf (writeR s a w v).1, (writeR s a w v).2) ∧ Gd (writeR s a w v).1 := by
  have D : setD (cOf (dvR s)) a v = _ := set_of h.dvr.dv a v
  unfold writeC writeR
  by_cases w1 : w = 1
  · rw [if_pos w1, if_pos w1]
    by_cases ho : a + 1 ≤ s.ram.length
    · rw [if_pos (show a + 1 ≤ (cOf s).ram.length from ho), if_pos ho]
      exact ⟨rfl, h.rams a 1 v⟩
    · rw [if_neg (show ¬ a + 1 ≤ (cOf s).ram.length from ho), if_neg ho]
      exact ⟨rfl, h.dvr⟩
  by_cases w2 : w = 2
  · rw [if_neg w1, if_pos w2, if_neg w1, if_pos w2]
    by_cases ho : a + 2 ≤ s.ram.length
    · rw [if_pos (show a + 2 ≤ (cOf s).ram.length from ho), if_pos ho]
      exact ⟨rfl, h.rams a 2 v⟩
    · rw [if_neg (show ¬ a + 2 ≤ (cOf s).ram.length from ho), if_neg ho]
      exact ⟨rfl, h.dvr⟩
  by_cases w4 : w = 4
  · rw [if_neg w1, if_neg w2, if_pos w4, if_neg w1, if_neg w2, if_pos w4]
    by_cases ho : a + 4 ≤ s.ram.length
    · rw [if_pos (show a + 4 ≤ (cOf s).ram.length from ho), if_pos ho]
      exact ⟨rfl, h.rams a 4 v⟩
    · rw [if_neg (show ¬ a + 4 ≤ (cOf s).ram.length from ho), if_neg ho]
      exact ⟨D, h.dvr.set a v hv⟩
  · rw [if_neg w1, if_neg w2, if_neg w4, if_neg w1, if_neg w2, if_neg w4]
    exact ⟨rfl, h⟩
end Go.Proofs.YteiideeechnekaaGreatDoor
