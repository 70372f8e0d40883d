/-
  The document's computer in plain functions, and what holds of it.
-/
import Derived.Test.YteiideeechnekabDoorCodeLook
import Derived.Test.YteiideeechnekabDoorCodeOut
import Derived.Test.YteiideeechnekabDoorMach
import Derived.Test.YteiideeechnekabDoorDLeaf
namespace Go.Proofs.YteiideeechnekabDoor
open Go.RowKit

structure Srce where
  high : Bool
  waits : Bool
  served : Bool
  prio : Int
structure RSt where
  x : List Int
  ram : List Int
  src : List Srce
  enable : List Int
  limit : List Int
  pc : Int
  mode : Int
  asleep : Bool
  sie : Bool
  mieb : Bool
  spie : Bool
  mpie : Bool
  spp : Int
  mpp : Int
  tw : Bool
  tsr : Bool
  medeleg : Int
  mideleg : Int
  mie : Int
  soft : Int
  mtvec : Int
  stvec : Int
  mscratch : Int
  sscratch : Int
  mepc : Int
  sepc : Int
  mcause : Int
  scause : Int
  mtval : Int
  stval : Int
  msip : Int
  mtimecmp : Int
  mtime : Int
  traps : Int
  system : Int
  device : Int
def srcAt (s : RSt) (i : Nat) : Srce := (s.src[i]?).getD ⟨false, false, false, 0⟩

def oneV (y : Bool) (n : Int) : Int := if y then n else 0
def msV (s : RSt) : Int :=
  bits .or .u32 (bits .or .u32 (bits .or .u32 (bits .or .u32 (bits .or .u32 (bits .or .u32 (bits .or .u32 (oneV s.sie 2) (oneV s.mieb 8)) (oneV s.spie 32)) (oneV s.mpie 128)) (oneV s.tw 2097152)) (oneV s.tsr 4194304)) (s.spp * 256)) (s.mpp * 2048)

def enAt (s : RSt) (c : Nat) : Int := s.enable[c]?.getD 0
def liAt (s : RSt) (c : Nat) : Int := s.limit[c]?.getD 0
def askRB (s : RSt) (c j : Nat) : Bool := (srcAt s j).waits && (bits .and .u32 (enAt s c / 2 ^ j) 1 == 1) && decide (liAt s c < (srcAt s j).prio)
def askR (s : RSt) (c : Nat) : Bool := (List.range 7).any fun i => askRB s c (i + 1)
theorem askR_false {s : RSt} {c : Nat} (h : ∀ j, 1 ≤ j → j < 8 → askRB s c j = false) : askR s c = false := by
  unfold askR
  rw [List.any_eq_false]
  intro i hi
  simp at hi
  simp [h (i + 1) (by omega) (by omega)]
theorem askR_true {s : RSt} {c : Nat} (j : Nat) (h1 : 1 ≤ j) (h2 : j < 8) (h : askRB s c j = true) : askR s c = true := by
  unfold askR
  rw [List.any_eq_true]
  exact ⟨j - 1, by simp; omega, by rw [show j - 1 + 1 = j by omega]; exact h⟩

def mipR (s : RSt) : Int :=
  bits .or .u32 (bits .or .u32 (bits .or .u32 (bits .or .u32 s.soft (oneV (askR s 0) 2048)) (oneV (askR s 1) 512)) (oneV (s.msip == 1) 8)) (oneV (decide (s.mtimecmp ≤ s.mtime)) 128)

def isB (v : Int) (i : Nat) : Bool := bits .and .u32 (v / 2 ^ i) 1 == 1
def trapS (s : RSt) (cause tval by_ : Int) : RSt := { s with traps := wrap64 (s.traps + 1), sepc := s.pc, scause := cause, stval := tval, spie := s.sie, sie := false, spp := s.mode, mode := 1, pc := (bits .and .u32 s.stvec 4294967292 + by_) % 4294967296 }
def trapM (s : RSt) (cause tval by_ : Int) : RSt := { s with traps := wrap64 (s.traps + 1), mepc := s.pc, mcause := cause, mtval := tval, mpie := s.mieb, mieb := false, mpp := s.mode, mode := 3, pc := (bits .and .u32 s.mtvec 4294967292 + by_) % 4294967296 }
def trapR (s : RSt) (sup : Bool) (cause tval by_ : Int) : RSt := if sup then trapS s cause tval by_ else trapM s cause tval by_

/-- A cause goes to Supervisor. -/
def supB (s : RSt) (cause : Nat) : Bool := if s.mode = 3 then false else isB s.medeleg cause
def failR (s : RSt) (cause : Nat) (tval : Int) : RSt := trapR s (supB s cause) cause tval 0
/-- x0 is written to no avail. -/
def putX (xs : List Int) (r : Nat) (v : Int) : List Int := if r = 0 then xs else xs.set r v
def putR (s : RSt) (r : Nat) (v : Int) : RSt := { s with x := putX s.x r v }
def jumpR (s : RSt) (rd : Nat) (to : Int) : RSt := if to % 4 = 0 then { putR s rd ((s.pc + 4) % 4294967296) with pc := to } else failR s 0 to
structure Fine (s : RSt) : Prop where
  p0 : 0 ≤ s.spp
  p1 : s.spp ≤ 3
  m0 : 0 ≤ s.mpp
  m1 : s.mpp ≤ 3

def numsR : List Int := [256, 260, 261, 320, 321, 322, 323, 324, 768, 770, 771, 772, 773, 832, 833, 834, 835, 836, 3860]
def csrsR (s : RSt) : List Int :=
  [bits .and .u32 (msV s) 290, bits .and .u32 s.mie s.mideleg, s.stvec, s.sscratch, s.sepc, s.scause, s.stval, bits .and .u32 (mipR s) s.mideleg, msV s, s.medeleg, s.mideleg, s.mie, s.mtvec, s.mscratch, s.mepc, s.mcause, s.mtval, mipR s, 0]
def mk (f : Nat → Bool) : Nat → Int
  | 0 => 0
  | n + 1 => if f (n + 1) then bits .or .u32 (mk f n) (2 ^ (n + 1) % 4294967296) else mk f n
theorem mk_yes {f : Nat → Bool} {k : Nat} (h1 : 1 ≤ k) (h : f k = true) : mk f k = bits .or .u32 (mk f (k - 1)) (2 ^ k % 4294967296) := by
  obtain ⟨n, rfl⟩ : ∃ n, k = n + 1 := ⟨k - 1, by omega⟩
  simp [mk, h]
theorem mk_no {f : Nat → Bool} {k : Nat} (h1 : 1 ≤ k) (h : f k = false) : mk f k = mk f (k - 1) := by
  obtain ⟨n, rfl⟩ : ∃ n, k = n + 1 := ⟨k - 1, by omega⟩
  simp [mk, h]

theorem ret_int {k : IntKind} {a b : Int} (h : a = b) : Ending.returned (.int k a) = .returned (.int k b) := by rw [h]
theorem even_half (X : Int) (h : X.tmod 2 = 0) : X.tdiv 2 = X / 2 := by
  have := Int.mul_tdiv_add_tmod X 2
  omega
theorem odd_half (X : Int) (h : (X.tmod 2 != 0) = true) : (X - 1).tdiv 2 = X / 2 := by
  have h' : X.tmod 2 ≠ 0 := by simpa using h
  have a := Int.mul_tdiv_add_tmod X 2
  have b := Int.mul_tdiv_add_tmod (X - 1) 2
  have c := Int.tmod_lt_of_pos X (show (0 : Int) < 2 by decide)
  have d := Int.tmod_lt_of_pos (X - 1) (show (0 : Int) < 2 by decide)
  have e : (X - 1).tmod 2 = 0 := by
    rw [Int.tmod_eq_emod]
    rw [Int.tmod_eq_emod] at h'
    split at h' <;> split <;> omega
  omega
theorem half_fd (x : Int) (k : Nat) : x / 2 ^ k / 2 = x / 2 ^ (k + 1) := by
  rw [Int.pow_succ, ← Int.ediv_ediv_of_nonneg (Int.pow_nonneg (by decide))]
theorem half_bd (x : Int) (k : Nat) (h0 : -2147483648 ≤ x) (h1 : x < 2147483648) : -2147483648 ≤ x / 2 ^ k ∧ x / 2 ^ k < 2147483648 := by
  induction k with
  | zero => simp; omega
  | succ k ih => rw [← half_fd]; omega

def takenB (op a b : Int) : Bool := if op = 5 then a == b else if op = 6 then a != b else if op = 7 then decide (sgn a < sgn b) else if op = 8 then decide (sgn b ≤ sgn a) else if op = 9 then decide (a < b) else decide (b ≤ a)
/-- What the sums make of Rs1 and the second word. -/
def aluV (op a b : Int) : Int :=
  if op = 19 ∨ op = 28 then (a + b) % 4294967296
  else if op = 29 then (a - b) % 4294967296
  else if op = 20 ∨ op = 31 then oneV (decide (sgn a < sgn b)) 1
  else if op = 21 ∨ op = 32 then oneV (decide (a < b)) 1
  else if op = 22 ∨ op = 33 then bits .xor .u32 a b
  else if op = 23 ∨ op = 36 then bits .or .u32 a b
  else if op = 24 ∨ op = 37 then bits .and .u32 a b
  else if op = 25 ∨ op = 30 then a * 2 ^ (b % 32).toNat % 4294967296
  else if op = 26 ∨ op = 34 then a / 2 ^ (b % 32).toNat
  else if op = 27 ∨ op = 35 then (sgn a / 2 ^ (b % 32).toNat) % 4294967296
  else 0
def sumV (op a b imm pc : Int) : Int := if op = 1 then imm else if op = 2 then (pc + imm) % 4294967296 else if op ≤ 27 then aluV op a imm else aluV op a b
def sys1 (s : RSt) : RSt := { s with system := wrap64 (s.system + 1) }
def mretR (s : RSt) : RSt := { s with pc := s.mepc, mode := s.mpp, mieb := s.mpie, mpie := true, mpp := 0 }
def sretR (s : RSt) : RSt := { s with pc := s.sepc, mode := s.spp, sie := s.spie, spie := true, spp := 0 }
def wfiR (s : RSt) : RSt := { s with pc := (s.pc + 4) % 4294967296, asleep := true }
def levR (s : RSt) (op w : Int) : RSt :=
  if op = 39 then failR (sys1 s) (if s.mode = 0 then 8 else if s.mode = 1 then 9 else 11) 0
  else if op = 40 then failR (sys1 s) 3 s.pc
  else if op = 41 then (if s.mode = 3 then mretR (sys1 s) else failR (sys1 s) 2 w)
  else if op = 42 then (if s.mode = 3 then sretR (sys1 s) else if s.mode = 1 then (if s.tsr then failR (sys1 s) 2 w else sretR (sys1 s)) else failR (sys1 s) 2 w)
  else (if s.mode = 3 then wfiR (sys1 s) else if s.mode = 1 then (if s.tw then failR (sys1 s) 2 w else wfiR (sys1 s)) else failR (sys1 s) 2 w)
def sysR (s : RSt) : RSt := { s with system := wrap64 (s.system + 1) }
def wrB (op : Int) (r1 : Nat) : Bool := if op = 44 then true else if op = 47 then true else if r1 = 0 then false else true
def ctlV (op old a r1 : Int) : Int := if op = 44 then a else if op = 45 then bits .or .u32 old a else if op = 46 then bits .andNot .u32 old a else if op = 47 then r1 else if op = 48 then bits .or .u32 old r1 else bits .andNot .u32 old r1
def nextR (s : RSt) : RSt := { s with pc := (s.pc + 4) % 4294967296 }
def mayB (s : RSt) (n : Nat) (wr : Bool) : Bool := if s.mode < (n : Int) / 256 % 4 then false else if wr then (if (n : Int) / 1024 = 3 then false else true) else true
/-- Where control ends: old, ok: what Csr tells; st: what setCsr makes. -/
def ctlR (s : RSt) (op : Int) (rd r1 n : Nat) (w a old : Int) (st : Int → RSt) : RSt :=
  if mayB s n (wrB op r1) then nextR (putR (if wrB op r1 then st (ctlV op old a r1) else sysR s) rd old) else failR (sysR s) 2 w
theorem or_bd (a b : Int) (a0 : 0 ≤ a) (a1 : a < 4294967296) (b0 : 0 ≤ b) (b1 : b < 4294967296) : 0 ≤ bits .or .u32 a b ∧ bits .or .u32 a b < 4294967296 := by
  rw [u32_or a b a0 a1 b0 b1]
  have := Nat.or_lt_two_pow (n := 32) (x := a.toNat) (y := b.toNat) (by omega) (by omega)
  omega
theorem an2_bd (a b : Int) (a0 : 0 ≤ a) (a1 : a < 4294967296) (b0 : 0 ≤ b) (b1 : b < 4294967296) : 0 ≤ bits .andNot .u32 a b ∧ bits .andNot .u32 a b < 4294967296 := by
  rw [u32_andNot a b a0 a1 b0 b1]
  have : a.toNat &&& (4294967295 - b.toNat) ≤ a.toNat := Nat.and_le_left
  omega
def stR (s : RSt) (n : Nat) (v : Int) : RSt :=
  if n = 256 then { s with sie := isB v 1, spie := isB v 5, spp := v / 256 % 2 }
  else if n = 260 then { s with mie := bits .or .u32 (bits .andNot .u32 s.mie s.mideleg) (bits .and .u32 v s.mideleg) }
  else if n = 261 then { s with stvec := bits .and .u32 v 4294967293 }
  else if n = 320 then { s with sscratch := v }
  else if n = 321 then { s with sepc := bits .and .u32 v 4294967292 }
  else if n = 322 then { s with scause := bits .and .u32 v 2147483663 }
  else if n = 323 then { s with stval := v }
  else if n = 324 then { s with soft := bits .or .u32 (bits .andNot .u32 s.soft (bits .and .u32 s.mideleg 2)) (bits .and .u32 v (bits .and .u32 s.mideleg 2)) }
  else if n = 768 then (if (v / 2048 % 4 != 2) = true then { s with sie := isB v 1, mieb := isB v 3, spie := isB v 5, mpie := isB v 7, spp := v / 256 % 2, mpp := v / 2048 % 4, tw := isB v 21, tsr := isB v 22 } else { s with sie := isB v 1, mieb := isB v 3, spie := isB v 5, mpie := isB v 7, spp := v / 256 % 2, tw := isB v 21, tsr := isB v 22 })
  else if n = 770 then { s with medeleg := bits .and .u32 v 943 }
  else if n = 771 then { s with mideleg := bits .and .u32 v 546 }
  else if n = 772 then { s with mie := bits .and .u32 v 2730 }
  else if n = 773 then { s with mtvec := bits .and .u32 v 4294967293 }
  else if n = 832 then { s with mscratch := v }
  else if n = 833 then { s with mepc := bits .and .u32 v 4294967292 }
  else if n = 834 then { s with mcause := bits .and .u32 v 2147483663 }
  else if n = 835 then { s with mtval := v }
  else if n = 836 then { s with soft := bits .and .u32 v 34 }
  else if n = 3860 then s
  else s
theorem stR_cnt (s : RSt) (n : Nat) (v : Int) : (stR s n v).traps = s.traps ∧ (stR s n v).system = s.system ∧ (stR s n v).device = s.device := by
  by_cases h256 : n = 256
  · subst h256; exact ⟨rfl, rfl, rfl⟩
  by_cases h260 : n = 260
  · subst h260; exact ⟨rfl, rfl, rfl⟩
  by_cases h261 : n = 261
  · subst h261; exact ⟨rfl, rfl, rfl⟩
  by_cases h320 : n = 320
  · subst h320; exact ⟨rfl, rfl, rfl⟩
  by_cases h321 : n = 321
  · subst h321; exact ⟨rfl, rfl, rfl⟩
  by_cases h322 : n = 322
  · subst h322; exact ⟨rfl, rfl, rfl⟩
  by_cases h323 : n = 323
  · subst h323; exact ⟨rfl, rfl, rfl⟩
  by_cases h324 : n = 324
  · subst h324; exact ⟨rfl, rfl, rfl⟩
  by_cases h768 : n = 768
  · subst h768
    by_cases hm : (v / 2048 % 4 != 2) = true
    · rw [show stR s 768 v = { s with sie := isB v 1, mieb := isB v 3, spie := isB v 5, mpie := isB v 7, spp := v / 256 % 2, mpp := v / 2048 % 4, tw := isB v 21, tsr := isB v 22 } by unfold stR; simp only [if_neg (show ¬ (768 : Nat) = 256 by decide), if_neg (show ¬ (768 : Nat) = 260 by decide), if_neg (show ¬ (768 : Nat) = 261 by decide), if_neg (show ¬ (768 : Nat) = 320 by decide), if_neg (show ¬ (768 : Nat) = 321 by decide), if_neg (show ¬ (768 : Nat) = 322 by decide), if_neg (show ¬ (768 : Nat) = 323 by decide), if_neg (show ¬ (768 : Nat) = 324 by decide), if_true, if_pos hm]]; exact ⟨rfl, rfl, rfl⟩
    · rw [show stR s 768 v = { s with sie := isB v 1, mieb := isB v 3, spie := isB v 5, mpie := isB v 7, spp := v / 256 % 2, tw := isB v 21, tsr := isB v 22 } by unfold stR; simp only [if_neg (show ¬ (768 : Nat) = 256 by decide), if_neg (show ¬ (768 : Nat) = 260 by decide), if_neg (show ¬ (768 : Nat) = 261 by decide), if_neg (show ¬ (768 : Nat) = 320 by decide), if_neg (show ¬ (768 : Nat) = 321 by decide), if_neg (show ¬ (768 : Nat) = 322 by decide), if_neg (show ¬ (768 : Nat) = 323 by decide), if_neg (show ¬ (768 : Nat) = 324 by decide), if_true, if_neg hm]]; exact ⟨rfl, rfl, rfl⟩
  by_cases h770 : n = 770
  · subst h770; exact ⟨rfl, rfl, rfl⟩
  by_cases h771 : n = 771
  · subst h771; exact ⟨rfl, rfl, rfl⟩
  by_cases h772 : n = 772
  · subst h772; exact ⟨rfl, rfl, rfl⟩
  by_cases h773 : n = 773
  · subst h773; exact ⟨rfl, rfl, rfl⟩
  by_cases h832 : n = 832
  · subst h832; exact ⟨rfl, rfl, rfl⟩
  by_cases h833 : n = 833
  · subst h833; exact ⟨rfl, rfl, rfl⟩
  by_cases h834 : n = 834
  · subst h834; exact ⟨rfl, rfl, rfl⟩
  by_cases h835 : n = 835
  · subst h835; exact ⟨rfl, rfl, rfl⟩
  by_cases h836 : n = 836
  · subst h836; exact ⟨rfl, rfl, rfl⟩
  by_cases h3860 : n = 3860
  · subst h3860; exact ⟨rfl, rfl, rfl⟩
  rw [show stR s n v = s by unfold stR; rw [if_neg h256, if_neg h260, if_neg h261, if_neg h320, if_neg h321, if_neg h322, if_neg h323, if_neg h324, if_neg h768, if_neg h770, if_neg h771, if_neg h772, if_neg h773, if_neg h832, if_neg h833, if_neg h834, if_neg h835, if_neg h836, if_neg h3860]]
  exact ⟨rfl, rfl, rfl⟩

def enB (s : RSt) (i : Nat) : Bool :=
  if isB (mipR s) i = false then false else if isB s.mie i = false then false
  else if isB s.mideleg i then (if s.mode = 0 then true else if s.mode = 1 then s.sie else false) else (if s.mode = 3 then s.mieb else true)

def prs : List (Bool × Nat) := [(false, 11), (false, 3), (false, 7), (false, 9), (false, 1), (false, 5), (true, 11), (true, 3), (true, 7), (true, 9), (true, 1), (true, 5)]
def okB (s : RSt) (sup : Bool) (i : Nat) : Bool := if enB s i then isB s.mideleg i == sup else false
/-- The interrupt that is taken; -1: none. -/
def chosenF (s : RSt) : List (Bool × Nat) → Int
  | [] => -1
  | q :: l => if okB s q.1 q.2 then q.2 else chosenF s l
def chosenR (s : RSt) : Int := chosenF s prs
theorem chos_yes {s : RSt} {q : Bool × Nat} {l : List (Bool × Nat)} {c : Int} (h : c = chosenF s (q :: l)) (e : okB s q.1 q.2 = true) : c = q.2 := by rw [h]; unfold chosenF; rw [if_pos e]
theorem chos_no {s : RSt} {q : Bool × Nat} {l : List (Bool × Nat)} {c : Int} (h : c = chosenF s (q :: l)) (e : okB s q.1 q.2 = false) : c = chosenF s l := by
  rw [h]
  conv => lhs; unfold chosenF
  rw [if_neg (by rw [e]; decide)]
theorem chosenF_cases (s : RSt) (l : List (Bool × Nat)) (hl : ∀ q ∈ l, q.2 < 12) : chosenF s l = -1 ∨ ∃ n : Nat, n < 12 ∧ chosenF s l = n := by
  induction l with
  | nil => exact .inl rfl
  | cons q l ih =>
    unfold chosenF
    split
    · exact .inr ⟨q.2, hl q (by simp), rfl⟩
    · exact ih fun q hq => hl q (by simp [hq])
theorem chosenR_cases (s : RSt) : chosenR s = -1 ∨ ∃ n : Nat, n < 12 ∧ chosenR s = n := chosenF_cases s prs (by decide)

theorem ret_int' {k : IntKind} {a b : Int} (h : a = b) : Ending.returned (.int k a) = .returned (.int k b) := by rw [h]
def ordN : List Nat := [11, 3, 7, 9, 1, 5]
def ordC : Array Value := #[Value.int .i64 11, .int .i64 3, .int .i64 7, .int .i64 9, .int .i64 1, .int .i64 5]
theorem ord_cell (k : Nat) (hk : k < 6) : ordC[k]? = some (.int .i64 (ordN.getD k 0)) := by
  have : k = 0 ∨ k = 1 ∨ k = 2 ∨ k = 3 ∨ k = 4 ∨ k = 5 := by omega
  rcases this with rfl | rfl | rfl | rfl | rfl | rfl <;> rfl
theorem ord_lt (k : Nat) (hk : k < 6) : ordN.getD k 0 < 32 := by
  have : k = 0 ∨ k = 1 ∨ k = 2 ∨ k = 3 ∨ k = 4 ∨ k = 5 := by omega
  rcases this with rfl | rfl | rfl | rfl | rfl | rfl <;> decide
theorem prs_drop0 (k : Nat) (hk : k < 6) : prs.drop (0 + k) = (false, ordN.getD k 0) :: prs.drop (0 + (k + 1)) := by
  have : k = 0 ∨ k = 1 ∨ k = 2 ∨ k = 3 ∨ k = 4 ∨ k = 5 := by omega
  rcases this with rfl | rfl | rfl | rfl | rfl | rfl <;> rfl
theorem prs_drop6 (k : Nat) (hk : k < 6) : prs.drop (6 + k) = (true, ordN.getD k 0) :: prs.drop (6 + (k + 1)) := by
  have : k = 0 ∨ k = 1 ∨ k = 2 ∨ k = 3 ∨ k = 4 ∨ k = 5 := by omega
  rcases this with rfl | rfl | rfl | rfl | rfl | rfl <;> rfl
def wakeR (s : RSt) : RSt := { s with asleep := false }
def intBy (v : Int) (i : Nat) : Int := bits .and .u32 v 1 * 4 % 4294967296 * i % 4294967296
def intR (s : RSt) (i : Nat) : RSt := trapR s (isB s.mideleg i) (2147483648 + i) 0 (intBy (if isB s.mideleg i then s.stvec else s.mtvec) i)

def lookR (s : RSt) : LSt := ⟨s.x, s.pc, s.mode, s.asleep, csrsR s, bytesOf s.ram, [s.msip, s.mtimecmp, s.mtime], s.src.map (·.prio), mk (fun i => (srcAt s i).waits) 7, mk (fun i => (srcAt s i).served) 7, mk (fun i => (srcAt s i).high) 7, s.enable, s.limit⟩

theorem two_of (l : List Int) (h : l.length = 2) : l = [l[0]?.getD 0, l[1]?.getD 0] := by
  match l, h with
  | [a, b], _ => rfl
theorem look_agg (s : RSt) (p : Pl) (n32 n19 n3 n8 n2 m2 : Nat) (a0 : (lookR s).regs.length = n32) (a1 : (lookR s).csrs.length = n19) (a2 : (lookR s).clock.length = n3) (a3 : (lookR s).prio.length = n8) (a4 : (lookR s).enable.length = n2) (a5 : (lookR s).limit.length = m2) :
    Ending.returned (.agg #[Value.slice (some ⟨p.r, 0, none⟩) n32 p.cr, .int .u32 s.pc, .int .i64 s.mode, .bool s.asleep, Value.slice (some ⟨p.c, 0, none⟩) n19 p.cc, .string (bytesOf s.ram), Value.slice (some ⟨p.k, 0, none⟩) n3 p.ck, Value.slice (some ⟨p.p, 0, none⟩) n8 p.cp, Value.int .u32 (mk (fun i => (srcAt s i).waits) 7), Value.int .u32 (mk (fun i => (srcAt s i).served) 7), Value.int .u32 (mk (fun i => (srcAt s i).high) 7), Value.slice (some ⟨p.e, 0, none⟩) n2 p.ce, Value.slice (some ⟨p.l, 0, none⟩) m2 p.cl]) = .returned (.agg #[.slice (some ⟨p.r, 0, none⟩) (lookR s).regs.length p.cr, .int .u32 (lookR s).pc, .int .i64 (lookR s).mode, .bool (lookR s).asleep, .slice (some ⟨p.c, 0, none⟩) (lookR s).csrs.length p.cc, .string (lookR s).ram, .slice (some ⟨p.k, 0, none⟩) (lookR s).clock.length p.ck, .slice (some ⟨p.p, 0, none⟩) (lookR s).prio.length p.cp, .int .u32 (lookR s).pend, .int .u32 (lookR s).served, .int .u32 (lookR s).level, .slice (some ⟨p.e, 0, none⟩) (lookR s).enable.length p.ce, .slice (some ⟨p.l, 0, none⟩) (lookR s).limit.length p.cl]) := by
  subst a0 a1 a2 a3 a4 a5
  rfl

theorem take_more (L : List Int) (k : Nat) (hk : k < L.length) : (L.map (Value.int .u32)).take k ++ [Value.int .u32 (L[k]?.getD 0)] = (L.map (Value.int .u32)).take (k + 1) := by
  rw [List.take_succ_eq_append_getElem (by simpa using hk)]; simp [hk]
theorem srcAt_set (s : RSt) (i j : Nat) (hi : i < s.src.length) (v : Srce) : srcAt { s with src := s.src.set i v } j = if i = j then v else srcAt s j := by
  unfold srcAt
  show ((s.src.set i v)[j]?).getD _ = _
  rw [List.getElem?_set]
  by_cases e : i = j
  · subst e; simp [hi]
  · simp [e]
def pickB (s : RSt) (c j m : Nat) : Bool := (srcAt s j).waits && (bits .and .u32 (enAt s c / 2 ^ j) 1 == 1) && decide ((srcAt s m).prio < (srcAt s j).prio)
def bestR (s : RSt) (c : Nat) : Nat → Nat
  | 0 => 0
  | k + 1 => if pickB s c (k + 1) (bestR s c k) then k + 1 else bestR s c k
theorem bestR_le (s : RSt) (c k : Nat) : bestR s c k ≤ k := by
  induction k with
  | zero => exact Nat.le_refl _
  | succ k ih => unfold bestR; split <;> omega
theorem best_yes {s : RSt} {c k : Nat} (h1 : 1 ≤ k) (h : pickB s c k (bestR s c (k - 1)) = true) : bestR s c k = k := by
  obtain ⟨n, rfl⟩ : ∃ n, k = n + 1 := ⟨k - 1, by omega⟩
  rw [show n + 1 - 1 = n from rfl] at h
  unfold bestR; rw [if_pos h]
theorem best_no {s : RSt} {c k : Nat} (h1 : 1 ≤ k) (h : pickB s c k (bestR s c (k - 1)) = false) : bestR s c k = bestR s c (k - 1) := by
  obtain ⟨n, rfl⟩ : ∃ n, k = n + 1 := ⟨k - 1, by omega⟩
  conv => lhs; unfold bestR
  rw [if_neg (by rw [show n + 1 - 1 = n from rfl] at h; rw [h]; decide)]; rfl
def setW (s : RSt) (m : Nat) (v : Bool) : RSt := { s with src := s.src.set m { srcAt s m with waits := v } }
def setV (s : RSt) (m : Nat) (v : Bool) : RSt := { s with src := s.src.set m { srcAt s m with served := v } }
def claimS (s : RSt) (m : Nat) : RSt := if m = 0 then s else setV (setW s m false) m true

def devR (s : RSt) (a : Nat) : RSt × Int × Bool :=
  if a = 4096 then (s, s.msip, true) else if a = 4100 then (s, s.mtimecmp, true) else if a = 4104 then (s, s.mtime, true)
  else if a = 8224 then (s, mk (fun i => (srcAt s i).waits) 7, true)
  else if 8192 ≤ a ∧ a < 8224 ∧ a % 4 = 0 then (s, (srcAt s ((a - 8192) / 4)).prio, true)
  else if a = 8228 then (s, enAt s 0, true) else if a = 8240 then (s, liAt s 0, true) else if a = 8244 then (claimS s (bestR s 0 7), (bestR s 0 7 : Nat), true)
  else if a = 8232 then (s, enAt s 1, true) else if a = 8248 then (s, liAt s 1, true) else if a = 8252 then (claimS s (bestR s 1 7), (bestR s 1 7 : Nat), true)
  else (s, 0, false)

def complR (s : RSt) (c : Nat) (v : Int) : RSt :=
  if v < 1 ∨ 7 < v then s else if (bits .and .u32 (enAt s c / 2 ^ v.toNat) 1 == 0) = true then s
  else if (srcAt s v.toNat).served then setW (setV s v.toNat false) v.toNat ((srcAt s v.toNat).high || (srcAt s v.toNat).waits) else s

def setP (s : RSt) (m : Nat) (v : Int) : RSt := { s with src := s.src.set m { srcAt s m with prio := v } }
def setR (s : RSt) (a : Nat) (v : Int) : RSt × Bool :=
  if a = 4096 then ({ s with msip := bits .and .u32 v 1 }, true) else if a = 4100 then ({ s with mtimecmp := v }, true) else if a = 4104 then ({ s with mtime := v }, true)
  else if a = 8224 then (s, true) else if a = 8192 then (s, true)
  else if 8192 < a ∧ a < 8224 ∧ a % 4 = 0 then (setP s ((a - 8192) / 4) (bits .and .u32 v 7), true)
  else if a = 8228 then ({ s with enable := s.enable.set 0 (bits .and .u32 v 254) }, true) else if a = 8240 then ({ s with limit := s.limit.set 0 (bits .and .u32 v 7) }, true) else if a = 8244 then (complR s 0 v, true)
  else if a = 8232 then ({ s with enable := s.enable.set 1 (bits .and .u32 v 254) }, true) else if a = 8248 then ({ s with limit := s.limit.set 1 (bits .and .u32 v 7) }, true) else if a = 8252 then (complR s 1 v, true)
  else (s, false)
def dvR (s : RSt) : RSt := { s with device := wrap64 (s.device + 1) }
def next1 (s : RSt) : RSt := { s with pc := (s.pc + 4) % 4294967296 }
def ldOut (s : RSt) (rd a : Nat) : RSt := if (devR (dvR s) a).2.2 then next1 (putR (devR (dvR s) a).1 rd (devR (dvR s) a).2.1) else failR (devR (dvR s) a).1 5 a
def stOut (s : RSt) (a : Nat) (v : Int) : RSt := if (setR (dvR s) a v).2 then next1 (setR (dvR s) a v).1 else failR (setR (dvR s) a v).1 7 a
def tickR (s : RSt) : RSt := { s with mtime := (s.mtime + 1) % 4294967296 }
def setH (s : RSt) (k : Nat) (v : Bool) : RSt := { s with src := s.src.set k { srcAt s k with high := v } }
/-- A line that there is. -/
def lineR (s : RSt) (k : Nat) (hi : Bool) : RSt := if hi then (if (srcAt s k).served then setH s k true else setW (setH s k true) k true) else setH s k false
/-- A read from outside. -/
def readR (s : RSt) (a : Nat) (w : Int) : RSt × Int × Bool :=
  if w = 1 then (if a + 1 ≤ s.ram.length then (s, leV s.ram a 1, true) else (dvR s, 0, false))
  else if w = 2 then (if a + 2 ≤ s.ram.length then (s, leV s.ram a 2, true) else (dvR s, 0, false))
  else if w = 4 then (if a + 4 ≤ s.ram.length then (s, leV s.ram a 4, true) else devR (dvR s) a)
  else (s, 0, false)
/-- A write from outside. -/
def writeR (s : RSt) (a : Nat) (w v : Int) : RSt × Bool :=
  if w = 1 then (if a + 1 ≤ s.ram.length then ({ s with ram := stV s.ram a v 1 }, true) else (dvR s, false))
  else if w = 2 then (if a + 2 ≤ s.ram.length then ({ s with ram := stV s.ram a v 2 }, true) else (dvR s, false))
  else if w = 4 then (if a + 4 ≤ s.ram.length then ({ s with ram := stV s.ram a v 4 }, true) else setR (dvR s) a v)
  else (s, false)
def msF (sie mieb spie mpie tw tsr : Bool) (spp mpp : Int) : Int :=
  bits .or .u32 (bits .or .u32 (bits .or .u32 (bits .or .u32 (bits .or .u32 (bits .or .u32 (bits .or .u32 (oneV sie 2) (oneV mieb 8)) (oneV spie 32)) (oneV mpie 128)) (oneV tw 2097152)) (oneV tsr 4194304)) (spp * 256)) (mpp * 2048)
def mixV (old v mask : Int) : Int := bits .or .u32 (bits .andNot .u32 old mask) (bits .and .u32 v mask)
def layV (m en er wm pl : Int) (was : Int) : Int :=
  mixV (if (bits .and .u32 m en != 0) = true then bits .or .u32 (bits .andNot .u32 m (bits .or .u32 en er)) er else bits .andNot .u32 m (bits .or .u32 en er)) (was * 2 ^ pl.toNat % 4294967296) wm
def backV (m en er wm : Int) : Int :=
  bits .or .u32 (if (bits .and .u32 m er != 0) = true then bits .or .u32 (bits .andNot .u32 m (bits .or .u32 en wm)) en else bits .andNot .u32 m (bits .or .u32 en wm)) er

theorem lay_s : ∀ (a b c d e f : Bool) (i : Fin 2) (j : Fin 4) (k : Fin 2), layV (msF a b c d e f (i.val : Int) (j.val : Int)) 2 32 256 8 (k.val : Int) = msF false b a d e f (k.val : Int) (j.val : Int) := by decide +kernel
theorem lay_m : ∀ (a b c d e f : Bool) (i : Fin 2) (j : Fin 4) (k : Fin 4), layV (msF a b c d e f (i.val : Int) (j.val : Int)) 8 128 6144 11 (k.val : Int) = msF a false c b e f (i.val : Int) (k.val : Int) := by decide +kernel
theorem back_s : ∀ (a b c d e f : Bool) (i : Fin 2) (j : Fin 4), backV (msF a b c d e f (i.val : Int) (j.val : Int)) 2 32 256 = msF c b true d e f 0 (j.val : Int) ∧ bits .and .u32 (msF a b c d e f (i.val : Int) (j.val : Int)) 256 / 256 = (i.val : Int) := by decide +kernel
theorem back_m : ∀ (a b c d e f : Bool) (i : Fin 2) (j : Fin 4), backV (msF a b c d e f (i.val : Int) (j.val : Int)) 8 128 6144 = msF a d c true e f (i.val : Int) 0 ∧ bits .and .u32 (msF a b c d e f (i.val : Int) (j.val : Int)) 6144 / 2048 = (j.val : Int) := by decide +kernel
theorem isB_tb (n i : Nat) (h : n < 4294967296) : isB (n : Int) i = n.testBit i := by
  have e : ((n : Int) / 2 ^ i) = ((n / 2 ^ i : Nat) : Int) := by simp
  unfold isB
  rw [e, show (1 : Int) = ((1 : Nat) : Int) from rfl, u32_and_nat _ 1 (Nat.lt_of_le_of_lt (Nat.div_le_self _ _) h) (by decide)]
  rw [Nat.testBit, Nat.shiftRight_eq_div_pow, Nat.and_comm (n / 2 ^ i) 1]
  have : 1 &&& n / 2 ^ i = 0 ∨ 1 &&& n / 2 ^ i = 1 := by
    rw [Nat.and_comm, Nat.and_one_is_mod]; omega
  rcases this with h | h <;> rw [h] <;> rfl
theorem bit_div (n i : Nat) : n / 2 ^ i % 2 = (n.testBit i).toNat := by
  rw [Nat.testBit_eq_decide_div_mod_eq]
  have : n / 2 ^ i % 2 = 0 ∨ n / 2 ^ i % 2 = 1 := by omega
  rcases this with h | h <;> rw [h] <;> rfl
theorem and_2pow (n i : Nat) : n &&& 2 ^ i = (n.testBit i).toNat * 2 ^ i := by
  apply Nat.eq_of_testBit_eq
  intro k
  rw [Nat.testBit_and, Nat.testBit_two_pow]
  by_cases e : i = k
  · subst e
    cases h : n.testBit i <;> simp
  · cases h : n.testBit i <;> simp [e]
def tb (n i : Nat) : Nat := (n.testBit i).toNat * 2 ^ i
theorem and_ss (n : Nat) : n &&& 290 = tb n 1 ||| tb n 5 ||| tb n 8 := by
  rw [show (290 : Nat) = 2 ^ 1 ||| 2 ^ 5 ||| 2 ^ 8 from rfl]
  simp only [Nat.and_or_distrib_left, and_2pow, tb]
theorem and_ms (n : Nat) : n &&& 6298026 = tb n 1 ||| tb n 3 ||| tb n 5 ||| tb n 7 ||| tb n 8 ||| tb n 11 ||| tb n 12 ||| tb n 21 ||| tb n 22 := by
  rw [show (6298026 : Nat) = 2 ^ 1 ||| 2 ^ 3 ||| 2 ^ 5 ||| 2 ^ 7 ||| 2 ^ 8 ||| 2 ^ 11 ||| 2 ^ 12 ||| 2 ^ 21 ||| 2 ^ 22 from rfl]
  simp only [Nat.and_or_distrib_left, and_2pow, tb]
theorem and_mt (n : Nat) : n &&& 6291882 = tb n 1 ||| tb n 3 ||| tb n 5 ||| tb n 7 ||| tb n 8 ||| tb n 21 ||| tb n 22 := by
  rw [show (6291882 : Nat) = 2 ^ 1 ||| 2 ^ 3 ||| 2 ^ 5 ||| 2 ^ 7 ||| 2 ^ 8 ||| 2 ^ 21 ||| 2 ^ 22 from rfl]
  simp only [Nat.and_or_distrib_left, and_2pow, tb]
theorem and_mp (n : Nat) : n &&& 6144 = tb n 11 ||| tb n 12 := by
  rw [show (6144 : Nat) = 2 ^ 11 ||| 2 ^ 12 from rfl]
  simp only [Nat.and_or_distrib_left, and_2pow, tb]
def tB (b : Bool) (i : Nat) : Nat := b.toNat * 2 ^ i
theorem ss_fin : ∀ (a b c d e f : Bool) (i : Fin 2) (j : Fin 4) (x y z : Bool), bits .or .u32 (bits .andNot .u32 (msF a b c d e f (i.val : Int) (j.val : Int)) 290) ((tB x 1 ||| tB y 5 ||| tB z 8 : Nat) : Int) = msF x b y d e f (z.toNat : Int) (j.val : Int) := by decide +kernel
theorem ms_zero : ∀ (a b c d e f : Bool) (i : Fin 2) (j : Fin 4), bits .andNot .u32 (msF a b c d e f (i.val : Int) (j.val : Int)) 6298026 = 0 ∧ bits .andNot .u32 (msF a b c d e f (i.val : Int) (j.val : Int)) 6291882 = (j.val : Int) * 2048 := by decide +kernel
theorem ms_fin : ∀ (a b c d z l m e f : Bool), bits .or .u32 0 ((tB a 1 ||| tB b 3 ||| tB c 5 ||| tB d 7 ||| tB z 8 ||| tB l 11 ||| tB m 12 ||| tB e 21 ||| tB f 22 : Nat) : Int) = msF a b c d e f (z.toNat : Int) ((l.toNat + 2 * m.toNat : Nat) : Int) := by decide +kernel
theorem mt_fin : ∀ (j : Fin 4) (a b c d z e f : Bool), bits .or .u32 ((j.val : Int) * 2048) ((tB a 1 ||| tB b 3 ||| tB c 5 ||| tB d 7 ||| tB z 8 ||| tB e 21 ||| tB f 22 : Nat) : Int) = msF a b c d e f (z.toNat : Int) (j.val : Int) := by decide +kernel
theorem mp_fin : ∀ (l m : Bool), ((((tB l 11 ||| tB m 12 : Nat) : Int) == 4096) = (((l.toNat + 2 * m.toNat : Nat) : Int) == 2)) := by decide
theorem set_ss (a b c d e f : Bool) (spp mpp v : Int) (hs : spp = 0 ∨ spp = 1) (hm : mpp = 0 ∨ mpp = 1 ∨ mpp = 3) (v0 : 0 ≤ v) (v1 : v < 4294967296) :
    mixV (msF a b c d e f spp mpp) v 290 = msF (isB v 1) b (isB v 5) d e f (v / 256 % 2) mpp := by
  obtain ⟨n, rfl⟩ : ∃ n : Nat, v = n := ⟨v.toNat, by omega⟩
  have h : n < 4294967296 := by omega
  obtain ⟨i, rfl⟩ : ∃ i : Fin 2, spp = (i.val : Int) := by rcases hs with rfl | rfl; exact ⟨0, rfl⟩; exact ⟨1, rfl⟩
  obtain ⟨j, rfl⟩ : ∃ j : Fin 4, mpp = (j.val : Int) := by rcases hm with rfl | rfl | rfl; exact ⟨0, rfl⟩; exact ⟨1, rfl⟩; exact ⟨3, rfl⟩
  have e8 : (n : Int) / 256 % 2 = ((n.testBit 8).toNat : Int) := by rw [← bit_div n 8]; simp
  unfold mixV
  rw [show (290 : Int) = ((290 : Nat) : Int) from rfl, u32_and_nat n 290 h (by decide), and_ss, isB_tb n 1 h, isB_tb n 5 h, e8]
  exact ss_fin a b c d e f i j (n.testBit 1) (n.testBit 5) (n.testBit 8)
theorem mp_eq (n : Nat) (h : n < 4294967296) : (bits .and .u32 (n : Int) 6144 == 4096) = ((n : Int) / 2048 % 4 == 2) := by
  have e : (n : Int) / 2048 % 4 = (((n.testBit 11).toNat + 2 * (n.testBit 12).toNat : Nat) : Int) := by
    rw [← bit_div n 11, ← bit_div n 12]; simp; omega
  rw [show (6144 : Int) = ((6144 : Nat) : Int) from rfl, u32_and_nat n 6144 h (by decide), and_mp, e]
  exact mp_fin (n.testBit 11) (n.testBit 12)
def keptV (v : Int) : Int := if (bits .and .u32 v 6144 == 4096) = true then 6291882 else 6298026
theorem set_ms (a b c d e f : Bool) (spp mpp v : Int) (hs : spp = 0 ∨ spp = 1) (hm : mpp = 0 ∨ mpp = 1 ∨ mpp = 3) (v0 : 0 ≤ v) (v1 : v < 4294967296) :
    mixV (msF a b c d e f spp mpp) v (keptV v) = msF (isB v 1) (isB v 3) (isB v 5) (isB v 7) (isB v 21) (isB v 22) (v / 256 % 2) (if (v / 2048 % 4 != 2) = true then v / 2048 % 4 else mpp) := by
  obtain ⟨n, rfl⟩ : ∃ n : Nat, v = n := ⟨v.toNat, by omega⟩
  have h : n < 4294967296 := by omega
  obtain ⟨i, rfl⟩ : ∃ i : Fin 2, spp = (i.val : Int) := by rcases hs with rfl | rfl; exact ⟨0, rfl⟩; exact ⟨1, rfl⟩
  obtain ⟨j, rfl⟩ : ∃ j : Fin 4, mpp = (j.val : Int) := by rcases hm with rfl | rfl | rfl; exact ⟨0, rfl⟩; exact ⟨1, rfl⟩; exact ⟨3, rfl⟩
  have e8 : (n : Int) / 256 % 2 = ((n.testBit 8).toNat : Int) := by rw [← bit_div n 8]; simp
  have e11 : (n : Int) / 2048 % 4 = (((n.testBit 11).toNat + 2 * (n.testBit 12).toNat : Nat) : Int) := by
    rw [← bit_div n 11, ← bit_div n 12]; simp; omega
  have z := ms_zero a b c d e f i j
  unfold mixV keptV
  rw [mp_eq n h]
  by_cases h2 : (n : Int) / 2048 % 4 = 2
  · rw [if_pos (by simpa using h2), if_neg (by simpa using h2), z.2, show (6291882 : Int) = ((6291882 : Nat) : Int) from rfl, u32_and_nat n _ h (by decide), and_mt, isB_tb n 1 h, isB_tb n 3 h, isB_tb n 5 h, isB_tb n 7 h, isB_tb n 21 h, isB_tb n 22 h, e8]
    exact mt_fin j _ _ _ _ _ _ _
  · rw [if_neg (by simpa using h2), if_pos (by simpa using h2), z.1, show (6298026 : Int) = ((6298026 : Nat) : Int) from rfl, u32_and_nat n _ h (by decide), and_ms, isB_tb n 1 h, isB_tb n 3 h, isB_tb n 5 h, isB_tb n 7 h, isB_tb n 21 h, isB_tb n 22 h, e8, e11]
    exact ms_fin _ _ _ _ _ _ _ _ _
theorem none_en (p m : Int) (p0 : 0 ≤ p) (p1 : p < 4294967296) (m0 : 0 ≤ m) (m1 : m < 4294967296) (h : bits .and .u32 p m = 0) (i : Nat) : isB p i = false ∨ isB m i = false := by
  obtain ⟨a, rfl⟩ : ∃ n : Nat, p = n := ⟨p.toNat, by omega⟩
  obtain ⟨b, rfl⟩ : ∃ n : Nat, m = n := ⟨m.toNat, by omega⟩
  rw [u32_and_nat a b (by omega) (by omega)] at h
  have h' : a &&& b = 0 := by omega
  rw [isB_tb a i (by omega), isB_tb b i (by omega)]
  have := congrArg (fun z => z.testBit i) h'
  simp [Nat.testBit_and] at this
  by_cases ha : a.testBit i = true
  · exact .inr (this ha)
  · exact .inl (by simpa using ha)
theorem tw_tsr : ∀ (a b c d e f : Bool) (i : Fin 2) (j : Fin 4), (bits .and .u32 (msF a b c d e f (i.val : Int) (j.val : Int)) 2097152 != 0) = e ∧ (bits .and .u32 (msF a b c d e f (i.val : Int) (j.val : Int)) 4194304 != 0) = f := by decide +kernel
def W32 (v : Int) : Prop := 0 ≤ v ∧ v < 4294967296
theorem W32.and {a b : Int} (ha : W32 a) (hb : W32 b) : W32 (bits .and .u32 a b) := by
  unfold W32
  rw [u32_and a b ha.1 ha.2 hb.1 hb.2]
  have : a.toNat &&& b.toNat ≤ a.toNat := Nat.and_le_left
  have := ha.1
  have := ha.2
  omega
theorem W32.or {a b : Int} (ha : W32 a) (hb : W32 b) : W32 (bits .or .u32 a b) := by
  unfold W32
  rw [u32_or a b ha.1 ha.2 hb.1 hb.2]
  have := Nat.or_lt_two_pow (n := 32) (x := a.toNat) (y := b.toNat) (by have := ha.1; have := ha.2; omega) (by have := hb.1; have := hb.2; omega)
  omega
theorem W32.andNot {a b : Int} (ha : W32 a) (hb : W32 b) : W32 (bits .andNot .u32 a b) := by
  unfold W32
  rw [u32_andNot a b ha.1 ha.2 hb.1 hb.2]
  have : a.toNat &&& (4294967295 - b.toNat) ≤ a.toNat := Nat.and_le_left
  have := ha.1
  have := ha.2
  omega
theorem W32.mix {a b c : Int} (ha : W32 a) (hb : W32 b) (hc : W32 c) : W32 (mixV a b c) := (ha.andNot hc).or (hb.and hc)
theorem W32.lit {n : Nat} (h : n < 4294967296) : W32 (n : Int) := ⟨by omega, by omega⟩
def entS (c : CSt) (cause tval : Int) : CSt := { c with sepc := c.pc, scause := cause, stval := tval, mstatus := layV c.mstatus 2 32 256 8 c.mode, mode := 1, pc := bits .and .u32 c.stvec 4294967292 }
def entM (c : CSt) (cause tval : Int) : CSt := { c with mepc := c.pc, mcause := cause, mtval := tval, mstatus := layV c.mstatus 8 128 6144 11 c.mode, mode := 3, pc := bits .and .u32 c.mtvec 4294967292 }
def supC (c : CSt) (cause : Nat) : Bool := if c.mode = 3 then false else isB c.medeleg cause
def excC (c : CSt) (cause : Nat) (tval : Int) : CSt := if supC c cause then entS c cause tval else entM c cause tval
def leaM (c : CSt) : CSt := { c with pc := c.mepc, mode := bits .and .u32 c.mstatus 6144 / 2048, mstatus := backV c.mstatus 8 128 6144 }
def leaS (c : CSt) : CSt := { c with pc := c.sepc, mode := bits .and .u32 c.mstatus 256 / 256, mstatus := backV c.mstatus 2 32 256 }
def setC (c : CSt) (n : Nat) (v : Int) : CSt :=
  if n = 256 then { c with mstatus := mixV c.mstatus v 290 }
  else if n = 260 then { c with mie := mixV c.mie v c.mideleg }
  else if n = 261 then { c with stvec := bits .and .u32 v 4294967293 }
  else if n = 320 then { c with sscratch := v }
  else if n = 321 then { c with sepc := bits .and .u32 v 4294967292 }
  else if n = 322 then { c with scause := bits .and .u32 v 2147483663 }
  else if n = 323 then { c with stval := v }
  else if n = 324 then { c with written := mixV c.written v (bits .and .u32 c.mideleg 2) }
  else if n = 768 then { c with mstatus := mixV c.mstatus v (keptV v) }
  else if n = 770 then { c with medeleg := bits .and .u32 v 943 }
  else if n = 771 then { c with mideleg := bits .and .u32 v 546 }
  else if n = 772 then { c with mie := bits .and .u32 v 2730 }
  else if n = 773 then { c with mtvec := bits .and .u32 v 4294967293 }
  else if n = 832 then { c with mscratch := v }
  else if n = 833 then { c with mepc := bits .and .u32 v 4294967292 }
  else if n = 834 then { c with mcause := bits .and .u32 v 2147483663 }
  else if n = 835 then { c with mtval := v }
  else if n = 836 then { c with written := bits .and .u32 v 34 }
  else if n = 3860 then c
  else c
def cOf (s : RSt) : CSt :=
  { regs := s.x, pc := s.pc, mode := s.mode, asleep := s.asleep, mstatus := msV s, medeleg := s.medeleg, mideleg := s.mideleg, mie := s.mie, written := s.soft, stvec := s.stvec, sscratch := s.sscratch, sepc := s.sepc, scause := s.scause, stval := s.stval, mtvec := s.mtvec, mscratch := s.mscratch, mepc := s.mepc, mcause := s.mcause, mtval := s.mtval, ram := s.ram, msip := s.msip, mtimecmp := s.mtimecmp, mtime := s.mtime, prio := s.src.map (·.prio), pend := mk (fun i => (srcAt s i).waits) 7, served := mk (fun i => (srcAt s i).served) 7, level := mk (fun i => (srcAt s i).high) 7, en0 := enAt s 0, en1 := enAt s 1, li0 := liAt s 0, li1 := liAt s 1 }

theorem and_four {v : Int} (h : W32 v) : bits .and .u32 v 4294967292 % 4 = 0 := by
  rw [u32_and v 4294967292 h.1 h.2 (by decide) (by decide)]
  have e : (v.toNat &&& (4294967292 : Int).toNat) % 2 ^ 2 = 0 := by
    rw [← Nat.and_two_pow_sub_one_eq_mod, Nat.and_assoc, show ((4294967292 : Int).toNat &&& (2 ^ 2 - 1)) = 0 from rfl, Nat.and_zero]
  omega

/-- What holds of the devices. -/
structure Dvs (s : RSt) : Prop where
  nsrc : s.src.length = 8
  nen : s.enable.length = 2
  nli : s.limit.length = 2
  msip : s.msip = 0 ∨ s.msip = 1
  en0 : W32 (enAt s 0)
  en1 : W32 (enAt s 1)
  li0 : W32 (liAt s 0)
  li1 : W32 (liAt s 1)
  mtc : W32 s.mtimecmp
  mtm : W32 s.mtime
  pr : ∀ i, W32 (srcAt s i).prio
  p0 : (srcAt s 0).prio = 0
/-- The devices as New leaves them, and none was asked for. -/
structure Nw (s : RSt) : Prop where
  msip : s.msip = 0
  mtimecmp : s.mtimecmp = 4294967295
  mtime : s.mtime = 0
  src : s.src = List.replicate 8 ⟨false, false, false, 0⟩
  enable : s.enable = [0, 0]
  limit : s.limit = [0, 0]
  device : s.device = 0
/-- The devices are not touched. -/
def Still (s s' : RSt) : Prop := s'.msip = s.msip ∧ s'.mtimecmp = s.mtimecmp ∧ s'.mtime = s.mtime ∧ s'.src = s.src ∧ s'.enable = s.enable ∧ s'.limit = s.limit ∧ s'.device = s.device
theorem Nw.still {s s' : RSt} (h : Nw s) (e : Still s s') : Nw s' := by
  obtain ⟨a, b, c, d, f, g, i⟩ := e
  exact ⟨a.trans h.msip, b.trans h.mtimecmp, c.trans h.mtime, d.trans h.src, f.trans h.enable, g.trans h.limit, i.trans h.device⟩
theorem Still.refl (s : RSt) : Still s s := ⟨rfl, rfl, rfl, rfl, rfl, rfl, rfl⟩
theorem Still.trans {a b c : RSt} (h : Still a b) (k : Still b c) : Still a c :=
  ⟨k.1.trans h.1, k.2.1.trans h.2.1, k.2.2.1.trans h.2.2.1, k.2.2.2.1.trans h.2.2.2.1, k.2.2.2.2.1.trans h.2.2.2.2.1, k.2.2.2.2.2.1.trans h.2.2.2.2.2.1, k.2.2.2.2.2.2.trans h.2.2.2.2.2.2⟩
structure Gd (s : RSt) : Prop where
  z : s.x[0]?.getD 0 = 0
  x : ∀ i : Nat, 0 ≤ s.x[i]?.getD 0 ∧ s.x[i]?.getD 0 < 4294967296
  pc : W32 s.pc
  p4 : s.pc % 4 = 0
  n4 : 4 ≤ s.ram.length
  b : Byt s.ram
  mode : s.mode = 0 ∨ s.mode = 1 ∨ s.mode = 3
  spp : s.spp = 0 ∨ s.spp = 1
  mpp : s.mpp = 0 ∨ s.mpp = 1 ∨ s.mpp = 3
  medeleg : W32 s.medeleg
  mideleg : W32 s.mideleg
  mie : W32 s.mie
  soft : W32 s.soft
  stvec : W32 s.stvec
  sscratch : W32 s.sscratch
  sepc : W32 s.sepc
  scause : W32 s.scause
  stval : W32 s.stval
  mtvec : W32 s.mtvec
  mscratch : W32 s.mscratch
  mepc : W32 s.mepc
  mcause : W32 s.mcause
  mtval : W32 s.mtval
  s4 : s.sepc % 4 = 0
  m4 : s.mepc % 4 = 0
  mb : ∀ i, isB s.mie i = true → i = 1 ∨ i = 3 ∨ i = 5 ∨ i = 7 ∨ i = 9 ∨ i = 11
  db : ∀ i, isB s.mideleg i = true → i = 1 ∨ i = 5 ∨ i = 9
  dv : Dvs s

theorem Gd.fine {s : RSt} (h : Gd s) : Fine s := by
  have := h.spp
  have := h.mpp
  exact ⟨by omega, by omega, by omega, by omega⟩
theorem Gd.ms {s : RSt} (h : Gd s) : W32 (msV s) := by
  have o : ∀ (b : Bool) (n : Nat), n < 4294967296 → W32 (oneV b n) := fun b n hn => by unfold oneV; split; exact W32.lit hn; exact W32.lit (n := 0) (by decide)
  have h1 : W32 (s.spp * 256) := by have := h.spp; unfold W32; omega
  have h2 : W32 (s.mpp * 2048) := by have := h.mpp; unfold W32; omega
  exact (((((((o s.sie 2 (by decide)).or (o s.mieb 8 (by decide))).or (o s.spie 32 (by decide))).or (o s.mpie 128 (by decide))).or (o s.tw 2097152 (by decide))).or (o s.tsr 4194304 (by decide))).or h1).or h2

theorem or_zero (a : Int) (h : W32 a) : bits .or .u32 a 0 = a := by
  rw [u32_or a 0 h.1 h.2 (by decide) (by decide)]
  simp
  have := h.1
  omega
def mk7 (a b c d e f g : Bool) : Int :=
  let s (y : Bool) (p m : Int) : Int := if y then bits .or .u32 p m else p
  s g (s f (s e (s d (s c (s b (s a 0 2) 4) 8) 16) 32) 64) 128
theorem mk_eq (f : Nat → Bool) : mk f 7 = mk7 (f 1) (f 2) (f 3) (f 4) (f 5) (f 6) (f 7) := rfl
theorem mk7_bits : ∀ a b c d e f g : Bool, (0 ≤ mk7 a b c d e f g ∧ mk7 a b c d e f g < 256) ∧ isB (mk7 a b c d e f g) 1 = a ∧ isB (mk7 a b c d e f g) 2 = b ∧ isB (mk7 a b c d e f g) 3 = c ∧ isB (mk7 a b c d e f g) 4 = d ∧ isB (mk7 a b c d e f g) 5 = e ∧ isB (mk7 a b c d e f g) 6 = f ∧ isB (mk7 a b c d e f g) 7 = g := by decide +kernel
theorem mk_w (f : Nat → Bool) : W32 (mk f 7) := by
  rw [mk_eq]
  have := (mk7_bits (f 1) (f 2) (f 3) (f 4) (f 5) (f 6) (f 7)).1
  unfold W32
  omega
theorem mk_bit (f : Nat → Bool) (j : Nat) (h1 : 1 ≤ j) (h8 : j < 8) : isB (mk f 7) j = f j := by
  rw [mk_eq]
  obtain ⟨_, b1, b2, b3, b4, b5, b6, b7⟩ := mk7_bits (f 1) (f 2) (f 3) (f 4) (f 5) (f 6) (f 7)
  have : j = 1 ∨ j = 2 ∨ j = 3 ∨ j = 4 ∨ j = 5 ∨ j = 6 ∨ j = 7 := by omega
  rcases this with rfl | rfl | rfl | rfl | rfl | rfl | rfl <;> assumption
theorem isB_and (a b : Int) (ha : W32 a) (hb : W32 b) (j : Nat) : isB (bits .and .u32 a b) j = (isB a j && isB b j) := by
  obtain ⟨m, rfl⟩ : ∃ n : Nat, a = n := ⟨a.toNat, by have := ha.1; omega⟩
  obtain ⟨n, rfl⟩ : ∃ n : Nat, b = n := ⟨b.toNat, by have := hb.1; omega⟩
  have h1 : m < 4294967296 := by have := ha.2; omega
  have h2 : n < 4294967296 := by have := hb.2; omega
  rw [u32_and_nat m n h1 h2, isB_tb _ j (Nat.lt_of_le_of_lt Nat.and_le_left h1), isB_tb m j h1, isB_tb n j h2, Nat.testBit_and]
theorem isB_or (a b : Int) (ha : W32 a) (hb : W32 b) (j : Nat) : isB (bits .or .u32 a b) j = (isB a j || isB b j) := by
  obtain ⟨m, rfl⟩ : ∃ n : Nat, a = n := ⟨a.toNat, by have := ha.1; omega⟩
  obtain ⟨n, rfl⟩ : ∃ n : Nat, b = n := ⟨b.toNat, by have := hb.1; omega⟩
  have h1 : m < 4294967296 := by have := ha.2; omega
  have h2 : n < 4294967296 := by have := hb.2; omega
  rw [u32_or_nat m n h1 h2, isB_tb _ j (Nat.or_lt_two_pow (n := 32) h1 h2), isB_tb m j h1, isB_tb n j h2, Nat.testBit_or]
theorem isB_andNot (a b : Int) (ha : W32 a) (hb : W32 b) (j : Nat) : isB (bits .andNot .u32 a b) j = (isB a j && !isB b j) := by
  obtain ⟨m, rfl⟩ : ∃ n : Nat, a = n := ⟨a.toNat, by have := ha.1; omega⟩
  obtain ⟨n, rfl⟩ : ∃ n : Nat, b = n := ⟨b.toNat, by have := hb.1; omega⟩
  have h1 : m < 4294967296 := by have := ha.2; omega
  have h2 : n < 4294967296 := by have := hb.2; omega
  rw [u32_andNot (m : Int) (n : Int) (by omega) (by omega) (by omega) (by omega)]
  simp only [Int.toNat_natCast]
  rw [isB_tb _ j (Nat.lt_of_le_of_lt Nat.and_le_left h1), isB_tb m j h1, isB_tb n j h2, Nat.testBit_and]
  by_cases hj : j < 32
  · rw [show 4294967295 - n = 2 ^ 32 - (n + 1) by omega, Nat.testBit_two_pow_sub_succ h2]
    simp [hj]
  · have : m.testBit j = false := Nat.testBit_lt_two_pow (Nat.lt_of_lt_of_le h1 (Nat.pow_le_pow_right (n := 2) (i := 32) (by decide) (by omega)))
    rw [this, Bool.false_and, Bool.false_and]
theorem isB_zero (j : Nat) : isB 0 j = false := by
  rw [show (0 : Int) = ((0 : Nat) : Int) from rfl, isB_tb 0 j (by decide), Nat.zero_testBit]
theorem isB_big {n : Nat} (hn : n < 4096) (i : Nat) (h : isB (n : Int) i = true) : i < 12 := by
  rw [isB_tb n i (by omega)] at h
  apply Classical.byContradiction
  intro hi
  rw [Nat.testBit_lt_two_pow (Nat.lt_of_lt_of_le hn (Nat.pow_le_pow_right (n := 2) (i := 12) (by decide) (by omega)))] at h
  cases h
theorem in_2730 : ∀ i : Fin 12, isB 2730 i.val = true → i.val = 1 ∨ i.val = 3 ∨ i.val = 5 ∨ i.val = 7 ∨ i.val = 9 ∨ i.val = 11 := by decide
theorem in_546 : ∀ i : Fin 12, isB 546 i.val = true → i.val = 1 ∨ i.val = 5 ∨ i.val = 9 := by decide
theorem and_in {v : Int} (hv : W32 v) (i : Nat) (h : isB (bits .and .u32 v 2730) i = true) : i = 1 ∨ i = 3 ∨ i = 5 ∨ i = 7 ∨ i = 9 ∨ i = 11 := by
  rw [isB_and v 2730 hv (W32.lit (n := 2730) (by decide)), Bool.and_eq_true] at h
  exact in_2730 ⟨i, isB_big (n := 2730) (by decide) i h.2⟩ h.2
theorem and_in2 {v : Int} (hv : W32 v) (i : Nat) (h : isB (bits .and .u32 v 546) i = true) : i = 1 ∨ i = 5 ∨ i = 9 := by
  rw [isB_and v 546 hv (W32.lit (n := 546) (by decide)), Bool.and_eq_true] at h
  exact in_546 ⟨i, isB_big (n := 546) (by decide) i h.2⟩ h.2
theorem mix_in {a v m : Int} (ha : W32 a) (hv : W32 v) (hm : W32 m) (hb : ∀ i, isB a i = true → i = 1 ∨ i = 3 ∨ i = 5 ∨ i = 7 ∨ i = 9 ∨ i = 11) (hd : ∀ i, isB m i = true → i = 1 ∨ i = 5 ∨ i = 9) (i : Nat) (h : isB (bits .or .u32 (bits .andNot .u32 a m) (bits .and .u32 v m)) i = true) : i = 1 ∨ i = 3 ∨ i = 5 ∨ i = 7 ∨ i = 9 ∨ i = 11 := by
  rw [isB_or _ _ (ha.andNot hm) (hv.and hm), isB_andNot a m ha hm, isB_and v m hv hm] at h
  simp only [Bool.or_eq_true, Bool.and_eq_true] at h
  rcases h with h | h
  · exact hb i h.1
  · have := hd i h.2
    omega
theorem or_rc (a b c : Int) (ha : W32 a) (hb : W32 b) (hc : W32 c) : bits .or .u32 (bits .or .u32 a b) c = bits .or .u32 (bits .or .u32 a c) b := by
  obtain ⟨l, rfl⟩ : ∃ n : Nat, a = n := ⟨a.toNat, by have := ha.1; omega⟩
  obtain ⟨m, rfl⟩ : ∃ n : Nat, b = n := ⟨b.toNat, by have := hb.1; omega⟩
  obtain ⟨n, rfl⟩ : ∃ n : Nat, c = n := ⟨c.toNat, by have := hc.1; omega⟩
  have h1 : l < 2 ^ 32 := by have := ha.2; omega
  have h2 : m < 2 ^ 32 := by have := hb.2; omega
  have h3 : n < 2 ^ 32 := by have := hc.2; omega
  rw [u32_or_nat l m h1 h2, u32_or_nat l n h1 h3, u32_or_nat _ n (Nat.or_lt_two_pow h1 h2) h3, u32_or_nat _ m (Nat.or_lt_two_pow h1 h3) h2, Nat.or_assoc, Nat.or_comm m n, ← Nat.or_assoc]
theorem orIf_eq (b : Bool) (p m : Int) (hp : W32 p) : orIf b p m = bits .or .u32 p (oneV b m) := by
  unfold orIf oneV
  cases b
  · exact (or_zero p hp).symm
  · rfl
theorem one_w (b : Bool) (n : Nat) (hn : n < 4294967296) : W32 (oneV b n) := by unfold oneV; split; exact W32.lit hn; exact W32.lit (n := 0) (by decide)
theorem ask_eq (s : RSt) (c : Nat) (hn : s.src.length = 8) (he : W32 (enAt s c)) : askC (mk (fun i => (srcAt s i).waits) 7) (enAt s c) (liAt s c) (s.src.map (·.prio)) = askR s c := by
  have e : ∀ j, 1 ≤ j → j < 8 → askB (mk (fun i => (srcAt s i).waits) 7) (enAt s c) (liAt s c) (s.src.map (·.prio)) j = askRB s c j := fun j h1 h8 => by
    unfold askB askRB
    have p : (s.src.map (·.prio))[j]?.getD 0 = (srcAt s j).prio := by
      unfold srcAt
      rw [List.getElem?_map]
      have : j < s.src.length := by omega
      simp [this]
    have b := isB_and _ _ (mk_w (fun i => (srcAt s i).waits)) he j
    rw [mk_bit _ j h1 h8] at b
    rw [p, show (bits .and .u32 (bits .and .u32 (mk (fun i => (srcAt s i).waits) 7) (enAt s c) / 2 ^ j) 1 == 1) = ((srcAt s j).waits && isB (enAt s c) j) from b]
    rfl
  unfold askC askR
  rw [Bool.eq_iff_iff, List.any_eq_true, List.any_eq_true]
  constructor
  · rintro ⟨i, hi, h⟩
    have hi' : i < 7 := by simpa using hi
    exact ⟨i, hi, by rw [← e (i + 1) (by omega) (by omega)]; exact h⟩
  · rintro ⟨i, hi, h⟩
    have hi' : i < 7 := by simpa using hi
    exact ⟨i, hi, by rw [e (i + 1) (by omega) (by omega)]; exact h⟩
theorem mip_dok {s : RSt} (h : Dvs s) (hs : W32 s.soft) : mipC (cOf s) = mipR s := by
  have m : (bits .and .u32 s.msip 1 == 1) = (s.msip == 1) := by rcases h.msip with e | e <;> rw [e] <;> rfl
  unfold mipC
  show orIf (askC (mk (fun i => (srcAt s i).waits) 7) (enAt s 1) (liAt s 1) (s.src.map (·.prio))) (orIf (askC (mk (fun i => (srcAt s i).waits) 7) (enAt s 0) (liAt s 0) (s.src.map (·.prio))) (orIf (decide (s.mtimecmp ≤ s.mtime)) (orIf (bits .and .u32 s.msip 1 == 1) s.soft 8) 128) 2048) 512 = mipR s
  rw [ask_eq s 0 h.nsrc h.en0, ask_eq s 1 h.nsrc h.en1, m]
  unfold mipR
  have o1 : W32 (oneV (s.msip == 1) 8) := one_w _ 8 (by decide)
  have o2 : W32 (oneV (decide (s.mtimecmp ≤ s.mtime)) 128) := one_w _ 128 (by decide)
  have o3 : W32 (oneV (askR s 0) 2048) := one_w _ 2048 (by decide)
  have o4 : W32 (oneV (askR s 1) 512) := one_w _ 512 (by decide)
  have a1 := hs.or o1
  have a2 := a1.or o2
  have a3 := a2.or o3
  have x3 := hs.or o3
  have x4 := x3.or o4
  rw [orIf_eq _ _ 8 hs, orIf_eq _ _ 128 a1, orIf_eq _ _ 2048 a2, orIf_eq _ _ 512 a3]
  rw [or_rc _ _ _ a1 o2 o3, or_rc _ _ _ hs o1 o3, or_rc _ _ _ (x3.or o1) o2 o4, or_rc _ _ _ x3 o1 o4]
theorem look_dok {s : RSt} (h : Dvs s) (hs : W32 s.soft) : lookC (cOf s) = lookR s := by
  have e2 := mip_dok h hs
  have c : csrsC (cOf s) = csrsR s := by
    unfold csrsC csrsR
    rw [e2]
    rfl
  unfold lookC lookR
  rw [c]
  show (⟨s.x, s.pc, s.mode, s.asleep, csrsR s, bytesOf s.ram, [s.msip, s.mtimecmp, s.mtime], s.src.map (·.prio), mk (fun i => (srcAt s i).waits) 7, mk (fun i => (srcAt s i).served) 7, mk (fun i => (srcAt s i).high) 7, [enAt s 0, enAt s 1], [liAt s 0, liAt s 1]⟩ : LSt) = _
  rw [show [enAt s 0, enAt s 1] = s.enable from (two_of s.enable h.nen).symm, show [liAt s 0, liAt s 1] = s.limit from (two_of s.limit h.nli).symm]
theorem Gd.mip {s : RSt} (h : Gd s) : W32 (mipR s) := by
  have o : ∀ (b : Bool) (n : Nat), n < 4294967296 → W32 (oneV b n) := fun b n hn => one_w b n hn
  exact (((h.soft.or (o _ 2048 (by decide))).or (o _ 512 (by decide))).or (o _ 8 (by decide))).or (o _ 128 (by decide))
theorem Gd.csrs {s : RSt} (h : Gd s) : csrsC (cOf s) = csrsR s := by
  have e2 := mip_dok h.dv h.soft
  unfold csrsC csrsR
  rw [e2]
  rfl
theorem Gd.look {s : RSt} (h : Gd s) : lookC (cOf s) = lookR s := look_dok h.dv h.soft
theorem still_fail (s : RSt) (c : Nat) (t : Int) : Still s (failR s c t) := by
  unfold failR trapR
  split
  · exact Still.refl s
  · exact Still.refl s
theorem Gd.chosen {s : RSt} (h : Gd s) (hm : bits .and .u32 (mipR s) s.mie = 0) : chosenR s = -1 := by
  have hp := h.mip
  have e : ∀ i, enB s i = false := fun i => by
    unfold enB
    rcases none_en _ _ hp.1 hp.2 h.mie.1 h.mie.2 hm i with h1 | h1
    · rw [if_pos h1]
    · rw [if_pos h1]; split <;> rfl
  unfold chosenR
  generalize prs = l
  induction l with
  | nil => rfl
  | cons q l ih =>
    unfold chosenF okB
    rw [e]
    exact ih

theorem fin2 {v : Int} (h : v = 0 ∨ v = 1) : ∃ i : Fin 2, v = (i.val : Int) := by rcases h with rfl | rfl; exact ⟨0, rfl⟩; exact ⟨1, rfl⟩
theorem fin4 {v : Int} (h : v = 0 ∨ v = 1 ∨ v = 3) : ∃ i : Fin 4, v = (i.val : Int) := by rcases h with rfl | rfl | rfl; exact ⟨0, rfl⟩; exact ⟨1, rfl⟩; exact ⟨3, rfl⟩
theorem sup_mode {s : RSt} {cause : Nat} (h : Gd s) (e : supB s cause = true) : s.mode = 0 ∨ s.mode = 1 := by
  unfold supB at e
  split at e
  · cases e
  · have := h.mode; omega
theorem msF_s (s : RSt) : msV s = msF s.sie s.mieb s.spie s.mpie s.tw s.tsr s.spp s.mpp := rfl
theorem cOf_trapS {s : RSt} (h : Gd s) (hm : s.mode = 0 ∨ s.mode = 1) (cause tval : Int) : cOf (trapS s cause tval 0) = entS (cOf s) cause tval := by
  have e1 : msV (trapS s cause tval 0) = layV (msV s) 2 32 256 8 s.mode := by
    obtain ⟨i, hi⟩ := fin2 h.spp
    obtain ⟨j, hj⟩ := fin4 h.mpp
    obtain ⟨k, hk⟩ := fin2 hm
    show msF false s.mieb s.sie s.mpie s.tw s.tsr s.mode s.mpp = layV (msF s.sie s.mieb s.spie s.mpie s.tw s.tsr s.spp s.mpp) 2 32 256 8 s.mode
    rw [hi, hj, hk]
    exact (lay_s _ _ _ _ _ _ i j k).symm
  have e2 : (bits .and .u32 s.stvec 4294967292 + 0) % 4294967296 = bits .and .u32 s.stvec 4294967292 := by
    have := h.stvec.and (W32.lit (n := 4294967292) (by decide))
    unfold W32 at this
    have e : ((4294967292 : Nat) : Int) = 4294967292 := rfl
    rw [e] at this
    omega
  show (⟨s.x, (bits .and .u32 s.stvec 4294967292 + 0) % 4294967296, 1, s.asleep, msV (trapS s cause tval 0), s.medeleg, s.mideleg, s.mie, s.soft, s.stvec, s.sscratch, s.pc, cause, tval, s.mtvec, s.mscratch, s.mepc, s.mcause, s.mtval, s.ram, s.msip, s.mtimecmp, s.mtime, _, _, _, _, _, _, _, _⟩ : CSt) = _
  rw [e1, e2]
  rfl
theorem cOf_trapM {s : RSt} (h : Gd s) (cause tval : Int) : cOf (trapM s cause tval 0) = entM (cOf s) cause tval := by
  have e1 : msV (trapM s cause tval 0) = layV (msV s) 8 128 6144 11 s.mode := by
    obtain ⟨i, hi⟩ := fin2 h.spp
    obtain ⟨j, hj⟩ := fin4 h.mpp
    obtain ⟨k, hk⟩ := fin4 h.mode
    show msF s.sie false s.spie s.mieb s.tw s.tsr s.spp s.mode = layV (msF s.sie s.mieb s.spie s.mpie s.tw s.tsr s.spp s.mpp) 8 128 6144 11 s.mode
    rw [hi, hj, hk]
    exact (lay_m _ _ _ _ _ _ i j k).symm
  have e2 : (bits .and .u32 s.mtvec 4294967292 + 0) % 4294967296 = bits .and .u32 s.mtvec 4294967292 := by
    have := h.mtvec.and (W32.lit (n := 4294967292) (by decide))
    unfold W32 at this
    have e : ((4294967292 : Nat) : Int) = 4294967292 := rfl
    rw [e] at this
    omega
  show (⟨s.x, (bits .and .u32 s.mtvec 4294967292 + 0) % 4294967296, 3, s.asleep, msV (trapM s cause tval 0), s.medeleg, s.mideleg, s.mie, s.soft, s.stvec, s.sscratch, s.sepc, s.scause, s.stval, s.mtvec, s.mscratch, s.pc, cause, tval, s.ram, s.msip, s.mtimecmp, s.mtime, _, _, _, _, _, _, _, _⟩ : CSt) = _
  rw [e1, e2]
  rfl
theorem cOf_fail {s : RSt} (h : Gd s) (cause : Nat) (tval : Int) : cOf (failR s cause tval) = excC (cOf s) cause tval := by
  unfold failR trapR excC
  rw [show supC (cOf s) cause = supB s cause from rfl]
  by_cases e : supB s cause = true
  · rw [if_pos e, if_pos e]
    exact cOf_trapS h (sup_mode h e) cause tval
  · rw [if_neg e, if_neg e]
    exact cOf_trapM h cause tval
theorem Gd.trapS {s : RSt} (h : Gd s) (hm : s.mode = 0 ∨ s.mode = 1) (cause tval : Int) (hc : W32 cause) (ht : W32 tval) : Gd (trapS s cause tval 0) := by
  have v := h.stvec.and (W32.lit (n := 4294967292) (by decide))
  have v4 := and_four h.stvec
  have e : ((4294967292 : Nat) : Int) = 4294967292 := rfl
  rw [e] at v
  have e2 : (bits .and .u32 s.stvec 4294967292 + 0) % 4294967296 = bits .and .u32 s.stvec 4294967292 := by unfold W32 at v; omega
  exact { z := h.z, x := h.x, pc := (by show W32 ((bits .and .u32 s.stvec 4294967292 + 0) % 4294967296); rw [e2]; exact v), p4 := (by show (bits .and .u32 s.stvec 4294967292 + 0) % 4294967296 % 4 = 0; rw [e2]; exact v4), n4 := h.n4, b := h.b, mode := .inr (.inl rfl), spp := hm, mpp := h.mpp, medeleg := h.medeleg, mideleg := h.mideleg, mie := h.mie, soft := h.soft, stvec := h.stvec, sscratch := h.sscratch, sepc := h.pc, scause := hc, stval := ht, mtvec := h.mtvec, mscratch := h.mscratch, mepc := h.mepc, mcause := h.mcause, mtval := h.mtval, s4 := h.p4, m4 := h.m4, mb := h.mb, db := h.db, dv := { h.dv with } }
theorem Gd.trapM {s : RSt} (h : Gd s) (cause tval : Int) (hc : W32 cause) (ht : W32 tval) : Gd (trapM s cause tval 0) := by
  have v := h.mtvec.and (W32.lit (n := 4294967292) (by decide))
  have v4 := and_four h.mtvec
  have e : ((4294967292 : Nat) : Int) = 4294967292 := rfl
  rw [e] at v
  have e2 : (bits .and .u32 s.mtvec 4294967292 + 0) % 4294967296 = bits .and .u32 s.mtvec 4294967292 := by unfold W32 at v; omega
  exact { z := h.z, x := h.x, pc := (by show W32 ((bits .and .u32 s.mtvec 4294967292 + 0) % 4294967296); rw [e2]; exact v), p4 := (by show (bits .and .u32 s.mtvec 4294967292 + 0) % 4294967296 % 4 = 0; rw [e2]; exact v4), n4 := h.n4, b := h.b, mode := .inr (.inr rfl), spp := h.spp, mpp := h.mode, medeleg := h.medeleg, mideleg := h.mideleg, mie := h.mie, soft := h.soft, stvec := h.stvec, sscratch := h.sscratch, sepc := h.sepc, scause := h.scause, stval := h.stval, mtvec := h.mtvec, mscratch := h.mscratch, mepc := h.pc, mcause := hc, mtval := ht, s4 := h.s4, m4 := h.p4, mb := h.mb, db := h.db, dv := { h.dv with } }
theorem Gd.fail {s : RSt} (h : Gd s) (cause : Nat) (hc : cause < 32) (tval : Int) (ht : W32 tval) : Gd (failR s cause tval) := by
  have c : W32 (cause : Int) := ⟨by omega, by omega⟩
  unfold failR trapR
  by_cases e : supB s cause = true
  · rw [if_pos e]; exact h.trapS (sup_mode h e) _ _ c ht
  · rw [if_neg e]; exact h.trapM _ _ c ht
theorem Gd.sys {s : RSt} (h : Gd s) : Gd (sysR s) := { h with dv := { h.dv with } }
theorem Gd.sys1 {s : RSt} (h : Gd s) : Gd (sys1 s) := { h with dv := { h.dv with } }
theorem Gd.setPc {s : RSt} (h : Gd s) (v : Int) (hv : W32 v) (h4 : v % 4 = 0) : Gd { s with pc := v } := { h with dv := { h.dv with }, pc := hv, p4 := h4 }
theorem Gd.next {s : RSt} (h : Gd s) : Gd (nextR s) := h.setPc _ ⟨by omega, by omega⟩ (by have := h.p4; omega)
theorem Gd.put {s : RSt} (h : Gd s) (rd : Nat) (v : Int) (hv : W32 v) : Gd (putR s rd v) := by
  refine { h with dv := { h.dv with }, z := ?_, x := ?_ }
  · show (putX s.x rd v)[0]?.getD 0 = 0
    unfold putX
    split
    · exact h.z
    · rename_i hr
      rw [List.getElem?_set]
      simp [hr]
      exact h.z
  · intro i
    show 0 ≤ (putX s.x rd v)[i]?.getD 0 ∧ (putX s.x rd v)[i]?.getD 0 < 4294967296
    unfold putX
    split
    · exact h.x i
    · rw [List.getElem?_set]
      split
      · split
        · simp; exact hv
        · simp
      · exact h.x i
theorem Gd.ram {s : RSt} (h : Gd s) (a w : Nat) (v : Int) : Gd { s with ram := stV s.ram a v w } := { h with dv := { h.dv with }, n4 := (by show 4 ≤ (stV s.ram a v w).length; rw [stV_len]; exact h.n4), b := stV_byt h.b a v w }

theorem cOf_mret {s : RSt} (h : Gd s) : cOf (mretR s) = leaM (cOf s) := by
  obtain ⟨i, hi⟩ := fin2 h.spp
  obtain ⟨j, hj⟩ := fin4 h.mpp
  have e := back_m s.sie s.mieb s.spie s.mpie s.tw s.tsr i j
  rw [← hi, ← hj] at e
  have e1 : msV (mretR s) = backV (msV s) 8 128 6144 := e.1.symm
  have e2 : bits .and .u32 (msV s) 6144 / 2048 = s.mpp := e.2
  show (⟨s.x, s.mepc, s.mpp, s.asleep, msV (mretR s), s.medeleg, s.mideleg, s.mie, s.soft, s.stvec, s.sscratch, s.sepc, s.scause, s.stval, s.mtvec, s.mscratch, s.mepc, s.mcause, s.mtval, s.ram, s.msip, s.mtimecmp, s.mtime, _, _, _, _, _, _, _, _⟩ : CSt) = _
  unfold leaM
  rw [show (cOf s).mstatus = msV s from rfl, e1, e2]
  rfl
theorem cOf_sret {s : RSt} (h : Gd s) : cOf (sretR s) = leaS (cOf s) := by
  obtain ⟨i, hi⟩ := fin2 h.spp
  obtain ⟨j, hj⟩ := fin4 h.mpp
  have e := back_s s.sie s.mieb s.spie s.mpie s.tw s.tsr i j
  rw [← hi, ← hj] at e
  have e1 : msV (sretR s) = backV (msV s) 2 32 256 := e.1.symm
  have e2 : bits .and .u32 (msV s) 256 / 256 = s.spp := e.2
  show (⟨s.x, s.sepc, s.spp, s.asleep, msV (sretR s), s.medeleg, s.mideleg, s.mie, s.soft, s.stvec, s.sscratch, s.sepc, s.scause, s.stval, s.mtvec, s.mscratch, s.mepc, s.mcause, s.mtval, s.ram, s.msip, s.mtimecmp, s.mtime, _, _, _, _, _, _, _, _⟩ : CSt) = _
  unfold leaS
  rw [show (cOf s).mstatus = msV s from rfl, e1, e2]
  rfl
theorem Gd.mret {s : RSt} (h : Gd s) : Gd (mretR s) := { h with dv := { h.dv with }, pc := h.mepc, p4 := h.m4, mode := h.mpp, mpp := .inl rfl }
theorem Gd.sret {s : RSt} (h : Gd s) : Gd (sretR s) := { h with dv := { h.dv with }, pc := h.sepc, p4 := h.s4, mode := (by have := h.spp; show s.spp = 0 ∨ s.spp = 1 ∨ s.spp = 3; omega), spp := .inl rfl }
theorem Gd.wfi {s : RSt} (h : Gd s) : Gd (wfiR s) := { h with dv := { h.dv with }, pc := ⟨by show 0 ≤ (s.pc + 4) % 4294967296; omega, by show (s.pc + 4) % 4294967296 < 4294967296; omega⟩, p4 := (by have := h.p4; show (s.pc + 4) % 4294967296 % 4 = 0; omega) }
theorem tsr_bit {s : RSt} (h : Gd s) : (bits .and .u32 (msV s) 4194304 != 0) = s.tsr := by
  obtain ⟨i, hi⟩ := fin2 h.spp
  obtain ⟨j, hj⟩ := fin4 h.mpp
  rw [msF_s, hi, hj]
  exact (tw_tsr s.sie s.mieb s.spie s.mpie s.tw s.tsr i j).2
theorem tw_bit {s : RSt} (h : Gd s) : (bits .and .u32 (msV s) 2097152 != 0) = s.tw := by
  obtain ⟨i, hi⟩ := fin2 h.spp
  obtain ⟨j, hj⟩ := fin4 h.mpp
  rw [msF_s, hi, hj]
  exact (tw_tsr s.sie s.mieb s.spie s.mpie s.tw s.tsr i j).1

theorem setC_256 (c : CSt) (v : Int) : setC c 256 v = { c with mstatus := mixV c.mstatus v 290 } := rfl
theorem stR_256 (s : RSt) (v : Int) : stR s 256 v = { s with sie := isB v 1, spie := isB v 5, spp := v / 256 % 2 } := rfl
theorem setC_260 (c : CSt) (v : Int) : setC c 260 v = { c with mie := mixV c.mie v c.mideleg } := rfl
theorem stR_260 (s : RSt) (v : Int) : stR s 260 v = { s with mie := bits .or .u32 (bits .andNot .u32 s.mie s.mideleg) (bits .and .u32 v s.mideleg) } := rfl
theorem setC_261 (c : CSt) (v : Int) : setC c 261 v = { c with stvec := bits .and .u32 v 4294967293 } := rfl
theorem stR_261 (s : RSt) (v : Int) : stR s 261 v = { s with stvec := bits .and .u32 v 4294967293 } := rfl
theorem setC_320 (c : CSt) (v : Int) : setC c 320 v = { c with sscratch := v } := rfl
theorem stR_320 (s : RSt) (v : Int) : stR s 320 v = { s with sscratch := v } := rfl
theorem setC_321 (c : CSt) (v : Int) : setC c 321 v = { c with sepc := bits .and .u32 v 4294967292 } := rfl
theorem stR_321 (s : RSt) (v : Int) : stR s 321 v = { s with sepc := bits .and .u32 v 4294967292 } := rfl
theorem setC_322 (c : CSt) (v : Int) : setC c 322 v = { c with scause := bits .and .u32 v 2147483663 } := rfl
theorem stR_322 (s : RSt) (v : Int) : stR s 322 v = { s with scause := bits .and .u32 v 2147483663 } := rfl
theorem setC_323 (c : CSt) (v : Int) : setC c 323 v = { c with stval := v } := rfl
theorem stR_323 (s : RSt) (v : Int) : stR s 323 v = { s with stval := v } := rfl
theorem setC_324 (c : CSt) (v : Int) : setC c 324 v = { c with written := mixV c.written v (bits .and .u32 c.mideleg 2) } := rfl
theorem stR_324 (s : RSt) (v : Int) : stR s 324 v = { s with soft := bits .or .u32 (bits .andNot .u32 s.soft (bits .and .u32 s.mideleg 2)) (bits .and .u32 v (bits .and .u32 s.mideleg 2)) } := rfl
theorem setC_768 (c : CSt) (v : Int) : setC c 768 v = { c with mstatus := mixV c.mstatus v (keptV v) } := rfl
theorem stR_768 (s : RSt) (v : Int) : stR s 768 v = (if (v / 2048 % 4 != 2) = true then { s with sie := isB v 1, mieb := isB v 3, spie := isB v 5, mpie := isB v 7, spp := v / 256 % 2, mpp := v / 2048 % 4, tw := isB v 21, tsr := isB v 22 } else { s with sie := isB v 1, mieb := isB v 3, spie := isB v 5, mpie := isB v 7, spp := v / 256 % 2, tw := isB v 21, tsr := isB v 22 }) := rfl
theorem setC_770 (c : CSt) (v : Int) : setC c 770 v = { c with medeleg := bits .and .u32 v 943 } := rfl
theorem stR_770 (s : RSt) (v : Int) : stR s 770 v = { s with medeleg := bits .and .u32 v 943 } := rfl
theorem setC_771 (c : CSt) (v : Int) : setC c 771 v = { c with mideleg := bits .and .u32 v 546 } := rfl
theorem stR_771 (s : RSt) (v : Int) : stR s 771 v = { s with mideleg := bits .and .u32 v 546 } := rfl
theorem setC_772 (c : CSt) (v : Int) : setC c 772 v = { c with mie := bits .and .u32 v 2730 } := rfl
theorem stR_772 (s : RSt) (v : Int) : stR s 772 v = { s with mie := bits .and .u32 v 2730 } := rfl
theorem setC_773 (c : CSt) (v : Int) : setC c 773 v = { c with mtvec := bits .and .u32 v 4294967293 } := rfl
theorem stR_773 (s : RSt) (v : Int) : stR s 773 v = { s with mtvec := bits .and .u32 v 4294967293 } := rfl
theorem setC_832 (c : CSt) (v : Int) : setC c 832 v = { c with mscratch := v } := rfl
theorem stR_832 (s : RSt) (v : Int) : stR s 832 v = { s with mscratch := v } := rfl
theorem setC_833 (c : CSt) (v : Int) : setC c 833 v = { c with mepc := bits .and .u32 v 4294967292 } := rfl
theorem stR_833 (s : RSt) (v : Int) : stR s 833 v = { s with mepc := bits .and .u32 v 4294967292 } := rfl
theorem setC_834 (c : CSt) (v : Int) : setC c 834 v = { c with mcause := bits .and .u32 v 2147483663 } := rfl
theorem stR_834 (s : RSt) (v : Int) : stR s 834 v = { s with mcause := bits .and .u32 v 2147483663 } := rfl
theorem setC_835 (c : CSt) (v : Int) : setC c 835 v = { c with mtval := v } := rfl
theorem stR_835 (s : RSt) (v : Int) : stR s 835 v = { s with mtval := v } := rfl
theorem setC_836 (c : CSt) (v : Int) : setC c 836 v = { c with written := bits .and .u32 v 34 } := rfl
theorem stR_836 (s : RSt) (v : Int) : stR s 836 v = { s with soft := bits .and .u32 v 34 } := rfl
theorem setC_3860 (c : CSt) (v : Int) : setC c 3860 v = c := rfl
theorem stR_3860 (s : RSt) (v : Int) : stR s 3860 v = s := rfl
theorem cOf_st {s : RSt} (h : Gd s) (n : Nat) (hn : n ∈ [256, 260, 261, 320, 321, 322, 323, 324, 768, 770, 771, 772, 773, 832, 833, 834, 835, 836, 3860]) (v : Int) (hv : W32 v) : cOf (stR s n v) = setC (cOf s) n v := by
  simp only [List.mem_cons, List.not_mem_nil, or_false] at hn
  rcases hn with rfl | rfl | rfl | rfl | rfl | rfl | rfl | rfl | rfl | rfl | rfl | rfl | rfl | rfl | rfl | rfl | rfl | rfl | rfl
  · rw [stR_256, setC_256]
    have e : msV { s with sie := isB v 1, spie := isB v 5, spp := v / 256 % 2 } = mixV (msV s) v 290 := (set_ss s.sie s.mieb s.spie s.mpie s.tw s.tsr s.spp s.mpp v h.spp h.mpp hv.1 hv.2).symm
    show (⟨s.x, s.pc, s.mode, s.asleep, msV { s with sie := isB v 1, spie := isB v 5, spp := v / 256 % 2 }, s.medeleg, s.mideleg, s.mie, s.soft, s.stvec, s.sscratch, s.sepc, s.scause, s.stval, s.mtvec, s.mscratch, s.mepc, s.mcause, s.mtval, s.ram, s.msip, s.mtimecmp, s.mtime, _, _, _, _, _, _, _, _⟩ : CSt) = _
    rw [e]
    rfl
  · rw [stR_260, setC_260]
    rfl
  · rw [stR_261, setC_261]
    rfl
  · rw [stR_320, setC_320]
    rfl
  · rw [stR_321, setC_321]
    rfl
  · rw [stR_322, setC_322]
    rfl
  · rw [stR_323, setC_323]
    rfl
  · rw [stR_324, setC_324]
    rfl
  · rw [stR_768, setC_768]
    have e := set_ms s.sie s.mieb s.spie s.mpie s.tw s.tsr s.spp s.mpp v h.spp h.mpp hv.1 hv.2
    by_cases hm : (v / 2048 % 4 != 2) = true
    · rw [if_pos hm] at e ⊢
      show (⟨s.x, s.pc, s.mode, s.asleep, msV { s with sie := isB v 1, mieb := isB v 3, spie := isB v 5, mpie := isB v 7, spp := v / 256 % 2, mpp := v / 2048 % 4, tw := isB v 21, tsr := isB v 22 }, s.medeleg, s.mideleg, s.mie, s.soft, s.stvec, s.sscratch, s.sepc, s.scause, s.stval, s.mtvec, s.mscratch, s.mepc, s.mcause, s.mtval, s.ram, s.msip, s.mtimecmp, s.mtime, _, _, _, _, _, _, _, _⟩ : CSt) = _
      rw [show msV { s with sie := isB v 1, mieb := isB v 3, spie := isB v 5, mpie := isB v 7, spp := v / 256 % 2, mpp := v / 2048 % 4, tw := isB v 21, tsr := isB v 22 } = mixV (msV s) v (keptV v) from e.symm]
      rfl
    · rw [if_neg hm] at e ⊢
      show (⟨s.x, s.pc, s.mode, s.asleep, msV { s with sie := isB v 1, mieb := isB v 3, spie := isB v 5, mpie := isB v 7, spp := v / 256 % 2, tw := isB v 21, tsr := isB v 22 }, s.medeleg, s.mideleg, s.mie, s.soft, s.stvec, s.sscratch, s.sepc, s.scause, s.stval, s.mtvec, s.mscratch, s.mepc, s.mcause, s.mtval, s.ram, s.msip, s.mtimecmp, s.mtime, _, _, _, _, _, _, _, _⟩ : CSt) = _
      rw [show msV { s with sie := isB v 1, mieb := isB v 3, spie := isB v 5, mpie := isB v 7, spp := v / 256 % 2, tw := isB v 21, tsr := isB v 22 } = mixV (msV s) v (keptV v) from e.symm]
      rfl
  · rw [stR_770, setC_770]
    rfl
  · rw [stR_771, setC_771]
    rfl
  · rw [stR_772, setC_772]
    rfl
  · rw [stR_773, setC_773]
    rfl
  · rw [stR_832, setC_832]
    rfl
  · rw [stR_833, setC_833]
    rfl
  · rw [stR_834, setC_834]
    rfl
  · rw [stR_835, setC_835]
    rfl
  · rw [stR_836, setC_836]
    rfl
  · rw [stR_3860, setC_3860]
theorem still_st (s : RSt) (n : Nat) (hn : n ∈ [256, 260, 261, 320, 321, 322, 323, 324, 768, 770, 771, 772, 773, 832, 833, 834, 835, 836, 3860]) (v : Int) : Still s (stR s n v) := by
  simp only [List.mem_cons, List.not_mem_nil, or_false] at hn
  rcases hn with rfl | rfl | rfl | rfl | rfl | rfl | rfl | rfl | rfl | rfl | rfl | rfl | rfl | rfl | rfl | rfl | rfl | rfl | rfl
  · rw [stR_256]
    exact Still.refl s
  · rw [stR_260]
    exact Still.refl s
  · rw [stR_261]
    exact Still.refl s
  · rw [stR_320]
    exact Still.refl s
  · rw [stR_321]
    exact Still.refl s
  · rw [stR_322]
    exact Still.refl s
  · rw [stR_323]
    exact Still.refl s
  · rw [stR_324]
    exact Still.refl s
  · rw [stR_768]
    split
    · exact Still.refl s
    · exact Still.refl s
  · rw [stR_770]
    exact Still.refl s
  · rw [stR_771]
    exact Still.refl s
  · rw [stR_772]
    exact Still.refl s
  · rw [stR_773]
    exact Still.refl s
  · rw [stR_832]
    exact Still.refl s
  · rw [stR_833]
    exact Still.refl s
  · rw [stR_834]
    exact Still.refl s
  · rw [stR_835]
    exact Still.refl s
  · rw [stR_836]
    exact Still.refl s
  · rw [stR_3860]
    exact Still.refl s
theorem Gd.st {s : RSt} (h : Gd s) (n : Nat) (hn : n ∈ [256, 260, 261, 320, 321, 322, 323, 324, 768, 770, 771, 772, 773, 832, 833, 834, 835, 836, 3860]) (v : Int) (hv : W32 v) : Gd (stR s n v) := by
  have b1 : ∀ k : Nat, k < 4294967296 → W32 (bits .and .u32 v k) := fun k hk => hv.and (W32.lit hk)
  simp only [List.mem_cons, List.not_mem_nil, or_false] at hn
  rcases hn with rfl | rfl | rfl | rfl | rfl | rfl | rfl | rfl | rfl | rfl | rfl | rfl | rfl | rfl | rfl | rfl | rfl | rfl | rfl
  · rw [stR_256]
    exact { h with dv := { h.dv with }, spp := (by show v / 256 % 2 = 0 ∨ v / 256 % 2 = 1; omega) }
  · rw [stR_260]
    exact { h with dv := { h.dv with }, mie := (h.mie.andNot h.mideleg).or (hv.and h.mideleg), mb := fun i hi => mix_in h.mie hv h.mideleg h.mb h.db i hi }
  · rw [stR_261]
    exact { h with dv := { h.dv with }, stvec := b1 4294967293 (by decide) }
  · rw [stR_320]
    exact { h with dv := { h.dv with }, sscratch := hv }
  · rw [stR_321]
    exact { h with dv := { h.dv with }, sepc := b1 4294967292 (by decide), s4 := and_four hv }
  · rw [stR_322]
    exact { h with dv := { h.dv with }, scause := b1 2147483663 (by decide) }
  · rw [stR_323]
    exact { h with dv := { h.dv with }, stval := hv }
  · rw [stR_324]
    exact { h with dv := { h.dv with }, soft := (h.soft.andNot (h.mideleg.and (W32.lit (n := 2) (by decide)))).or (hv.and (h.mideleg.and (W32.lit (n := 2) (by decide)))) }
  · rw [stR_768]
    by_cases hm : (v / 2048 % 4 != 2) = true
    · rw [if_pos hm]
      have hm' : v / 2048 % 4 ≠ 2 := by simpa using hm
      exact { h with dv := { h.dv with }, spp := (by show v / 256 % 2 = 0 ∨ v / 256 % 2 = 1; omega), mpp := (by show v / 2048 % 4 = 0 ∨ v / 2048 % 4 = 1 ∨ v / 2048 % 4 = 3; omega) }
    · rw [if_neg hm]
      exact { h with dv := { h.dv with }, spp := (by show v / 256 % 2 = 0 ∨ v / 256 % 2 = 1; omega) }
  · rw [stR_770]
    exact { h with dv := { h.dv with }, medeleg := b1 943 (by decide) }
  · rw [stR_771]
    exact { h with dv := { h.dv with }, mideleg := b1 546 (by decide), db := fun i hi => and_in2 hv i hi }
  · rw [stR_772]
    exact { h with dv := { h.dv with }, mie := b1 2730 (by decide), mb := fun i hi => and_in hv i hi }
  · rw [stR_773]
    exact { h with dv := { h.dv with }, mtvec := b1 4294967293 (by decide) }
  · rw [stR_832]
    exact { h with dv := { h.dv with }, mscratch := hv }
  · rw [stR_833]
    exact { h with dv := { h.dv with }, mepc := b1 4294967292 (by decide), m4 := and_four hv }
  · rw [stR_834]
    exact { h with dv := { h.dv with }, mcause := b1 2147483663 (by decide) }
  · rw [stR_835]
    exact { h with dv := { h.dv with }, mtval := hv }
  · rw [stR_836]
    exact { h with dv := { h.dv with }, soft := b1 34 (by decide) }
  · rw [stR_3860]
    exact h
theorem src_set (s : RSt) (m : Nat) (f : Srce) (i : Nat) (hm : m < s.src.length) : srcAt { s with src := s.src.set m f } i = if i = m then f else srcAt s i := by
  unfold srcAt
  rw [List.getElem?_set]
  by_cases e : m = i
  · subst e; simp [hm]
  · rw [if_neg e, if_neg (fun h => e h.symm)]
theorem mk_congr {f g : Nat → Bool} (h : ∀ i, 1 ≤ i → i ≤ 7 → f i = g i) : mk f 7 = mk g 7 := by
  rw [mk_eq, mk_eq, h 1 (by decide) (by decide), h 2 (by decide) (by decide), h 3 (by decide) (by decide), h 4 (by decide) (by decide), h 5 (by decide) (by decide), h 6 (by decide) (by decide), h 7 (by decide) (by decide)]
def up (m i : Nat) (v y : Bool) : Bool := if i = m then v else y
theorem mk7_on : ∀ (m : Fin 8) (a b c d e f g : Bool), m.val ≠ 0 → bits .or .u32 (mk7 a b c d e f g) ((2 ^ m.val : Nat) : Int) = mk7 (up m.val 1 true a) (up m.val 2 true b) (up m.val 3 true c) (up m.val 4 true d) (up m.val 5 true e) (up m.val 6 true f) (up m.val 7 true g) := by decide +kernel
theorem mk7_off : ∀ (m : Fin 8) (a b c d e f g : Bool), m.val ≠ 0 → bits .andNot .u32 (mk7 a b c d e f g) ((2 ^ m.val : Nat) : Int) = mk7 (up m.val 1 false a) (up m.val 2 false b) (up m.val 3 false c) (up m.val 4 false d) (up m.val 5 false e) (up m.val 6 false f) (up m.val 7 false g) := by decide +kernel
theorem mk_on (f : Nat → Bool) (m : Nat) (h1 : 1 ≤ m) (h7 : m ≤ 7) : bits .or .u32 (mk f 7) ((2 ^ m : Nat) : Int) = mk (fun i => up m i true (f i)) 7 := by
  rw [mk_eq, mk_eq]; exact mk7_on ⟨m, by omega⟩ _ _ _ _ _ _ _ (by show m ≠ 0; omega)
theorem mk_off (f : Nat → Bool) (m : Nat) (h1 : 1 ≤ m) (h7 : m ≤ 7) : bits .andNot .u32 (mk f 7) ((2 ^ m : Nat) : Int) = mk (fun i => up m i false (f i)) 7 := by
  rw [mk_eq, mk_eq]; exact mk7_off ⟨m, by omega⟩ _ _ _ _ _ _ _ (by show m ≠ 0; omega)
theorem p2_lt {m : Nat} (h : m ≤ 7) : 2 ^ m < 4294967296 := Nat.lt_of_le_of_lt (Nat.pow_le_pow_right (by decide) h) (by decide)
theorem p2_w {m : Nat} (h : m ≤ 7) : W32 ((2 ^ m : Nat) : Int) := W32.lit (p2_lt h)
/-- A number and one bit. -/
theorem and_one {a : Int} (ha : W32 a) (m : Nat) (h : m ≤ 7) : bits .and .u32 a ((2 ^ m : Nat) : Int) = if isB a m then ((2 ^ m : Nat) : Int) else 0 := by
  obtain ⟨n, rfl⟩ : ∃ n : Nat, a = n := ⟨a.toNat, by have := ha.1; omega⟩
  have h1 : n < 4294967296 := by have := ha.2; omega
  rw [u32_and_nat n _ h1 (p2_lt h), and_2pow, isB_tb n m h1]
  cases n.testBit m <;> simp
theorem one_and {a : Int} (ha : W32 a) (m : Nat) (h : m ≤ 7) : bits .and .u32 ((2 ^ m : Nat) : Int) a = if isB a m then ((2 ^ m : Nat) : Int) else 0 := by
  rw [← and_one ha m h]
  obtain ⟨n, rfl⟩ : ∃ n : Nat, a = n := ⟨a.toNat, by have := ha.1; omega⟩
  have h1 : n < 4294967296 := by have := ha.2; omega
  rw [u32_and_nat n _ h1 (p2_lt h), u32_and_nat _ n (p2_lt h) h1, Nat.and_comm]
theorem one_andNot {a : Int} (ha : W32 a) (m : Nat) (h : m ≤ 7) : bits .andNot .u32 ((2 ^ m : Nat) : Int) a = if isB a m then 0 else ((2 ^ m : Nat) : Int) := by
  obtain ⟨n, rfl⟩ : ∃ n : Nat, a = n := ⟨a.toNat, by have := ha.1; omega⟩
  have h1 : n < 4294967296 := by have := ha.2; omega
  rw [u32_andNot _ _ (p2_w h).1 (p2_w h).2 ha.1 ha.2, isB_tb n m h1]
  have e1 : (((2 ^ m : Nat) : Int)).toNat = 2 ^ m := rfl
  have e2 : ((n : Nat) : Int).toNat = n := rfl
  rw [e1, e2, Nat.and_comm, and_2pow, show 4294967295 - n = 2 ^ 32 - (n + 1) by omega, Nat.testBit_two_pow_sub_succ (by omega)]
  have : m < 32 := by omega
  cases n.testBit m <;> simp [this]
theorem zero_or {a : Int} (ha : W32 a) : bits .or .u32 a 0 = a := or_zero a ha
theorem andNot_zero {a : Int} (ha : W32 a) : bits .andNot .u32 a 0 = a := by
  rw [u32_andNot a 0 ha.1 ha.2 (by decide) (by decide)]
  have e : a.toNat &&& (4294967295 - (0 : Int).toNat) = a.toNat := by
    show a.toNat &&& (2 ^ 32 - 1) = a.toNat
    rw [Nat.and_two_pow_sub_one_eq_mod]
    have := ha.1; have := ha.2; omega
  rw [e]; have := ha.1; omega

theorem prio_at (s : RSt) (i : Nat) : (s.src.map (·.prio))[i]?.getD 0 = (srcAt s i).prio := by
  unfold srcAt
  rw [List.getElem?_map]
  cases s.src[i]? <;> rfl
theorem best_of {s : RSt} (h : Dvs s) (c : Nat) (he : W32 (enAt s c)) : ∀ k, k ≤ 7 → bestC (cOf s).pend (enAt s c) 0 (cOf s).prio k = (bestR s c k, (srcAt s (bestR s c k)).prio) := by
  intro k
  induction k with
  | zero => intro _; show ((0 : Nat), (0 : Int)) = (0, (srcAt s 0).prio); rw [h.p0]
  | succ k ih =>
    intro hk
    have ih := ih (by omega)
    have b := isB_and _ _ (mk_w (fun i => (srcAt s i).waits)) he (k + 1)
    rw [mk_bit _ (k + 1) (by omega) (by omega)] at b
    have e : askB (cOf s).pend (enAt s c) (srcAt s (bestR s c k)).prio (cOf s).prio (k + 1) = pickB s c (k + 1) (bestR s c k) := by
      unfold askB pickB
      rw [show (cOf s).prio[k + 1]?.getD 0 = (srcAt s (k + 1)).prio from prio_at s (k + 1), show (bits .and .u32 (bits .and .u32 (cOf s).pend (enAt s c) / 2 ^ (k + 1)) 1 == 1) = ((srcAt s (k + 1)).waits && isB (enAt s c) (k + 1)) from b]
      rfl
    show (if askB (cOf s).pend (enAt s c) (bestC (cOf s).pend (enAt s c) 0 (cOf s).prio k).2 (cOf s).prio (k + 1) then (k + 1, (cOf s).prio[k + 1]?.getD 0) else bestC (cOf s).pend (enAt s c) 0 (cOf s).prio k) = _
    rw [ih, e]
    by_cases y : pickB s c (k + 1) (bestR s c k) = true
    · rw [if_pos y, best_yes (by omega) (show pickB s c (k + 1) (bestR s c (k + 1 - 1)) = true from y), show (cOf s).prio[k + 1]?.getD 0 = (srcAt s (k + 1)).prio from prio_at s (k + 1)]
    · rw [if_neg y, best_no (by omega) (show pickB s c (k + 1) (bestR s c (k + 1 - 1)) = false by simpa using y)]
      rfl
theorem cst_src (s : RSt) (l : List Srce) (p q r : Int) (pr : List Int) (h0 : l.map (·.prio) = pr) (h1 : mk (fun i => (srcAt { s with src := l } i).waits) 7 = p) (h2 : mk (fun i => (srcAt { s with src := l } i).served) 7 = q) (h3 : mk (fun i => (srcAt { s with src := l } i).high) 7 = r) :
    cOf { s with src := l } = { cOf s with prio := pr, pend := p, served := q, level := r } := by subst h0 h1 h2 h3; rfl
theorem map_same (l : List Srce) (m : Nat) (f : Srce) (hf : f.prio = ((l[m]?).getD ⟨false, false, false, 0⟩).prio) : (l.set m f).map (·.prio) = l.map (·.prio) := by
  rw [List.map_set, hf]
  apply List.ext_getElem?
  intro i
  rw [List.getElem?_set]
  by_cases e : m = i
  · subst e
    by_cases hl : m < l.length
    · simp [hl]
    · simp [hl]
  · simp [e]
/-- One source's three marks are set anew. -/
theorem cOf_marks {s : RSt} (h : Dvs s) (m : Nat) (hm : m < 8) (w v g : Bool) : cOf { s with src := s.src.set m { srcAt s m with waits := w, served := v, high := g } } = { cOf s with pend := mk (fun i => up m i w (srcAt s i).waits) 7, served := mk (fun i => up m i v (srcAt s i).served) 7, level := mk (fun i => up m i g (srcAt s i).high) 7 } := by
  have hl : m < s.src.length := by rw [h.nsrc]; exact hm
  refine cst_src s _ _ _ _ _ (map_same _ _ _ rfl) ?_ ?_ ?_
  all_goals
    refine mk_congr fun i _ _ => ?_
    rw [src_set s m _ i hl]
    unfold up
    split <;> rfl
theorem up_self (f : Nat → Bool) (m : Nat) : (fun i => up m i (f m) (f i)) = f := by
  funext i
  unfold up
  split
  · rename_i e; rw [e]
  · rfl
theorem claim_marks {s : RSt} (h : Dvs s) (m : Nat) (h8 : m < 8) (w v : Bool) : setV (setW s m w) m v = { s with src := s.src.set m { srcAt s m with waits := w, served := v } } := by
  have hl : m < s.src.length := by rw [h.nsrc]; exact h8
  unfold setV setW
  simp only [List.set_set]
  rw [src_set s m _ m hl, if_pos rfl]
theorem cOf_claim {s : RSt} (h : Dvs s) (m : Nat) (h7 : m ≤ 7) : cOf (claimS s m) = claimC (cOf s) m := by
  unfold claimS claimC
  by_cases e : m = 0
  · rw [if_pos e, if_pos e]
  · rw [if_neg e, if_neg e, claim_marks h m (by omega)]
    have := cOf_marks h m (by omega) false true (srcAt s m).high
    rw [show ({ srcAt s m with waits := false, served := true } : Srce) = { srcAt s m with waits := false, served := true, high := (srcAt s m).high } from rfl, this, up_self (fun i => (srcAt s i).high), ← mk_off (fun i => (srcAt s i).waits) m (by omega) h7, ← mk_on (fun i => (srcAt s i).served) m (by omega) h7]
    rfl
theorem compl_marks {s : RSt} (h : Dvs s) (m : Nat) (h8 : m < 8) (w v : Bool) : setW (setV s m v) m w = { s with src := s.src.set m { srcAt s m with waits := w, served := v } } := by
  have hl : m < s.src.length := by rw [h.nsrc]; exact h8
  unfold setV setW
  simp only [List.set_set]
  rw [src_set s m _ m hl, if_pos rfl]
theorem cOf_compl {s : RSt} (h : Dvs s) (c : Nat) (he : W32 (enAt s c)) (v : Int) : cOf (complR s c v) = complC (cOf s) (enAt s c) v := by
  unfold complR complC
  by_cases o : v < 1 ∨ 7 < v
  · rw [if_pos o, if_pos o]
  · rw [if_neg o, if_neg o]
    obtain ⟨m, rfl⟩ : ∃ m : Nat, v = m := ⟨v.toNat, by omega⟩
    have h1 : 1 ≤ m := by omega
    have h7 : m ≤ 7 := by omega
    rw [show ((m : Int)).toNat = m from rfl]
    have wp : W32 (cOf s).pend := mk_w (fun i => (srcAt s i).waits)
    have ws : W32 (cOf s).served := mk_w (fun i => (srcAt s i).served)
    have wl : W32 (cOf s).level := mk_w (fun i => (srcAt s i).high)
    have eb : bits .and .u32 (bits .and .u32 (cOf s).served (enAt s c)) ((2 ^ m : Nat) : Int) = if ((srcAt s m).served && isB (enAt s c) m) = true then ((2 ^ m : Nat) : Int) else 0 := by
      rw [and_one (W32.and ws he) m h7, isB_and _ _ ws he, show isB (cOf s).served m = (srcAt s m).served from mk_bit (fun i => (srcAt s i).served) m h1 (by omega)]
    simp only [eb]
    have en : (bits .and .u32 (enAt s c / 2 ^ m) 1 == 0) = !isB (enAt s c) m := by
      obtain ⟨n, hn⟩ : ∃ n : Nat, enAt s c = n := ⟨(enAt s c).toNat, by have := he.1; omega⟩
      rw [hn]
      have h32 : n < 4294967296 := by have := he.2; omega
      unfold isB
      have e : ((n : Int) / 2 ^ m) = ((n / 2 ^ m : Nat) : Int) := by simp
      rw [e, show (1 : Int) = ((1 : Nat) : Int) from rfl, u32_and_nat _ 1 (Nat.lt_of_le_of_lt (Nat.div_le_self _ _) h32) (by decide)]
      have : n / 2 ^ m &&& 1 = 0 ∨ n / 2 ^ m &&& 1 = 1 := by rw [Nat.and_one_is_mod]; omega
      rcases this with h | h <;> rw [h] <;> rfl
    rw [en]
    by_cases y : isB (enAt s c) m = true
    · rw [y, if_neg (by decide)]
      by_cases z : (srcAt s m).served = true
      · rw [if_pos z, if_pos (by rw [z]; rfl), one_and wl m h7, compl_marks h m (by omega)]
        have := cOf_marks h m (by omega) ((srcAt s m).high || (srcAt s m).waits) false (srcAt s m).high
        rw [show ({ srcAt s m with waits := (srcAt s m).high || (srcAt s m).waits, served := false } : Srce) = { srcAt s m with waits := (srcAt s m).high || (srcAt s m).waits, served := false, high := (srcAt s m).high } from rfl, this, up_self (fun i => (srcAt s i).high), ← mk_off (fun i => (srcAt s i).served) m h1 h7,
          show isB (cOf s).level m = (srcAt s m).high from mk_bit (fun i => (srcAt s i).high) m h1 (by omega)]
        cases hh : (srcAt s m).high
        · rw [Bool.false_or, up_self (fun i => (srcAt s i).waits), if_neg (by decide), show bits .or .u32 (cOf s).pend 0 = (cOf s).pend from zero_or wp]
          rfl
        · rw [Bool.true_or, if_pos rfl, ← mk_on (fun i => (srcAt s i).waits) m h1 h7]
          rfl
      · rw [if_neg z, if_neg (by simpa using z), show bits .andNot .u32 (cOf s).served 0 = (cOf s).served from andNot_zero ws, show bits .and .u32 0 (cOf s).level = 0 by rw [u32_and 0 _ (by decide) (by decide) wl.1 wl.2]; simp, show bits .or .u32 (cOf s).pend 0 = (cOf s).pend from zero_or wp]
    · have y' : isB (enAt s c) m = false := by simpa using y
      rw [y', if_pos (show (!false) = true from rfl), Bool.and_false, if_neg (by decide), show bits .andNot .u32 (cOf s).served 0 = (cOf s).served from andNot_zero ws, show bits .and .u32 0 (cOf s).level = 0 by rw [u32_and 0 _ (by decide) (by decide) wl.1 wl.2]; simp, show bits .or .u32 (cOf s).pend 0 = (cOf s).pend from zero_or wp]
theorem cOf_line {s : RSt} (h : Dvs s) (k : Nat) (h1 : 1 ≤ k) (h7 : k ≤ 7) (hi : Bool) : cOf (lineR s k hi) = lineC (cOf s) k hi := by
  have wp : W32 (cOf s).pend := mk_w (fun i => (srcAt s i).waits)
  have ws : W32 (cOf s).served := mk_w (fun i => (srcAt s i).served)
  have hl : k < s.src.length := by rw [h.nsrc]; omega
  have E : ∀ y w : Bool, cOf { s with src := s.src.set k { srcAt s k with waits := w, high := y } } = { cOf s with pend := mk (fun i => up k i w (srcAt s i).waits) 7, level := mk (fun i => up k i y (srcAt s i).high) 7 } := fun y w => by
    have := cOf_marks h k (by omega) w (srcAt s k).served y
    rw [up_self (fun i => (srcAt s i).served)] at this
    exact this
  have E1 : ∀ y : Bool, cOf (setH s k y) = { cOf s with level := mk (fun i => up k i y (srcAt s i).high) 7 } := fun y => by
    have := E y (srcAt s k).waits
    rw [up_self (fun i => (srcAt s i).waits)] at this
    exact this
  have E2 : setW (setH s k true) k true = { s with src := s.src.set k { srcAt s k with waits := true, high := true } } := by
    unfold setW setH
    simp only [List.set_set]
    rw [src_set s k _ k hl, if_pos rfl]
  unfold lineR lineC
  cases hi
  · rw [if_neg (by decide), if_neg (by decide), E1, ← mk_off (fun i => (srcAt s i).high) k h1 h7]
    rfl
  · rw [if_pos rfl, if_pos rfl, one_andNot ws k h7, show isB (cOf s).served k = (srcAt s k).served from mk_bit (fun i => (srcAt s i).served) k h1 (by omega)]
    by_cases z : (srcAt s k).served = true
    · rw [if_pos z, if_pos z, E1, ← mk_on (fun i => (srcAt s i).high) k h1 h7, show bits .or .u32 (cOf s).pend 0 = (cOf s).pend from zero_or wp]
      rfl
    · rw [if_neg z, if_neg z, E2, E, ← mk_on (fun i => (srcAt s i).high) k h1 h7, ← mk_on (fun i => (srcAt s i).waits) k h1 h7]
      rfl
theorem cOf_prio {s : RSt} (h : Dvs s) (m : Nat) (h8 : m < 8) (v : Int) : cOf (setP s m v) = { cOf s with prio := (cOf s).prio.set m v } := by
  have hl : m < s.src.length := by rw [h.nsrc]; exact h8
  have e : ∀ g : Srce → Bool, (∀ q : Srce, g { q with prio := v } = g q) → mk (fun i => g (srcAt (setP s m v) i)) 7 = mk (fun i => g (srcAt s i)) 7 := fun g hg => mk_congr fun i _ _ => by
    unfold setP
    rw [src_set s m _ i hl]
    split
    · rename_i e; rw [e]; exact hg _
    · rfl
  exact cst_src s _ (cOf s).pend (cOf s).served (cOf s).level _ (by rw [List.map_set]; rfl) (e (·.waits) fun _ => rfl) (e (·.served) fun _ => rfl) (e (·.high) fun _ => rfl)

theorem dev_of {s : RSt} (h : Dvs s) (a : Nat) : devC (cOf s) a = (cOf (devR s a).1, (devR s a).2) := by
  have b0 := best_of h 0 h.en0 7 (Nat.le_refl _)
  have b1 := best_of h 1 h.en1 7 (Nat.le_refl _)
  have r0 := bestR_le s 0 7
  have r1 := bestR_le s 1 7
  unfold devC clkV devR
  by_cases c1 : a = 4096
  · subst c1; rfl
  by_cases c2 : a = 4100
  · subst c2; rfl
  by_cases c3 : a = 4104
  · subst c3; rfl
  rw [if_neg c1, if_neg c2, if_neg c3, if_neg c1, if_neg c2, if_neg c3, if_neg (by decide)]
  unfold linV
  by_cases c4 : a = 8224
  · subst c4; rfl
  rw [if_neg c4, if_neg c4]
  by_cases c5 : 8192 ≤ a ∧ a < 8224 ∧ a % 4 = 0
  · rw [if_pos c5, if_neg (by omega), if_neg (by omega), if_neg (by omega), if_neg (by omega), if_neg (by omega), if_neg (by omega), if_pos (show prC a from c5)]
    rw [show (cOf s).prio[(a - 8192) / 4]?.getD 0 = _ from prio_at s _]
  rw [if_neg c5]
  by_cases d1 : a = 8228
  · subst d1; rfl
  by_cases d2 : a = 8232
  · subst d2; rfl
  by_cases d3 : a = 8240
  · subst d3; rfl
  by_cases d4 : a = 8248
  · subst d4; rfl
  by_cases d5 : a = 8244
  · subst d5
    rw [if_neg (by decide), if_neg (by decide), if_neg (by decide), if_neg (by decide), if_pos rfl, if_neg (by decide), if_neg (by decide), if_pos rfl]
    rw [show bestC (cOf s).pend (cOf s).en0 0 (cOf s).prio 7 = _ from b0, cOf_claim h _ r0]
  by_cases d6 : a = 8252
  · subst d6
    rw [if_neg (by decide), if_neg (by decide), if_neg (by decide), if_neg (by decide), if_neg (by decide), if_pos rfl, if_neg (by decide), if_neg (by decide), if_neg (by decide), if_neg (by decide), if_neg (by decide), if_pos rfl]
    rw [show bestC (cOf s).pend (cOf s).en1 0 (cOf s).prio 7 = _ from b1, cOf_claim h _ r1]
  rw [if_neg d1, if_neg d2, if_neg d3, if_neg d4, if_neg d5, if_neg d6, if_neg (show ¬ prC a from c5), if_neg d1, if_neg d3, if_neg d5, if_neg d2, if_neg d4, if_neg d6]
theorem two_set (l : List Int) (h : l.length = 2) (v : Int) : (l.set 0 v)[0]?.getD 0 = v ∧ (l.set 0 v)[1]?.getD 0 = l[1]?.getD 0 ∧ (l.set 1 v)[0]?.getD 0 = l[0]?.getD 0 ∧ (l.set 1 v)[1]?.getD 0 = v := by
  match l, h with
  | [a, b], _ => exact ⟨rfl, rfl, rfl, rfl⟩
theorem cOf_two (s : RSt) (l k : List Int) : cOf { s with enable := l, limit := k } = { cOf s with en0 := l[0]?.getD 0, en1 := l[1]?.getD 0, li0 := k[0]?.getD 0, li1 := k[1]?.getD 0 } := rfl
theorem set_of {s : RSt} (h : Dvs s) (a : Nat) (v : Int) : setD (cOf s) a v = (cOf (setR s a v).1, (setR s a v).2) := by
  have E := fun v => two_set s.enable h.nen v
  have L := fun v => two_set s.limit h.nli v
  unfold setD clkW setR
  by_cases c1 : a = 4096
  · subst c1; rfl
  by_cases c2 : a = 4100
  · subst c2; rfl
  by_cases c3 : a = 4104
  · subst c3; rfl
  rw [if_neg c1, if_neg c2, if_neg c3, if_neg c1, if_neg c2, if_neg c3, if_neg (fun e => by cases e)]
  unfold linW
  by_cases c4 : a = 8224
  · subst c4; rfl
  rw [if_neg c4, if_neg c4]
  by_cases c0 : a = 8192
  · subst c0; rfl
  rw [if_neg c0, if_neg c0]
  by_cases c5 : 8192 < a ∧ a < 8224 ∧ a % 4 = 0
  · rw [if_pos c5, if_neg (by omega), if_neg (by omega), if_neg (by omega), if_neg (by omega), if_neg (by omega), if_neg (by omega), if_pos (show prC a from ⟨by omega, c5.2⟩), cOf_prio h _ (by omega)]
  rw [if_neg c5]
  by_cases d1 : a = 8228
  · subst d1
    rw [if_pos rfl, if_pos rfl]
    have := cOf_two s (s.enable.set 0 (bits .and .u32 v 254)) s.limit
    rw [(E _).1, (E _).2.1] at this
    rw [this]
    rfl
  by_cases d2 : a = 8232
  · subst d2
    rw [if_neg (by decide), if_pos rfl, if_neg (by decide), if_neg (by decide), if_neg (by decide), if_pos rfl]
    have := cOf_two s (s.enable.set 1 (bits .and .u32 v 254)) s.limit
    rw [(E _).2.2.1, (E _).2.2.2] at this
    rw [this]
    rfl
  by_cases d3 : a = 8240
  · subst d3
    rw [if_neg (by decide), if_neg (by decide), if_pos rfl, if_neg (by decide), if_pos rfl]
    have := cOf_two s s.enable (s.limit.set 0 (bits .and .u32 v 7))
    rw [(L _).1, (L _).2.1] at this
    rw [this]
    rfl
  by_cases d4 : a = 8248
  · subst d4
    rw [if_neg (by decide), if_neg (by decide), if_neg (by decide), if_pos rfl, if_neg (by decide), if_neg (by decide), if_neg (by decide), if_neg (by decide), if_pos rfl]
    have := cOf_two s s.enable (s.limit.set 1 (bits .and .u32 v 7))
    rw [(L _).2.2.1, (L _).2.2.2] at this
    rw [this]
    rfl
  by_cases d5 : a = 8244
  · subst d5
    rw [if_neg (by decide), if_neg (by decide), if_neg (by decide), if_neg (by decide), if_pos rfl, if_neg (by decide), if_neg (by decide), if_pos rfl, cOf_compl h 0 h.en0 v]
    rfl
  by_cases d6 : a = 8252
  · subst d6
    rw [if_neg (by decide), if_neg (by decide), if_neg (by decide), if_neg (by decide), if_neg (by decide), if_pos rfl, if_neg (by decide), if_neg (by decide), if_neg (by decide), if_neg (by decide), if_neg (by decide), if_pos rfl, cOf_compl h 1 h.en1 v]
    rfl
  rw [if_neg d1, if_neg d2, if_neg d3, if_neg d4, if_neg d5, if_neg d6, if_neg (show ¬ prC a by unfold prC; omega), if_neg d1, if_neg d3, if_neg d5, if_neg d2, if_neg d4, if_neg d6]

theorem Dvs.marks {s : RSt} (h : Dvs s) (m : Nat) (hm : m < 8) (f : Srce) (hf : f.prio = (srcAt s m).prio) : Dvs { s with src := s.src.set m f } := by
  have hl : m < s.src.length := by rw [h.nsrc]; exact hm
  have e : ∀ i, (srcAt { s with src := s.src.set m f } i).prio = (srcAt s i).prio := fun i => by
    rw [src_set s m f i hl]
    split
    · rename_i e; rw [hf, e]
    · rfl
  exact { h with nsrc := (List.length_set ..).trans h.nsrc, pr := fun i => by rw [e]; exact h.pr i, p0 := by rw [e]; exact h.p0 }
theorem Dvs.setW {s : RSt} (h : Dvs s) (m : Nat) (hm : m < 8) (v : Bool) : Dvs (setW s m v) := h.marks m hm _ rfl
theorem Dvs.setV {s : RSt} (h : Dvs s) (m : Nat) (hm : m < 8) (v : Bool) : Dvs (setV s m v) := h.marks m hm _ rfl
theorem Dvs.setH {s : RSt} (h : Dvs s) (m : Nat) (hm : m < 8) (v : Bool) : Dvs (setH s m v) := h.marks m hm _ rfl
theorem Dvs.claim {s : RSt} (h : Dvs s) (m : Nat) (hm : m ≤ 7) : Dvs (claimS s m) := by
  unfold claimS
  split
  · exact h
  · exact (h.setW m (by omega) _).setV m (by omega) _
theorem Dvs.compl {s : RSt} (h : Dvs s) (c : Nat) (v : Int) : Dvs (complR s c v) := by
  unfold complR
  split
  · exact h
  · split
    · exact h
    · split
      · exact (h.setV _ (by omega) _).setW _ (by omega) _
      · exact h
theorem Dvs.line {s : RSt} (h : Dvs s) (k : Nat) (h7 : k ≤ 7) (hi : Bool) : Dvs (lineR s k hi) := by
  unfold lineR
  split
  · split
    · exact h.setH k (by omega) _
    · exact (h.setH k (by omega) _).setW k (by omega) _
  · exact h.setH k (by omega) _
theorem Dvs.prio {s : RSt} (h : Dvs s) (m : Nat) (h1 : 1 ≤ m) (hm : m < 8) (v : Int) (hv : W32 v) : Dvs (setP s m v) := by
  have hl : m < s.src.length := by rw [h.nsrc]; exact hm
  refine { h with nsrc := (List.length_set ..).trans h.nsrc, pr := fun i => ?_, p0 := ?_ }
  · unfold setP
    rw [src_set s m _ i hl]
    split
    · exact hv
    · exact h.pr i
  · unfold setP
    rw [src_set s m _ 0 hl, if_neg (by omega)]
    exact h.p0
theorem Dvs.tick {s : RSt} (h : Dvs s) : Dvs (tickR s) := { h with mtm := ⟨by show 0 ≤ (s.mtime + 1) % 4294967296; omega, by show (s.mtime + 1) % 4294967296 < 4294967296; omega⟩ }
theorem Dvs.dev {s : RSt} (h : Dvs s) (a : Nat) : Dvs (devR s a).1 := by
  have r0 := bestR_le s 0 7
  have r1 := bestR_le s 1 7
  unfold devR
  split; exact h
  split; exact h
  split; exact h
  split; exact h
  split; exact h
  split; exact h
  split; exact h
  split; exact h.claim _ r0
  split; exact h
  split; exact h
  split; exact h.claim _ r1
  exact h
theorem and1 {v : Int} (hv : W32 v) : bits .and .u32 v 1 = 0 ∨ bits .and .u32 v 1 = 1 := by
  rw [u32_and v 1 hv.1 hv.2 (by decide) (by decide)]
  show ((v.toNat &&& 1 : Nat) : Int) = 0 ∨ ((v.toNat &&& 1 : Nat) : Int) = 1
  rw [Nat.and_one_is_mod]
  omega
theorem Dvs.set {s : RSt} (h : Dvs s) (a : Nat) (v : Int) (hv : W32 v) : Dvs (setR s a v).1 := by
  have E := fun v => two_set s.enable h.nen v
  have L := fun v => two_set s.limit h.nli v
  have v7 : W32 (bits .and .u32 v 7) := hv.and (W32.lit (n := 7) (by decide))
  have v2 : W32 (bits .and .u32 v 254) := hv.and (W32.lit (n := 254) (by decide))
  unfold setR
  by_cases c0 : a = 4096
  · rw [if_pos c0]; exact { h with msip := and1 hv }
  rw [if_neg c0]
  by_cases c1 : a = 4100
  · rw [if_pos c1]; exact { h with mtc := hv }
  rw [if_neg c1]
  by_cases c2 : a = 4104
  · rw [if_pos c2]; exact { h with mtm := hv }
  rw [if_neg c2]
  by_cases c3 : a = 8224
  · rw [if_pos c3]; exact h
  rw [if_neg c3]
  by_cases c4 : a = 8192
  · rw [if_pos c4]; exact h
  rw [if_neg c4]
  by_cases c5 : 8192 < a ∧ a < 8224 ∧ a % 4 = 0
  · rw [if_pos c5]; exact h.prio _ (by omega) (by omega) _ v7
  rw [if_neg c5]
  by_cases c6 : a = 8228
  · rw [if_pos c6]; exact { h with nen := (List.length_set ..).trans h.nen, en0 := (by show W32 _; unfold enAt; rw [(E _).1]; exact v2), en1 := (by show W32 _; unfold enAt; rw [(E _).2.1]; exact h.en1) }
  rw [if_neg c6]
  by_cases c7 : a = 8240
  · rw [if_pos c7]; exact { h with nli := (List.length_set ..).trans h.nli, li0 := (by show W32 _; unfold liAt; rw [(L _).1]; exact v7), li1 := (by show W32 _; unfold liAt; rw [(L _).2.1]; exact h.li1) }
  rw [if_neg c7]
  by_cases c8 : a = 8244
  · rw [if_pos c8]; exact h.compl _ _
  rw [if_neg c8]
  by_cases c9 : a = 8232
  · rw [if_pos c9]; exact { h with nen := (List.length_set ..).trans h.nen, en0 := (by show W32 _; unfold enAt; rw [(E _).2.2.1]; exact h.en0), en1 := (by show W32 _; unfold enAt; rw [(E _).2.2.2]; exact v2) }
  rw [if_neg c9]
  by_cases c10 : a = 8248
  · rw [if_pos c10]; exact { h with nli := (List.length_set ..).trans h.nli, li0 := (by show W32 _; unfold liAt; rw [(L _).2.2.1]; exact h.li0), li1 := (by show W32 _; unfold liAt; rw [(L _).2.2.2]; exact v7) }
  rw [if_neg c10]
  by_cases c11 : a = 8252
  · rw [if_pos c11]; exact h.compl _ _
  rw [if_neg c11]
  exact h

def Cor (s s' : RSt) : Prop := s' = { s with msip := s'.msip, mtimecmp := s'.mtimecmp, mtime := s'.mtime, src := s'.src, enable := s'.enable, limit := s'.limit, device := s'.device }
theorem Cor.gd {s s' : RSt} (e : Cor s s') (h : Gd s) (d : Dvs s') : Gd s' := by
  have d' : Dvs { s with msip := s'.msip, mtimecmp := s'.mtimecmp, mtime := s'.mtime, src := s'.src, enable := s'.enable, limit := s'.limit, device := s'.device } := by rw [← e]; exact d
  rw [e]
  exact { h with dv := d' }
theorem cor_claim (s : RSt) (m : Nat) : Cor s (claimS s m) := by
  unfold claimS
  split <;> rfl
theorem cor_compl (s : RSt) (c : Nat) (v : Int) : Cor s (complR s c v) := by
  unfold complR
  split
  · rfl
  · split
    · rfl
    · split <;> rfl
theorem cor_line (s : RSt) (k : Nat) (hi : Bool) : Cor s (lineR s k hi) := by
  unfold lineR
  split
  · split <;> rfl
  · rfl
theorem cor_dev (s : RSt) (a : Nat) : Cor s (devR s a).1 := by
  unfold devR
  by_cases c0 : a = 4096
  · rw [if_pos c0]; rfl
  rw [if_neg c0]
  by_cases c1 : a = 4100
  · rw [if_pos c1]; rfl
  rw [if_neg c1]
  by_cases c2 : a = 4104
  · rw [if_pos c2]; rfl
  rw [if_neg c2]
  by_cases c3 : a = 8224
  · rw [if_pos c3]; rfl
  rw [if_neg c3]
  by_cases c4 : 8192 ≤ a ∧ a < 8224 ∧ a % 4 = 0
  · rw [if_pos c4]; rfl
  rw [if_neg c4]
  by_cases c5 : a = 8228
  · rw [if_pos c5]; rfl
  rw [if_neg c5]
  by_cases c6 : a = 8240
  · rw [if_pos c6]; rfl
  rw [if_neg c6]
  by_cases c7 : a = 8244
  · rw [if_pos c7]; exact cor_claim s _
  rw [if_neg c7]
  by_cases c8 : a = 8232
  · rw [if_pos c8]; rfl
  rw [if_neg c8]
  by_cases c9 : a = 8248
  · rw [if_pos c9]; rfl
  rw [if_neg c9]
  by_cases c10 : a = 8252
  · rw [if_pos c10]; exact cor_claim s _
  rw [if_neg c10]
  rfl
theorem cor_set (s : RSt) (a : Nat) (v : Int) : Cor s (setR s a v).1 := by
  unfold setR
  by_cases c0 : a = 4096
  · rw [if_pos c0]; rfl
  rw [if_neg c0]
  by_cases c1 : a = 4100
  · rw [if_pos c1]; rfl
  rw [if_neg c1]
  by_cases c2 : a = 4104
  · rw [if_pos c2]; rfl
  rw [if_neg c2]
  by_cases c3 : a = 8224
  · rw [if_pos c3]; rfl
  rw [if_neg c3]
  by_cases c4 : a = 8192
  · rw [if_pos c4]; rfl
  rw [if_neg c4]
  by_cases c5 : 8192 < a ∧ a < 8224 ∧ a % 4 = 0
  · rw [if_pos c5]; rfl
  rw [if_neg c5]
  by_cases c6 : a = 8228
  · rw [if_pos c6]; rfl
  rw [if_neg c6]
  by_cases c7 : a = 8240
  · rw [if_pos c7]; rfl
  rw [if_neg c7]
  by_cases c8 : a = 8244
  · rw [if_pos c8]; exact cor_compl s _ _
  rw [if_neg c8]
  by_cases c9 : a = 8232
  · rw [if_pos c9]; rfl
  rw [if_neg c9]
  by_cases c10 : a = 8248
  · rw [if_pos c10]; rfl
  rw [if_neg c10]
  by_cases c11 : a = 8252
  · rw [if_pos c11]; exact cor_compl s _ _
  rw [if_neg c11]
  rfl
theorem Gd.dvr {s : RSt} (h : Gd s) : Gd (dvR s) := { h with dv := { h.dv with } }
theorem Gd.dev {s : RSt} (h : Gd s) (a : Nat) : Gd (devR s a).1 := (cor_dev s a).gd h (h.dv.dev a)
theorem Gd.set {s : RSt} (h : Gd s) (a : Nat) (v : Int) (hv : W32 v) : Gd (setR s a v).1 := (cor_set s a v).gd h (h.dv.set a v hv)
theorem Gd.line {s : RSt} (h : Gd s) (k : Nat) (h7 : k ≤ 7) (hi : Bool) : Gd (lineR s k hi) := (cor_line s k hi).gd h (h.dv.line k h7 hi)
theorem Gd.tick {s : RSt} (h : Gd s) : Gd (tickR s) := { h with dv := h.dv.tick }
theorem Gd.rams {s : RSt} (h : Gd s) (a w : Nat) (v : Int) : Gd { s with ram := stV s.ram a v w } := { h with dv := { h.dv with }, n4 := (by show 4 ≤ (stV s.ram a v w).length; rw [stV_len]; exact h.n4), b := stV_byt h.b a v w }

theorem read_of {s : RSt} (h : Gd s) (a : Nat) (w : Int) : readC (cOf s) a w = (cOf (readR s a w).1, (readR s a w).2) ∧ Gd (readR s a w).1 := by
  have D : devC (cOf (dvR s)) a = _ := dev_of h.dvr.dv a
  unfold readC readR
  by_cases w1 : w = 1
  · rw [if_pos w1, if_pos w1]
    by_cases ho : a + 1 ≤ s.ram.length
    · rw [if_pos (show a + 1 ≤ (cOf s).ram.length from ho), if_pos ho]
      exact ⟨rfl, h⟩
    · rw [if_neg (show ¬ a + 1 ≤ (cOf s).ram.length from ho), if_neg ho]
      exact ⟨rfl, h.dvr⟩
  by_cases w2 : w = 2
  · rw [if_neg w1, if_pos w2, if_neg w1, if_pos w2]
    by_cases ho : a + 2 ≤ s.ram.length
    · rw [if_pos (show a + 2 ≤ (cOf s).ram.length from ho), if_pos ho]
      exact ⟨rfl, h⟩
    · rw [if_neg (show ¬ a + 2 ≤ (cOf s).ram.length from ho), if_neg ho]
      exact ⟨rfl, h.dvr⟩
  by_cases w4 : w = 4
  · rw [if_neg w1, if_neg w2, if_pos w4, if_neg w1, if_neg w2, if_pos w4]
    by_cases ho : a + 4 ≤ s.ram.length
    · rw [if_pos (show a + 4 ≤ (cOf s).ram.length from ho), if_pos ho]
      exact ⟨rfl, h⟩
    · rw [if_neg (show ¬ a + 4 ≤ (cOf s).ram.length from ho), if_neg ho]
      exact ⟨D, h.dvr.dev a⟩
  · rw [if_neg w1, if_neg w2, if_neg w4, if_neg w1, if_neg w2, if_neg w4]
    exact ⟨rfl, h⟩
theorem write_of {s : RSt} (h : Gd s) (a : Nat) (w v : Int) (hv : W32 v) : writeC (cOf s) a w v = (cOf (writeR s a w v).1, (writeR s a w v).2) ∧ Gd (writeR s a w v).1 := by
  have D : setD (cOf (dvR s)) a v = _ := set_of h.dvr.dv a v
  unfold writeC writeR
  by_cases w1 : w = 1
  · rw [if_pos w1, if_pos w1]
    by_cases ho : a + 1 ≤ s.ram.length
    · rw [if_pos (show a + 1 ≤ (cOf s).ram.length from ho), if_pos ho]
      exact ⟨rfl, h.rams a 1 v⟩
    · rw [if_neg (show ¬ a + 1 ≤ (cOf s).ram.length from ho), if_neg ho]
      exact ⟨rfl, h.dvr⟩
  by_cases w2 : w = 2
  · rw [if_neg w1, if_pos w2, if_neg w1, if_pos w2]
    by_cases ho : a + 2 ≤ s.ram.length
    · rw [if_pos (show a + 2 ≤ (cOf s).ram.length from ho), if_pos ho]
      exact ⟨rfl, h.rams a 2 v⟩
    · rw [if_neg (show ¬ a + 2 ≤ (cOf s).ram.length from ho), if_neg ho]
      exact ⟨rfl, h.dvr⟩
  by_cases w4 : w = 4
  · rw [if_neg w1, if_neg w2, if_pos w4, if_neg w1, if_neg w2, if_pos w4]
    by_cases ho : a + 4 ≤ s.ram.length
    · rw [if_pos (show a + 4 ≤ (cOf s).ram.length from ho), if_pos ho]
      exact ⟨rfl, h.rams a 4 v⟩
    · rw [if_neg (show ¬ a + 4 ≤ (cOf s).ram.length from ho), if_neg ho]
      exact ⟨D, h.dvr.set a v hv⟩
  · rw [if_neg w1, if_neg w2, if_neg w4, if_neg w1, if_neg w2, if_neg w4]
    exact ⟨rfl, h⟩
end Go.Proofs.YteiideeechnekabDoor
