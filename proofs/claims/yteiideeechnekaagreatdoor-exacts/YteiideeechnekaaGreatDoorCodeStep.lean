import Derived.Test.YteiideeechnekaaGreatDoorCodeCsr
import Derived.Test.YteiideeechnekaaGreatDoorCodeExc
import Derived.Test.YteiideeechnekaaGreatDoorCodeOut
import Derived.Test.YteiideeechnekaaGreatDoorDCode
/-
  The code's interrupts: interruptible, enabledFor, foremost, vectored, interrupt.
-/
namespace Go.Proofs.YteiideeechnekaaGreatDoor
open Go.RowKit

def pendC (c : CSt) : Int := bits .and .u32 (mipC c) c.mie
def ibM (c : CSt) : Bool := if c.mode = 3 then (bits .and .u32 c.mstatus 8 != 0) else decide (c.mode < 3)
def ibS (c : CSt) : Bool := if c.mode = 1 then (bits .and .u32 c.mstatus 2 != 0) else decide (c.mode < 1)
def enM (c : CSt) : Int := if ibM c then bits .andNot .u32 (pendC c) c.mideleg else 0
def enS (c : CSt) : Int := if ibS c then bits .and .u32 (pendC c) c.mideleg else 0
def foreL (e : Int) : List Nat → Nat
  | [] => 0
  | i :: l => if isB e i then i else foreL e l
def ordP : List Nat := [11, 3, 7, 9, 1, 5]
def foreV (e : Int) : Nat := foreL e ordP
theorem foreL_lt (e : Int) (l : List Nat) (h : ∀ i ∈ l, i < 12) : foreL e l < 12 := by
  induction l with
  | nil => exact (by decide : (0 : Nat) < 12)
  | cons a l ih =>
    unfold foreL
    split
    · exact h a (by simp)
    · exact ih fun i hi => h i (by simp [hi])
theorem foreV_lt (e : Int) : foreV e < 12 := foreL_lt e ordP (by decide)
def vecC (v : Int) (i : Nat) (pc : Int) : Int := if (bits .and .u32 v 1 == 1) = true then (pc + 4 * i) % 4294967296 else pc
def tkM (c : CSt) (i : Nat) : CSt := { entM c (bits .or .u32 2147483648 i) 0 with pc := vecC c.mtvec i (bits .and .u32 c.mtvec 4294967292) }
def tkS (c : CSt) (i : Nat) : CSt := { entS c (bits .or .u32 2147483648 i) 0 with pc := vecC c.stvec i (bits .and .u32 c.stvec 4294967292) }
theorem itb_3 (W : World) (x r : Nat) (c : CSt) (h : CodeAt W x r c) : Calls Tryz.prog 105 #[.pointer (some ⟨x, 0, none⟩), .int .i64 3] W fun e W' => e = .returned (.bool (ibM c)) ∧ Below W.heap.size W W' := by
  have HF : Hid (CodeAt W x r c) := h
  have lt := h.lt
  have c0 := h.mode
  unfold ibM
  by_cases hm : c.mode = 3
  · rw [if_pos hm]
    rw [hm] at c0
    clear h hm
    go_enter Tryz.func105, Tryz.ntmps105
    go_wp2_with fail
    refine (trail_3 W).mono ?_
    rintro e w1 ⟨rfl, hb1⟩
    have c1 := fun o => (HF.out.below (hb1.alloc hb1.size o) lt.1 lt.2).mstatus
    have HB : Hid (∀ o q, Below W.heap.size W (World.drewN (w1.alloc o) q)) := fun o q => below_drawn (hb1.alloc hb1.size o) q
    clear hb1
    go_wp2_with fail
    go_quiet (fail)
    go_wp2_with fail
    go_ret
    exact ⟨rfl, HB.out _ _⟩
  · rw [if_neg hm]
    have hm' : (c.mode == 3) = false := by simpa using hm
    clear h hm
    go_enter Tryz.func105, Tryz.ntmps105
    go_wp2
    go_ret
    exact ⟨rfl, Below.refl _ _⟩
theorem enf_3 (W : World) (x r : Nat) (c : CSt) (h : CodeAt W x r c) : Calls Tryz.prog 74 #[.pointer (some ⟨x, 0, none⟩), .int .i64 3] W fun e W' => e = .returned (.int .u32 (enM c)) ∧ Below W.heap.size W W' := by
  have HF : Hid (CodeAt W x r c) := h
  have lt := h.lt
  have HI := itb_3 W x r c h
  unfold enM
  cases hb : ibM c
  · rw [hb] at HI
    clear h
    go_enter Tryz.func74, Tryz.ntmps74
    go_wp2_with fail
    refine HI.mono ?_
    rintro e w1 ⟨rfl, b1⟩
    go_wp2_with fail
    go_ret
    exact ⟨rfl, b1⟩
  · rw [hb] at HI
    clear h
    obtain ⟨pv, hpv⟩ : ∃ z, z = mipC c := ⟨_, rfl⟩
    have hpe : pendC c = bits .and .u32 pv c.mie := by rw [hpv]; rfl
    rw [hpe]
    have HM : Hid (∀ w, CodeAt w x r c → Calls Tryz.prog 73 #[.pointer (some ⟨x, 0, none⟩)] w fun e W' => e = .returned (.int .u32 pv) ∧ ∃ q, W' = w.drewN q) := fun w hw => by rw [hpv]; exact mip_any w x r c hw
    clear hpe hpv
    go_enter Tryz.func74, Tryz.ntmps74
    go_wp2_with fail
    refine HI.mono ?_
    rintro e w1 ⟨rfl, b1⟩
    have H1 : Hid (CodeAt w1 x r c) := HF.out.below b1 lt.1 lt.2
    have HB : Hid (∀ q, Below W.heap.size W (w1.drewN q)) := fun q => below_drawn b1 q
    have c1 := H1.out.mie
    have c2 := H1.out.mideleg
    have f1 := H1.out.fx
    clear b1 HI
    go_wp2_with fail
    go_quiet ((go_at_call 73; exact Calls.quiet_of (HM.out _ (H1.out.drawn _))))
    go_wp2_with fail
    go_ret
    exact ⟨rfl, HB.out _⟩
theorem itb_1 (W : World) (x r : Nat) (c : CSt) (h : CodeAt W x r c) : Calls Tryz.prog 105 #[.pointer (some ⟨x, 0, none⟩), .int .i64 1] W fun e W' => e = .returned (.bool (ibS c)) ∧ Below W.heap.size W W' := by
  have HF : Hid (CodeAt W x r c) := h
  have lt := h.lt
  have c0 := h.mode
  unfold ibS
  by_cases hm : c.mode = 1
  · rw [if_pos hm]
    rw [hm] at c0
    clear h hm
    go_enter Tryz.func105, Tryz.ntmps105
    go_wp2_with fail
    refine (trail_1 W).mono ?_
    rintro e w1 ⟨rfl, hb1⟩
    have c1 := fun o => (HF.out.below (hb1.alloc hb1.size o) lt.1 lt.2).mstatus
    have HB : Hid (∀ o q, Below W.heap.size W (World.drewN (w1.alloc o) q)) := fun o q => below_drawn (hb1.alloc hb1.size o) q
    clear hb1
    go_wp2_with fail
    go_quiet (fail)
    go_wp2_with fail
    go_ret
    exact ⟨rfl, HB.out _ _⟩
  · rw [if_neg hm]
    have hm' : (c.mode == 1) = false := by simpa using hm
    clear h hm
    go_enter Tryz.func105, Tryz.ntmps105
    go_wp2
    go_ret
    exact ⟨rfl, Below.refl _ _⟩
theorem enf_1 (W : World) (x r : Nat) (c : CSt) (h : CodeAt W x r c) : Calls Tryz.prog 74 #[.pointer (some ⟨x, 0, none⟩), .int .i64 1] W fun e W' => e = .returned (.int .u32 (enS c)) ∧ Below W.heap.size W W' := by
  have HF : Hid (CodeAt W x r c) := h
  have lt := h.lt
  have HI := itb_1 W x r c h
  unfold enS
  cases hb : ibS c
  · rw [hb] at HI
    clear h
    go_enter Tryz.func74, Tryz.ntmps74
    go_wp2_with fail
    refine HI.mono ?_
    rintro e w1 ⟨rfl, b1⟩
    go_wp2_with fail
    go_ret
    exact ⟨rfl, b1⟩
  · rw [hb] at HI
    clear h
    obtain ⟨pv, hpv⟩ : ∃ z, z = mipC c := ⟨_, rfl⟩
    have hpe : pendC c = bits .and .u32 pv c.mie := by rw [hpv]; rfl
    rw [hpe]
    have HM : Hid (∀ w, CodeAt w x r c → Calls Tryz.prog 73 #[.pointer (some ⟨x, 0, none⟩)] w fun e W' => e = .returned (.int .u32 pv) ∧ ∃ q, W' = w.drewN q) := fun w hw => by rw [hpv]; exact mip_any w x r c hw
    clear hpe hpv
    go_enter Tryz.func74, Tryz.ntmps74
    go_wp2_with fail
    refine HI.mono ?_
    rintro e w1 ⟨rfl, b1⟩
    have H1 : Hid (CodeAt w1 x r c) := HF.out.below b1 lt.1 lt.2
    have HB : Hid (∀ q, Below W.heap.size W (w1.drewN q)) := fun q => below_drawn b1 q
    have c1 := H1.out.mie
    have c2 := H1.out.mideleg
    have f1 := H1.out.fx
    clear b1 HI
    go_wp2_with fail
    go_quiet ((go_at_call 73; exact Calls.quiet_of (HM.out _ (H1.out.drawn _))))
    go_wp2_with fail
    go_ret
    exact ⟨rfl, HB.out _⟩
def precCells : List Value := precR.map (Value.int .u32)
theorem ordP_prec (k : Nat) (hk : k < 6) : precR.getD k 0 = ((ordP.getD k 0 : Nat) : Int) ∧ ordP.drop k = ordP.getD k 0 :: ordP.drop (k + 1) ∧ ordP.getD k 0 < 32 := by
  have : k = 0 ∨ k = 1 ∨ k = 2 ∨ k = 3 ∨ k = 4 ∨ k = 5 := by omega
  rcases this with rfl | rfl | rfl | rfl | rfl | rfl <;> exact ⟨rfl, rfl, by decide⟩
set_option maxHeartbeats 4000000 in
set_option maxRecDepth 100000 in
theorem fore_core (W : World) (T : T19 W) (e : Int) (i0 : Nat) (hi0 : foreV e = i0) :
    Calls Tryz.prog 75 #[.int .u32 e] W fun e' W' => e' = .returned (.int .u32 i0) ∧ W' = W := by
  have HG : Hid (W.rangeAt 0 0 precCells) := fun j v hv => by
    have hj : j < 6 := (List.getElem?_eq_some_iff.1 hv).1
    have e : v = .int .u32 (precR.getD j 0) := by
      have h2 := hv
      unfold precCells at h2
      rw [List.getElem?_map] at h2
      obtain ⟨y, hy, rfl⟩ := Option.map_eq_some_iff.1 h2
      rw [List.getD_eq_getElem?_getD, hy]
      rfl
    rw [Nat.zero_add, e]
    exact T.p j hj
  obtain ⟨d, hu, hd⟩ : ∃ d, Tryz.prog.underlying 119 = some d ∧ d.isRow = true := ⟨_, Tryz.underlying119, rfl⟩
  have H0 : Hid (foreL e (ordP.drop 0) = i0) := hi0
  clear T hi0
  go_enter Tryz.func75, Tryz.ntmps75
  go_wp2_with (refine wpList_load_mid rfl 119 _ rfl 0 0 rfl precCells d HG.out hu hd (by kernel_rfl) ?_)
  generalize hTV : Value.agg precCells.toArray = TV
  have HX : Hid (∀ k : Nat, k < 6 → ∀ w, (Instr.index 119 TV (.int .i64 k)).run Tryz.prog w = .ok (.int .u32 ((ordP.getD k 0 : Nat) : Int)) w) := by
    intro k hk
    subst hTV
    match k, hk with
    | 0, _ => exact fun _ => by kernel_rfl
    | 1, _ => exact fun _ => by kernel_rfl
    | 2, _ => exact fun _ => by kernel_rfl
    | 3, _ => exact fun _ => by kernel_rfl
    | 4, _ => exact fun _ => by kernel_rfl
    | 5, _ => exact fun _ => by kernel_rfl
    | k + 6, hk => exact absurd hk (by omega)
  clear hTV HG
  go_loopw [6] (fun i wr => ∃ k : Nat, k ≤ 6 ∧ i = .int .i64 k ∧ wr = W ∧ Hid (foreL e (ordP.drop k) = i0)) (fun i _ => 6 - (intOf i).toNat)
  case atStart => exact ⟨0, by decide, rfl, rfl, H0⟩
  case round =>
    obtain ⟨k, hk, rfl, rfl, hno⟩ := hrel
    clear H0
    by_cases hlt : k < 6
    · have hi : (k : Int) < 6 := by omega
      have ix := HX.out k hlt
      obtain ⟨_, e2, e3⟩ := ordP_prec k hlt
      have HE : Hid (foreL e (ordP.getD k 0 :: ordP.drop (k + 1)) = i0) := by unfold Hid; rw [← e2]; exact hno.out
      generalize ordP.getD k 0 = z at ix HE e3
      have z32 : (z : Int) < 32 := by omega
      clear e2 e3 hno
      cases hb : isB e z
      · have HN : Hid (foreL e (ordP.drop (k + 1)) = i0) := by
          have := HE.out
          unfold foreL at this
          rw [if_neg (by rw [hb]; decide)] at this
          exact this
        have hb' : (bits .and .u32 (e / 2 ^ z) 1 == 1) = false := hb
        clear HE hb
        go_wp2_with fail
        go_roundw
        case rel => exact ⟨k + 1, by omega, by go_num, by simp, HN⟩
        case measure => simp [intOf]; omega
      · have HN : Hid (z = i0) := by
          have := HE.out
          unfold foreL at this
          rw [if_pos hb] at this
          exact this
        have hb' : (bits .and .u32 (e / 2 ^ z) 1 == 1) = true := hb
        clear HE hb
        go_wp2_with fail
        go_ret
        exact ⟨by rw [HN.out]; rfl, rfl⟩
    · obtain rfl : k = 6 := by omega
      have HN : Hid (0 = i0) := hno.out
      clear hno
      go_wp2_with fail
      go_ret
      exact ⟨by rw [← HN.out]; rfl, rfl⟩
theorem vec_3 (W : World) (x r : Nat) (c : CSt) (h : CodeAt W x r c) : Calls Tryz.prog 77 #[.pointer (some ⟨x, 0, none⟩), .int .i64 3] W fun e W' => e = .returned (.bool (bits .and .u32 c.mtvec 1 == 1)) ∧ W' = W := by
  have c1 : W.cell? ⟨x, 45, none⟩ = some (.int .u32 c.mtvec) := h.mtvec
  clear h
  go_enter Tryz.func77, Tryz.ntmps77
  go_wp2_with (go_at_call 106; refine (sideOf_3 _ x).mono ?_; rintro e w' ⟨rfl, hw⟩; rw [hw]; clear hw w')
  go_ret
  exact ⟨rfl, rfl⟩
theorem vec_1 (W : World) (x r : Nat) (c : CSt) (h : CodeAt W x r c) : Calls Tryz.prog 77 #[.pointer (some ⟨x, 0, none⟩), .int .i64 1] W fun e W' => e = .returned (.bool (bits .and .u32 c.stvec 1 == 1)) ∧ W' = W := by
  have c1 : W.cell? ⟨x, 40, none⟩ = some (.int .u32 c.stvec) := h.stvec
  clear h
  go_enter Tryz.func77, Tryz.ntmps77
  go_wp2_with (go_at_call 106; refine (sideOf_1 _ x).mono ?_; rintro e w' ⟨rfl, hw⟩; rw [hw]; clear hw w')
  go_ret
  exact ⟨rfl, rfl⟩
theorem int_no (W : World) (x r : Nat) (c : CSt) (h : CodeAt W x r c) (hM : enM c = 0) (hS : enS c = 0) : Calls Tryz.prog 37 #[.pointer (some ⟨x, 0, none⟩)] W fun e W' => e = .returned (.bool false) ∧ Below W.heap.size W W' := by
  have HM := enf_3 W x r c h
  rw [hM] at HM
  have HS : Hid (∀ w, Below W.heap.size W w → Calls Tryz.prog 74 #[.pointer (some ⟨x, 0, none⟩), .int .i64 1] w fun e W' => e = .returned (.int .u32 0) ∧ Below W.heap.size W W') := fun w hb => by
    have := enf_1 w x r c (h.below hb h.lt.1 h.lt.2)
    rw [hS] at this
    refine this.mono ?_
    rintro e w1 ⟨rfl, b1⟩
    exact ⟨rfl, hb.trans (b1.mono hb.size)⟩
  clear h hM hS
  go_enter Tryz.func37, Tryz.ntmps37
  go_wp2_with fail
  refine HM.mono ?_
  rintro e w1 ⟨rfl, b1⟩
  go_wp2_with fail
  refine (HS.out _ b1).mono ?_
  rintro e w2 ⟨rfl, b2⟩
  go_wp2_with fail
  go_ret
  exact ⟨rfl, b2⟩
set_option maxHeartbeats 1000000 in
theorem int_M (W : World) (x r : Nat) (c : CSt) (h : CodeAt W x r c) (A : x ≠ r) (T : T19 W) (m0 : 0 ≤ c.mode) (m3 : c.mode ≤ 3) (he : enM c ≠ 0) (i : Nat) (hi0 : foreV (enM c) = i) :
    Calls Tryz.prog 37 #[.pointer (some ⟨x, 0, none⟩)] W fun e W' => e = .returned (.bool true) ∧ CodeAt W' x r (tkM c i) ∧ Offs [x, r] W W' := by
  have HF : Hid (CodeAt W x r c) := h
  have HT : Hid (T19 W) := T
  have lt := h.lt
  obtain ⟨ev, hev⟩ : ∃ ev, ev = enM c := ⟨_, rfl⟩
  have hi : foreV ev = i := by rw [hev]; exact hi0
  have i12 : (i : Int) < 12 := by have := foreV_lt ev; omega
  have HM := enf_3 W x r c h
  have hee : (ev == 0) = false := by rw [hev]; simpa using he
  rw [← hev] at HM
  have HV : Hid (∀ w, CodeAt w x r (entM c (bits .or .u32 2147483648 i) 0) → Calls Tryz.prog 77 #[.pointer (some ⟨x, 0, none⟩), .int .i64 3] w fun e W' => e = .returned (.bool (bits .and .u32 c.mtvec 1 == 1)) ∧ W' = w) := fun w hw => vec_3 w x r (entM c (bits .or .u32 2147483648 i) 0) hw
  clear h T he hev hi0
  by_cases hv : (bits .and .u32 c.mtvec 1 == 1) = true
  · have hv' : (bits .and .u32 c.mtvec 1 == 1) = true := by simpa using hv
    have HE : Hid (vecC c.mtvec i (bits .and .u32 c.mtvec 4294967292) = (bits .and .u32 c.mtvec 4294967292 + 4 * i) % 4294967296) := by unfold Hid vecC; rw [if_pos hv]
    rw [hv'] at HV
    clear hv hv'
    go_enter Tryz.func37, Tryz.ntmps37
    go_wp2_with fail
    refine HM.mono ?_
    rintro e w2 ⟨rfl, b2⟩
    have H2 : Hid (CodeAt w2 x r c) := HF.out.below b2 lt.1 lt.2
    have O2 : Hid (Offs [x, r] W w2) := Offs.of_below b2
    have T2 : Hid (T19 w2) := HT.out.below b2
    clear b2 HM
    go_wp2_with fail
    refine (fore_core _ T2.out ev i hi).mono ?_
    rintro e w3 ⟨rfl, hw3⟩
    rw [hw3]
    clear hw3 w3
    go_wp2_with fail
    refine (enter_3 _ x r c H2.out A m0 m3 _ _).mono ?_
    rintro e w4 ⟨rfl, h4, o4⟩
    have H4 : Hid (CodeAt w4 x r (entM c (bits .or .u32 2147483648 i) 0)) := h4
    have O4 : Hid (Offs [x, r] W w4) := O2.out.trans o4
    clear h4 o4
    go_wp2_with fail
    refine (HV.out _ H4.out).mono ?_
    rintro e w5 ⟨rfl, hw5⟩
    rw [hw5]
    clear hw5 w5
    have p1 : w4.cell? ⟨x, 32, none⟩ = some (.int .u32 (bits .and .u32 c.mtvec 4294967292)) := H4.out.pc
    have f1 := H4.out.fx
    go_wp2
    go_ret
    refine ⟨rfl, ?_, ?_⟩
    · unfold tkM
      rw [HE.out]
      exact H4.out.put_pc A _
    · exact O4.out.put (by simp) _
  · have hv' : (bits .and .u32 c.mtvec 1 == 1) = false := by simpa using hv
    have HE : Hid (vecC c.mtvec i (bits .and .u32 c.mtvec 4294967292) = bits .and .u32 c.mtvec 4294967292) := by unfold Hid vecC; rw [if_neg hv]
    rw [hv'] at HV
    clear hv hv'
    go_enter Tryz.func37, Tryz.ntmps37
    go_wp2_with fail
    refine HM.mono ?_
    rintro e w2 ⟨rfl, b2⟩
    have H2 : Hid (CodeAt w2 x r c) := HF.out.below b2 lt.1 lt.2
    have O2 : Hid (Offs [x, r] W w2) := Offs.of_below b2
    have T2 : Hid (T19 w2) := HT.out.below b2
    clear b2 HM
    go_wp2_with fail
    refine (fore_core _ T2.out ev i hi).mono ?_
    rintro e w3 ⟨rfl, hw3⟩
    rw [hw3]
    clear hw3 w3
    go_wp2_with fail
    refine (enter_3 _ x r c H2.out A m0 m3 _ _).mono ?_
    rintro e w4 ⟨rfl, h4, o4⟩
    have H4 : Hid (CodeAt w4 x r (entM c (bits .or .u32 2147483648 i) 0)) := h4
    have O4 : Hid (Offs [x, r] W w4) := O2.out.trans o4
    clear h4 o4
    go_wp2_with fail
    refine (HV.out _ H4.out).mono ?_
    rintro e w5 ⟨rfl, hw5⟩
    rw [hw5]
    clear hw5 w5
    go_wp2
    go_ret
    refine ⟨rfl, ?_, O4.out⟩
    unfold tkM
    rw [HE.out]
    exact H4.out
set_option maxHeartbeats 1000000 in
theorem int_S (W : World) (x r : Nat) (c : CSt) (h : CodeAt W x r c) (A : x ≠ r) (T : T19 W) (m0 : 0 ≤ c.mode) (m3 : c.mode ≤ 3) (hM : enM c = 0) (he : enS c ≠ 0) (i : Nat) (hi0 : foreV (enS c) = i) :
    Calls Tryz.prog 37 #[.pointer (some ⟨x, 0, none⟩)] W fun e W' => e = .returned (.bool true) ∧ CodeAt W' x r (tkS c i) ∧ Offs [x, r] W W' := by
  have HF : Hid (CodeAt W x r c) := h
  have HT : Hid (T19 W) := T
  have lt := h.lt
  obtain ⟨ev, hev⟩ : ∃ ev, ev = enS c := ⟨_, rfl⟩
  have hi : foreV ev = i := by rw [hev]; exact hi0
  have i12 : (i : Int) < 12 := by have := foreV_lt ev; omega
  have HM := enf_3 W x r c h
  rw [hM] at HM
  have hee : (ev == 0) = false := by rw [hev]; simpa using he
  have HS : Hid (∀ w, Below W.heap.size W w → Calls Tryz.prog 74 #[.pointer (some ⟨x, 0, none⟩), .int .i64 1] w fun e W' => e = .returned (.int .u32 ev) ∧ Below W.heap.size W W') := fun w hb => by
    have := enf_1 w x r c (h.below hb h.lt.1 h.lt.2)
    rw [← hev] at this
    refine this.mono ?_
    rintro e w1 ⟨rfl, b1⟩
    exact ⟨rfl, hb.trans (b1.mono hb.size)⟩
  have HV : Hid (∀ w, CodeAt w x r (entS c (bits .or .u32 2147483648 i) 0) → Calls Tryz.prog 77 #[.pointer (some ⟨x, 0, none⟩), .int .i64 1] w fun e W' => e = .returned (.bool (bits .and .u32 c.stvec 1 == 1)) ∧ W' = w) := fun w hw => vec_1 w x r (entS c (bits .or .u32 2147483648 i) 0) hw
  clear h T he hev hi0 hM
  by_cases hv : (bits .and .u32 c.stvec 1 == 1) = true
  · have hv' : (bits .and .u32 c.stvec 1 == 1) = true := by simpa using hv
    have HE : Hid (vecC c.stvec i (bits .and .u32 c.stvec 4294967292) = (bits .and .u32 c.stvec 4294967292 + 4 * i) % 4294967296) := by unfold Hid vecC; rw [if_pos hv]
    rw [hv'] at HV
    clear hv hv'
    go_enter Tryz.func37, Tryz.ntmps37
    go_wp2_with fail
    refine HM.mono ?_
    rintro e w1 ⟨rfl, b1⟩
    go_wp2_with fail
    refine (HS.out _ b1).mono ?_
    rintro e w2 ⟨rfl, b2⟩
    clear b1 HS
    have H2 : Hid (CodeAt w2 x r c) := HF.out.below b2 lt.1 lt.2
    have O2 : Hid (Offs [x, r] W w2) := Offs.of_below b2
    have T2 : Hid (T19 w2) := HT.out.below b2
    clear b2 HM
    go_wp2_with fail
    refine (fore_core _ T2.out ev i hi).mono ?_
    rintro e w3 ⟨rfl, hw3⟩
    rw [hw3]
    clear hw3 w3
    go_wp2_with fail
    refine (enter_1 _ x r c H2.out A m0 m3 _ _).mono ?_
    rintro e w4 ⟨rfl, h4, o4⟩
    have H4 : Hid (CodeAt w4 x r (entS c (bits .or .u32 2147483648 i) 0)) := h4
    have O4 : Hid (Offs [x, r] W w4) := O2.out.trans o4
    clear h4 o4
    go_wp2_with fail
    refine (HV.out _ H4.out).mono ?_
    rintro e w5 ⟨rfl, hw5⟩
    rw [hw5]
    clear hw5 w5
    have p1 : w4.cell? ⟨x, 32, none⟩ = some (.int .u32 (bits .and .u32 c.stvec 4294967292)) := H4.out.pc
    have f1 := H4.out.fx
    go_wp2
    go_ret
    refine ⟨rfl, ?_, ?_⟩
    · unfold tkS
      rw [HE.out]
      exact H4.out.put_pc A _
    · exact O4.out.put (by simp) _
  · have hv' : (bits .and .u32 c.stvec 1 == 1) = false := by simpa using hv
    have HE : Hid (vecC c.stvec i (bits .and .u32 c.stvec 4294967292) = bits .and .u32 c.stvec 4294967292) := by unfold Hid vecC; rw [if_neg hv]
    rw [hv'] at HV
    clear hv hv'
    go_enter Tryz.func37, Tryz.ntmps37
    go_wp2_with fail
    refine HM.mono ?_
    rintro e w1 ⟨rfl, b1⟩
    go_wp2_with fail
    refine (HS.out _ b1).mono ?_
    rintro e w2 ⟨rfl, b2⟩
    clear b1 HS
    have H2 : Hid (CodeAt w2 x r c) := HF.out.below b2 lt.1 lt.2
    have O2 : Hid (Offs [x, r] W w2) := Offs.of_below b2
    have T2 : Hid (T19 w2) := HT.out.below b2
    clear b2 HM
    go_wp2_with fail
    refine (fore_core _ T2.out ev i hi).mono ?_
    rintro e w3 ⟨rfl, hw3⟩
    rw [hw3]
    clear hw3 w3
    go_wp2_with fail
    refine (enter_1 _ x r c H2.out A m0 m3 _ _).mono ?_
    rintro e w4 ⟨rfl, h4, o4⟩
    have H4 : Hid (CodeAt w4 x r (entS c (bits .or .u32 2147483648 i) 0)) := h4
    have O4 : Hid (Offs [x, r] W w4) := O2.out.trans o4
    clear h4 o4
    go_wp2_with fail
    refine (HV.out _ H4.out).mono ?_
    rintro e w5 ⟨rfl, hw5⟩
    rw [hw5]
    clear hw5 w5
    go_wp2
    go_ret
    refine ⟨rfl, ?_, O4.out⟩
    unfold tkS
    rw [HE.out]
    exact H4.out
end Go.Proofs.YteiideeechnekaaGreatDoor

/-
  The code's Step: asleep, awake or woken; interrupts; the fetch fails, no instruction, an instruction.
-/
namespace Go.Proofs.YteiideeechnekaaGreatDoor
open Go.RowKit

theorem word_is (w : Int) (op rd r1 r2 imm : Int) (h0 : 0 ≤ w) (h1 : w < 4294967296) (hd : D.dec w = ⟨op, rd, r1, r2, imm⟩) (W : World) (T : D.Tabs W) :
    Calls Tryz.prog 80 #[.int .u32 w] W fun e W' => e = .returned (.agg #[.int .i64 op, .int .i64 rd, .int .i64 r1, .int .i64 r2, .int .u32 imm]) ∧ Below W.heap.size W W' := by
  have := D.word_any w W h0 h1 T
  rw [hd] at this
  exact this
theorem tabs_drawn {W : World} (T : D.Tabs W) (q : Nat) : D.Tabs (W.drewN q) := ⟨T.size, T.c0, T.c1, T.c2, T.c3, T.c4, T.c5, T.c6, T.c7, T.c8, T.c9, T.c10⟩

theorem rouse_awake (W : World) (x r : Nat) (c : CSt) (h : CodeAt W x r c) (ha : c.asleep = false) : Calls Tryz.prog 36 #[.pointer (some ⟨x, 0, none⟩)] W fun e W' => e = .returned (.bool true) ∧ ∃ q, W' = W.drewN q := by
  have c1 := h.asleep
  rw [ha] at c1
  clear h ha
  go_enter Tryz.func36, Tryz.ntmps36
  go_wp2_with fail
  go_quiet (fail)
  go_wp2_with fail
  go_ret
  exact ⟨rfl, _, rfl⟩

theorem inRam_out (W : World) (x r : Nat) (s : CSt) (h : CodeAt W x r s) (a : Nat) (h32 : a < 4294967296) (ha : ¬ a + 4 ≤ s.ram.length) :
    Calls Tryz.prog 108 #[.pointer (some ⟨x, 0, none⟩), .int .u32 a, .int .i64 4] W fun e W' => e = .returned (.bool false) ∧ ∃ q, W' = W.drewN q := by
  have c1 := h.ram
  have hl := h.bytes.2.1
  have ha' : ¬ ((a : Int) + 4 ≤ s.ram.length) := by omega
  have h32' : (a : Int) < 4294967296 := by omega
  clear h ha
  go_enter Tryz.func108, Tryz.ntmps108
  go_wp2
  go_ret
  exact ⟨rfl, 0, rfl⟩
theorem loadRam_out (W : World) (x r : Nat) (s : CSt) (h : CodeAt W x r s) (a : Nat) (h32 : a < 4294967296) (ha : ¬ a + 4 ≤ s.ram.length) :
    Calls Tryz.prog 78 #[.pointer (some ⟨x, 0, none⟩), .int .u32 a, .int .i64 4] W fun e W' => e = .returned (.tuple #[.int .u32 0, .bool false]) ∧ ∃ q, W' = W.drewN q := by
  have HF : Hid (CodeAt W x r s) := h
  clear h
  go_enter Tryz.func78, Tryz.ntmps78
  go_wp2_with (go_at_call 108; refine (inRam_out _ x r s HF.out a h32 ha).mono ?_; rintro e w' ⟨rfl, q, rfl⟩)
  go_ret2
  exact ⟨rfl, _, rfl⟩

set_option maxHeartbeats 1000000 in
theorem next_fault (W : World) (x r : Nat) (c : CSt) (h : CodeAt W x r c) (A : x ≠ r) (m0 : 0 ≤ c.mode) (m3 : c.mode ≤ 3) (n : Nat) (hn : c.pc = n) (h32 : n < 4294967296) (ho : ¬ n + 4 ≤ c.ram.length) :
    Calls Tryz.prog 38 #[.pointer (some ⟨x, 0, none⟩)] W (CP W x r (excC c 1 c.pc)) := by
  have HF : Hid (CodeAt W x r c) := h
  have c1 := h.pc
  rw [hn] at c1 ⊢
  clear h hn
  go_enter Tryz.func38, Tryz.ntmps38
  go_wp2_with (first | (go_at_call 78; refine (loadRam_out _ x r c HF.out n h32 ho).mono ?_; rintro e w2 ⟨rfl, q1, rfl⟩) | (go_at_call 79; refine (exc_any _ x r c (HF.out.drawn _) A m0 m3 1 (by decide) _).mono ?_; rintro e w3 ⟨rfl, h3, o3⟩))
  exact bodyPost_ret (v := .tuple #[]) (by simp [results, Tryz.results38, go_sem]) rfl ⟨rfl, h3, ((Offs.refl _ _).drawn _).trans o3⟩

structure FStep (W W' : World) (x r : Nat) (c : CSt) : Prop where
  c : CodeAt W' x r c
  o : Offs [x, r] W W'
  b : Below W.heap.size W W'

set_option maxHeartbeats 1000000 in
theorem next_do (W : World) (x r : Nat) (c : CSt) (h : CodeAt W x r c) (T : D.Tabs W) (n : Nat) (hn : c.pc = n) (ho : n + 4 ≤ c.ram.length) (op rd r1 r2 imm : Int) (hd : D.dec (leV c.ram n 4) = ⟨op, rd, r1, r2, imm⟩) (h0 : (op == 0) = false) (st : CSt)
    (DO : ∀ W', CodeAt W' x r c → Below W.heap.size W W' → Calls Tryz.prog 81 #[.pointer (some ⟨x, 0, none⟩), .agg #[.int .i64 op, .int .i64 rd, .int .i64 r1, .int .i64 r2, .int .u32 imm], .int .u32 (leV c.ram n 4)] W' (CP W' x r st)) :
    Calls Tryz.prog 38 #[.pointer (some ⟨x, 0, none⟩)] W (CP W x r st) := by
  have HD : Hid (∀ W', CodeAt W' x r c → Below W.heap.size W W' → Calls Tryz.prog 81 #[.pointer (some ⟨x, 0, none⟩), .agg #[.int .i64 op, .int .i64 rd, .int .i64 r1, .int .i64 r2, .int .u32 imm], .int .u32 (leV c.ram n 4)] W' (CP W' x r st)) := DO
  clear DO
  have HF : Hid (CodeAt W x r c) := h
  have c1 := h.pc
  rw [hn] at c1
  have lv := (leV_bd (show Byt c.ram from h.bytes.2.2) n).2.2
  have HW : Hid (∀ q, Calls Tryz.prog 80 #[.int .u32 (leV c.ram n 4)] (W.drewN q) fun e W' => e = .returned (.agg #[.int .i64 op, .int .i64 rd, .int .i64 r1, .int .i64 r2, .int .u32 imm]) ∧ Below (W.drewN q).heap.size (W.drewN q) W') := fun q => word_is _ op rd r1 r2 imm lv.1 lv.2 hd _ (tabs_drawn T q)
  have hl := h.lt
  clear h T hd hn
  go_enter Tryz.func38, Tryz.ntmps38
  go_wp2_with (first | (go_at_call 78; refine (loadRam_4 _ x r c HF.out n ho).mono ?_; rintro e w1 ⟨rfl, q1, rfl⟩))
  refine (HW.out _).mono ?_
  rintro e w2 ⟨rfl, hb⟩
  have B2 : Below W.heap.size W w2 := (below_drawn (Below.refl _ _) q1).trans hb
  have F3 : Hid (∀ o, FStep W (w2.alloc o) x r c) := fun o => by
    have B3 := B2.alloc B2.size o
    exact ⟨HF.out.below B3 hl.1 hl.2, Offs.of_below B3, B3⟩
  clear hb B2
  go_wp2_with fail
  refine (HD.out _ (F3.out _).c (F3.out _).b).mono ?_
  rintro e w3 ⟨rfl, h3, o3⟩
  go_wp2_with fail
  go_end0
  exact ⟨rfl, h3, (F3.out _).o.trans o3⟩
set_option maxHeartbeats 1000000 in
theorem next_none (W : World) (x r : Nat) (c : CSt) (h : CodeAt W x r c) (A : x ≠ r) (T : D.Tabs W) (m0 : 0 ≤ c.mode) (m3 : c.mode ≤ 3) (n : Nat) (hn : c.pc = n) (ho : n + 4 ≤ c.ram.length) (rd r1 r2 imm : Int) (hd : D.dec (leV c.ram n 4) = ⟨0, rd, r1, r2, imm⟩) :
    Calls Tryz.prog 38 #[.pointer (some ⟨x, 0, none⟩)] W (CP W x r (excC c 2 (leV c.ram n 4))) := by
  have HF : Hid (CodeAt W x r c) := h
  have c1 := h.pc
  rw [hn] at c1
  have lv := (leV_bd (show Byt c.ram from h.bytes.2.2) n).2.2
  have HW : Hid (∀ q, Calls Tryz.prog 80 #[.int .u32 (leV c.ram n 4)] (W.drewN q) fun e W' => e = .returned (.agg #[.int .i64 0, .int .i64 rd, .int .i64 r1, .int .i64 r2, .int .u32 imm]) ∧ Below (W.drewN q).heap.size (W.drewN q) W') := fun q => word_is _ 0 rd r1 r2 imm lv.1 lv.2 hd _ (tabs_drawn T q)
  have hl := h.lt
  clear h T hd hn
  go_enter Tryz.func38, Tryz.ntmps38
  go_wp2_with (first | (go_at_call 78; refine (loadRam_4 _ x r c HF.out n ho).mono ?_; rintro e w1 ⟨rfl, q1, rfl⟩))
  refine (HW.out _).mono ?_
  rintro e w2 ⟨rfl, hb⟩
  have B2 : Below W.heap.size W w2 := (below_drawn (Below.refl _ _) q1).trans hb
  have F3 : Hid (∀ o, FStep W (w2.alloc o) x r c) := fun o => by
    have B3 := B2.alloc B2.size o
    exact ⟨HF.out.below B3 hl.1 hl.2, Offs.of_below B3, B3⟩
  clear hb B2
  go_wp2_with fail
  refine (exc_any _ x r c (F3.out _).c A m0 m3 2 (by decide) _).mono ?_
  rintro e w3 ⟨rfl, h3, o3⟩
  go_wp2_with fail
  exact bodyPost_ret (v := .tuple #[]) (by simp [results, Tryz.results38, go_sem]) rfl ⟨rfl, h3, (F3.out _).o.trans o3⟩
def wakeC (c : CSt) : CSt := { c with asleep := false }
/-- Awake, or woken now. -/
def Up (c d : CSt) : Prop := c.asleep = false ∧ d = c ∨ c.asleep = true ∧ pendC c ≠ 0 ∧ d = wakeC c
theorem rouse_sleep (W : World) (x r : Nat) (c : CSt) (h : CodeAt W x r c) (ha : c.asleep = true) (hp : pendC c = 0) : Calls Tryz.prog 36 #[.pointer (some ⟨x, 0, none⟩)] W fun e W' => e = .returned (.bool false) ∧ ∃ q, W' = W.drewN q := by
  have HF : Hid (CodeAt W x r c) := h
  have c1 := h.asleep
  rw [ha] at c1
  have c2 := h.mie
  have f1 := h.fx
  obtain ⟨pv, hpv⟩ : ∃ z, z = mipC c := ⟨_, rfl⟩
  have hpe : pendC c = bits .and .u32 pv c.mie := by rw [hpv]; rfl
  rw [hpe] at hp
  have HM : Hid (∀ w, CodeAt w x r c → Calls Tryz.prog 73 #[.pointer (some ⟨x, 0, none⟩)] w fun e W' => e = .returned (.int .u32 pv) ∧ ∃ q, W' = w.drewN q) := fun w hw => by rw [hpv]; exact mip_any w x r c hw
  have hp' : (bits .and .u32 pv c.mie != 0) = false := by simpa using hp
  clear h ha hpe hpv hp
  go_enter Tryz.func36, Tryz.ntmps36
  go_wp2_with fail
  go_quiet ((go_at_call 73; exact Calls.quiet_of (HM.out _ (HF.out.drawn _))))
  go_wp2_with fail
  go_ret
  exact ⟨rfl, _, rfl⟩
theorem rouse_wake (W : World) (x r : Nat) (c : CSt) (h : CodeAt W x r c) (ha : c.asleep = true) (hp : pendC c ≠ 0) : Calls Tryz.prog 36 #[.pointer (some ⟨x, 0, none⟩)] W fun e W' => e = .returned (.bool true) ∧ ∃ q, W' = (W.drewN q).setCell ⟨x, 34, none⟩ (.bool false) := by
  have HF : Hid (CodeAt W x r c) := h
  have c1 := h.asleep
  rw [ha] at c1
  have c2 := h.mie
  have f1 := h.fx
  obtain ⟨pv, hpv⟩ : ∃ z, z = mipC c := ⟨_, rfl⟩
  have hpe : pendC c = bits .and .u32 pv c.mie := by rw [hpv]; rfl
  rw [hpe] at hp
  have HM : Hid (∀ w, CodeAt w x r c → Calls Tryz.prog 73 #[.pointer (some ⟨x, 0, none⟩)] w fun e W' => e = .returned (.int .u32 pv) ∧ ∃ q, W' = w.drewN q) := fun w hw => by rw [hpv]; exact mip_any w x r c hw
  have hp' : (bits .and .u32 pv c.mie != 0) = true := by simpa using hp
  clear h ha hpe hpv hp
  go_enter Tryz.func36, Tryz.ntmps36
  go_wp2_with fail
  go_quiet ((go_at_call 73; exact Calls.quiet_of (HM.out _ (HF.out.drawn _))))
  go_wp2_with fail
  go_ret
  exact ⟨rfl, _, rfl⟩
theorem tabs_34 {W : World} (T : D.Tabs W) (x : Nat) (v : Value) : D.Tabs (W.setCell ⟨x, 34, none⟩ v) := by
  have k : ∀ b f, f < 8 → (W.setCell ⟨x, 34, none⟩ v).cell? ⟨b, f, none⟩ = W.cell? ⟨b, f, none⟩ := fun b f hf => World.cell?_setCell_other _ _ _ _ (by intro e; cases e; omega)
  exact ⟨(by have := T.size; simpa using this), fun f hf => (k _ f hf).trans (T.c0 f hf), fun f hf => (k _ f hf).trans (T.c1 f hf), fun f hf => (k _ f hf).trans (T.c2 f hf), fun f hf => (k _ f hf).trans (T.c3 f hf), fun f hf => (k _ f hf).trans (T.c4 f hf), fun f hf => (k _ f hf).trans (T.c5 f hf), fun f hf => (k _ f hf).trans (T.c6 f hf), fun f hf => (k _ f hf).trans (T.c7 f hf), fun f hf => (k _ f hf).trans (T.c8 f hf), fun f hf => (k _ f hf).trans (T.c9 f hf), fun f hf => (k _ f hf).trans (T.c10 f hf)⟩
theorem t19_34 {W : World} (T : T19 W) (x : Nat) (v : Value) : T19 (W.setCell ⟨x, 34, none⟩ v) := by
  have k : ∀ b f, f < 34 → (W.setCell ⟨x, 34, none⟩ v).cell? ⟨b, f, none⟩ = W.cell? ⟨b, f, none⟩ := fun b f hf => World.cell?_setCell_other _ _ _ _ (by intro e; cases e; omega)
  exact ⟨(by have := T.s; simpa using this), fun j hj => (k _ j (by omega)).trans (T.n j hj), fun j hj => (k _ j (by omega)).trans (T.p j hj)⟩
structure Woke (W w : World) (x r : Nat) (d : CSt) : Prop where
  c : CodeAt w x r d
  o : Offs [x, r] W w
  t : D.Tabs w
  n : T19 w
theorem rouse_up (W : World) (x r : Nat) (c : CSt) (h : CodeAt W x r c) (A : x ≠ r) (T : D.Tabs W) (T9 : T19 W) (d : CSt) (U : Up c d) : Calls Tryz.prog 36 #[.pointer (some ⟨x, 0, none⟩)] W fun e W' => e = .returned (.bool true) ∧ Woke W W' x r d := by
  rcases U with ⟨ha, rfl⟩ | ⟨ha, hp, rfl⟩
  · refine (rouse_awake W x r _ h ha).mono ?_
    rintro e w1 ⟨rfl, q, rfl⟩
    exact ⟨rfl, h.drawn q, (Offs.refl _ _).drawn q, tabs_drawn T q, T9.of T9.s fun _ _ => rfl⟩
  · refine (rouse_wake W x r _ h ha hp).mono ?_
    rintro e w1 ⟨rfl, q, rfl⟩
    exact ⟨rfl, (h.drawn q).put_asleep A _, ((Offs.refl _ _).drawn q).put (by simp) _, tabs_34 (tabs_drawn T q) x _, t19_34 (T19.of (W' := W.drewN q) T9 T9.s fun _ _ => rfl) x _⟩
theorem cstep_sleep (W : World) (x r : Nat) (c : CSt) (h : CodeAt W x r c) (ha : c.asleep = true) (hp : pendC c = 0) : Calls Tryz.prog 14 #[.pointer (some ⟨x, 0, none⟩)] W (CP W x r (c)) := by
  have HF : Hid (CodeAt W x r c) := h
  have HR := rouse_sleep W x r c h ha hp
  clear h ha hp
  go_enter Tryz.func14, Tryz.ntmps14
  go_wp2_with fail
  refine HR.mono ?_
  rintro e w1 ⟨rfl, q, rfl⟩
  go_wp2_with fail
  exact bodyPost_ret (v := .tuple #[]) (by simp [results, Tryz.results14, go_sem]) rfl ⟨rfl, HF.out.drawn _, (Offs.refl _ _).drawn _⟩
theorem cstep_M (W : World) (x r : Nat) (c : CSt) (h : CodeAt W x r c) (A : x ≠ r) (T : D.Tabs W) (T9 : T19 W) (d : CSt) (U : Up c d) (m0 : 0 ≤ d.mode) (m3 : d.mode ≤ 3) (he : enM d ≠ 0) (i : Nat) (hi : foreV (enM d) = i) : Calls Tryz.prog 14 #[.pointer (some ⟨x, 0, none⟩)] W (CP W x r (tkM d i)) := by
  have HR := rouse_up W x r c h A T T9 d U
  have HI : Hid (∀ w, Woke W w x r d → Calls Tryz.prog 37 #[.pointer (some ⟨x, 0, none⟩)] w fun e W' => e = .returned (.bool true) ∧ CodeAt W' x r (tkM d i) ∧ Offs [x, r] w W') := fun w h => int_M w x r d h.c A h.n m0 m3 he i hi
  clear h U he
  go_enter Tryz.func14, Tryz.ntmps14
  go_wp2_with fail
  refine HR.mono ?_
  rintro e w1 ⟨rfl, h1⟩
  clear HR
  go_wp2_with fail
  refine (HI.out _ h1).mono ?_
  rintro e w2 ⟨rfl, h2, o2⟩
  go_wp2_with fail
  exact bodyPost_ret (v := .tuple #[]) (by simp [results, Tryz.results14, go_sem]) rfl ⟨rfl, h2, h1.o.trans o2⟩
theorem cstep_S (W : World) (x r : Nat) (c : CSt) (h : CodeAt W x r c) (A : x ≠ r) (T : D.Tabs W) (T9 : T19 W) (d : CSt) (U : Up c d) (m0 : 0 ≤ d.mode) (m3 : d.mode ≤ 3) (hM : enM d = 0) (he : enS d ≠ 0) (i : Nat) (hi : foreV (enS d) = i) : Calls Tryz.prog 14 #[.pointer (some ⟨x, 0, none⟩)] W (CP W x r (tkS d i)) := by
  have HR := rouse_up W x r c h A T T9 d U
  have HI : Hid (∀ w, Woke W w x r d → Calls Tryz.prog 37 #[.pointer (some ⟨x, 0, none⟩)] w fun e W' => e = .returned (.bool true) ∧ CodeAt W' x r (tkS d i) ∧ Offs [x, r] w W') := fun w h => int_S w x r d h.c A h.n m0 m3 hM he i hi
  clear h U he hM
  go_enter Tryz.func14, Tryz.ntmps14
  go_wp2_with fail
  refine HR.mono ?_
  rintro e w1 ⟨rfl, h1⟩
  clear HR
  go_wp2_with fail
  refine (HI.out _ h1).mono ?_
  rintro e w2 ⟨rfl, h2, o2⟩
  go_wp2_with fail
  exact bodyPost_ret (v := .tuple #[]) (by simp [results, Tryz.results14, go_sem]) rfl ⟨rfl, h2, h1.o.trans o2⟩
def CNext (c c' : CSt) : Prop := ∀ (W : World) (x r : Nat), CodeAt W x r c → x ≠ r → D.Tabs W → T19 W → Calls Tryz.prog 38 #[.pointer (some ⟨x, 0, none⟩)] W fun e W' => e = .returned (.tuple #[]) ∧ CodeAt W' x r c' ∧ Offs [x, r] W W'
def CStep (c c' : CSt) : Prop := ∀ (W : World) (x r : Nat), CodeAt W x r c → x ≠ r → D.Tabs W → T19 W → Calls Tryz.prog 14 #[.pointer (some ⟨x, 0, none⟩)] W fun e W' => e = .returned (.tuple #[]) ∧ CodeAt W' x r (c') ∧ Offs [x, r] W W'
theorem cstep_next {c d st : CSt} (U : Up c d) (hM : enM d = 0) (hS : enS d = 0) (NX : CNext d st) : CStep c st := by
  intro W x r h A T T9
  have HR := rouse_up W x r c h A T T9 d U
  have HI : Hid (∀ w, Woke W w x r d → Calls Tryz.prog 37 #[.pointer (some ⟨x, 0, none⟩)] w fun e W' => e = .returned (.bool false) ∧ Woke W W' x r d) := fun w h => by
    refine (int_no w x r d h.c hM hS).mono ?_
    rintro e w1 ⟨rfl, hb⟩
    exact ⟨rfl, h.c.below hb h.c.lt.1 h.c.lt.2, h.o.trans (Offs.of_below hb), h.t.below h.t.size hb, h.n.below hb⟩
  have HN : Hid (∀ w, Woke W w x r d → Calls Tryz.prog 38 #[.pointer (some ⟨x, 0, none⟩)] w (CP w x r st)) := fun w h => NX w x r h.c A h.t h.n
  clear h U hM hS NX
  go_enter Tryz.func14, Tryz.ntmps14
  go_wp2_with fail
  refine HR.mono ?_
  rintro e w1 ⟨rfl, h1⟩
  clear HR
  go_wp2_with fail
  refine (HI.out _ h1).mono ?_
  rintro e w2 ⟨rfl, h2⟩
  go_wp2_with fail
  refine (HN.out _ h2).mono ?_
  rintro e w3 ⟨rfl, h3, o3⟩
  go_wp2_with fail
  go_end0
  exact ⟨rfl, h3, h2.o.trans o3⟩
end Go.Proofs.YteiideeechnekaaGreatDoor
