/-
  The code's interrupts: interruptible, enabledFor, foremost, vectored, interrupt.
-/
import Derived.Test.YteiideeechnekabDoorCodeCsr
import Derived.Test.YteiideeechnekabDoorCodeExc
namespace Go.Proofs.YteiideeechnekabDoor
open Go.RowKit

def pendC (c : CSt) : Int := bits .and .u32 (mipC c) c.mie
def ibM (c : CSt) : Bool := if c.mode = 3 then (bits .and .u32 c.mstatus 8 != 0) else decide (c.mode < 3)
def ibS (c : CSt) : Bool := if c.mode = 1 then (bits .and .u32 c.mstatus 2 != 0) else decide (c.mode < 1)
def enM (c : CSt) : Int := if ibM c then bits .andNot .u32 (pendC c) c.mideleg else 0
def enS (c : CSt) : Int := if ibS c then bits .and .u32 (pendC c) c.mideleg else 0
def foreL (e : Int) : List Nat → Nat
  | [] => 0
  | i :: l => if isB e i then i else foreL e l
def ordP : List Nat := [11, 3, 7, 9, 1, 5]
def foreV (e : Int) : Nat := foreL e ordP
theorem foreL_lt (e : Int) (l : List Nat) (h : ∀ i ∈ l, i < 12) : foreL e l < 12 := by
  induction l with
  | nil => exact (by decide : (0 : Nat) < 12)
  | cons a l ih =>
    unfold foreL
    split
    · exact h a (by simp)
    · exact ih fun i hi => h i (by simp [hi])
theorem foreV_lt (e : Int) : foreV e < 12 := foreL_lt e ordP (by decide)
def vecC (v : Int) (i : Nat) (pc : Int) : Int := if (bits .and .u32 v 1 == 1) = true then (pc + 4 * i) % 4294967296 else pc
def tkM (c : CSt) (i : Nat) : CSt := { entM c (bits .or .u32 2147483648 i) 0 with pc := vecC c.mtvec i (bits .and .u32 c.mtvec 4294967292) }
def tkS (c : CSt) (i : Nat) : CSt := { entS c (bits .or .u32 2147483648 i) 0 with pc := vecC c.stvec i (bits .and .u32 c.stvec 4294967292) }
theorem itb_3 (W : World) (x r : Nat) (c : CSt) (h : CodeAt W x r c) : Calls Tryd.prog 51 #[.pointer (some ⟨x, 0, none⟩), .int .i64 3] W fun e W' => e = .returned (.bool (ibM c)) ∧ Below W.heap.size W W' := by
  have HF : Hid (CodeAt W x r c) := h
  have lt := h.lt
  have c0 := h.mode
  unfold ibM
  by_cases hm : c.mode = 3
  · rw [if_pos hm]
    rw [hm] at c0
    clear h hm
    go_enter Tryd.func51, Tryd.ntmps51
    go_wp2_with fail
    refine (trail_3 W).mono ?_
    rintro e w1 ⟨rfl, hb1⟩
    have c1 := fun o => (HF.out.below (hb1.alloc hb1.size o) lt.1 lt.2).mstatus
    have HB : Hid (∀ o q, Below W.heap.size W (World.drewN (w1.alloc o) q)) := fun o q => below_drawn (hb1.alloc hb1.size o) q
    clear hb1
    go_wp2_with fail
    go_quiet (fail)
    go_wp2_with fail
    go_ret
    exact ⟨rfl, HB.out _ _⟩
  · rw [if_neg hm]
    have hm' : (c.mode == 3) = false := by simpa using hm
    clear h hm
    go_enter Tryd.func51, Tryd.ntmps51
    go_wp2
    go_ret
    exact ⟨rfl, Below.refl _ _⟩
theorem enf_3 (W : World) (x r : Nat) (c : CSt) (h : CodeAt W x r c) : Calls Tryd.prog 37 #[.pointer (some ⟨x, 0, none⟩), .int .i64 3] W fun e W' => e = .returned (.int .u32 (enM c)) ∧ Below W.heap.size W W' := by
  have HF : Hid (CodeAt W x r c) := h
  have lt := h.lt
  have HI := itb_3 W x r c h
  unfold enM
  cases hb : ibM c
  · rw [hb] at HI
    clear h
    go_enter Tryd.func37, Tryd.ntmps37
    go_wp2_with fail
    refine HI.mono ?_
    rintro e w1 ⟨rfl, b1⟩
    go_wp2_with fail
    go_ret
    exact ⟨rfl, b1⟩
  · rw [hb] at HI
    clear h
    obtain ⟨pv, hpv⟩ : ∃ z, z = mipC c := ⟨_, rfl⟩
    have hpe : pendC c = bits .and .u32 pv c.mie := by rw [hpv]; rfl
    rw [hpe]
    have HM : Hid (∀ w, CodeAt w x r c → Calls Tryd.prog 36 #[.pointer (some ⟨x, 0, none⟩)] w fun e W' => e = .returned (.int .u32 pv) ∧ ∃ q, W' = w.drewN q) := fun w hw => by rw [hpv]; exact mip_any w x r c hw
    clear hpe hpv
    go_enter Tryd.func37, Tryd.ntmps37
    go_wp2_with fail
    refine HI.mono ?_
    rintro e w1 ⟨rfl, b1⟩
    have H1 : Hid (CodeAt w1 x r c) := HF.out.below b1 lt.1 lt.2
    have HB : Hid (∀ q, Below W.heap.size W (w1.drewN q)) := fun q => below_drawn b1 q
    have c1 := H1.out.mie
    have c2 := H1.out.mideleg
    have f1 := H1.out.fx
    clear b1 HI
    go_wp2_with fail
    go_quiet ((go_at_call 36; exact Calls.quiet_of (HM.out _ (H1.out.drawn _))))
    go_wp2_with fail
    go_ret
    exact ⟨rfl, HB.out _⟩
theorem itb_1 (W : World) (x r : Nat) (c : CSt) (h : CodeAt W x r c) : Calls Tryd.prog 51 #[.pointer (some ⟨x, 0, none⟩), .int .i64 1] W fun e W' => e = .returned (.bool (ibS c)) ∧ Below W.heap.size W W' := by
  have HF : Hid (CodeAt W x r c) := h
  have lt := h.lt
  have c0 := h.mode
  unfold ibS
  by_cases hm : c.mode = 1
  · rw [if_pos hm]
    rw [hm] at c0
    clear h hm
    go_enter Tryd.func51, Tryd.ntmps51
    go_wp2_with fail
    refine (trail_1 W).mono ?_
    rintro e w1 ⟨rfl, hb1⟩
    have c1 := fun o => (HF.out.below (hb1.alloc hb1.size o) lt.1 lt.2).mstatus
    have HB : Hid (∀ o q, Below W.heap.size W (World.drewN (w1.alloc o) q)) := fun o q => below_drawn (hb1.alloc hb1.size o) q
    clear hb1
    go_wp2_with fail
    go_quiet (fail)
    go_wp2_with fail
    go_ret
    exact ⟨rfl, HB.out _ _⟩
  · rw [if_neg hm]
    have hm' : (c.mode == 1) = false := by simpa using hm
    clear h hm
    go_enter Tryd.func51, Tryd.ntmps51
    go_wp2
    go_ret
    exact ⟨rfl, Below.refl _ _⟩
theorem enf_1 (W : World) (x r : Nat) (c : CSt) (h : CodeAt W x r c) : Calls Tryd.prog 37 #[.pointer (some ⟨x, 0, none⟩), .int .i64 1] W fun e W' => e = .returned (.int .u32 (enS c)) ∧ Below W.heap.size W W' := by
  have HF : Hid (CodeAt W x r c) := h
  have lt := h.lt
  have HI := itb_1 W x r c h
  unfold enS
  cases hb : ibS c
  · rw [hb] at HI
    clear h
    go_enter Tryd.func37, Tryd.ntmps37
    go_wp2_with fail
    refine HI.mono ?_
    rintro e w1 ⟨rfl, b1⟩
    go_wp2_with fail
    go_ret
    exact ⟨rfl, b1⟩
  · rw [hb] at HI
    clear h
    obtain ⟨pv, hpv⟩ : ∃ z, z = mipC c := ⟨_, rfl⟩
    have hpe : pendC c = bits .and .u32 pv c.mie := by rw [hpv]; rfl
    rw [hpe]
    have HM : Hid (∀ w, CodeAt w x r c → Calls Tryd.prog 36 #[.pointer (some ⟨x, 0, none⟩)] w fun e W' => e = .returned (.int .u32 pv) ∧ ∃ q, W' = w.drewN q) := fun w hw => by rw [hpv]; exact mip_any w x r c hw
    clear hpe hpv
    go_enter Tryd.func37, Tryd.ntmps37
    go_wp2_with fail
    refine HI.mono ?_
    rintro e w1 ⟨rfl, b1⟩
    have H1 : Hid (CodeAt w1 x r c) := HF.out.below b1 lt.1 lt.2
    have HB : Hid (∀ q, Below W.heap.size W (w1.drewN q)) := fun q => below_drawn b1 q
    have c1 := H1.out.mie
    have c2 := H1.out.mideleg
    have f1 := H1.out.fx
    clear b1 HI
    go_wp2_with fail
    go_quiet ((go_at_call 36; exact Calls.quiet_of (HM.out _ (H1.out.drawn _))))
    go_wp2_with fail
    go_ret
    exact ⟨rfl, HB.out _⟩
def precCells : List Value := precR.map (Value.int .u32)
theorem ordP_prec (k : Nat) (hk : k < 6) : precR.getD k 0 = ((ordP.getD k 0 : Nat) : Int) ∧ ordP.drop k = ordP.getD k 0 :: ordP.drop (k + 1) ∧ ordP.getD k 0 < 32 := by
  have : k = 0 ∨ k = 1 ∨ k = 2 ∨ k = 3 ∨ k = 4 ∨ k = 5 := by omega
  rcases this with rfl | rfl | rfl | rfl | rfl | rfl <;> exact ⟨rfl, rfl, by decide⟩
set_option maxHeartbeats 4000000 in
set_option maxRecDepth 100000 in
theorem fore_core (W : World) (T : T19 W) (e : Int) (i0 : Nat) (hi0 : foreV e = i0) :
    Calls Tryd.prog 38 #[.int .u32 e] W fun e' W' => e' = .returned (.int .u32 i0) ∧ W' = W := by
  have HG : Hid (W.rangeAt 0 0 precCells) := fun j v hv => by
    have hj : j < 6 := (List.getElem?_eq_some_iff.1 hv).1
    have e : v = .int .u32 (precR.getD j 0) := by
      have h2 := hv
      unfold precCells at h2
      rw [List.getElem?_map] at h2
      obtain ⟨y, hy, rfl⟩ := Option.map_eq_some_iff.1 h2
      rw [List.getD_eq_getElem?_getD, hy]
      rfl
    rw [Nat.zero_add, e]
    exact T.p j hj
  obtain ⟨d, hu, hd⟩ : ∃ d, Tryd.prog.underlying 83 = some d ∧ d.isRow = true := ⟨_, Tryd.underlying83, rfl⟩
  have H0 : Hid (foreL e (ordP.drop 0) = i0) := hi0
  clear T hi0
  go_enter Tryd.func38, Tryd.ntmps38
  go_wp2_with (refine wpList_load_mid rfl 83 _ rfl 0 0 rfl precCells d HG.out hu hd (by kernel_rfl) ?_)
  generalize hTV : Value.agg precCells.toArray = TV
  have HX : Hid (∀ k : Nat, k < 6 → ∀ w, (Instr.index 83 TV (.int .i64 k)).run Tryd.prog w = .ok (.int .u32 ((ordP.getD k 0 : Nat) : Int)) w) := by
    intro k hk
    subst hTV
    match k, hk with
    | 0, _ => exact fun _ => by kernel_rfl
    | 1, _ => exact fun _ => by kernel_rfl
    | 2, _ => exact fun _ => by kernel_rfl
    | 3, _ => exact fun _ => by kernel_rfl
    | 4, _ => exact fun _ => by kernel_rfl
    | 5, _ => exact fun _ => by kernel_rfl
    | k + 6, hk => exact absurd hk (by omega)
  clear hTV HG
  go_loopw [6] (fun i wr => ∃ k : Nat, k ≤ 6 ∧ i = .int .i64 k ∧ wr = W ∧ Hid (foreL e (ordP.drop k) = i0)) (fun i _ => 6 - (intOf i).toNat)
  case atStart => exact ⟨0, by decide, rfl, rfl, H0⟩
  case round =>
    obtain ⟨k, hk, rfl, rfl, hno⟩ := hrel
    clear H0
    by_cases hlt : k < 6
    · have hi : (k : Int) < 6 := by omega
      have ix := HX.out k hlt
      obtain ⟨_, e2, e3⟩ := ordP_prec k hlt
      have HE : Hid (foreL e (ordP.getD k 0 :: ordP.drop (k + 1)) = i0) := by unfold Hid; rw [← e2]; exact hno.out
      generalize ordP.getD k 0 = z at ix HE e3
      have z32 : (z : Int) < 32 := by omega
      clear e2 e3 hno
      cases hb : isB e z
      · have HN : Hid (foreL e (ordP.drop (k + 1)) = i0) := by
          have := HE.out
          unfold foreL at this
          rw [if_neg (by rw [hb]; decide)] at this
          exact this
        have hb' : (bits .and .u32 (e / 2 ^ z) 1 == 1) = false := hb
        clear HE hb
        go_wp2_with fail
        go_roundw
        case rel => exact ⟨k + 1, by omega, by go_num, by simp, HN⟩
        case measure => simp [intOf]; omega
      · have HN : Hid (z = i0) := by
          have := HE.out
          unfold foreL at this
          rw [if_pos hb] at this
          exact this
        have hb' : (bits .and .u32 (e / 2 ^ z) 1 == 1) = true := hb
        clear HE hb
        go_wp2_with fail
        go_ret
        exact ⟨by rw [HN.out]; rfl, rfl⟩
    · obtain rfl : k = 6 := by omega
      have HN : Hid (0 = i0) := hno.out
      clear hno
      go_wp2_with fail
      go_ret
      exact ⟨by rw [← HN.out]; rfl, rfl⟩
theorem vec_3 (W : World) (x r : Nat) (c : CSt) (h : CodeAt W x r c) : Calls Tryd.prog 40 #[.pointer (some ⟨x, 0, none⟩), .int .i64 3] W fun e W' => e = .returned (.bool (bits .and .u32 c.mtvec 1 == 1)) ∧ W' = W := by
  have c1 : W.cell? ⟨x, 45, none⟩ = some (.int .u32 c.mtvec) := h.mtvec
  clear h
  go_enter Tryd.func40, Tryd.ntmps40
  go_wp2_with (go_at_call 52; refine (sideOf_3 _ x).mono ?_; rintro e w' ⟨rfl, hw⟩; rw [hw]; clear hw w')
  go_ret
  exact ⟨rfl, rfl⟩
theorem vec_1 (W : World) (x r : Nat) (c : CSt) (h : CodeAt W x r c) : Calls Tryd.prog 40 #[.pointer (some ⟨x, 0, none⟩), .int .i64 1] W fun e W' => e = .returned (.bool (bits .and .u32 c.stvec 1 == 1)) ∧ W' = W := by
  have c1 : W.cell? ⟨x, 40, none⟩ = some (.int .u32 c.stvec) := h.stvec
  clear h
  go_enter Tryd.func40, Tryd.ntmps40
  go_wp2_with (go_at_call 52; refine (sideOf_1 _ x).mono ?_; rintro e w' ⟨rfl, hw⟩; rw [hw]; clear hw w')
  go_ret
  exact ⟨rfl, rfl⟩
theorem int_no (W : World) (x r : Nat) (c : CSt) (h : CodeAt W x r c) (hM : enM c = 0) (hS : enS c = 0) : Calls Tryd.prog 23 #[.pointer (some ⟨x, 0, none⟩)] W fun e W' => e = .returned (.bool false) ∧ Below W.heap.size W W' := by
  have HM := enf_3 W x r c h
  rw [hM] at HM
  have HS : Hid (∀ w, Below W.heap.size W w → Calls Tryd.prog 37 #[.pointer (some ⟨x, 0, none⟩), .int .i64 1] w fun e W' => e = .returned (.int .u32 0) ∧ Below W.heap.size W W') := fun w hb => by
    have := enf_1 w x r c (h.below hb h.lt.1 h.lt.2)
    rw [hS] at this
    refine this.mono ?_
    rintro e w1 ⟨rfl, b1⟩
    exact ⟨rfl, hb.trans (b1.mono hb.size)⟩
  clear h hM hS
  go_enter Tryd.func23, Tryd.ntmps23
  go_wp2_with fail
  refine HM.mono ?_
  rintro e w1 ⟨rfl, b1⟩
  go_wp2_with fail
  refine (HS.out _ b1).mono ?_
  rintro e w2 ⟨rfl, b2⟩
  go_wp2_with fail
  go_ret
  exact ⟨rfl, b2⟩
set_option maxHeartbeats 1000000 in
theorem int_M (W : World) (x r : Nat) (c : CSt) (h : CodeAt W x r c) (A : x ≠ r) (T : T19 W) (m0 : 0 ≤ c.mode) (m3 : c.mode ≤ 3) (he : enM c ≠ 0) (i : Nat) (hi0 : foreV (enM c) = i) :
    Calls Tryd.prog 23 #[.pointer (some ⟨x, 0, none⟩)] W fun e W' => e = .returned (.bool true) ∧ CodeAt W' x r (tkM c i) ∧ Offs [x, r] W W' := by
  have HF : Hid (CodeAt W x r c) := h
  have HT : Hid (T19 W) := T
  have lt := h.lt
  obtain ⟨ev, hev⟩ : ∃ ev, ev = enM c := ⟨_, rfl⟩
  have hi : foreV ev = i := by rw [hev]; exact hi0
  have i12 : (i : Int) < 12 := by have := foreV_lt ev; omega
  have HM := enf_3 W x r c h
  have hee : (ev == 0) = false := by rw [hev]; simpa using he
  rw [← hev] at HM
  have HV : Hid (∀ w, CodeAt w x r (entM c (bits .or .u32 2147483648 i) 0) → Calls Tryd.prog 40 #[.pointer (some ⟨x, 0, none⟩), .int .i64 3] w fun e W' => e = .returned (.bool (bits .and .u32 c.mtvec 1 == 1)) ∧ W' = w) := fun w hw => vec_3 w x r (entM c (bits .or .u32 2147483648 i) 0) hw
  clear h T he hev hi0
  by_cases hv : (bits .and .u32 c.mtvec 1 == 1) = true
  · have hv' : (bits .and .u32 c.mtvec 1 == 1) = true := by simpa using hv
    have HE : Hid (vecC c.mtvec i (bits .and .u32 c.mtvec 4294967292) = (bits .and .u32 c.mtvec 4294967292 + 4 * i) % 4294967296) := by unfold Hid vecC; rw [if_pos hv]
    rw [hv'] at HV
    clear hv hv'
    go_enter Tryd.func23, Tryd.ntmps23
    go_wp2_with fail
    refine HM.mono ?_
    rintro e w2 ⟨rfl, b2⟩
    have H2 : Hid (CodeAt w2 x r c) := HF.out.below b2 lt.1 lt.2
    have O2 : Hid (Offs [x, r] W w2) := Offs.of_below b2
    have T2 : Hid (T19 w2) := HT.out.below b2
    clear b2 HM
    go_wp2_with fail
    refine (fore_core _ T2.out ev i hi).mono ?_
    rintro e w3 ⟨rfl, hw3⟩
    rw [hw3]
    clear hw3 w3
    go_wp2_with fail
    refine (enter_3 _ x r c H2.out A m0 m3 _ _).mono ?_
    rintro e w4 ⟨rfl, h4, o4⟩
    have H4 : Hid (CodeAt w4 x r (entM c (bits .or .u32 2147483648 i) 0)) := h4
    have O4 : Hid (Offs [x, r] W w4) := O2.out.trans o4
    clear h4 o4
    go_wp2_with fail
    refine (HV.out _ H4.out).mono ?_
    rintro e w5 ⟨rfl, hw5⟩
    rw [hw5]
    clear hw5 w5
    have p1 : w4.cell? ⟨x, 32, none⟩ = some (.int .u32 (bits .and .u32 c.mtvec 4294967292)) := H4.out.pc
    have f1 := H4.out.fx
    go_wp2
    go_ret
    refine ⟨rfl, ?_, ?_⟩
    · unfold tkM
      rw [HE.out]
      exact H4.out.put_pc A _
    · exact O4.out.put (by simp) _
  · have hv' : (bits .and .u32 c.mtvec 1 == 1) = false := by simpa using hv
    have HE : Hid (vecC c.mtvec i (bits .and .u32 c.mtvec 4294967292) = bits .and .u32 c.mtvec 4294967292) := by unfold Hid vecC; rw [if_neg hv]
    rw [hv'] at HV
    clear hv hv'
    go_enter Tryd.func23, Tryd.ntmps23
    go_wp2_with fail
    refine HM.mono ?_
    rintro e w2 ⟨rfl, b2⟩
    have H2 : Hid (CodeAt w2 x r c) := HF.out.below b2 lt.1 lt.2
    have O2 : Hid (Offs [x, r] W w2) := Offs.of_below b2
    have T2 : Hid (T19 w2) := HT.out.below b2
    clear b2 HM
    go_wp2_with fail
    refine (fore_core _ T2.out ev i hi).mono ?_
    rintro e w3 ⟨rfl, hw3⟩
    rw [hw3]
    clear hw3 w3
    go_wp2_with fail
    refine (enter_3 _ x r c H2.out A m0 m3 _ _).mono ?_
    rintro e w4 ⟨rfl, h4, o4⟩
    have H4 : Hid (CodeAt w4 x r (entM c (bits .or .u32 2147483648 i) 0)) := h4
    have O4 : Hid (Offs [x, r] W w4) := O2.out.trans o4
    clear h4 o4
    go_wp2_with fail
    refine (HV.out _ H4.out).mono ?_
    rintro e w5 ⟨rfl, hw5⟩
    rw [hw5]
    clear hw5 w5
    go_wp2
    go_ret
    refine ⟨rfl, ?_, O4.out⟩
    unfold tkM
    rw [HE.out]
    exact H4.out
set_option maxHeartbeats 1000000 in
theorem int_S (W : World) (x r : Nat) (c : CSt) (h : CodeAt W x r c) (A : x ≠ r) (T : T19 W) (m0 : 0 ≤ c.mode) (m3 : c.mode ≤ 3) (hM : enM c = 0) (he : enS c ≠ 0) (i : Nat) (hi0 : foreV (enS c) = i) :
    Calls Tryd.prog 23 #[.pointer (some ⟨x, 0, none⟩)] W fun e W' => e = .returned (.bool true) ∧ CodeAt W' x r (tkS c i) ∧ Offs [x, r] W W' := by
  have HF : Hid (CodeAt W x r c) := h
  have HT : Hid (T19 W) := T
  have lt := h.lt
  obtain ⟨ev, hev⟩ : ∃ ev, ev = enS c := ⟨_, rfl⟩
  have hi : foreV ev = i := by rw [hev]; exact hi0
  have i12 : (i : Int) < 12 := by have := foreV_lt ev; omega
  have HM := enf_3 W x r c h
  rw [hM] at HM
  have hee : (ev == 0) = false := by rw [hev]; simpa using he
  have HS : Hid (∀ w, Below W.heap.size W w → Calls Tryd.prog 37 #[.pointer (some ⟨x, 0, none⟩), .int .i64 1] w fun e W' => e = .returned (.int .u32 ev) ∧ Below W.heap.size W W') := fun w hb => by
    have := enf_1 w x r c (h.below hb h.lt.1 h.lt.2)
    rw [← hev] at this
    refine this.mono ?_
    rintro e w1 ⟨rfl, b1⟩
    exact ⟨rfl, hb.trans (b1.mono hb.size)⟩
  have HV : Hid (∀ w, CodeAt w x r (entS c (bits .or .u32 2147483648 i) 0) → Calls Tryd.prog 40 #[.pointer (some ⟨x, 0, none⟩), .int .i64 1] w fun e W' => e = .returned (.bool (bits .and .u32 c.stvec 1 == 1)) ∧ W' = w) := fun w hw => vec_1 w x r (entS c (bits .or .u32 2147483648 i) 0) hw
  clear h T he hev hi0 hM
  by_cases hv : (bits .and .u32 c.stvec 1 == 1) = true
  · have hv' : (bits .and .u32 c.stvec 1 == 1) = true := by simpa using hv
    have HE : Hid (vecC c.stvec i (bits .and .u32 c.stvec 4294967292) = (bits .and .u32 c.stvec 4294967292 + 4 * i) % 4294967296) := by unfold Hid vecC; rw [if_pos hv]
    rw [hv'] at HV
    clear hv hv'
    go_enter Tryd.func23, Tryd.ntmps23
    go_wp2_with fail
    refine HM.mono ?_
    rintro e w1 ⟨rfl, b1⟩
    go_wp2_with fail
    refine (HS.out _ b1).mono ?_
    rintro e w2 ⟨rfl, b2⟩
    clear b1 HS
    have H2 : Hid (CodeAt w2 x r c) := HF.out.below b2 lt.1 lt.2
    have O2 : Hid (Offs [x, r] W w2) := Offs.of_below b2
    have T2 : Hid (T19 w2) := HT.out.below b2
    clear b2 HM
    go_wp2_with fail
    refine (fore_core _ T2.out ev i hi).mono ?_
    rintro e w3 ⟨rfl, hw3⟩
    rw [hw3]
    clear hw3 w3
    go_wp2_with fail
    refine (enter_1 _ x r c H2.out A m0 m3 _ _).mono ?_
    rintro e w4 ⟨rfl, h4, o4⟩
    have H4 : Hid (CodeAt w4 x r (entS c (bits .or .u32 2147483648 i) 0)) := h4
    have O4 : Hid (Offs [x, r] W w4) := O2.out.trans o4
    clear h4 o4
    go_wp2_with fail
    refine (HV.out _ H4.out).mono ?_
    rintro e w5 ⟨rfl, hw5⟩
    rw [hw5]
    clear hw5 w5
    have p1 : w4.cell? ⟨x, 32, none⟩ = some (.int .u32 (bits .and .u32 c.stvec 4294967292)) := H4.out.pc
    have f1 := H4.out.fx
    go_wp2
    go_ret
    refine ⟨rfl, ?_, ?_⟩
    · unfold tkS
      rw [HE.out]
      exact H4.out.put_pc A _
    · exact O4.out.put (by simp) _
  · have hv' : (bits .and .u32 c.stvec 1 == 1) = false := by simpa using hv
    have HE : Hid (vecC c.stvec i (bits .and .u32 c.stvec 4294967292) = bits .and .u32 c.stvec 4294967292) := by unfold Hid vecC; rw [if_neg hv]
    rw [hv'] at HV
    clear hv hv'
    go_enter Tryd.func23, Tryd.ntmps23
    go_wp2_with fail
    refine HM.mono ?_
    rintro e w1 ⟨rfl, b1⟩
    go_wp2_with fail
    refine (HS.out _ b1).mono ?_
    rintro e w2 ⟨rfl, b2⟩
    clear b1 HS
    have H2 : Hid (CodeAt w2 x r c) := HF.out.below b2 lt.1 lt.2
    have O2 : Hid (Offs [x, r] W w2) := Offs.of_below b2
    have T2 : Hid (T19 w2) := HT.out.below b2
    clear b2 HM
    go_wp2_with fail
    refine (fore_core _ T2.out ev i hi).mono ?_
    rintro e w3 ⟨rfl, hw3⟩
    rw [hw3]
    clear hw3 w3
    go_wp2_with fail
    refine (enter_1 _ x r c H2.out A m0 m3 _ _).mono ?_
    rintro e w4 ⟨rfl, h4, o4⟩
    have H4 : Hid (CodeAt w4 x r (entS c (bits .or .u32 2147483648 i) 0)) := h4
    have O4 : Hid (Offs [x, r] W w4) := O2.out.trans o4
    clear h4 o4
    go_wp2_with fail
    refine (HV.out _ H4.out).mono ?_
    rintro e w5 ⟨rfl, hw5⟩
    rw [hw5]
    clear hw5 w5
    go_wp2
    go_ret
    refine ⟨rfl, ?_, O4.out⟩
    unfold tkS
    rw [HE.out]
    exact H4.out
end Go.Proofs.YteiideeechnekabDoor
