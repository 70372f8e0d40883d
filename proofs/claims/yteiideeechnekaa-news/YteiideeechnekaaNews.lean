/-
  hartlaw.made and News.
-/
import Derived.Test.YteiideeechnekaaRefNew
import Derived.Test.YteiideeechnekaaCodeLook
import Derived.Test.YteiideeechnekaaRefLook
import Derived.Test.YteiideeechnekaaLooks
namespace Go.Proofs.Yteiideeechnekaa
open Go.RowKit Go.Lib

set_option maxHeartbeats 1000000 in
theorem rnew_bad (W : World) (size : Int) (img : ByteArray) (h : errOf size img ≠ 0) :
    Calls Try.prog 20 #[.int .i64 size, .string img] W fun e W' => e = .returned (.tuple #[.pointer none, .int .i64 (errOf size img)]) ∧ Below W.heap.size W W' := by
  by_cases a1 : size < 4
  · have er : errOf size img = 1 := by simp [errOf, a1]
    rw [er]
    clear h er
    go_enter Try.func20, Try.ntmps20
    go_wp2
    exact bodyPost_ret (v := .tuple #[.pointer none, .int .i64 1]) (by simp [results, Try.results20, go_sem]) rfl ⟨rfl, Below.refl _ _⟩
  · by_cases a2 : 512 < size
    · have er : errOf size img = 1 := by simp [errOf, a2]
      rw [er]
      clear h er
      go_enter Try.func20, Try.ntmps20
      go_wp2
      exact bodyPost_ret (v := .tuple #[.pointer none, .int .i64 1]) (by simp [results, Try.results20, go_sem]) rfl ⟨rfl, Below.refl _ _⟩
    · by_cases a3 : size % 4 = 0
      · have a4 : size < img.size := by
          refine Classical.byContradiction fun a4 => h ?_
          simp [errOf, a1, a2, a3, a4]
        have er : errOf size img = 2 := by simp [errOf, a1, a2, a3, a4]
        rw [er]
        clear h er
        go_enter Try.func20, Try.ntmps20
        go_wp2
        exact bodyPost_ret (v := .tuple #[.pointer none, .int .i64 2]) (by simp [results, Try.results20, go_sem]) rfl ⟨rfl, Below.refl _ _⟩
      · have er : errOf size img = 1 := by simp [errOf, a3]
        rw [er]
        have a5 : (size % 4 != 0) = true := by simpa using a3
        clear h er
        go_enter Try.func20, Try.ntmps20
        go_wp2
        exact bodyPost_ret (v := .tuple #[.pointer none, .int .i64 1]) (by simp [results, Try.results20, go_sem]) rfl ⟨rfl, Below.refl _ _⟩


theorem look_new (n : Nat) (img : ByteArray) : lookC (newC n img) = lookR (newR n img) := by kernel_rfl
theorem fine_new (n : Nat) (img : ByteArray) : Fine (newR n img) := ⟨by show (0 : Int) ≤ 0; decide, by show (0 : Int) ≤ 3; decide, by show (0 : Int) ≤ 0; decide, by show (0 : Int) ≤ 3; decide⟩

theorem looks_same (W : World) (x r p : Nat) (b : RBl) (c : CSt) (s : RSt) (h : lookC c = lookR s) (F : Fine s) (hc : CodeAt W x r c) (hr : RefAt W p b s) :
    Calls Try.prog 21 #[.pointer (some ⟨x, 0, none⟩), .pointer (some ⟨p, 0, none⟩)] W fun e W' => e = .returned (.bool true) ∧ Below W.heap.size W W' := by
  have lt := hc.lt
  refine looks_of W ⟨x, 0, none⟩ ⟨p, 0, none⟩ (lookC c) (fun W' hb => look_any W' x r c (hc.below hb lt.1 lt.2)) ?_
  rw [h]
  exact rlook_any W p b s hr F

set_option maxHeartbeats 1000000 in
theorem made_bad (W : World) (size : Int) (img : ByteArray) (h : errOf size img ≠ 0) :
    Calls Try.prog 7 #[.int .i64 size, .string img] W fun e W' => e = .returned (.tuple #[.pointer none, .pointer none, .bool true]) ∧ Below W.heap.size W W' := by
  have N1 := new_bad W size img h
  obtain ⟨er, her⟩ : ∃ er, er = errOf size img := ⟨_, rfl⟩
  have HR : Hid (∀ w, Calls Try.prog 20 #[.int .i64 size, .string img] w fun e W' => e = .returned (.tuple #[.pointer none, .int .i64 er]) ∧ Below w.heap.size w W') := fun w => by rw [her]; exact rnew_bad w size img h
  rw [← her] at N1 h
  have h5 : er = 1 ∨ er = 2 := by
    unfold errOf at her
    by_cases c1 : size < 4 ∨ 512 < size ∨ size % 4 ≠ 0
    · exact .inl (by rw [her, if_pos c1])
    · by_cases c2 : size < img.size
      · exact .inr (by rw [her, if_neg c1, if_pos c2])
      · exact absurd (by rw [her, if_neg c1, if_neg c2]) h
  clear her h
  have HN := N1
  clear N1
  rcases h5 with rfl | rfl
  all_goals
    go_enter Try.func7, Try.ntmps7
    go_wp2_with fail
    refine HN.mono ?_
    rintro e w1 ⟨rfl, hb1⟩
    go_wp2_with fail
    refine (HR.out w1).mono ?_
    rintro e w2 ⟨rfl, hb2⟩
    go_wp2
    exact bodyPost_ret (v := .tuple #[.pointer none, .pointer none, .bool true]) (by simp [results, Try.results7, go_sem]) rfl ⟨rfl, hb1.trans (hb2.mono hb1.size)⟩

set_option maxHeartbeats 1000000 in
theorem made_any (W : World) (n : Nat) (img : ByteArray) (h1 : 4 ≤ n) (h2 : n ≤ 512) (h3 : (n : Int) % 4 = 0) (h4 : img.size ≤ n) :
    Calls Try.prog 7 #[.int .i64 n, .string img] W fun e W' => ∃ x p : Nat, e = .returned (.tuple #[.pointer (some ⟨x, 0, none⟩), .pointer (some ⟨p, 0, none⟩), .bool true]) ∧ (∃ (r : Nat) (b : RBl), CodeAt W' x r (newC n img) ∧ RefAt W' p b (newR n img)) ∧ Below W.heap.size W W' := by
  have HN := new_any W n img h1 h2 h3 h4
  have HR := fun w => rnew_any w n img h1 h2 h3 h4
  clear h1 h2 h3 h4
  go_enter Try.func7, Try.ntmps7
  go_wp2_with fail
  refine HN.mono ?_
  rintro e w1 ⟨x, rfl, ⟨r, hc, _⟩, hb1⟩
  have lt := hc.lt
  have HC1 : Hid (CodeAt w1 x r (newC n img)) := hc
  clear hc
  go_wp2_with fail
  refine (HR w1).mono ?_
  rintro e w2 ⟨p, rfl, ⟨b, hr, _⟩, hb2⟩
  have hc2 := HC1.out.below hb2 lt.1 lt.2
  have HC : Hid (CodeAt w2 x r (newC n img)) := hc2
  have HA : Hid (RefAt w2 p b (newR n img)) := hr
  clear hr hc2
  go_wp2_with fail
  refine (looks_same w2 x r p b _ _ (look_new n img) (fine_new n img) HC.out HA.out).mono ?_
  rintro e w3 ⟨rfl, hb3⟩
  have l2 := HC.out.lt
  have c3 := HC.out.below hb3 l2.1 l2.2
  have r3 := HA.out.below hb3 (Nat.le_refl _)
  have HX : Hid (∃ (r : Nat) (b : RBl), CodeAt w3 x r (newC n img) ∧ RefAt w3 p b (newR n img)) := ⟨r, b, c3, r3⟩
  clear c3 r3
  go_wp2
  exact bodyPost_ret (v := .tuple #[.pointer (some ⟨x, 0, none⟩), .pointer (some ⟨p, 0, none⟩), .bool true]) (by simp [results, Try.results7, go_sem]) rfl ⟨x, p, rfl, HX.out, (hb1.trans (hb2.mono hb1.size)).trans (hb3.mono (Nat.le_trans hb1.size hb2.size))⟩

theorem news_any (W : World) (size : Int) (img : ByteArray) :
    Calls Try.prog 3 #[.int .i64 size, .string img] W fun e W' => e = .returned (.bool true) ∧ Below W.heap.size W W' := by
  by_cases h : errOf size img = 0
  · have hb : ¬ (size < 4 ∨ 512 < size ∨ size % 4 ≠ 0) := fun hb => by simp [errOf, hb] at h
    have hl : ¬ (size < img.size) := fun hl => by simp [errOf, hb, hl] at h
    obtain ⟨n, rfl⟩ : ∃ n : Nat, size = n := ⟨size.toNat, by omega⟩
    have HM := made_any W n img (by omega) (by omega) (by omega) (by omega)
    clear h hb hl
    go_enter Try.func3, Try.ntmps3
    go_wp2_with fail
    refine HM.mono ?_
    rintro e w1 ⟨x, p, rfl, _, hb1⟩
    go_wp2
    go_ret
    exact ⟨rfl, hb1⟩
  · have HM := made_bad W size img h
    clear h
    go_enter Try.func3, Try.ntmps3
    go_wp2_with fail
    refine HM.mono ?_
    rintro e w1 ⟨rfl, hb1⟩
    go_wp2
    go_ret
    exact ⟨rfl, hb1⟩
end Go.Proofs.Yteiideeechnekaa
