/-
  hartkeep.Claims: every script.
-/
import Derived.Test.YteiideeechnekaaClaimsWalk
namespace Go.Proofs.Yteiideeechnekaa
open Go.RowKit

set_option maxHeartbeats 1000000 in
set_option maxRecDepth 100000 in
theorem claims_far (W : World) (a : Option Addr) (n cap : Nat) (h : 1073741824 < n) :
    Calls Try.prog 6 #[.slice a n cap] W fun e W' => e = .returned (.bool true) ∧ Below W.heap.size W W' := by
  have HN := new_any W 4 ⟨#[]⟩ (by decide) (by decide) (by decide) (by decide)
  have h' : (1073741824 : Int) < n := by omega
  clear h
  go_enter Try.func6, Try.ntmps6
  go_wp2_with fail
  refine HN.mono ?_
  rintro e w0 ⟨x, rfl, _, hb⟩
  have HB : Hid (Below W.heap.size W w0) := hb
  clear hb HN
  go_wp2
  go_ret
  exact ⟨rfl, HB.out⟩
set_option maxHeartbeats 1000000 in
set_option maxRecDepth 100000 in
theorem claims_nil (W : World) (a : Option Addr) (cap : Nat) :
    Calls Try.prog 6 #[.slice a 0 cap] W fun e W' => e = .returned (.bool true) ∧ Below W.heap.size W W' := by
  have HN := new_any W 4 ⟨#[]⟩ (by decide) (by decide) (by decide) (by decide)
  go_enter Try.func6, Try.ntmps6
  go_wp2_with fail
  refine HN.mono ?_
  rintro e w0 ⟨x, rfl, _, hb⟩
  have HB : Hid (Below W.heap.size W w0) := hb
  clear hb HN
  go_wp2_with fail
  go_loopw [5] (fun iv wr => iv = .int .i64 0 ∧ wr = w0) (fun _ _ => 0)
  case atStart => exact ⟨rfl, rfl⟩
  case round =>
    obtain ⟨rfl, rfl⟩ := hrel
    go_wp2
    go_ret
    exact ⟨rfl, HB.out⟩
theorem claims_any (W : World) (v : Value) (h : Scr W v) : Calls Try.prog 6 #[v] W fun e W' => e = .returned (.bool true) ∧ Below W.heap.size W W' := by
  rcases h with ⟨a, cap, rfl⟩ | ⟨sb, so, n, cap, hm, h, rfl⟩
  · exact claims_nil W a cap
  · by_cases hn : n ≤ 1073741824
    · exact claims_row W sb so n cap hn h
    · exact claims_far W _ n cap (by omega)
end Go.Proofs.Yteiideeechnekaa
