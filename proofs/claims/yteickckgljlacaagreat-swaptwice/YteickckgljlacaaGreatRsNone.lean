/-
  The library's sort of no handles at all.
-/
import Derived.Test.YteickckgljlacaaGreatRsPdq
namespace Go.Proofs.YteickckgljlacaaGreat.Rs
open Go Go.RowKit
set_option maxHeartbeats 4000000 in
theorem ins_none (v : Option Addr) (cap : Nat) (w : World) : Calls Tryz.prog 118 #[.slice v 0 cap, .int .i64 0, .int .i64 0] w fun e w' => e = .returned (.tuple #[]) ∧ w' = w := by
  go_enter Tryz.func118, Tryz.ntmps118
  go_wp2
  go_loopg [6] 1 (fun _ s wr => s = .int .i64 1 ∧ wr = w)
  case atStart => exact ⟨rfl, rfl⟩
  case round =>
    obtain ⟨rfl, rfl⟩ := hrel
    go_wp2
    go_end0
    exact ⟨rfl, rfl⟩
set_option maxHeartbeats 4000000 in
set_option maxRecDepth 100000 in
theorem pdq_none (v : Option Addr) (cap : Nat) (w : World) : Calls Tryz.prog 102 #[.slice v 0 cap, .int .i64 0, .int .i64 0, .int .i64 0] w fun e w' => e = .returned (.tuple #[]) ∧ w' = w := by
  have K := ins_none v cap w
  go_enter Tryz.func102, Tryz.ntmps102
  go_wp2
  go_loopg [1, 2, 3, 8, 9] 1 (fun _ s1 s2 s3 s8 s9 wr => s1 = .int .i64 0 ∧ s2 = .int .i64 0 ∧ s3 = .int .i64 0 ∧ s8 = .bool true ∧ s9 = .bool true ∧ wr = w)
  case atStart => exact ⟨rfl, rfl, rfl, rfl, rfl, rfl⟩
  case round =>
    obtain ⟨rfl, rfl, rfl, rfl, rfl, rfl⟩ := hrel
    go_wp2_with (go_at_call 118; refine K.mono ?_; clear K; rintro e w1 ⟨rfl, rfl⟩)
    refine bodyPost_ret (results_none rfl _ _ _) rfl ?_
    exact ⟨rfl, rfl⟩
set_option maxHeartbeats 4000000 in
theorem sort_none (v : Option Addr) (cap : Nat) (w : World) : Calls Tryz.prog 90 #[.slice v 0 cap] w fun e w' => e = .returned (.tuple #[]) ∧ w' = w := by
  have K : Calls Tryz.prog 103 #[.int .u64 0] w fun e w' => e = .returned (.int .i64 0) ∧ w' = w := len_any 0 (by omega) w
  have K2 := pdq_none v cap w
  go_enter Tryz.func90, Tryz.ntmps90
  go_wp2_with (first
    | (go_at_call 103; refine K.mono ?_; clear K; rintro e w1 ⟨rfl, rfl⟩)
    | (go_at_call 102; refine K2.mono ?_; clear K2; rintro e w2 ⟨rfl, rfl⟩))
  go_end0
  exact ⟨rfl, rfl⟩
end Go.Proofs.YteickckgljlacaaGreat.Rs
