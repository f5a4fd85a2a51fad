/-
  What each access of the deque to its cells does.
-/
import Derived.Test.YtfpgdmnbehingaaAct
namespace Go.Proofs.Ytfpgdmnbehingaa
open Go Go.RowKit

section
variable {w w' : World} {P R N T b n A : Nat} {c : Nat → Int} {ops fails : Int} {S : Ac}
set_option maxHeartbeats 2000000 in
theorem dload_any (h : Sys w P R N T b n c ops fails) (j : Nat) (hj : j ≤ 1) :
    Calls Try.prog 28 #[.pointer (some ⟨T, 0, none⟩), .int .i64 (j : Int)] w fun e w' => e = .returned (.int .u64 (c (b + j))) ∧ Sys w' P R N T b n c (wrap64 (ops + 1)) fails ∧ Moved P R w w' := by
  have t0 := h.t0
  have t1 := h.t1
  have hr := h.room
  have hsm := h.small
  have hp := h.pos
  have K2 := load_in P R N c ops fails w.drew (b + j) (by omega) h.mem.drew
  have hw : Aside (IntKind.i64.wrap ((b : Int) + (j : Int)) = ((b + j : Nat) : Int)) := by simp only [Aside]; rw [IntKind.wrap_i64]; omega
  have hw1 : IntKind.i64.wrap ((b : Int) + (j : Int)) = (b : Int) + (j : Int) := by rw [IntKind.wrap_i64]; omega
  generalize c (b + j) = x at K2
  go_enter Try.func28, Try.ntmps28
  go_wp2_with fail
  go_region_held3 (fun u => u.cell? ⟨T, 0, none⟩ = some (.pointer (some ⟨P, 0, none⟩)) ∧ u.cell? ⟨T, 1, none⟩ = some (.int .i64 (b : Int))) (first | assumption | exact ⟨t0, t1⟩ | exact ⟨h1.t0, h1.t1⟩) (first
    | (go_at_call 23; first | rw [hw.out] | skip; refine K2.mono ?_; clear K2; rintro e w1 ⟨rfl, m1, b1⟩; have h1 := h.moved m1 b1.undrew h.fit))
  go_wp2_with fail
  go_ret
  exact ⟨rfl, h1, b1.undrew⟩
set_option maxHeartbeats 2000000 in
theorem dadd_any (h : Sys w P R N T b n c ops fails) (v : Int) :
    Calls Try.prog 35 #[.pointer (some ⟨T, 0, none⟩), .int .i64 1, .int .u64 v] w fun e w' => e = .returned (.int .u64 (w64 (c (b + 1) + v))) ∧ Sys w' P R N T b n (upd c (b + 1) (w64 (c (b + 1) + v))) (wrap64 (ops + 1)) fails ∧ Moved P R w w' := by
  have t0 := h.t0
  have t1 := h.t1
  have hr := h.room
  have hsm := h.small
  have hp := h.pos
  have K2 := add_in P R N c ops fails w.drew (b + 1) v (by omega) h.mem.drew
  have hw : Aside (IntKind.i64.wrap ((b : Int) + 1) = ((b + 1 : Nat) : Int)) := by simp only [Aside]; rw [IntKind.wrap_i64]; omega
  have hw1 : IntKind.i64.wrap ((b : Int) + 1) = (b : Int) + 1 := by rw [IntKind.wrap_i64]; omega
  rw [IntKind.wrap_u64] at K2
  have hu : U64 (upd c (b + 1) (w64 (c (b + 1) + v))) := upd_fit h.fit (w64_fit _) _
  change Calls Try.prog 44 _ _ (fun e w' => e = .returned (.int .u64 (w64 (c (b + 1) + v))) ∧ IsMem w' P R N (upd c (b + 1) (w64 (c (b + 1) + v))) _ _ ∧ _) at K2
  generalize w64 (c (b + 1) + v) = x at K2 hu
  go_enter Try.func35, Try.ntmps35
  go_wp2_with fail
  go_region_held3 (fun u => u.cell? ⟨T, 0, none⟩ = some (.pointer (some ⟨P, 0, none⟩)) ∧ u.cell? ⟨T, 1, none⟩ = some (.int .i64 (b : Int))) (first | assumption | exact ⟨t0, t1⟩ | exact ⟨h1.t0, h1.t1⟩) (first
    | (go_at_call 44; first | rw [hw.out] | skip; refine K2.mono ?_; clear K2; rintro e w1 ⟨rfl, m1, b1⟩; have h1 := h.moved m1 b1.undrew hu))
  go_wp2_with fail
  go_ret
  exact ⟨rfl, h1, b1.undrew⟩
set_option maxHeartbeats 2000000 in
theorem adv_hit (h : Sys w P R N T b n c ops fails) (x : Int) (hx : c b = x) :
    Calls Try.prog 58 #[.pointer (some ⟨T, 0, none⟩), .int .u64 x] w fun e w' => e = .returned (.bool true) ∧ Sys w' P R N T b n (upd c b (w64 (x + 1))) (wrap64 (ops + 1)) fails ∧ Moved P R w w' := by
  have t0 := h.t0
  have t1 := h.t1
  have hr := h.room
  have hsm := h.small
  have hp := h.pos
  have K2 := cas_hit P R N c ops fails w.drew b (w64 (x + 1)) (by omega) h.mem.drew
  rw [hx] at K2
  have hw1 : IntKind.i64.wrap (b : Int) = (b : Int) := by rw [IntKind.wrap_i64]; omega
  have hw2 : IntKind.u64.wrap (x + 1) = w64 (x + 1) := by rw [IntKind.wrap_u64]; rfl
  have hw3 : (x + 1) % 18446744073709551616 = w64 (x + 1) := rfl
  have hu : U64 (upd c b (w64 (x + 1))) := upd_fit h.fit (w64_fit _) _
  generalize w64 (x + 1) = y at K2 hu hw2 hw3
  go_enter Try.func58, Try.ntmps58
  go_wp2_with fail
  go_region_held3 (fun u => u.cell? ⟨T, 0, none⟩ = some (.pointer (some ⟨P, 0, none⟩)) ∧ u.cell? ⟨T, 1, none⟩ = some (.int .i64 (b : Int))) (first | assumption | exact ⟨t0, t1⟩ | exact ⟨h1.t0, h1.t1⟩) (first
    | (go_at_call 60; refine K2.mono ?_; clear K2; rintro e w1 ⟨rfl, m1, b1⟩; have h1 := h.moved m1 b1.undrew hu))
  go_wp2_with fail
  go_ret
  exact ⟨rfl, h1, b1.undrew⟩
set_option maxHeartbeats 2000000 in
theorem adv_miss (h : Sys w P R N T b n c ops fails) (x : Int) (hx : ¬ c b = x) :
    Calls Try.prog 58 #[.pointer (some ⟨T, 0, none⟩), .int .u64 x] w fun e w' => e = .returned (.bool false) ∧ Sys w' P R N T b n c (wrap64 (ops + 1)) (wrap64 (fails + 1)) ∧ Moved P R w w' := by
  have t0 := h.t0
  have t1 := h.t1
  have hr := h.room
  have hsm := h.small
  have hp := h.pos
  have K2 := cas_miss P R N c ops fails w.drew b x (w64 (x + 1)) (by omega) hx h.mem.drew
  have hw1 : IntKind.i64.wrap (b : Int) = (b : Int) := by rw [IntKind.wrap_i64]; omega
  have hw2 : IntKind.u64.wrap (x + 1) = w64 (x + 1) := by rw [IntKind.wrap_u64]; rfl
  have hw3 : (x + 1) % 18446744073709551616 = w64 (x + 1) := rfl
  generalize w64 (x + 1) = y at K2 hw2 hw3
  clear hx
  go_enter Try.func58, Try.ntmps58
  go_wp2_with fail
  go_region_held3 (fun u => u.cell? ⟨T, 0, none⟩ = some (.pointer (some ⟨P, 0, none⟩)) ∧ u.cell? ⟨T, 1, none⟩ = some (.int .i64 (b : Int))) (first | assumption | exact ⟨t0, t1⟩ | exact ⟨h1.t0, h1.t1⟩) (first
    | (go_at_call 60; refine K2.mono ?_; clear K2; rintro e w1 ⟨rfl, m1, b1⟩; have h1 := h.moved m1 b1.undrew h.fit))
  go_wp2_with fail
  go_ret
  exact ⟨rfl, h1, b1.undrew⟩
set_option maxHeartbeats 2000000 in
theorem place_any (h : Sys w P R N T b n c ops fails) (x : Int) (h0 : 0 ≤ x) :
    Calls Try.prog 51 #[.pointer (some ⟨T, 0, none⟩), .int .u64 x] w fun e w' => e = .returned (.int .i64 ((pl b n x : Nat) : Int)) ∧ ∃ q, w' = w.drewN q := by
  have t1 := h.t1
  have t2 := h.t2
  have hr := h.room
  have hsm := h.small
  have hp := h.pos
  have h1 := Int.emod_nonneg x (show (n : Int) ≠ 0 by omega)
  have h2 := Int.emod_lt_of_pos x (show (0 : Int) < (n : Int) by omega)
  have hpl : ((pl b n x : Nat) : Int) = (b : Int) + 2 + x % (n : Int) := by unfold pl; omega
  obtain ⟨r, hr2⟩ : ∃ r, x % (n : Int) = r := ⟨_, rfl⟩
  have ht : Int.tmod x (n : Int) = r := by rw [Int.tmod_eq_emod_of_nonneg h0]; exact hr2
  rw [hr2] at hpl h1 h2
  rw [hpl]
  clear hpl
  have hm0 : ((n : Int) == 0) = false := by simp; omega
  have hm1 : ¬ (n : Int) = 0 := by omega
  have q1 : IntKind.u64.wrap (n : Int) = (n : Int) := by rw [IntKind.wrap_u64]; omega
  have q2 : IntKind.i64.wrap ((b : Int) + 2) = (b : Int) + 2 := by rw [IntKind.wrap_i64]; omega
  have q3 : IntKind.i64.wrap r = r := by rw [IntKind.wrap_i64]; omega
  have q4 : IntKind.u64.wrap r = r := by rw [IntKind.wrap_u64]; omega
  have q5 : IntKind.i64.wrap ((b : Int) + 2 + r) = (b : Int) + 2 + r := by rw [IntKind.wrap_i64]; omega
  go_enter Try.func51, Try.ntmps51
  go_wp2_with fail
  go_quiet (fail)
  go_wp2_with fail
  go_ret
  exact ⟨rfl, _, rfl⟩
end
end Go.Proofs.Ytfpgdmnbehingaa
