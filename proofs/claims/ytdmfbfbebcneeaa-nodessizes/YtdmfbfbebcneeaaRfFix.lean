/-
  What Fix of the reference returns.
-/
import Derived.Test.YtdmfbfbebcneeaaRfRefb
namespace Go.Proofs.Ytdmfbfbebcneeaa.Rf
open Go Go.RowKit

theorem IsTab.copy {w : World} {b : Nat} {F : Nat → Bool} (h : IsTab w b F) : w.cell? ⟨b, 0, none⟩ = some (.int .u64 (word F 0 : Int)) ∧ w.cell? ⟨b, 1, none⟩ = some (.int .u64 (word F 1 : Int)) ∧ w.cell? ⟨b, 2, none⟩ = some (.int .u64 (word F 2 : Int)) ∧ w.cell? ⟨b, 3, none⟩ = some (.int .u64 (word F 3 : Int)) := ⟨h.cell (by decide), h.cell (by decide), h.cell (by decide), h.cell (by decide)⟩

/-- Fix of no variable: the function itself. -/
theorem fix_none (F : Nat → Bool) (v : Int) (b : Bool) (hv : v < 0 ∨ 8 ≤ v) (w : World) :
    Calls Try.prog 42 #[tab F, .int .i64 v, .bool b] w fun e w' => e = .returned (tab F) ∧ Below w.heap.size w w' := by
  conv in #[tab F, Value.int IntKind.i64 v, Value.bool b] => unfold tab
  go_enter Try.func42, Try.ntmps42
  go_wp2_with fail
  all_goals exact bodyPost_ret (results_tab rfl rfl (IsTab.newAt (by simp) F)) rfl ⟨rfl, ((Below.refl _ w).alloc (Nat.le_refl _) _).alloc (by simp) _⟩

/-- Four words that are a table's. -/
theorem IsTab.wordsAt {w : World} {n : Nat} (hn : w.heap.size = n) (G : Nat → Bool) {a b c d : Nat} (h0 : word G 0 = a) (h1 : word G 1 = b) (h2 : word G 2 = c) (h3 : word G 3 = d) : IsTab (w.alloc (.cells #[.int .u64 (a : Int), .int .u64 (b : Int), .int .u64 (c : Int), .int .u64 (d : Int)] 46)) n G := by
  subst h0 h1 h2 h3
  exact IsTab.newAt hn G

theorem fix_6_false (F : Nat → Bool) (w : World) :
    Calls Try.prog 42 #[tab F, .int .i64 6, .bool false] w fun e w' => e = .returned (tab (fixF F 6 false)) ∧ Below w.heap.size w w' := by
  have a0 : bits .and .i64 0 1 = 0 := by decide
  have o0 : bits .or .i64 0 1 = 1 := by decide
  have a1 : bits .and .i64 1 1 = 1 := by decide
  have a2 : bits .and .i64 2 1 = 0 := by decide
  have o2 : bits .or .i64 2 1 = 3 := by decide
  have a3 : bits .and .i64 3 1 = 1 := by decide
  conv in #[tab F, Value.int IntKind.i64 6, Value.bool false] => unfold tab
  go_enter Try.func42, Try.ntmps42
  go_wp2_with fail
  refine wp_loop_rounds 5 ?_
  rw [rounds_succ]
  go_wp2_with fail
  rw [rounds_succ]
  go_wp2_with fail
  rw [rounds_succ]
  go_wp2_with fail
  rw [rounds_succ]
  go_wp2_with fail
  rw [rounds_succ]
  go_wp2_with fail
  exact bodyPost_ret (results_tab rfl rfl (IsTab.wordsAt (by simp) (fixF F 6 false) (fix6 F false 0 (by decide)) (fix6 F false 1 (by decide)) (fix6 F false 2 (by decide)) (fix6 F false 3 (by decide)))) rfl ⟨rfl, ((Below.refl _ w).alloc (Nat.le_refl _) _).alloc (by simp) _⟩
theorem fix_6_true (F : Nat → Bool) (w : World) :
    Calls Try.prog 42 #[tab F, .int .i64 6, .bool true] w fun e w' => e = .returned (tab (fixF F 6 true)) ∧ Below w.heap.size w w' := by
  have a0 : bits .and .i64 0 1 = 0 := by decide
  have o0 : bits .or .i64 0 1 = 1 := by decide
  have a1 : bits .and .i64 1 1 = 1 := by decide
  have a2 : bits .and .i64 2 1 = 0 := by decide
  have o2 : bits .or .i64 2 1 = 3 := by decide
  have a3 : bits .and .i64 3 1 = 1 := by decide
  conv in #[tab F, Value.int IntKind.i64 6, Value.bool true] => unfold tab
  go_enter Try.func42, Try.ntmps42
  go_wp2_with fail
  refine wp_loop_rounds 5 ?_
  rw [rounds_succ]
  go_wp2_with fail
  rw [rounds_succ]
  go_wp2_with fail
  rw [rounds_succ]
  go_wp2_with fail
  rw [rounds_succ]
  go_wp2_with fail
  rw [rounds_succ]
  go_wp2_with fail
  exact bodyPost_ret (results_tab rfl rfl (IsTab.wordsAt (by simp) (fixF F 6 true) (fix6 F true 0 (by decide)) (fix6 F true 1 (by decide)) (fix6 F true 2 (by decide)) (fix6 F true 3 (by decide)))) rfl ⟨rfl, ((Below.refl _ w).alloc (Nat.le_refl _) _).alloc (by simp) _⟩
theorem fix_7_false (F : Nat → Bool) (w : World) :
    Calls Try.prog 42 #[tab F, .int .i64 7, .bool false] w fun e w' => e = .returned (tab (fixF F 7 false)) ∧ Below w.heap.size w w' := by
  have a0 : bits .and .i64 0 2 = 0 := by decide
  have o0 : bits .or .i64 0 2 = 2 := by decide
  have a1 : bits .and .i64 1 2 = 0 := by decide
  have o1 : bits .or .i64 1 2 = 3 := by decide
  have a2 : bits .and .i64 2 2 = 2 := by decide
  have a3 : bits .and .i64 3 2 = 2 := by decide
  conv in #[tab F, Value.int IntKind.i64 7, Value.bool false] => unfold tab
  go_enter Try.func42, Try.ntmps42
  go_wp2_with fail
  refine wp_loop_rounds 5 ?_
  rw [rounds_succ]
  go_wp2_with fail
  rw [rounds_succ]
  go_wp2_with fail
  rw [rounds_succ]
  go_wp2_with fail
  rw [rounds_succ]
  go_wp2_with fail
  rw [rounds_succ]
  go_wp2_with fail
  exact bodyPost_ret (results_tab rfl rfl (IsTab.wordsAt (by simp) (fixF F 7 false) (fix7 F false 0 (by decide)) (fix7 F false 1 (by decide)) (fix7 F false 2 (by decide)) (fix7 F false 3 (by decide)))) rfl ⟨rfl, ((Below.refl _ w).alloc (Nat.le_refl _) _).alloc (by simp) _⟩
theorem fix_7_true (F : Nat → Bool) (w : World) :
    Calls Try.prog 42 #[tab F, .int .i64 7, .bool true] w fun e w' => e = .returned (tab (fixF F 7 true)) ∧ Below w.heap.size w w' := by
  have a0 : bits .and .i64 0 2 = 0 := by decide
  have o0 : bits .or .i64 0 2 = 2 := by decide
  have a1 : bits .and .i64 1 2 = 0 := by decide
  have o1 : bits .or .i64 1 2 = 3 := by decide
  have a2 : bits .and .i64 2 2 = 2 := by decide
  have a3 : bits .and .i64 3 2 = 2 := by decide
  conv in #[tab F, Value.int IntKind.i64 7, Value.bool true] => unfold tab
  go_enter Try.func42, Try.ntmps42
  go_wp2_with fail
  refine wp_loop_rounds 5 ?_
  rw [rounds_succ]
  go_wp2_with fail
  rw [rounds_succ]
  go_wp2_with fail
  rw [rounds_succ]
  go_wp2_with fail
  rw [rounds_succ]
  go_wp2_with fail
  rw [rounds_succ]
  go_wp2_with fail
  exact bodyPost_ret (results_tab rfl rfl (IsTab.wordsAt (by simp) (fixF F 7 true) (fix7 F true 0 (by decide)) (fix7 F true 1 (by decide)) (fix7 F true 2 (by decide)) (fix7 F true 3 (by decide)))) rfl ⟨rfl, ((Below.refl _ w).alloc (Nat.le_refl _) _).alloc (by simp) _⟩
end Go.Proofs.Ytdmfbfbebcneeaa.Rf
