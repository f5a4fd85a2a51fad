/-
  What New, Cells, Push, Pop, Steal and Len do.
-/
import Derived.Test.YtfpgdmnbehingaaFace
namespace Go.Proofs.Ytfpgdmnbehingaa
open Go Go.RowKit
attribute [local go_sem] run_store_nil run_store_func

section
variable {w w' : World} {P R N T b n A : Nat} {c : Nat → Int} {ops fails : Int} {S : Ac}
theorem cells_any (n : Nat) (w : World) (hn1 : 1 ≤ n) (hn : n ≤ 1000000) :
    Calls Try.prog 10 #[.int .i64 (n : Int)] w fun e w' => e = .returned (.int .i64 ((n : Int) + 2)) ∧ w' = w := by
  have h1 : ¬ (n : Int) < 1 := by omega
  have h2 : ¬ (9223372036854775805 : Int) < (n : Int) := by omega
  go_enter Try.func10, Try.ntmps10
  go_wp2
  go_ret
  exact ⟨rfl, rfl⟩
theorem cells_zero (w : World) :
    Calls Try.prog 10 #[.int .i64 0] w fun e w' => e = .returned (.int .i64 0) ∧ w' = w := by
  go_enter Try.func10, Try.ntmps10
  go_wp2
  go_ret
  exact ⟨rfl, rfl⟩
theorem deque_new (h : IsMem w P R N c ops fails) (b n : Nat) (hn : 1 ≤ n) (hn2 : n ≤ 256) (hr : b + 2 + n ≤ N) (hN : N ≤ 262144) (hc : U64 c) :
    Calls Try.prog 11 #[.pointer (some ⟨P, 0, none⟩), .int .i64 (b : Int), .int .i64 (n : Int)] w fun e w' => e = .returned (.tuple #[.pointer (some ⟨w.heap.size, 0, none⟩), .int .i64 0]) ∧ Sys w' P R N w.heap.size b n c ops fails ∧ Below w.heap.size w w' ∧ w'.heap.size = w.heap.size + 1 := by
  have K := len_any P R N c ops fails w h
  have K2 := cells_any n w hn (by omega)
  have h1 : ¬ (b : Int) < 0 := by omega
  have h2 : ¬ (n : Int) < 1 := by omega
  have h3 : ¬ (256 : Int) < (n : Int) := by omega
  have h4 : ¬ (N : Int) - (b : Int) < (n : Int) + 2 := by omega
  have key : Sys (w.alloc (.cells #[.pointer (some ⟨P, 0, none⟩), .int .i64 (b : Int), .int .i64 (n : Int)] 63)) P R N w.heap.size b n c ops fails :=
    ⟨h.new _, Go.Deep.blk_alloc_new _ _, hr, hn, hN, hc⟩
  go_enter Try.func11, Try.ntmps11
  go_wp2_with (first
    | (go_at_call 10; refine K2.mono ?_; clear K2; rintro e w1 ⟨rfl, rfl⟩)
    | (go_at_call 24; refine K.mono ?_; clear K; rintro e w1 ⟨rfl, rfl⟩))
  go_ret2
  exact ⟨rfl, key, (Below.refl _ _).alloc (Nat.le_refl _) _, by simp⟩
theorem deque_none (h : IsMem w P R N c ops fails) (b n : Nat) (hn : 1 ≤ n) (hn2 : n ≤ 256) (hr : N < b + 2 + n) (hN : N ≤ 262144) (hb : b ≤ 262144) :
    Calls Try.prog 11 #[.pointer (some ⟨P, 0, none⟩), .int .i64 (b : Int), .int .i64 (n : Int)] w fun e w' => e = .returned (.tuple #[.pointer none, .int .i64 61]) ∧ w' = w := by
  have K := len_any P R N c ops fails w h
  have K2 := cells_any n w hn (by omega)
  have h1 : ¬ (b : Int) < 0 := by omega
  have h2 : ¬ (n : Int) < 1 := by omega
  have h3 : ¬ (256 : Int) < (n : Int) := by omega
  have h4 : (N : Int) - (b : Int) < (n : Int) + 2 := by omega
  go_enter Try.func11, Try.ntmps11
  go_wp2_with (first
    | (go_at_call 10; refine K2.mono ?_; clear K2; rintro e w1 ⟨rfl, rfl⟩)
    | (go_at_call 24; refine K.mono ?_; clear K; rintro e w1 ⟨rfl, rfl⟩))
  go_ret2
  exact ⟨rfl, rfl⟩
theorem deque_zero (P : Nat) (b : Int) (w : World) :
    Calls Try.prog 11 #[.pointer (some ⟨P, 0, none⟩), .int .i64 b, .int .i64 0] w fun e w' => e = .returned (.tuple #[.pointer none, .int .i64 61]) ∧ w' = w := by
  go_enter Try.func11, Try.ntmps11
  go_wp2_with fail
  go_ret2
  exact ⟨rfl, rfl⟩

/-- An act as it is laid. -/
theorem act_made (w : World) (T : Nat) (v : Int) (l st : Nat) : IsAct (w.alloc (.cells #[.pointer (some ⟨T, 0, none⟩), .int .u64 0, .int .u64 0, .int .u64 v, .int .i64 (l : Int), nextV w.heap.size st, .bool false] 65)) w.heap.size T ⟨0, 0, v, l, st, false⟩ := by
  have e : (w.alloc (.cells #[.pointer (some ⟨T, 0, none⟩), .int .u64 0, .int .u64 0, .int .u64 v, .int .i64 (l : Int), nextV w.heap.size st, .bool false] 65)).heap[w.heap.size]? = some _ := Go.Deep.blk_alloc_new _ _
  exact e
theorem push_any (T : Nat) (v : Int) (w : World) :
    Calls Try.prog 13 #[.pointer (some ⟨T, 0, none⟩), .int .u64 v] w fun e w' => e = .returned (.pointer (some ⟨w.heap.size, 0, none⟩)) ∧ IsAct w' w.heap.size T (Ac.ofPush v) ∧ Below w.heap.size w w' ∧ w'.heap.size = w.heap.size + 1 := by
  have hmf := mkf
  go_enter Try.func13, Try.ntmps13
  go_wp2_with fail
  go_ret
  exact ⟨rfl, act_made w T v 0 1, (Below.refl _ _).alloc (Nat.le_refl _) _, by simp⟩
theorem pop_any (T : Nat) (w : World) :
    Calls Try.prog 14 #[.pointer (some ⟨T, 0, none⟩)] w fun e w' => e = .returned (.pointer (some ⟨w.heap.size, 0, none⟩)) ∧ IsAct w' w.heap.size T Ac.ofPop ∧ Below w.heap.size w w' ∧ w'.heap.size = w.heap.size + 1 := by
  have hmf := mkf
  go_enter Try.func14, Try.ntmps14
  go_wp2_with fail
  go_ret
  exact ⟨rfl, act_made w T 0 0 5, (Below.refl _ _).alloc (Nat.le_refl _) _, by simp⟩
theorem steal_any (T : Nat) (w : World) :
    Calls Try.prog 15 #[.pointer (some ⟨T, 0, none⟩)] w fun e w' => e = .returned (.pointer (some ⟨w.heap.size, 0, none⟩)) ∧ IsAct w' w.heap.size T Ac.ofSteal ∧ Below w.heap.size w w' ∧ w'.heap.size = w.heap.size + 1 := by
  have hmf := mkf
  go_enter Try.func15, Try.ntmps15
  go_wp2_with fail
  go_ret
  exact ⟨rfl, act_made w T 0 4 10, (Below.refl _ _).alloc (Nat.le_refl _) _, by simp⟩
/-- Len when nobody is under way. -/
theorem dlen_any (h : Sys w P R N T b n c ops fails) {F E : Nat} {V : Nat → Int} (H : Holds b n c F E V) :
    Calls Try.prog 16 #[.pointer (some ⟨T, 0, none⟩)] w fun e w' => e = .returned (.int .i64 ((E - F : Nat) : Int)) ∧ (∃ o', Sys w' P R N T b n c o' fails) ∧ Moved P R w w' := by
  have K1 := dload0 h
  rw [H.first] at K1
  have K3 := fun w => ahead_any (F : Int) (E : Int) w
  have hs := H.small
  have hle := H.le
  have hroom := H.room
  rw [ah_small (by omega) (by omega)] at K3
  obtain ⟨d, hd⟩ : ∃ d : Nat, E - F = d := ⟨_, rfl⟩
  rw [hd]
  have e : (E : Int) - (F : Int) = (d : Int) := by omega
  rw [e] at K3
  have hdn : d ≤ n := by omega
  have hmx : (if (0 : Int) > (d : Int) then 0 else (d : Int)) = (d : Int) := if_neg (by omega)
  have hmn : (if (n : Int) < (d : Int) then (n : Int) else (d : Int)) = (d : Int) := if_neg (by omega)
  have hL := H.last
  clear e hd hle hs hroom
  go_enter Try.func16, Try.ntmps16
  go_wp2_with (first
    | (go_at_call 28; refine K1.mono ?_; clear K1; rintro e w1 ⟨rfl, h1, b1⟩; have K2 := dload1 h1; rw [hL] at K2; clear hL)
    | (go_at_call 28; refine K2.mono ?_; clear K2; rintro e w2 ⟨rfl, h2, b2⟩; have s2 := h2.t2)
    | (go_at_call 29; refine (K3 _).mono ?_; rintro e w3 ⟨rfl, rfl⟩))
  go_ret
  exact ⟨rfl, ⟨_, h2⟩, b1.trans b2⟩
end
end Go.Proofs.Ytfpgdmnbehingaa
