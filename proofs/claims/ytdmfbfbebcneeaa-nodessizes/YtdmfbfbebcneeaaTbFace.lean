/-
  What New, Find, Len, Has and Clear do.
-/
import Derived.Test.YtdmfbfbebcneeaaTbStep
namespace Go.Proofs.Ytdmfbfbebcneeaa.Tb
open Go Go.RowKit
attribute [local go_sem] run_store_nil run_store_func

section
variable {w w' : World} {P R N T base n F : Nat} {c : Nat → Int} {ops fails : Int} {S : Fd}

theorem tab_new (h : IsMem w P R N c ops fails) (base n : Nat) (hn : 1 ≤ n) (hr : base + n ≤ N) (hN : N ≤ 262144) :
    Calls Try.prog 35 #[.pointer (some ⟨P, 0, none⟩), .int .i64 (base : Int), .int .i64 (n : Int)] w fun e w' => e = .returned (.tuple #[.pointer (some ⟨w.heap.size, 0, none⟩), .int .i64 0]) ∧ w' = w.alloc (.cells #[.pointer (some ⟨P, 0, none⟩), .int .i64 (base : Int), .int .i64 (n : Int)] 82) := by
  have K := len_any P R N c ops fails w h
  have h1 : ¬ (base : Int) < 0 := by omega
  have h2 : ¬ (n : Int) < 1 := by omega
  have h3 : ¬ (N : Int) - (base : Int) < (n : Int) := by omega
  go_enter Try.func35, Try.ntmps35
  go_wp2_with (first
    | (go_at_call 48; refine K.mono ?_; clear K; rintro e w1 ⟨rfl, rfl⟩))
  go_ret2
  exact ⟨rfl, rfl⟩
/-- A new finder of a key. -/
theorem find_any (h : Sys w P R N T base n c ops fails) (k : Int) (h0 : 0 < k) (h1 : k ≤ 18446744073709551615) :
    Calls Try.prog 62 #[.pointer (some ⟨T, 19, none⟩), .int .u64 k] w fun e w' => e = .returned (.pointer (some ⟨w.heap.size, 0, none⟩)) ∧ IsFd w' w.heap.size T (Fd.start n k) ∧ Below w.heap.size w w' ∧ w.heap.size < w'.heap.size := by
  have t2 := h.t2
  have hp := h.pos
  have hN : n ≤ 262144 := by have := h.room; have := h.small; omega
  have K := home_any k n w (by omega) h1 h.pos hN
  have hk : (k != 0) = true := by simp; omega
  have hk2 : ¬ k = 0 := by omega
  have fd : IsFd (w.alloc (.cells #[.pointer (some ⟨T, 19, none⟩), .int .u64 k, .int .i64 ((home k n : Nat) : Int), .int .i64 0, .nilFunc, .bool false, .bool false] 141)) w.heap.size T ⟨k, home k n, 0, 0, false, false⟩ := Go.Deep.blk_alloc_new _ _
  have t2' : (w.alloc (.cells #[.pointer (some ⟨T, 19, none⟩), .int .u64 k, .int .i64 ((home k n : Nat) : Int), .int .i64 0, .nilFunc, .bool false, .bool false] 141)).cell? ⟨T, 21, none⟩ = some (.int .i64 (n : Int)) := (h.new _).t2
  have Ka := ask_any fd n
  have hS : Aside (Fd.start n k = ⟨k, home k n, n, if n = 0 then 0 else 1, false, false⟩) := by simp only [Aside, Fd.start]; rw [if_neg (by omega)]
  generalize home k n = q at K Ka fd t2' hS
  have bel : Below w.heap.size w (w.alloc (.cells #[.pointer (some ⟨T, 19, none⟩), .int .u64 k, .int .i64 (q : Int), .int .i64 0, .nilFunc, .bool false, .bool false] 141)) := (Below.refl _ _).alloc (Nat.le_refl _) _
  have siz : w.heap.size < (w.alloc (.cells #[.pointer (some ⟨T, 19, none⟩), .int .u64 k, .int .i64 (q : Int), .int .i64 0, .nilFunc, .bool false, .bool false] 141)).heap.size := by simp
  go_enter Try.func62, Try.ntmps62
  go_wp2_with (first
    | (go_at_call 75; refine K.mono ?_; clear K; rintro e w1 ⟨rfl, rfl⟩)
    | (go_at_call 78; refine Ka.mono ?_; clear Ka; rintro e w3 ⟨rfl, k3, o3⟩))
  go_ret
  rw [hS.out]
  exact ⟨rfl, k3, bel.trans (Went.below o3 (by omega) fun i e => by omega), Nat.lt_of_lt_of_le siz o3.size⟩
/-- A finder of key 0. -/
theorem find_zero (h : Sys w P R N T base n c ops fails) :
    Calls Try.prog 62 #[.pointer (some ⟨T, 19, none⟩), .int .u64 0] w fun e w' => e = .returned (.pointer (some ⟨w.heap.size, 0, none⟩)) ∧ IsFd w' w.heap.size T (Fd.none n) ∧ Below w.heap.size w w' ∧ w.heap.size < w'.heap.size := by
  have t2 := h.t2
  have hp := h.pos
  have hN : n ≤ 262144 := by have := h.room; have := h.small; omega
  have K := home_any 0 n w (by omega) (by omega) h.pos hN
  have fd : IsFd (w.alloc (.cells #[.pointer (some ⟨T, 19, none⟩), .int .u64 0, .int .i64 ((home 0 n : Nat) : Int), .int .i64 0, .nilFunc, .bool false, .bool false] 141)) w.heap.size T ⟨0, home 0 n, 0, 0, false, false⟩ := Go.Deep.blk_alloc_new _ _
  have hS : Aside (Fd.none n = ⟨0, home 0 n, 0, 0, false, false⟩) := rfl
  generalize home 0 n = q at K fd hS
  go_enter Try.func62, Try.ntmps62
  go_wp2_with (first
    | (go_at_call 75; refine K.mono ?_; clear K; rintro e w1 ⟨rfl, rfl⟩))
  go_ret
  rw [hS.out]
  exact ⟨rfl, fd, (Below.refl _ _).alloc (Nat.le_refl _) _, by simp⟩

end
end Go.Proofs.Ytdmfbfbebcneeaa.Tb
