/-
  The walk of MemBounds: for all three numbers it tells true, and old memory is as it was.
-/
import Derived.Test.YtkfdmclobodfgaaNew
namespace Go.Proofs.Ytkfdmclobodfgaa
open Go Go.RowKit

/-- Below the first block of a call's own nothing has turned. -/
theorem below_far {a b c : World} (h : Below a.heap.size a b) (k : Below b.heap.size b c) : Below a.heap.size a c :=
  h.trans (k.mono h.size)

theorem upd_same (c : Nat → Int) (i : Nat) (v : Int) : upd c i v i = v := by simp [upd]

/-- Where the cell isn't there (no cells at all, below them). -/
theorem bounds_neg_below (n i v : Int) (hn : n ≤ 0) (hi : i < 0) (w : World) :
    Calls Try.prog 6 #[.int .i64 n, .int .i64 i, .int .u64 v] w fun e w' => e = .returned (.bool true) ∧ Below w.heap.size w w' := by
  have hk : Hid ((held n : Int) = 0) := by simp only [Hid, held]; split <;> (try split) <;> omega
  have hi' : i < 0 ∨ ((held n : Nat) : Int) ≤ i := by rw [hk.out]; omega
  have hs : decide (3000 < n) = false := by simp; omega
  have hd : decide (0 ≤ i) = false := by simp; omega
  go_enter Try.func6, Try.ntmps6
  go_wp2_with (first
    | (go_at_call 8; refine (known_any w).mono ?_; rintro e w1 ⟨rfl, b1⟩)
    | (go_at_call 9; refine (new_any n w1).mono ?_; rintro e w2 ⟨rfl, m2, b2, s2⟩)
    | (go_at_call 16; refine (len_any _ _ _ _ _ _ _ m2).mono ?_; rw [hk.out]; rintro e w' ⟨rfl, rfl⟩)
    | (go_at_call 11; refine (store_out _ _ _ _ _ _ _ i v hi' m2).mono ?_; rintro e w' ⟨rfl, rfl⟩)
    | (go_at_call 10; refine (load_out _ _ _ _ _ _ _ i hi' m2).mono ?_; rintro e w' ⟨rfl, rfl⟩)
    | (go_at_call 12; refine (cas_out _ _ _ _ _ _ _ i _ _ hi' m2).mono ?_; rintro e w' ⟨rfl, rfl⟩)
    | (go_at_call 13; refine (add_out _ _ _ _ _ _ _ i _ hi' m2).mono ?_; rintro e w' ⟨rfl, rfl⟩)
    | (go_at_call 14; refine (ops_any _ _ _ _ _ _ _ m2).mono ?_; rintro e w' ⟨rfl, rfl⟩)
    | (go_at_call 15; refine (fails_any _ _ _ _ _ _ _ m2).mono ?_; rintro e w' ⟨rfl, rfl⟩))
  go_ret
  exact ⟨rfl, below_far b1 b2⟩

/-- Where the cell isn't there (no cells at all, above them). -/
theorem bounds_neg_above (n i v : Int) (hn : n ≤ 0) (hi : 0 ≤ i) (w : World) :
    Calls Try.prog 6 #[.int .i64 n, .int .i64 i, .int .u64 v] w fun e w' => e = .returned (.bool true) ∧ Below w.heap.size w w' := by
  have hk : Hid ((held n : Int) = 0) := by simp only [Hid, held]; split <;> (try split) <;> omega
  have hi' : i < 0 ∨ ((held n : Nat) : Int) ≤ i := by rw [hk.out]; omega
  have hs : decide (3000 < n) = false := by simp; omega
  have hd : decide (0 ≤ i) = true := by simp; omega
  have hd2 : decide (i < 0) = false := by simp; omega
  go_enter Try.func6, Try.ntmps6
  go_wp2_with (first
    | (go_at_call 8; refine (known_any w).mono ?_; rintro e w1 ⟨rfl, b1⟩)
    | (go_at_call 9; refine (new_any n w1).mono ?_; rintro e w2 ⟨rfl, m2, b2, s2⟩)
    | (go_at_call 16; refine (len_any _ _ _ _ _ _ _ m2).mono ?_; rw [hk.out]; rintro e w' ⟨rfl, rfl⟩)
    | (go_at_call 11; refine (store_out _ _ _ _ _ _ _ i v hi' m2).mono ?_; rintro e w' ⟨rfl, rfl⟩)
    | (go_at_call 10; refine (load_out _ _ _ _ _ _ _ i hi' m2).mono ?_; rintro e w' ⟨rfl, rfl⟩)
    | (go_at_call 12; refine (cas_out _ _ _ _ _ _ _ i _ _ hi' m2).mono ?_; rintro e w' ⟨rfl, rfl⟩)
    | (go_at_call 13; refine (add_out _ _ _ _ _ _ _ i _ hi' m2).mono ?_; rintro e w' ⟨rfl, rfl⟩)
    | (go_at_call 14; refine (ops_any _ _ _ _ _ _ _ m2).mono ?_; rintro e w' ⟨rfl, rfl⟩)
    | (go_at_call 15; refine (fails_any _ _ _ _ _ _ _ m2).mono ?_; rintro e w' ⟨rfl, rfl⟩))
  go_ret
  exact ⟨rfl, below_far b1 b2⟩

/-- Where the cell isn't there (as many as are asked for, below them). -/
theorem bounds_few_below (n i v : Int) (hn : 0 < n) (hn1 : n ≤ 3000) (hi : i < 0) (w : World) :
    Calls Try.prog 6 #[.int .i64 n, .int .i64 i, .int .u64 v] w fun e w' => e = .returned (.bool true) ∧ Below w.heap.size w w' := by
  have hk : Hid ((held n : Int) = n) := by simp only [Hid, held]; rw [if_neg (by omega), if_neg (by omega)]; omega
  have hi' : i < 0 ∨ ((held n : Nat) : Int) ≤ i := by rw [hk.out]; omega
  have hs : decide (3000 < n) = false := by simp; omega
  have hd : decide (0 ≤ i) = false := by simp; omega
  go_enter Try.func6, Try.ntmps6
  go_wp2_with (first
    | (go_at_call 8; refine (known_any w).mono ?_; rintro e w1 ⟨rfl, b1⟩)
    | (go_at_call 9; refine (new_any n w1).mono ?_; rintro e w2 ⟨rfl, m2, b2, s2⟩)
    | (go_at_call 16; refine (len_any _ _ _ _ _ _ _ m2).mono ?_; rw [hk.out]; rintro e w' ⟨rfl, rfl⟩)
    | (go_at_call 11; refine (store_out _ _ _ _ _ _ _ i v hi' m2).mono ?_; rintro e w' ⟨rfl, rfl⟩)
    | (go_at_call 10; refine (load_out _ _ _ _ _ _ _ i hi' m2).mono ?_; rintro e w' ⟨rfl, rfl⟩)
    | (go_at_call 12; refine (cas_out _ _ _ _ _ _ _ i _ _ hi' m2).mono ?_; rintro e w' ⟨rfl, rfl⟩)
    | (go_at_call 13; refine (add_out _ _ _ _ _ _ _ i _ hi' m2).mono ?_; rintro e w' ⟨rfl, rfl⟩)
    | (go_at_call 14; refine (ops_any _ _ _ _ _ _ _ m2).mono ?_; rintro e w' ⟨rfl, rfl⟩)
    | (go_at_call 15; refine (fails_any _ _ _ _ _ _ _ m2).mono ?_; rintro e w' ⟨rfl, rfl⟩))
  go_ret
  exact ⟨rfl, below_far b1 b2⟩

/-- Where the cell isn't there (as many as are asked for, above them). -/
theorem bounds_few_above (n i v : Int) (hn : 0 < n) (hn1 : n ≤ 3000) (hi : n ≤ i) (w : World) :
    Calls Try.prog 6 #[.int .i64 n, .int .i64 i, .int .u64 v] w fun e w' => e = .returned (.bool true) ∧ Below w.heap.size w w' := by
  have hk : Hid ((held n : Int) = n) := by simp only [Hid, held]; rw [if_neg (by omega), if_neg (by omega)]; omega
  have hi' : i < 0 ∨ ((held n : Nat) : Int) ≤ i := by rw [hk.out]; omega
  have hs : decide (3000 < n) = false := by simp; omega
  have hd : decide (0 ≤ i) = true := by simp; omega
  have hd2 : decide (i < n) = false := by simp; omega
  go_enter Try.func6, Try.ntmps6
  go_wp2_with (first
    | (go_at_call 8; refine (known_any w).mono ?_; rintro e w1 ⟨rfl, b1⟩)
    | (go_at_call 9; refine (new_any n w1).mono ?_; rintro e w2 ⟨rfl, m2, b2, s2⟩)
    | (go_at_call 16; refine (len_any _ _ _ _ _ _ _ m2).mono ?_; rw [hk.out]; rintro e w' ⟨rfl, rfl⟩)
    | (go_at_call 11; refine (store_out _ _ _ _ _ _ _ i v hi' m2).mono ?_; rintro e w' ⟨rfl, rfl⟩)
    | (go_at_call 10; refine (load_out _ _ _ _ _ _ _ i hi' m2).mono ?_; rintro e w' ⟨rfl, rfl⟩)
    | (go_at_call 12; refine (cas_out _ _ _ _ _ _ _ i _ _ hi' m2).mono ?_; rintro e w' ⟨rfl, rfl⟩)
    | (go_at_call 13; refine (add_out _ _ _ _ _ _ _ i _ hi' m2).mono ?_; rintro e w' ⟨rfl, rfl⟩)
    | (go_at_call 14; refine (ops_any _ _ _ _ _ _ _ m2).mono ?_; rintro e w' ⟨rfl, rfl⟩)
    | (go_at_call 15; refine (fails_any _ _ _ _ _ _ _ m2).mono ?_; rintro e w' ⟨rfl, rfl⟩))
  go_ret
  exact ⟨rfl, below_far b1 b2⟩

/-- Where the cell is there (as many as are asked for). -/
theorem bounds_few_in (n v : Int) (j : Nat) (hn : 0 < n) (hn1 : n ≤ 3000) (hj : (j : Int) < n) (w : World) :
    Calls Try.prog 6 #[.int .i64 n, .int .i64 (j : Int), .int .u64 v] w fun e w' => e = .returned (.bool true) ∧ Below w.heap.size w w' := by
  have hk : Hid ((held n : Int) = n) := by simp only [Hid, held]; rw [if_neg (by omega), if_neg (by omega)]; omega
  have hj' : j < held n := by have := hk.out; omega
  have hs : decide (3000 < n) = false := by simp; omega
  have hd2 : decide ((j : Int) < n) = true := by simp; omega
  go_enter Try.func6, Try.ntmps6
  go_wp2_with (first
    | (go_at_call 8; refine (known_any w).mono ?_; rintro e w1 ⟨rfl, b1⟩)
    | (go_at_call 9; refine (new_any n w1).mono ?_; rintro e w2 ⟨rfl, m2, b2, s2⟩)
    | (go_at_call 16; refine (len_any _ _ _ _ _ _ _ m2).mono ?_; rw [hk.out]; rintro e w' ⟨rfl, rfl⟩)
    | (go_at_call 11; refine (store_in _ _ _ _ _ _ _ j v hj' (by decide) m2).mono ?_; rintro e w3 ⟨rfl, m3, b3⟩)
    | (go_at_call 10; refine (load_in _ _ _ _ _ _ _ j hj' (by decide) m3).mono ?_; rw [upd_same]; rintro e w4 ⟨rfl, m4, b4⟩)
    | (go_at_call 13; refine (add_in _ _ _ _ _ _ _ j 1 hj' (by decide) m4).mono ?_; rw [upd_same]; rintro e w5 ⟨rfl, m5, b5⟩)
    | (go_at_call 14; refine (ops_any _ _ _ _ _ _ _ m5).mono ?_; rintro e w' ⟨rfl, rfl⟩))
  go_ret
  refine ⟨rfl, below_far b1 (b2.trans (((b3.trans b4).trans b5).below ?_ ?_ ?_))⟩ <;> omega

/-- Where the cell isn't there (3000 of them, below them). -/
theorem bounds_many_below (n i v : Int) (hn : 3000 < n) (hn1 : n ≤ 262144) (hi : i < 0) (w : World) :
    Calls Try.prog 6 #[.int .i64 n, .int .i64 i, .int .u64 v] w fun e w' => e = .returned (.bool true) ∧ Below w.heap.size w w' := by
  have hk : Hid ((held 3000 : Int) = 3000) := by simp [Hid, held]
  have hi' : i < 0 ∨ ((held 3000 : Nat) : Int) ≤ i := by rw [hk.out]; omega
  have hd : decide (0 ≤ i) = false := by simp; omega
  go_enter Try.func6, Try.ntmps6
  go_wp2_with (first
    | (go_at_call 8; refine (known_any w).mono ?_; rintro e w1 ⟨rfl, b1⟩)
    | (go_at_call 9; refine (new_any 3000 w1).mono ?_; rintro e w2 ⟨rfl, m2, b2, s2⟩)
    | (go_at_call 16; refine (len_any _ _ _ _ _ _ _ m2).mono ?_; rw [hk.out]; rintro e w' ⟨rfl, rfl⟩)
    | (go_at_call 11; refine (store_out _ _ _ _ _ _ _ i v hi' m2).mono ?_; rintro e w' ⟨rfl, rfl⟩)
    | (go_at_call 10; refine (load_out _ _ _ _ _ _ _ i hi' m2).mono ?_; rintro e w' ⟨rfl, rfl⟩)
    | (go_at_call 12; refine (cas_out _ _ _ _ _ _ _ i _ _ hi' m2).mono ?_; rintro e w' ⟨rfl, rfl⟩)
    | (go_at_call 13; refine (add_out _ _ _ _ _ _ _ i _ hi' m2).mono ?_; rintro e w' ⟨rfl, rfl⟩)
    | (go_at_call 14; refine (ops_any _ _ _ _ _ _ _ m2).mono ?_; rintro e w' ⟨rfl, rfl⟩)
    | (go_at_call 15; refine (fails_any _ _ _ _ _ _ _ m2).mono ?_; rintro e w' ⟨rfl, rfl⟩))
  go_ret
  exact ⟨rfl, below_far b1 b2⟩

/-- Where the cell isn't there (3000 of them, above them). -/
theorem bounds_many_above (n i v : Int) (hn : 3000 < n) (hn1 : n ≤ 262144) (hi : 3000 ≤ i) (w : World) :
    Calls Try.prog 6 #[.int .i64 n, .int .i64 i, .int .u64 v] w fun e w' => e = .returned (.bool true) ∧ Below w.heap.size w w' := by
  have hk : Hid ((held 3000 : Int) = 3000) := by simp [Hid, held]
  have hi' : i < 0 ∨ ((held 3000 : Nat) : Int) ≤ i := by rw [hk.out]; omega
  have hd : decide (0 ≤ i) = true := by simp; omega
  have hd2 : decide (i < 3000) = false := by simp; omega
  go_enter Try.func6, Try.ntmps6
  go_wp2_with (first
    | (go_at_call 8; refine (known_any w).mono ?_; rintro e w1 ⟨rfl, b1⟩)
    | (go_at_call 9; refine (new_any 3000 w1).mono ?_; rintro e w2 ⟨rfl, m2, b2, s2⟩)
    | (go_at_call 16; refine (len_any _ _ _ _ _ _ _ m2).mono ?_; rw [hk.out]; rintro e w' ⟨rfl, rfl⟩)
    | (go_at_call 11; refine (store_out _ _ _ _ _ _ _ i v hi' m2).mono ?_; rintro e w' ⟨rfl, rfl⟩)
    | (go_at_call 10; refine (load_out _ _ _ _ _ _ _ i hi' m2).mono ?_; rintro e w' ⟨rfl, rfl⟩)
    | (go_at_call 12; refine (cas_out _ _ _ _ _ _ _ i _ _ hi' m2).mono ?_; rintro e w' ⟨rfl, rfl⟩)
    | (go_at_call 13; refine (add_out _ _ _ _ _ _ _ i _ hi' m2).mono ?_; rintro e w' ⟨rfl, rfl⟩)
    | (go_at_call 14; refine (ops_any _ _ _ _ _ _ _ m2).mono ?_; rintro e w' ⟨rfl, rfl⟩)
    | (go_at_call 15; refine (fails_any _ _ _ _ _ _ _ m2).mono ?_; rintro e w' ⟨rfl, rfl⟩))
  go_ret
  exact ⟨rfl, below_far b1 b2⟩

/-- Where the cell is there (3000 of them). -/
theorem bounds_many_in (n v : Int) (j : Nat) (hn : 3000 < n) (hn1 : n ≤ 262144) (hj : (j : Int) < 3000) (w : World) :
    Calls Try.prog 6 #[.int .i64 n, .int .i64 (j : Int), .int .u64 v] w fun e w' => e = .returned (.bool true) ∧ Below w.heap.size w w' := by
  have hk : Hid ((held 3000 : Int) = 3000) := by simp [Hid, held]
  have hj' : j < held 3000 := by have := hk.out; omega
  have hd2 : decide ((j : Int) < 3000) = true := by simp; omega
  go_enter Try.func6, Try.ntmps6
  go_wp2_with (first
    | (go_at_call 8; refine (known_any w).mono ?_; rintro e w1 ⟨rfl, b1⟩)
    | (go_at_call 9; refine (new_any 3000 w1).mono ?_; rintro e w2 ⟨rfl, m2, b2, s2⟩)
    | (go_at_call 16; refine (len_any _ _ _ _ _ _ _ m2).mono ?_; rw [hk.out]; rintro e w' ⟨rfl, rfl⟩)
    | (go_at_call 11; refine (store_in _ _ _ _ _ _ _ j v hj' (by decide) m2).mono ?_; rintro e w3 ⟨rfl, m3, b3⟩)
    | (go_at_call 10; refine (load_in _ _ _ _ _ _ _ j hj' (by decide) m3).mono ?_; rw [upd_same]; rintro e w4 ⟨rfl, m4, b4⟩)
    | (go_at_call 13; refine (add_in _ _ _ _ _ _ _ j 1 hj' (by decide) m4).mono ?_; rw [upd_same]; rintro e w5 ⟨rfl, m5, b5⟩)
    | (go_at_call 14; refine (ops_any _ _ _ _ _ _ _ m5).mono ?_; rintro e w' ⟨rfl, rfl⟩))
  go_ret
  refine ⟨rfl, below_far b1 (b2.trans (((b3.trans b4).trans b5).below ?_ ?_ ?_))⟩ <;> omega

/-- Where the cell isn't there (MaxCells, below them). -/
theorem bounds_most_below (n i v : Int) (hn : 262144 < n) (hi : i < 0) (w : World) :
    Calls Try.prog 6 #[.int .i64 n, .int .i64 i, .int .u64 v] w fun e w' => e = .returned (.bool true) ∧ Below w.heap.size w w' := by
  have hk : Hid ((held n : Int) = 262144) := by simp only [Hid, held]; rw [if_neg (by omega), if_pos hn]; rfl
  have hi' : i < 0 ∨ ((held n : Nat) : Int) ≤ i := by rw [hk.out]; omega
  have hs : decide (3000 < n) = true := by simp; omega
  have hs2 : decide (n ≤ 262144) = false := by simp; omega
  have hd : decide (0 ≤ i) = false := by simp; omega
  go_enter Try.func6, Try.ntmps6
  go_wp2_with (first
    | (go_at_call 8; refine (known_any w).mono ?_; rintro e w1 ⟨rfl, b1⟩)
    | (go_at_call 9; refine (new_any n w1).mono ?_; rintro e w2 ⟨rfl, m2, b2, s2⟩)
    | (go_at_call 16; refine (len_any _ _ _ _ _ _ _ m2).mono ?_; rw [hk.out]; rintro e w' ⟨rfl, rfl⟩)
    | (go_at_call 11; refine (store_out _ _ _ _ _ _ _ i v hi' m2).mono ?_; rintro e w' ⟨rfl, rfl⟩)
    | (go_at_call 10; refine (load_out _ _ _ _ _ _ _ i hi' m2).mono ?_; rintro e w' ⟨rfl, rfl⟩)
    | (go_at_call 12; refine (cas_out _ _ _ _ _ _ _ i _ _ hi' m2).mono ?_; rintro e w' ⟨rfl, rfl⟩)
    | (go_at_call 13; refine (add_out _ _ _ _ _ _ _ i _ hi' m2).mono ?_; rintro e w' ⟨rfl, rfl⟩)
    | (go_at_call 14; refine (ops_any _ _ _ _ _ _ _ m2).mono ?_; rintro e w' ⟨rfl, rfl⟩)
    | (go_at_call 15; refine (fails_any _ _ _ _ _ _ _ m2).mono ?_; rintro e w' ⟨rfl, rfl⟩))
  go_ret
  exact ⟨rfl, below_far b1 b2⟩

/-- Where the cell isn't there (MaxCells, above them). -/
theorem bounds_most_above (n i v : Int) (hn : 262144 < n) (hi : 262144 ≤ i) (w : World) :
    Calls Try.prog 6 #[.int .i64 n, .int .i64 i, .int .u64 v] w fun e w' => e = .returned (.bool true) ∧ Below w.heap.size w w' := by
  have hk : Hid ((held n : Int) = 262144) := by simp only [Hid, held]; rw [if_neg (by omega), if_pos hn]; rfl
  have hi' : i < 0 ∨ ((held n : Nat) : Int) ≤ i := by rw [hk.out]; omega
  have hs : decide (3000 < n) = true := by simp; omega
  have hs2 : decide (n ≤ 262144) = false := by simp; omega
  have hd : decide (0 ≤ i) = true := by simp; omega
  have hd2 : decide (i < 262144) = false := by simp; omega
  go_enter Try.func6, Try.ntmps6
  go_wp2_with (first
    | (go_at_call 8; refine (known_any w).mono ?_; rintro e w1 ⟨rfl, b1⟩)
    | (go_at_call 9; refine (new_any n w1).mono ?_; rintro e w2 ⟨rfl, m2, b2, s2⟩)
    | (go_at_call 16; refine (len_any _ _ _ _ _ _ _ m2).mono ?_; rw [hk.out]; rintro e w' ⟨rfl, rfl⟩)
    | (go_at_call 11; refine (store_out _ _ _ _ _ _ _ i v hi' m2).mono ?_; rintro e w' ⟨rfl, rfl⟩)
    | (go_at_call 10; refine (load_out _ _ _ _ _ _ _ i hi' m2).mono ?_; rintro e w' ⟨rfl, rfl⟩)
    | (go_at_call 12; refine (cas_out _ _ _ _ _ _ _ i _ _ hi' m2).mono ?_; rintro e w' ⟨rfl, rfl⟩)
    | (go_at_call 13; refine (add_out _ _ _ _ _ _ _ i _ hi' m2).mono ?_; rintro e w' ⟨rfl, rfl⟩)
    | (go_at_call 14; refine (ops_any _ _ _ _ _ _ _ m2).mono ?_; rintro e w' ⟨rfl, rfl⟩)
    | (go_at_call 15; refine (fails_any _ _ _ _ _ _ _ m2).mono ?_; rintro e w' ⟨rfl, rfl⟩))
  go_ret
  exact ⟨rfl, below_far b1 b2⟩

/-- Where the cell is there (MaxCells). -/
theorem bounds_most_in (n v : Int) (j : Nat) (hn : 262144 < n) (hj : (j : Int) < 262144) (w : World) :
    Calls Try.prog 6 #[.int .i64 n, .int .i64 (j : Int), .int .u64 v] w fun e w' => e = .returned (.bool true) ∧ Below w.heap.size w w' := by
  have hk : Hid ((held n : Int) = 262144) := by simp only [Hid, held]; rw [if_neg (by omega), if_pos hn]; rfl
  have hj' : j < held n := by have := hk.out; omega
  have hs : decide (3000 < n) = true := by simp; omega
  have hs2 : decide (n ≤ 262144) = false := by simp; omega
  have hd2 : decide ((j : Int) < 262144) = true := by simp; omega
  go_enter Try.func6, Try.ntmps6
  go_wp2_with (first
    | (go_at_call 8; refine (known_any w).mono ?_; rintro e w1 ⟨rfl, b1⟩)
    | (go_at_call 9; refine (new_any n w1).mono ?_; rintro e w2 ⟨rfl, m2, b2, s2⟩)
    | (go_at_call 16; refine (len_any _ _ _ _ _ _ _ m2).mono ?_; rw [hk.out]; rintro e w' ⟨rfl, rfl⟩)
    | (go_at_call 11; refine (store_in _ _ _ _ _ _ _ j v hj' (by decide) m2).mono ?_; rintro e w3 ⟨rfl, m3, b3⟩)
    | (go_at_call 10; refine (load_in _ _ _ _ _ _ _ j hj' (by decide) m3).mono ?_; rw [upd_same]; rintro e w4 ⟨rfl, m4, b4⟩)
    | (go_at_call 13; refine (add_in _ _ _ _ _ _ _ j 1 hj' (by decide) m4).mono ?_; rw [upd_same]; rintro e w5 ⟨rfl, m5, b5⟩)
    | (go_at_call 14; refine (ops_any _ _ _ _ _ _ _ m5).mono ?_; rintro e w' ⟨rfl, rfl⟩))
  go_ret
  refine ⟨rfl, below_far b1 (b2.trans (((b3.trans b4).trans b5).below ?_ ?_ ?_))⟩ <;> omega

theorem bounds_walk (n i v : Int) (w : World) :
    Calls Try.prog 6 #[.int .i64 n, .int .i64 i, .int .u64 v] w fun e w' => e = .returned (.bool true) ∧ Below w.heap.size w w' := by
  by_cases hi : i < 0
  · by_cases h1 : n ≤ 0
    · exact bounds_neg_below n i v h1 hi w
    · by_cases h2 : n ≤ 3000
      · exact bounds_few_below n i v (by omega) h2 hi w
      · by_cases h3 : n ≤ 262144
        · exact bounds_many_below n i v (by omega) h3 hi w
        · exact bounds_most_below n i v (by omega) hi w
  · obtain ⟨j, rfl⟩ : ∃ j : Nat, i = (j : Int) := ⟨i.toNat, by omega⟩
    by_cases h1 : n ≤ 0
    · exact bounds_neg_above n j v h1 (by omega) w
    · by_cases h2 : n ≤ 3000
      · by_cases h4 : (j : Int) < n
        · exact bounds_few_in n v j (by omega) h2 h4 w
        · exact bounds_few_above n j v (by omega) h2 (by omega) w
      · by_cases h3 : n ≤ 262144
        · by_cases h4 : (j : Int) < 3000
          · exact bounds_many_in n v j (by omega) h3 h4 w
          · exact bounds_many_above n j v (by omega) h3 (by omega) w
        · by_cases h4 : (j : Int) < 262144
          · exact bounds_most_in n v j (by omega) h4 w
          · exact bounds_most_above n j v (by omega) (by omega) w

end Go.Proofs.Ytkfdmclobodfgaa
