/-
  What the six statements of layer 1 return: true, for every argument, over every world that holds the table of masks.
-/
import Derived.Test.YtloadpndljabeaaDoorLeaf
import Derived.Test.YtloadpndljabeaaDoorFact
import Derived.Test.YtloadpndljabeaaDoorFact
import Derived.Test.YtloadpndljabeaaDoorFact
import Derived.Test.YtloadpndljabeaaDoorFact
import Derived.Outline
namespace Go.Proofs.YtloadpndljabeaaDoor
open Go Go.RowKit Num

theorem n357 : nodeZ 3 5 7 = 216172783455961095 := by kernel_rfl
theorem s3 : spreadZ 3 = 5 := by kernel_rfl
theorem g5 : gatherZ 5 = 3 := by kernel_rfl
theorem k7 : onesZ 7 = 3 := by kernel_rfl
theorem m0 : mixZ 0 = 0 := by kernel_rfl
theorem m1 : mixZ 1 = 12994781566227106604 := by kernel_rfl

set_option maxHeartbeats 400000 in
theorem known_any (w : World) (T : Tab w) :
    Calls Tryd.prog 9 #[] w fun e w' => e = .returned (.bool true) ∧ ∃ n, w' = w.drewN n := by
  have e1 := n357
  have e2 := s3
  have e3 := g5
  have e4 := k7
  have e5 := m0
  have e6 := m1
  go_enter Tryd.func9, Tryd.ntmps9
  go_wp2_with (first
    | (go_at_call 10; refine (node_any _ _ _ _ (by omega) (by omega) (by omega)).mono ?_; rintro e w' ⟨rfl, rfl⟩)
    | (go_at_call 22; refine (parts_any _ _ (by omega) (by omega)).mono ?_; rintro e w' ⟨rfl, rfl⟩)
    | (go_at_call 18; refine (spread_any _ _ (by omega) (by omega) (by repeat (first | exact T | apply Tab.drew))).mono ?_; rintro e w' ⟨rfl, n1, rfl⟩)
    | (go_at_call 20; refine (gather_any _ _ (by omega) (by omega) (by repeat (first | exact T | apply Tab.drew))).mono ?_; rintro e w' ⟨rfl, n2, rfl⟩)
    | (go_at_call 16; refine (ones_any _ _ (by omega) (by omega) (by repeat (first | exact T | apply Tab.drew))).mono ?_; rintro e w' ⟨rfl, rfl⟩)
    | (go_at_call 12; refine (mix_any _ _ (by omega) (by omega)).mono ?_; rintro e w' ⟨rfl, rfl⟩))
  go_ret
  exact ⟨rfl, _, rfl⟩
theorem ret_bool {a : Bool} (h : a = true) : Ending.returned (.bool a) = .returned (.bool true) := by rw [h]
set_option maxHeartbeats 400000 in
/-- BitsUnmix. -/
theorem unmix_any (x : Int) (w : World) (h0 : 0 ≤ x ∧ x ≤ 18446744073709551615) (T : Tab w) :
    Calls Tryd.prog 7 #[.int .u64 x] w fun e w' => e = .returned (.bool true) ∧ ∃ n, w' = w.drewN n := by
  have a0 := mixZ_lo x
  have a1 := mixZ_hi x
  go_enter Tryd.func7, Tryd.ntmps7
  go_wp2_with (first
    | (go_at_call 9; refine (known_any _ (by repeat (first | exact T | apply Tab.drew))).mono ?_; rintro e w' ⟨rfl, n0, rfl⟩)
    | (go_at_call 12; refine (mix_any _ _ (by omega) (by omega)).mono ?_; rintro e w' ⟨rfl, rfl⟩))
  go_ret
  refine ⟨ret_bool ?_, _, rfl⟩
  rw [unmix_form x h0.1 h0.2]
  exact beq_self_eq_true x
set_option maxHeartbeats 400000 in
/-- BitsBack. -/
theorem back_any (l a b y : Int) (w : World) (h0 : 0 ≤ l ∧ l ≤ 255) (h1 : 0 ≤ a ∧ a ≤ 4294967295) (h2 : 0 ≤ b ∧ b ≤ 4294967295) (h3 : 0 ≤ y ∧ y ≤ 255) (T : Tab w) :
    Calls Tryd.prog 4 #[.int .u8 l, .int .u32 a, .int .u32 b, .int .u8 y] w fun e w' => e = .returned (.bool true) ∧ ∃ n, w' = w.drewN n := by
  have a0 := nodeZ_bd l a b h0
  have e0 := part0 l a b
  have e1 := part1 l a b
  have e2 := part2 l a b
  have s0 := spreadZ_lo y
  have s1 := spreadZ_hi y
  have o := ones_spread y h3.1 h3.2
  have g := gather_spread y h3.1 h3.2
  have d := spread_even y h3.1 h3.2
  go_enter Tryd.func4, Tryd.ntmps4
  go_wp2_with (first
    | (go_at_call 9; refine (known_any _ (by repeat (first | exact T | apply Tab.drew))).mono ?_; rintro e w' ⟨rfl, n0, rfl⟩)
    | (go_at_call 10; refine (node_any _ _ _ _ (by omega) (by omega) (by omega)).mono ?_; rintro e w' ⟨rfl, rfl⟩)
    | (go_at_call 22; refine (parts_any _ _ (by omega) (by omega)).mono ?_; rintro e w' ⟨rfl, rfl⟩)
    | (go_at_call 18; refine (spread_any _ _ (by omega) (by omega) (by repeat (first | exact T | apply Tab.drew))).mono ?_; rintro e w' ⟨rfl, n1, rfl⟩)
    | (go_at_call 20; refine (gather_any _ _ (by omega) (by omega) (by repeat (first | exact T | apply Tab.drew))).mono ?_; rintro e w' ⟨rfl, n2, rfl⟩)
    | (go_at_call 16; refine (ones_any _ _ (by omega) (by omega) (by repeat (first | exact T | apply Tab.drew))).mono ?_; rintro e w' ⟨rfl, rfl⟩))
  go_ret
  exact ⟨rfl, _, rfl⟩
set_option maxHeartbeats 400000 in
/-- BitsTells. -/
theorem tells_any (l a b x s y z : Int) (w : World) (h0 : 0 ≤ l ∧ l ≤ 255) (h1 : 0 ≤ a ∧ a ≤ 4294967295) (h2 : 0 ≤ b ∧ b ≤ 4294967295) (h3 : 0 ≤ x ∧ x ≤ 18446744073709551615)
    (h4 : -9223372036854775808 ≤ s ∧ s ≤ 9223372036854775807) (h5 : 0 ≤ y ∧ y ≤ 255) (h6 : 0 ≤ z ∧ z ≤ 65535) (T : Tab w) :
    Calls Tryd.prog 3 #[.int .u8 l, .int .u32 a, .int .u32 b, .int .u64 x, .int .i64 s, .int .u8 y, .int .u16 z] w fun e w' => e = .returned (.bool true) ∧ ∃ n, w' = w.drewN n := by
  go_enter Tryd.func3, Tryd.ntmps3
  go_wp2_with (first
    | (go_at_call 9; refine (known_any _ (by repeat (first | exact T | apply Tab.drew))).mono ?_; rintro e w' ⟨rfl, n0, rfl⟩)
    | (go_at_call 10; refine (node_any _ _ _ _ (by omega) (by omega) (by omega)).mono ?_; rintro e w' ⟨rfl, rfl⟩)
    | (go_at_call 11; refine (rnode_any _ _ _ _ (by omega) (by omega) (by omega)).mono ?_; rintro e w' ⟨rfl, rfl⟩)
    | (go_at_call 12; refine (mix_any _ _ (by omega) (by omega)).mono ?_; rintro e w' ⟨rfl, rfl⟩)
    | (go_at_call 13; refine (rmix_any _ _ (by omega) (by omega)).mono ?_; rintro e w' ⟨rfl, rfl⟩)
    | (go_at_call 14; refine (home_any _ _ _ (by omega) (by omega) (by omega) (by omega)).mono ?_; rintro e w' ⟨rfl, rfl⟩)
    | (go_at_call 15; refine (rhome_any _ _ _ (by omega) (by omega) (by omega) (by omega)).mono ?_; rintro e w' ⟨rfl, rfl⟩)
    | (go_at_call 16; refine (ones_any _ _ (by omega) (by omega) (by repeat (first | exact T | apply Tab.drew))).mono ?_; rintro e w' ⟨rfl, rfl⟩)
    | (go_at_call 17; refine (rones_any _ _ (by omega) (by omega)).mono ?_; rintro e w' ⟨rfl, rfl⟩)
    | (go_at_call 18; refine (spread_any _ _ (by omega) (by omega) (by repeat (first | exact T | apply Tab.drew))).mono ?_; rintro e w' ⟨rfl, n1, rfl⟩)
    | (go_at_call 19; refine (rspread_any _ _ (by omega) (by omega)).mono ?_; rintro e w' ⟨rfl, rfl⟩)
    | (go_at_call 20; refine (gather_any _ _ (by omega) (by omega) (by repeat (first | exact T | apply Tab.drew))).mono ?_; rintro e w' ⟨rfl, n2, rfl⟩)
    | (go_at_call 21; refine (rgather_any _ _ (by omega) (by omega)).mono ?_; rintro e w' ⟨rfl, rfl⟩))
  go_ret
  exact ⟨rfl, _, rfl⟩
set_option maxHeartbeats 400000 in
/-- BitsHomes. -/
theorem homes_any (x s : Int) (w : World) (h0 : 0 ≤ x ∧ x ≤ 18446744073709551615) (h1 : 0 ≤ s ∧ s ≤ 65535) (T : Tab w) :
    Calls Tryd.prog 6 #[.int .u64 x, .int .u16 s] w fun e w' => e = .returned (.bool true) ∧ ∃ n, w' = w.drewN n := by
  have a0 := mixZ_lo x
  have a1 := mixZ_hi x
  by_cases hs : s = 0
  · subst hs
    have e0 := home_none x 0 (by omega)
    have e1 := home_none x (-5) (by omega)
    go_enter Tryd.func6, Tryd.ntmps6
    go_wp2_with (first
      | (go_at_call 9; refine (known_any _ (by repeat (first | exact T | apply Tab.drew))).mono ?_; rintro e w' ⟨rfl, n0, rfl⟩)
      | (go_at_call 14; refine (home_any _ _ _ (by omega) (by omega) (by omega) (by omega)).mono ?_; rintro e w' ⟨rfl, rfl⟩)
      | (go_at_call 12; refine (mix_any _ _ (by omega) (by omega)).mono ?_; rintro e w' ⟨rfl, rfl⟩))
    go_ret
    exact ⟨rfl, _, rfl⟩
  · have e0 := home_some x s (by omega)
    have e1 := home_one x
    have r0 : 0 ≤ mixZ x % s := Int.emod_nonneg _ (by omega)
    have r1 : mixZ x % s < s := Int.emod_lt_of_pos _ (by omega)
    have hz : (s == 0) = false := by simpa using hs
    go_enter Tryd.func6, Tryd.ntmps6
    go_wp2_with (first
      | (go_at_call 9; refine (known_any _ (by repeat (first | exact T | apply Tab.drew))).mono ?_; rintro e w' ⟨rfl, n0, rfl⟩)
      | (go_at_call 14; refine (home_any _ _ _ (by omega) (by omega) (by omega) (by omega)).mono ?_; rintro e w' ⟨rfl, rfl⟩)
      | (go_at_call 12; refine (mix_any _ _ (by omega) (by omega)).mono ?_; rintro e w' ⟨rfl, rfl⟩))
    go_ret
    exact ⟨rfl, _, rfl⟩
set_option maxHeartbeats 400000 in
theorem spreads_lt (a b : Int) (w : World) (h0 : 0 ≤ a ∧ a ≤ 255) (h1 : 0 ≤ b ∧ b ≤ 255) (hlt : a < b) (T : Tab w) :
    Calls Tryd.prog 8 #[.int .u8 a, .int .u8 b] w fun e w' => e = .returned (.bool true) ∧ ∃ n, w' = w.drewN n := by
  have a0 := spreadZ_lo a
  have a1 := spreadZ_hi a
  have b0 := spreadZ_lo b
  have b1 := spreadZ_hi b
  have l0 := bits_lo_u8 .and a b
  have l1 := bits_hi_u8 .and a b
  have l2 := bits_lo_u8 .or a b
  have l3 := bits_hi_u8 .or a b
  have l4 := bits_lo_u8 .xor a b
  have l5 := bits_hi_u8 .xor a b
  have l6 := bits_lo_u16 .or (spreadZ a) (IntKind.u16.wrap (spreadZ b * 2))
  have l7 := bits_hi_u16 .or (spreadZ a) (IntKind.u16.wrap (spreadZ b * 2))
  have e0 := spread_and a b h0 h1
  have e1 := spread_or a b h0 h1
  have e2 := spread_xor a b h0 h1
  have e3 := gather_join a b h0 h1
  have e4 := gather_join' a b h0 h1
  have hlt' : spreadZ a < spreadZ b := (spread_lt a b h0 h1).2 hlt
  go_enter Tryd.func8, Tryd.ntmps8
  go_wp2_with (first
    | (go_at_call 9; refine (known_any _ (by repeat (first | exact T | apply Tab.drew))).mono ?_; rintro e w' ⟨rfl, n0, rfl⟩)
    | (go_at_call 18; refine (spread_any _ _ (by omega) (by omega) (by repeat (first | exact T | apply Tab.drew))).mono ?_; rintro e w' ⟨rfl, n1, rfl⟩)
    | (go_at_call 20; refine (gather_any _ _ (by omega) (by omega) (by repeat (first | exact T | apply Tab.drew))).mono ?_; rintro e w' ⟨rfl, n2, rfl⟩))
  go_ret
  exact ⟨rfl, _, rfl⟩
set_option maxHeartbeats 400000 in
theorem spreads_ge (a b : Int) (w : World) (h0 : 0 ≤ a ∧ a ≤ 255) (h1 : 0 ≤ b ∧ b ≤ 255) (hlt : ¬ a < b) (T : Tab w) :
    Calls Tryd.prog 8 #[.int .u8 a, .int .u8 b] w fun e w' => e = .returned (.bool true) ∧ ∃ n, w' = w.drewN n := by
  have a0 := spreadZ_lo a
  have a1 := spreadZ_hi a
  have b0 := spreadZ_lo b
  have b1 := spreadZ_hi b
  have l0 := bits_lo_u8 .and a b
  have l1 := bits_hi_u8 .and a b
  have l2 := bits_lo_u8 .or a b
  have l3 := bits_hi_u8 .or a b
  have l4 := bits_lo_u8 .xor a b
  have l5 := bits_hi_u8 .xor a b
  have l6 := bits_lo_u16 .or (spreadZ a) (IntKind.u16.wrap (spreadZ b * 2))
  have l7 := bits_hi_u16 .or (spreadZ a) (IntKind.u16.wrap (spreadZ b * 2))
  have e0 := spread_and a b h0 h1
  have e1 := spread_or a b h0 h1
  have e2 := spread_xor a b h0 h1
  have e3 := gather_join a b h0 h1
  have e4 := gather_join' a b h0 h1
  have d1 : decide (spreadZ a < spreadZ b) = false := decide_eq_false fun h => hlt ((spread_lt a b h0 h1).1 h)
  have d2 : decide (a < b) = false := decide_eq_false hlt
  clear hlt
  go_enter Tryd.func8, Tryd.ntmps8
  go_wp2_with (first
    | (go_at_call 9; refine (known_any _ (by repeat (first | exact T | apply Tab.drew))).mono ?_; rintro e w' ⟨rfl, n0, rfl⟩)
    | (go_at_call 18; refine (spread_any _ _ (by omega) (by omega) (by repeat (first | exact T | apply Tab.drew))).mono ?_; rintro e w' ⟨rfl, n1, rfl⟩)
    | (go_at_call 20; refine (gather_any _ _ (by omega) (by omega) (by repeat (first | exact T | apply Tab.drew))).mono ?_; rintro e w' ⟨rfl, n2, rfl⟩))
  go_ret
  exact ⟨rfl, _, rfl⟩
/-- BitsSpreads. -/
theorem spreads_any (a b : Int) (w : World) (h0 : 0 ≤ a ∧ a ≤ 255) (h1 : 0 ≤ b ∧ b ≤ 255) (T : Tab w) :
    Calls Tryd.prog 8 #[.int .u8 a, .int .u8 b] w fun e w' => e = .returned (.bool true) ∧ ∃ n, w' = w.drewN n := by
  by_cases hlt : a < b
  · exact spreads_lt a b w h0 h1 hlt T
  · exact spreads_ge a b w h0 h1 hlt T
end Go.Proofs.YtloadpndljabeaaDoor
