/-
  What the statement BitsUnlike returns: true, for every argument, over every world that holds the table of masks.
-/
import Derived.Test.YtloadpndljabeaaDoorLaw
namespace Go.Proofs.YtloadpndljabeaaDoor
open Go Go.RowKit Num

/-- All bits of a uint64. -/
theorem all_ones : (if IntKind.u64.signed = true then (-1 : Int) else IntKind.u64.max) = 18446744073709551615 := by decide
attribute [local go_sem] all_ones

set_option maxHeartbeats 400000 in
theorem unlike_same_one (x y a b c d : Int) (w : World) (h0 : 0 ≤ x ∧ x ≤ 18446744073709551615) (h1 : 0 ≤ y ∧ y ≤ 18446744073709551615) (h2 : 0 ≤ a ∧ a ≤ 255) (h3 : 0 ≤ b ∧ b ≤ 255) (h4 : 0 ≤ c ∧ c ≤ 4294967295) (h5 : 0 ≤ d ∧ d ≤ 4294967295) (hx : x = y) (hn : a = b ∧ c % 268435456 = d % 268435456) (T : Tab w) :
    Calls Tryd.prog 5 #[.int .u64 x, .int .u64 y, .int .u8 a, .int .u8 b, .int .u32 c, .int .u32 d] w fun e w' => e = .returned (.bool true) ∧ ∃ n, w' = w.drewN n := by
  have o0 := onesZ_lo x
  have o1 := onesZ_hi x
  have o2 := onesZ_lo (bits .xor .u64 18446744073709551615 x)
  have o3 := onesZ_hi (bits .xor .u64 18446744073709551615 x)
  have o4 : (onesZ x + onesZ (bits .xor .u64 18446744073709551615 x) == 64) = true := by rw [not_form x h0.1 h0.2, ones_not x h0.1 h0.2]; rfl
  have l0 := bits_lo_u64 .xor 18446744073709551615 x
  have l1 := bits_hi_u64 .xor 18446744073709551615 x
  have n1 : (nodeZ a c 9 == nodeZ b d 9) = true := beq_iff_eq.2 ((node_left a b c d).2 hn)
  have n2 : (nodeZ a 9 c == nodeZ b 9 d) = true := beq_iff_eq.2 ((node_right a b c d).2 hn)
  have n3 : (a == b) = true := beq_iff_eq.2 hn.1
  have n4 : (c % 268435456 == d % 268435456) = true := beq_iff_eq.2 hn.2
  clear hn
  subst hx
  go_enter Tryd.func5, Tryd.ntmps5
  go_wp2_with (first
    | (go_at_call 9; refine (known_any _ (by repeat (first | exact T | apply Tab.drew))).mono ?_; rintro e w' ⟨rfl, n0, rfl⟩)
    | (go_at_call 12; refine (mix_any _ _ (by omega) (by omega)).mono ?_; rintro e w' ⟨rfl, rfl⟩)
    | (go_at_call 10; refine (node_any _ _ _ _ (by omega) (by omega) (by omega)).mono ?_; rintro e w' ⟨rfl, rfl⟩)
    | (go_at_call 16; refine (ones_any _ _ (by omega) (by omega) (by repeat (first | exact T | apply Tab.drew))).mono ?_; rintro e w' ⟨rfl, rfl⟩))
  go_ret
  exact ⟨rfl, _, rfl⟩
set_option maxHeartbeats 400000 in
theorem unlike_same_low (x y a b c d : Int) (w : World) (h0 : 0 ≤ x ∧ x ≤ 18446744073709551615) (h1 : 0 ≤ y ∧ y ≤ 18446744073709551615) (h2 : 0 ≤ a ∧ a ≤ 255) (h3 : 0 ≤ b ∧ b ≤ 255) (h4 : 0 ≤ c ∧ c ≤ 4294967295) (h5 : 0 ≤ d ∧ d ≤ 4294967295) (hx : x = y) (hn : a = b) (hm : c % 268435456 ≠ d % 268435456) (T : Tab w) :
    Calls Tryd.prog 5 #[.int .u64 x, .int .u64 y, .int .u8 a, .int .u8 b, .int .u32 c, .int .u32 d] w fun e w' => e = .returned (.bool true) ∧ ∃ n, w' = w.drewN n := by
  have o0 := onesZ_lo x
  have o1 := onesZ_hi x
  have o2 := onesZ_lo (bits .xor .u64 18446744073709551615 x)
  have o3 := onesZ_hi (bits .xor .u64 18446744073709551615 x)
  have o4 : (onesZ x + onesZ (bits .xor .u64 18446744073709551615 x) == 64) = true := by rw [not_form x h0.1 h0.2, ones_not x h0.1 h0.2]; rfl
  have l0 := bits_lo_u64 .xor 18446744073709551615 x
  have l1 := bits_hi_u64 .xor 18446744073709551615 x
  have n1 : (nodeZ a c 9 == nodeZ b d 9) = false := beq_eq_false_iff_ne.2 fun h => hm ((node_left a b c d).1 h).2
  have n2 : (nodeZ a 9 c == nodeZ b 9 d) = false := beq_eq_false_iff_ne.2 fun h => hm ((node_right a b c d).1 h).2
  have n3 : (a == b) = true := beq_iff_eq.2 hn
  have n4 : (c % 268435456 == d % 268435456) = false := beq_eq_false_iff_ne.2 hm
  clear hn hm
  subst hx
  go_enter Tryd.func5, Tryd.ntmps5
  go_wp2_with (first
    | (go_at_call 9; refine (known_any _ (by repeat (first | exact T | apply Tab.drew))).mono ?_; rintro e w' ⟨rfl, n0, rfl⟩)
    | (go_at_call 12; refine (mix_any _ _ (by omega) (by omega)).mono ?_; rintro e w' ⟨rfl, rfl⟩)
    | (go_at_call 10; refine (node_any _ _ _ _ (by omega) (by omega) (by omega)).mono ?_; rintro e w' ⟨rfl, rfl⟩)
    | (go_at_call 16; refine (ones_any _ _ (by omega) (by omega) (by repeat (first | exact T | apply Tab.drew))).mono ?_; rintro e w' ⟨rfl, rfl⟩))
  go_ret
  exact ⟨rfl, _, rfl⟩
set_option maxHeartbeats 400000 in
theorem unlike_same_top (x y a b c d : Int) (w : World) (h0 : 0 ≤ x ∧ x ≤ 18446744073709551615) (h1 : 0 ≤ y ∧ y ≤ 18446744073709551615) (h2 : 0 ≤ a ∧ a ≤ 255) (h3 : 0 ≤ b ∧ b ≤ 255) (h4 : 0 ≤ c ∧ c ≤ 4294967295) (h5 : 0 ≤ d ∧ d ≤ 4294967295) (hx : x = y) (hn : a ≠ b) (T : Tab w) :
    Calls Tryd.prog 5 #[.int .u64 x, .int .u64 y, .int .u8 a, .int .u8 b, .int .u32 c, .int .u32 d] w fun e w' => e = .returned (.bool true) ∧ ∃ n, w' = w.drewN n := by
  have o0 := onesZ_lo x
  have o1 := onesZ_hi x
  have o2 := onesZ_lo (bits .xor .u64 18446744073709551615 x)
  have o3 := onesZ_hi (bits .xor .u64 18446744073709551615 x)
  have o4 : (onesZ x + onesZ (bits .xor .u64 18446744073709551615 x) == 64) = true := by rw [not_form x h0.1 h0.2, ones_not x h0.1 h0.2]; rfl
  have l0 := bits_lo_u64 .xor 18446744073709551615 x
  have l1 := bits_hi_u64 .xor 18446744073709551615 x
  have n1 : (nodeZ a c 9 == nodeZ b d 9) = false := beq_eq_false_iff_ne.2 fun h => hn ((node_left a b c d).1 h).1
  have n2 : (nodeZ a 9 c == nodeZ b 9 d) = false := beq_eq_false_iff_ne.2 fun h => hn ((node_right a b c d).1 h).1
  have n3 : (a == b) = false := beq_eq_false_iff_ne.2 hn
  clear hn
  subst hx
  go_enter Tryd.func5, Tryd.ntmps5
  go_wp2_with (first
    | (go_at_call 9; refine (known_any _ (by repeat (first | exact T | apply Tab.drew))).mono ?_; rintro e w' ⟨rfl, n0, rfl⟩)
    | (go_at_call 12; refine (mix_any _ _ (by omega) (by omega)).mono ?_; rintro e w' ⟨rfl, rfl⟩)
    | (go_at_call 10; refine (node_any _ _ _ _ (by omega) (by omega) (by omega)).mono ?_; rintro e w' ⟨rfl, rfl⟩)
    | (go_at_call 16; refine (ones_any _ _ (by omega) (by omega) (by repeat (first | exact T | apply Tab.drew))).mono ?_; rintro e w' ⟨rfl, rfl⟩))
  go_ret
  exact ⟨rfl, _, rfl⟩
set_option maxHeartbeats 400000 in
theorem unlike_apart_one (x y a b c d : Int) (w : World) (h0 : 0 ≤ x ∧ x ≤ 18446744073709551615) (h1 : 0 ≤ y ∧ y ≤ 18446744073709551615) (h2 : 0 ≤ a ∧ a ≤ 255) (h3 : 0 ≤ b ∧ b ≤ 255) (h4 : 0 ≤ c ∧ c ≤ 4294967295) (h5 : 0 ≤ d ∧ d ≤ 4294967295) (hx : x ≠ y) (hn : a = b ∧ c % 268435456 = d % 268435456) (T : Tab w) :
    Calls Tryd.prog 5 #[.int .u64 x, .int .u64 y, .int .u8 a, .int .u8 b, .int .u32 c, .int .u32 d] w fun e w' => e = .returned (.bool true) ∧ ∃ n, w' = w.drewN n := by
  have o0 := onesZ_lo x
  have o1 := onesZ_hi x
  have o2 := onesZ_lo (bits .xor .u64 18446744073709551615 x)
  have o3 := onesZ_hi (bits .xor .u64 18446744073709551615 x)
  have o4 : (onesZ x + onesZ (bits .xor .u64 18446744073709551615 x) == 64) = true := by rw [not_form x h0.1 h0.2, ones_not x h0.1 h0.2]; rfl
  have l0 := bits_lo_u64 .xor 18446744073709551615 x
  have l1 := bits_hi_u64 .xor 18446744073709551615 x
  have n1 : (nodeZ a c 9 == nodeZ b d 9) = true := beq_iff_eq.2 ((node_left a b c d).2 hn)
  have n2 : (nodeZ a 9 c == nodeZ b 9 d) = true := beq_iff_eq.2 ((node_right a b c d).2 hn)
  have n3 : (a == b) = true := beq_iff_eq.2 hn.1
  have n4 : (c % 268435456 == d % 268435456) = true := beq_iff_eq.2 hn.2
  clear hn
  have x1 : (x == y) = false := beq_eq_false_iff_ne.2 hx
  have x2 : (mixZ x == mixZ y) = false := beq_eq_false_iff_ne.2 fun h => hx (mixZ_inj x y h0.1 h0.2 h1.1 h1.2 h)
  clear hx
  go_enter Tryd.func5, Tryd.ntmps5
  go_wp2_with (first
    | (go_at_call 9; refine (known_any _ (by repeat (first | exact T | apply Tab.drew))).mono ?_; rintro e w' ⟨rfl, n0, rfl⟩)
    | (go_at_call 12; refine (mix_any _ _ (by omega) (by omega)).mono ?_; rintro e w' ⟨rfl, rfl⟩)
    | (go_at_call 10; refine (node_any _ _ _ _ (by omega) (by omega) (by omega)).mono ?_; rintro e w' ⟨rfl, rfl⟩)
    | (go_at_call 16; refine (ones_any _ _ (by omega) (by omega) (by repeat (first | exact T | apply Tab.drew))).mono ?_; rintro e w' ⟨rfl, rfl⟩))
  go_ret
  exact ⟨rfl, _, rfl⟩
set_option maxHeartbeats 400000 in
theorem unlike_apart_low (x y a b c d : Int) (w : World) (h0 : 0 ≤ x ∧ x ≤ 18446744073709551615) (h1 : 0 ≤ y ∧ y ≤ 18446744073709551615) (h2 : 0 ≤ a ∧ a ≤ 255) (h3 : 0 ≤ b ∧ b ≤ 255) (h4 : 0 ≤ c ∧ c ≤ 4294967295) (h5 : 0 ≤ d ∧ d ≤ 4294967295) (hx : x ≠ y) (hn : a = b) (hm : c % 268435456 ≠ d % 268435456) (T : Tab w) :
    Calls Tryd.prog 5 #[.int .u64 x, .int .u64 y, .int .u8 a, .int .u8 b, .int .u32 c, .int .u32 d] w fun e w' => e = .returned (.bool true) ∧ ∃ n, w' = w.drewN n := by
  have o0 := onesZ_lo x
  have o1 := onesZ_hi x
  have o2 := onesZ_lo (bits .xor .u64 18446744073709551615 x)
  have o3 := onesZ_hi (bits .xor .u64 18446744073709551615 x)
  have o4 : (onesZ x + onesZ (bits .xor .u64 18446744073709551615 x) == 64) = true := by rw [not_form x h0.1 h0.2, ones_not x h0.1 h0.2]; rfl
  have l0 := bits_lo_u64 .xor 18446744073709551615 x
  have l1 := bits_hi_u64 .xor 18446744073709551615 x
  have n1 : (nodeZ a c 9 == nodeZ b d 9) = false := beq_eq_false_iff_ne.2 fun h => hm ((node_left a b c d).1 h).2
  have n2 : (nodeZ a 9 c == nodeZ b 9 d) = false := beq_eq_false_iff_ne.2 fun h => hm ((node_right a b c d).1 h).2
  have n3 : (a == b) = true := beq_iff_eq.2 hn
  have n4 : (c % 268435456 == d % 268435456) = false := beq_eq_false_iff_ne.2 hm
  clear hn hm
  have x1 : (x == y) = false := beq_eq_false_iff_ne.2 hx
  have x2 : (mixZ x == mixZ y) = false := beq_eq_false_iff_ne.2 fun h => hx (mixZ_inj x y h0.1 h0.2 h1.1 h1.2 h)
  clear hx
  go_enter Tryd.func5, Tryd.ntmps5
  go_wp2_with (first
    | (go_at_call 9; refine (known_any _ (by repeat (first | exact T | apply Tab.drew))).mono ?_; rintro e w' ⟨rfl, n0, rfl⟩)
    | (go_at_call 12; refine (mix_any _ _ (by omega) (by omega)).mono ?_; rintro e w' ⟨rfl, rfl⟩)
    | (go_at_call 10; refine (node_any _ _ _ _ (by omega) (by omega) (by omega)).mono ?_; rintro e w' ⟨rfl, rfl⟩)
    | (go_at_call 16; refine (ones_any _ _ (by omega) (by omega) (by repeat (first | exact T | apply Tab.drew))).mono ?_; rintro e w' ⟨rfl, rfl⟩))
  go_ret
  exact ⟨rfl, _, rfl⟩
set_option maxHeartbeats 400000 in
theorem unlike_apart_top (x y a b c d : Int) (w : World) (h0 : 0 ≤ x ∧ x ≤ 18446744073709551615) (h1 : 0 ≤ y ∧ y ≤ 18446744073709551615) (h2 : 0 ≤ a ∧ a ≤ 255) (h3 : 0 ≤ b ∧ b ≤ 255) (h4 : 0 ≤ c ∧ c ≤ 4294967295) (h5 : 0 ≤ d ∧ d ≤ 4294967295) (hx : x ≠ y) (hn : a ≠ b) (T : Tab w) :
    Calls Tryd.prog 5 #[.int .u64 x, .int .u64 y, .int .u8 a, .int .u8 b, .int .u32 c, .int .u32 d] w fun e w' => e = .returned (.bool true) ∧ ∃ n, w' = w.drewN n := by
  have o0 := onesZ_lo x
  have o1 := onesZ_hi x
  have o2 := onesZ_lo (bits .xor .u64 18446744073709551615 x)
  have o3 := onesZ_hi (bits .xor .u64 18446744073709551615 x)
  have o4 : (onesZ x + onesZ (bits .xor .u64 18446744073709551615 x) == 64) = true := by rw [not_form x h0.1 h0.2, ones_not x h0.1 h0.2]; rfl
  have l0 := bits_lo_u64 .xor 18446744073709551615 x
  have l1 := bits_hi_u64 .xor 18446744073709551615 x
  have n1 : (nodeZ a c 9 == nodeZ b d 9) = false := beq_eq_false_iff_ne.2 fun h => hn ((node_left a b c d).1 h).1
  have n2 : (nodeZ a 9 c == nodeZ b 9 d) = false := beq_eq_false_iff_ne.2 fun h => hn ((node_right a b c d).1 h).1
  have n3 : (a == b) = false := beq_eq_false_iff_ne.2 hn
  clear hn
  have x1 : (x == y) = false := beq_eq_false_iff_ne.2 hx
  have x2 : (mixZ x == mixZ y) = false := beq_eq_false_iff_ne.2 fun h => hx (mixZ_inj x y h0.1 h0.2 h1.1 h1.2 h)
  clear hx
  go_enter Tryd.func5, Tryd.ntmps5
  go_wp2_with (first
    | (go_at_call 9; refine (known_any _ (by repeat (first | exact T | apply Tab.drew))).mono ?_; rintro e w' ⟨rfl, n0, rfl⟩)
    | (go_at_call 12; refine (mix_any _ _ (by omega) (by omega)).mono ?_; rintro e w' ⟨rfl, rfl⟩)
    | (go_at_call 10; refine (node_any _ _ _ _ (by omega) (by omega) (by omega)).mono ?_; rintro e w' ⟨rfl, rfl⟩)
    | (go_at_call 16; refine (ones_any _ _ (by omega) (by omega) (by repeat (first | exact T | apply Tab.drew))).mono ?_; rintro e w' ⟨rfl, rfl⟩))
  go_ret
  exact ⟨rfl, _, rfl⟩
/-- BitsUnlike. -/
theorem unlike_any (x y a b c d : Int) (w : World) (h0 : 0 ≤ x ∧ x ≤ 18446744073709551615) (h1 : 0 ≤ y ∧ y ≤ 18446744073709551615) (h2 : 0 ≤ a ∧ a ≤ 255) (h3 : 0 ≤ b ∧ b ≤ 255) (h4 : 0 ≤ c ∧ c ≤ 4294967295) (h5 : 0 ≤ d ∧ d ≤ 4294967295) (T : Tab w) :
    Calls Tryd.prog 5 #[.int .u64 x, .int .u64 y, .int .u8 a, .int .u8 b, .int .u32 c, .int .u32 d] w fun e w' => e = .returned (.bool true) ∧ ∃ n, w' = w.drewN n := by
  by_cases hx : x = y <;> by_cases hn : a = b <;> by_cases hm : c % 268435456 = d % 268435456
  · exact unlike_same_one x y a b c d w h0 h1 h2 h3 h4 h5 hx ⟨hn, hm⟩ T
  · exact unlike_same_low x y a b c d w h0 h1 h2 h3 h4 h5 hx hn hm T
  · exact unlike_same_top x y a b c d w h0 h1 h2 h3 h4 h5 hx hn T
  · exact unlike_same_top x y a b c d w h0 h1 h2 h3 h4 h5 hx hn T
  · exact unlike_apart_one x y a b c d w h0 h1 h2 h3 h4 h5 hx ⟨hn, hm⟩ T
  · exact unlike_apart_low x y a b c d w h0 h1 h2 h3 h4 h5 hx hn hm T
  · exact unlike_apart_top x y a b c d w h0 h1 h2 h3 h4 h5 hx hn T
  · exact unlike_apart_top x y a b c d w h0 h1 h2 h3 h4 h5 hx hn T
end Go.Proofs.YtloadpndljabeaaDoor
