/-
  What package bits packs and tells: a level and two handles in one word.
-/
import Derived.Test.YtdmfbfbebcneeaaHome
namespace Go.Proofs.Ytdmfbfbebcneeaa
open Go Go.RowKit

/-- A level, low and high in one word. -/
def nodeZ (l a b : Int) : Int := l * 72057594037927936 + a % 268435456 * 268435456 + b % 268435456
theorem nat_m28 (n : Nat) : n &&& 268435455 = n % 268435456 := Nat.and_two_pow_sub_one_eq_mod n 28
theorem and28_u32 (a : Int) (h0 : 0 ≤ a) (h1 : a ≤ 4294967295) : bits .and .u32 a 268435455 = a % 268435456 := by
  obtain ⟨n, rfl⟩ := Int.eq_ofNat_of_zero_le h0
  rw [show (268435455 : Int) = ((268435455 : Nat) : Int) from rfl, u32_and_nat n 268435455 (by omega) (by decide), nat_m28]
  omega
theorem and28_u64 (a : Int) (h0 : 0 ≤ a) (h1 : a ≤ 18446744073709551615) : bits .and .u64 a 268435455 = a % 268435456 := by
  obtain ⟨n, rfl⟩ := Int.eq_ofNat_of_zero_le h0
  rw [show (268435455 : Int) = ((268435455 : Nat) : Int) from rfl, u64_and_nat n 268435455 (by omega) (by decide), nat_m28]
  omega
theorem wraps_u64 (n : Int) (h₀ : 0 ≤ n) (h₁ : n < 2 ^ 64) : IntKind.u64.wrap n = n := by rw [IntKind.wrap_u64]; omega
theorem node_form (l a b : Int) (h0 : 0 ≤ l ∧ l ≤ 255) (h1 : 0 ≤ a ∧ a ≤ 4294967295) (h2 : 0 ≤ b ∧ b ≤ 4294967295) :
    bits .or .u64 (bits .or .u64 (l * 72057594037927936) (IntKind.u64.wrap (IntKind.u64.wrap (bits .and .u32 a 268435455) * 268435456))) (IntKind.u64.wrap (bits .and .u32 b 268435455)) = nodeZ l a b := by
  rw [and28_u32 a h1.1 h1.2, and28_u32 b h2.1 h2.2, wraps_u64 (a % 268435456) (by omega) (by omega), wraps_u64 (b % 268435456) (by omega) (by omega), wraps_u64 _ (by omega) (by omega)]
  rw [bits_join .u64 64 (by decide) wraps_u64 56 (l * 72057594037927936) (a % 268435456 * 268435456) (by omega) (by omega) (by omega) (by omega) (by omega) (by omega)]
  rw [bits_join .u64 64 (by decide) wraps_u64 28 _ (b % 268435456) (by omega) (by omega) (by omega) (by omega) (by omega) (by omega)]
  rfl
theorem nodeZ_bd (l a b : Int) (h0 : 0 ≤ l ∧ l ≤ 255) : 0 ≤ nodeZ l a b ∧ nodeZ l a b ≤ 18446744073709551615 := by unfold nodeZ; omega
theorem part0 (l a b : Int) : nodeZ l a b / 72057594037927936 = l := by unfold nodeZ; omega
theorem part1 (l a b : Int) : nodeZ l a b / 268435456 % 268435456 = a % 268435456 := by unfold nodeZ; omega
theorem part2 (l a b : Int) : nodeZ l a b % 268435456 = b % 268435456 := by unfold nodeZ; omega
/-- One word is one level, low and high. -/
theorem nodeZ_inj {l a b l' a' b' : Nat} (h1 : a < 268435456) (h2 : b < 268435456) (h3 : a' < 268435456) (h4 : b' < 268435456) (e : nodeZ (l : Int) a b = nodeZ (l' : Int) a' b') : l = l' ∧ a = a' ∧ b = b' := by
  have e0 := part0 l a b; have e1 := part1 l a b; have e2 := part2 l a b
  rw [e, part0] at e0; rw [e, part1] at e1; rw [e, part2] at e2
  omega
theorem nodeZ_pos {l a b : Nat} (h1 : a < 268435456) (h2 : b < 268435456) (h : a ≠ b) : 0 < nodeZ (l : Int) a b := by unfold nodeZ; omega
theorem bnode_any (l a b : Int) (w : World) (h0 : 0 ≤ l ∧ l ≤ 255) (h1 : 0 ≤ a ∧ a ≤ 4294967295) (h2 : 0 ≤ b ∧ b ≤ 4294967295) :
    Calls Try.prog 39 #[.int .u8 l, .int .u32 a, .int .u32 b] w fun e w' => e = .returned (.int .u64 (nodeZ l a b)) ∧ w' = w := by
  rw [← node_form l a b h0 h1 h2]
  go_enter Try.func39, Try.ntmps39
  go_wp2
  go_ret
  exact ⟨rfl, rfl⟩
theorem bparts_any (x : Int) (w : World) (h0 : 0 ≤ x) (h1 : x ≤ 18446744073709551615) :
    Calls Try.prog 52 #[.int .u64 x] w fun e w' => e = .returned (.tuple #[.int .u8 (x / 72057594037927936), .int .u32 (x / 268435456 % 268435456), .int .u32 (x % 268435456)]) ∧ w' = w := by
  have e1 : bits .and .u64 (x / 268435456) 268435455 % 4294967296 = x / 268435456 % 268435456 := by rw [and28_u64 _ (by omega) (by omega)]; omega
  have e2 : bits .and .u64 x 268435455 % 4294967296 = x % 268435456 := by rw [and28_u64 _ (by omega) (by omega)]; omega
  rw [← e1, ← e2]
  clear e1 e2
  go_enter Try.func52, Try.ntmps52
  go_wp2
  go_ret3
  exact ⟨rfl, rfl⟩
end Go.Proofs.Ytdmfbfbebcneeaa
