/-
  Facts that the statements of layer 1 rest on, in the walks' forms. No program is named here.
-/
import Derived.Test.YtloadpndljabeaaDoorForm
namespace Go.Proofs.YtloadpndljabeaaDoor
namespace Num

theorem unmix_form (x : Int) (h0 : 0 ≤ x) (h1 : x ≤ 18446744073709551615) :
    bits .xor .u64 (IntKind.u64.wrap (bits .xor .u64 (IntKind.u64.wrap (bits .xor .u64 (mixZ x) (mixZ x / 8589934592) * 11291846944257947611)) (IntKind.u64.wrap (bits .xor .u64 (mixZ x) (mixZ x / 8589934592) * 11291846944257947611) / 8589934592) * 5725274745694666757))
      (IntKind.u64.wrap (bits .xor .u64 (IntKind.u64.wrap (bits .xor .u64 (mixZ x) (mixZ x / 8589934592) * 11291846944257947611)) (IntKind.u64.wrap (bits .xor .u64 (mixZ x) (mixZ x / 8589934592) * 11291846944257947611) / 8589934592) * 5725274745694666757) / 8589934592) = x := by
  have p : (0 : Nat) < 18446744073709551616 := by decide
  obtain ⟨n, rfl⟩ := Int.eq_ofNat_of_zero_le h0
  have u := um_mx n (by omega)
  have l := mx_lt n
  have e : mixZ (n : Int) = ((mx n : Nat) : Int) := rfl
  rw [e]
  generalize mx n = y at *
  have e1 := mul_form (fo y) 11291846944257947611
  have e2 := mul_form (fo (fo y * 11291846944257947611 % 18446744073709551616)) 5725274745694666757
  simp only [Int.cast_ofNat_Int] at e1 e2
  rw [fold_form' y l, e1, fold_form' _ (Nat.mod_lt _ p), e2, fold_form' _ (Nat.mod_lt _ p)]
  exact congrArg Int.ofNat u
theorem gather_spread (y : Int) (h0 : 0 ≤ y) (h1 : y ≤ 255) : gatherZ (spreadZ y) = y := by
  obtain ⟨n, rfl⟩ := Int.eq_ofNat_of_zero_le h0
  simpa using below (fun n => decide (gatherZ (spreadZ (n : Int)) = (n : Int))) 256 (by kernel_rfl) (show n < 256 by omega)
theorem spread_even (y : Int) (h0 : 0 ≤ y) (h1 : y ≤ 255) : bits .and .u16 (spreadZ y) 43690 = 0 := by
  obtain ⟨n, rfl⟩ := Int.eq_ofNat_of_zero_le h0
  simpa using below (fun n => decide (bits .and .u16 (spreadZ (n : Int)) 43690 = 0)) 256 (by kernel_rfl) (show n < 256 by omega)

/-! ## Two numbers, spread -/
theorem sp_and : ∀ k a b, sp k a &&& sp k b = sp k (a &&& b)
  | 0, _, _ => by simp [sp]
  | k + 1, a, b => by
    have ih := sp_and k (a / 2) (b / 2)
    have j := and_join 2 (sp k (a / 2)) (a % 2) (sp k (b / 2)) (b % 2) (by omega) (by omega)
    have d : (a &&& b) / 2 = a / 2 &&& b / 2 := Nat.and_div_two_pow (n := 1)
    have m : (a &&& b) % 2 = a % 2 &&& b % 2 := Nat.and_mod_two_pow (n := 1)
    simp only [sp, d, m, ← ih]
    simp only [Nat.reducePow] at j
    rw [Nat.add_comm (a % 2), Nat.add_comm (b % 2), j, Nat.add_comm]
theorem sp_or : ∀ k a b, sp k a ||| sp k b = sp k (a ||| b)
  | 0, _, _ => by simp [sp]
  | k + 1, a, b => by
    have ih := sp_or k (a / 2) (b / 2)
    have j := or_join 2 (sp k (a / 2)) (a % 2) (sp k (b / 2)) (b % 2) (by omega) (by omega)
    have d : (a ||| b) / 2 = a / 2 ||| b / 2 := Nat.or_div_two_pow (n := 1)
    have m : (a ||| b) % 2 = a % 2 ||| b % 2 := Nat.or_mod_two_pow (n := 1)
    simp only [sp, d, m, ← ih]
    simp only [Nat.reducePow] at j
    rw [Nat.add_comm (a % 2), Nat.add_comm (b % 2), j, Nat.add_comm]
theorem sp_xor : ∀ k a b, sp k a ^^^ sp k b = sp k (a ^^^ b)
  | 0, _, _ => by simp [sp]
  | k + 1, a, b => by
    have ih := sp_xor k (a / 2) (b / 2)
    have j := xor_join 2 (sp k (a / 2)) (a % 2) (sp k (b / 2)) (b % 2) (by omega) (by omega)
    have d : (a ^^^ b) / 2 = a / 2 ^^^ b / 2 := Nat.xor_div_two_pow (n := 1)
    have m : (a ^^^ b) % 2 = a % 2 ^^^ b % 2 := Nat.xor_mod_two_pow (n := 1)
    simp only [sp, d, m, ← ih]
    simp only [Nat.reducePow] at j
    rw [Nat.add_comm (a % 2), Nat.add_comm (b % 2), j, Nat.add_comm]
theorem sp_odd : ∀ k a b, sp k a ||| 2 * sp k b = sp k a + 2 * sp k b
  | 0, _, _ => by simp [sp]
  | k + 1, a, b => by
    have ih := sp_odd k (a / 2) (b / 2)
    have j := or_join 2 (sp k (a / 2)) (a % 2) (2 * sp k (b / 2)) (2 * (b % 2)) (by omega) (by omega)
    have c : a % 2 ||| 2 * (b % 2) = a % 2 + 2 * (b % 2) := by
      rcases Nat.mod_two_eq_zero_or_one a with h | h <;> rcases Nat.mod_two_eq_zero_or_one b with h' | h' <;> simp [h, h']
    rw [ih, c] at j
    simp only [Nat.reducePow] at j
    simp only [sp]
    rw [show 2 * (b % 2 + 4 * sp k (b / 2)) = 4 * (2 * sp k (b / 2)) + 2 * (b % 2) by omega, Nat.add_comm (a % 2), j]
    omega
theorem ga_sp2 : ∀ k a b, ga k (sp k a + 2 * sp k b) = a % 2 ^ k
  | 0, a, _ => by simp only [ga, Nat.pow_zero, Nat.mod_one]
  | k + 1, a, b => by
    have ih := ga_sp2 k (a / 2) (b / 2)
    have q : (sp (k + 1) a + 2 * sp (k + 1) b) / 4 = sp k (a / 2) + 2 * sp k (b / 2) := by simp only [sp]; omega
    have r : (sp (k + 1) a + 2 * sp (k + 1) b) % 2 = a % 2 := by simp only [sp]; omega
    simp only [ga, q, r, ih]
    rw [Nat.pow_succ, Nat.mul_comm (2 ^ k) 2, Nat.mod_mul]
theorem sp_seven (c : Nat) (h : c < 128) : sp 8 c = sp 7 c := by
  simpa using below (fun c => decide (sp 8 c = sp 7 c)) 128 (by kernel_rfl) h
theorem sp_step (a : Nat) (h : a < 255) : sp 8 a < sp 8 (a + 1) := by
  simpa using below (fun a => decide (sp 8 a < sp 8 (a + 1))) 255 (by kernel_rfl) h
theorem sp_lt_sp (a : Nat) : ∀ b, a < b → b ≤ 255 → sp 8 a < sp 8 b
  | 0, h, _ => absurd h (Nat.not_lt_zero _)
  | b + 1, h, hb => by
    have s := sp_step b (by omega)
    by_cases e : a = b
    · rw [e]; exact s
    · exact Nat.lt_trans (sp_lt_sp a b (by omega) (by omega)) s
theorem spread_lt (a b : Int) (ha : 0 ≤ a ∧ a ≤ 255) (hb : 0 ≤ b ∧ b ≤ 255) : spreadZ a < spreadZ b ↔ a < b := by
  unfold spreadZ
  constructor
  · intro h
    by_cases e : a < b
    · exact e
    · by_cases f : a = b
      · rw [f] at h; omega
      · have := sp_lt_sp b.toNat a.toNat (by omega) (by omega); omega
  · intro h
    have := sp_lt_sp a.toNat b.toNat (by omega) (by omega); omega
theorem spread_and (a b : Int) (ha : 0 ≤ a ∧ a ≤ 255) (hb : 0 ≤ b ∧ b ≤ 255) : bits .and .u16 (spreadZ a) (spreadZ b) = spreadZ (bits .and .u8 a b) := by
  have la := sp_lt 8 a.toNat
  have lb := sp_lt 8 b.toNat
  rw [u8_and a b ha.1 (by omega) hb.1 (by omega)]
  unfold spreadZ
  rw [u16_and_nat _ _ (by omega) (by omega), sp_and, Int.toNat_natCast]
theorem spread_or (a b : Int) (ha : 0 ≤ a ∧ a ≤ 255) (hb : 0 ≤ b ∧ b ≤ 255) : bits .or .u16 (spreadZ a) (spreadZ b) = spreadZ (bits .or .u8 a b) := by
  have la := sp_lt 8 a.toNat
  have lb := sp_lt 8 b.toNat
  rw [u8_or a b ha.1 (by omega) hb.1 (by omega)]
  unfold spreadZ
  rw [u16_or_nat _ _ (by omega) (by omega), sp_or, Int.toNat_natCast]
theorem spread_xor (a b : Int) (ha : 0 ≤ a ∧ a ≤ 255) (hb : 0 ≤ b ∧ b ≤ 255) : bits .xor .u16 (spreadZ a) (spreadZ b) = spreadZ (bits .xor .u8 a b) := by
  have la := sp_lt 8 a.toNat
  have lb := sp_lt 8 b.toNat
  rw [u8_xor a b ha.1 (by omega) hb.1 (by omega)]
  unfold spreadZ
  rw [u16_xor_nat _ _ (by omega) (by omega), sp_xor, Int.toNat_natCast]
/-- Below 256 the spread bits end at 21845. -/
theorem sp_top (a : Nat) (h : a < 256) : sp 8 a ≤ 21845 := by
  simpa using below (fun a => decide (sp 8 a ≤ 21845)) 256 (by kernel_rfl) h
theorem join_eq (a b : Int) (ha : 0 ≤ a ∧ a ≤ 255) (hb : 0 ≤ b ∧ b ≤ 255) :
    bits .or .u16 (spreadZ a) (IntKind.u16.wrap (spreadZ b * 2)) = ((sp 8 a.toNat + 2 * sp 8 b.toNat : Nat) : Int) := by
  have la := sp_top a.toNat (by omega)
  have lb := sp_top b.toNat (by omega)
  have e : IntKind.u16.wrap (spreadZ b * 2) = ((2 * sp 8 b.toNat : Nat) : Int) := by rw [IntKind.wrap_u16]; unfold spreadZ; omega
  rw [e]
  unfold spreadZ
  rw [u16_or_nat _ _ (by omega) (by omega), sp_odd]
theorem gather_join (a b : Int) (ha : 0 ≤ a ∧ a ≤ 255) (hb : 0 ≤ b ∧ b ≤ 255) : gatherZ (bits .or .u16 (spreadZ a) (IntKind.u16.wrap (spreadZ b * 2))) = a := by
  rw [join_eq a b ha hb]
  unfold gatherZ
  rw [Int.toNat_natCast, ga_sp2]
  omega
theorem gather_join' (a b : Int) (ha : 0 ≤ a ∧ a ≤ 255) (hb : 0 ≤ b ∧ b ≤ 255) : gatherZ (bits .or .u16 (spreadZ a) (IntKind.u16.wrap (spreadZ b * 2)) / 2) = b := by
  rw [join_eq a b ha hb]
  have h : (sp 8 a.toNat + 2 * sp 8 b.toNat) / 2 = sp 8 b.toNat + 2 * sp 8 (a.toNat / 2) := by
    rw [sp_seven (a.toNat / 2) (by omega)]
    have : sp 8 a.toNat = a.toNat % 2 + 4 * sp 7 (a.toNat / 2) := rfl
    omega
  have e : (((sp 8 a.toNat + 2 * sp 8 b.toNat : Nat) : Int) / 2) = ((sp 8 b.toNat + 2 * sp 8 (a.toNat / 2) : Nat) : Int) := by rw [← h]; omega
  rw [e]
  unfold gatherZ
  rw [Int.toNat_natCast, ga_sp2]
  omega

/-! ## Homes, opposites -/
theorem home_none (x s : Int) (h : s < 1) : homeZ x s = 0 := by simp [homeZ, h]
theorem home_some (x s : Int) (h : 1 ≤ s) : homeZ x s = mixZ x % s := by
  have : ¬ s < 1 := by omega
  simp [homeZ, this]
theorem home_one (x : Int) : homeZ x 1 = 0 := by rw [home_some x 1 (by omega)]; omega
theorem not_form (x : Int) (h0 : 0 ≤ x) (h1 : x ≤ 18446744073709551615) : bits .xor .u64 18446744073709551615 x = 18446744073709551615 - x := by
  obtain ⟨n, rfl⟩ := Int.eq_ofNat_of_zero_le h0
  have e := bits_xor_u64_nat 18446744073709551615 n (by decide) (by omega)
  simp only [Int.cast_ofNat_Int] at e
  have t : (18446744073709551615 : Nat) ^^^ n = 18446744073709551615 - n := by
    have l : (BitVec.allOnes 64 ^^^ BitVec.ofNat 64 n).toNat = (~~~ BitVec.ofNat 64 n).toNat := by rw [BitVec.allOnes_xor]
    rw [BitVec.toNat_xor, BitVec.toNat_not, BitVec.toNat_ofNat, Nat.mod_eq_of_lt (show n < 2 ^ 64 by omega)] at l
    exact l
  rw [e, t]
  omega
theorem node_left (a b c d : Int) : nodeZ a c 9 = nodeZ b d 9 ↔ a = b ∧ c % 268435456 = d % 268435456 := by unfold nodeZ; omega
theorem node_right (a b c d : Int) : nodeZ a 9 c = nodeZ b 9 d ↔ a = b ∧ c % 268435456 = d % 268435456 := by unfold nodeZ; omega
end Num
end Go.Proofs.YtloadpndljabeaaDoor
