/-
  What the walks of layer 1 come to, form by form, and the plain facts on mixing, spreading and gathering. No program is named here.
-/
import Derived.Test.YtmfocngdobcfcabDoorNum
import Derived.RowKit
namespace Go.Proofs.YtmfocngdobcfcabDoor
namespace Num

/-! ## Mixing -/
theorem fo_lt (x : Nat) (h : x < 18446744073709551616) : fo x < 18446744073709551616 :=
  Nat.xor_lt_two_pow (n := 64) h (Nat.lt_of_le_of_lt (Nat.div_le_self _ _) h)
theorem fo_fo (x : Nat) (h : x < 18446744073709551616) : fo (fo x) = x := by
  have e : ∀ n : Nat, n / 8589934592 = n >>> 33 := fun n => by rw [Nat.shiftRight_eq_div_pow]
  unfold fo
  rw [e, e, Nat.shiftRight_xor_distrib, ← Nat.shiftRight_add]
  have z : x >>> (33 + 33) = 0 := by rw [Nat.shiftRight_eq_div_pow]; exact Nat.div_eq_of_lt (by omega)
  rw [z, Nat.xor_zero, Nat.xor_assoc, Nat.xor_self, Nat.xor_zero]
theorem mul_back (y c d : Nat) (hy : y < 18446744073709551616) (h : c * d % 18446744073709551616 = 1) : (y * c % 18446744073709551616) * d % 18446744073709551616 = y := by
  rw [Nat.mod_mul_mod, Nat.mul_assoc, Nat.mul_mod, h, Nat.mul_one, Nat.mod_mod, Nat.mod_eq_of_lt hy]
/-- Mixing undone: the inverse steps. -/
def um (y : Nat) : Nat := fo (fo (fo y * 11291846944257947611 % 18446744073709551616) * 5725274745694666757 % 18446744073709551616)
theorem um_mx (x : Nat) (h : x < 18446744073709551616) : um (mx x) = x := by
  have p : (0 : Nat) < 18446744073709551616 := by decide
  unfold um mx
  rw [fo_fo _ (Nat.mod_lt _ p), mul_back _ _ _ (fo_lt _ (Nat.mod_lt _ p)) (by decide), fo_fo _ (Nat.mod_lt _ p), mul_back _ _ _ (fo_lt _ h) (by decide), fo_fo _ h]
theorem mx_lt (x : Nat) : mx x < 18446744073709551616 := fo_lt _ (Nat.mod_lt _ (by decide))
theorem mixZ_lo (x : Int) : 0 ≤ mixZ x := Int.natCast_nonneg _
theorem mixZ_hi (x : Int) : mixZ x ≤ 18446744073709551615 := by have := mx_lt x.toNat; unfold mixZ; omega
theorem mixZ_inj (x y : Int) (hx0 : 0 ≤ x) (hx : x ≤ 18446744073709551615) (hy0 : 0 ≤ y) (hy : y ≤ 18446744073709551615) (h : mixZ x = mixZ y) : x = y := by
  have h' : mx x.toNat = mx y.toNat := by unfold mixZ at h; omega
  have a := um_mx x.toNat (by omega)
  have b := um_mx y.toNat (by omega)
  rw [h', b] at a
  omega
theorem fold_form (x : Int) (h0 : 0 ≤ x) (h1 : x ≤ 18446744073709551615) : bits .xor .u64 x (x / 8589934592) = ((fo x.toNat : Nat) : Int) := by
  obtain ⟨n, rfl⟩ := Int.eq_ofNat_of_zero_le h0
  exact xorShift_u64 n 8589934592 (by omega)
theorem mul_form (n c : Nat) : IntKind.u64.wrap ((n : Int) * (c : Int)) = ((n * c % 18446744073709551616 : Nat) : Int) := by
  rw [IntKind.wrap_u64, Int.natCast_emod, Int.natCast_mul]; rfl
theorem fold_form' (n : Nat) (h : n < 18446744073709551616) : bits .xor .u64 (n : Int) ((n : Int) / 8589934592) = ((fo n : Nat) : Int) := xorShift_u64 n 8589934592 h
theorem mix_form (x : Int) (h0 : 0 ≤ x) (h1 : x ≤ 18446744073709551615) :
    bits .xor .u64 (IntKind.u64.wrap (bits .xor .u64 (IntKind.u64.wrap (bits .xor .u64 x (x / 8589934592) * 18397679294719823053)) (IntKind.u64.wrap (bits .xor .u64 x (x / 8589934592) * 18397679294719823053) / 8589934592) * 14181476777654086739))
      (IntKind.u64.wrap (bits .xor .u64 (IntKind.u64.wrap (bits .xor .u64 x (x / 8589934592) * 18397679294719823053)) (IntKind.u64.wrap (bits .xor .u64 x (x / 8589934592) * 18397679294719823053) / 8589934592) * 14181476777654086739) / 8589934592) = mixZ x := by
  have p : (0 : Nat) < 18446744073709551616 := by decide
  obtain ⟨n, rfl⟩ := Int.eq_ofNat_of_zero_le h0
  have e1 := mul_form (fo n) 18397679294719823053
  have e2 := mul_form (fo (fo n * 18397679294719823053 % 18446744073709551616)) 14181476777654086739
  simp only [Int.cast_ofNat_Int] at e1 e2
  rw [fold_form' n (by omega), e1, fold_form' _ (Nat.mod_lt _ p), e2, fold_form' _ (Nat.mod_lt _ p)]
  rfl

/-! ## Nodes -/
theorem and28_u32 (a : Int) (h0 : 0 ≤ a) (h1 : a ≤ 4294967295) : bits .and .u32 a 268435455 = a % 268435456 := by
  obtain ⟨n, rfl⟩ := Int.eq_ofNat_of_zero_le h0
  rw [show (268435455 : Int) = ((268435455 : Nat) : Int) from rfl, u32_and_nat n 268435455 (by omega) (by decide), nat_mask28]
  omega
theorem and28_u64 (a : Int) (h0 : 0 ≤ a) (h1 : a ≤ 18446744073709551615) : bits .and .u64 a 268435455 = a % 268435456 := by
  obtain ⟨n, rfl⟩ := Int.eq_ofNat_of_zero_le h0
  rw [show (268435455 : Int) = ((268435455 : Nat) : Int) from rfl, u64_and_nat n 268435455 (by omega) (by decide), nat_mask28]
  omega
theorem wraps_u64 (n : Int) (h₀ : 0 ≤ n) (h₁ : n < 2 ^ 64) : IntKind.u64.wrap n = n := by rw [IntKind.wrap_u64]; omega
theorem node_form (l a b : Int) (h0 : 0 ≤ l ∧ l ≤ 255) (h1 : 0 ≤ a ∧ a ≤ 4294967295) (h2 : 0 ≤ b ∧ b ≤ 4294967295) :
    bits .or .u64 (bits .or .u64 (l * 72057594037927936) (IntKind.u64.wrap (IntKind.u64.wrap (bits .and .u32 a 268435455) * 268435456))) (IntKind.u64.wrap (bits .and .u32 b 268435455)) = nodeZ l a b := by
  rw [and28_u32 a h1.1 h1.2, and28_u32 b h2.1 h2.2, wraps_u64 (a % 268435456) (by omega) (by omega), wraps_u64 (b % 268435456) (by omega) (by omega), wraps_u64 _ (by omega) (by omega)]
  rw [bits_join .u64 64 (by decide) wraps_u64 56 (l * 72057594037927936) (a % 268435456 * 268435456) (by omega) (by omega) (by omega) (by omega) (by omega) (by omega)]
  rw [bits_join .u64 64 (by decide) wraps_u64 28 _ (b % 268435456) (by omega) (by omega) (by omega) (by omega) (by omega) (by omega)]
  rfl
theorem nodeZ_bd (l a b : Int) (h0 : 0 ≤ l ∧ l ≤ 255) : 0 ≤ nodeZ l a b ∧ nodeZ l a b ≤ 18446744073709551615 := by unfold nodeZ; omega
theorem part0 (l a b : Int) : nodeZ l a b / 72057594037927936 = l := by unfold nodeZ; omega
theorem part1 (l a b : Int) : nodeZ l a b / 268435456 % 268435456 = a % 268435456 := by unfold nodeZ; omega
theorem part2 (l a b : Int) : nodeZ l a b % 268435456 = b % 268435456 := by unfold nodeZ; omega

/-! ## Spreading -/
theorem spread_form (x : Int) (h0 : 0 ≤ x) (h1 : x ≤ 255) :
    IntKind.u16.wrap (bits .and .u64 (bits .or .u64 (bits .and .u64 (bits .or .u64 (bits .and .u64 (bits .or .u64 x (x * 16)) 1085102592571150095)
      (IntKind.u64.wrap (bits .and .u64 (bits .or .u64 x (x * 16)) 1085102592571150095 * 4))) 3689348814741910323)
      (IntKind.u64.wrap (bits .and .u64 (bits .or .u64 (bits .and .u64 (bits .or .u64 x (x * 16)) 1085102592571150095)
        (IntKind.u64.wrap (bits .and .u64 (bits .or .u64 x (x * 16)) 1085102592571150095 * 4))) 3689348814741910323 * 2))) 6148914691236517205) = spreadZ x := by
  obtain ⟨n, rfl⟩ := Int.eq_ofNat_of_zero_le h0
  simpa using below (fun n => decide (IntKind.u16.wrap (bits .and .u64 (bits .or .u64 (bits .and .u64 (bits .or .u64 (bits .and .u64 (bits .or .u64 (n : Int) ((n : Int) * 16)) 1085102592571150095)
      (IntKind.u64.wrap (bits .and .u64 (bits .or .u64 (n : Int) ((n : Int) * 16)) 1085102592571150095 * 4))) 3689348814741910323)
      (IntKind.u64.wrap (bits .and .u64 (bits .or .u64 (bits .and .u64 (bits .or .u64 (n : Int) ((n : Int) * 16)) 1085102592571150095)
        (IntKind.u64.wrap (bits .and .u64 (bits .or .u64 (n : Int) ((n : Int) * 16)) 1085102592571150095 * 4))) 3689348814741910323 * 2))) 6148914691236517205) = spreadZ (n : Int))) 256 (by kernel_rfl) (show n < 256 by omega)
theorem rspread_form (x : Int) (h0 : 0 ≤ x) (h1 : x ≤ 255) :
    bits .or .u16 (bits .or .u16 (bits .or .u16 (bits .or .u16 (bits .or .u16 (bits .or .u16 (bits .or .u16
      (bits .or .u16 0 (IntKind.u16.wrap (IntKind.u16.wrap (bits .and .u8 x 1))))
      (IntKind.u16.wrap (IntKind.u16.wrap (bits .and .u8 (x / 2) 1) * 4)))
      (IntKind.u16.wrap (IntKind.u16.wrap (bits .and .u8 (x / 4) 1) * 16)))
      (IntKind.u16.wrap (IntKind.u16.wrap (bits .and .u8 (x / 8) 1) * 64)))
      (IntKind.u16.wrap (IntKind.u16.wrap (bits .and .u8 (x / 16) 1) * 256)))
      (IntKind.u16.wrap (IntKind.u16.wrap (bits .and .u8 (x / 32) 1) * 1024)))
      (IntKind.u16.wrap (IntKind.u16.wrap (bits .and .u8 (x / 64) 1) * 4096)))
      (IntKind.u16.wrap (IntKind.u16.wrap (bits .and .u8 (x / 128) 1) * 16384)) = spreadZ x := by
  obtain ⟨n, rfl⟩ := Int.eq_ofNat_of_zero_le h0
  simpa using below (fun n => decide (bits .or .u16 (bits .or .u16 (bits .or .u16 (bits .or .u16 (bits .or .u16 (bits .or .u16 (bits .or .u16
      (bits .or .u16 0 (IntKind.u16.wrap (IntKind.u16.wrap (bits .and .u8 (n : Int) 1))))
      (IntKind.u16.wrap (IntKind.u16.wrap (bits .and .u8 ((n : Int) / 2) 1) * 4)))
      (IntKind.u16.wrap (IntKind.u16.wrap (bits .and .u8 ((n : Int) / 4) 1) * 16)))
      (IntKind.u16.wrap (IntKind.u16.wrap (bits .and .u8 ((n : Int) / 8) 1) * 64)))
      (IntKind.u16.wrap (IntKind.u16.wrap (bits .and .u8 ((n : Int) / 16) 1) * 256)))
      (IntKind.u16.wrap (IntKind.u16.wrap (bits .and .u8 ((n : Int) / 32) 1) * 1024)))
      (IntKind.u16.wrap (IntKind.u16.wrap (bits .and .u8 ((n : Int) / 64) 1) * 4096)))
      (IntKind.u16.wrap (IntKind.u16.wrap (bits .and .u8 ((n : Int) / 128) 1) * 16384)) = spreadZ (n : Int))) 256 (by kernel_rfl) (show n < 256 by omega)
theorem spreadZ_lo (x : Int) : 0 ≤ spreadZ x := Int.natCast_nonneg _
theorem spreadZ_hi (x : Int) : spreadZ x ≤ 65535 := by have := sp_lt 8 x.toNat; unfold spreadZ; omega

/-! ## Gathering -/
theorem and4 (n m : Nat) : n &&& (4 * m + 1) = n % 2 + 4 * (n / 4 &&& m) := by
  have h := and_join 2 (n / 4) (n % 4) m 1 (by omega) (by decide)
  have e : 2 ^ 2 * (n / 4) + n % 4 = n := by omega
  rw [e] at h
  have f : n % 4 &&& 1 = n % 2 := by rw [nat_mask1]; omega
  rw [f] at h
  simp only [Nat.reducePow] at h
  omega
theorem sp_ga : ∀ k n, sp (k + 1) (ga (k + 1) n) = n % 2 + 4 * sp k (ga k (n / 4)) := by
  intro k n
  have h : ∀ r q : Nat, r < 2 → sp (k + 1) (r + 2 * q) = r + 4 * sp k q := by
    intro r q hr
    simp only [sp]
    rw [show (r + 2 * q) % 2 = r by omega, show (r + 2 * q) / 2 = q by omega]
  simp only [ga]
  exact h _ _ (Nat.mod_lt _ (by decide))
theorem and_even (n : Nat) (h : n < 65536) : n &&& 6148914691236517205 = sp 8 (ga 8 n) := by
  have key : ∀ m, n &&& (4 * (4 * (4 * (4 * (4 * (4 * (4 * (4 * m + 1) + 1) + 1) + 1) + 1) + 1) + 1) + 1) = sp 8 (ga 8 n) := by
    intro m
    simp only [and4, sp_ga, Nat.div_div_eq_div_mul, Nat.reduceMul]
    rw [Nat.div_eq_of_lt h]
    simp [sp]
  have h' := key 93824992236885
  simp only [Nat.reduceMul, Nat.reduceAdd] at h'
  exact h'
/-- What gathering makes of the even bits. -/
def gz (s : Int) : Int :=
  bits .and .u64 (bits .or .u64 (bits .and .u64 (bits .or .u64 (bits .and .u64 (bits .or .u64 s (s / 2)) 3689348814741910323)
    (bits .and .u64 (bits .or .u64 s (s / 2)) 3689348814741910323 / 4)) 1085102592571150095)
    (bits .and .u64 (bits .or .u64 (bits .and .u64 (bits .or .u64 s (s / 2)) 3689348814741910323)
      (bits .and .u64 (bits .or .u64 s (s / 2)) 3689348814741910323 / 4)) 1085102592571150095 / 16)) 71777214294589695 % 256
theorem gz_sp (g : Nat) (h : g < 256) : gz ((sp 8 g : Nat) : Int) = (g : Int) := by
  simpa using below (fun g => decide (gz ((sp 8 g : Nat) : Int) = (g : Int))) 256 (by kernel_rfl) h
theorem gather_form (x : Int) (h0 : 0 ≤ x) (h1 : x ≤ 65535) : gz (bits .and .u64 x 6148914691236517205) = gatherZ x := by
  obtain ⟨n, rfl⟩ := Int.eq_ofNat_of_zero_le h0
  have e := u64_and_nat n 6148914691236517205 (by omega) (by decide)
  simp only [Int.cast_ofNat_Int] at e
  have hg := ga_lt 8 n
  rw [e, and_even n (by omega), gz_sp _ hg]
  rfl
theorem ga_bit : ∀ i k n, i < k → ga k n / 2 ^ i % 2 = n / 4 ^ i % 2
  | 0, k + 1, n, _ => by simp only [ga, Nat.pow_zero, Nat.div_one]; omega
  | i + 1, k + 1, n, h => by
    have d : ga (k + 1) n / 2 = ga k (n / 4) := by simp only [ga]; omega
    have := ga_bit i k (n / 4) (by omega)
    rw [Nat.pow_succ, Nat.pow_succ, Nat.mul_comm (2 ^ i), Nat.mul_comm (4 ^ i), ← Nat.div_div_eq_div_mul, ← Nat.div_div_eq_div_mul, d]
    exact this
theorem q_of (n g a b : Nat) (t : g / b % 2 = n / a % 2) : (n : Int) / (a : Int) % 2 = (g : Int) / (b : Int) % 2 := by exact_mod_cast t.symm
/-- The reference's gathering, bit by bit. -/
def rz (a b c d e f g h : Int) : Int :=
  bits .or .u8 (bits .or .u8 (bits .or .u8 (bits .or .u8 (bits .or .u8 (bits .or .u8 (bits .or .u8 (bits .or .u8 0 (a % 256)) (b % 256 * 2 % 256)) (c % 256 * 4 % 256)) (d % 256 * 8 % 256)) (e % 256 * 16 % 256)) (f % 256 * 32 % 256)) (g % 256 * 64 % 256)) (h % 256 * 128 % 256)
theorem and1_u16 (x : Int) (h0 : 0 ≤ x) (h1 : x ≤ 65535) : bits .and .u16 x 1 = x % 2 := by
  obtain ⟨n, rfl⟩ := Int.eq_ofNat_of_zero_le h0
  rw [show (1 : Int) = ((1 : Nat) : Int) from rfl, u16_and_nat n 1 (by omega) (by decide), nat_mask1]
  omega
theorem rz_bits (g : Nat) (h : g < 256) : rz ((g : Int) % 2) ((g : Int) / 2 % 2) ((g : Int) / 4 % 2) ((g : Int) / 8 % 2) ((g : Int) / 16 % 2) ((g : Int) / 32 % 2) ((g : Int) / 64 % 2) ((g : Int) / 128 % 2) = (g : Int) := by
  simpa using below (fun g => decide (rz ((g : Int) % 2) ((g : Int) / 2 % 2) ((g : Int) / 4 % 2) ((g : Int) / 8 % 2) ((g : Int) / 16 % 2) ((g : Int) / 32 % 2) ((g : Int) / 64 % 2) ((g : Int) / 128 % 2) = (g : Int))) 256 (by kernel_rfl) h
theorem rgather_form (x : Int) (h0 : 0 ≤ x) (h1 : x ≤ 65535) :
    rz (bits .and .u16 x 1) (bits .and .u16 (x / 4) 1) (bits .and .u16 (x / 16) 1) (bits .and .u16 (x / 64) 1) (bits .and .u16 (x / 256) 1) (bits .and .u16 (x / 1024) 1) (bits .and .u16 (x / 4096) 1) (bits .and .u16 (x / 16384) 1) = gatherZ x := by
  rw [and1_u16 x h0 h1, and1_u16 (x / 4) (by omega) (by omega), and1_u16 (x / 16) (by omega) (by omega), and1_u16 (x / 64) (by omega) (by omega), and1_u16 (x / 256) (by omega) (by omega), and1_u16 (x / 1024) (by omega) (by omega), and1_u16 (x / 4096) (by omega) (by omega), and1_u16 (x / 16384) (by omega) (by omega)]
  obtain ⟨n, rfl⟩ := Int.eq_ofNat_of_zero_le h0
  have hg : gatherZ (n : Int) = ((ga 8 n : Nat) : Int) := rfl
  have hl := ga_lt 8 n
  have hz := rz_bits (ga 8 n) hl
  rw [hg]
  have t0 := ga_bit 0 8 n (by decide)
  have t1 := ga_bit 1 8 n (by decide)
  have t2 := ga_bit 2 8 n (by decide)
  have t3 := ga_bit 3 8 n (by decide)
  have t4 := ga_bit 4 8 n (by decide)
  have t5 := ga_bit 5 8 n (by decide)
  have t6 := ga_bit 6 8 n (by decide)
  have t7 := ga_bit 7 8 n (by decide)
  simp only [Nat.reducePow] at t0 t1 t2 t3 t4 t5 t6 t7
  generalize ga 8 n = g at *
  have q0 := q_of n g 1 1 t0
  have q1 := q_of n g 4 2 t1
  have q2 := q_of n g 16 4 t2
  have q3 := q_of n g 64 8 t3
  have q4 := q_of n g 256 16 t4
  have q5 := q_of n g 1024 32 t5
  have q6 := q_of n g 4096 64 t6
  have q7 := q_of n g 16384 128 t7
  simp only [Int.cast_ofNat_Int, Int.ediv_one] at q0 q1 q2 q3 q4 q5 q6 q7
  rw [q0, q1, q2, q3, q4, q5, q6, q7]
  exact hz
theorem gatherZ_lo (x : Int) : 0 ≤ gatherZ x := Int.natCast_nonneg _
theorem gatherZ_hi (x : Int) : gatherZ x ≤ 255 := by have := ga_lt 8 x.toNat; unfold gatherZ; omega

/-! ## Counting -/
def stZ (m d x : Int) : Int := IntKind.u64.wrap (bits .and .u64 x m + bits .and .u64 (x / d) m)
theorem stZ_eq (m d n : Nat) (hm : 2 * m < 18446744073709551616) (hn : n < 18446744073709551616) : stZ (m : Int) (d : Int) (n : Int) = ((st m d n : Nat) : Int) := by
  have hb := st_le m d n
  have hq : n / d < 18446744073709551616 := Nat.lt_of_le_of_lt (Nat.div_le_self _ _) hn
  unfold stZ
  rw [u64_and_nat n m hn (by omega), show ((n : Int) / (d : Int)) = ((n / d : Nat) : Int) from (Int.natCast_ediv n d).symm, u64_and_nat _ m hq (by omega), IntKind.wrap_u64]
  unfold st at *
  omega
def o1 (x : Int) : Int := stZ 6148914691236517205 2 x
def o2 (x : Int) : Int := stZ 3689348814741910323 4 (o1 x)
def o3 (x : Int) : Int := stZ 1085102592571150095 16 (o2 x)
def o4 (x : Int) : Int := stZ 71777214294589695 256 (o3 x)
def o5 (x : Int) : Int := stZ 281470681808895 65536 (o4 x)
def o6 (x : Int) : Int := stZ 4294967295 4294967296 (o5 x)
theorem stZ_bd (m d x : Int) : 0 ≤ stZ m d x ∧ stZ m d x ≤ 18446744073709551615 := by unfold stZ; rw [IntKind.wrap_u64]; omega
theorem o6_form (x : Int) (h0 : 0 ≤ x) (h1 : x ≤ 18446744073709551615) : o6 x = onesZ x := by
  obtain ⟨n, rfl⟩ := Int.eq_ofNat_of_zero_le h0
  have hn : n < 18446744073709551616 := by omega
  have b1 := st_le 6148914691236517205 2 n
  have e1 := stZ_eq 6148914691236517205 2 n (by decide) hn
  have b2 := st_le 3689348814741910323 4 (st 6148914691236517205 2 n)
  have e2 := stZ_eq 3689348814741910323 4 (st 6148914691236517205 2 n) (by decide) (by omega)
  have b3 := st_le 1085102592571150095 16 (st 3689348814741910323 4 (st 6148914691236517205 2 n))
  have e3 := stZ_eq 1085102592571150095 16 (st 3689348814741910323 4 (st 6148914691236517205 2 n)) (by decide) (by omega)
  have b4 := st_le 71777214294589695 256 (st 1085102592571150095 16 (st 3689348814741910323 4 (st 6148914691236517205 2 n)))
  have e4 := stZ_eq 71777214294589695 256 (st 1085102592571150095 16 (st 3689348814741910323 4 (st 6148914691236517205 2 n))) (by decide) (by omega)
  have b5 := st_le 281470681808895 65536 (st 71777214294589695 256 (st 1085102592571150095 16 (st 3689348814741910323 4 (st 6148914691236517205 2 n))))
  have e5 := stZ_eq 281470681808895 65536 (st 71777214294589695 256 (st 1085102592571150095 16 (st 3689348814741910323 4 (st 6148914691236517205 2 n)))) (by decide) (by omega)
  have e6 := stZ_eq 4294967295 4294967296 (st 281470681808895 65536 (st 71777214294589695 256 (st 1085102592571150095 16 (st 3689348814741910323 4 (st 6148914691236517205 2 n))))) (by decide) (by omega)
  simp only [Int.cast_ofNat_Int] at e1 e2 e3 e4 e5 e6
  have hp := f64_pop n hn
  unfold o6 o5 o4 o3 o2 o1
  rw [e1, e2, e3, e4, e5, e6]
  unfold f64 at hp
  rw [hp]
  rfl
theorem onesZ_lo (x : Int) : 0 ≤ onesZ x := Int.natCast_nonneg _
theorem onesZ_hi (x : Int) : onesZ x ≤ 64 := by have := pop_le 64 x.toNat; unfold onesZ; omega
/-- The reference's counting, behind k rounds. -/
def popZ (k : Nat) (x : Int) : Int := ((pop k x.toNat : Nat) : Int)
theorem pop_snoc (k n : Nat) : pop (k + 1) n = pop k n + n / 2 ^ k % 2 := by
  rw [pop_add k 1 n]; simp [pop]
theorem popZ_bd (k : Nat) (x : Int) : 0 ≤ popZ k x ∧ popZ k x ≤ k := by have := pop_le k x.toNat; unfold popZ; omega
theorem popZ_snoc (k : Nat) (x : Int) (h0 : 0 ≤ x) (h1 : x ≤ 18446744073709551615) : popZ (k + 1) x = popZ k x + bits .and .u64 (x / 2 ^ k) 1 := by
  obtain ⟨n, rfl⟩ := Int.eq_ofNat_of_zero_le h0
  have hq : n / 2 ^ k < 18446744073709551616 := Nat.lt_of_le_of_lt (Nat.div_le_self _ _) (by omega)
  have e : ((n : Int) / 2 ^ k) = ((n / 2 ^ k : Nat) : Int) := by rw [Int.natCast_ediv]; simp
  rw [e, show (1 : Int) = ((1 : Nat) : Int) from rfl, u64_and_nat _ 1 hq (by decide), nat_mask1]
  show ((pop (k + 1) n : Nat) : Int) = ((pop k n : Nat) : Int) + _
  rw [pop_snoc]
  omega
theorem and1_bd (k : Nat) (x : Int) (h0 : 0 ≤ x) (h1 : x ≤ 18446744073709551615) : 0 ≤ bits .and .u64 (x / 2 ^ k) 1 ∧ bits .and .u64 (x / 2 ^ k) 1 ≤ 1 := by
  have h := popZ_snoc k x h0 h1
  have e : popZ (k + 1) x = popZ k x + ((x.toNat / 2 ^ k % 2 : Nat) : Int) := by unfold popZ; rw [pop_snoc]; omega
  omega
theorem popZ_64 (x : Int) : popZ 64 x = onesZ x := rfl
theorem ones_not (x : Int) (h0 : 0 ≤ x) (h1 : x ≤ 18446744073709551615) : onesZ x + onesZ (18446744073709551615 - x) = 64 := by
  have h := pop_not 64 x.toNat (by omega)
  have e : 2 ^ 64 - 1 - x.toNat = (18446744073709551615 - x).toNat := by omega
  rw [e] at h
  unfold onesZ
  omega
theorem ones_spread (y : Int) (h0 : 0 ≤ y) (h1 : y ≤ 255) : onesZ (spreadZ y) = onesZ y := by
  obtain ⟨n, rfl⟩ := Int.eq_ofNat_of_zero_le h0
  simpa using below (fun n => decide (onesZ (spreadZ (n : Int)) = onesZ (n : Int))) 256 (by kernel_rfl) (show n < 256 by omega)
end Num
end Go.Proofs.YtmfocngdobcfcabDoor
