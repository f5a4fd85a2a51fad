/-
  Plain facts on numbers for the statements of layer 1: bits spread, gathered, counted, numbers mixed and mixed back. No program is named here.
-/
import Derived.Laws.Entries
import Derived.Laws.BitsLemmas
import Derived.Laws.BitsAllLaws
import Derived.Laws.Bits64
import Derived.Laws.Closers25b
import Derived.KernelRfl
namespace Go.Proofs.YtmfocngdobcfcabDoor
namespace Num

/-- Bit i of a at place 2i, for the lowest k bits. -/
def sp : Nat → Nat → Nat
  | 0, _ => 0
  | k + 1, a => a % 2 + 4 * sp k (a / 2)
/-- Bit 2i of z at place i, for the lowest k of them. -/
def ga : Nat → Nat → Nat
  | 0, _ => 0
  | k + 1, z => z % 2 + 2 * ga k (z / 4)
/-- How many of the lowest k bits are set. -/
def pop : Nat → Nat → Nat
  | 0, _ => 0
  | k + 1, x => x % 2 + pop k (x / 2)
def fo (x : Nat) : Nat := x ^^^ x / 8589934592
def mx (x : Nat) : Nat := fo (fo (fo x * 18397679294719823053 % 18446744073709551616) * 14181476777654086739 % 18446744073709551616)

def spreadZ (x : Int) : Int := ((sp 8 x.toNat : Nat) : Int)
def gatherZ (x : Int) : Int := ((ga 8 x.toNat : Nat) : Int)
def onesZ (x : Int) : Int := ((pop 64 x.toNat : Nat) : Int)
def mixZ (x : Int) : Int := ((mx x.toNat : Nat) : Int)
def nodeZ (l a b : Int) : Int := l * 72057594037927936 + a % 268435456 * 268435456 + b % 268435456
def homeZ (x s : Int) : Int := if s < 1 then 0 else mixZ x % s

/-! ## Bits, by recursion -/
theorem sp_lt : ∀ k a, sp k a < 4 ^ k
  | 0, _ => by simp [sp]
  | k + 1, a => by have := sp_lt k (a / 2); simp only [sp, Nat.pow_succ]; omega
theorem ga_lt : ∀ k z, ga k z < 2 ^ k
  | 0, _ => by simp [ga]
  | k + 1, z => by have := ga_lt k (z / 4); simp only [ga, Nat.pow_succ]; omega
theorem pop_le : ∀ k x, pop k x ≤ k
  | 0, _ => by simp [pop]
  | k + 1, x => by have := pop_le k (x / 2); simp only [pop]; omega
theorem pop_not : ∀ k n, n < 2 ^ k → pop k n + pop k (2 ^ k - 1 - n) = k
  | 0, _, _ => by simp [pop]
  | k + 1, n, h => by
    have hk : n / 2 < 2 ^ k := by rw [Nat.pow_succ] at h; omega
    have := pop_not k (n / 2) hk
    have e : (2 ^ (k + 1) - 1 - n) / 2 = 2 ^ k - 1 - n / 2 := by rw [Nat.pow_succ] at *; omega
    have f : (2 ^ (k + 1) - 1 - n) % 2 + n % 2 = 1 := by rw [Nat.pow_succ] at *; omega
    simp only [pop, e]
    omega
theorem pop_add : ∀ a b n, pop (a + b) n = pop a n + pop b (n / 2 ^ a)
  | 0, b, n => by simp [pop]
  | a + 1, b, n => by
    have := pop_add a b (n / 2)
    have e : a + 1 + b = (a + b) + 1 := by omega
    rw [e]
    simp only [pop, this, Nat.pow_succ]
    rw [Nat.div_div_eq_div_mul, Nat.mul_comm 2 (2 ^ a)]
    omega
theorem pop_mod : ∀ a n, pop a (n % 2 ^ a) = pop a n
  | 0, n => by simp [pop]
  | a + 1, n => by
    have e : n % 2 ^ (a + 1) / 2 = n / 2 % 2 ^ a := by
      rw [Nat.pow_succ, Nat.mul_comm, Nat.mod_mul_right_div_self]
    have f : n % 2 ^ (a + 1) % 2 = n % 2 := by
      rw [Nat.pow_succ, Nat.mul_comm, Nat.mod_mul_right_mod]
    simp only [pop, e, f, pop_mod a]
theorem pop_join (a b H L : Nat) (hL : L < 2 ^ a) : pop (a + b) (2 ^ a * H + L) = pop a L + pop b H := by
  have hp : 0 < 2 ^ a := Nat.two_pow_pos a
  rw [pop_add, ← pop_mod a (2 ^ a * H + L), Nat.mul_add_mod, Nat.mod_eq_of_lt hL, Nat.mul_add_div hp, Nat.div_eq_of_lt hL, Nat.add_zero]

/-! ## Two words side by side -/
theorem and_join (w H L M N : Nat) (hL : L < 2 ^ w) (hN : N < 2 ^ w) : (2 ^ w * H + L) &&& (2 ^ w * M + N) = 2 ^ w * (H &&& M) + (L &&& N) := by
  apply Nat.eq_of_testBit_eq
  intro j
  have hLN : L &&& N < 2 ^ w := Nat.and_lt_two_pow _ hN
  rw [Nat.testBit_and, Nat.testBit_two_pow_mul_add _ hL, Nat.testBit_two_pow_mul_add _ hN, Nat.testBit_two_pow_mul_add _ hLN]
  split <;> simp
theorem or_join (w H L M N : Nat) (hL : L < 2 ^ w) (hN : N < 2 ^ w) : (2 ^ w * H + L) ||| (2 ^ w * M + N) = 2 ^ w * (H ||| M) + (L ||| N) := by
  apply Nat.eq_of_testBit_eq
  intro j
  have hLN : L ||| N < 2 ^ w := Nat.or_lt_two_pow hL hN
  rw [Nat.testBit_or, Nat.testBit_two_pow_mul_add _ hL, Nat.testBit_two_pow_mul_add _ hN, Nat.testBit_two_pow_mul_add _ hLN]
  split <;> simp
theorem xor_join (w H L M N : Nat) (hL : L < 2 ^ w) (hN : N < 2 ^ w) : (2 ^ w * H + L) ^^^ (2 ^ w * M + N) = 2 ^ w * (H ^^^ M) + (L ^^^ N) := by
  apply Nat.eq_of_testBit_eq
  intro j
  have hLN : L ^^^ N < 2 ^ w := Nat.xor_lt_two_pow hL hN
  rw [Nat.testBit_xor, Nat.testBit_two_pow_mul_add _ hL, Nat.testBit_two_pow_mul_add _ hN, Nat.testBit_two_pow_mul_add _ hLN]
  split <;> simp
theorem shr_and_join (w s H L M : Nat) (hL : L < 2 ^ w) (hs : s ≤ w) (hM : M < 2 ^ (w - s)) :
    (2 ^ w * H + L) / 2 ^ s &&& (2 ^ w * M + M) = 2 ^ w * (H / 2 ^ s &&& M) + (L / 2 ^ s &&& M) := by
  have hMw : M < 2 ^ w := Nat.lt_of_lt_of_le hM (Nat.pow_le_pow_right (by decide) (Nat.sub_le _ _))
  have hLM : L / 2 ^ s &&& M < 2 ^ w := Nat.and_lt_two_pow _ hMw
  apply Nat.eq_of_testBit_eq
  intro j
  rw [Nat.testBit_and, Nat.testBit_div_two_pow, Nat.testBit_two_pow_mul_add _ hL, Nat.testBit_two_pow_mul_add _ hMw, Nat.testBit_two_pow_mul_add _ hLM]
  by_cases hj : j < w
  · simp only [hj, if_true, Nat.testBit_and, Nat.testBit_div_two_pow]
    by_cases hjs : j + s < w
    · simp [hjs]
    · have : M.testBit j = false := Nat.testBit_lt_two_pow (Nat.lt_of_lt_of_le hM (Nat.pow_le_pow_right (by decide) (by omega)))
      simp [this]
  · have e : j + s - w = j - w + s := by omega
    have g : ¬ j + s < w := by omega
    simp only [hj, g, if_false, Nat.testBit_and, Nat.testBit_div_two_pow, e]

/-- One step of counting: neighbouring groups are added. -/
def st (m d n : Nat) : Nat := (n &&& m) + (n / d &&& m)
theorem st_le (m d n : Nat) : st m d n ≤ 2 * m := by
  have h1 : n &&& m ≤ m := Nat.and_le_right
  have h2 : n / d &&& m ≤ m := Nat.and_le_right
  unfold st; omega
theorem st_join (w s H L M : Nat) (hL : L < 2 ^ w) (hs : s ≤ w) (hM : M < 2 ^ (w - s)) :
    st (2 ^ w * M + M) (2 ^ s) (2 ^ w * H + L) = 2 ^ w * st M (2 ^ s) H + st M (2 ^ s) L := by
  have hMw : M < 2 ^ w := Nat.lt_of_lt_of_le hM (Nat.pow_le_pow_right (by decide) (Nat.sub_le _ _))
  unfold st
  rw [and_join w H L M M hL hMw, shr_and_join w s H L M hL hs hM, Nat.mul_add]
  omega

def f8 (n : Nat) : Nat := st 15 16 (st 51 4 (st 85 2 n))
def f16 (n : Nat) : Nat := st 255 256 (st 3855 16 (st 13107 4 (st 21845 2 n)))
def f32 (n : Nat) : Nat := st 65535 65536 (st 16711935 256 (st 252645135 16 (st 858993459 4 (st 1431655765 2 n))))
def f64 (n : Nat) : Nat := st 4294967295 4294967296 (st 281470681808895 65536 (st 71777214294589695 256 (st 1085102592571150095 16 (st 3689348814741910323 4 (st 6148914691236517205 2 n)))))

theorem st_top (w H L : Nat) (hL : L < 2 ^ w) (hH : H < 2 ^ w) : st (2 ^ w - 1) (2 ^ w) (2 ^ w * H + L) = H + L := by
  have hp : 0 < 2 ^ w := Nat.two_pow_pos w
  unfold st
  rw [Nat.and_two_pow_sub_one_eq_mod, Nat.and_two_pow_sub_one_eq_mod, Nat.mul_add_mod, Nat.mod_eq_of_lt hL, Nat.mul_add_div hp, Nat.div_eq_of_lt hL, Nat.add_zero, Nat.mod_eq_of_lt hH]
  omega
theorem f64_join (H L : Nat) (hL : L < 2 ^ 32) : f64 (2 ^ 32 * H + L) = f32 H + f32 L := by
  have e0 := st_join 32 1 H L 1431655765 hL (by decide) (by decide)
  have b0 := st_le 1431655765 2 L
  have e1 := st_join 32 2 (st 1431655765 2 H) (st 1431655765 2 L) 858993459 (by omega) (by decide) (by decide)
  have b1 := st_le 858993459 4 (st 1431655765 2 L)
  have e2 := st_join 32 4 (st 858993459 4 (st 1431655765 2 H)) (st 858993459 4 (st 1431655765 2 L)) 252645135 (by omega) (by decide) (by decide)
  have b2 := st_le 252645135 16 (st 858993459 4 (st 1431655765 2 L))
  have e3 := st_join 32 8 (st 252645135 16 (st 858993459 4 (st 1431655765 2 H))) (st 252645135 16 (st 858993459 4 (st 1431655765 2 L))) 16711935 (by omega) (by decide) (by decide)
  have b3 := st_le 16711935 256 (st 252645135 16 (st 858993459 4 (st 1431655765 2 L)))
  have e4 := st_join 32 16 (st 16711935 256 (st 252645135 16 (st 858993459 4 (st 1431655765 2 H)))) (st 16711935 256 (st 252645135 16 (st 858993459 4 (st 1431655765 2 L)))) 65535 (by omega) (by decide) (by decide)
  have b4 := st_le 65535 65536 (st 16711935 256 (st 252645135 16 (st 858993459 4 (st 1431655765 2 L))))
  have c4 := st_le 65535 65536 (st 16711935 256 (st 252645135 16 (st 858993459 4 (st 1431655765 2 H))))
  have e5 := st_top 32 (st 65535 65536 (st 16711935 256 (st 252645135 16 (st 858993459 4 (st 1431655765 2 H))))) (st 65535 65536 (st 16711935 256 (st 252645135 16 (st 858993459 4 (st 1431655765 2 L))))) (by omega) (by omega)
  simp only [Nat.reducePow, Nat.reduceMul, Nat.reduceAdd, Nat.reduceSub] at e0 e1 e2 e3 e4 e5 ⊢
  unfold f64 f32
  rw [e0, e1, e2, e3, e4, e5]
theorem f32_join (H L : Nat) (hL : L < 2 ^ 16) : f32 (2 ^ 16 * H + L) = f16 H + f16 L := by
  have e0 := st_join 16 1 H L 21845 hL (by decide) (by decide)
  have b0 := st_le 21845 2 L
  have e1 := st_join 16 2 (st 21845 2 H) (st 21845 2 L) 13107 (by omega) (by decide) (by decide)
  have b1 := st_le 13107 4 (st 21845 2 L)
  have e2 := st_join 16 4 (st 13107 4 (st 21845 2 H)) (st 13107 4 (st 21845 2 L)) 3855 (by omega) (by decide) (by decide)
  have b2 := st_le 3855 16 (st 13107 4 (st 21845 2 L))
  have e3 := st_join 16 8 (st 3855 16 (st 13107 4 (st 21845 2 H))) (st 3855 16 (st 13107 4 (st 21845 2 L))) 255 (by omega) (by decide) (by decide)
  have b3 := st_le 255 256 (st 3855 16 (st 13107 4 (st 21845 2 L)))
  have c3 := st_le 255 256 (st 3855 16 (st 13107 4 (st 21845 2 H)))
  have e4 := st_top 16 (st 255 256 (st 3855 16 (st 13107 4 (st 21845 2 H)))) (st 255 256 (st 3855 16 (st 13107 4 (st 21845 2 L)))) (by omega) (by omega)
  simp only [Nat.reducePow, Nat.reduceMul, Nat.reduceAdd, Nat.reduceSub] at e0 e1 e2 e3 e4 ⊢
  unfold f32 f16
  rw [e0, e1, e2, e3, e4]
theorem f16_join (H L : Nat) (hL : L < 2 ^ 8) : f16 (2 ^ 8 * H + L) = f8 H + f8 L := by
  have e0 := st_join 8 1 H L 85 hL (by decide) (by decide)
  have b0 := st_le 85 2 L
  have e1 := st_join 8 2 (st 85 2 H) (st 85 2 L) 51 (by omega) (by decide) (by decide)
  have b1 := st_le 51 4 (st 85 2 L)
  have e2 := st_join 8 4 (st 51 4 (st 85 2 H)) (st 51 4 (st 85 2 L)) 15 (by omega) (by decide) (by decide)
  have b2 := st_le 15 16 (st 51 4 (st 85 2 L))
  have c2 := st_le 15 16 (st 51 4 (st 85 2 H))
  have e3 := st_top 8 (st 15 16 (st 51 4 (st 85 2 H))) (st 15 16 (st 51 4 (st 85 2 L))) (by omega) (by omega)
  simp only [Nat.reducePow, Nat.reduceMul, Nat.reduceAdd, Nat.reduceSub] at e0 e1 e2 e3 ⊢
  unfold f16 f8
  rw [e0, e1, e2, e3]
theorem below {n : Nat} (p : Nat → Bool) (k : Nat) (h : (List.range k).all p = true) (hn : n < k) : p n = true :=
  List.all_eq_true.1 h n (List.mem_range.2 hn)
theorem f8_pop (n : Nat) (h : n < 256) : f8 n = pop 8 n := by
  simpa using below (fun n => decide (f8 n = pop 8 n)) 256 (by kernel_rfl) h
theorem f16_pop (n : Nat) (h : n < 65536) : f16 n = pop 16 n := by
  have e : n = 2 ^ 8 * (n / 256) + n % 256 := by omega
  rw [e, f16_join _ _ (by omega), show (16 : Nat) = 8 + 8 from rfl, pop_join 8 8 _ _ (by omega), f8_pop _ (by omega), f8_pop _ (by omega)]
  omega
theorem f32_pop (n : Nat) (h : n < 4294967296) : f32 n = pop 32 n := by
  have e : n = 2 ^ 16 * (n / 65536) + n % 65536 := by omega
  rw [e, f32_join _ _ (by omega), show (32 : Nat) = 16 + 16 from rfl, pop_join 16 16 _ _ (by omega), f16_pop _ (by omega), f16_pop _ (by omega)]
  omega
theorem f64_pop (n : Nat) (h : n < 18446744073709551616) : f64 n = pop 64 n := by
  have e : n = 2 ^ 32 * (n / 4294967296) + n % 4294967296 := by omega
  rw [e, f64_join _ _ (by omega), show (64 : Nat) = 32 + 32 from rfl, pop_join 32 32 _ _ (by omega), f32_pop _ (by omega), f32_pop _ (by omega)]
  omega

end Num
end Go.Proofs.YtmfocngdobcfcabDoor
