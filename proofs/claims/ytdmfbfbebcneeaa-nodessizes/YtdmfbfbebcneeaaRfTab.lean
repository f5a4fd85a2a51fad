/-
  Tables of 256 truth values as four words of 64 bits: plain facts, no program.
-/
import Derived.WalkKit
import Derived.Laws.BitsAllLaws
namespace Go.Proofs.Ytdmfbfbebcneeaa.Rf
open Go Go.RowKit

/-- The number whose lowest n bits are f's. -/
def mk (f : Nat → Bool) : Nat → Nat
  | 0 => 0
  | n + 1 => mk f n ||| (if f n then 2 ^ n else 0)

theorem mk_bit (f : Nat → Bool) (n i : Nat) : (mk f n).testBit i = (decide (i < n) && f i) := by
  induction n with
  | zero => simp [mk]
  | succ n ih =>
    rw [mk, Nat.testBit_or, ih]
    by_cases h : i = n
    · subst h
      by_cases hf : f i <;> simp [hf]
    · have h1 : (if f n then 2 ^ n else 0 : Nat).testBit i = false := by
        by_cases hf : f n
        · rw [if_pos hf, Nat.testBit_two_pow]; simp; omega
        · rw [if_neg hf]; simp
      rw [h1, Bool.or_false]
      congr 1
      simp; omega
theorem mk_lt (f : Nat → Bool) (n : Nat) : mk f n < 2 ^ n := by
  apply Nat.lt_pow_two_of_testBit
  intro i hi
  rw [mk_bit]
  simp; omega
theorem mk_congr {f g : Nat → Bool} {n : Nat} (h : ∀ i, i < n → f i = g i) : mk f n = mk g n := by
  apply Nat.eq_of_testBit_eq
  intro i
  rw [mk_bit, mk_bit]
  by_cases hi : i < n <;> simp [hi, h i]
theorem mk_of (x n : Nat) (h : x < 2 ^ n) : mk x.testBit n = x := by
  apply Nat.eq_of_testBit_eq
  intro i
  rw [mk_bit]
  by_cases hi : i < n
  · simp [hi]
  · have : x.testBit i = false := Nat.testBit_lt_two_pow (Nat.lt_of_lt_of_le h (Nat.pow_le_pow_right (by decide) (by omega)))
    simp [this]
theorem mk_inj {f g : Nat → Bool} {n : Nat} (h : mk f n = mk g n) : ∀ i, i < n → f i = g i := by
  intro i hi
  have := congrArg (fun x => x.testBit i) h
  simpa [mk_bit, hi] using this

/-- Word k of a table. -/
def word (F : Nat → Bool) (k : Nat) : Nat := mk (fun i => F (64 * k + i)) 64
theorem word_lt (F : Nat → Bool) (k : Nat) : word F k < 18446744073709551616 := mk_lt _ 64
theorem word_congr {F G : Nat → Bool} {k : Nat} (h : ∀ i, i < 64 → F (64 * k + i) = G (64 * k + i)) : word F k = word G k := mk_congr h
theorem word_congr' {F G : Nat → Bool} {k j : Nat} (h : ∀ i, i < 64 → F (64 * k + i) = G (64 * j + i)) : word F k = word G j := mk_congr h
theorem word_bit (F : Nat → Bool) (k i : Nat) : (word F k).testBit i = (decide (i < 64) && F (64 * k + i)) := mk_bit _ _ _

/-- The table as the program holds it. -/
def tab (F : Nat → Bool) : Value := .agg #[.int .u64 (word F 0 : Int), .int .u64 (word F 1 : Int), .int .u64 (word F 2 : Int), .int .u64 (word F 3 : Int)]

theorem word_ext {F G : Nat → Bool} (h : ∀ x, x < 256 → F x = G x) {k : Nat} (hk : k < 4) : word F k = word G k := word_congr fun i hi => h _ (by omega)
theorem tab_ext {F G : Nat → Bool} (h : ∀ x, x < 256 → F x = G x) : tab F = tab G := by
  unfold tab
  rw [word_ext h (show 0 < 4 by decide), word_ext h (show 1 < 4 by decide), word_ext h (show 2 < 4 by decide), word_ext h (show 3 < 4 by decide)]
theorem tab_inj {F G : Nat → Bool} (h0 : word F 0 = word G 0) (h1 : word F 1 = word G 1) (h2 : word F 2 = word G 2) (h3 : word F 3 = word G 3) : ∀ x, x < 256 → F x = G x := by
  intro x hx
  have key : ∀ k, word F k = word G k → ∀ i, i < 64 → F (64 * k + i) = G (64 * k + i) := fun k h i hi => mk_inj h i hi
  have : x = 64 * (x / 64) + x % 64 := by omega
  have hk : x / 64 = 0 ∨ x / 64 = 1 ∨ x / 64 = 2 ∨ x / 64 = 3 := by omega
  rw [this]
  rcases hk with e | e | e | e <;> rw [e]
  · exact key 0 h0 _ (by omega)
  · exact key 1 h1 _ (by omega)
  · exact key 2 h2 _ (by omega)
  · exact key 3 h3 _ (by omega)

/-- The table that four words are. -/
def ofWords (a b c d : Nat) : Nat → Bool := fun x => if x < 64 then a.testBit x else if x < 128 then b.testBit (x - 64) else if x < 192 then c.testBit (x - 128) else d.testBit (x - 192)
theorem word_of (a b c d : Nat) (ha : a < 18446744073709551616) (hb : b < 18446744073709551616) (hc : c < 18446744073709551616) (hd : d < 18446744073709551616) :
    word (ofWords a b c d) 0 = a ∧ word (ofWords a b c d) 1 = b ∧ word (ofWords a b c d) 2 = c ∧ word (ofWords a b c d) 3 = d := by
  refine ⟨?_, ?_, ?_, ?_⟩
  · rw [← mk_of a 64 ha]; exact mk_congr fun i hi => by simp only [ofWords, Nat.mul_zero, Nat.zero_add]; rw [if_pos hi, mk_of a 64 ha]
  · rw [← mk_of b 64 hb]; exact mk_congr fun i hi => by simp only [ofWords]; rw [if_neg (by omega), if_pos (by omega), mk_of b 64 hb, show 64 * 1 + i - 64 = i by omega]
  · rw [← mk_of c 64 hc]; exact mk_congr fun i hi => by simp only [ofWords]; rw [if_neg (by omega), if_neg (by omega), if_pos (by omega), mk_of c 64 hc, show 64 * 2 + i - 128 = i by omega]
  · rw [← mk_of d 64 hd]; exact mk_congr fun i hi => by simp only [ofWords]; rw [if_neg (by omega), if_neg (by omega), if_neg (by omega), mk_of d 64 hd, show 64 * 3 + i - 192 = i by omega]

/-! ### The operations of words -/

theorem word_and (F G : Nat → Bool) (k : Nat) : word F k &&& word G k = word (fun x => F x && G x) k := by
  apply Nat.eq_of_testBit_eq
  intro i
  rw [Nat.testBit_and, word_bit, word_bit, word_bit]
  cases decide (i < 64) <;> simp
theorem word_or (F G : Nat → Bool) (k : Nat) : word F k ||| word G k = word (fun x => F x || G x) k := by
  apply Nat.eq_of_testBit_eq
  intro i
  rw [Nat.testBit_or, word_bit, word_bit, word_bit]
  cases decide (i < 64) <;> simp
theorem word_xor (F G : Nat → Bool) (k : Nat) : word F k ^^^ word G k = word (fun x => F x != G x) k := by
  apply Nat.eq_of_testBit_eq
  intro i
  rw [Nat.testBit_xor, word_bit, word_bit, word_bit]
  cases decide (i < 64) <;> simp
theorem word_not (F : Nat → Bool) (k : Nat) : 18446744073709551615 - word F k = word (fun x => !F x) k := by
  apply Nat.eq_of_testBit_eq
  intro i
  rw [word_bit, show (18446744073709551615 : Nat) - word F k = 2 ^ 64 - (word F k + 1) by omega, Nat.testBit_two_pow_sub_succ (word_lt F k), word_bit]
  cases h : decide (i < 64) <;> simp_all

theorem and_words (F G : Nat → Bool) (k : Nat) : bits .and .u64 (word F k : Int) (word G k : Int) = (word (fun x => F x && G x) k : Int) := by rw [u64_and_nat _ _ (word_lt F k) (word_lt G k), word_and]
theorem or_words (F G : Nat → Bool) (k : Nat) : bits .or .u64 (word F k : Int) (word G k : Int) = (word (fun x => F x || G x) k : Int) := by rw [u64_or_nat _ _ (word_lt F k) (word_lt G k), word_or]
theorem xor_words (F G : Nat → Bool) (k : Nat) : bits .xor .u64 (word F k : Int) (word G k : Int) = (word (fun x => F x != G x) k : Int) := by rw [u64_xor_nat _ _ (word_lt F k) (word_lt G k), word_xor]

/-- A bit of a word, as it is read: shifted down, its lowest bit. -/
theorem word_read (F : Nat → Bool) (k i : Nat) (hi : i < 64) : word F k / 2 ^ i % 2 = if F (64 * k + i) then 1 else 0 := by
  have h := word_bit F k i
  rw [Nat.testBit_eq_decide_div_mod_eq] at h
  simp only [hi, decide_true, Bool.true_and] at h
  have h2 : word F k / 2 ^ i % 2 < 2 := Nat.mod_lt _ (by decide)
  cases hF : F (64 * k + i) with
  | true => rw [hF] at h; simpa using h
  | false => rw [hF] at h; simp at h; simp; omega

theorem read_bit (F : Nat → Bool) (k i : Nat) (hi : i < 64) : (bits .and .u64 ((word F k : Int) / 2 ^ i) 1 == 1) = F (64 * k + i) := by
  have h1 : ((word F k : Int) / 2 ^ i) = ((word F k / 2 ^ i : Nat) : Int) := by push_cast; rfl
  have h2 : word F k / 2 ^ i < 18446744073709551616 := Nat.lt_of_le_of_lt (Nat.div_le_self _ _) (word_lt F k)
  rw [h1, show (1 : Int) = ((1 : Nat) : Int) from rfl, u64_and_nat _ _ h2 (by decide), Nat.and_one_is_mod, word_read F k i hi]
  cases F (64 * k + i) <;> simp

/-- A bit set. -/
theorem word_set (F : Nat → Bool) (k i : Nat) (hi : i < 64) : word F k ||| 2 ^ i = word (fun x => F x || decide (x = 64 * k + i)) k := by
  apply Nat.eq_of_testBit_eq
  intro j
  rw [Nat.testBit_or, word_bit, word_bit, Nat.testBit_two_pow]
  by_cases hj : j < 64
  · by_cases e : i = j <;> simp [hj, e]
    intro _; omega
  · simp [hj]; omega
theorem set_bit (F : Nat → Bool) (k i : Nat) (hi : i < 64) : bits .or .u64 (word F k : Int) (IntKind.u64.wrap (2 ^ i)) = (word (fun x => F x || decide (x = 64 * k + i)) k : Int) := by
  have h1 : (2 : Nat) ^ i < 18446744073709551616 := Nat.pow_lt_pow_right (a := 2) (by decide) hi
  have h2 : IntKind.u64.wrap (2 ^ i) = ((2 ^ i : Nat) : Int) := by
    rw [IntKind.wrap_u64]
    have : (2 : Int) ^ i = ((2 ^ i : Nat) : Int) := by push_cast; rfl
    rw [this]
    exact Int.emod_eq_of_lt (Int.natCast_nonneg _) (Int.ofNat_lt.2 h1)
  rw [h2, u64_or_nat _ _ (word_lt F k) h1, word_set F k i hi]
theorem word_far (F : Nat → Bool) (k y : Nat) (hy : y / 64 ≠ k) : word (fun x => F x || decide (x = y)) k = word F k := by
  apply word_congr
  intro i hi
  have : ¬ 64 * k + i = y := by omega
  simp [this]

theorem mk_zero (n : Nat) : mk (fun _ => false) n = 0 := by
  induction n with
  | zero => rfl
  | succ n ih => simp [mk, ih]
theorem word_zero (k : Nat) : word (fun _ => false) k = 0 := mk_zero 64

theorem upto_step (f : Nat → Bool) (k y : Nat) : ((decide (y < k) && f y) || (decide (y = k) && f k)) = (decide (y < k + 1) && f y) := by
  by_cases h : y = k
  · subst h; simp
  · by_cases h2 : y < k
    · have : y < k + 1 := by omega
      simp [h, h2, this]
    · have : ¬ y < k + 1 := by omega
      simp [h, h2, this]
theorem upto_all (f : Nat → Bool) (y : Nat) (hy : y < 256) : (decide (y < 256) && f y) = f y := by simp [hy]

/-- The words below k are G's, the others F's. -/
def mix (k : Nat) (F G : Nat → Bool) : Nat → Bool := fun x => if x < 64 * k then G x else F x
theorem mix_now (k : Nat) (F G : Nat → Bool) : word (mix k F G) k = word F k := word_congr fun i _ => by simp only [mix]; rw [if_neg (by omega)]
theorem mix_next (k : Nat) (F G : Nat → Bool) : word (mix (k + 1) F G) k = word G k := word_congr fun i _ => by simp only [mix]; rw [if_pos (by omega)]
theorem mix_else (k j : Nat) (F G : Nat → Bool) (h : j ≠ k) : word (mix k F G) j = word (mix (k + 1) F G) j := word_congr fun i _ => by
  simp only [mix]
  by_cases hj : j < k
  · rw [if_pos (by omega), if_pos (by omega)]
  · rw [if_neg (by omega), if_neg (by omega)]
theorem mix_none (F G : Nat → Bool) (x : Nat) : F x = mix 0 F G x := by simp [mix]
theorem mix_all (F G : Nat → Bool) (x : Nat) (h : x < 256) : mix 4 F G x = G x := by simp only [mix]; rw [if_pos (by omega)]

theorem not_words (F : Nat → Bool) (k : Nat) : bits .xor .u64 IntKind.u64.max (word F k : Int) = (word (fun x => !F x) k : Int) := by
  rw [show IntKind.u64.max = ((18446744073709551615 : Nat) : Int) from rfl, u64_xor_nat _ _ (by decide) (word_lt F k)]
  congr 1
  apply Nat.eq_of_testBit_eq
  intro i
  rw [Nat.testBit_xor, word_bit, word_bit, show (18446744073709551615 : Nat) = 2 ^ 64 - 1 from rfl, Nat.testBit_two_pow_sub_one]
  cases decide (i < 64) <;> simp

/-- An assignment with a variable set. -/
def fixAt (v : Nat) (b : Bool) (x : Nat) : Nat := if x / 2 ^ v % 2 = 1 then (if b then x else x - 2 ^ v) else (if b then x + 2 ^ v else x)
def fixF (F : Nat → Bool) (v : Nat) (b : Bool) : Nat → Bool := fun x => F (fixAt v b x)

theorem fix6 (F : Nat → Bool) (b : Bool) (k : Nat) (hk : k < 4) : word (fixF F 6 b) k = word F (if k % 2 = 1 then (if b then k else k - 1) else (if b then k + 1 else k)) := by
  apply word_congr'
  intro i hi
  simp only [fixF, fixAt]
  have h : (64 * k + i) / 2 ^ 6 % 2 = k % 2 := by omega
  rw [h]
  by_cases h1 : k % 2 = 1
  · rw [if_pos h1, if_pos h1]
    cases b
    · simp only [Bool.false_eq_true, if_false]; exact congrArg F (by omega)
    · simp only [if_true]
  · rw [if_neg h1, if_neg h1]
    cases b
    · simp only [Bool.false_eq_true, if_false]
    · simp only [if_true]; exact congrArg F (by omega)
theorem fix7 (F : Nat → Bool) (b : Bool) (k : Nat) (hk : k < 4) : word (fixF F 7 b) k = word F (if k / 2 % 2 = 1 then (if b then k else k - 2) else (if b then k + 2 else k)) := by
  apply word_congr'
  intro i hi
  simp only [fixF, fixAt]
  have h : (64 * k + i) / 2 ^ 7 % 2 = k / 2 % 2 := by omega
  rw [h]
  by_cases h1 : k / 2 % 2 = 1
  · rw [if_pos h1, if_pos h1]
    cases b
    · simp only [Bool.false_eq_true, if_false]; exact congrArg F (by omega)
    · simp only [if_true]
  · rw [if_neg h1, if_neg h1]
    cases b
    · simp only [Bool.false_eq_true, if_false]
    · simp only [if_true]; exact congrArg F (by omega)

/-- The places of a word where variable v is true. -/
def M (v : Nat) : Nat → Bool := fun y => decide (y / 2 ^ v % 2 = 1)
theorem M_bit (v y : Nat) : y.testBit v = M v y := by rw [Nat.testBit_eq_decide_div_mod_eq]; rfl
theorem M_word (v k i : Nat) (hv : v < 6) : M v (64 * k + i) = M v i := by
  have h : v = 0 ∨ v = 1 ∨ v = 2 ∨ v = 3 ∨ v = 4 ∨ v = 5 := by omega
  unfold M
  rcases h with rfl | rfl | rfl | rfl | rfl | rfl <;> (congr 1; simp; omega)
theorem and_pow (x v : Nat) (hx : x < 64) (hv : v < 6) : bits .and .u64 (x : Int) ((2 ^ v : Nat) : Int) = if M v x then ((2 ^ v : Nat) : Int) else 0 := by
  have h1 : (2 : Nat) ^ v < 18446744073709551616 := Nat.pow_lt_pow_right (a := 2) (by decide) (show v < 64 by omega)
  have h2 : x &&& 2 ^ v = if M v x then 2 ^ v else 0 := by
    apply Nat.eq_of_testBit_eq
    intro i
    rw [Nat.testBit_and, Nat.testBit_two_pow]
    by_cases h : v = i
    · subst h
      rw [M_bit]
      cases M v x <;> simp
    · cases M v x <;> simp [h]
  rw [u64_and_nat _ _ (by omega) h1, h2]
  cases M v x <;> simp

/-- The word that is masked. -/
theorem and_mask (F : Nat → Bool) (v k : Nat) (hv : v < 6) : word F k &&& word (M v) 0 = word (fun x => F x && M v x) k := by
  apply Nat.eq_of_testBit_eq
  intro i
  rw [Nat.testBit_and, word_bit, word_bit, word_bit, M_word v k i hv, Nat.mul_zero, Nat.zero_add]
  cases decide (i < 64) <;> simp
theorem andNot_mask (F : Nat → Bool) (v k : Nat) (hv : v < 6) : word F k &&& (18446744073709551615 - word (M v) 0) = word (fun x => F x && !M v x) k := by
  rw [word_not]
  apply Nat.eq_of_testBit_eq
  intro i
  rw [Nat.testBit_and, word_bit, word_bit, word_bit, M_word v k i hv, Nat.mul_zero, Nat.zero_add]
  cases decide (i < 64) <;> simp

theorem fix_up (F : Nat → Bool) (v k : Nat) (hv : v < 6) : word (fun x => F x && M v x) k ||| word (fun x => F x && M v x) k / 2 ^ (2 ^ v) = word (fixF F v true) k := by
  apply Nat.eq_of_testBit_eq
  intro i
  rw [Nat.testBit_or, Nat.testBit_div_two_pow, word_bit, word_bit, word_bit]
  simp only [fixF, fixAt]
  have hM := M_word v k i hv
  have hM2 := M_word v k (i + 2 ^ v) hv
  by_cases hi : i < 64
  · simp only [hi, decide_true, Bool.true_and, hM]
    by_cases hb : M v i = true
    · have hb' : (64 * k + i) / 2 ^ v % 2 = 1 := by rw [← hM] at hb; simpa [M] using hb
      have hn : M v (64 * k + (i + 2 ^ v)) = false := by
        have h : v = 0 ∨ v = 1 ∨ v = 2 ∨ v = 3 ∨ v = 4 ∨ v = 5 := by omega
        unfold M
        rcases h with rfl | rfl | rfl | rfl | rfl | rfl <;> (simp at hb' ⊢; omega)
      rw [hn, hb, if_pos hb']
      simp
    · have hb0 : M v i = false := by simpa using hb
      have hb' : ¬ (64 * k + i) / 2 ^ v % 2 = 1 := by rw [← hM] at hb0; simpa [M] using hb0
      have hn : M v (64 * k + (i + 2 ^ v)) = true ∧ i + 2 ^ v < 64 := by
        have h : v = 0 ∨ v = 1 ∨ v = 2 ∨ v = 3 ∨ v = 4 ∨ v = 5 := by omega
        unfold M
        rcases h with rfl | rfl | rfl | rfl | rfl | rfl <;> (simp at hb' ⊢; omega)
      rw [hn.1, hb0, if_neg hb']
      simp [hn.2, Nat.add_assoc]
  · have : ¬ i + 2 ^ v < 64 := Nat.not_lt.2 (Nat.le_trans (Nat.not_lt.1 hi) (Nat.le_add_right _ _))
    simp [hi, this]
theorem fix_down (F : Nat → Bool) (v k : Nat) (hv : v < 6) : word (fun x => F x && !M v x) k ||| word (fun x => F x && !M v x) k * 2 ^ (2 ^ v) % 18446744073709551616 = word (fixF F v false) k := by
  apply Nat.eq_of_testBit_eq
  intro i
  rw [Nat.testBit_or, show (18446744073709551616 : Nat) = 2 ^ 64 from rfl, Nat.testBit_mod_two_pow, Nat.testBit_mul_two_pow, word_bit, word_bit, word_bit]
  simp only [fixF, fixAt]
  have hM := M_word v k i hv
  by_cases hi : i < 64
  · simp only [hi, decide_true, Bool.true_and, hM]
    by_cases hb : M v i = true
    · have hb' : (64 * k + i) / 2 ^ v % 2 = 1 := by rw [← hM] at hb; simpa [M] using hb
      have hn : M v (64 * k + (i - 2 ^ v)) = false ∧ 2 ^ v ≤ i ∧ i - 2 ^ v < 64 ∧ 64 * k + (i - 2 ^ v) = 64 * k + i - 2 ^ v := by
        have h : v = 0 ∨ v = 1 ∨ v = 2 ∨ v = 3 ∨ v = 4 ∨ v = 5 := by omega
        unfold M
        rcases h with rfl | rfl | rfl | rfl | rfl | rfl <;> (simp at hb' ⊢; omega)
      rw [hn.1, hb, if_pos hb']
      simp [hn.2.1, hn.2.2.1, hn.2.2.2]
    · have hb0 : M v i = false := by simpa using hb
      have hb' : ¬ (64 * k + i) / 2 ^ v % 2 = 1 := by rw [← hM] at hb0; simpa [M] using hb0
      rw [hb0, if_neg hb']
      have hn : 2 ^ v ≤ i → M v (64 * k + (i - 2 ^ v)) = true := by
        have h : v = 0 ∨ v = 1 ∨ v = 2 ∨ v = 3 ∨ v = 4 ∨ v = 5 := by omega
        unfold M
        rcases h with rfl | rfl | rfl | rfl | rfl | rfl <;> (simp at hb' ⊢; omega)
      by_cases hle : 2 ^ v ≤ i
      · simp [hn hle]
      · simp [hle]
  · simp [hi]

/-- Exists, Restrict: variable by variable, the lowest first. -/
def exUpto (F : Nat → Bool) (mask : Nat) : Nat → Nat → Bool
  | 0 => F
  | v + 1 => if M v mask then (fun x => fixF (exUpto F mask v) v false x || fixF (exUpto F mask v) v true x) else exUpto F mask v
def resUpto (F : Nat → Bool) (mask vals : Nat) : Nat → Nat → Bool
  | 0 => F
  | v + 1 => if M v mask then fixF (resUpto F mask vals v) v (M v vals) else resUpto F mask vals v

theorem read_mask (m v : Nat) (hm : m < 256) : (bits .and .u8 ((m : Int) / 2 ^ v) 1 == 1) = M v m := by
  have h1 : ((m : Int) / 2 ^ v) = ((m / 2 ^ v : Nat) : Int) := by push_cast; rfl
  have h2 : m / 2 ^ v < 256 := Nat.lt_of_le_of_lt (Nat.div_le_self _ _) hm
  rw [h1, show (1 : Int) = ((1 : Nat) : Int) from rfl, u8_and_nat _ _ h2 (by decide), Nat.and_one_is_mod]
  unfold M
  have h3 : m / 2 ^ v % 2 < 2 := Nat.mod_lt _ (by decide)
  by_cases h : m / 2 ^ v % 2 = 1
  · simp [h]
  · have h0 : m / 2 ^ v % 2 = 0 := by omega
    simp [h0]

def countUpto (F : Nat → Bool) : Nat → Nat
  | 0 => 0
  | k + 1 => countUpto F k + (if F k then 1 else 0)
theorem count_le (F : Nat → Bool) (k : Nat) : countUpto F k ≤ k := by
  induction k with
  | zero => exact Nat.le_refl _
  | succ k ih => rw [countUpto]; split <;> omega

theorem below {n : Nat} (p : Nat → Bool) (k : Nat) (h : (List.range k).all p = true) (hn : n < k) : p n = true :=
  List.all_eq_true.1 h n (List.mem_range.2 hn)
/-- The even bits of a number, packed. -/
def halfN (x : Nat) : Nat := x % 2 + 2 * (x / 4 % 2) + 4 * (x / 16 % 2) + 8 * (x / 64 % 2)
theorem halfN_lt (x : Nat) : halfN x < 16 := by unfold halfN; omega

theorem half_form (x : Nat) (hx : x < 256) : bits .or .i64 (bits .or .i64 (bits .or .i64 (bits .and .i64 (x : Int) 1) (bits .and .i64 ((x : Int) / 2) 2)) (bits .and .i64 ((x : Int) / 4) 4)) (bits .and .i64 ((x : Int) / 8) 8) = (halfN x : Int) := by
  simpa using below (fun x => decide (bits .or .i64 (bits .or .i64 (bits .or .i64 (bits .and .i64 (x : Int) 1) (bits .and .i64 ((x : Int) / 2) 2)) (bits .and .i64 ((x : Int) / 4) 4)) (bits .and .i64 ((x : Int) / 8) 8) = (halfN x : Int))) 256 (by kernel_rfl) hx

theorem or_pow8 (n v : Nat) (hn : n < 256) (hv : v < 8) : bits .or .u8 (n : Int) (IntKind.u8.wrap (2 ^ v)) = ((n ||| 2 ^ v : Nat) : Int) := by
  have h1 : (2 : Nat) ^ v < 256 := Nat.pow_lt_pow_right (a := 2) (n := 8) (by decide) hv
  have h2 : IntKind.u8.wrap (2 ^ v) = ((2 ^ v : Nat) : Int) := by
    rw [IntKind.wrap_u8]
    have : (2 : Int) ^ v = ((2 ^ v : Nat) : Int) := by push_cast; rfl
    rw [this]
    exact Int.emod_eq_of_lt (Int.natCast_nonneg _) (Int.ofNat_lt.2 h1)
  rw [h2, u8_or_nat _ _ hn h1]
theorem or_pow8' (n v : Nat) (hn : n < 256) (hv : v < 8) : bits .or .u8 (n : Int) (2 ^ v % 256) = ((n ||| 2 ^ v : Nat) : Int) := by
  rw [← or_pow8 n v hn hv, IntKind.wrap_u8]
theorem var_bit (v x : Nat) (hx : x < 256) : (bits .and .i64 ((x : Int) / 2 ^ v) 1 == 1) = M v x := by
  have h1 : ((x : Int) / 2 ^ v) = ((x / 2 ^ v : Nat) : Int) := by push_cast; rfl
  have h2 : x / 2 ^ v < 256 := Nat.lt_of_le_of_lt (Nat.div_le_self _ _) hx
  have h3 : bits .and .i64 ((x / 2 ^ v : Nat) : Int) 1 = ((x / 2 ^ v % 2 : Nat) : Int) := by
    generalize x / 2 ^ v = y at h2
    simpa using below (fun y => decide (bits .and .i64 (y : Int) 1 = ((y % 2 : Nat) : Int))) 256 (by kernel_rfl) h2
  rw [h1, h3]
  unfold M
  have h4 : x / 2 ^ v % 2 < 2 := Nat.mod_lt _ (by decide)
  by_cases h : x / 2 ^ v % 2 = 1
  · simp [h]
  · have h0 : x / 2 ^ v % 2 = 0 := by omega
    simp [h0]

/-- Which packed odd bits are met by the assignments below k where both are true. -/
def oddUpto (F G : Nat → Bool) : Nat → Nat → Bool
  | 0, _ => false
  | k + 1, i => oddUpto F G k i || (F k && G k && decide (i = halfN (k / 2)))
def nextF (F G : Nat → Bool) : Nat → Bool := fun x => oddUpto F G 256 (halfN x)
/-- The assignment whose even bits are the odd ones of y. -/
def evN (y : Nat) : Nat := y / 2 &&& 85
theorem evN_lt (y : Nat) : evN y < 256 := Nat.lt_of_le_of_lt Nat.and_le_right (by decide)
theorem ev_form (y : Nat) (hy : y < 256) : bits .and .i64 ((y : Int) / 2) 85 = (evN y : Int) := by
  simpa using below (fun y => decide (bits .and .i64 ((y : Int) / 2) 85 = (evN y : Int))) 256 (by kernel_rfl) hy
def prUpto (F G : Nat → Bool) (x : Nat) : Nat → Bool
  | 0 => false
  | y + 1 => prUpto F G x y || (decide (halfN y = halfN x) && G y && F (evN y))
def prevF (F G : Nat → Bool) : Nat → Bool := fun x => prUpto F G x 256

end Go.Proofs.Ytdmfbfbebcneeaa.Rf
