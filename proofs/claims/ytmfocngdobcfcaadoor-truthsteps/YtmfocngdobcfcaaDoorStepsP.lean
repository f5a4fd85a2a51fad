/-
  The pure side of TruthSteps: who is led to, who leads there.
-/
import Derived.Test.YtmfocngdobcfcaaDoorQuantsW
namespace Go.Proofs.YtmfocngdobcfcaaDoor
open Go Go.RowKit

def cameU (S G : Nat → Bool) (q : Nat) : Nat → Bool
  | 0 => false
  | k + 1 => cameU S G q k || ((G k && S k) && decide (evN k = q))
def goesU (S G : Nat → Bool) (q : Nat) : Nat → Bool
  | 0 => false
  | k + 1 => goesU S G q k || ((G k && decide (k &&& 85 = q)) && S (evN k))
theorem came_iff (S G : Nat → Bool) (q : Nat) : ∀ k, cameU S G q k = true ↔ ∃ y, y < k ∧ G y = true ∧ S y = true ∧ evN y = q
  | 0 => by simp [cameU]
  | k + 1 => by
    rw [cameU, Bool.or_eq_true, came_iff S G q k]
    simp only [Bool.and_eq_true, decide_eq_true_eq]
    constructor
    · rintro (⟨y, h, r⟩ | ⟨⟨h1, h2⟩, h3⟩)
      · exact ⟨y, by omega, r⟩
      · exact ⟨k, by omega, h1, h2, h3⟩
    · rintro ⟨y, h, h1, h2, h3⟩
      by_cases e : y = k
      · subst e; exact Or.inr ⟨⟨h1, h2⟩, h3⟩
      · exact Or.inl ⟨y, by omega, h1, h2, h3⟩
theorem goes_iff (S G : Nat → Bool) (q : Nat) : ∀ k, goesU S G q k = true ↔ ∃ y, y < k ∧ G y = true ∧ y &&& 85 = q ∧ S (evN y) = true
  | 0 => by simp [goesU]
  | k + 1 => by
    rw [goesU, Bool.or_eq_true, goes_iff S G q k]
    simp only [Bool.and_eq_true, decide_eq_true_eq]
    constructor
    · rintro (⟨y, h, r⟩ | ⟨⟨h1, h2⟩, h3⟩)
      · exact ⟨y, by omega, r⟩
      · exact ⟨k, by omega, h1, h2, h3⟩
    · rintro ⟨y, h, h1, h2, h3⟩
      by_cases e : y = k
      · subst e; exact Or.inr ⟨⟨h1, h2⟩, h3⟩
      · exact Or.inl ⟨y, by omega, h1, h2, h3⟩
theorem and85_lt (x : Nat) : x &&& 85 < 256 := Nat.lt_of_le_of_lt Nat.and_le_right (by decide)
theorem and85_M (x i : Nat) (hi : i < 4) : M (2 * i) (x &&& 85) = M (2 * i) x ∧ M (2 * i + 1) (x &&& 85) = false := by
  have h := M85 i hi
  rw [← M_bit, ← M_bit] at h
  rw [← M_bit, ← M_bit, ← M_bit, Nat.testBit_and, Nat.testBit_and, h.1, h.2]
  simp
theorem ev_same (x y : Nat) (hy : y < 256) : evN y = x &&& 85 ↔ ∀ i, i < 4 → M (2 * i + 1) y = M (2 * i) x := by
  constructor
  · intro h i hi
    rw [← (evN_M y i hy hi).1, h, (and85_M x i hi).1]
  · intro h
    refine bits_ext (evN_lt y) (and85_lt x) fun v hv => ?_
    rcases odd_even hv with ⟨i, hi, rfl⟩ | ⟨i, hi, rfl⟩
    · rw [(evN_M y i hy hi).1, (and85_M x i hi).1, h i hi]
    · rw [(evN_M y i hy hi).2, (and85_M x i hi).2]
theorem and_same (x y : Nat) : y &&& 85 = x &&& 85 ↔ ∀ i, i < 4 → M (2 * i) y = M (2 * i) x := by
  constructor
  · intro h i hi
    rw [← (and85_M y i hi).1, h, (and85_M x i hi).1]
  · intro h
    refine bits_ext (and85_lt y) (and85_lt x) fun v hv => ?_
    rcases odd_even hv with ⟨i, hi, rfl⟩ | ⟨i, hi, rfl⟩
    · rw [(and85_M y i hi).1, (and85_M x i hi).1, h i hi]
    · rw [(and85_M y i hi).2, (and85_M x i hi).2]
theorem next_came (S G : Nat → Bool) (x : Nat) : nextF S G x = cameU S G (x &&& 85) 256 := by
  rw [Bool.eq_iff_iff, next_iff, came_iff]
  constructor
  · rintro ⟨y, hy, h1, h2, h3⟩
    exact ⟨y, hy, h2, h1, (ev_same x y hy).2 h3⟩
  · rintro ⟨y, hy, h1, h2, h3⟩
    exact ⟨y, hy, h2, h1, (ev_same x y hy).1 h3⟩
theorem prev_goes (S G : Nat → Bool) (x : Nat) : prevF S G x = goesU S G (x &&& 85) 256 := by
  rw [Bool.eq_iff_iff, prev_iff, goes_iff]
  constructor
  · rintro ⟨y, hy, h1, h2, h3⟩
    exact ⟨y, hy, h2, (and_same x y).2 h1, h3⟩
  · rintro ⟨y, hy, h1, h2, h3⟩
    exact ⟨y, hy, (and_same x y).1 h2, h1, h3⟩
theorem even_fix (v x : Nat) (b : Bool) (hv : v < 8) (hx : x < 256) (hm : M v 170 = true) (i : Nat) (hi : i < 4) : M (2 * i) (fixAt v b x) = M (2 * i) x := by
  rw [M_fixAt (2 * i) v x b (by omega) hv hx, if_neg]
  rintro rfl
  rw [(M170 i hi).1] at hm
  cases hm
theorem next_free (S G : Nat → Bool) : Free (nextF S G) 170 := by
  intro v hv hm x hx b
  rw [Bool.eq_iff_iff, next_iff, next_iff]
  constructor
  · rintro ⟨y, hy, h1, h2, h3⟩
    exact ⟨y, hy, h1, h2, fun i hi => by rw [h3 i hi, even_fix v x b hv hx hm i hi]⟩
  · rintro ⟨y, hy, h1, h2, h3⟩
    exact ⟨y, hy, h1, h2, fun i hi => by rw [h3 i hi, even_fix v x b hv hx hm i hi]⟩
theorem prev_free (S G : Nat → Bool) : Free (prevF S G) 170 := by
  intro v hv hm x hx b
  rw [Bool.eq_iff_iff, prev_iff, prev_iff]
  constructor
  · rintro ⟨y, hy, h1, h2⟩
    exact ⟨y, hy, fun i hi => by rw [h1 i hi, even_fix v x b hv hx hm i hi], h2⟩
  · rintro ⟨y, hy, h1, h2⟩
    exact ⟨y, hy, fun i hi => by rw [h1 i hi, even_fix v x b hv hx hm i hi], h2⟩
theorem run_shr1 (y : Nat) (w : World) : (binOp .shr 5 (.int .u8 (y : Int)) (.int .u64 1)).run Tryd.prog w = .ok (.int .u8 ((y / 2 : Nat) : Int)) w := by
  go_simp
theorem run_and85 (z : Nat) (hz : z < 256) (w : World) : (binOp .and 5 (.int .u8 (z : Int)) (.int .u8 85)).run Tryd.prog w = .ok (.int .u8 ((z &&& 85 : Nat) : Int)) w := by
  have h := u8_and_nat z 85 hz (by decide)
  exact run_and8 h w
theorem run_eqN8 (a b : Nat) (w : World) : (binOp .eql 5 (.int .u8 (a : Int)) (.int .u8 (b : Int))).run Tryd.prog w = .ok (.bool (decide (a = b))) w := by
  rw [run_eq8]
  congr 2
  rw [Bool.eq_iff_iff]
  simp only [beq_iff_eq, decide_eq_true_eq]
  omega
end Go.Proofs.YtmfocngdobcfcaaDoor
