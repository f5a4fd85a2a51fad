/-
  Steps of a relation, told by assignments: plain facts, no program.
-/
import Derived.Test.YtmfocngdobcfcabDoorPure
namespace Go.Proofs.YtmfocngdobcfcabDoor
open Go Go.RowKit

/-- With the variable as another function is. -/
def compF (F : Nat → Bool) (v : Nat) (G : Nat → Bool) : Nat → Bool := fun x => F (fixAt v (G x) x)
/-- The odd variables take the even ones' places, one by one. -/
def nxUpto (E : Nat → Bool) : Nat → Nat → Bool
  | 0 => E
  | i + 1 => compF (nxUpto E i) (2 * i + 1) (M (2 * i))
/-- The even variables take the odd ones' places, one by one. -/
def pvUpto (E : Nat → Bool) : Nat → Nat → Bool
  | 0 => E
  | i + 1 => compF (pvUpto E i) (2 * i) (M (2 * i + 1))

theorem four_lt {i : Nat} (h : i < 4) : i = 0 ∨ i = 1 ∨ i = 2 ∨ i = 3 := by omega
theorem half_iff (x y : Nat) : halfN x = halfN y ↔ ∀ i, i < 4 → M (2 * i) x = M (2 * i) y := by
  have key : ∀ a b c d e f g h : Nat, a < 2 → b < 2 → c < 2 → d < 2 → e < 2 → f < 2 → g < 2 → h < 2 → (a + 2 * b + 4 * c + 8 * d = e + 2 * f + 4 * g + 8 * h ↔ a = e ∧ b = f ∧ c = g ∧ d = h) := by intros; omega
  have bit : ∀ a b : Nat, a < 2 → b < 2 → (decide (a = 1) = decide (b = 1) ↔ a = b) := by
    intro a b ha hb
    have h1 : a = 0 ∨ a = 1 := by omega
    have h2 : b = 0 ∨ b = 1 := by omega
    rcases h1 with rfl | rfl <;> rcases h2 with rfl | rfl <;> simp
  unfold halfN
  rw [key _ _ _ _ _ _ _ _ (Nat.mod_lt _ (by decide)) (Nat.mod_lt _ (by decide)) (Nat.mod_lt _ (by decide)) (Nat.mod_lt _ (by decide)) (Nat.mod_lt _ (by decide)) (Nat.mod_lt _ (by decide)) (Nat.mod_lt _ (by decide)) (Nat.mod_lt _ (by decide))]
  unfold M
  constructor
  · rintro ⟨h0, h1, h2, h3⟩ i hi
    rcases four_lt hi with rfl | rfl | rfl | rfl
    · simpa using congrArg (fun a => decide (a = 1)) h0
    · simpa using congrArg (fun a => decide (a = 1)) h1
    · simpa using congrArg (fun a => decide (a = 1)) h2
    · simpa using congrArg (fun a => decide (a = 1)) h3
  · intro h
    have h0 := (bit _ _ (Nat.mod_lt _ (by decide)) (Nat.mod_lt _ (by decide))).1 (h 0 (by decide))
    have h1 := (bit _ _ (Nat.mod_lt _ (by decide)) (Nat.mod_lt _ (by decide))).1 (h 1 (by decide))
    have h2 := (bit _ _ (Nat.mod_lt _ (by decide)) (Nat.mod_lt _ (by decide))).1 (h 2 (by decide))
    have h3 := (bit _ _ (Nat.mod_lt _ (by decide)) (Nat.mod_lt _ (by decide))).1 (h 3 (by decide))
    simp at h0 h1 h2 h3
    exact ⟨h0, h1, h2, h3⟩
theorem M_half (i y : Nat) : M (2 * i) (y / 2) = M (2 * i + 1) y := by
  unfold M
  rw [Nat.div_div_eq_div_mul, Nat.pow_succ, Nat.mul_comm 2 (2 ^ (2 * i))]

theorem odd_iff (F G : Nat → Bool) (i : Nat) : ∀ k, oddUpto F G k i = true ↔ ∃ y, y < k ∧ F y = true ∧ G y = true ∧ i = halfN (y / 2)
  | 0 => by simp [oddUpto]
  | k + 1 => by
    rw [oddUpto, Bool.or_eq_true, odd_iff F G i k]
    simp only [Bool.and_eq_true, decide_eq_true_eq]
    constructor
    · rintro (⟨y, hy, h⟩ | ⟨⟨h1, h2⟩, h3⟩)
      · exact ⟨y, by omega, h⟩
      · exact ⟨k, by omega, h1, h2, h3⟩
    · rintro ⟨y, hy, h1, h2, h3⟩
      by_cases e : y = k
      · subst e; exact Or.inr ⟨⟨h1, h2⟩, h3⟩
      · exact Or.inl ⟨y, by omega, h1, h2, h3⟩
/-- Next: a pair leads here from a state. -/
theorem next_iff (F G : Nat → Bool) (x : Nat) : nextF F G x = true ↔ ∃ y, y < 256 ∧ F y = true ∧ G y = true ∧ ∀ i, i < 4 → M (2 * i + 1) y = M (2 * i) x := by
  unfold nextF
  rw [odd_iff]
  constructor
  · rintro ⟨y, hy, h1, h2, h3⟩
    exact ⟨y, hy, h1, h2, fun i hi => by rw [← M_half]; exact ((half_iff _ _).1 h3 i hi).symm⟩
  · rintro ⟨y, hy, h1, h2, h3⟩
    exact ⟨y, hy, h1, h2, (half_iff _ _).2 fun i hi => by rw [M_half]; exact (h3 i hi).symm⟩
theorem pr_iff (F G : Nat → Bool) (x : Nat) : ∀ k, prUpto F G x k = true ↔ ∃ y, y < k ∧ halfN y = halfN x ∧ G y = true ∧ F (evN y) = true
  | 0 => by simp [prUpto]
  | k + 1 => by
    rw [prUpto, Bool.or_eq_true, pr_iff F G x k]
    simp only [Bool.and_eq_true, decide_eq_true_eq]
    constructor
    · rintro (⟨y, hy, h⟩ | ⟨⟨h1, h2⟩, h3⟩)
      · exact ⟨y, by omega, h⟩
      · exact ⟨k, by omega, h1, h2, h3⟩
    · rintro ⟨y, hy, h1, h2, h3⟩
      by_cases e : y = k
      · subst e; exact Or.inr ⟨⟨h1, h2⟩, h3⟩
      · exact Or.inl ⟨y, by omega, h1, h2, h3⟩
/-- Prev: a pair leads from here to a state. -/
theorem prev_iff (F G : Nat → Bool) (x : Nat) : prevF F G x = true ↔ ∃ y, y < 256 ∧ (∀ i, i < 4 → M (2 * i) y = M (2 * i) x) ∧ G y = true ∧ F (evN y) = true := by
  unfold prevF
  rw [pr_iff]
  constructor
  · rintro ⟨y, hy, h1, h2, h3⟩; exact ⟨y, hy, (half_iff _ _).1 h1, h2, h3⟩
  · rintro ⟨y, hy, h1, h2, h3⟩; exact ⟨y, hy, (half_iff _ _).2 h1, h2, h3⟩

theorem odd_even {v : Nat} (hv : v < 8) : (∃ i, i < 4 ∧ v = 2 * i) ∨ ∃ i, i < 4 ∧ v = 2 * i + 1 := by
  by_cases h : v % 2 = 0
  · exact Or.inl ⟨v / 2, by omega, by omega⟩
  · exact Or.inr ⟨v / 2, by omega, by omega⟩
theorem M85 (i : Nat) (hi : i < 4) : M (2 * i) 85 = true ∧ M (2 * i + 1) 85 = false := by rcases four_lt hi with rfl | rfl | rfl | rfl <;> decide
theorem M170 (i : Nat) (hi : i < 4) : M (2 * i) 170 = false ∧ M (2 * i + 1) 170 = true := by rcases four_lt hi with rfl | rfl | rfl | rfl <;> decide
theorem M0 (v : Nat) : M v 0 = false := by simp [M]
theorem evN_M (y i : Nat) (hy : y < 256) (hi : i < 4) : M (2 * i) (evN y) = M (2 * i + 1) y ∧ M (2 * i + 1) (evN y) = false := by
  have h := below (n := y) (fun y => (List.range 4).all fun i => (M (2 * i) (evN y) == M (2 * i + 1) y) && (M (2 * i + 1) (evN y) == false)) 256 (by kernel_rfl) hy
  have h2 := below (n := i) (fun i => (M (2 * i) (evN y) == M (2 * i + 1) y) && (M (2 * i + 1) (evN y) == false)) 4 h hi
  simpa using h2

theorem nx_at (E : Nat → Bool) : ∀ k, k ≤ 4 → ∀ x, x < 256 → nxUpto E k x = E (asm fun v => if v < 2 * k ∧ v % 2 = 1 then M (v - 1) x else M v x)
  | 0, _, x, hx => by
    rw [nxUpto]
    congr 1
    exact bits_ext hx (asm_lt _) fun v hv => by rw [asm_M _ v hv, if_neg (by omega)]
  | k + 1, hk, x, hx => by
    rw [nxUpto]
    unfold compF
    rw [nx_at E k (by omega) _ (fixAt_lt _ x _ (by omega) hx)]
    congr 1
    refine bits_ext (asm_lt _) (asm_lt _) fun v hv => ?_
    rw [asm_M _ v hv, asm_M _ v hv]
    by_cases h1 : v < 2 * k ∧ v % 2 = 1
    · rw [if_pos h1, if_pos ⟨by omega, h1.2⟩, M_fixAt _ _ x _ (by omega) (by omega) hx, if_neg (by omega)]
    · rw [if_neg h1, M_fixAt _ _ x _ hv (by omega) hx]
      by_cases e : v = 2 * k + 1
      · rw [if_pos e, if_pos ⟨by omega, by omega⟩, e]; rfl
      · rw [if_neg e, if_neg (by omega)]
theorem next_eq (F G : Nat → Bool) (x : Nat) (hx : x < 256) : nxUpto (exUpto (fun x => F x && G x) 85 8) 4 x = nextF F G x := by
  rw [nx_at _ 4 (Nat.le_refl _) x hx, Bool.eq_iff_iff, ex_iff _ _ _ (asm_lt _), next_iff]
  constructor
  · rintro ⟨y, hy, h, hF⟩
    simp only [Bool.and_eq_true] at hF
    refine ⟨y, hy, hF.1, hF.2, fun i hi => ?_⟩
    rcases h (2 * i + 1) (by omega) with h1 | h1
    · rw [(M85 i hi).2] at h1; cases h1
    · rw [h1, asm_M _ _ (by omega), if_pos ⟨by omega, by omega⟩]; rfl
  · rintro ⟨y, hy, h1, h2, h3⟩
    refine ⟨y, hy, fun v hv => ?_, by simp [h1, h2]⟩
    rcases odd_even hv with ⟨i, hi, rfl⟩ | ⟨i, hi, rfl⟩
    · exact Or.inl (M85 i hi).1
    · right
      rw [h3 i hi, asm_M _ _ (by omega), if_pos ⟨by omega, by omega⟩]; rfl

theorem pv_at (E : Nat → Bool) : ∀ k, k ≤ 4 → ∀ x, x < 256 → pvUpto E k x = E (asm fun v => if v < 2 * k ∧ v % 2 = 0 then M (v + 1) x else M v x)
  | 0, _, x, hx => by
    rw [pvUpto]
    congr 1
    exact bits_ext hx (asm_lt _) fun v hv => by rw [asm_M _ v hv, if_neg (by omega)]
  | k + 1, hk, x, hx => by
    rw [pvUpto]
    unfold compF
    rw [pv_at E k (by omega) _ (fixAt_lt _ x _ (by omega) hx)]
    congr 1
    refine bits_ext (asm_lt _) (asm_lt _) fun v hv => ?_
    rw [asm_M _ v hv, asm_M _ v hv]
    by_cases h1 : v < 2 * k ∧ v % 2 = 0
    · rw [if_pos h1, if_pos ⟨by omega, h1.2⟩, M_fixAt _ _ x _ (by omega) (by omega) hx, if_neg (by omega)]
    · rw [if_neg h1, M_fixAt _ _ x _ hv (by omega) hx]
      by_cases e : v = 2 * k
      · rw [if_pos e, if_pos ⟨by omega, by omega⟩, e]
      · rw [if_neg e, if_neg (by omega)]
theorem prev_eq (F G : Nat → Bool) (x : Nat) (hx : x < 256) : exUpto (fun x => G x && pvUpto (resUpto F 170 0 8) 4 x) 170 8 x = prevF F G x := by
  have key : ∀ y, y < 256 → pvUpto (resUpto F 170 0 8) 4 y = F (evN y) := by
    intro y hy
    rw [pv_at _ 4 (Nat.le_refl _) y hy, res_at _ _ _ _ (asm_lt _)]
    congr 1
    refine bits_ext (asm_lt _) (evN_lt y) fun v hv => ?_
    rw [asm_M _ v hv]
    rcases odd_even hv with ⟨i, hi, rfl⟩ | ⟨i, hi, rfl⟩
    · rw [if_neg (by rw [(M170 i hi).1]; decide), asm_M _ _ hv, if_pos ⟨by omega, by omega⟩, (evN_M y i hy hi).1]
    · rw [if_pos (M170 i hi).2, M0, (evN_M y i hy hi).2]
  rw [Bool.eq_iff_iff, ex_iff _ _ _ hx, prev_iff]
  constructor
  · rintro ⟨y, hy, h, hF⟩
    simp only [Bool.and_eq_true] at hF
    rw [key y hy] at hF
    refine ⟨y, hy, fun i hi => ?_, hF.1, hF.2⟩
    rcases h (2 * i) (by omega) with h1 | h1
    · rw [(M170 i hi).1] at h1; cases h1
    · exact h1
  · rintro ⟨y, hy, h1, h2, h3⟩
    refine ⟨y, hy, fun v hv => ?_, by simp only [Bool.and_eq_true]; exact ⟨h2, by rw [key y hy]; exact h3⟩⟩
    rcases odd_even hv with ⟨i, hi, rfl⟩ | ⟨i, hi, rfl⟩
    · exact Or.inr (h1 i hi)
    · exact Or.inl (M170 i hi).2
end Go.Proofs.YtmfocngdobcfcabDoor
