/-
  Tables, told by assignments: plain facts on quantifiers, restrictions and steps, no program.
-/
import Derived.Test.YtmfocngdobcfcabDoorTurn
namespace Go.Proofs.YtmfocngdobcfcabDoor
open Go Go.RowKit

theorem fixAt_lt (v x : Nat) (b : Bool) (hv : v < 8) (hx : x < 256) : fixAt v b x < 256 := by
  rw [fixAt_flip v x b hv hx]
  split
  · exact hx
  · exact flip_lt v x hv hx
theorem M_fixAt (u v x : Nat) (b : Bool) (hu : u < 8) (hv : v < 8) (hx : x < 256) : M u (fixAt v b x) = if u = v then b else M u x := by
  have h := below (n := v) (fun v => (List.range 8).all fun u => (List.range 256).all fun x => (M u (fixAt v true x) == if u = v then true else M u x) && (M u (fixAt v false x) == if u = v then false else M u x)) 8 (by kernel_rfl) hv
  have h2 := below (n := u) (fun u => (List.range 256).all fun x => (M u (fixAt v true x) == if u = v then true else M u x) && (M u (fixAt v false x) == if u = v then false else M u x)) 8 h hu
  have h3 := below (n := x) (fun x => (M u (fixAt v true x) == if u = v then true else M u x) && (M u (fixAt v false x) == if u = v then false else M u x)) 256 h2 hx
  simp only [Bool.and_eq_true, beq_iff_eq] at h3
  cases b
  · exact h3.2
  · exact h3.1
theorem bits_ext {x y : Nat} (hx : x < 256) (hy : y < 256) (h : ∀ v, v < 8 → M v x = M v y) : x = y := by
  apply Nat.eq_of_testBit_eq
  intro i
  by_cases hi : i < 8
  · rw [M_bit, M_bit]; exact h i hi
  · have : ∀ z, z < 256 → z.testBit i = false := fun z hz => Nat.testBit_lt_two_pow (Nat.lt_of_lt_of_le hz (Nat.pow_le_pow_right (n := 2) (i := 8) (by decide) (by omega)))
    rw [this x hx, this y hy]
theorem fixAt_self (v x : Nat) (hv : v < 8) (hx : x < 256) : fixAt v (M v x) x = x := by
  rw [fixAt_flip v x _ hv hx]; simp

/-- An assignment with the bits that are asked for. -/
def asm (f : Nat → Bool) : Nat := mk f 8
theorem asm_lt (f : Nat → Bool) : asm f < 256 := mk_lt f 8
theorem asm_M (f : Nat → Bool) (v : Nat) (hv : v < 8) : M v (asm f) = f v := by rw [← M_bit, asm, mk_bit]; simp [hv]

theorem ex_upto (F : Nat → Bool) (m : Nat) : ∀ (k : Nat), k ≤ 8 → ∀ x, x < 256 →
    (exUpto F m k x = true ↔ ∃ y, y < 256 ∧ (∀ v, v < 8 → (v < k ∧ M v m = true) ∨ M v y = M v x) ∧ F y = true)
  | 0, _, x, hx => by
    constructor
    · intro h
      exact ⟨x, hx, fun v _ => Or.inr rfl, h⟩
    · rintro ⟨y, hy, h, hF⟩
      have : y = x := bits_ext hy hx fun v hv => by
        rcases h v hv with h | h
        · exact absurd h.1 (by omega)
        · exact h
      subst this
      exact hF
  | k + 1, hk, x, hx => by
    have hk8 : k < 8 := by omega
    rw [exUpto]
    by_cases hM : M k m = true
    · rw [if_pos hM]
      simp only [Bool.or_eq_true, fixF]
      rw [ex_upto F m k (by omega) _ (fixAt_lt k x false hk8 hx), ex_upto F m k (by omega) _ (fixAt_lt k x true hk8 hx)]
      constructor
      · rintro (⟨y, hy, h, hF⟩ | ⟨y, hy, h, hF⟩)
        all_goals
          refine ⟨y, hy, fun v hv => ?_, hF⟩
          by_cases e : v = k
          · subst e; exact Or.inl ⟨by omega, hM⟩
          · rcases h v hv with h1 | h1
            · exact Or.inl ⟨by omega, h1.2⟩
            · rw [M_fixAt v k x _ hv hk8 hx, if_neg e] at h1
              exact Or.inr h1
      · rintro ⟨y, hy, h, hF⟩
        have key : ∀ b, M k y = b → ∃ y, y < 256 ∧ (∀ v, v < 8 → (v < k ∧ M v m = true) ∨ M v y = M v (fixAt k b x)) ∧ F y = true := by
          intro b hb
          refine ⟨y, hy, fun v hv => ?_, hF⟩
          rw [M_fixAt v k x _ hv hk8 hx]
          by_cases e : v = k
          · subst e; rw [if_pos rfl]; exact Or.inr hb
          · rw [if_neg e]
            rcases h v hv with h1 | h1
            · exact Or.inl ⟨by omega, h1.2⟩
            · exact Or.inr h1
        cases hb : M k y
        · exact Or.inl (key _ hb)
        · exact Or.inr (key _ hb)
    · rw [if_neg hM, ex_upto F m k (by omega) x hx]
      constructor
      · rintro ⟨y, hy, h, hF⟩
        exact ⟨y, hy, fun v hv => (h v hv).imp (fun q => ⟨by omega, q.2⟩) id, hF⟩
      · rintro ⟨y, hy, h, hF⟩
        refine ⟨y, hy, fun v hv => (h v hv).imp (fun q => ⟨?_, q.2⟩) id, hF⟩
        have : v ≠ k := fun e => hM (e ▸ q.2)
        omega
/-- Exists: at some assignment that is alike beside the mask. -/
theorem ex_iff (F : Nat → Bool) (m x : Nat) (hx : x < 256) : exUpto F m 8 x = true ↔ ∃ y, y < 256 ∧ (∀ v, v < 8 → M v m = true ∨ M v y = M v x) ∧ F y = true := by
  rw [ex_upto F m 8 (Nat.le_refl _) x hx]
  constructor
  · rintro ⟨y, hy, h, hF⟩; exact ⟨y, hy, fun v hv => (h v hv).imp (·.2) id, hF⟩
  · rintro ⟨y, hy, h, hF⟩; exact ⟨y, hy, fun v hv => (h v hv).imp (fun q => ⟨hv, q⟩) id, hF⟩

/-- Forall, variable by variable. -/
def allUpto (F : Nat → Bool) (mask : Nat) : Nat → Nat → Bool
  | 0 => F
  | v + 1 => if M v mask then (fun x => fixF (allUpto F mask v) v false x && fixF (allUpto F mask v) v true x) else allUpto F mask v
/-- Forall is not exists not. -/
theorem all_not (F : Nat → Bool) (m : Nat) : ∀ (k : Nat), ∀ x, allUpto F m k x = !exUpto (fun y => !F y) m k x
  | 0, x => by simp [allUpto, exUpto]
  | k + 1, x => by
    rw [allUpto, exUpto]
    by_cases hM : M k m = true
    · rw [if_pos hM, if_pos hM]
      simp only [fixF, all_not F m k, Bool.not_or]
    · rw [if_neg hM, if_neg hM]; exact all_not F m k x
theorem all_iff (F : Nat → Bool) (m x : Nat) (hx : x < 256) : allUpto F m 8 x = true ↔ ∀ y, y < 256 → (∀ v, v < 8 → M v m = true ∨ M v y = M v x) → F y = true := by
  rw [all_not]
  have h := ex_iff (fun y => !F y) m x hx
  cases he : exUpto (fun y => !F y) m 8 x with
  | true =>
    rw [he] at h
    obtain ⟨y, hy, h1, hF⟩ := h.1 rfl
    simp only [Bool.not_true, Bool.false_eq_true, false_iff]
    intro hall
    have := hall y hy h1
    simp [this] at hF
  | false =>
    rw [he] at h
    simp only [Bool.not_false, true_iff]
    intro y hy h1
    cases hF : F y with
    | true => rfl
    | false => exact absurd (h.2 ⟨y, hy, h1, by simp [hF]⟩) (by decide)

theorem res_upto (F : Nat → Bool) (m n : Nat) : ∀ (k : Nat), k ≤ 8 → ∀ x, x < 256 → resUpto F m n k x = F (asm fun v => if v < k ∧ M v m = true then M v n else M v x)
  | 0, _, x, hx => by
    rw [resUpto]
    congr 1
    exact bits_ext hx (asm_lt _) fun v hv => by rw [asm_M _ v hv, if_neg (by omega)]
  | k + 1, hk, x, hx => by
    have hk8 : k < 8 := by omega
    rw [resUpto]
    by_cases hM : M k m = true
    · rw [if_pos hM]
      simp only [fixF]
      rw [res_upto F m n k (by omega) _ (fixAt_lt k x _ hk8 hx)]
      congr 1
      refine bits_ext (asm_lt _) (asm_lt _) fun v hv => ?_
      rw [asm_M _ v hv, asm_M _ v hv, M_fixAt v k x _ hv hk8 hx]
      by_cases e : v = k
      · subst e
        rw [if_neg (by omega), if_pos rfl, if_pos ⟨by omega, hM⟩]
      · rw [if_neg e]
        by_cases h1 : v < k ∧ M v m = true
        · rw [if_pos h1, if_pos ⟨by omega, h1.2⟩]
        · rw [if_neg h1, if_neg (fun q => h1 ⟨by omega, q.2⟩)]
    · rw [if_neg hM, res_upto F m n k (by omega) x hx]
      congr 1
      refine bits_ext (asm_lt _) (asm_lt _) fun v hv => ?_
      rw [asm_M _ v hv, asm_M _ v hv]
      by_cases h1 : v < k ∧ M v m = true
      · rw [if_pos h1, if_pos ⟨by omega, h1.2⟩]
      · rw [if_neg h1, if_neg]
        rintro ⟨q1, q2⟩
        have : v ≠ k := fun e => hM (e ▸ q2)
        exact h1 ⟨by omega, q2⟩
theorem res_at (F : Nat → Bool) (m n x : Nat) (hx : x < 256) : resUpto F m n 8 x = F (asm fun v => if M v m = true then M v n else M v x) := by
  rw [res_upto F m n 8 (Nat.le_refl _) x hx]
  congr 1
  refine bits_ext (asm_lt _) (asm_lt _) fun v hv => ?_
  rw [asm_M _ v hv, asm_M _ v hv]
  by_cases h1 : M v m = true
  · rw [if_pos ⟨hv, h1⟩, if_pos h1]
  · rw [if_neg (fun q => h1 q.2), if_neg h1]
end Go.Proofs.YtmfocngdobcfcabDoor
