/-
  An act of the deque without a program: what its steps make of it and of the cells; an act run to its end.
-/
import Derived.Test.YtfpgdmnbehingaaMem
namespace Go.Proofs.Ytfpgdmnbehingaa
open Go Go.RowKit

def U64 (c : Nat → Int) : Prop := ∀ i, 0 ≤ c i ∧ c i ≤ 18446744073709551615
def w64 (x : Int) : Int := x % 18446744073709551616
theorem w64_fit (x : Int) : 0 ≤ w64 x ∧ w64 x ≤ 18446744073709551615 := by unfold w64; omega
/-- By how many numbers the first is ahead of the end. -/
def ah (f e : Int) : Int := wrap64 (e - f)
/-- The place of a number. -/
def pl (b n : Nat) (x : Int) : Nat := b + 2 + (x % (n : Int)).toNat
theorem pl_lt (b : Nat) {n : Nat} (x : Int) (hn : 1 ≤ n) : b + 2 ≤ pl b n x ∧ pl b n x < b + 2 + n := by
  have h1 := Int.emod_nonneg x (show (n : Int) ≠ 0 by omega)
  have h2 := Int.emod_lt_of_pos x (show (0 : Int) < (n : Int) by omega)
  unfold pl
  omega

/-- An act: the two numbers as it has found them, its value, how many tries a steal still has, how far it is (0: done; a push: 1 to 4; a pop: 5 to 9; a steal: 10 to 13), whether it got something. -/
structure Ac where
  first : Int
  last : Int
  value : Int
  left : Nat
  st : Nat
  got : Bool
def Ac.ofPush (v : Int) : Ac := ⟨0, 0, v, 0, 1, false⟩
def Ac.ofPop : Ac := ⟨0, 0, 0, 0, 5, false⟩
def Ac.ofSteal : Ac := ⟨0, 0, 0, 4, 10, false⟩
/-- What a step makes of it over the cells c. -/
def Ac.nxt (b n : Nat) (c : Nat → Int) (S : Ac) : Ac :=
  match S.st with
  | 0 => S
  | 1 => ⟨S.first, c (b + 1), S.value, S.left, 2, S.got⟩
  | 2 => if (n : Int) ≤ ah (c b) S.last then ⟨c b, S.last, S.value, S.left, 0, false⟩ else ⟨c b, S.last, S.value, S.left, 3, S.got⟩
  | 3 => ⟨S.first, S.last, S.value, S.left, 4, S.got⟩
  | 4 => ⟨S.first, S.last, S.value, S.left, 0, true⟩
  | 5 => ⟨S.first, w64 (c (b + 1) + 18446744073709551615), S.value, S.left, 6, S.got⟩
  | 6 => if ah (c b) S.last < 0 then ⟨c b, S.last, S.value, S.left, 9, S.got⟩ else ⟨c b, S.last, S.value, S.left, 7, S.got⟩
  | 7 => if S.first = S.last then ⟨S.first, S.last, c (pl b n S.last), S.left, 8, S.got⟩ else ⟨S.first, S.last, c (pl b n S.last), S.left, 0, true⟩
  | 8 => if c b = S.first then ⟨S.first, S.last, S.value, S.left, 9, true⟩ else ⟨S.first, S.last, S.value, S.left, 9, false⟩
  | 9 => ⟨S.first, S.last, S.value, S.left, 0, S.got⟩
  | 10 => ⟨c b, S.last, S.value, S.left, 11, S.got⟩
  | 11 => if ah S.first (c (b + 1)) < 1 then ⟨S.first, c (b + 1), S.value, S.left, 0, false⟩ else ⟨S.first, c (b + 1), S.value, S.left, 12, S.got⟩
  | 12 => ⟨S.first, S.last, c (pl b n S.first), S.left, 13, S.got⟩
  | _ => if c b = S.first then ⟨S.first, S.last, S.value, S.left, 0, true⟩ else if S.left = 1 then ⟨S.first, S.last, S.value, S.left - 1, 0, false⟩ else ⟨S.first, S.last, S.value, S.left - 1, 10, S.got⟩
/-- What a step makes of the cells. -/
def Ac.after (b n : Nat) (c : Nat → Int) (S : Ac) : Nat → Int :=
  match S.st with
  | 3 => upd c (pl b n S.last) S.value
  | 4 => upd c (b + 1) (w64 (c (b + 1) + 1))
  | 5 => upd c (b + 1) (w64 (c (b + 1) + 18446744073709551615))
  | 8 => if c b = S.first then upd c b (w64 (S.first + 1)) else c
  | 9 => upd c (b + 1) (w64 (c (b + 1) + 1))
  | 13 => if c b = S.first then upd c b (w64 (S.first + 1)) else c
  | _ => c
/-- What it tells. -/
def Ac.has (S : Ac) : Bool := decide (S.st = 0) && S.got
def Ac.told (S : Ac) : Int := if S.has = true then S.value else 0
/-- How many steps are left at most. -/
def Ac.mu (S : Ac) : Nat :=
  match S.st with
  | 0 => 0
  | 1 => 4
  | 2 => 3
  | 3 => 2
  | 4 => 1
  | 5 => 5
  | 6 => 4
  | 7 => 3
  | 8 => 2
  | 9 => 1
  | 10 => 4 * S.left
  | 11 => 4 * S.left - 1
  | 12 => 4 * S.left - 2
  | _ => 4 * S.left - 3

/-- An act in its bounds. -/
structure Fit (S : Ac) : Prop where
  first : 0 ≤ S.first ∧ S.first ≤ 18446744073709551615
  last : 0 ≤ S.last ∧ S.last ≤ 18446744073709551615
  value : 0 ≤ S.value ∧ S.value ≤ 18446744073709551615
  left : S.left ≤ 4
  steal : 10 ≤ S.st → 1 ≤ S.left
  st : S.st ≤ 13

section
variable {b n : Nat} {S : Ac} {c : Nat → Int}
theorem nxt0 (h : S.st = 0) : S.nxt b n c = S := by unfold Ac.nxt; rw [h]; rfl
theorem nxt1 (h : S.st = 1) : S.nxt b n c = ⟨S.first, c (b + 1), S.value, S.left, 2, S.got⟩ := by unfold Ac.nxt; rw [h]; rfl
theorem nxt2 (h : S.st = 2) : S.nxt b n c = if (n : Int) ≤ ah (c b) S.last then ⟨c b, S.last, S.value, S.left, 0, false⟩ else ⟨c b, S.last, S.value, S.left, 3, S.got⟩ := by unfold Ac.nxt; rw [h]; rfl
theorem nxt3 (h : S.st = 3) : S.nxt b n c = ⟨S.first, S.last, S.value, S.left, 4, S.got⟩ := by unfold Ac.nxt; rw [h]; rfl
theorem nxt4 (h : S.st = 4) : S.nxt b n c = ⟨S.first, S.last, S.value, S.left, 0, true⟩ := by unfold Ac.nxt; rw [h]; rfl
theorem nxt5 (h : S.st = 5) : S.nxt b n c = ⟨S.first, w64 (c (b + 1) + 18446744073709551615), S.value, S.left, 6, S.got⟩ := by unfold Ac.nxt; rw [h]; rfl
theorem nxt6 (h : S.st = 6) : S.nxt b n c = if ah (c b) S.last < 0 then ⟨c b, S.last, S.value, S.left, 9, S.got⟩ else ⟨c b, S.last, S.value, S.left, 7, S.got⟩ := by unfold Ac.nxt; rw [h]; rfl
theorem nxt7 (h : S.st = 7) : S.nxt b n c = if S.first = S.last then ⟨S.first, S.last, c (pl b n S.last), S.left, 8, S.got⟩ else ⟨S.first, S.last, c (pl b n S.last), S.left, 0, true⟩ := by unfold Ac.nxt; rw [h]; rfl
theorem nxt8 (h : S.st = 8) : S.nxt b n c = if c b = S.first then ⟨S.first, S.last, S.value, S.left, 9, true⟩ else ⟨S.first, S.last, S.value, S.left, 9, false⟩ := by unfold Ac.nxt; rw [h]; rfl
theorem nxt9 (h : S.st = 9) : S.nxt b n c = ⟨S.first, S.last, S.value, S.left, 0, S.got⟩ := by unfold Ac.nxt; rw [h]; rfl
theorem nxt10 (h : S.st = 10) : S.nxt b n c = ⟨c b, S.last, S.value, S.left, 11, S.got⟩ := by unfold Ac.nxt; rw [h]; rfl
theorem nxt11 (h : S.st = 11) : S.nxt b n c = if ah S.first (c (b + 1)) < 1 then ⟨S.first, c (b + 1), S.value, S.left, 0, false⟩ else ⟨S.first, c (b + 1), S.value, S.left, 12, S.got⟩ := by unfold Ac.nxt; rw [h]; rfl
theorem nxt12 (h : S.st = 12) : S.nxt b n c = ⟨S.first, S.last, c (pl b n S.first), S.left, 13, S.got⟩ := by unfold Ac.nxt; rw [h]; rfl
theorem nxt13 (h : S.st = 13) : S.nxt b n c = if c b = S.first then ⟨S.first, S.last, S.value, S.left, 0, true⟩ else if S.left = 1 then ⟨S.first, S.last, S.value, S.left - 1, 0, false⟩ else ⟨S.first, S.last, S.value, S.left - 1, 10, S.got⟩ := by unfold Ac.nxt; rw [h]; rfl
theorem after3 (h : S.st = 3) : S.after b n c = upd c (pl b n S.last) S.value := by unfold Ac.after; rw [h]; rfl
theorem after4 (h : S.st = 4) : S.after b n c = upd c (b + 1) (w64 (c (b + 1) + 1)) := by unfold Ac.after; rw [h]; rfl
theorem after5 (h : S.st = 5) : S.after b n c = upd c (b + 1) (w64 (c (b + 1) + 18446744073709551615)) := by unfold Ac.after; rw [h]; rfl
theorem after8 (h : S.st = 8) : S.after b n c = if c b = S.first then upd c b (w64 (S.first + 1)) else c := by unfold Ac.after; rw [h]; rfl
theorem after9 (h : S.st = 9) : S.after b n c = upd c (b + 1) (w64 (c (b + 1) + 1)) := by unfold Ac.after; rw [h]; rfl
theorem after13 (h : S.st = 13) : S.after b n c = if c b = S.first then upd c b (w64 (S.first + 1)) else c := by unfold Ac.after; rw [h]; rfl
theorem after_same (h : S.st = 0 ∨ S.st = 1 ∨ S.st = 2 ∨ S.st = 6 ∨ S.st = 7 ∨ S.st = 10 ∨ S.st = 11 ∨ S.st = 12) : S.after b n c = c := by
  unfold Ac.after
  rcases h with h | h | h | h | h | h | h | h <;> (rw [h]; rfl)
theorem fourteen (h : S.st ≤ 13) : S.st = 0 ∨ S.st = 1 ∨ S.st = 2 ∨ S.st = 3 ∨ S.st = 4 ∨ S.st = 5 ∨ S.st = 6 ∨ S.st = 7 ∨ S.st = 8 ∨ S.st = 9 ∨ S.st = 10 ∨ S.st = 11 ∨ S.st = 12 ∨ S.st = 13 := by omega

theorem upd_same (c : Nat → Int) (i : Nat) (v : Int) : upd c i v i = v := by simp [upd]
theorem upd_other (c : Nat → Int) {i j : Nat} (v : Int) (h : j ≠ i) : upd c i v j = c j := by simp [upd, h]
theorem upd_fit {x : Int} (h : U64 c) (hx : 0 ≤ x ∧ x ≤ 18446744073709551615) (j : Nat) : U64 (upd c j x) := fun i => by
  by_cases d : i = j
  · rw [d, upd_same]; exact hx
  · rw [upd_other _ _ d]; exact h i

theorem Fit.step (h : Fit S) (hc : U64 c) : Fit (S.nxt b n c) := by
  rcases fourteen h.st with e | e | e | e | e | e | e | e | e | e | e | e | e | e
  · rw [nxt0 e]; exact h
  · rw [nxt1 e]; exact ⟨h.first, hc _, h.value, h.left, fun k => absurd k (by show ¬ 10 ≤ 2; omega), by show 2 ≤ 13; omega⟩
  · rw [nxt2 e]
    split
    · exact ⟨hc _, h.last, h.value, h.left, fun k => absurd k (by show ¬ 10 ≤ 0; omega), by show 0 ≤ 13; omega⟩
    · exact ⟨hc _, h.last, h.value, h.left, fun k => absurd k (by show ¬ 10 ≤ 3; omega), by show 3 ≤ 13; omega⟩
  · rw [nxt3 e]; exact ⟨h.first, h.last, h.value, h.left, fun k => absurd k (by show ¬ 10 ≤ 4; omega), by show 4 ≤ 13; omega⟩
  · rw [nxt4 e]; exact ⟨h.first, h.last, h.value, h.left, fun k => absurd k (by show ¬ 10 ≤ 0; omega), by show 0 ≤ 13; omega⟩
  · rw [nxt5 e]; exact ⟨h.first, w64_fit _, h.value, h.left, fun k => absurd k (by show ¬ 10 ≤ 6; omega), by show 6 ≤ 13; omega⟩
  · rw [nxt6 e]
    split
    · exact ⟨hc _, h.last, h.value, h.left, fun k => absurd k (by show ¬ 10 ≤ 9; omega), by show 9 ≤ 13; omega⟩
    · exact ⟨hc _, h.last, h.value, h.left, fun k => absurd k (by show ¬ 10 ≤ 7; omega), by show 7 ≤ 13; omega⟩
  · rw [nxt7 e]
    split
    · exact ⟨h.first, h.last, hc _, h.left, fun k => absurd k (by show ¬ 10 ≤ 8; omega), by show 8 ≤ 13; omega⟩
    · exact ⟨h.first, h.last, hc _, h.left, fun k => absurd k (by show ¬ 10 ≤ 0; omega), by show 0 ≤ 13; omega⟩
  · rw [nxt8 e]
    split
    · exact ⟨h.first, h.last, h.value, h.left, fun k => absurd k (by show ¬ 10 ≤ 9; omega), by show 9 ≤ 13; omega⟩
    · exact ⟨h.first, h.last, h.value, h.left, fun k => absurd k (by show ¬ 10 ≤ 9; omega), by show 9 ≤ 13; omega⟩
  · rw [nxt9 e]; exact ⟨h.first, h.last, h.value, h.left, fun k => absurd k (by show ¬ 10 ≤ 0; omega), by show 0 ≤ 13; omega⟩
  · rw [nxt10 e]; exact ⟨hc _, h.last, h.value, h.left, fun _ => h.steal (by omega), by show 11 ≤ 13; omega⟩
  · rw [nxt11 e]
    split
    · exact ⟨h.first, hc _, h.value, h.left, fun k => absurd k (by show ¬ 10 ≤ 0; omega), by show 0 ≤ 13; omega⟩
    · exact ⟨h.first, hc _, h.value, h.left, fun _ => h.steal (by omega), by show 12 ≤ 13; omega⟩
  · rw [nxt12 e]; exact ⟨h.first, h.last, hc _, h.left, fun _ => h.steal (by omega), by show 13 ≤ 13; omega⟩
  · rw [nxt13 e]
    have hs := h.steal (by omega)
    have hl := h.left
    split
    · exact ⟨h.first, h.last, h.value, h.left, fun k => absurd k (by show ¬ 10 ≤ 0; omega), by show 0 ≤ 13; omega⟩
    · split
      · exact ⟨h.first, h.last, h.value, by show S.left - 1 ≤ 4; omega, fun k => absurd k (by show ¬ 10 ≤ 0; omega), by show 0 ≤ 13; omega⟩
      · exact ⟨h.first, h.last, h.value, by show S.left - 1 ≤ 4; omega, fun _ => by show 1 ≤ S.left - 1; omega, by show 10 ≤ 13; omega⟩
theorem U64.step (hc : U64 c) (h : Fit S) : U64 (S.after b n c) := by
  unfold Ac.after
  split
  · exact upd_fit hc h.value _
  · exact upd_fit hc (w64_fit _) _
  · exact upd_fit hc (w64_fit _) _
  · split
    · exact upd_fit hc (w64_fit _) _
    · exact hc
  · exact upd_fit hc (w64_fit _) _
  · split
    · exact upd_fit hc (w64_fit _) _
    · exact hc
  · exact hc
/-- A step touches no cell beside the deque's. -/
theorem after_other (hn : 1 ≤ n) {j : Nat} (hj : j < b ∨ b + 2 + n ≤ j) : S.after b n c j = c j := by
  have hp := fun x => pl_lt b x hn
  have hp' := hp S.last
  by_cases e3 : S.st = 3
  · rw [after3 e3]; exact upd_other c S.value (by omega)
  · by_cases e4 : S.st = 4
    · rw [after4 e4]; exact upd_other c _ (by omega)
    · by_cases e5 : S.st = 5
      · rw [after5 e5]; exact upd_other c _ (by omega)
      · by_cases e8 : S.st = 8
        · rw [after8 e8]
          split
          · exact upd_other c _ (by omega)
          · rfl
        · by_cases e9 : S.st = 9
          · rw [after9 e9]; exact upd_other c _ (by omega)
          · by_cases e13 : S.st = 13
            · rw [after13 e13]
              split
              · exact upd_other c _ (by omega)
              · rfl
            · have e : S.after b n c = c := by
                unfold Ac.after
                split
                all_goals first | contradiction | rfl
              rw [e]
theorem Fit.mu_le (h : Fit S) : S.mu ≤ 16 := by
  have := h.left
  unfold Ac.mu
  split <;> omega
theorem mu_zero (h : S.st = 0) : S.mu = 0 := by unfold Ac.mu; rw [h]; rfl
theorem Fit.mu_done (h : Fit S) (k : S.mu = 0) : S.st = 0 := by
  have hs := h.steal
  rcases fourteen h.st with e | e | e | e | e | e | e | e | e | e | e | e | e | e
  · exact e
  all_goals
    unfold Ac.mu at k
    rw [e] at k
    simp only at k
    omega
theorem Fit.mu_step (h : Fit S) (h0 : ¬ S.st = 0) : (S.nxt b n c).mu + 1 ≤ S.mu := by
  have hs := h.steal
  have hm : ∀ k, S.st = k → S.mu = (⟨S.first, S.last, S.value, S.left, k, S.got⟩ : Ac).mu := fun k e => by unfold Ac.mu; rw [e]
  rcases fourteen h.st with e | e | e | e | e | e | e | e | e | e | e | e | e | e
  · exact absurd e h0
  · rw [nxt1 e, hm _ e]; simp [Ac.mu]
  · rw [nxt2 e, hm _ e]; split <;> simp [Ac.mu]
  · rw [nxt3 e, hm _ e]; simp [Ac.mu]
  · rw [nxt4 e, hm _ e]; simp [Ac.mu]
  · rw [nxt5 e, hm _ e]; simp [Ac.mu]
  · rw [nxt6 e, hm _ e]; split <;> simp [Ac.mu]
  · rw [nxt7 e, hm _ e]; split <;> simp [Ac.mu]
  · rw [nxt8 e, hm _ e]; split <;> simp [Ac.mu]
  · rw [nxt9 e, hm _ e]; simp [Ac.mu]
  · rw [nxt10 e, hm _ e]; simp only [Ac.mu]; omega
  · rw [nxt11 e, hm _ e]; split <;> (simp only [Ac.mu]; omega)
  · rw [nxt12 e, hm _ e]; simp only [Ac.mu]; omega
  · rw [nxt13 e, hm _ e]
    split
    · simp only [Ac.mu]; omega
    · split <;> (simp only [Ac.mu]; omega)
end
theorem Fit.ofPush {v : Int} (h0 : 0 ≤ v) (h1 : v ≤ 18446744073709551615) : Fit (Ac.ofPush v) := by
  refine ⟨?_, ?_, ⟨h0, h1⟩, ?_, ?_, ?_⟩ <;> simp [Ac.ofPush]
theorem Fit.ofPop : Fit Ac.ofPop := by refine ⟨?_, ?_, ?_, ?_, ?_, ?_⟩ <;> simp [Ac.ofPop]
theorem Fit.ofSteal : Fit Ac.ofSteal := by refine ⟨?_, ?_, ?_, ?_, ?_, ?_⟩ <;> simp [Ac.ofSteal]

/-! ## One behind the other -/
/-- The cells and the act behind k steps, or where it is done before. -/
def runs (b n : Nat) : Nat → (Nat → Int) → Ac → (Nat → Int) × Ac
  | 0, c, S => (c, S)
  | k + 1, c, S => if S.st = 0 then (c, S) else runs b n k (S.after b n c) (S.nxt b n c)
section
variable {b n : Nat}
theorem runs_done (k : Nat) (c : Nat → Int) {S : Ac} (h : S.st = 0) : runs b n k c S = (c, S) := by
  cases k with
  | zero => rfl
  | succ k => show (if S.st = 0 then (c, S) else _) = _; rw [if_pos h]
theorem runs_step (k : Nat) (c : Nat → Int) {S : Ac} (h : ¬ S.st = 0) : runs b n (k + 1) c S = runs b n k (S.after b n c) (S.nxt b n c) := by
  show (if S.st = 0 then (c, S) else _) = _; rw [if_neg h]
theorem runs_fit (k : Nat) : ∀ (c : Nat → Int) (S : Ac), U64 c → Fit S → U64 (runs b n k c S).1 ∧ Fit (runs b n k c S).2 := by
  induction k with
  | zero => exact fun c S h1 h2 => ⟨h1, h2⟩
  | succ k ih =>
    intro c S h1 h2
    by_cases h : S.st = 0
    · rw [runs_done _ _ h]; exact ⟨h1, h2⟩
    · rw [runs_step _ _ h]; exact ih _ _ (h1.step h2) (h2.step h1)
theorem runs_mu (k : Nat) : ∀ (c : Nat → Int) (S : Ac), U64 c → Fit S → S.mu ≤ k → (runs b n k c S).2.st = 0 := by
  induction k with
  | zero => exact fun c S _ h2 h3 => h2.mu_done (by omega)
  | succ k ih =>
    intro c S h1 h2 h3
    by_cases h : S.st = 0
    · rw [runs_done _ _ h]; exact h
    · rw [runs_step _ _ h]; exact ih _ _ (h1.step h2) (h2.step h1) (by have := h2.mu_step (b := b) (n := n) (c := c) h; omega)
theorem runs_other (hn : 1 ≤ n) {j : Nat} (hj : j < b ∨ b + 2 + n ≤ j) (k : Nat) : ∀ (c : Nat → Int) (S : Ac), (runs b n k c S).1 j = c j := by
  induction k with
  | zero => exact fun c S => rfl
  | succ k ih =>
    intro c S
    by_cases h : S.st = 0
    · rw [runs_done _ _ h]
    · rw [runs_step _ _ h, ih, after_other hn hj]
end

/-! ## What stands in the cells when nobody is under way -/
/-- The values of numbers F to E are there, and no others; the numbers are small. -/
structure Holds (b n : Nat) (c : Nat → Int) (F E : Nat) (A : Nat → Int) : Prop where
  first : c b = (F : Int)
  last : c (b + 1) = (E : Int)
  le : F ≤ E
  room : E ≤ F + n
  pos : 1 ≤ n
  val : ∀ i, F ≤ i → i < E → c (pl b n (i : Int)) = A i
  small : E < 1000000000
theorem pl_ne (b : Nat) {n i j : Nat} (h : i < j) (hn : j < i + n) : pl b n (i : Int) ≠ pl b n (j : Int) := by
  have e : ∀ k : Nat, pl b n (k : Int) = b + 2 + k % n := fun k => by unfold pl; rw [← Int.natCast_emod, Int.toNat_natCast]
  rw [e, e]
  intro d
  have d' : i % n = j % n := by omega
  have h1 := Nat.div_add_mod i n
  have h2 := Nat.div_add_mod j n
  have h3 : j - i = n * (j / n) - n * (i / n) := by omega
  have h4 : n ∣ j - i := by rw [h3]; exact Nat.dvd_sub (Nat.dvd_mul_right _ _) (Nat.dvd_mul_right _ _)
  have := Nat.le_of_dvd (by omega) h4
  omega
theorem ah_small {f e : Int} (h0 : -1000000000 ≤ e - f) (h1 : e - f ≤ 1000000000) : ah f e = e - f := by unfold ah wrap64; omega
theorem w64_small {x : Int} (h0 : 0 ≤ x) (h1 : x ≤ 18446744073709551615) : w64 x = x := by unfold w64; omega
/-- One place off. -/
theorem w64_back {x : Int} (h0 : 1 ≤ x) (h1 : x ≤ 1000000000) : w64 (x + 18446744073709551615) = x - 1 := by unfold w64; omega
theorem w64_none : w64 (0 + 18446744073709551615) = 18446744073709551615 := by unfold w64; omega
end Go.Proofs.Ytfpgdmnbehingaa
