/-
  A step of a finder; a finder that steps while nobody else does: what it comes to.
-/
import Derived.Test.YtdmfbfbebcneeaaTbHas
namespace Go.Proofs.Ytdmfbfbebcneeaa.Tb
open Go Go.RowKit
section
variable {w w' : World} {P R N T base n F : Nat} {c : Nat → Int} {ops fails : Int} {S : Fd}
theorem step_any (h : Sys w P R N T base n c ops fails) (k : IsFd w F T S) (t : Nat → Int) (ht : ∀ i, c (base + i) = t i) (hi : FI n t S) :
    Calls Try.prog 63 #[.pointer (some ⟨F, 0, none⟩)] w fun e w' => e = .returned (.bool (decide ((S.nxt n (t S.slot)).st = 0))) ∧ ∃ c', Sys w' P R N T base n c' (opsOn ops S) (failsOn fails (t S.slot) S) ∧ (∀ i, c' (base + i) = S.after t i) ∧ (∀ j, j < base ∨ base + n ≤ j → c' j = c j) ∧ IsFd w' F T (S.nxt n (t S.slot)) ∧ Went (Foot P R F) w w' := by
  by_cases h0 : S.st = 0
  · refine (step_off k h0).mono ?_
    rintro e w ⟨rfl, rfl⟩
    have e1 : opsOn ops S = ops := by unfold opsOn; rw [if_pos h0]
    have e2 : failsOn fails (t S.slot) S = fails := by unfold failsOn; rw [if_neg (fun e => by omega)]
    rw [nxt_done _ h0, decide_eq_true h0, e1, e2, after_done t h0]
    exact ⟨rfl, c, h, ht, fun _ _ => rfl, k, Went.refl _ _⟩
  · obtain ⟨hl, _⟩ := hi.going h0
    have hs := hi.slot_lt h.pos hl
    refine (step_on h k hi.key h0 hl hi.left hs).mono ?_
    rw [ht]
    rintro e w' ⟨rfl, h1, k1, b1⟩
    refine ⟨rfl, _, h1, fun i => ?_, fun j hj => ?_, k1, b1⟩
    · unfold Fd.turn Fd.after
      rw [ht]
      split
      · unfold upd
        by_cases e : i = S.slot
        · rw [if_pos (by omega), if_pos e]
        · rw [if_neg (by omega), if_neg e, ht]
      · exact ht i
    · unfold Fd.turn
      split
      · exact upd_other _ _ (by omega)
      · rfl
end

/-- What stands behind some steps of one finder alone, from the slots t0 on. -/
def Solo (n : Nat) (t0 t : Nat → Int) (S : Fd) : Prop :=
  (S.made = false ∧ t = t0) ∨ (S.made = true ∧ S.st = 0 ∧ S.slot < n ∧ t0 S.slot = 0 ∧ t = upd t0 S.slot S.key)

section
variable {n : Nat} {t0 t : Nat → Int} {S : Fd}
theorem Solo.start (n : Nat) (t0 : Nat → Int) (k : Int) : Solo n t0 t0 (Fd.start n k) := .inl ⟨rfl, rfl⟩
theorem Solo.step (h : Solo n t0 t S) (f : FI n t S) (hn : 1 ≤ n) : Solo n t0 (S.after t) (S.nxt n (t S.slot)) := by
  rcases h with ⟨hm, rfl⟩ | ⟨hm, hs, hl, h0, ht⟩
  · by_cases c : S.st = 2 ∧ t S.slot = 0
    · obtain ⟨hl, _⟩ := f.going (by omega)
      have e : S.nxt n (t S.slot) = S.put := by unfold Fd.nxt; rw [if_neg (by omega), if_neg (by omega), if_pos c.1, if_pos c.2]
      rw [e]
      refine .inr ⟨rfl, rfl, f.slot_lt hn hl, c.2, ?_⟩
      unfold Fd.after
      rw [if_pos c]
      rfl
    · refine .inl ⟨?_, by unfold Fd.after; rw [if_neg c]⟩
      unfold Fd.nxt
      split
      · exact hm
      · split
        · split
          · exact hm
          · split <;> exact hm
        · split
          · split
            next h2 h0 => exact absurd ⟨h2, h0⟩ c
            next => exact hm
          · split <;> exact hm
  · rw [nxt_done _ hs, after_done t hs]
    exact .inr ⟨hm, hs, hl, h0, ht⟩
/-- A key that is there is found. -/
theorem Solo.there (h : Solo n t0 t S) (f : FI n t S) (g : Good n t) (hs : S.st = 0) {s : Nat} (hsn : s < n) (e : t0 s = S.key) : S.found = true ∧ S.made = false ∧ t = t0 := by
  rcases h with ⟨hm, rfl⟩ | ⟨hm, _, hl, h0, ht⟩
  · refine ⟨?_, hm, rfl⟩
    cases hf : S.found with
    | true => rfl
    | false => exact absurd e (f.all hs hf s hsn).2
  · exfalso
    have hne : s ≠ S.slot := fun d => by rw [d, h0] at e; exact f.key e.symm
    have e1 : t s = S.key := by rw [ht, upd_other _ _ hne]; exact e
    have e2 : t S.slot = S.key := by rw [ht]; exact upd_same _ _ _
    exact hne (g.one f.key hsn hl e1 e2)
/-- One that isn't is made, if there is room. -/
theorem Solo.room (h : Solo n t0 t S) (f : FI n t S) (hn : 1 ≤ n) (hs : S.st = 0) (hno : ∀ s, s < n → ¬ t0 s = S.key) (hc : cnt t0 n < n) : S.found = true ∧ S.made = true ∧ S.slot < n ∧ t0 S.slot = 0 ∧ t = upd t0 S.slot S.key := by
  rcases h with ⟨hm, rfl⟩ | ⟨hm, _, hl, h0, ht⟩
  · exfalso
    cases hf : S.found with
    | true =>
      obtain ⟨_, hl, e⟩ := f.found hf
      exact hno _ (f.slot_lt hn hl) e
    | false =>
      have := cnt_full (fun i hi => (f.all hs hf i hi).1)
      omega
  · exact ⟨f.made hm, hm, hl, h0, ht⟩
/-- Or not, if there is none. -/
theorem Solo.full (h : Solo n t0 t S) (f : FI n t S) (hn : 1 ≤ n) (hno : ∀ s, s < n → ¬ t0 s = S.key) (hc : cnt t0 n = n) : S.found = false ∧ S.made = false ∧ t = t0 := by
  rcases h with ⟨hm, rfl⟩ | ⟨hm, _, hl, h0, ht⟩
  · refine ⟨?_, hm, rfl⟩
    cases hf : S.found with
    | true =>
      obtain ⟨_, hl, e⟩ := f.found hf
      exact absurd e (hno _ (f.slot_lt hn hl))
    | false => rfl
  · exact absurd h0 (cnt_all hc _ hl)
end

end Go.Proofs.Ytdmfbfbebcneeaa.Tb
