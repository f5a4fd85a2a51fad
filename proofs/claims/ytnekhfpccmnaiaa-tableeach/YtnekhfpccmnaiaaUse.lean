/-
  A step of a finder, as the walks meet it; the statements' own first look ('known').
-/
import Derived.Test.YtnekhfpccmnaiaaHas
import Derived.Test.YtnekhfpccmnaiaaNew
namespace Go.Proofs.Ytnekhfpccmnaiaa
open Go Go.RowKit

section
variable {w w' : World} {P R N T base n F : Nat} {c : Nat → Int} {ops fails : Int} {S : Fd}
theorem step_any (h : Sys w P R N T base n c ops fails) (k : IsFd w F T S) (t : Nat → Int) (ht : ∀ i, c (base + i) = t i) (hi : FI n t S) :
    Calls Try.prog 13 #[.pointer (some ⟨F, 0, none⟩)] w fun e w' => e = .returned (.bool (decide ((S.nxt n (t S.slot)).st = 0))) ∧ ∃ c', Sys w' P R N T base n c' (opsOn ops S) (failsOn fails (t S.slot) S) ∧ (∀ i, c' (base + i) = S.after t i) ∧ (∀ j, j < base ∨ base + n ≤ j → c' j = c j) ∧ IsFd w' F T (S.nxt n (t S.slot)) ∧ Went (Foot P R F) w w' := by
  by_cases h0 : S.st = 0
  · refine (step_off k h0).mono ?_
    rintro e w ⟨rfl, rfl⟩
    have e1 : opsOn ops S = ops := by unfold opsOn; rw [if_pos h0]
    have e2 : failsOn fails (t S.slot) S = fails := by unfold failsOn; rw [if_neg (fun e => by omega)]
    rw [nxt_done _ h0, decide_eq_true h0, e1, e2, after_done t h0]
    exact ⟨rfl, c, h, ht, fun _ _ => rfl, k, Went.refl _ _⟩
  · obtain ⟨hl, _⟩ := hi.going h0
    have hs := hi.slot_lt h.pos hl
    refine (step_on h k hi.key h0 hl hi.left hs).mono ?_
    rw [ht]
    rintro e w' ⟨rfl, h1, k1, b1⟩
    refine ⟨rfl, _, h1, fun i => ?_, fun j hj => ?_, k1, b1⟩
    · unfold Fd.turn Fd.after
      rw [ht]
      split
      · unfold upd
        by_cases e : i = S.slot
        · rw [if_pos (by omega), if_pos e]
        · rw [if_neg (by omega), if_neg e, ht]
      · exact ht i
    · unfold Fd.turn
      split
      · exact upd_other _ _ (by omega)
      · rfl
end

theorem far {B : Nat} {a b d : World} (h : Below B a b) (k : Below b.heap.size b d) (hB : B ≤ b.heap.size) : Below B a d :=
  h.trans ⟨k.os, k.tape, k.output, k.size, fun i hi => k.block i (by omega)⟩

/-- What is so in the first look at the beginning of its rounds, g of them left. -/
def Looked (g : Nat) (t : Nat → Int) (A B : Fd) : Prop :=
  (g = 3 ∧ t = (fun _ => 0) ∧ A = Fd.start 4 9 ∧ B = Fd.start 4 9) ∨
  (g = 2 ∧ t = (fun _ => 0) ∧ A = (Fd.start 4 9).to 2 ∧ B = (Fd.start 4 9).to 2) ∨
  (g = 1 ∧ t = upd (fun _ => 0) (home 9 4) 9 ∧ A = (Fd.start 4 9).put ∧ B = (Fd.start 4 9).to 3) ∨
  (g = 0 ∧ t = upd (fun _ => 0) (home 9 4) 9 ∧ A = (Fd.start 4 9).put ∧ B = (Fd.start 4 9).over)

theorem looked_on {g : Nat} {t : Nat → Int} {A B : Fd} (h : Looked (g + 1) t A B) :
    Looked g (B.after (A.after t)) (A.nxt 4 (t A.slot)) (B.nxt 4 (A.after t B.slot)) ∧ ¬ B.st = 0 := by
  rcases h with ⟨e, rfl, rfl, rfl⟩ | ⟨e, rfl, rfl, rfl⟩ | ⟨e, rfl, rfl, rfl⟩ | ⟨e, _⟩
  · obtain rfl : g = 2 := by omega
    refine ⟨.inr (.inl ⟨rfl, ?_, ?_, ?_⟩), by decide⟩ <;> simp [Fd.after, Fd.nxt, Fd.start, Fd.to]
  · obtain rfl : g = 1 := by omega
    refine ⟨.inr (.inr (.inl ⟨rfl, ?_, ?_, ?_⟩)), by decide⟩ <;> simp [Fd.after, Fd.nxt, Fd.start, Fd.to, Fd.put, upd]
  · obtain rfl : g = 0 := by omega
    refine ⟨.inr (.inr (.inr ⟨rfl, ?_, ?_, ?_⟩)), by decide⟩ <;> simp [Fd.after, Fd.nxt, Fd.start, Fd.to, Fd.put, Fd.over, upd]
  · omega

end Go.Proofs.Ytnekhfpccmnaiaa
