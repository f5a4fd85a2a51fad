/-
  What each call of package cache's face does: Step, Put, Get, Cells, New; an act run to its end.
-/
import Derived.Test.YtdmfbfbebcneeaaChRead
import Derived.Test.YtdmfbfbebcneeaaHome
namespace Go.Proofs.Ytdmfbfbebcneeaa.Ch
open Go Go.RowKit
attribute [local go_sem] run_store_nil run_store_func

section
variable {w w' : World} {P R N T base n A : Nat} {c : Nat → Int} {ops fails : Int} {S : Ac}

theorem Fit.cellLe (f : Fit N S) (h : S.st = 3) : S.cell ≤ 3 := (f.cell (.inl h)).2
/-- What the call behind an act's next does. -/
theorem next_any (h : Sys w P R N T base n c ops fails) (k : IsAct w A P S) (f : Fit N S) (h0 : ¬ S.st = 0) (q : Nat) (hq : q = nextF S.st) :
    Calls Try.prog q #[.pointer (some ⟨A, 0, none⟩)] w fun e w' => e = .returned (.tuple #[]) ∧ (∃ f', Sys w' P R N T base n (S.after c) (wrap64 (ops + 1)) f') ∧ IsAct w' A P (S.nxt c) ∧ Went (Foot P R A) w w' := by
  subst hq
  rcases six f.st with e | e | e | e | e | e
  · exact absurd e h0
  · have eq : nextF S.st = 81 := by rw [e]; rfl
    rw [eq, nxt1 e, after_same (fun q => by omega) (by omega)]
    refine (look_any h k f).mono ?_
    rintro _ w1 ⟨rfl, h1, k1, b1⟩
    exact ⟨rfl, ⟨_, h1⟩, k1, b1⟩
  · have eq : nextF S.st = 89 := by rw [e]; rfl
    rw [eq, nxt2 e]
    by_cases hx : c S.first = S.was
    · rw [if_pos hx, after2 e hx]
      refine (claim_hit h k f hx).mono ?_
      rintro _ w1 ⟨rfl, h1, k1, b1⟩
      exact ⟨rfl, ⟨_, h1⟩, k1, b1⟩
    · rw [if_neg hx, after_same (fun _ => hx) (by omega)]
      refine (claim_miss h k f hx).mono ?_
      rintro _ w1 ⟨rfl, h1, k1, b1⟩
      exact ⟨rfl, ⟨_, h1⟩, k1, b1⟩
  · have eq : nextF S.st = 97 := by rw [e]; rfl
    rw [eq, nxt3 e, after3 e]
    refine (write_any h k f S.cell (f.cellLe e) rfl).mono ?_
    rw [e]
    rintro _ w1 ⟨rfl, h1, k1, b1⟩
    exact ⟨rfl, ⟨_, h1⟩, k1, b1⟩
  · have eq : nextF S.st = 72 := by rw [e]; rfl
    rw [eq, nxt4 e, after_same (fun q => by omega) (by omega)]
    refine (open_any h k f).mono ?_
    rintro _ w1 ⟨rfl, h1, k1, b1⟩
    exact ⟨rfl, ⟨_, h1⟩, k1, b1⟩
  · have eq : nextF S.st = 85 := by rw [e]; rfl
    rw [eq, after_same (fun q => by omega) (by omega)]
    refine (read_any h k f e).mono ?_
    rintro _ w1 ⟨rfl, h1, k1, b1⟩
    exact ⟨rfl, ⟨_, h1⟩, k1, b1⟩

/-- A step of an act that is under way. -/
theorem step_on (h : Sys w P R N T base n c ops fails) (k : IsAct w A P S) (f : Fit N S) (h0 : ¬ S.st = 0) :
    Calls Try.prog 59 #[.pointer (some ⟨A, 0, none⟩)] w fun e w' => e = .returned (.bool (decide ((S.nxt c).st = 0))) ∧ (∃ f', Sys w' P R N T base n (S.after c) (wrap64 (ops + 1)) f') ∧ IsAct w' A P (S.nxt c) ∧ Went (Foot P R A) w w' := by
  have K1 := done_any k
  rw [decide_eq_false h0] at K1
  have c9 := k.f9
  unfold nextV at c9
  rw [if_neg h0] at c9
  obtain ⟨q, hq⟩ : ∃ q : Nat, q = nextF S.st := ⟨_, rfl⟩
  have K2 := next_any h k f h0 q hq
  rw [← hq] at c9
  have hf5 : q = 81 ∨ q = 89 ∨ q = 97 ∨ q = 72 ∨ q = 85 := by
    rw [hq]
    rcases six f.st with e | e | e | e | e | e
    · exact absurd e h0
    · rw [e]; exact .inl rfl
    · rw [e]; exact .inr (.inl rfl)
    · rw [e]; exact .inr (.inr (.inl rfl))
    · rw [e]; exact .inr (.inr (.inr (.inl rfl)))
    · rw [e]; exact .inr (.inr (.inr (.inr rfl)))
  clear hq h0
  generalize S.nxt c = S' at K2
  rcases hf5 with rfl | rfl | rfl | rfl | rfl
  · go_enter Try.func59, Try.ntmps59
    go_wp2_with (first
      | (go_at_call 73; refine K1.mono ?_; clear K1; rintro e w1 ⟨rfl, rfl⟩)
      | (go_at_call 81; refine K2.mono ?_; clear K2; rintro e w2 ⟨rfl, h2, k2, b2⟩; have K1 := done_any k2))
    go_ret
    exact ⟨rfl, h2, k2, b2⟩
  · go_enter Try.func59, Try.ntmps59
    go_wp2_with (first
      | (go_at_call 73; refine K1.mono ?_; clear K1; rintro e w1 ⟨rfl, rfl⟩)
      | (go_at_call 89; refine K2.mono ?_; clear K2; rintro e w2 ⟨rfl, h2, k2, b2⟩; have K1 := done_any k2))
    go_ret
    exact ⟨rfl, h2, k2, b2⟩
  · go_enter Try.func59, Try.ntmps59
    go_wp2_with (first
      | (go_at_call 73; refine K1.mono ?_; clear K1; rintro e w1 ⟨rfl, rfl⟩)
      | (go_at_call 97; refine K2.mono ?_; clear K2; rintro e w2 ⟨rfl, h2, k2, b2⟩; have K1 := done_any k2))
    go_ret
    exact ⟨rfl, h2, k2, b2⟩
  · go_enter Try.func59, Try.ntmps59
    go_wp2_with (first
      | (go_at_call 73; refine K1.mono ?_; clear K1; rintro e w1 ⟨rfl, rfl⟩)
      | (go_at_call 72; refine K2.mono ?_; clear K2; rintro e w2 ⟨rfl, h2, k2, b2⟩; have K1 := done_any k2))
    go_ret
    exact ⟨rfl, h2, k2, b2⟩
  · go_enter Try.func59, Try.ntmps59
    go_wp2_with (first
      | (go_at_call 73; refine K1.mono ?_; clear K1; rintro e w1 ⟨rfl, rfl⟩)
      | (go_at_call 85; refine K2.mono ?_; clear K2; rintro e w2 ⟨rfl, h2, k2, b2⟩; have K1 := done_any k2))
    go_ret
    exact ⟨rfl, h2, k2, b2⟩
/-- A step of one that is done. -/
theorem step_off (k : IsAct w A P S) (h0 : S.st = 0) :
    Calls Try.prog 59 #[.pointer (some ⟨A, 0, none⟩)] w fun e w' => e = .returned (.bool true) ∧ w' = w := by
  have K1 := done_any k
  rw [decide_eq_true h0] at K1
  have K2 := K1
  clear h0
  go_enter Try.func59, Try.ntmps59
  go_wp2_with (first
    | (go_at_call 73; refine K1.mono ?_; clear K1; rintro e w1 ⟨rfl, rfl⟩)
    | (go_at_call 73; refine K2.mono ?_; clear K2; rintro e w1 ⟨rfl, rfl⟩))
  go_ret
  exact ⟨rfl, rfl⟩
theorem after0 (h : S.st = 0) : S.after c = c := after_same (fun q => by omega) (by omega)
/-- A step, be it done or not. -/
theorem step_any (h : Sys w P R N T base n c ops fails) (k : IsAct w A P S) (f : Fit N S) :
    Calls Try.prog 59 #[.pointer (some ⟨A, 0, none⟩)] w fun e w' => e = .returned (.bool (decide ((S.nxt c).st = 0))) ∧ (∃ o' f', Sys w' P R N T base n (S.after c) o' f') ∧ IsAct w' A P (S.nxt c) ∧ Went (Foot P R A) w w' := by
  by_cases h0 : S.st = 0
  · rw [nxt0 h0, after0 h0, decide_eq_true h0]
    refine (step_off k h0).mono ?_
    rintro _ w1 ⟨rfl, rfl⟩
    exact ⟨rfl, ⟨_, _, h⟩, k, Went.refl _ _⟩
  · refine (step_on h k f h0).mono ?_
    rintro _ w1 ⟨rfl, ⟨f', h1⟩, k1, b1⟩
    exact ⟨rfl, ⟨_, _, h1⟩, k1, b1⟩

end
end Go.Proofs.Ytdmfbfbebcneeaa.Ch
