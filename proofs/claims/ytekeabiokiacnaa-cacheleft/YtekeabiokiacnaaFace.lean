/-
  What each call of package cache's face does: Step, Put, Get, Cells, New; an act run to its end.
-/
import Derived.Test.YtekeabiokiacnaaRead
import Derived.Test.YtekeabiokiacnaaHome
namespace Go.Proofs.Ytekeabiokiacnaa
open Go Go.RowKit
attribute [local go_sem] run_store_nil run_store_func

section
variable {w w' : World} {P R N T base n A : Nat} {c : Nat → Int} {ops fails : Int} {S : Ac}

theorem Fit.cellLe (f : Fit N S) (h : S.st = 3) : S.cell ≤ 3 := (f.cell (.inl h)).2
/-- What the call behind an act's next does. -/
theorem next_any (h : Sys w P R N T base n c ops fails) (k : IsAct w A P S) (f : Fit N S) (h0 : ¬ S.st = 0) (q : Nat) (hq : q = nextF S.st) :
    Calls Try.prog q #[.pointer (some ⟨A, 0, none⟩)] w fun e w' => e = .returned (.tuple #[]) ∧ (∃ f', Sys w' P R N T base n (S.after c) (wrap64 (ops + 1)) f') ∧ IsAct w' A P (S.nxt c) ∧ Went (Foot P R A) w w' := by
  subst hq
  rcases six f.st with e | e | e | e | e | e
  · exact absurd e h0
  · have eq : nextF S.st = 24 := by rw [e]; rfl
    rw [eq, nxt1 e, after_same (fun q => by omega) (by omega)]
    refine (look_any h k f).mono ?_
    rintro _ w1 ⟨rfl, h1, k1, b1⟩
    exact ⟨rfl, ⟨_, h1⟩, k1, b1⟩
  · have eq : nextF S.st = 34 := by rw [e]; rfl
    rw [eq, nxt2 e]
    by_cases hx : c S.first = S.was
    · rw [if_pos hx, after2 e hx]
      refine (claim_hit h k f hx).mono ?_
      rintro _ w1 ⟨rfl, h1, k1, b1⟩
      exact ⟨rfl, ⟨_, h1⟩, k1, b1⟩
    · rw [if_neg hx, after_same (fun _ => hx) (by omega)]
      refine (claim_miss h k f hx).mono ?_
      rintro _ w1 ⟨rfl, h1, k1, b1⟩
      exact ⟨rfl, ⟨_, h1⟩, k1, b1⟩
  · have eq : nextF S.st = 43 := by rw [e]; rfl
    rw [eq, nxt3 e, after3 e]
    refine (write_any h k f S.cell (f.cellLe e) rfl).mono ?_
    rw [e]
    rintro _ w1 ⟨rfl, h1, k1, b1⟩
    exact ⟨rfl, ⟨_, h1⟩, k1, b1⟩
  · have eq : nextF S.st = 25 := by rw [e]; rfl
    rw [eq, nxt4 e, after_same (fun q => by omega) (by omega)]
    refine (open_any h k f).mono ?_
    rintro _ w1 ⟨rfl, h1, k1, b1⟩
    exact ⟨rfl, ⟨_, h1⟩, k1, b1⟩
  · have eq : nextF S.st = 35 := by rw [e]; rfl
    rw [eq, after_same (fun q => by omega) (by omega)]
    refine (read_any h k f e).mono ?_
    rintro _ w1 ⟨rfl, h1, k1, b1⟩
    exact ⟨rfl, ⟨_, h1⟩, k1, b1⟩

/-- A step of an act that is under way. -/
theorem step_on (h : Sys w P R N T base n c ops fails) (k : IsAct w A P S) (f : Fit N S) (h0 : ¬ S.st = 0) :
    Calls Try.prog 15 #[.pointer (some ⟨A, 0, none⟩)] w fun e w' => e = .returned (.bool (decide ((S.nxt c).st = 0))) ∧ (∃ f', Sys w' P R N T base n (S.after c) (wrap64 (ops + 1)) f') ∧ IsAct w' A P (S.nxt c) ∧ Went (Foot P R A) w w' := by
  have K1 := done_any k
  rw [decide_eq_false h0] at K1
  have c9 := k.f9
  unfold nextV at c9
  rw [if_neg h0] at c9
  obtain ⟨q, hq⟩ : ∃ q : Nat, q = nextF S.st := ⟨_, rfl⟩
  have K2 := next_any h k f h0 q hq
  rw [← hq] at c9
  have hf5 : q = 24 ∨ q = 34 ∨ q = 43 ∨ q = 25 ∨ q = 35 := by
    rw [hq]
    rcases six f.st with e | e | e | e | e | e
    · exact absurd e h0
    · rw [e]; exact .inl rfl
    · rw [e]; exact .inr (.inl rfl)
    · rw [e]; exact .inr (.inr (.inl rfl))
    · rw [e]; exact .inr (.inr (.inr (.inl rfl)))
    · rw [e]; exact .inr (.inr (.inr (.inr rfl)))
  clear hq h0
  generalize S.nxt c = S' at K2
  rcases hf5 with rfl | rfl | rfl | rfl | rfl
  · go_enter Try.func15, Try.ntmps15
    go_wp2_with (first
      | (go_at_call 13; refine K1.mono ?_; clear K1; rintro e w1 ⟨rfl, rfl⟩)
      | (go_at_call 24; refine K2.mono ?_; clear K2; rintro e w2 ⟨rfl, h2, k2, b2⟩; have K1 := done_any k2))
    go_ret
    exact ⟨rfl, h2, k2, b2⟩
  · go_enter Try.func15, Try.ntmps15
    go_wp2_with (first
      | (go_at_call 13; refine K1.mono ?_; clear K1; rintro e w1 ⟨rfl, rfl⟩)
      | (go_at_call 34; refine K2.mono ?_; clear K2; rintro e w2 ⟨rfl, h2, k2, b2⟩; have K1 := done_any k2))
    go_ret
    exact ⟨rfl, h2, k2, b2⟩
  · go_enter Try.func15, Try.ntmps15
    go_wp2_with (first
      | (go_at_call 13; refine K1.mono ?_; clear K1; rintro e w1 ⟨rfl, rfl⟩)
      | (go_at_call 43; refine K2.mono ?_; clear K2; rintro e w2 ⟨rfl, h2, k2, b2⟩; have K1 := done_any k2))
    go_ret
    exact ⟨rfl, h2, k2, b2⟩
  · go_enter Try.func15, Try.ntmps15
    go_wp2_with (first
      | (go_at_call 13; refine K1.mono ?_; clear K1; rintro e w1 ⟨rfl, rfl⟩)
      | (go_at_call 25; refine K2.mono ?_; clear K2; rintro e w2 ⟨rfl, h2, k2, b2⟩; have K1 := done_any k2))
    go_ret
    exact ⟨rfl, h2, k2, b2⟩
  · go_enter Try.func15, Try.ntmps15
    go_wp2_with (first
      | (go_at_call 13; refine K1.mono ?_; clear K1; rintro e w1 ⟨rfl, rfl⟩)
      | (go_at_call 35; refine K2.mono ?_; clear K2; rintro e w2 ⟨rfl, h2, k2, b2⟩; have K1 := done_any k2))
    go_ret
    exact ⟨rfl, h2, k2, b2⟩
/-- A step of one that is done. -/
theorem step_off (k : IsAct w A P S) (h0 : S.st = 0) :
    Calls Try.prog 15 #[.pointer (some ⟨A, 0, none⟩)] w fun e w' => e = .returned (.bool true) ∧ w' = w := by
  have K1 := done_any k
  rw [decide_eq_true h0] at K1
  have K2 := K1
  clear h0
  go_enter Try.func15, Try.ntmps15
  go_wp2_with (first
    | (go_at_call 13; refine K1.mono ?_; clear K1; rintro e w1 ⟨rfl, rfl⟩)
    | (go_at_call 13; refine K2.mono ?_; clear K2; rintro e w1 ⟨rfl, rfl⟩))
  go_ret
  exact ⟨rfl, rfl⟩
theorem after0 (h : S.st = 0) : S.after c = c := after_same (fun q => by omega) (by omega)
/-- A step, be it done or not. -/
theorem step_any (h : Sys w P R N T base n c ops fails) (k : IsAct w A P S) (f : Fit N S) :
    Calls Try.prog 15 #[.pointer (some ⟨A, 0, none⟩)] w fun e w' => e = .returned (.bool (decide ((S.nxt c).st = 0))) ∧ (∃ o' f', Sys w' P R N T base n (S.after c) o' f') ∧ IsAct w' A P (S.nxt c) ∧ Went (Foot P R A) w w' := by
  by_cases h0 : S.st = 0
  · rw [nxt0 h0, after0 h0, decide_eq_true h0]
    refine (step_off k h0).mono ?_
    rintro _ w1 ⟨rfl, rfl⟩
    exact ⟨rfl, ⟨_, _, h⟩, k, Went.refl _ _⟩
  · refine (step_on h k f h0).mono ?_
    rintro _ w1 ⟨rfl, ⟨f', h1⟩, k1, b1⟩
    exact ⟨rfl, ⟨_, _, h1⟩, k1, b1⟩

/-- An act run to its end. -/
theorem run_any (h : Sys w P R N T base n c ops fails) (k : IsAct w A P S) (f : Fit N S) :
    Calls Try.prog 17 #[.pointer (some ⟨A, 0, none⟩)] w fun e w' => e = .returned (.tuple #[.int .u64 (runs 16 c S).2.told, .bool (runs 16 c S).2.found]) ∧ (∃ o' f', Sys w' P R N T base n (runs 16 c S).1 o' f') ∧ Went (Foot P R A) w w' := by
  obtain ⟨X, hX⟩ : ∃ X, runs 16 c S = X := ⟨_, rfl⟩
  have hXA : Aside (runs 16 c S = X) := hX
  rw [hX]
  clear hX
  go_enter Try.func17, Try.ntmps17
  go_wp2_with fail
  go_loopg [4] 16 (fun g si wr => ∃ (i : Nat) (c' : Nat → Int) (S' : Ac), i + g = 16 ∧ si = .int .i64 (i : Int) ∧ Aside (runs g c' S' = X) ∧ Fit N S' ∧ (∃ o' f', Sys wr P R N T base n c' o' f') ∧ IsAct wr A P S' ∧ Went (Foot P R A) w wr)
  case atStart => exact ⟨0, c, S, rfl, rfl, hXA, f, ⟨_, _, h⟩, k, Went.refl _ _⟩
  case round =>
    obtain ⟨i, c', S', hi, rfl, hr, F, ⟨o', f', H⟩, K, M⟩ := hrel
    have hI : Aside (i + gk = 16) := hi
    clear h k f hXA
    by_cases hil : i < 16
    · obtain ⟨g, rfl⟩ : ∃ g, gk = g + 1 := ⟨gk - 1, by omega⟩
      have hil' : (i : Int) < 16 := by omega
      clear hi
      have Ks := step_any H K F
      have hr2 : Aside (runs g (S'.after c') (S'.nxt c') = X) := by
        simp only [Aside]
        by_cases e : S'.st = 0
        · rw [nxt0 e, after0 e, runs_done _ _ e]
          have := hr.out
          rw [runs_done _ _ e] at this
          exact this
        · have := hr.out
          rw [runs_step _ _ e] at this
          exact this
      have F2 : Fit N (S'.nxt c') := F.step H.fit
      generalize S'.nxt c' = S2 at Ks hr2 F2
      generalize S'.after c' = c2 at Ks hr2
      by_cases hd : S2.st = 0
      · rw [decide_eq_true hd] at Ks
        have hrX : Aside ((c2, S2) = X) := by
          simp only [Aside]
          have := hr2.out
          rw [runs_done _ _ hd] at this
          exact this
        clear hd
        go_wp2_with (first
          | (go_at_call 15; refine Ks.mono ?_; clear Ks; rintro e w1 ⟨rfl, ⟨o1, f1, h1⟩, k1, b1⟩; have Kg := got_any k1 F2.h)
          | (go_at_call 16; refine Kg.mono ?_; clear Kg; rintro e w2 ⟨rfl, q, rfl⟩))
        go_ret2
        have e := hrX.out
        subst e
        exact ⟨rfl, ⟨_, _, h1.drewN q⟩, (M.trans b1).trans (Went.drawn _ _ _)⟩
      · rw [decide_eq_false hd] at Ks
        clear hd
        go_wp2_with (first
          | (go_at_call 15; refine Ks.mono ?_; clear Ks; rintro e w1 ⟨rfl, h1, k1, b1⟩))
        go_roundg g
        case measure => omega
        case rel => exact ⟨i + 1, c2, S2, (by have := hI.out; omega), rfl, hr2, F2, h1, k1, M.trans b1⟩
    · obtain rfl : i = 16 := by omega
      obtain rfl : gk = 0 := by omega
      clear hil hi
      have Kg := got_any K F.h
      go_wp2_with (first
        | (go_at_call 16; refine Kg.mono ?_; clear Kg; rintro e w2 ⟨rfl, q, rfl⟩))
      go_ret2
      have e := hr.out
      subst e
      exact ⟨rfl, ⟨_, _, H.drewN q⟩, M.trans (Went.drawn _ _ _)⟩
end
end Go.Proofs.Ytekeabiokiacnaa
