/-
  What Step does; an act run to its end.
-/
import Derived.Test.YtfpgdmnbehingaaSteps
namespace Go.Proofs.Ytfpgdmnbehingaa
open Go Go.RowKit

section
variable {w w' : World} {P R N T b n A : Nat} {c : Nat → Int} {ops fails : Int} {S : Ac}
/-- What the call behind an act's next does. -/
theorem next_any (h : Sys w P R N T b n c ops fails) (k : IsAct w A T S) (f : Fit S) (h0 : ¬ S.st = 0) (q : Nat) (hq : q = nextF S.st) :
    Calls Try.prog q #[.pointer (some ⟨A, 0, none⟩)] w fun e w' => e = .returned (.tuple #[]) ∧ (∃ f', Sys w' P R N T b n (S.after b n c) (wrap64 (ops + 1)) f') ∧ IsAct w' A T (S.nxt b n c) ∧ Went (Foot P R A) w w' := by
  subst hq
  rcases fourteen f.st with e | e | e | e | e | e | e | e | e | e | e | e | e | e
  · exact absurd e h0
  · have eq : nextF S.st = 25 := by rw [e]; rfl
    rw [eq, nxt1 e, after_same (.inr (.inl e))]
    refine (askEnd_any h k).mono ?_
    rintro _ w1 ⟨rfl, h1, k1, b1⟩
    exact ⟨rfl, ⟨_, h1⟩, k1, b1⟩
  · have eq : nextF S.st = 34 := by rw [e]; rfl
    rw [eq, nxt2 e, after_same (.inr (.inr (.inl e)))]
    refine (askRoom_any h k).mono ?_
    rintro _ w1 ⟨rfl, h1, k1, b1⟩
    exact ⟨rfl, ⟨_, h1⟩, k1, b1⟩
  · have eq : nextF S.st = 43 := by rw [e]; rfl
    rw [eq, nxt3 e, after3 e]
    refine (fill_any h k f).mono ?_
    rintro _ w1 ⟨rfl, h1, k1, b1⟩
    exact ⟨rfl, ⟨_, h1⟩, k1, b1⟩
  · have eq : nextF S.st = 52 := by rw [e]; rfl
    rw [eq, nxt4 e, after4 e]
    refine (show_any h k).mono ?_
    rintro _ w1 ⟨rfl, h1, k1, b1⟩
    exact ⟨rfl, ⟨_, h1⟩, k1, b1⟩
  · have eq : nextF S.st = 26 := by rw [e]; rfl
    rw [eq, nxt5 e, after5 e]
    refine (lower_any h k).mono ?_
    rintro _ w1 ⟨rfl, h1, k1, b1⟩
    exact ⟨rfl, ⟨_, h1⟩, k1, b1⟩
  · have eq : nextF S.st = 36 := by rw [e]; rfl
    rw [eq, nxt6 e, after_same (.inr (.inr (.inr (.inl e))))]
    refine (askFirst_any h k).mono ?_
    rintro _ w1 ⟨rfl, h1, k1, b1⟩
    exact ⟨rfl, ⟨_, h1⟩, k1, b1⟩
  · have eq : nextF S.st = 46 := by rw [e]; rfl
    rw [eq, nxt7 e, after_same (.inr (.inr (.inr (.inr (.inl e)))))]
    refine (take_any h k f).mono ?_
    rintro _ w1 ⟨rfl, h1, k1, b1⟩
    exact ⟨rfl, ⟨_, h1⟩, k1, b1⟩
  · have eq : nextF S.st = 54 := by rw [e]; rfl
    rw [eq, nxt8 e, after8 e]
    by_cases hx : c b = S.first
    · rw [if_pos hx, if_pos hx]
      refine (contend_hit h k hx).mono ?_
      rintro _ w1 ⟨rfl, h1, k1, b1⟩
      exact ⟨rfl, ⟨_, h1⟩, k1, b1⟩
    · rw [if_neg hx, if_neg hx]
      refine (contend_miss h k hx).mono ?_
      rintro _ w1 ⟨rfl, h1, k1, b1⟩
      exact ⟨rfl, ⟨_, h1⟩, k1, b1⟩
  · have eq : nextF S.st = 45 := by rw [e]; rfl
    rw [eq, nxt9 e, after9 e]
    refine (raise_any h k).mono ?_
    rintro _ w1 ⟨rfl, h1, k1, b1⟩
    exact ⟨rfl, ⟨_, h1⟩, k1, b1⟩
  · have eq : nextF S.st = 27 := by rw [e]; rfl
    rw [eq, nxt10 e, after_same (.inr (.inr (.inr (.inr (.inr (.inl e))))))]
    refine (reach_any h k).mono ?_
    rintro _ w1 ⟨rfl, h1, k1, b1⟩
    exact ⟨rfl, ⟨_, h1⟩, k1, b1⟩
  · have eq : nextF S.st = 37 := by rw [e]; rfl
    rw [eq, nxt11 e, after_same (.inr (.inr (.inr (.inr (.inr (.inr (.inl e)))))))]
    refine (look_any h k).mono ?_
    rintro _ w1 ⟨rfl, h1, k1, b1⟩
    exact ⟨rfl, ⟨_, h1⟩, k1, b1⟩
  · have eq : nextF S.st = 47 := by rw [e]; rfl
    rw [eq, nxt12 e, after_same (.inr (.inr (.inr (.inr (.inr (.inr (.inr e)))))))]
    refine (fetch_any h k f).mono ?_
    rintro _ w1 ⟨rfl, h1, k1, b1⟩
    exact ⟨rfl, ⟨_, h1⟩, k1, b1⟩
  · have eq : nextF S.st = 55 := by rw [e]; rfl
    rw [eq, nxt13 e, after13 e]
    by_cases hx : c b = S.first
    · rw [if_pos hx, if_pos hx]
      refine (claim_hit h k hx).mono ?_
      rintro _ w1 ⟨rfl, h1, k1, b1⟩
      exact ⟨rfl, ⟨_, h1⟩, k1, b1⟩
    · rw [if_neg hx, if_neg hx]
      refine (claim_miss h k hx (f.steal (by omega)) f.left).mono ?_
      rintro _ w1 ⟨rfl, h1, k1, b1⟩
      exact ⟨rfl, ⟨_, h1⟩, k1, b1⟩
set_option maxHeartbeats 4000000 in
/-- A step of an act that is under way. -/
theorem step_on (h : Sys w P R N T b n c ops fails) (k : IsAct w A T S) (f : Fit S) (h0 : ¬ S.st = 0) :
    Calls Try.prog 19 #[.pointer (some ⟨A, 0, none⟩)] w fun e w' => e = .returned (.bool (decide ((S.nxt b n c).st = 0))) ∧ (∃ f', Sys w' P R N T b n (S.after b n c) (wrap64 (ops + 1)) f') ∧ IsAct w' A T (S.nxt b n c) ∧ Went (Foot P R A) w w' := by
  have K1 := done_any k
  rw [decide_eq_false h0] at K1
  have c9 := k.f5
  unfold nextV at c9
  rw [if_neg h0] at c9
  obtain ⟨q, hq⟩ : ∃ q : Nat, q = nextF S.st := ⟨_, rfl⟩
  have K2 := next_any h k f h0 q hq
  rw [← hq] at c9
  have hf5 : q = 25 ∨ q = 34 ∨ q = 43 ∨ q = 52 ∨ q = 26 ∨ q = 36 ∨ q = 46 ∨ q = 54 ∨ q = 45 ∨ q = 27 ∨ q = 37 ∨ q = 47 ∨ q = 55 := by
    rw [hq]
    rcases fourteen f.st with e | e | e | e | e | e | e | e | e | e | e | e | e | e
    · exact absurd e h0
    all_goals
      rw [e]
      decide
  clear hq h0
  generalize S.nxt b n c = S' at K2
  rcases hf5 with rfl | rfl | rfl | rfl | rfl | rfl | rfl | rfl | rfl | rfl | rfl | rfl | rfl
  · go_enter Try.func19, Try.ntmps19
    go_wp2_with (first
      | (go_at_call 21; refine K1.mono ?_; clear K1; rintro e w1 ⟨rfl, rfl⟩)
      | (go_at_call 25; refine K2.mono ?_; clear K2; rintro e w2 ⟨rfl, h2, k2, b2⟩; have K1 := done_any k2))
    go_ret
    exact ⟨rfl, h2, k2, b2⟩
  · go_enter Try.func19, Try.ntmps19
    go_wp2_with (first
      | (go_at_call 21; refine K1.mono ?_; clear K1; rintro e w1 ⟨rfl, rfl⟩)
      | (go_at_call 34; refine K2.mono ?_; clear K2; rintro e w2 ⟨rfl, h2, k2, b2⟩; have K1 := done_any k2))
    go_ret
    exact ⟨rfl, h2, k2, b2⟩
  · go_enter Try.func19, Try.ntmps19
    go_wp2_with (first
      | (go_at_call 21; refine K1.mono ?_; clear K1; rintro e w1 ⟨rfl, rfl⟩)
      | (go_at_call 43; refine K2.mono ?_; clear K2; rintro e w2 ⟨rfl, h2, k2, b2⟩; have K1 := done_any k2))
    go_ret
    exact ⟨rfl, h2, k2, b2⟩
  · go_enter Try.func19, Try.ntmps19
    go_wp2_with (first
      | (go_at_call 21; refine K1.mono ?_; clear K1; rintro e w1 ⟨rfl, rfl⟩)
      | (go_at_call 52; refine K2.mono ?_; clear K2; rintro e w2 ⟨rfl, h2, k2, b2⟩; have K1 := done_any k2))
    go_ret
    exact ⟨rfl, h2, k2, b2⟩
  · go_enter Try.func19, Try.ntmps19
    go_wp2_with (first
      | (go_at_call 21; refine K1.mono ?_; clear K1; rintro e w1 ⟨rfl, rfl⟩)
      | (go_at_call 26; refine K2.mono ?_; clear K2; rintro e w2 ⟨rfl, h2, k2, b2⟩; have K1 := done_any k2))
    go_ret
    exact ⟨rfl, h2, k2, b2⟩
  · go_enter Try.func19, Try.ntmps19
    go_wp2_with (first
      | (go_at_call 21; refine K1.mono ?_; clear K1; rintro e w1 ⟨rfl, rfl⟩)
      | (go_at_call 36; refine K2.mono ?_; clear K2; rintro e w2 ⟨rfl, h2, k2, b2⟩; have K1 := done_any k2))
    go_ret
    exact ⟨rfl, h2, k2, b2⟩
  · go_enter Try.func19, Try.ntmps19
    go_wp2_with (first
      | (go_at_call 21; refine K1.mono ?_; clear K1; rintro e w1 ⟨rfl, rfl⟩)
      | (go_at_call 46; refine K2.mono ?_; clear K2; rintro e w2 ⟨rfl, h2, k2, b2⟩; have K1 := done_any k2))
    go_ret
    exact ⟨rfl, h2, k2, b2⟩
  · go_enter Try.func19, Try.ntmps19
    go_wp2_with (first
      | (go_at_call 21; refine K1.mono ?_; clear K1; rintro e w1 ⟨rfl, rfl⟩)
      | (go_at_call 54; refine K2.mono ?_; clear K2; rintro e w2 ⟨rfl, h2, k2, b2⟩; have K1 := done_any k2))
    go_ret
    exact ⟨rfl, h2, k2, b2⟩
  · go_enter Try.func19, Try.ntmps19
    go_wp2_with (first
      | (go_at_call 21; refine K1.mono ?_; clear K1; rintro e w1 ⟨rfl, rfl⟩)
      | (go_at_call 45; refine K2.mono ?_; clear K2; rintro e w2 ⟨rfl, h2, k2, b2⟩; have K1 := done_any k2))
    go_ret
    exact ⟨rfl, h2, k2, b2⟩
  · go_enter Try.func19, Try.ntmps19
    go_wp2_with (first
      | (go_at_call 21; refine K1.mono ?_; clear K1; rintro e w1 ⟨rfl, rfl⟩)
      | (go_at_call 27; refine K2.mono ?_; clear K2; rintro e w2 ⟨rfl, h2, k2, b2⟩; have K1 := done_any k2))
    go_ret
    exact ⟨rfl, h2, k2, b2⟩
  · go_enter Try.func19, Try.ntmps19
    go_wp2_with (first
      | (go_at_call 21; refine K1.mono ?_; clear K1; rintro e w1 ⟨rfl, rfl⟩)
      | (go_at_call 37; refine K2.mono ?_; clear K2; rintro e w2 ⟨rfl, h2, k2, b2⟩; have K1 := done_any k2))
    go_ret
    exact ⟨rfl, h2, k2, b2⟩
  · go_enter Try.func19, Try.ntmps19
    go_wp2_with (first
      | (go_at_call 21; refine K1.mono ?_; clear K1; rintro e w1 ⟨rfl, rfl⟩)
      | (go_at_call 47; refine K2.mono ?_; clear K2; rintro e w2 ⟨rfl, h2, k2, b2⟩; have K1 := done_any k2))
    go_ret
    exact ⟨rfl, h2, k2, b2⟩
  · go_enter Try.func19, Try.ntmps19
    go_wp2_with (first
      | (go_at_call 21; refine K1.mono ?_; clear K1; rintro e w1 ⟨rfl, rfl⟩)
      | (go_at_call 55; refine K2.mono ?_; clear K2; rintro e w2 ⟨rfl, h2, k2, b2⟩; have K1 := done_any k2))
    go_ret
    exact ⟨rfl, h2, k2, b2⟩
/-- A step of one that is done. -/
theorem step_off (k : IsAct w A T S) (h0 : S.st = 0) :
    Calls Try.prog 19 #[.pointer (some ⟨A, 0, none⟩)] w fun e w' => e = .returned (.bool true) ∧ w' = w := by
  have K1 := done_any k
  rw [decide_eq_true h0] at K1
  have K2 := K1
  clear h0
  go_enter Try.func19, Try.ntmps19
  go_wp2_with (first
    | (go_at_call 21; refine K1.mono ?_; clear K1; rintro e w1 ⟨rfl, rfl⟩)
    | (go_at_call 21; refine K2.mono ?_; clear K2; rintro e w1 ⟨rfl, rfl⟩))
  go_ret
  exact ⟨rfl, rfl⟩
theorem after0 (h : S.st = 0) : S.after b n c = c := after_same (.inl h)
/-- A step, be it done or not. -/
theorem step_any (h : Sys w P R N T b n c ops fails) (k : IsAct w A T S) (f : Fit S) :
    Calls Try.prog 19 #[.pointer (some ⟨A, 0, none⟩)] w fun e w' => e = .returned (.bool (decide ((S.nxt b n c).st = 0))) ∧ (∃ o' f', Sys w' P R N T b n (S.after b n c) o' f') ∧ IsAct w' A T (S.nxt b n c) ∧ Went (Foot P R A) w w' := by
  by_cases h0 : S.st = 0
  · rw [nxt0 h0, after0 h0, decide_eq_true h0]
    refine (step_off k h0).mono ?_
    rintro _ w1 ⟨rfl, rfl⟩
    exact ⟨rfl, ⟨_, _, h⟩, k, Went.refl _ _⟩
  · refine (step_on h k f h0).mono ?_
    rintro _ w1 ⟨rfl, ⟨f', h1⟩, k1, b1⟩
    exact ⟨rfl, ⟨_, _, h1⟩, k1, b1⟩

/-- An act run to its end. -/
theorem run_any (h : Sys w P R N T b n c ops fails) (k : IsAct w A T S) (f : Fit S) :
    Calls Try.prog 12 #[.pointer (some ⟨A, 0, none⟩)] w fun e w' => e = .returned (.tuple #[.int .u64 (runs b n 16 c S).2.told, .bool (runs b n 16 c S).2.has]) ∧ (∃ o' f', Sys w' P R N T b n (runs b n 16 c S).1 o' f') ∧ Went (Foot P R A) w w' := by
  obtain ⟨X, hX⟩ : ∃ X, runs b n 16 c S = X := ⟨_, rfl⟩
  have hXA : Aside (runs b n 16 c S = X) := hX
  rw [hX]
  clear hX
  go_enter Try.func12, Try.ntmps12
  go_wp2_with fail
  go_loopg [4] 16 (fun g si wr => ∃ (i : Nat) (c' : Nat → Int) (S' : Ac), i + g = 16 ∧ si = .int .i64 (i : Int) ∧ Aside (runs b n g c' S' = X) ∧ Fit S' ∧ (∃ o' f', Sys wr P R N T b n c' o' f') ∧ IsAct wr A T S' ∧ Went (Foot P R A) w wr)
  case atStart => exact ⟨0, c, S, rfl, rfl, hXA, f, ⟨_, _, h⟩, k, Went.refl _ _⟩
  case round =>
    obtain ⟨i, c', S', hi, rfl, hr, F, ⟨o', f', H⟩, K, M⟩ := hrel
    have hI : Aside (i + gk = 16) := hi
    clear h k f hXA
    by_cases hil : i < 16
    · obtain ⟨g, rfl⟩ : ∃ g, gk = g + 1 := ⟨gk - 1, by omega⟩
      have hil' : (i : Int) < 16 := by omega
      clear hi
      have Ks := step_any H K F
      have hr2 : Aside (runs b n g (S'.after b n c') (S'.nxt b n c') = X) := by
        simp only [Aside]
        by_cases e : S'.st = 0
        · rw [nxt0 e, after0 e, runs_done _ _ e]
          have := hr.out
          rw [runs_done _ _ e] at this
          exact this
        · have := hr.out
          rw [runs_step _ _ e] at this
          exact this
      have F2 : Fit (S'.nxt b n c') := F.step H.fit
      generalize S'.nxt b n c' = S2 at Ks hr2 F2
      generalize S'.after b n c' = c2 at Ks hr2
      by_cases hd : S2.st = 0
      · rw [decide_eq_true hd] at Ks
        have hrX : Aside ((c2, S2) = X) := by
          simp only [Aside]
          have := hr2.out
          rw [runs_done _ _ hd] at this
          exact this
        clear hd
        go_wp2_with (first
          | (go_at_call 19; refine Ks.mono ?_; clear Ks; rintro e w1 ⟨rfl, ⟨o1, f1, h1⟩, k1, b1⟩; have Kg := got_any k1)
          | (go_at_call 20; refine Kg.mono ?_; clear Kg; rintro e w2 ⟨rfl, rfl⟩))
        go_ret2
        have e := hrX.out
        subst e
        exact ⟨rfl, ⟨_, _, h1⟩, M.trans b1⟩
      · rw [decide_eq_false hd] at Ks
        clear hd
        go_wp2_with (first
          | (go_at_call 19; refine Ks.mono ?_; clear Ks; rintro e w1 ⟨rfl, h1, k1, b1⟩))
        go_roundg g
        case measure => omega
        case rel => exact ⟨i + 1, c2, S2, (by have := hI.out; omega), rfl, hr2, F2, h1, k1, M.trans b1⟩
    · obtain rfl : i = 16 := by omega
      obtain rfl : gk = 0 := by omega
      clear hil hi
      have Kg := got_any K
      go_wp2_with (first
        | (go_at_call 20; refine Kg.mono ?_; clear Kg; rintro e w2 ⟨rfl, rfl⟩))
      go_ret2
      have e := hr.out
      subst e
      exact ⟨rfl, ⟨_, _, H⟩, M⟩
end
end Go.Proofs.Ytfpgdmnbehingaa
