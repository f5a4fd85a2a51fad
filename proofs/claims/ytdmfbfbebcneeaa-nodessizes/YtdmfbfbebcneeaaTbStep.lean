/-
  What each call of package utable's face does: New, Find, Step, Done, Slot, Made, At, Slots.
-/
import Derived.Test.YtdmfbfbebcneeaaTbClaim
import Derived.Test.YtdmfbfbebcneeaaHome
namespace Go.Proofs.Ytdmfbfbebcneeaa.Tb
open Go Go.RowKit
attribute [local go_sem] run_store_nil run_store_func

section
variable {w w' : World} {P R N T base n F : Nat} {c : Nat → Int} {ops fails : Int} {S : Fd}

theorem nil_nil (w : World) : (binOp .eql 1 .nilFunc .nilFunc).run Try.prog w = .ok (.bool true) w := by kernel_rfl
theorem fun_nil (fn : Fn) (x y : Array Value) (w : World) : (binOp .eql 1 (.func fn x y) .nilFunc).run Try.prog w = .ok (.bool false) w := by kernel_rfl

theorem done_any (k : IsFd w F T S) :
    Calls Try.prog 79 #[.pointer (some ⟨F, 0, none⟩)] w fun e w' => e = .returned (.bool (decide (S.st = 0))) ∧ w' = w := by
  have c4 := k.f4
  have q1 := nil_nil
  have q2 := fun_nil
  by_cases h0 : S.st = 0
  · rw [h0, next0] at c4
    rw [decide_eq_true h0]
    clear h0
    go_enter Try.func79, Try.ntmps79
    go_wp2
    go_ret
    exact ⟨rfl, rfl⟩
  · obtain ⟨fn, x, y, e⟩ : ∃ fn x y, nextV F S.st = .func fn x y := by
      unfold nextV
      rw [if_neg h0]
      split
      · exact ⟨_, _, _, rfl⟩
      · split <;> exact ⟨_, _, _, rfl⟩
    rw [e] at c4
    rw [decide_eq_false h0]
    clear h0 e
    go_enter Try.func79, Try.ntmps79
    go_wp2
    go_ret
    exact ⟨rfl, rfl⟩

/-- What a step makes of all cells. -/
def Fd.turn (base : Nat) (c : Nat → Int) (S : Fd) : Nat → Int := if S.st = 2 ∧ c (base + S.slot) = 0 then upd c (base + S.slot) S.key else c
def opsOn (ops : Int) (S : Fd) : Int := if S.st = 0 then ops else wrap64 (ops + 1)
def failsOn (fails : Int) (x : Int) (S : Fd) : Int := if S.st = 2 ∧ ¬ x = 0 then wrap64 (fails + 1) else fails

/-- What the call behind a finder's next does. -/
theorem next_any (h : Sys w P R N T base n c ops fails) (k : IsFd w F T S) (hk : ¬ S.key = 0) (h0 : ¬ S.st = 0) (hl : 0 < S.left) (hln : S.left ≤ n) (hs : S.slot < n) (f : Nat) (hf : f = if S.st = 1 then 87 else if S.st = 2 then 94 else 101) :
    Calls Try.prog f #[.pointer (some ⟨F, 0, none⟩)] w fun e w' => e = .returned (.tuple #[]) ∧ Sys w' P R N T base n (S.turn base c) (opsOn ops S) (failsOn fails (c (base + S.slot)) S) ∧ IsFd w' F T (S.nxt n (c (base + S.slot))) ∧ Went (Foot P R F) w w' := by
  have eo : opsOn ops S = wrap64 (ops + 1) := by unfold opsOn; rw [if_neg h0]
  rw [eo]
  by_cases h1 : S.st = 1
  · have e2 : S.turn base c = c := by unfold Fd.turn; rw [if_neg (fun e => by omega)]
    have e3 : failsOn fails (c (base + S.slot)) S = fails := by unfold failsOn; rw [if_neg (fun e => by omega)]
    have en : S.nxt n (c (base + S.slot)) = if c (base + S.slot) = S.key then S.over else if c (base + S.slot) = 0 then S.to 2 else S.passed n := by unfold Fd.nxt; rw [if_neg h0, if_pos h1]
    rw [e2, e3, en]
    rw [if_pos h1] at hf
    subst hf
    by_cases a : c (base + S.slot) = S.key
    · rw [if_pos a]; exact look_hit h k hs a
    · rw [if_neg a]
      by_cases b : c (base + S.slot) = 0
      · rw [if_pos b]; exact look_empty h k hs hk b
      · rw [if_neg b]; exact look_pass h k hs hl hln _ rfl b a
  · rw [if_neg h1] at hf
    by_cases h2 : S.st = 2
    · rw [if_pos h2] at hf
      subst hf
      have en : S.nxt n (c (base + S.slot)) = if c (base + S.slot) = 0 then S.put else S.to 3 := by unfold Fd.nxt; rw [if_neg h0, if_neg h1, if_pos h2]
      rw [en]
      by_cases b : c (base + S.slot) = 0
      · have e2 : S.turn base c = upd c (base + S.slot) S.key := by unfold Fd.turn; rw [if_pos ⟨h2, b⟩]
        have e3 : failsOn fails (c (base + S.slot)) S = fails := by unfold failsOn; rw [if_neg (fun e => e.2 b)]
        rw [if_pos b, e2, e3]; exact claim_hit h k hs b
      · have e2 : S.turn base c = c := by unfold Fd.turn; rw [if_neg (fun e => b e.2)]
        have e3 : failsOn fails (c (base + S.slot)) S = wrap64 (fails + 1) := by unfold failsOn; rw [if_pos ⟨h2, b⟩]
        rw [if_neg b, e2, e3]; exact claim_miss h k hs b
    · rw [if_neg h2] at hf
      subst hf
      have e2 : S.turn base c = c := by unfold Fd.turn; rw [if_neg (fun e => h2 e.1)]
      have e3 : failsOn fails (c (base + S.slot)) S = fails := by unfold failsOn; rw [if_neg (fun e => h2 e.1)]
      have en : S.nxt n (c (base + S.slot)) = if c (base + S.slot) = S.key then S.over else S.passed n := by unfold Fd.nxt; rw [if_neg h0, if_neg h1, if_neg h2]
      rw [e2, e3, en]
      by_cases a : c (base + S.slot) = S.key
      · rw [if_pos a]; exact yield_hit h k hs a
      · rw [if_neg a]; exact yield_pass h k hs hl hln _ rfl a

/-- A step of a finder that is under way. -/
theorem step_on (h : Sys w P R N T base n c ops fails) (k : IsFd w F T S) (hk : ¬ S.key = 0) (h0 : ¬ S.st = 0) (hl : 0 < S.left) (hln : S.left ≤ n) (hs : S.slot < n) :
    Calls Try.prog 63 #[.pointer (some ⟨F, 0, none⟩)] w fun e w' => e = .returned (.bool (decide ((S.nxt n (c (base + S.slot))).st = 0))) ∧ Sys w' P R N T base n (S.turn base c) (opsOn ops S) (failsOn fails (c (base + S.slot)) S) ∧ IsFd w' F T (S.nxt n (c (base + S.slot))) ∧ Went (Foot P R F) w w' := by
  have K1 := done_any k
  rw [decide_eq_false h0] at K1
  have c4 := k.f4
  obtain ⟨f, hf⟩ : ∃ f : Nat, f = if S.st = 1 then 87 else if S.st = 2 then 94 else 101 := ⟨_, rfl⟩
  have e4 : nextV F S.st = .func (.func f) #[.pointer (some ⟨F, 0, none⟩)] #[] := by
    unfold nextV
    rw [if_neg h0, hf]
    split
    · rfl
    · split <;> rfl
  rw [e4] at c4
  clear e4
  have K2 := next_any h k hk h0 hl hln hs f hf
  have hf3 : f = 87 ∨ f = 94 ∨ f = 101 := by
    rw [hf]
    split
    · exact .inl rfl
    · split
      · exact .inr (.inl rfl)
      · exact .inr (.inr rfl)
  clear hf h0 hk
  generalize S.nxt n (c (base + S.slot)) = S' at K2
  rcases hf3 with rfl | rfl | rfl
  · go_enter Try.func63, Try.ntmps63
    go_wp2_with (first
      | (go_at_call 79; refine K1.mono ?_; clear K1; rintro e w1 ⟨rfl, rfl⟩)
      | (go_at_call 87; refine K2.mono ?_; clear K2; rintro e w2 ⟨rfl, h2, k2, b2⟩; have K1 := done_any k2))
    go_ret
    exact ⟨rfl, h2, k2, b2⟩
  · go_enter Try.func63, Try.ntmps63
    go_wp2_with (first
      | (go_at_call 79; refine K1.mono ?_; clear K1; rintro e w1 ⟨rfl, rfl⟩)
      | (go_at_call 94; refine K2.mono ?_; clear K2; rintro e w2 ⟨rfl, h2, k2, b2⟩; have K1 := done_any k2))
    go_ret
    exact ⟨rfl, h2, k2, b2⟩
  · go_enter Try.func63, Try.ntmps63
    go_wp2_with (first
      | (go_at_call 79; refine K1.mono ?_; clear K1; rintro e w1 ⟨rfl, rfl⟩)
      | (go_at_call 101; refine K2.mono ?_; clear K2; rintro e w2 ⟨rfl, h2, k2, b2⟩; have K1 := done_any k2))
    go_ret
    exact ⟨rfl, h2, k2, b2⟩
/-- A step of one that is done. -/
theorem step_off (k : IsFd w F T S) (h0 : S.st = 0) :
    Calls Try.prog 63 #[.pointer (some ⟨F, 0, none⟩)] w fun e w' => e = .returned (.bool true) ∧ w' = w := by
  have K1 := done_any k
  rw [decide_eq_true h0] at K1
  have K2 := K1
  clear h0
  go_enter Try.func63, Try.ntmps63
  go_wp2_with (first
    | (go_at_call 79; refine K1.mono ?_; clear K1; rintro e w1 ⟨rfl, rfl⟩)
    | (go_at_call 79; refine K2.mono ?_; clear K2; rintro e w1 ⟨rfl, rfl⟩))
  go_ret
  exact ⟨rfl, rfl⟩
theorem made_any (k : IsFd w F T S) :
    Calls Try.prog 65 #[.pointer (some ⟨F, 0, none⟩)] w fun e w' => e = .returned (.bool S.made) ∧ w' = w := by
  have c6 := k.f6
  go_enter Try.func65, Try.ntmps65
  go_wp2
  go_ret
  exact ⟨rfl, rfl⟩
/-- What a finder tells: its slot, the error. -/
def Fd.tells (S : Fd) : Int × Int := if S.found = true then ((S.slot : Int), 0) else if S.st = 0 ∧ ¬ S.key = 0 then (-1, 60) else (-1, 61)
theorem slot_any (k : IsFd w F T S) :
    Calls Try.prog 64 #[.pointer (some ⟨F, 0, none⟩)] w fun e w' => e = .returned (.tuple #[.int .i64 S.tells.1, .int .i64 S.tells.2]) ∧ w' = w := by
  have c5 := k.f5
  have c2 := k.f2
  have c1 := k.f1
  have K1 := done_any k
  unfold Fd.tells
  by_cases hf : S.found = true
  · rw [hf] at c5
    rw [if_pos hf]
    clear hf
    go_enter Try.func64, Try.ntmps64
    go_wp2_with fail
    go_ret2
    exact ⟨rfl, rfl⟩
  · have hf' : S.found = false := by simpa using hf
    rw [hf'] at c5
    rw [if_neg hf]
    clear hf hf'
    by_cases h0 : S.st = 0
    · rw [decide_eq_true h0] at K1
      by_cases hk : S.key = 0
      · rw [if_neg (fun e => e.2 hk)]
        rw [hk] at c1
        clear h0 hk
        go_enter Try.func64, Try.ntmps64
        go_wp2_with (first
          | (go_at_call 79; refine K1.mono ?_; clear K1; rintro e w1 ⟨rfl, rfl⟩))
        go_ret2
        exact ⟨rfl, rfl⟩
      · rw [if_pos ⟨h0, hk⟩]
        have hd : (S.key != 0) = true := by simpa using hk
        clear h0
        go_enter Try.func64, Try.ntmps64
        go_wp2_with (first
          | (go_at_call 79; refine K1.mono ?_; clear K1; rintro e w1 ⟨rfl, rfl⟩))
        go_ret2
        exact ⟨rfl, rfl⟩
    · rw [decide_eq_false h0] at K1
      rw [if_neg (fun e => h0 e.1)]
      clear h0
      go_enter Try.func64, Try.ntmps64
      go_wp2_with (first
        | (go_at_call 79; refine K1.mono ?_; clear K1; rintro e w1 ⟨rfl, rfl⟩))
      go_ret2
      exact ⟨rfl, rfl⟩
end
end Go.Proofs.Ytdmfbfbebcneeaa.Tb
