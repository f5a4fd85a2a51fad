/-
  A deque that nothing else stands upon: acts run to their end one behind the other, as the walks meet them.
-/
import Derived.Test.YtfpgdmnbehingaaMake
import Derived.Test.YtfpgdmnbehingaaSeq
namespace Go.Proofs.Ytfpgdmnbehingaa
open Go Go.RowKit

/-- A deque of n places from b on, in N cells that hold c; the memory of W is as it was. -/
structure Stand (W w : World) (R N T b n : Nat) (c : Nat → Int) : Prop where
  sys : ∃ o f, Sys w (R + 1) R N T b n c o f
  old : Below W.heap.size W w
  hR : W.heap.size ≤ R

section
variable {W w w' : World} {R N T b n A : Nat} {c : Nat → Int} {S : Ac}
theorem Stand.size (h : Stand W w R N T b n c) : W.heap.size ≤ w.heap.size := h.old.size
theorem Stand.pos (h : Stand W w R N T b n c) : 1 ≤ n := by obtain ⟨o, f, H⟩ := h.sys; exact H.pos
theorem Stand.fit (h : Stand W w R N T b n c) : U64 c := by obtain ⟨o, f, H⟩ := h.sys; exact H.fit
theorem far {B : Nat} {a b d : World} (h : Below B a b) (k : Below b.heap.size b d) (hB : B ≤ b.heap.size) : Below B a d :=
  h.trans ⟨k.os, k.tape, k.output, k.size, fun i hi => k.block i (by omega)⟩
theorem Stand.below (h : Stand W w R N T b n c) (k : Below w.heap.size w w') : Stand W w' R N T b n c := by
  obtain ⟨o, f, H⟩ := h.sys
  exact ⟨⟨o, f, H.below k⟩, far h.old k h.size, h.hR⟩
theorem Stand.foot {c' : Nat → Int} (h : Stand W w R N T b n c) (k : Went (Foot (R + 1) R A) w w') (hA : W.heap.size ≤ A) (s : ∃ o f, Sys w' (R + 1) R N T b n c' o f) : Stand W w' R N T b n c' :=
  ⟨s, h.old.trans (k.below h.size fun i hi => by have := h.hR; rcases hi with e | e | e <;> omega), h.hR⟩
theorem Stand.drewN (h : Stand W w R N T b n c) (q : Nat) : Stand W (w.drewN q) R N T b n c := by
  obtain ⟨o, f, H⟩ := h.sys
  exact ⟨⟨o, f, H.drewN q⟩, ⟨h.old.os, h.old.tape, h.old.output, h.old.size, h.old.block⟩, h.hR⟩
theorem Stand.drew (h : Stand W w R N T b n c) : Stand W w.drew R N T b n c := by
  obtain ⟨o, f, H⟩ := h.sys
  exact ⟨⟨o, f, H.drew⟩, ⟨h.old.os, h.old.tape, h.old.output, h.old.size, h.old.block⟩, h.hR⟩
theorem empty_fit : U64 (fun _ => 0) := fun _ => ⟨Int.le_refl 0, show (0 : Int) ≤ _ by omega⟩
theorem held_nat (n : Nat) (h : n ≤ 262144) : held (n : Int) = n := by simp only [held]; rw [if_neg (by omega), if_neg (by omega)]; omega
theorem held2 (n : Nat) (h : n ≤ 256) : held ((n : Int) + 2) = n + 2 := held_nat (n + 2) (by omega)
theorem deque_new0 {w : World} {P R N : Nat} {c : Nat → Int} {ops fails : Int} (h : IsMem w P R N c ops fails) (n : Nat) (hn : 1 ≤ n) (hn2 : n ≤ 256) (hr : 2 + n ≤ N) (hN : N ≤ 262144) (hc : U64 c) :
    Calls Try.prog 11 #[.pointer (some ⟨P, 0, none⟩), .int .i64 0, .int .i64 (n : Int)] w fun e w' => e = .returned (.tuple #[.pointer (some ⟨w.heap.size, 0, none⟩), .int .i64 0]) ∧ Sys w' P R N w.heap.size 0 n c ops fails ∧ Below w.heap.size w w' ∧ w'.heap.size = w.heap.size + 1 := deque_new h 0 n hn hn2 (by omega) hN hc
/-- An act run to its end. -/
theorem s_run (h : Stand W w R N T b n c) (k : IsAct w A T S) (f : Fit S) (hA : W.heap.size ≤ A) :
    Calls Try.prog 12 #[.pointer (some ⟨A, 0, none⟩)] w fun e w' => e = .returned (.tuple #[.int .u64 (runs b n 16 c S).2.told, .bool (runs b n 16 c S).2.has]) ∧ Stand W w' R N T b n (runs b n 16 c S).1 := by
  obtain ⟨o, g, H⟩ := h.sys
  refine (run_any H k f).mono ?_
  rintro e w1 ⟨rfl, s1, b1⟩
  exact ⟨rfl, h.foot b1 hA s1⟩
theorem s_push (h : Stand W w R N T b n c) (v : Int) :
    Calls Try.prog 13 #[.pointer (some ⟨T, 0, none⟩), .int .u64 v] w fun e w' => ∃ A, e = .returned (.pointer (some ⟨A, 0, none⟩)) ∧ IsAct w' A T (Ac.ofPush v) ∧ W.heap.size ≤ A ∧ Stand W w' R N T b n c ∧ Below w.heap.size w w' ∧ Aside (A = w.heap.size) := by
  refine (push_any T v w).mono ?_
  rintro e w1 ⟨rfl, k1, b1, s1⟩
  exact ⟨_, rfl, k1, h.size, h.below b1, b1, rfl⟩
theorem s_pop (h : Stand W w R N T b n c) :
    Calls Try.prog 14 #[.pointer (some ⟨T, 0, none⟩)] w fun e w' => ∃ A, e = .returned (.pointer (some ⟨A, 0, none⟩)) ∧ IsAct w' A T Ac.ofPop ∧ W.heap.size ≤ A ∧ Stand W w' R N T b n c ∧ Below w.heap.size w w' ∧ Aside (A = w.heap.size) := by
  refine (pop_any T w).mono ?_
  rintro e w1 ⟨rfl, k1, b1, s1⟩
  exact ⟨_, rfl, k1, h.size, h.below b1, b1, rfl⟩
theorem s_steal (h : Stand W w R N T b n c) :
    Calls Try.prog 15 #[.pointer (some ⟨T, 0, none⟩)] w fun e w' => ∃ A, e = .returned (.pointer (some ⟨A, 0, none⟩)) ∧ IsAct w' A T Ac.ofSteal ∧ W.heap.size ≤ A ∧ Stand W w' R N T b n c ∧ Below w.heap.size w w' ∧ Aside (A = w.heap.size) := by
  refine (steal_any T w).mono ?_
  rintro e w1 ⟨rfl, k1, b1, s1⟩
  exact ⟨_, rfl, k1, h.size, h.below b1, b1, rfl⟩
/-- A step of an act that somebody holds. -/
theorem s_step (h : Stand W w R N T b n c) (k : IsAct w A T S) (f : Fit S) (hA : W.heap.size ≤ A) :
    Calls Try.prog 19 #[.pointer (some ⟨A, 0, none⟩)] w fun e w' => e = .returned (.bool (decide ((S.nxt b n c).st = 0))) ∧ Stand W w' R N T b n (S.after b n c) ∧ IsAct w' A T (S.nxt b n c) ∧ Went (Foot (R + 1) R A) w w' := by
  obtain ⟨o, g, H⟩ := h.sys
  refine (step_any H k f).mono ?_
  rintro e w1 ⟨rfl, s1, k1, b1⟩
  exact ⟨rfl, h.foot b1 hA s1, k1, b1⟩
end

/-- The deque holds the values V of the numbers F to E, and nobody is under way. -/
def Has (W w : World) (R N T b n F E : Nat) (V : Nat → Int) : Prop := ∃ c, Stand W w R N T b n c ∧ Holds b n c F E V
section
variable {W w w' : World} {R N T b n A F E : Nat} {V : Nat → Int}
theorem Has.old (h : Has W w R N T b n F E V) : Below W.heap.size W w := by obtain ⟨c, s, _⟩ := h; exact s.old
theorem Has.below (h : Has W w R N T b n F E V) (k : Below w.heap.size w w') : Has W w' R N T b n F E V := by obtain ⟨c, s, q⟩ := h; exact ⟨c, s.below k, q⟩
theorem Has.size (h : Has W w R N T b n F E V) : W.heap.size ≤ w.heap.size := h.old.size
theorem Has.le (h : Has W w R N T b n F E V) : F ≤ E ∧ E ≤ F + n := by obtain ⟨c, _, q⟩ := h; exact ⟨q.le, q.room⟩
theorem Has.drew (h : Has W w R N T b n F E V) : Has W w.drew R N T b n F E V := by obtain ⟨c, s, q⟩ := h; exact ⟨c, s.drew, q⟩
theorem Has.is {F' E' : Nat} {V' : Nat → Int} (h : Has W w R N T b n F E V) (e1 : F = F') (e2 : E = E') (k : ∀ i, F ≤ i → i < E → V i = V' i) : Has W w R N T b n F' E' V' := by
  subst e1 e2
  obtain ⟨c, s, q⟩ := h
  exact ⟨c, s, q.congr k⟩
theorem q_push (h : Has W w R N T b n F E V) (v : Int) :
    Calls Try.prog 13 #[.pointer (some ⟨T, 0, none⟩), .int .u64 v] w fun e w' => ∃ A, e = .returned (.pointer (some ⟨A, 0, none⟩)) ∧ IsAct w' A T (Ac.ofPush v) ∧ W.heap.size ≤ A ∧ Has W w' R N T b n F E V ∧ Below w.heap.size w w' := by
  obtain ⟨c, s, q⟩ := h
  refine (s_push s v).mono ?_
  rintro e w1 ⟨A, rfl, k1, a1, s1, b1, _⟩
  exact ⟨_, rfl, k1, a1, ⟨c, s1, q⟩, b1⟩
theorem q_pop (h : Has W w R N T b n F E V) :
    Calls Try.prog 14 #[.pointer (some ⟨T, 0, none⟩)] w fun e w' => ∃ A, e = .returned (.pointer (some ⟨A, 0, none⟩)) ∧ IsAct w' A T Ac.ofPop ∧ W.heap.size ≤ A ∧ Has W w' R N T b n F E V ∧ Below w.heap.size w w' := by
  obtain ⟨c, s, q⟩ := h
  refine (s_pop s).mono ?_
  rintro e w1 ⟨A, rfl, k1, a1, s1, b1, _⟩
  exact ⟨_, rfl, k1, a1, ⟨c, s1, q⟩, b1⟩
theorem q_steal (h : Has W w R N T b n F E V) :
    Calls Try.prog 15 #[.pointer (some ⟨T, 0, none⟩)] w fun e w' => ∃ A, e = .returned (.pointer (some ⟨A, 0, none⟩)) ∧ IsAct w' A T Ac.ofSteal ∧ W.heap.size ≤ A ∧ Has W w' R N T b n F E V ∧ Below w.heap.size w w' := by
  obtain ⟨c, s, q⟩ := h
  refine (s_steal s).mono ?_
  rintro e w1 ⟨A, rfl, k1, a1, s1, b1, _⟩
  exact ⟨_, rfl, k1, a1, ⟨c, s1, q⟩, b1⟩
theorem q_push_room (h : Has W w R N T b n F E V) (v : Int) (h0 : 0 ≤ v) (h1 : v ≤ 18446744073709551615) (hr : E < F + n) (hE : E + 1 < 1000000000) (k : IsAct w A T (Ac.ofPush v)) (hA : W.heap.size ≤ A) :
    Calls Try.prog 12 #[.pointer (some ⟨A, 0, none⟩)] w fun e w' => e = .returned (.tuple #[.int .u64 v, .bool true]) ∧ Has W w' R N T b n F (E + 1) (fun i => if i = E then v else V i) ∧ Went (Foot (R + 1) R A) w w' := by
  obtain ⟨c, s, q⟩ := h
  obtain ⟨o, g, H⟩ := s.sys
  refine (run_any H k (Fit.ofPush h0 h1)).mono ?_
  have Q := push_room q v hr hE
  rw [Q.1, Q.2.1]
  rintro e w1 ⟨rfl, s1, b1⟩
  exact ⟨rfl, ⟨_, s.foot b1 hA s1, Q.2.2⟩, b1⟩
theorem q_push_full (h : Has W w R N T b n F E V) (v : Int) (h0 : 0 ≤ v) (h1 : v ≤ 18446744073709551615) (hr : E = F + n) (k : IsAct w A T (Ac.ofPush v)) (hA : W.heap.size ≤ A) :
    Calls Try.prog 12 #[.pointer (some ⟨A, 0, none⟩)] w fun e w' => e = .returned (.tuple #[.int .u64 0, .bool false]) ∧ Has W w' R N T b n F E V ∧ Went (Foot (R + 1) R A) w w' := by
  obtain ⟨c, s, q⟩ := h
  obtain ⟨o, g, H⟩ := s.sys
  refine (run_any H k (Fit.ofPush h0 h1)).mono ?_
  have Q := push_full q v hr
  rw [Q.1, Q.2.1]
  rintro e w1 ⟨rfl, s1, b1⟩
  rw [Q.2.2] at s1
  exact ⟨rfl, ⟨c, s.foot b1 hA s1, q⟩, b1⟩
theorem q_steal_some (h : Has W w R N T b n F E V) (hr : F < E) (k : IsAct w A T Ac.ofSteal) (hA : W.heap.size ≤ A) :
    Calls Try.prog 12 #[.pointer (some ⟨A, 0, none⟩)] w fun e w' => e = .returned (.tuple #[.int .u64 (V F), .bool true]) ∧ Has W w' R N T b n (F + 1) E V ∧ Went (Foot (R + 1) R A) w w' := by
  obtain ⟨c, s, q⟩ := h
  obtain ⟨o, g, H⟩ := s.sys
  refine (run_any H k Fit.ofSteal).mono ?_
  have Q := steal_some q hr
  rw [Q.1, Q.2.1]
  rintro e w1 ⟨rfl, s1, b1⟩
  exact ⟨rfl, ⟨_, s.foot b1 hA s1, Q.2.2⟩, b1⟩
theorem q_steal_none (h : Has W w R N T b n F F V) (k : IsAct w A T Ac.ofSteal) (hA : W.heap.size ≤ A) :
    Calls Try.prog 12 #[.pointer (some ⟨A, 0, none⟩)] w fun e w' => e = .returned (.tuple #[.int .u64 0, .bool false]) ∧ Has W w' R N T b n F F V ∧ Went (Foot (R + 1) R A) w w' := by
  obtain ⟨c, s, q⟩ := h
  obtain ⟨o, g, H⟩ := s.sys
  refine (run_any H k Fit.ofSteal).mono ?_
  have Q := steal_none q
  rw [Q.1, Q.2.1]
  rintro e w1 ⟨rfl, s1, b1⟩
  rw [Q.2.2] at s1
  exact ⟨rfl, ⟨c, s.foot b1 hA s1, q⟩, b1⟩
theorem q_pop_more (h : Has W w R N T b n F E V) (hr : F + 1 < E) (k : IsAct w A T Ac.ofPop) (hA : W.heap.size ≤ A) :
    Calls Try.prog 12 #[.pointer (some ⟨A, 0, none⟩)] w fun e w' => e = .returned (.tuple #[.int .u64 (V (E - 1)), .bool true]) ∧ Has W w' R N T b n F (E - 1) V ∧ Went (Foot (R + 1) R A) w w' := by
  obtain ⟨c, s, q⟩ := h
  obtain ⟨o, g, H⟩ := s.sys
  refine (run_any H k Fit.ofPop).mono ?_
  have Q := pop_more q hr
  rw [Q.1, Q.2.1]
  rintro e w1 ⟨rfl, s1, b1⟩
  exact ⟨rfl, ⟨_, s.foot b1 hA s1, Q.2.2⟩, b1⟩
theorem q_pop_one (h : Has W w R N T b n F (F + 1) V) (k : IsAct w A T Ac.ofPop) (hA : W.heap.size ≤ A) :
    Calls Try.prog 12 #[.pointer (some ⟨A, 0, none⟩)] w fun e w' => e = .returned (.tuple #[.int .u64 (V F), .bool true]) ∧ Has W w' R N T b n (F + 1) (F + 1) V ∧ Went (Foot (R + 1) R A) w w' := by
  obtain ⟨c, s, q⟩ := h
  obtain ⟨o, g, H⟩ := s.sys
  refine (run_any H k Fit.ofPop).mono ?_
  have Q := pop_one q
  rw [Q.1, Q.2.1]
  rintro e w1 ⟨rfl, s1, b1⟩
  exact ⟨rfl, ⟨_, s.foot b1 hA s1, Q.2.2⟩, b1⟩
theorem q_pop_none (h : Has W w R N T b n F F V) (k : IsAct w A T Ac.ofPop) (hA : W.heap.size ≤ A) :
    Calls Try.prog 12 #[.pointer (some ⟨A, 0, none⟩)] w fun e w' => e = .returned (.tuple #[.int .u64 0, .bool false]) ∧ Has W w' R N T b n F F V ∧ Went (Foot (R + 1) R A) w w' := by
  obtain ⟨c, s, q⟩ := h
  obtain ⟨o, g, H⟩ := s.sys
  refine (run_any H k Fit.ofPop).mono ?_
  have Q := pop_none q
  rw [Q.1, Q.2.1]
  rintro e w1 ⟨rfl, s1, b1⟩
  rw [Q.2.2] at s1
  exact ⟨rfl, ⟨c, s.foot b1 hA s1, q⟩, b1⟩
/-- A pop where there is something: the first number stays, or both are at its end. -/
theorem q_pop_some (h : Has W w R N T b n F E V) (hr : F < E) (k : IsAct w A T Ac.ofPop) (hA : W.heap.size ≤ A) :
    Calls Try.prog 12 #[.pointer (some ⟨A, 0, none⟩)] w fun e w' => e = .returned (.tuple #[.int .u64 (V (E - 1)), .bool true]) ∧ (∃ F' E', (F' = F ∧ E' + 1 = E ∨ F' = E ∧ E' = E ∧ F + 1 = E) ∧ Has W w' R N T b n F' E' V) ∧ Went (Foot (R + 1) R A) w w' := by
  by_cases d : F + 1 = E
  · subst d
    refine (q_pop_one h k hA).mono ?_
    rintro e w1 ⟨rfl, h1, b1⟩
    exact ⟨rfl, ⟨_, _, .inr ⟨rfl, rfl, rfl⟩, h1⟩, b1⟩
  · refine (q_pop_more h (by omega) k hA).mono ?_
    rintro e w1 ⟨rfl, h1, b1⟩
    exact ⟨rfl, ⟨_, _, .inl ⟨rfl, by omega⟩, h1⟩, b1⟩
theorem q_len (h : Has W w R N T b n F E V) :
    Calls Try.prog 16 #[.pointer (some ⟨T, 0, none⟩)] w fun e w' => e = .returned (.int .i64 ((E - F : Nat) : Int)) ∧ Has W w' R N T b n F E V ∧ Moved (R + 1) R w w' := by
  obtain ⟨c, s, q⟩ := h
  obtain ⟨o, g, H⟩ := s.sys
  refine (dlen_any H q).mono ?_
  rintro e w1 ⟨rfl, ⟨o', s1⟩, b1⟩
  exact ⟨rfl, ⟨c, ⟨⟨_, _, s1⟩, s.old.trans (b1.below s.size (by have := s.hR; omega) s.hR), s.hR⟩, q⟩, b1⟩
theorem Has.start (h : Stand W w R N T b n (fun _ => 0)) (V : Nat → Int) : Has W w R N T b n 0 0 V := ⟨_, h, Holds.start b n h.pos V rfl rfl⟩
end

set_option maxHeartbeats 2000000 in
set_option maxRecDepth 100000 in
theorem known_any (W : World) :
    Calls Try.prog 8 #[] W fun e w' => e = .returned (.bool true) ∧ Below W.heap.size W w' := by
  have K0 : Calls Try.prog 10 #[.int .i64 4] W fun e w' => e = .returned (.int .i64 6) ∧ w' = W := cells_any 4 W (by omega) (by omega)
  have K1 := new_any 6 W
  rw [show held 6 = 6 by decide] at K1
  obtain ⟨R, hR⟩ : ∃ R, R = W.heap.size := ⟨_, rfl⟩
  have hRA : Aside (R = W.heap.size) := hR
  rw [← hR] at K1
  clear hR
  go_enter Try.func8, Try.ntmps8
  go_wp2_with (first
    | (go_at_call 10; refine K0.mono ?_; clear K0; rintro e W ⟨rfl, rfl⟩)
    | (go_at_call 9; refine K1.mono ?_; clear K1; rintro e w2 ⟨rfl, m2, b2, s2⟩; have s2A : Aside (w2.heap.size = R + 2) := s2; clear s2; have K2 := deque_new0 m2 4 (by omega) (by omega) (by omega) (by omega) empty_fit)
    | (go_at_call 11; refine K2.mono ?_; clear K2; rintro e w3 ⟨rfl, h3, b3, s3⟩; have s3A : Aside (w3.heap.size = w2.heap.size + 1) := s3; clear s3; have K3 := deque_none h3.mem 1 4 (by omega) (by omega) (by omega) (by omega) (by omega); obtain ⟨T, hT⟩ : ∃ T, T = w2.heap.size := ⟨_, rfl⟩; have hTA : Aside (T = w2.heap.size) := hT; rw [← hT] at h3 ⊢; clear hT)
    | (go_at_call 11; refine K3.mono ?_; clear K3; rintro e w3 ⟨rfl, rfl⟩; have Z0 : Has W w3 R 6 T 0 4 0 0 (fun _ => 0) := (Has.start (by have q2 := s2A.out; have q3 := hRA.out; exact ⟨⟨_, _, h3⟩, far (by rw [← q3]; exact b2) b3 (by omega), by omega⟩) _); clear h3 m2 b2 b3 s2A s3A hRA hTA; have G1 := q_push Z0 1)
    | (go_at_call 13; refine G1.mono ?_; clear G1; rintro e w4 ⟨A1, rfl, k1, a1, Z1, _⟩; have G2 := q_push_room Z1 1 (by omega) (by omega) (by omega) (by omega) k1 a1)
    | (go_at_call 12; refine G2.mono ?_; clear G2; rintro e w5 ⟨rfl, Z2, _⟩; have G3 := q_push Z2 2)
    | (go_at_call 13; refine G3.mono ?_; clear G3; rintro e w6 ⟨A2, rfl, k2, a2, Z3, _⟩; have G4 := q_push_room Z3 2 (by omega) (by omega) (by omega) (by omega) k2 a2)
    | (go_at_call 12; refine G4.mono ?_; clear G4; rintro e w7 ⟨rfl, Z4, _⟩; have G5 := q_push Z4 3)
    | (go_at_call 13; refine G5.mono ?_; clear G5; rintro e w8 ⟨A3, rfl, k3, a3, Z5, _⟩; have G6 := q_push_room Z5 3 (by omega) (by omega) (by omega) (by omega) k3 a3)
    | (go_at_call 12; refine G6.mono ?_; clear G6; rintro e w9 ⟨rfl, Z6, _⟩; have G7 := q_pop Z6)
    | (go_at_call 14; refine G7.mono ?_; clear G7; rintro e wa ⟨A4, rfl, k4, a4, Z7, _⟩; have G8 := q_pop_more Z7 (by omega) k4 a4)
    | (go_at_call 12; refine G8.mono ?_; clear G8; rintro e wb ⟨rfl, Z8, _⟩; have G9 := q_steal Z8)
    | (go_at_call 15; refine G9.mono ?_; clear G9; rintro e wd ⟨A5, rfl, k5, a5, Z9, _⟩; have Ga := q_steal_some Z9 (by omega) k5 a5)
    | (go_at_call 12; refine Ga.mono ?_; clear Ga; rintro e we ⟨rfl, Zb, _⟩; have Gb := q_len Zb)
    | (go_at_call 16; refine Gb.mono ?_; clear Gb; rintro e wf ⟨rfl, Zc, _⟩))
  go_ret
  exact ⟨rfl, Zc.old⟩
end Go.Proofs.Ytfpgdmnbehingaa
