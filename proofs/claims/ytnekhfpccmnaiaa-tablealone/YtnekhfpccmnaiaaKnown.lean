/-
  The statements' own first look ('known'): it holds.
-/
import Derived.Test.YtnekhfpccmnaiaaUse
namespace Go.Proofs.Ytnekhfpccmnaiaa
open Go Go.RowKit

theorem below_step {B P R F : Nat} {a b d : World} (h : Below B a b) (k : Went (Foot P R F) b d) (hP : B ≤ P) (hR : B ≤ R) (hF : B ≤ F) (hB : B ≤ b.heap.size) : Below B a d :=
  h.trans (k.below hB fun i e => by rcases e with rfl | rfl | rfl <;> assumption)
theorem below_move {B P R : Nat} {a b d : World} (h : Below B a b) (k : Moved P R b d) (hP : B ≤ P) (hR : B ≤ R) (hB : B ≤ b.heap.size) : Below B a d :=
  h.trans (k.below hB hP hR)
theorem IsFd.went {w w' : World} {P R F G T T' N base n : Nat} {c : Nat → Int} {ops fails : Int} {S : Fd} (h : IsFd w G T S) (k : Went (Foot P R F) w w') (m : Sys w P R N T' base n c ops fails) (hne : G ≠ F) : IsFd w' G T S :=
  h.kept (k.block _ h.lt fun e => by
    rcases e with e | e | e
    · exact h.neP m.mem e
    · exact h.neR m.mem e
    · exact hne e)
theorem IsFd.below {w w' : World} {F T : Nat} {S : Fd} (h : IsFd w F T S) (k : Below w.heap.size w w') : IsFd w' F T S := h.kept (k.block _ h.lt)

theorem made_is {w : World} {F T : Nat} {S : Fd} (k : IsFd w F T S) (b : Bool) (hb : S.made = b) :
    Calls Try.prog 18 #[.pointer (some ⟨F, 0, none⟩)] w fun e w' => e = .returned (.bool b) ∧ w' = w := by
  subst hb
  exact made_any k
theorem done_is {w : World} {F T : Nat} {S : Fd} (k : IsFd w F T S) (b : Bool) (hb : decide (S.st = 0) = b) :
    Calls Try.prog 15 #[.pointer (some ⟨F, 0, none⟩)] w fun e w' => e = .returned (.bool b) ∧ w' = w := by
  subst hb
  exact done_any k
theorem slot_is {w : World} {F T : Nat} {S : Fd} (k : IsFd w F T S) (x e : Int) (h1 : S.tells.1 = x) (h2 : S.tells.2 = e) :
    Calls Try.prog 14 #[.pointer (some ⟨F, 0, none⟩)] w fun r w' => r = .returned (.tuple #[.int .i64 x, .int .i64 e]) ∧ w' = w := by
  subst h1
  subst h2
  exact slot_any k
theorem tab_new' {w : World} {P R N : Nat} {c : Nat → Int} {ops fails : Int} (h : IsMem w P R N c ops fails) (base n : Nat) (bi ni : Int) (e1 : (base : Int) = bi) (e2 : (n : Int) = ni) (hn : 1 ≤ n) (hr : base + n ≤ N) (hN : N ≤ 262144) :
    Calls Try.prog 11 #[.pointer (some ⟨P, 0, none⟩), .int .i64 bi, .int .i64 ni] w fun e w' => e = .returned (.tuple #[.pointer (some ⟨w.heap.size, 0, none⟩), .int .i64 0]) ∧ Sys w' P R N w.heap.size base n c ops fails ∧ Below w.heap.size w w' ∧ w'.heap.size = w.heap.size + 1 := by
  subst e1
  subst e2
  exact tab_new h base n hn hr hN
theorem tab_none' {w : World} {P R N : Nat} {c : Nat → Int} {ops fails : Int} (h : IsMem w P R N c ops fails) (base n : Nat) (bi ni : Int) (e1 : (base : Int) = bi) (e2 : (n : Int) = ni) (hn : 1 ≤ n) (hr : N < base + n) (hN : N ≤ 262144) (hb : base ≤ 262144) (hn2 : n ≤ 262144) :
    Calls Try.prog 11 #[.pointer (some ⟨P, 0, none⟩), .int .i64 bi, .int .i64 ni] w fun e w' => e = .returned (.tuple #[.pointer none, .int .i64 61]) ∧ w' = w := by
  subst e1
  subst e2
  exact tab_none h base n hn hr hN hb hn2

set_option maxHeartbeats 1600000 in
theorem known_any (W : World) : Calls Try.prog 9 #[] W fun e w' => e = .returned (.bool true) ∧ Below W.heap.size W w' := by
  have hh : held 10 = 10 := by decide
  have K0 := new_any 10 W
  rw [hh] at K0
  clear hh
  obtain ⟨B, hB⟩ : ∃ B, B = W.heap.size := ⟨_, rfl⟩
  have hBA : Aside (B = W.heap.size) := hB
  rw [← hB] at K0 ⊢
  clear hB
  go_enter Try.func9, Try.ntmps9
  go_wp2_with (first
    | (go_at_call 10; refine K0.mono ?_; clear K0; rintro e w1 ⟨rfl, m1, b1, s1⟩; have K1 := tab_new' m1 2 4 2 4 rfl rfl (by omega) (by omega) (by omega); have s1A : Aside (w1.heap.size = B + 2) := s1; clear s1)
    | (go_at_call_of 11 (Value.int .i64 2); refine K1.mono ?_; clear K1; rintro e w2 ⟨rfl, h2, b2, s2⟩; have s2A : Aside (w2.heap.size = w1.heap.size + 1) := s2; clear s2; have K2 := tab_none' h2.mem 7 4 7 4 rfl rfl (by decide) (by decide) (by omega) (by omega) (by omega))
    | (go_at_call_of 11 (Value.int .i64 7); refine K2.mono ?_; clear K2; rintro e w2 ⟨rfl, rfl⟩; have K3 := find_any h2 9 (by omega) (by omega))
    | (go_at_call 12; refine K3.mono ?_; clear K3; rintro e w3 ⟨rfl, k3, b3, s3⟩; have h3 := h2.below b3; have K4 := find_any h3 9 (by omega) (by omega))
    | (go_at_call 12; refine K4.mono ?_; clear K4; rintro e w4 ⟨rfl, k4, b4, s4⟩; have h4 := h3.below b4; have k3' := k3.below b4))
  have s1 := s1A.out
  have s2 := s2A.out
  clear s1A s2A
  have hBw : B ≤ w1.heap.size := by omega
  have e2 : w1.heap.size = w1.heap.size := rfl
  have g2 : Below B W w2 := far b1 b2 hBw
  have g3 : Below B W w3 := far g2 b3 (by omega)
  have g4 : Below B W w4 := far g3 b4 (by omega)
  have hneA : Aside (w2.heap.size ≠ w3.heap.size) := by simp only [Aside]; omega
  obtain ⟨Fa, hFa⟩ : ∃ F, F = w2.heap.size := ⟨_, rfl⟩
  obtain ⟨Fb, hFb⟩ : ∃ F, F = w3.heap.size := ⟨_, rfl⟩
  obtain ⟨T, hT⟩ : ∃ T, T = w1.heap.size := ⟨_, rfl⟩
  have hBF : B ≤ Fa ∧ B ≤ Fb ∧ Fa ≠ Fb := by omega
  rw [← hFa] at k3'
  rw [← hFb] at k4
  rw [← hT] at k3' k4 h4
  rw [← hFa, ← hFb, ← hT]
  have hw4 : Aside (B ≤ w4.heap.size) := by simp only [Aside]; omega
  clear hFa hFb hT e2 hneA s1 s2 s3 s4
  go_loopg [8] 3 (fun g si wr => ∃ (A D : Fd) (t c : Nat → Int) (o f : Int), Looked g t A D ∧ si = .int .i64 (3 - (g : Int)) ∧ g ≤ 3 ∧ (∀ i, c (2 + i) = t i) ∧ FI 4 t A ∧ FI 4 t D ∧ IsFd wr Fa T A ∧ IsFd wr Fb T D ∧ Sys wr (B + 1) B 10 T 2 4 c o f ∧ Below B W wr ∧ B ≤ wr.heap.size)
  case atStart =>
    exact ⟨_, _, fun _ => 0, fun _ => 0, 0, 0, .inl ⟨rfl, rfl, rfl, rfl⟩, rfl, Nat.le_refl _, fun _ => rfl, FI.start (by decide) _ (by decide), FI.start (by decide) _ (by decide), k3', k4, h4, g4, hw4.out⟩
  case round =>
    obtain ⟨A, D, t, c, o, f, hL, rfl, hg3, ht, fa, fd, ka, kd, H, hbel, hsz⟩ := hrel
    have hLA : Aside (Looked gk t A D) := hL
    have htA : Aside (∀ i, c (2 + i) = t i) := ht
    have Ka := done_any ka
    have Kd := done_any kd
    obtain ⟨hB1, hB2, hB3⟩ := hBF
    have hgA : Aside (gk ≤ 3) := hg3
    cases gk with
    | zero =>
      rcases hL with ⟨e, _⟩ | ⟨e, _⟩ | ⟨e, _⟩ | ⟨_, rfl, rfl, rfl⟩
      · omega
      · omega
      · omega
      · clear hLA ht hg3
        have hhl : home 9 4 < 4 := home_lt 9 (by decide)
        have K3 := at_in H (home 9 4) hhl
        have e9 : c (2 + home 9 4) = 9 := by rw [htA.out]; exact upd_same _ _ _
        rw [e9] at K3
        have hc1 : Aside (cnt (fun i => c (2 + i)) 4 = 1) := by
          simp only [Aside]
          rw [cnt_congr 4 (fun i _ => htA.out i), cnt_upd (fun _ => 0) hhl rfl (by decide), cnt_zero]
        have K1 := slot_is ka ((home 9 4 : Nat) : Int) 0 rfl rfl
        have K2 := slot_is kd ((home 9 4 : Nat) : Int) 0 rfl rfl
        clear e9 fa fd Ka Kd
        have Ka := done_is ka true rfl
        have Kd := done_is kd true rfl
        generalize hA : (Fd.start 4 9).put = A at ka
        generalize hD : (Fd.start 4 9).over = D at kd
        have mA : Aside (A.made = true) := by simp only [Aside]; rw [← hA]; rfl
        have mD : Aside (D.made = false) := by simp only [Aside]; rw [← hD]; rfl
        clear hA hD
        generalize home 9 4 = q at K1 K2 K3 hhl
        go_wp2_with (first
          | (go_at_call_of 15 (Value.pointer (some ⟨Fa, 0, none⟩)); refine Ka.mono ?_; clear Ka; rintro e w1 ⟨rfl, rfl⟩)
          | (go_at_call_of 15 (Value.pointer (some ⟨Fb, 0, none⟩)); refine Kd.mono ?_; clear Kd; rintro e w1 ⟨rfl, rfl⟩)
          | (go_at_call_of 14 (Value.pointer (some ⟨Fa, 0, none⟩)); refine K1.mono ?_; clear K1; rintro e w1 ⟨rfl, rfl⟩)
          | (go_at_call_of 14 (Value.pointer (some ⟨Fb, 0, none⟩)); refine K2.mono ?_; clear K2; rintro e w1 ⟨rfl, rfl⟩)
          | (go_at_call 17; refine K3.mono ?_; clear K3; rintro e w5 ⟨rfl, h5, b5⟩; have K4 := made_is (ka.moved H.mem b5) true mA.out; have K5 := made_is (kd.moved H.mem b5) false mD.out; have K6 := tlen_any h5; rw [hc1.out] at K6)
          | (go_at_call_of 18 (Value.pointer (some ⟨Fa, 0, none⟩)); refine K4.mono ?_; clear K4; rintro e w1 ⟨rfl, rfl⟩)
          | (go_at_call_of 18 (Value.pointer (some ⟨Fb, 0, none⟩)); refine K5.mono ?_; clear K5; rintro e w1 ⟨rfl, rfl⟩)
          | (go_at_call 16; refine K6.mono ?_; clear K6; rintro e w6 ⟨rfl, h6, b6⟩))
        go_ret
        exact ⟨rfl, below_move (below_move hbel b5 (by omega) (by omega) hsz) b6 (by omega) (by omega) (Nat.le_trans hsz b5.size)⟩
    | succ g =>
      obtain ⟨hL2, hDst⟩ := looked_on hL
      have hL2A : Aside (Looked g (D.after (A.after t)) (A.nxt 4 (t A.slot)) (D.nxt 4 (A.after t D.slot))) := hL2
      clear hL hL2
      have Kd2 := done_is kd false (decide_eq_false hDst)
      clear Kd hDst
      have K1 := step_any H ka t ht fa
      clear ht hg3
      have hi40 : (3 : Int) - ((g + 1 : Nat) : Int) < 40 := by omega
      have hi41 : Aside ((3 : Int) - ((g + 1 : Nat) : Int) + 1 = 3 - (g : Int)) := by simp only [Aside]; omega
      generalize hii : (3 : Int) - ((g + 1 : Nat) : Int) = ii at hi40 hi41
      have hii0 : 0 ≤ ii := by have := hgA.out; omega
      clear hii
      generalize decide (A.st = 0) = ba at Ka
      cases ba
      all_goals go_wp2_with (first
        | (go_at_call_of 15 (Value.pointer (some ⟨Fa, 0, none⟩)); refine Ka.mono ?_; clear Ka; rintro e w1 ⟨rfl, rfl⟩)
        | (go_at_call_of 15 (Value.pointer (some ⟨Fb, 0, none⟩)); refine Kd2.mono ?_; clear Kd2; rintro e w1 ⟨rfl, rfl⟩)
        | (go_at_call_of 13 (Value.pointer (some ⟨Fa, 0, none⟩)); refine K1.mono ?_; clear K1; rintro e w5 ⟨rfl, c5, h5, t5, _, k5, b5⟩; have kd5 := kd.went b5 H hB3.symm; have fa5 := fa.step; have fd5 := fd.grow (after_grows t A); have t5A : Aside (∀ i, c5 (2 + i) = A.after t i) := t5; clear t5; have K2 := step_any h5 kd5 (A.after t) t5A.out fd5)
        | (go_at_call_of 13 (Value.pointer (some ⟨Fb, 0, none⟩)); refine K2.mono ?_; clear K2; rintro e w6 ⟨rfl, c6, h6, t6, _, k6, b6⟩; have t6A : Aside (∀ i, c6 (2 + i) = D.after (A.after t) i) := t6; clear t6))
      all_goals go_roundg g
      all_goals first
        | exact Nat.lt_succ_self _
        | omega
        | (refine ⟨_, _, D.after (A.after t), c6, _, _, hL2A.out, by rw [hi41.out], by have := hgA.out; omega, t6A.out, fa5.grow (after_grows _ _), fd5.step, k5.went b6 h5 hB3, k6, h6, below_step (below_step hbel b5 (by omega) (by omega) hB1 hsz) b6 (by omega) (by omega) hB2 (Nat.le_trans hsz b5.size), Nat.le_trans hsz (Nat.le_trans b5.size b6.size)⟩)
end Go.Proofs.Ytnekhfpccmnaiaa
