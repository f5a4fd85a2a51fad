/-
  What a step that the statement's world makes of an act does.
-/
import Derived.Test.YtfpgdmnbehingaaGame
import Derived.Deep.RegionLaw
namespace Go.Proofs.Ytfpgdmnbehingaa
open Go Go.RowKit

section
variable {W w w' : World} {G R T n capK L capP P A q : Nat} {c c' : Nat → Int} {o : Int} {ptr : Nat → Option Nat} {Ss : Nat → Ac} {S S' : Ac} {push : Int} {stp : Nat → Nat} {adK adP : Option Addr} {K : Nat → Int}
theorem mu_pos {S : Ac} (f : Fit S) (h : ¬ S.st = 0) : 1 ≤ S.mu := by
  rcases Nat.eq_zero_or_pos S.mu with e | e
  · exact absurd (f.mu_done e) h
  · exact e
set_option maxHeartbeats 4000000 in
set_option maxRecDepth 100000 in
theorem wstep_any (H : WorldI W w G R T n c o ptr Ss push stp adK capK L K adP capP P) (hq : q < 4) (hp : ptr q = some A) (f : Fit (Ss q)) (h0 : ¬ (Ss q).st = 0) (hst : stp q + (Ss q).mu ≤ 16) (ho : 0 ≤ o ∧ o ≤ 1000000) :
    Calls Try.prog 30 #[.pointer (some ⟨G, 0, none⟩), .pointer (some ⟨A, 0, none⟩), .int .i64 (q : Int)] w fun e w' => e = .returned (.bool (decide (((Ss q).nxt 0 n c).st = 0))) ∧ WorldI W w' G R T n ((Ss q).after 0 n c) (o + 1) ptr (setS Ss q ((Ss q).nxt 0 n c)) push (tick stp q ((Ss q).nxt 0 n c)) adK capK L K adP capP P := by
  obtain ⟨f0, Hs⟩ := H.sys
  obtain ⟨ka, hW⟩ := H.acts q hq A hp
  have g0 := H.hd.c0
  have K1 := ops_any _ _ _ _ _ _ _ Hs.mem
  have K2 := step_on Hs ka f h0
  have hop : wrap64 (o + 1) = o + 1 := by unfold wrap64; omega
  rw [hop] at K2
  have hmu := mu_pos f h0
  have hs16 : ¬ (16 : Int) < (stp q : Int) + 1 := by omega
  have hs16' : ¬ 16 < stp q + 1 := by omega
  have ho2 : ¬ o + 1 < o + 1 := by omega
  have ho3 : ¬ o + 1 > o + 1 := by omega
  have hq4 : (q : Int) < 4 := by omega
  have hstq : stp q ≤ 16 := by omega
  obtain ⟨x, hx⟩ : ∃ x, stp q = x := ⟨_, rfl⟩
  have hxA : Aside (stp q = x) := hx
  rw [hx] at hs16 hs16' hstq
  generalize (Ss q).after 0 n c = c' at K2 ⊢
  generalize (Ss q).nxt 0 n c = S' at K2 ⊢
  clear hop hmu hx f h0 hst ka g0
  have g0 := H.hd.c0
  by_cases hd : S'.st = 0
  · have htk : Aside (tick stp q S' = setN stp q 0) := by simp only [Aside]; unfold tick; rw [if_pos hd]
    have hdA : Aside (decide (S'.st = 0) = true) := decide_eq_true hd
    rw [decide_eq_true hd] at K2 ⊢
    clear hd
    go_enter Try.func30, Try.ntmps30
    go_wp2_with (first
      | (go_at_call 38; refine K1.mono ?_; clear K1; rintro e w1 ⟨rfl, rfl⟩)
      | (go_at_call 19; refine K2.mono ?_; clear K2; rintro e w1 ⟨rfl, s1, k1, b1⟩; have H1 := H.stepped hq hp s1 k1 b1))
    have d7 := H1.hd.cS hq
    rw [hxA.out] at d7
    have g7 := H1.hd.free (7 + q)
    have H2 : WorldI W (w1.setCell ⟨G, 7 + q, none⟩ (.int .i64 ((x : Int) + 1))) G R T n c' (o + 1) ptr (setS Ss q S') push (setN stp q (x + 1)) adK capK L K adP capP P := H1.count hq (x + 1)
    go_region
    have H3 := H2.drew
    obtain ⟨f3, Hs3⟩ := H3.sys
    have K4 := ops_any _ _ _ _ _ _ _ Hs3.mem
    have k3 := (H3.acts q hq A hp).1
    rw [setS_same] at k3
    have K5 := done_any k3
    rw [hdA.out] at K5
    have e0 := H3.hd.c0
    have e7 := H3.hd.cS hq
    rw [setN_same] at e7
    have e7' : (w1.setCell ⟨G, 7 + q, none⟩ (.int .i64 ((x : Int) + 1))).drew.cell? ⟨G, 7 + q, none⟩ = some (.int .i64 ((x : Int) + 1)) := e7
    clear e7
    have u7 := H3.hd.free (7 + q)
    go_wp2_with (first
      | (go_at_call 38; refine K4.mono ?_; clear K4; rintro e w5 ⟨rfl, rfl⟩)
      | (go_at_call 21; refine K5.mono ?_; clear K5; rintro e w5 ⟨rfl, rfl⟩))
    go_ret
    have H4 : WorldI W ((w1.setCell ⟨G, 7 + q, none⟩ (.int .i64 ((x : Int) + 1))).drew.setCell ⟨G, 7 + q, none⟩ (.int .i64 0)) G R T n c' (o + 1) ptr (setS Ss q S') push (setN (setN stp q (x + 1)) q 0) adK capK L K adP capP P := H3.count hq 0
    rw [setN_twice] at H4
    rw [htk.out]
    exact ⟨rfl, H4⟩
  · have htk : Aside (tick stp q S' = setN stp q (x + 1)) := by simp only [Aside]; unfold tick; rw [if_neg hd, hxA.out]
    have hdA : Aside (decide (S'.st = 0) = false) := decide_eq_false hd
    rw [decide_eq_false hd] at K2 ⊢
    clear hd
    go_enter Try.func30, Try.ntmps30
    go_wp2_with (first
      | (go_at_call 38; refine K1.mono ?_; clear K1; rintro e w1 ⟨rfl, rfl⟩)
      | (go_at_call 19; refine K2.mono ?_; clear K2; rintro e w1 ⟨rfl, s1, k1, b1⟩; have H1 := H.stepped hq hp s1 k1 b1))
    have d7 := H1.hd.cS hq
    rw [hxA.out] at d7
    have g7 := H1.hd.free (7 + q)
    have H2 : WorldI W (w1.setCell ⟨G, 7 + q, none⟩ (.int .i64 ((x : Int) + 1))) G R T n c' (o + 1) ptr (setS Ss q S') push (setN stp q (x + 1)) adK capK L K adP capP P := H1.count hq (x + 1)
    go_region
    have H3 := H2.drew
    obtain ⟨f3, Hs3⟩ := H3.sys
    have K4 := ops_any _ _ _ _ _ _ _ Hs3.mem
    have k3 := (H3.acts q hq A hp).1
    rw [setS_same] at k3
    have K5 := done_any k3
    rw [hdA.out] at K5
    have e0 := H3.hd.c0
    have e7 := H3.hd.cS hq
    rw [setN_same] at e7
    have e7' : (w1.setCell ⟨G, 7 + q, none⟩ (.int .i64 ((x : Int) + 1))).drew.cell? ⟨G, 7 + q, none⟩ = some (.int .i64 ((x : Int) + 1)) := e7
    clear e7
    go_wp2_with (first
      | (go_at_call 38; refine K4.mono ?_; clear K4; rintro e w5 ⟨rfl, rfl⟩)
      | (go_at_call 21; refine K5.mono ?_; clear K5; rintro e w5 ⟨rfl, rfl⟩))
    go_ret
    rw [htk.out]
    exact ⟨rfl, H3⟩
end
end Go.Proofs.Ytfpgdmnbehingaa
