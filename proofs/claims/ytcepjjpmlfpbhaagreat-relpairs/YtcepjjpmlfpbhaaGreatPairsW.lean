/-
  RelPairs, walked.
-/
import Derived.Test.YtcepjjpmlfpbhaaGreatRlK
namespace Go.Proofs.YtcepjjpmlfpbhaaGreat
open Go Go.RowKit
open Rf (tab word IsTab halfN nextF prevF)

set_option maxRecDepth 100000 in
set_option maxHeartbeats 4000000 in
theorem pairs_walk (za zb zc : Int) (W : World) (a0 : 0 ≤ za) (b0 : 0 ≤ zb) (e0 : 0 ≤ zc) :
    Calls Tryz.prog 4 #[.int .u8 za, .int .u8 zb, .int .u8 zc] W fun e w' => e = .returned (.bool true) ∧ Below W.heap.size W w' := by
  obtain ⟨p, hp⟩ : ∃ k : Nat, za % 16 = (k : Int) := ⟨(za % 16).toNat, by omega⟩
  obtain ⟨q, hq⟩ : ∃ k : Nat, zb % 16 = (k : Int) := ⟨(zb % 16).toNat, by omega⟩
  obtain ⟨c, hc⟩ : ∃ k : Nat, zc % 16 = (k : Int) := ⟨(zc % 16).toNat, by omega⟩
  have p16 : p < 16 := by omega
  have q16 : q < 16 := by omega
  have c16 : c < 16 := by omega
  have pA : Aside (p < 16) := p16
  have qA : Aside (q < 16) := q16
  have cA : Aside (c < 16) := c16
  have tp : Int.tmod za 16 = za % 16 := Int.tmod_eq_emod_of_nonneg a0
  have tq : Int.tmod zb 16 = zb % 16 := Int.tmod_eq_emod_of_nonneg b0
  have tc : Int.tmod zc 16 = zc % 16 := Int.tmod_eq_emod_of_nonneg e0
  have Kk := rknown_any W
  have KN : Aside (∀ u, Below W.heap.size W u → Calls Tryz.prog 7 #[.int .i64 8, .int .i64 3000] u _) := fun u hu => new_x W u 8 3000 (by omega) (by omega) (by omega) (by omega) hu
  have KM := must_any
  have e1A : Aside (Eqt (nextF (stF p) (prF p q)) (stF q)) := by
    have := nx_pair (c := p) p16 q16
    rwa [if_pos rfl] at this
  have e2A : Aside (Eqt (prevF (stF q) (prF p q)) (stF p)) := pv_pair p16 q16
  clear p16 q16 c16
  by_cases h : p = c
  · subst h
    have hc : zc % 16 = (p : Int) := hc
    go_enter Tryz.func4, Tryz.ntmps4
    go_upto_region 9 with (first
      | (go_at_call 6; refine Kk.mono ?_; clear Kk; rintro e v1 ⟨rfl, b1⟩; have K1 := KN.out v1 b1; clear b1)
      | (go_at_call 7; refine K1.mono ?_; clear K1; rintro e v2 ⟨S, rfl, f2, x2, b2⟩; have K2 := pair8 x2 pA.out qA.out (by decide); clear f2 b2)
      | (go_at_call 8; refine (KM _ _).mono ?_; rintro e wm ⟨rfl, em⟩; subst wm)
      | (go_at_call 9; refine K2.mono ?_; clear K2; rintro e v3 ⟨h, rfl, x3, u3⟩; have K3 := state_any x3 (by decide) p pA.out; clear u3 x2)
      | (go_at_call 11; refine K3.mono ?_; clear K3; rintro e v4 ⟨fr, rfl, x4, u4⟩; have K4 := state_any x4 (by decide) q qA.out; clear u4 x3)
      | (go_at_call 11; refine K4.mono ?_; clear K4; rintro e v5 ⟨tt, rfl, x5, u5⟩; have K5 := state_any x5 (by decide) p cA.out; clear u5 x4)
      | (go_at_call 11; refine K5.mono ?_; clear K5; rintro e v6 ⟨ot, rfl, x6, u6⟩; have ho : ot = fr := x6.same (X := stF p) (Y := stF p) (.head _) (.tail _ (.tail _ (.head _))) (Eqt.refl _); subst ot; clear u6 x5))
    have C6 := next_x x6 (by decide) (st_cur p) (x := fr) (y := h) (X := stF p) (Y := prF p q) (.tail _ (.tail _ (.head _))) (.tail _ (.tail _ (.tail _ (.head _)))) bud8 (by decide)
    go_wp2_with (first
      | (go_at_call 8; refine (KM _ _).mono ?_; rintro e wm ⟨rfl, em⟩; subst wm)
      | (go_at_call 14; refine C6.mono ?_; clear C6; rintro e v7 ⟨m7, rfl, x7, u7⟩; have h7 : m7 = tt := x7.same (X := nextF (stF p) (prF p q)) (Y := stF q) (.head _) (.tail _ (.tail _ (.head _))) e1A.out; subst m7; have C7 := prev_x x7 (by decide) (st_cur q) (x := tt) (y := h) (X := stF q) (Y := prF p q) (.tail _ (.tail _ (.head _))) (.tail _ (.tail _ (.tail _ (.tail _ (.head _))))) bud8 (by decide); clear u7 x6)
      | (go_at_call 15; refine C7.mono ?_; clear C7; rintro e v8 ⟨m8, rfl, x8, u8⟩; have h8 : m8 = fr := x8.same (X := prevF (stF q) (prF p q)) (Y := stF p) (.head _) (.tail _ (.tail _ (.head _))) e2A.out; subst m8; have C8 := next_x x8 (by decide) (st_cur p) (x := fr) (y := h) (X := stF p) (Y := prF p q) (.tail _ (.tail _ (.head _))) (.tail _ (.tail _ (.tail _ (.tail _ (.tail _ (.head _)))))) bud8 (by decide); clear u8 x7)
      | (go_at_call 14; refine C8.mono ?_; clear C8; rintro e v9 ⟨m9, rfl, x9, u9⟩; have h9 : m9 = tt := x9.same (X := nextF (stF p) (prF p q)) (Y := stF q) (.head _) (.tail _ (.tail _ (.tail _ (.tail _ (.head _))))) e1A.out; subst m9; clear u9 x8))
    go_ret
    exact ⟨by simp, x9.base⟩
  · have hn : ¬ (p : Int) = (c : Int) := by omega
    have hn2 : ((p : Int) == (c : Int)) = false := beq_eq_false_iff_ne.2 hn
    have e3A : Aside (Eqt (nextF (stF c) (prF p q)) c0) := by
      have := nx_pair (a := p) (b := q) (c := c) pA.out qA.out
      rwa [if_neg fun q => h q.symm] at this
    clear h
    go_enter Tryz.func4, Tryz.ntmps4
    go_upto_region 9 with (first
      | (go_at_call 6; refine Kk.mono ?_; clear Kk; rintro e v1 ⟨rfl, b1⟩; have K1 := KN.out v1 b1; clear b1)
      | (go_at_call 7; refine K1.mono ?_; clear K1; rintro e v2 ⟨S, rfl, f2, x2, b2⟩; have K2 := pair8 x2 pA.out qA.out (by decide); clear f2 b2)
      | (go_at_call 8; refine (KM _ _).mono ?_; rintro e wm ⟨rfl, em⟩; subst wm)
      | (go_at_call 9; refine K2.mono ?_; clear K2; rintro e v3 ⟨h, rfl, x3, u3⟩; have K3 := state_any x3 (by decide) p pA.out; clear u3 x2)
      | (go_at_call 11; refine K3.mono ?_; clear K3; rintro e v4 ⟨fr, rfl, x4, u4⟩; have K4 := state_any x4 (by decide) q qA.out; clear u4 x3)
      | (go_at_call 11; refine K4.mono ?_; clear K4; rintro e v5 ⟨tt, rfl, x5, u5⟩; have K5 := state_any x5 (by decide) c cA.out; clear u5 x4)
      | (go_at_call 11; refine K5.mono ?_; clear K5; rintro e v6 ⟨ot, rfl, x6, u6⟩; clear u6 x5))
    have C6 := next_x x6 (by decide) (st_cur p) (x := fr) (y := h) (X := stF p) (Y := prF p q) (.tail _ (.tail _ (.head _))) (.tail _ (.tail _ (.tail _ (.head _)))) bud8 (by decide)
    have t0A : Aside (¬ tt = 0) := fun e => by
      have := (x6.one (x := tt) (y := 0) (X := stF q) (Y := c0) (.tail _ (.head _)) (.tail _ (.tail _ (.tail _ (.tail _ (.head _)))))).1 e
      exact st_not qA.out this.symm
    have t0 : ¬ (0 : Int) = (tt : Int) := by have := t0A.out; omega
    have t1 : ((0 : Int) == (tt : Int)) = false := beq_eq_false_iff_ne.2 t0
    go_wp2_with (first
      | (go_at_call 8; refine (KM _ _).mono ?_; rintro e wm ⟨rfl, em⟩; subst wm)
      | (go_at_call 14; refine C6.mono ?_; clear C6; rintro e v7 ⟨m7, rfl, x7, u7⟩; have h7 : m7 = tt := x7.same (X := nextF (stF p) (prF p q)) (Y := stF q) (.head _) (.tail _ (.tail _ (.head _))) e1A.out; subst m7; have C7 := prev_x x7 (by decide) (st_cur q) (x := tt) (y := h) (X := stF q) (Y := prF p q) (.tail _ (.tail _ (.head _))) (.tail _ (.tail _ (.tail _ (.tail _ (.head _))))) bud8 (by decide); clear u7 x6)
      | (go_at_call 15; refine C7.mono ?_; clear C7; rintro e v8 ⟨m8, rfl, x8, u8⟩; have h8 : m8 = fr := x8.same (X := prevF (stF q) (prF p q)) (Y := stF p) (.head _) (.tail _ (.tail _ (.tail _ (.tail _ (.head _))))) e2A.out; subst m8; have C8 := next_x x8 (by decide) (st_cur c) (x := ot) (y := h) (X := stF c) (Y := prF p q) (.tail _ (.tail _ (.head _))) (.tail _ (.tail _ (.tail _ (.tail _ (.tail _ (.head _)))))) bud8 (by decide); clear u8 x7)
      | (go_at_call 14; refine C8.mono ?_; clear C8; rintro e v9 ⟨m9, rfl, x9, u9⟩; have h9 : m9 = 0 := x9.same (X := nextF (stF c) (prF p q)) (Y := c0) (.head _) (.tail _ (.tail _ (.tail _ (.tail _ (.tail _ (.tail _ (.tail _ (.head _)))))))) e3A.out; subst m9; have C9 := next_x x9 (by decide) (st_cur c) (x := ot) (y := h) (X := stF c) (Y := prF p q) (.tail _ (.tail _ (.tail _ (.head _)))) (.tail _ (.tail _ (.tail _ (.tail _ (.tail _ (.tail _ (.head _))))))) bud8 (by decide); clear u9 x8)
      | (go_at_call 14; refine C9.mono ?_; clear C9; rintro e v10 ⟨m10, rfl, x10, u10⟩; have h10 : m10 = 0 := x10.same (X := nextF (stF c) (prF p q)) (Y := c0) (.head _) (.tail _ (.tail _ (.tail _ (.tail _ (.tail _ (.tail _ (.tail _ (.tail _ (.head _))))))))) e3A.out; subst m10; clear u10 x9))
    go_ret
    exact ⟨by simp, x10.base⟩
end Go.Proofs.YtcepjjpmlfpbhaaGreat
