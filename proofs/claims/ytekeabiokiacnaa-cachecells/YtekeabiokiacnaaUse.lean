/-
  A cache that nothing else stands upon: acts run to their end one behind the other, as the walks meet them.
-/
import Derived.Test.YtekeabiokiacnaaMake
import Derived.Test.YtekeabiokiacnaaNew
namespace Go.Proofs.Ytekeabiokiacnaa
open Go Go.RowKit

/-- A cache of n lines from base on, in N cells that hold c; the memory of W is as it was. -/
structure Stand (W w : World) (R N T base n : Nat) (c : Nat → Int) : Prop where
  sys : ∃ o f, Sys w (R + 1) R N T base n c o f
  old : Below W.heap.size W w
  hR : W.heap.size ≤ R

section
variable {W w w' : World} {R N T base n A : Nat} {c : Nat → Int} {S : Ac}
theorem Stand.size (h : Stand W w R N T base n c) : W.heap.size ≤ w.heap.size := h.old.size
theorem Stand.pos (h : Stand W w R N T base n c) : 1 ≤ n := by obtain ⟨o, f, H⟩ := h.sys; exact H.pos
theorem Stand.room (h : Stand W w R N T base n c) : base + 4 * n ≤ N := by obtain ⟨o, f, H⟩ := h.sys; exact H.room
theorem Stand.fit (h : Stand W w R N T base n c) : U64 c := by obtain ⟨o, f, H⟩ := h.sys; exact H.fit
theorem far {B : Nat} {a b d : World} (h : Below B a b) (k : Below b.heap.size b d) (hB : B ≤ b.heap.size) : Below B a d :=
  h.trans ⟨k.os, k.tape, k.output, k.size, fun i hi => k.block i (by omega)⟩
theorem Stand.below (h : Stand W w R N T base n c) (k : Below w.heap.size w w') : Stand W w' R N T base n c := by
  obtain ⟨o, f, H⟩ := h.sys
  exact ⟨⟨o, f, H.below k⟩, far h.old k h.size, h.hR⟩
theorem Stand.foot {c' : Nat → Int} (h : Stand W w R N T base n c) (k : Went (Foot (R + 1) R A) w w') (hA : W.heap.size ≤ A) (s : ∃ o f, Sys w' (R + 1) R N T base n c' o f) : Stand W w' R N T base n c' :=
  ⟨s, h.old.trans (k.below h.size fun i hi => by have := h.hR; rcases hi with e | e | e <;> omega), h.hR⟩
theorem Stand.at (h : Stand W w R N T base n c) (key : Int) : line base n key + 4 ≤ N := by obtain ⟨o, f, H⟩ := h.sys; exact H.line_lt key

theorem Stand.drewN (h : Stand W w R N T base n c) (q : Nat) : Stand W (w.drewN q) R N T base n c := by
  obtain ⟨o, f, H⟩ := h.sys
  exact ⟨⟨o, f, H.drewN q⟩, ⟨h.old.os, h.old.tape, h.old.output, h.old.size, h.old.block⟩, h.hR⟩
theorem Stand.drew (h : Stand W w R N T base n c) : Stand W w.drew R N T base n c := by
  obtain ⟨o, f, H⟩ := h.sys
  exact ⟨⟨o, f, H.drew⟩, ⟨h.old.os, h.old.tape, h.old.output, h.old.size, h.old.block⟩, h.hR⟩
theorem s_get (h : Stand W w R N T base n c) {L : Nat} (key : Int) (hL : line base n key = L) (h0 : 0 ≤ key) (h1 : key ≤ 18446744073709551615) :
    Calls Try.prog 12 #[.pointer (some ⟨T, 0, none⟩), .int .u64 key] w fun e w' => ∃ A, e = .returned (.pointer (some ⟨A, 0, none⟩)) ∧ IsAct w' A (R + 1) (Ac.ofGet (L) key) ∧ W.heap.size ≤ A ∧ Stand W w' R N T base n c ∧ Below w.heap.size w w' ∧ Aside (A = w.heap.size) := by
  subst hL
  obtain ⟨o, f, H⟩ := h.sys
  refine (aget_any H key h0 h1).mono ?_
  rintro e w1 ⟨rfl, k1, b1, s1⟩
  exact ⟨_, rfl, k1, h.size, h.below b1, b1, rfl⟩
theorem s_put (h : Stand W w R N T base n c) {L : Nat} (key val : Int) (hL : line base n key = L) (h0 : 0 ≤ key) (h1 : key ≤ 18446744073709551615) (h2 : 0 ≤ val) (h3 : val ≤ 18446744073709551615) :
    Calls Try.prog 11 #[.pointer (some ⟨T, 0, none⟩), .int .u64 key, .int .u64 val] w fun e w' => ∃ A, e = .returned (.pointer (some ⟨A, 0, none⟩)) ∧ IsAct w' A (R + 1) (Ac.ofPut (L) key val) ∧ W.heap.size ≤ A ∧ Stand W w' R N T base n c ∧ Below w.heap.size w w' ∧ Aside (A = w.heap.size) := by
  subst hL
  obtain ⟨o, f, H⟩ := h.sys
  refine (aput_any H key val h0 h1 h2 h3).mono ?_
  rintro e w1 ⟨rfl, k1, b1, s1⟩
  exact ⟨_, rfl, k1, h.size, h.below b1, b1, rfl⟩
/-- A get run to its end. -/
theorem s_got (h : Stand W w R N T base n c) {L : Nat} (key : Int) (hL : line base n key = L) (h0 : 0 ≤ key) (h1 : key ≤ 18446744073709551615) (k : IsAct w A (R + 1) (Ac.ofGet (L) key)) (hA : W.heap.size ≤ A) :
    Calls Try.prog 17 #[.pointer (some ⟨A, 0, none⟩)] w fun e w' => ∃ (v : Int) (ok : Bool), e = .returned (.tuple #[.int .u64 v, .bool ok]) ∧ (ok = true ↔ Hits c (L) key) ∧ (ok = true → v = jn (lo (c (L + 2))) (lo (c (L + 3)))) ∧ (ok = false → v = 0) ∧ Stand W w' R N T base n c ∧ Went (Foot (R + 1) R A) w w' := by
  subst hL
  obtain ⟨o, f, H⟩ := h.sys
  refine (run_any H k (Fit.ofGet (h.at key) h0 h1)).mono ?_
  have q := runs_get c (line base n key) key
  rw [q.1]
  rintro e w1 ⟨rfl, s1, b1⟩
  exact ⟨_, _, rfl, q.2.2.1, q.2.2.2, fun hf => by unfold Ac.told; rw [hf]; rfl, h.foot b1 hA s1, b1⟩
theorem s_miss (h : Stand W w R N T base n c) {L : Nat} (key : Int) (hL : line base n key = L) (h0 : 0 ≤ key) (h1 : key ≤ 18446744073709551615) (k : IsAct w A (R + 1) (Ac.ofGet (L) key)) (hA : W.heap.size ≤ A) (hx : ¬ Hits c (L) key) :
    Calls Try.prog 17 #[.pointer (some ⟨A, 0, none⟩)] w fun e w' => e = .returned (.tuple #[.int .u64 0, .bool false]) ∧ Stand W w' R N T base n c ∧ Went (Foot (R + 1) R A) w w' := by
  refine (s_got h key hL h0 h1 k hA).mono ?_
  rintro e w1 ⟨v, ok, rfl, q1, _, q3, s1, b1⟩
  have : ok = false := by cases ok; rfl; exact absurd (q1.1 rfl) hx
  subst this
  rw [q3 rfl]
  exact ⟨rfl, s1, b1⟩
theorem s_hit (h : Stand W w R N T base n c) {L : Nat} (key : Int) (hL : line base n key = L) (h0 : 0 ≤ key) (h1 : key ≤ 18446744073709551615) (k : IsAct w A (R + 1) (Ac.ofGet (L) key)) (hA : W.heap.size ≤ A) (hx : Hits c (L) key) (x : Int) (hv : jn (lo (c (L + 2))) (lo (c (L + 3))) = x) :
    Calls Try.prog 17 #[.pointer (some ⟨A, 0, none⟩)] w fun e w' => e = .returned (.tuple #[.int .u64 x, .bool true]) ∧ Stand W w' R N T base n c ∧ Went (Foot (R + 1) R A) w w' := by
  refine (s_got h key hL h0 h1 k hA).mono ?_
  rintro e w1 ⟨v, ok, rfl, q1, q2, _, s1, b1⟩
  have := q1.2 hx
  subst this
  rw [q2 rfl, hv]
  exact ⟨rfl, s1, b1⟩
/-- A put run to its end. -/
theorem s_done (h : Stand W w R N T base n c) {L : Nat} (key val : Int) (hL : line base n key = L) (h0 : 0 ≤ key) (h1 : key ≤ 18446744073709551615) (h2 : 0 ≤ val) (h3 : val ≤ 18446744073709551615) (k : IsAct w A (R + 1) (Ac.ofPut (L) key val)) (hA : W.heap.size ≤ A) :
    Calls Try.prog 17 #[.pointer (some ⟨A, 0, none⟩)] w fun e w' => e = .returned (.tuple #[.int .u64 0, .bool false]) ∧ Stand W w' R N T base n (putAt c (L) key val) ∧ Went (Foot (R + 1) R A) w w' := by
  subst hL
  obtain ⟨o, f, H⟩ := h.sys
  refine (run_any H k (Fit.ofPut (h.at key) h0 h1 h2 h3)).mono ?_
  have q := runs_put c (line base n key) key val
  have e0 : (runs 16 c (Ac.ofPut (line base n key) key val)).2.told = 0 := by unfold Ac.told; rw [q.2.1]; rfl
  rw [q.1, q.2.1, e0]
  rintro e w1 ⟨rfl, s1, b1⟩
  exact ⟨rfl, h.foot b1 hA s1, b1⟩
theorem s_clear (h : Stand W w R N T base n c) :
    Calls Try.prog 18 #[.pointer (some ⟨T, 0, none⟩)] w fun e w' => e = .returned (.tuple #[]) ∧ ∃ c', Stand W w' R N T base n c' ∧ ∀ key, ¬ Hits c' (line base n key) key := by
  obtain ⟨o, f, H⟩ := h.sys
  refine (clear_any H).mono ?_
  rintro e w1 ⟨rfl, ⟨c', o', f', H', hz⟩, b1⟩
  refine ⟨rfl, c', ⟨⟨o', f', H'⟩, h.old.trans (b1.below h.size (by have := h.hR; omega) h.hR), h.hR⟩, fun key hh => ?_⟩
  have hl := home_lt key H.pos
  have e1 := hz _ hl
  unfold Hits line at hh
  rw [e1] at hh
  have := hh.2.2.1
  have z : hi 0 = 0 := by decide
  rw [z] at this
  exact hh.1 this.symm
/-- A step of an act that somebody holds. -/
theorem s_step (h : Stand W w R N T base n c) (k : IsAct w A (R + 1) S) (f : Fit N S) (hA : W.heap.size ≤ A) :
    Calls Try.prog 15 #[.pointer (some ⟨A, 0, none⟩)] w fun e w' => e = .returned (.bool (decide ((S.nxt c).st = 0))) ∧ Stand W w' R N T base n (S.after c) ∧ IsAct w' A (R + 1) (S.nxt c) ∧ Went (Foot (R + 1) R A) w w' := by
  obtain ⟨o, g, H⟩ := h.sys
  refine (step_any H k f).mono ?_
  rintro e w1 ⟨rfl, s1, k1, b1⟩
  exact ⟨rfl, h.foot b1 hA s1, k1, b1⟩
theorem empty_misses (f : Nat) (key : Int) : ¬ Hits (fun _ => 0) f key := fun h => h.1 (show hi 0 = 0 by decide)
theorem empty_fit : U64 (fun _ => 0) := fun _ => ⟨Int.le_refl 0, show (0 : Int) ≤ _ by omega⟩
theorem cache_new0 {w : World} {P R N : Nat} {c : Nat → Int} {ops fails : Int} (h : IsMem w P R N c ops fails) (n : Nat) (hn : 1 ≤ n) (hn2 : n ≤ 1024) (hr : 4 * n ≤ N) (hN : N ≤ 262144) (hc : U64 c) :
    Calls Try.prog 10 #[.pointer (some ⟨P, 0, none⟩), .int .i64 0, .int .i64 (n : Int)] w fun e w' => e = .returned (.tuple #[.pointer (some ⟨w.heap.size, 0, none⟩), .int .i64 0]) ∧ Sys w' P R N w.heap.size 0 n c ops fails ∧ Below w.heap.size w w' ∧ w'.heap.size = w.heap.size + 1 := cache_new h 0 n hn hn2 (by omega) hN hc
theorem held4 (n : Nat) (h : n ≤ 1024) : held (4 * (n : Int)) = 4 * n := by
  simp only [held]; rw [if_neg (by omega), if_neg (by omega)]; omega
theorem held_nat (n : Nat) (h : n ≤ 262144) : held (n : Int) = n := by simp only [held]; rw [if_neg (by omega), if_neg (by omega)]; omega
end

set_option maxHeartbeats 2000000 in
set_option maxRecDepth 100000 in
theorem known_any (W : World) :
    Calls Try.prog 7 #[] W fun e w' => e = .returned (.bool true) ∧ Below W.heap.size W w' := by
  have K0 : Calls Try.prog 9 #[.int .i64 4] W fun e w' => e = .returned (.int .i64 16) ∧ w' = W := cells_any 4 W (by omega)
  have K1 := new_any 17 W
  rw [show held 17 = 17 by decide] at K1
  obtain ⟨R, hR⟩ : ∃ R, R = W.heap.size := ⟨_, rfl⟩
  have hRA : Aside (R = W.heap.size) := hR
  rw [← hR] at K1
  clear hR
  go_enter Try.func7, Try.ntmps7
  go_wp2_with (first
    | (go_at_call 9; refine K0.mono ?_; clear K0; rintro e W ⟨rfl, rfl⟩)
    | (go_at_call 8; refine K1.mono ?_; clear K1; rintro e w2 ⟨rfl, m2, b2, s2⟩; have s2A : Aside (w2.heap.size = R + 2) := s2; clear s2; have K2 := cache_new m2 1 4 (by omega) (by omega) (by omega) (by omega) empty_fit)
    | (go_at_call 10; refine K2.mono ?_; clear K2; rintro e w3 ⟨rfl, h3, b3, s3⟩; have s3A : Aside (w3.heap.size = w2.heap.size + 1) := s3; clear s3; have K3 := cache_none h3.mem 2 4 (by omega) (by omega) (by omega) (by omega) (by omega))
    | (go_at_call 10; refine K3.mono ?_; clear K3; rintro e w3 ⟨rfl, rfl⟩))
  obtain ⟨T, hT⟩ : ∃ T, T = w2.heap.size := ⟨_, rfl⟩
  have Z : Stand W w3 R 17 T 1 4 (fun _ => 0) := by
    have q2 := s2A.out
    have q3 := hRA.out
    rw [← hT] at h3
    exact ⟨⟨_, _, h3⟩, far (by rw [← q3]; exact b2) b3 (by omega), by omega⟩
  rw [← hT]
  clear hT h3 m2 b2 b3 s2A s3A hRA
  obtain ⟨L, hL⟩ : ∃ L, line 1 4 3 = L := ⟨_, rfl⟩
  have hLA : Aside (line 1 4 3 = L) := hL
  clear hL
  have G1 := s_get Z 3 hLA.out (by omega) (by omega)
  have hp := fun key' => put_hits (c := fun _ => 0) (f := L) (key := 3) (key' := key') (val := 9) empty_fit (by omega) (by omega) (by omega) (by omega)
  have hpA : Aside (Hits (putAt (fun _ => 0) L 3 9) L 3) := (hp 3).1.2 rfl
  have hpB : Aside (jn (lo (putAt (fun _ => 0) L 3 9 (L + 2))) (lo (putAt (fun _ => 0) L 3 9 (L + 3))) = 9) := (hp 3).2
  clear hp
  obtain ⟨c2, hc2⟩ : ∃ c2, putAt (fun _ => 0) L 3 9 = c2 := ⟨_, rfl⟩
  have hcA : Aside (putAt (fun _ => 0) L 3 9 = c2) := hc2
  rw [hc2] at hpA hpB
  clear hc2
  go_wp2_with (first
    | (go_at_call 12; refine G1.mono ?_; clear G1; rintro e w4 ⟨A1, rfl, k1, a1, Z1, _, _⟩; have G2 := s_miss Z1 3 hLA.out (by omega) (by omega) k1 a1 (empty_misses _ _))
    | (go_at_call 17; refine G2.mono ?_; clear G2; rintro e w5 ⟨rfl, Z2, _⟩; have G3 := s_put Z2 3 9 hLA.out (by omega) (by omega) (by omega) (by omega))
    | (go_at_call 11; refine G3.mono ?_; clear G3; rintro e w6 ⟨A2, rfl, k2, a2, Z3, _, _⟩; have G4 := s_done Z3 3 9 hLA.out (by omega) (by omega) (by omega) (by omega) k2 a2; rw [hcA.out] at G4)
    | (go_at_call 17; refine G4.mono ?_; clear G4; rintro e w7 ⟨rfl, Z4, _⟩; have G5 := s_get Z4 3 hLA.out (by omega) (by omega))
    | (go_at_call 12; refine G5.mono ?_; clear G5; rintro e w8 ⟨A3, rfl, k3, a3, Z5, _, _⟩; have G6 := s_hit Z5 3 hLA.out (by omega) (by omega) k3 a3 hpA.out 9 hpB.out)
    | (go_at_call 17; refine G6.mono ?_; clear G6; rintro e w9 ⟨rfl, Z6, _⟩; have G7 := s_clear Z6)
    | (go_at_call 18; refine G7.mono ?_; clear G7; rintro e wa ⟨rfl, c', Z7, hz⟩; have hzA : Aside (∀ key, ¬ Hits c' (line 1 4 key) key) := hz; clear hz; have G8 := s_get Z7 3 hLA.out (by omega) (by omega))
    | (go_at_call 12; refine G8.mono ?_; clear G8; rintro e wb ⟨A4, rfl, k4, a4, Z8, _, _⟩; have G9 := s_miss Z8 3 hLA.out (by omega) (by omega) k4 a4 (by have := hzA.out 3; rw [hLA.out] at this; exact this))
    | (go_at_call 17; refine G9.mono ?_; clear G9; rintro e wc ⟨rfl, Z9, _⟩))
  go_ret
  exact ⟨rfl, Z9.old⟩
end Go.Proofs.Ytekeabiokiacnaa
