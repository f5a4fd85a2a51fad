/-
  The walk of DequeCells: for every size and every row of acts it tells true, and old memory is as it was.
-/
import Derived.Test.YtfpgdmnbehingaaUse
import Derived.Test.YtfpgdmnbehingaaArg
namespace Go.Proofs.Ytfpgdmnbehingaa
open Go Go.RowKit

set_option maxRecDepth 100000 in
theorem cells_off (z : Int) (ad : Option Addr) (len cap : Nat) (W : World) (hlen : 60 < len) :
    Calls Try.prog 7 #[.int .u8 z, .slice ad len cap] W fun e w' => e = .returned (.bool true) ∧ Below W.heap.size W w' := by
  have K0 := known_any W
  have hd : decide (60 < (len : Int)) = true := by simp; omega
  go_enter Try.func7, Try.ntmps7
  go_wp2_with (first
    | (go_at_call 8; refine K0.mono ?_; clear K0; rintro e w1 ⟨rfl, b1⟩))
  go_ret
  exact ⟨rfl, b1⟩

set_option maxHeartbeats 4000000 in
set_option maxRecDepth 100000 in
theorem cells_walk (z : Int) (ad : Option Addr) (len cap b off : Nat) (Z : Nat → Int) (W : World) (hz : 0 ≤ z ∧ z ≤ 255) (hZ : Bytes W ad len b off Z) (hlen : len ≤ 60) :
    Calls Try.prog 7 #[.int .u8 z, .slice ad len cap] W fun e w' => e = .returned (.bool true) ∧ Below W.heap.size W w' := by
  obtain ⟨n, hn, hn1, hn2⟩ : ∃ n : Nat, z % 16 + 1 = (n : Int) ∧ 1 ≤ n ∧ n ≤ 16 := ⟨(z % 16 + 1).toNat, by omega, by omega, by omega⟩
  have K0 := known_any W
  have Kc := fun w => cells_any n w hn1 (by omega)
  have Kz := fun w => cells_zero w
  have hd : decide (60 < (len : Int)) = false := by simp; omega
  have hd4 : ¬ 60 < len := by omega
  have hheld : held ((n : Int) + 2 + 2) = n + 4 := held_nat (n + 4) (by omega)
  have h41 : Aside (((n + 3 : Nat) : Int) = (n : Int) + 2 + 1) := by simp only [Aside]; omega
  have q1 : ¬ (n : Int) + 2 < (n : Int) := by omega
  have q2 : ¬ (n : Int) + 8 < (n : Int) + 2 := by omega
  have hc0 : U64 (upd (upd (fun _ => 0) 0 5) (n + 3) 6) := upd_fit (upd_fit empty_fit (by omega) _) (by omega) _
  have hc1 : Aside (upd (upd (fun _ => 0) 0 5) (n + 3) 6 0 = 5 ∧ upd (upd (fun _ => 0) 0 5) (n + 3) 6 (n + 3) = 6) := ⟨by rw [upd_other _ _ (by omega), upd_same], upd_same _ _ _⟩
  obtain ⟨c0, hc⟩ : ∃ c0, upd (upd (fun _ => 0) 0 5) (n + 3) 6 = c0 := ⟨_, rfl⟩
  rw [hc] at hc0 hc1
  have hcA : Aside (upd (upd (fun _ => 0) 0 5) (n + 3) 6 = c0) := hc
  clear hc
  go_enter Try.func7, Try.ntmps7
  go_wp2_with (first
    | (go_at_call 8; refine K0.mono ?_; clear K0; rintro e w1 ⟨rfl, b1⟩; have K1 := new_any ((n : Int) + 2 + 2) w1; rw [hheld] at K1; obtain ⟨R, hR⟩ : ∃ R, R = w1.heap.size := ⟨_, rfl⟩; have hRA : Aside (R = w1.heap.size) := hR; rw [← hR] at K1; clear hR)
    | (go_at_call 10; refine (Kc _).mono ?_; clear Kc; rintro e w1 ⟨rfl, rfl⟩)
    | (go_at_call 9; refine K1.mono ?_; clear K1; rintro e w2 ⟨rfl, m2, b2, s2⟩; have s2A : Aside (w2.heap.size = R + 2) := s2; clear s2; have K2 := store_in (R + 1) R (n + 4) _ 0 0 w2 0 5 (by omega) m2)
    | (go_at_call 22; refine K2.mono ?_; clear K2; rintro e w3 ⟨rfl, m3, b3⟩; have K3 := store_in (R + 1) R (n + 4) _ _ 0 w3 (n + 3) 6 (by omega) m3; rw [hcA.out, h41.out] at K3)
    | (go_at_call 22; refine K3.mono ?_; clear K3; rintro e w4 ⟨rfl, m4, b4⟩; have K4 := deque_new m4 1 n hn1 (by omega) (by omega) (by omega) hc0)
    | (go_at_call 11; refine K4.mono ?_; clear K4; rintro e w5 ⟨rfl, h5, b5, s5⟩; have s5A : Aside (w5.heap.size = w4.heap.size + 1) := s5; clear s5; have K5 := deque_none h5.mem 3 n hn1 (by omega) (by omega) (by omega) (by omega); have K6 := deque_zero (R + 1) 0 w5)
    | (go_at_call 11; refine K5.mono ?_; clear K5; rintro e w5 ⟨rfl, rfl⟩)
    | (go_at_call 11; refine K6.mono ?_; clear K6; rintro e w5 ⟨rfl, rfl⟩)
    | (go_at_call 10; refine (Kz _).mono ?_; clear Kz; rintro e w5 ⟨rfl, rfl⟩))
  obtain ⟨T, hT⟩ : ∃ T, T = w4.heap.size := ⟨_, rfl⟩
  have start : Stand W w5 R (n + 4) T 1 n c0 := by
    have q3 := hRA.out
    have q4 := s2A.out
    have q5 := b1.size
    rw [hT]
    have B2 : Below W.heap.size W w2 := far b1 (by rw [← q3]; exact b2) (by omega)
    have B3 := B2.trans (b3.below (B := W.heap.size) (by omega) (by omega) (by omega))
    have B4 := B3.trans (b4.below (B := W.heap.size) B3.size (by omega) (by omega))
    exact ⟨⟨_, _, h5⟩, far B4 b5 B4.size, by omega⟩
  rw [← hT]
  clear hT h5 m4 b4 m3 b3 m2 b2 b5 b1 s5A s2A hRA hcA hc0 hn hz
  have hfr : ∀ (c : Nat → Int) (S : Ac), Aside (c 0 = 5 ∧ c (n + 3) = 6) → Aside ((runs 1 n 16 c S).1 0 = 5 ∧ (runs 1 n 16 c S).1 (n + 3) = 6) := fun c S h => ⟨by rw [runs_other hn1 (by omega)]; exact h.out.1, by rw [runs_other hn1 (by omega)]; exact h.out.2⟩
  go_loopg [14] len (fun g si wr => ∃ (i : Nat) (c : Nat → Int), i + g = len ∧ si = .int .i64 (i : Int) ∧ Stand W wr R (n + 4) T 1 n c ∧ Aside (c 0 = 5 ∧ c (n + 3) = 6))
  case atStart => exact ⟨0, c0, by omega, rfl, start, hc1⟩
  case round =>
    obtain ⟨i, c, hi, rfl, E, hcc⟩ := hrel
    have hI : Aside (i + gk = len) := hi
    clear hi start hc1
    by_cases hil : i < len
    · have hil' : (i : Int) < (len : Int) := by omega
      obtain rfl := hZ.ad_ (by omega)
      have hc := hZ.kept E.old hil
      have hx := hZ.val i hil
      generalize Z i = x at hc hx
      obtain ⟨y, hy⟩ : ∃ y, x % 3 = y := ⟨_, rfl⟩
      have hyr : 0 ≤ y ∧ y ≤ 2 := by omega
      have hiw : IntKind.u64.wrap (i : Int) = (i : Int) := by rw [IntKind.wrap_u64]; omega
      by_cases h0 : y = 0
      · have e0 : (y == 0) = true := by simp [h0]
        have G1 := s_push E (i : Int)
        have hF : Fit (Ac.ofPush (i : Int)) := Fit.ofPush (by omega) (by omega)
        generalize Ac.ofPush (i : Int) = S at G1 hF
        have hc2 := hfr c S hcc
        clear hfr h0
        go_wp2_with (first
          | (go_at_call 13; refine G1.mono ?_; clear G1; rintro e w6 ⟨A, rfl, k1, a1, Z1, _⟩; have G2 := s_run Z1 k1 hF a1; generalize runs 1 n 16 c S = X at G2 hc2; generalize X.2.told = u1 at G2; generalize X.2.has = u2 at G2)
          | (go_at_call 12; refine G2.mono ?_; clear G2; rintro e w7 ⟨rfl, Z2⟩))
        go_roundg (gk - 1)
        case measure => have := hI.out; omega
        case rel => exact ⟨i + 1, _, (by have := hI.out; omega), rfl, Z2, hc2⟩
      · have e0 : (y == 0) = false := by simpa using h0
        by_cases h1 : y = 1
        · have e1 : (y == 1) = true := by simp [h1]
          have G1 := s_pop E
          have hF := Fit.ofPop
          generalize Ac.ofPop = S at G1 hF
          have hc2 := hfr c S hcc
          clear hfr h0 h1
          go_wp2_with (first
            | (go_at_call 14; refine G1.mono ?_; clear G1; rintro e w6 ⟨A, rfl, k1, a1, Z1, _⟩; have G2 := s_run Z1 k1 hF a1; generalize runs 1 n 16 c S = X at G2 hc2; generalize X.2.told = u1 at G2; generalize X.2.has = u2 at G2)
            | (go_at_call 12; refine G2.mono ?_; clear G2; rintro e w7 ⟨rfl, Z2⟩))
          go_roundg (gk - 1)
          case measure => have := hI.out; omega
          case rel => exact ⟨i + 1, _, (by have := hI.out; omega), rfl, Z2, hc2⟩
        · have e1 : (y == 1) = false := by simpa using h1
          have G1 := s_steal E
          have hF := Fit.ofSteal
          generalize Ac.ofSteal = S at G1 hF
          have hc2 := hfr c S hcc
          clear hfr h0 h1
          go_wp2_with (first
            | (go_at_call 15; refine G1.mono ?_; clear G1; rintro e w6 ⟨A, rfl, k1, a1, Z1, _⟩; have G2 := s_run Z1 k1 hF a1; generalize runs 1 n 16 c S = X at G2 hc2; generalize X.2.told = u1 at G2; generalize X.2.has = u2 at G2)
            | (go_at_call 12; refine G2.mono ?_; clear G2; rintro e w7 ⟨rfl, Z2⟩))
          go_roundg (gk - 1)
          case measure => have := hI.out; omega
          case rel => exact ⟨i + 1, _, (by have := hI.out; omega), rfl, Z2, hc2⟩
    · obtain rfl : i = len := by have := hI.out; omega
      obtain ⟨o, f, H⟩ := E.sys
      have K1 := load_in (R + 1) R (n + 4) c o f wr 0 (by omega) H.mem
      rw [hcc.out.1] at K1
      clear hfr
      go_wp2_with (first
        | (go_at_call 23; refine K1.mono ?_; clear K1; rintro e w6 ⟨rfl, m6, b6⟩; have K2 := load_in (R + 1) R (n + 4) c _ f w6 (n + 3) (by omega) m6; rw [hcc.out.2, h41.out] at K2)
        | (go_at_call 23; refine K2.mono ?_; clear K2; rintro e w7 ⟨rfl, m7, b7⟩))
      go_ret
      have hR := E.hR
      exact ⟨rfl, (E.old.trans (b6.below E.size (by omega) hR)).trans (b7.below (Nat.le_trans E.size b6.size) (by omega) hR)⟩
end Go.Proofs.Ytfpgdmnbehingaa
