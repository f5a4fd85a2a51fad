/-
  The walk of DequeOrder: for every size and number, stolen or popped, it tells true, and old memory is as it was.
-/
import Derived.Test.YtfpgdmnbehingaaUse
import Derived.Test.YtfpgdmnbehingaaView
namespace Go.Proofs.Ytfpgdmnbehingaa
open Go Go.RowKit

/-- What is pushed in round r, from number F on. -/
def nth (r F p : Nat) : Int := 10 * (r : Int) + ((p : Int) - (F : Int)) + 1
/-- How far the taking of j values is behind i - 1 of them. -/
def Taken (sb : Bool) (F j i F' E' : Nat) : Prop := (sb = true → F' = F + (i - 1) ∧ E' = F + j) ∧ (sb = false → E' = F' + (j + 1 - i) ∧ (i ≤ j → F' = F) ∧ E' ≤ F + j)

set_option maxHeartbeats 4000000 in
set_option maxRecDepth 100000 in
theorem order_walk (z y : Int) (sb : Bool) (W : World) (hz : 0 ≤ z ∧ z ≤ 255) (hy : 0 ≤ y ∧ y ≤ 255) :
    Calls Try.prog 5 #[.int .u8 z, .int .u8 y, .bool sb] W fun e w' => e = .returned (.bool true) ∧ Below W.heap.size W w' := by
  obtain ⟨n, hn, hn1, hn2⟩ : ∃ n : Nat, z % 20 + 1 = (n : Int) ∧ 1 ≤ n ∧ n ≤ 20 := ⟨(z % 20 + 1).toNat, by omega, by omega, by omega⟩
  obtain ⟨j, hj, hjn⟩ : ∃ j : Nat, y % ((n : Int) + 1) = (j : Int) ∧ j ≤ n := by
    have h1 := Int.emod_nonneg y (show ((n : Int) + 1) ≠ 0 by omega)
    have h2 := Int.emod_lt_of_pos y (show (0 : Int) < (n : Int) + 1 by omega)
    exact ⟨(y % ((n : Int) + 1)).toNat, by omega, by omega⟩
  have hjt : Int.tmod y ((n : Int) + 1) = (j : Int) := by rw [Int.tmod_eq_emod_of_nonneg hy.1]; exact hj
  have hm0 : ((n : Int) + 1 == 0) = false := by simp; omega
  have hm1 : ¬ (n : Int) + 1 = 0 := by omega
  have K0 := known_any W
  have Kc := fun w => cells_any n w hn1 (by omega)
  go_enter Try.func5, Try.ntmps5
  go_wp2_with (first
    | (go_at_call 8; refine K0.mono ?_; clear K0; rintro e w1 ⟨rfl, b1⟩; have K1 := new_any ((n : Int) + 2) w1; rw [held2 n (by omega)] at K1; obtain ⟨R, hR⟩ : ∃ R, R = w1.heap.size := ⟨_, rfl⟩; have hRA : Aside (R = w1.heap.size) := hR; rw [← hR] at K1; clear hR)
    | (go_at_call 10; refine (Kc _).mono ?_; clear Kc; rintro e w1 ⟨rfl, rfl⟩)
    | (go_at_call 9; refine K1.mono ?_; clear K1; rintro e w2 ⟨rfl, m2, b2, s2⟩; have s2A : Aside (w2.heap.size = R + 2) := s2; clear s2; have K4 := deque_new0 m2 n hn1 (by omega) (by omega) (by omega) empty_fit)
    | (go_at_call 11; refine K4.mono ?_; clear K4; rintro e w5 ⟨rfl, h5, b5, s5⟩; clear s5))
  obtain ⟨T, hT⟩ : ∃ T, T = w2.heap.size := ⟨_, rfl⟩
  have start : Has W w5 R (n + 2) T 0 n 0 0 (fun _ => 0) := by
    have q3 := hRA.out
    have q4 := s2A.out
    have q5 := b1.size
    rw [hT]
    have B2 : Below W.heap.size W w2 := far b1 (by rw [← q3]; exact b2) (by omega)
    exact Has.start ⟨⟨_, _, h5⟩, far B2 b5 B2.size, by omega⟩ _
  rw [← hT]
  clear hT h5 m2 b2 b5 b1 s2A hRA hn hz hj hjt hm0 hm1
  go_loopg [12] 3 (fun g sr wr => ∃ (r F : Nat) (V : Nat → Int), r + g = 3 ∧ sr = .int .i64 (r : Int) ∧ F ≤ 20 * r ∧ Has W wr R (n + 2) T 0 n F F V)
  case atStart => exact ⟨0, 0, _, by omega, rfl, by omega, start⟩
  case round =>
    obtain ⟨r, F, V, hr, rfl, hF, E⟩ := hrel
    have hRr : Aside (r + gk = 3) := hr
    clear start
    by_cases hrl : r < 3
    · have hrl' : (r : Int) < 3 := by omega
      clear hr
      obtain ⟨go, hgo⟩ : ∃ go, go = gk := ⟨_, rfl⟩
      rw [← hgo] at hRr
      go_wp2_with fail
      go_loopg [13] j (fun g si wr => ∃ i : Nat, i + g = j + 1 ∧ si = .int .i64 (i : Int) ∧ 1 ≤ i ∧ Has W wr R (n + 2) T 0 n F (F + (i - 1)) (nth r F))
      case atStart => exact ⟨1, by omega, rfl, by omega, E.is rfl rfl (fun i h1 h2 => absurd h2 (by omega))⟩
      case round =>
        clear E
        obtain ⟨i, hi, rfl, hi1, E⟩ := hrel
        have hI : Aside (i + gk = j + 1) := hi
        by_cases hij : i ≤ j
        · have hij' : (i : Int) ≤ (j : Int) := by omega
          have G1 := q_push E (10 * (r : Int) + (i : Int))
          have q1 : IntKind.u64.wrap (10 * (r : Int) + (i : Int)) = 10 * (r : Int) + (i : Int) := by rw [IntKind.wrap_u64]; omega
          have hroom : F + (i - 1) < F + n := by omega
          have hsm : F + (i - 1) + 1 < 1000000000 := by omega
          have hv0 : 0 ≤ 10 * (r : Int) + (i : Int) ∧ 10 * (r : Int) + (i : Int) ≤ 18446744073709551615 := by omega
          clear hi
          go_wp2_with (first
            | (go_at_call 13; refine G1.mono ?_; clear G1; rintro e w6 ⟨A, rfl, k1, a1, Z1, _⟩; have G2 := q_push_room Z1 _ hv0.1 hv0.2 hroom hsm k1 a1)
            | (go_at_call 12; refine G2.mono ?_; clear G2; rintro e w7 ⟨rfl, Z2, _⟩))
          go_roundg (gk - 1)
          case measure => have := hI.out; omega
          case rel =>
            refine ⟨i + 1, (by have := hI.out; omega), rfl, by omega, Z2.is rfl (by omega) (fun p h1 h2 => ?_)⟩
            by_cases d : p = F + (i - 1)
            · rw [if_pos d]; unfold nth; omega
            · rw [if_neg d]
        · obtain rfl : i = j + 1 := by have := hI.out; omega
          have hij' : ¬ ((j + 1 : Nat) : Int) ≤ (j : Int) := by omega
          clear hi hI
          go_wp2_with fail
          go_loopg [16] j (fun g si wr => ∃ i F' E' : Nat, i + g = j + 1 ∧ si = .int .i64 (i : Int) ∧ 1 ≤ i ∧ Aside (Taken sb F j i F' E') ∧ Has W wr R (n + 2) T 0 n F' E' (nth r F))
          case atStart => exact ⟨1, F, F + j, by omega, rfl, by omega, ⟨fun _ => ⟨by omega, rfl⟩, fun _ => ⟨by omega, fun _ => rfl, by omega⟩⟩, E.is rfl (by omega) (fun _ _ _ => rfl)⟩
          case round =>
            clear E
            obtain ⟨i, F', E', hi, rfl, hi1, ht, E⟩ := hrel
            have hI : Aside (i + gk = j + 1) := hi
            have hEs := E.le
            by_cases hij : i ≤ j
            · have hij' : (i : Int) ≤ (j : Int) := by omega
              cases sb
              · have hE := ht.out.2 rfl
                have hlt : F' < E' := by omega
                have G1 := q_pop E
                obtain ⟨v, hv⟩ : ∃ v, nth r F (E' - 1) = v := ⟨_, rfl⟩
                have hve : v = 10 * (r : Int) + (j : Int) + 1 - (i : Int) := by rw [← hv]; unfold nth; omega
                have q1 : IntKind.u64.wrap (10 * (r : Int) + (j : Int) + 1 - (i : Int)) = 10 * (r : Int) + (j : Int) + 1 - (i : Int) := by rw [IntKind.wrap_u64]; omega
                clear hi
                go_wp2_with (first
                  | (go_at_call 14; refine G1.mono ?_; clear G1; rintro e w6 ⟨A, rfl, k1, a1, Z1, _⟩; have G2 := q_pop_some Z1 hlt k1 a1; rw [hv, hve] at G2)
                  | (go_at_call 12; refine G2.mono ?_; clear G2; rintro e w7 ⟨rfl, ⟨F2, E2, hFE, Z2⟩, _⟩))
                go_roundg (gk - 1)
                case measure => have := hI.out; omega
                case rel =>
                  refine ⟨i + 1, F2, E2, (by have := hI.out; omega), rfl, by omega, ⟨fun h => (by cases h), fun _ => ?_⟩, Z2⟩
                  omega
              · have hE := ht.out.1 rfl
                have hlt : F' < E' := by omega
                have G1 := q_steal E
                obtain ⟨v, hv⟩ : ∃ v, nth r F F' = v := ⟨_, rfl⟩
                have hve : v = 10 * (r : Int) + (i : Int) := by rw [← hv]; unfold nth; omega
                have q1 : IntKind.u64.wrap (10 * (r : Int) + (i : Int)) = 10 * (r : Int) + (i : Int) := by rw [IntKind.wrap_u64]; omega
                clear hi
                go_wp2_with (first
                  | (go_at_call 15; refine G1.mono ?_; clear G1; rintro e w6 ⟨A, rfl, k1, a1, Z1, _⟩; have G2 := q_steal_some Z1 hlt k1 a1; rw [hv, hve] at G2)
                  | (go_at_call 12; refine G2.mono ?_; clear G2; rintro e w7 ⟨rfl, Z2, _⟩))
                go_roundg (gk - 1)
                case measure => have := hI.out; omega
                case rel =>
                  refine ⟨i + 1, F' + 1, E', (by have := hI.out; omega), rfl, by omega, ⟨fun _ => ?_, fun h => (by cases h)⟩, Z2⟩
                  omega
            · obtain rfl : i = j + 1 := by have := hI.out; omega
              have hij' : ¬ ((j + 1 : Nat) : Int) ≤ (j : Int) := by omega
              have hEE : E' = F' ∧ F' ≤ F + j := by
                cases sb
                · have := ht.out.2 rfl; omega
                · have := ht.out.1 rfl; omega
              obtain ⟨rfl, hF'⟩ := hEE
              clear hi hI ht
              go_wp2_with fail
              go_roundg (go - 1)
              case measure => have := hRr.out; omega
              case rel => exact ⟨r + 1, E', _, (by have := hRr.out; omega), rfl, by omega, E⟩
    · obtain rfl : r = 3 := by omega
      clear hr hRr
      have G1 := q_pop E
      go_wp2_with (first
        | (go_at_call 14; refine G1.mono ?_; clear G1; rintro e w6 ⟨A, rfl, k1, a1, Z1, _⟩; have G2 := q_pop_none Z1 k1 a1)
        | (go_at_call 12; refine G2.mono ?_; clear G2; rintro e w7 ⟨rfl, Z2, _⟩; have G3 := q_steal Z2)
        | (go_at_call 15; refine G3.mono ?_; clear G3; rintro e w8 ⟨A2, rfl, k2, a2, Z3, _⟩; have G4 := q_steal_none Z3 k2 a2)
        | (go_at_call 12; refine G4.mono ?_; clear G4; rintro e w9 ⟨rfl, Z4, _⟩; have G5 := q_len Z4; rw [Nat.sub_self] at G5)
        | (go_at_call 16; refine G5.mono ?_; clear G5; rintro e wa ⟨rfl, Z5, _⟩))
      go_ret
      exact ⟨rfl, Z5.old⟩
end Go.Proofs.Ytfpgdmnbehingaa
