/-
  The walk of CacheLeft: for every number of lines, keys and steps it tells true, and old memory is as it was.
-/
import Derived.Test.YtekeabiokiacnaaUse
import Derived.Test.YtekeabiokiacnaaArg
namespace Go.Proofs.Ytekeabiokiacnaa
open Go Go.RowKit

set_option maxRecDepth 100000 in
theorem left_off (z y : Int) (ad : Option Addr) (len cap : Nat) (W : World) (hlen : 30 < len) :
    Calls Try.prog 5 #[.int .u8 z, .slice ad len cap, .int .u8 y] W fun e w' => e = .returned (.bool true) ∧ Below W.heap.size W w' := by
  have K0 := known_any W
  have hd : decide (30 < (len : Int)) = true := by simp; omega
  go_enter Try.func5, Try.ntmps5
  go_wp2_with (first
    | (go_at_call 7; refine K0.mono ?_; clear K0; rintro e w1 ⟨rfl, b1⟩))
  go_ret
  exact ⟨rfl, b1⟩

set_option maxHeartbeats 4000000 in
set_option maxRecDepth 100000 in
theorem left_walk (z y : Int) (ad : Option Addr) (len cap b off : Nat) (Z : Nat → Int) (W : World) (hz : 0 ≤ z ∧ z ≤ 255) (hy : 0 ≤ y ∧ y ≤ 255) (hZ : Bytes W ad len b off Z) (hlen : len ≤ 30) :
    Calls Try.prog 5 #[.int .u8 z, .slice ad len cap, .int .u8 y] W fun e w' => e = .returned (.bool true) ∧ Below W.heap.size W w' := by
  obtain ⟨n, hn, hn1, hn2⟩ : ∃ n : Nat, z % 4 + 1 = (n : Int) ∧ 1 ≤ n ∧ n ≤ 4 := ⟨(z % 4 + 1).toNat, by omega, by omega, by omega⟩
  obtain ⟨st, hst, hst2⟩ : ∃ st : Nat, y % 8 = (st : Int) ∧ st ≤ 7 := ⟨(y % 8).toNat, by omega, by omega⟩
  have K0 := known_any W
  have Kc := fun w => cells_any n w (by omega)
  have hd : decide (30 < (len : Int)) = false := by simp; omega
  have hd4 : ¬ 30 < len := by omega
  go_enter Try.func5, Try.ntmps5
  go_wp2_with (first
    | (go_at_call 7; refine K0.mono ?_; clear K0; rintro e w1 ⟨rfl, b1⟩; have K1 := new_any (4 * (n : Int)) w1; rw [held4 n (by omega)] at K1; obtain ⟨R, hR⟩ : ∃ R, R = w1.heap.size := ⟨_, rfl⟩; have hRA : Aside (R = w1.heap.size) := hR; rw [← hR] at K1; clear hR)
    | (go_at_call 9; refine (Kc _).mono ?_; clear Kc; rintro e w1 ⟨rfl, rfl⟩)
    | (go_at_call 8; refine K1.mono ?_; clear K1; rintro e w2 ⟨rfl, m2, b2, s2⟩; have s2A : Aside (w2.heap.size = R + 2) := s2; clear s2; have K4 := cache_new0 m2 n hn1 (by omega) (by omega) (by omega) empty_fit)
    | (go_at_call 10; refine K4.mono ?_; clear K4; rintro e w5 ⟨rfl, h5, b5, s5⟩; clear s5))
  obtain ⟨T, hT⟩ : ∃ T, T = w2.heap.size := ⟨_, rfl⟩
  have start : Stand W w5 R (4 * n) T 0 n (fun _ => 0) := by
    have q3 := hRA.out
    have q4 := s2A.out
    have q5 := b1.size
    rw [hT]
    have B2 : Below W.heap.size W w2 := far b1 (by rw [← q3]; exact b2) (by omega)
    exact ⟨⟨_, _, h5⟩, far B2 b5 B2.size, by omega⟩
  rw [← hT]
  clear hT h5 m2 b2 b5 b1 s2A hRA hn hz
  have G1 := s_put start 3 77 rfl (by omega) (by omega) (by omega) (by omega)
  have F1 : Fit (4 * n) (Ac.ofPut (line 0 n 3) 3 77) := Fit.ofPut (start.at 3) (by omega) (by omega) (by omega) (by omega)
  generalize Ac.ofPut (line 0 n 3) 3 77 = S0 at G1 F1
  clear start
  go_wp2_with (first
    | (go_at_call 11; refine G1.mono ?_; clear G1; rintro e w6 ⟨A, rfl, k1, a1, Z1, _, _⟩))
  go_loopg [12] st (fun g si wr => ∃ (i : Nat) (c : Nat → Int) (S : Ac), i + g = st ∧ si = .int .i64 (i : Int) ∧ Stand W wr R (4 * n) T 0 n c ∧ IsAct wr A (R + 1) S ∧ Fit (4 * n) S)
  case atStart => exact ⟨0, _, S0, by omega, rfl, Z1, k1, F1⟩
  case round =>
    obtain ⟨i, c, S, hi, rfl, E, k, F⟩ := hrel
    have hI : Aside (i + gk = st) := hi
    clear hi Z1 k1 F1
    by_cases hil : i < st
    · have hil' : (i : Int) < (st : Int) := by omega
      have Ks := s_step E k F a1
      have F2 : Fit (4 * n) (S.nxt c) := F.step E.fit
      generalize S.nxt c = S2 at Ks F2
      generalize decide (S2.st = 0) = bd at Ks
      go_wp2_with (first
        | (go_at_call 15; refine Ks.mono ?_; clear Ks; rintro e w7 ⟨rfl, Z2, k2, _⟩))
      go_roundg (gk - 1)
      case measure => have := hI.out; omega
      case rel => exact ⟨i + 1, _, S2, (by have := hI.out; omega), rfl, Z2, k2, F2⟩
    · obtain rfl : i = st := by have := hI.out; omega
      clear hI k F hil
      go_wp2_with fail
      clear hst hst2 hy
      go_loopg [13] len (fun g si wr => ∃ (i : Nat) (c : Nat → Int), i + g = len ∧ si = .int .i64 (i : Int) ∧ Stand W wr R (4 * n) T 0 n c)
      case atStart => exact ⟨0, c, by omega, rfl, E⟩
      case round =>
        clear E
        obtain ⟨i, c, hi, rfl, E⟩ := hrel
        have hI : Aside (i + gk = len) := hi
        clear hi
        by_cases hil : i < len
        · have hil' : (i : Int) < (len : Int) := by omega
          obtain rfl := hZ.ad_ (by omega)
          have hc := hZ.kept E.old hil
          have hx := hZ.val i hil
          generalize Z i = x at hc hx
          obtain ⟨k, hk⟩ : ∃ k, x % 5 = k := ⟨_, rfl⟩
          have hkb : 0 ≤ k ∧ k ≤ 4 := by omega
          obtain ⟨v, hv⟩ : ∃ v, k + 100 = v := ⟨_, rfl⟩
          have hvb : 0 ≤ v ∧ v ≤ 104 := by omega
          have hvw : IntKind.u64.wrap v = v := by rw [IntKind.wrap_u64]; omega
          have hvm : v % 18446744073709551616 = v := by omega
          obtain ⟨L, hL⟩ : ∃ L, line 0 n k = L := ⟨_, rfl⟩
          have hLA : Aside (line 0 n k = L) := hL
          have hLN : L + 4 ≤ 4 * n := by rw [← hL]; exact E.at k
          clear hL
          have ph := put_hits (c := c) (f := L) (key := k) (key' := k) (val := v) E.fit hkb.1 (by omega) hvb.1 (by omega)
          have phA := ph.1.2 rfl
          have phB := ph.2
          clear ph
          have G1 := s_put E k v hLA.out hkb.1 (by omega) hvb.1 (by omega)
          have hgA : Aside (∃ (c2 : Nat → Int) (X : (Nat → Int) × Ac), putAt c L k v = c2 ∧ runs 16 c2 (Ac.ofGet L k) = X ∧ X.1 = c2 ∧ X.2.st = 0 ∧ X.2.found = true ∧ X.2.told = v) := by
            have q := runs_get (putAt c L k v) L k
            exact ⟨_, _, rfl, rfl, q.1, q.2.1, q.2.2.1.2 phA, (q.2.2.2 (q.2.2.1.2 phA)).trans phB⟩
          obtain ⟨c2, X, hc2, hX, hX1, hX2, hX3, hX4⟩ := hgA.out
          have hcA : Aside (putAt c L k v = c2) := hc2
          have hXA : Aside (runs 16 c2 (Ac.ofGet L k) = X) := hX
          have hXB : Aside (X.1 = c2 ∧ X.2.st = 0 ∧ X.2.found = true ∧ X.2.told = v) := ⟨hX1, hX2, hX3, hX4⟩
          have F1 : Fit (4 * n) (Ac.ofGet L k) := Fit.ofGet hLN hkb.1 (by omega)
          clear hc2 hX hX1 hX2 hX3 hX4 hgA phA phB
          go_wp2_with (first
            | (go_at_call 11; refine G1.mono ?_; clear G1; rintro e w6 ⟨A2, rfl, k2, a2, Z3, _, _⟩; have G2 := s_done Z3 k v hLA.out hkb.1 (by omega) hvb.1 (by omega) k2 a2; rw [hcA.out] at G2)
            | (go_at_call 17; refine G2.mono ?_; clear G2; rintro e w7 ⟨rfl, Z4, _⟩; have G3 := s_get Z4 k hLA.out hkb.1 (by omega))
            | (go_at_call 12; refine G3.mono ?_; clear G3; rintro e w8 ⟨A3, rfl, k3, a3, Z5, _, _⟩))
          clear E k2 Z3 Z4 hc
          obtain ⟨go, hgo⟩ : ∃ go, go = gk := ⟨_, rfl⟩
          rw [← hgo] at hI
          go_loopg [16] 16 (fun g si wr => ∃ (j : Nat) (c' : Nat → Int) (S : Ac), j + g = 16 ∧ si = .int .i64 (j : Int) ∧ Aside (runs g c' S = X) ∧ Stand W wr R (4 * n) T 0 n c' ∧ IsAct wr A3 (R + 1) S ∧ Fit (4 * n) S)
          case atStart => exact ⟨0, c2, _, by omega, rfl, hXA, Z5, k3, F1⟩
          case round =>
            clear Z5 k3 F1
            obtain ⟨j, c', S, hj, rfl, hr, E, kS, F⟩ := hrel
            have hJ : Aside (j + gk = 16) := hj
            have Kd := done_any kS
            by_cases hs : S.st = 0
            · rw [decide_eq_true hs] at Kd
              have eX : Aside ((c', S) = X) := by
                simp only [Aside]
                have := hr.out
                rw [runs_done _ _ hs] at this
                exact this
              have e1 : S.found = true := by have := hXB.out.2.2.1; rw [← eX.out] at this; exact this
              have e2 : S.told = v := by have := hXB.out.2.2.2; rw [← eX.out] at this; exact this
              have Kg := got_any kS F.h
              have hkd : ∀ q, Calls Try.prog 13 #[.pointer (some ⟨A3, 0, none⟩)] (wr.drewN q) fun e w' => e = .returned (.bool true) ∧ w' = wr.drewN q := fun q => by
                have := done_any (kS.drewN q)
                rw [decide_eq_true hs] at this
                exact this
              rw [e1, e2] at Kg
              have hdd : (v != v) = false := by simp
              clear e1 e2 hs hj
              by_cases hj16 : j < 16
              · have hj16' : (j : Int) < 16 := by omega
                go_wp2_with (first
                  | (go_at_call 13; refine Kd.mono ?_; clear Kd; rintro e wr ⟨rfl, rfl⟩)
                  | (go_at_call 16; refine Kg.mono ?_; clear Kg; rintro e wz ⟨rfl, q, rfl⟩; have Kd2 := hkd q)
                  | (go_at_call 13; refine Kd2.mono ?_; clear Kd2; rintro e wz ⟨rfl, rfl⟩))
                go_roundg (go - 1)
                case measure => have := hI.out; omega
                case rel => exact ⟨i + 1, c', (by have := hI.out; omega), rfl, E.drewN _⟩
              · obtain rfl : j = 16 := by have := hJ.out; omega
                go_wp2_with (first
                  | (go_at_call 16; refine Kg.mono ?_; clear Kg; rintro e wz ⟨rfl, q, rfl⟩; clear Kd; have Kd2 := hkd q)
                  | (go_at_call 13; refine Kd2.mono ?_; clear Kd2; rintro e wz ⟨rfl, rfl⟩))
                go_roundg (go - 1)
                case measure => have := hI.out; omega
                case rel => exact ⟨i + 1, c', (by have := hI.out; omega), rfl, E.drewN _⟩
            · have hj16 : j < 16 := by
                by_cases d : j < 16
                · exact d
                · obtain rfl : gk = 0 := by omega
                  have e0 : (c', S) = X := hr.out
                  have := hXB.out.2.1
                  rw [← e0] at this
                  exact absurd this hs
              obtain ⟨g, rfl⟩ : ∃ g, gk = g + 1 := ⟨gk - 1, by omega⟩
              rw [decide_eq_false hs] at Kd
              have hr2 : Aside (runs g (S.after c') (S.nxt c') = X) := by
                simp only [Aside]
                have := hr.out
                rw [runs_step _ _ hs] at this
                exact this
              have Ks := s_step E kS F a3
              have F2 : Fit (4 * n) (S.nxt c') := F.step E.fit
              generalize S.nxt c' = S2 at Ks F2 hr2
              generalize S.after c' = c3 at Ks hr2
              generalize decide (S2.st = 0) = bd at Ks
              have hj16' : (j : Int) < 16 := by omega
              clear hs hj
              go_wp2_with (first
                | (go_at_call 13; refine Kd.mono ?_; clear Kd; rintro e wr ⟨rfl, rfl⟩)
                | (go_at_call 15; refine Ks.mono ?_; clear Ks; rintro e w9 ⟨rfl, Z6, k6, _⟩))
              go_roundg g
              case measure => omega
              case rel => exact ⟨j + 1, c3, S2, (by have := hJ.out; omega), rfl, hr2, Z6, k6, F2⟩
        · obtain rfl : i = len := by have := hI.out; omega
          go_wp2_with fail
          go_ret
          exact ⟨rfl, E.old⟩
end Go.Proofs.Ytekeabiokiacnaa
