/-
  The walk of CacheCells: for every number of lines and every keys it tells true, and old memory is as it was.
-/
import Derived.Test.YtekeabiokiacnaaUse
import Derived.Test.YtekeabiokiacnaaArg
namespace Go.Proofs.Ytekeabiokiacnaa
open Go Go.RowKit

set_option maxRecDepth 100000 in
theorem cells_off (z : Int) (ad : Option Addr) (len cap : Nat) (W : World) (hlen : 40 < len) :
    Calls Try.prog 6 #[.int .u8 z, .slice ad len cap] W fun e w' => e = .returned (.bool true) ∧ Below W.heap.size W w' := by
  have K0 := known_any W
  have hd : decide (40 < (len : Int)) = true := by simp; omega
  go_enter Try.func6, Try.ntmps6
  go_wp2_with (first
    | (go_at_call 7; refine K0.mono ?_; clear K0; rintro e w1 ⟨rfl, b1⟩))
  go_ret
  exact ⟨rfl, b1⟩

set_option maxHeartbeats 4000000 in
set_option maxRecDepth 100000 in
theorem cells_walk (z : Int) (ad : Option Addr) (len cap b off : Nat) (Z : Nat → Int) (W : World) (hz : 0 ≤ z ∧ z ≤ 255) (hZ : Words W ad len b off Z) (hlen : len ≤ 40) :
    Calls Try.prog 6 #[.int .u8 z, .slice ad len cap] W fun e w' => e = .returned (.bool true) ∧ Below W.heap.size W w' := by
  obtain ⟨n, hn, hn1, hn2⟩ : ∃ n : Nat, z % 9 + 1 = (n : Int) ∧ 1 ≤ n ∧ n ≤ 9 := ⟨(z % 9 + 1).toNat, by omega, by omega, by omega⟩
  have K0 := known_any W
  have Kc := fun w => cells_any n w (by omega)
  have Kz : ∀ w, Calls Try.prog 9 #[.int .i64 0] w fun e w' => e = .returned (.int .i64 0) ∧ w' = w := fun w => cells_any 0 w (by omega)
  have hd : decide (40 < (len : Int)) = false := by simp; omega
  have hd4 : ¬ 40 < len := by omega
  have hheld : held (4 * (n : Int) + 2) = 4 * n + 2 := by
    have := held_nat (4 * n + 2) (by omega)
    rw [← this]
    congr 1
  have h41 : Aside (((4 * n + 1 : Nat) : Int) = 4 * (n : Int) + 1) := by simp only [Aside]; omega
  have q1 : ¬ 4 * (n : Int) < (n : Int) := by omega
  have q2 : ¬ 4 * (n : Int) < 4 * (n : Int) := by omega
  have hc0 : U64 (upd (upd (fun _ => 0) 0 5) (4 * n + 1) 6) := upd_fit (upd_fit empty_fit (by omega) _) (by omega) _
  have hc1 : Aside (upd (upd (fun _ => 0) 0 5) (4 * n + 1) 6 0 = 5 ∧ upd (upd (fun _ => 0) 0 5) (4 * n + 1) 6 (4 * n + 1) = 6) := ⟨by rw [upd_other _ _ (by omega), upd_same], upd_same _ _ _⟩
  obtain ⟨c0, hc⟩ : ∃ c0, upd (upd (fun _ => 0) 0 5) (4 * n + 1) 6 = c0 := ⟨_, rfl⟩
  rw [hc] at hc0 hc1
  have hcA : Aside (upd (upd (fun _ => 0) 0 5) (4 * n + 1) 6 = c0) := hc
  clear hc
  go_enter Try.func6, Try.ntmps6
  go_wp2_with (first
    | (go_at_call 7; refine K0.mono ?_; clear K0; rintro e w1 ⟨rfl, b1⟩; have K1 := new_any (4 * (n : Int) + 2) w1; rw [hheld] at K1; obtain ⟨R, hR⟩ : ∃ R, R = w1.heap.size := ⟨_, rfl⟩; have hRA : Aside (R = w1.heap.size) := hR; rw [← hR] at K1; clear hR)
    | (go_at_call 9; refine (Kc _).mono ?_; clear Kc; rintro e w1 ⟨rfl, rfl⟩)
    | (go_at_call 8; refine K1.mono ?_; clear K1; rintro e w2 ⟨rfl, m2, b2, s2⟩; have s2A : Aside (w2.heap.size = R + 2) := s2; clear s2; have K2 := store_in (R + 1) R (4 * n + 2) _ 0 0 w2 0 5 (by omega) m2)
    | (go_at_call 19; refine K2.mono ?_; clear K2; rintro e w3 ⟨rfl, m3, b3⟩; have K3 := store_in (R + 1) R (4 * n + 2) _ _ 0 w3 (4 * n + 1) 6 (by omega) m3; rw [hcA.out, h41.out] at K3)
    | (go_at_call 19; refine K3.mono ?_; clear K3; rintro e w4 ⟨rfl, m4, b4⟩; have K4 := cache_new m4 1 n hn1 (by omega) (by omega) (by omega) hc0)
    | (go_at_call 10; refine K4.mono ?_; clear K4; rintro e w5 ⟨rfl, h5, b5, s5⟩; have s5A : Aside (w5.heap.size = w4.heap.size + 1) := s5; clear s5; have K5 := cache_none h5.mem 3 n hn1 (by omega) (by omega) (by omega) (by omega); have K6 := cache_zero (R + 1) 1 w5)
    | (go_at_call 10; refine K5.mono ?_; clear K5; rintro e w5 ⟨rfl, rfl⟩)
    | (go_at_call 10; refine K6.mono ?_; clear K6; rintro e w5 ⟨rfl, rfl⟩)
    | (go_at_call 9; refine (Kz _).mono ?_; clear Kz; rintro e w5 ⟨rfl, rfl⟩))
  obtain ⟨T, hT⟩ : ∃ T, T = w4.heap.size := ⟨_, rfl⟩
  have start : Stand W w5 R (4 * n + 2) T 1 n c0 := by
    have q3 := hRA.out
    have q4 := s2A.out
    have q5 := b1.size
    rw [hT]
    have B2 : Below W.heap.size W w2 := far b1 (by rw [← q3]; exact b2) (by omega)
    have B3 := B2.trans (b3.below (B := W.heap.size) (by omega) (by omega) (by omega))
    have B4 := B3.trans (b4.below (B := W.heap.size) B3.size (by omega) (by omega))
    exact ⟨⟨_, _, h5⟩, far B4 b5 B4.size, by omega⟩
  rw [← hT]
  clear hT h5 m4 b4 m3 b3 m2 b2 b5 b1 s5A s2A hRA hcA hc0 hn hz
  have hlines : ∀ key : Int, 1 ≤ line 1 n key ∧ line 1 n key + 4 ≤ 4 * n + 1 := fun key => by have := home_lt key hn1; unfold line; omega
  go_loopg [14] len (fun g si wr => ∃ (i : Nat) (c : Nat → Int), i + g = len ∧ si = .int .i64 (i : Int) ∧ Stand W wr R (4 * n + 2) T 1 n c ∧ Aside (c 0 = 5 ∧ c (4 * n + 1) = 6))
  case atStart => exact ⟨0, c0, by omega, rfl, start, hc1⟩
  case round =>
    obtain ⟨i, c, hi, rfl, E, hcc⟩ := hrel
    have hI : Aside (i + gk = len) := hi
    clear hi start hc1
    by_cases hil : i < len
    · have hil' : (i : Int) < (len : Int) := by omega
      obtain rfl := hZ.ad_ (by omega)
      have hc := hZ.kept E.old hil
      have hx := hZ.val i hil
      have hkeep : ∀ {u}, Below W.heap.size W u → u.cell? ⟨b, off + i, none⟩ = some (.int .u64 (Z i)) := fun k => hZ.kept k hil
      generalize Z i = x at hc hx hkeep
      obtain ⟨y, hy⟩ : ∃ y, (x + 1) % 18446744073709551616 = y := ⟨_, rfl⟩
      have hyw : IntKind.u64.wrap (x + 1) = y := by rw [IntKind.wrap_u64]; exact hy
      have hyb : 0 ≤ y ∧ y ≤ 18446744073709551615 := by omega
      obtain ⟨L, hL⟩ : ∃ L, line 1 n x = L := ⟨_, rfl⟩
      have hLA : Aside (line 1 n x = L) := hL
      have hLb := hlines x
      rw [hL] at hLb
      clear hL
      have ph := put_hits (c := c) (f := L) (key := x) (key' := x) (val := y) E.fit hx.1 hx.2 hyb.1 hyb.2
      have phA : Aside (Hits (putAt c L x y) L x) := ph.1.2 rfl
      have phB : Aside (jn (lo (putAt c L x y (L + 2))) (lo (putAt c L x y (L + 3))) = y) := ph.2
      have hcc2 : Aside (putAt c L x y 0 = 5 ∧ putAt c L x y (4 * n + 1) = 6) := ⟨by rw [putAt_other (by omega)]; exact hcc.out.1, by rw [putAt_other (by omega)]; exact hcc.out.2⟩
      clear ph
      obtain ⟨c2, hc2⟩ : ∃ c2, putAt c L x y = c2 := ⟨_, rfl⟩
      rw [hc2] at phA phB hcc2
      have hcE : Aside (putAt c L x y = c2) := hc2
      clear hc2
      have G1 := s_put E.drew x y hLA.out hx.1 hx.2 hyb.1 hyb.2
      have hcd : wr.drew.cell? ⟨b, off + i, none⟩ = some (.int .u64 x) := hc
      go_wp2_with fail
      go_region_held3 (fun u => u.cell? ⟨b, off + i, none⟩ = some (.int .u64 x)) (first | assumption | exact hcd) (first
        | (go_at_call 11; refine G1.mono ?_; clear G1; rintro e w6 ⟨A2, rfl, k2, a2, Z3, _, _⟩; have G2 := s_done Z3 x y hLA.out hx.1 hx.2 hyb.1 hyb.2 k2 a2; rw [hcE.out] at G2; have hc6 := hkeep Z3.old)
        | (go_at_call 17; refine G2.mono ?_; clear G2; rintro e w7 ⟨rfl, Z4, _⟩; have G3 := s_get Z4 x hLA.out hx.1 hx.2; have hc7 := hkeep Z4.old))
      go_wp2_with (first
        | (go_at_call 12; refine G3.mono ?_; clear G3; rintro e w8 ⟨A3, rfl, k3, a3, Z5, _, _⟩; have G4 := s_hit Z5 x hLA.out hx.1 hx.2 k3 a3 phA.out y phB.out; have hc8 := hkeep Z5.old)
        | (go_at_call 17; refine G4.mono ?_; clear G4; rintro e w9 ⟨rfl, Z6, _⟩; have hc9 := hkeep Z6.old))
      go_roundg (gk - 1)
      case measure => have := hI.out; omega
      case rel => exact ⟨i + 1, c2, (by have := hI.out; omega), rfl, Z6, hcc2⟩
    · obtain rfl : i = len := by have := hI.out; omega
      obtain ⟨o, f, H⟩ := E.sys
      have K1 := load_in (R + 1) R (4 * n + 2) c o f wr 0 (by omega) H.mem
      rw [hcc.out.1] at K1
      have hA := E
      go_wp2_with (first
        | (go_at_call 20; refine K1.mono ?_; clear K1; rintro e w6 ⟨rfl, m6, b6⟩; have K2 := load_in (R + 1) R (4 * n + 2) c _ f w6 (4 * n + 1) (by omega) m6; rw [hcc.out.2, h41.out] at K2)
        | (go_at_call 20; refine K2.mono ?_; clear K2; rintro e w7 ⟨rfl, m7, b7⟩))
      go_ret
      have hR := E.hR
      exact ⟨rfl, (E.old.trans (b6.below E.size (by omega) hR)).trans (b7.below (Nat.le_trans E.size b6.size) (by omega) hR)⟩
end Go.Proofs.Ytekeabiokiacnaa
