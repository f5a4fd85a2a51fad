/-
  BuildCubes, walked.
-/
import Derived.Test.YtfaccdnnjkkcfaaGreatDoorBdX
import Derived.Test.YtfaccdnnjkkcfaaGreatDoorBdZ
import Derived.Deep.LoopGhost
namespace Go.Proofs.YtfaccdnnjkkcfaaGreatDoor
open Go Go.RowKit
open Rf (fixAt fixF tab word same IsTab Cols countUpto)

theorem count_c {W w : World} {S r b x N m : Nat} {l : Kl} {X : Nat → Bool} (hN : N = 256) (h : Sx W w S 8 r l b) (hx : (x, X) ∈ l) (hm : countUpto X N = m) :
    Calls Tryz.prog 26 #[.pointer (some ⟨S, 0, none⟩), .int .u32 (x : Int)] w fun e w' => e = .returned (.tuple #[.int .u64 (m : Int), .int .i64 0]) ∧ Below w.heap.size w w' := by
  subst hm hN
  exact count_x h hx
set_option maxRecDepth 100000 in
set_option maxHeartbeats 4000000 in
theorem cubes_walk (a b p q : Nat) (ha : a < 256) (hb : b < 256) (hp : p < 256) (hq : q < 256) (W : World) (hC : Cols W) :
    Calls Tryz.prog 5 #[.int .u8 (a : Int), .int .u8 (b : Int), .int .u8 (p : Int), .int .u8 (q : Int)] W fun e w' => e = .returned (.bool true) ∧ Below W.heap.size W w' := by
  have Kk := bknown_any W hC
  clear hC
  go_enter Tryz.func5, Tryz.ntmps5
  go_upto_region 3 with (first
    | (go_at_call 8; refine Kk.mono ?_; clear Kk; rintro e v4 ⟨rfl, b4⟩))
  have Kn : Calls Tryz.prog 9 #[.int .i64 8, .int .i64 400] v4 _ := new_x W v4 8 400 (by omega) (by omega) (by omega) (by omega) b4
  clear b4
  go_upto_region 6 with (first
    | (go_at_call 9; refine Kn.mono ?_; clear Kn; rintro e w5 ⟨S, rfl, f5, x5, b5⟩))
  have K1 := cube_x x5 (by omega) a p ha hp
  have KM := fun z w => bmust_x z w
  clear f5 b5
  go_upto_region 7 with (first
    | (go_at_call_of 20 (Value.int .u8 (a : Int)); refine K1.mono ?_; clear K1; rintro e w6 ⟨x, rfl, x6, u6⟩; have K2 := cube_x x6 (by omega) b q hb hq)
    | (go_at_call 20; refine K2.mono ?_; clear K2; rintro e w7 ⟨y, rfl, x7, u7⟩)
    | (go_at_call 25; refine (KM _ _).mono ?_; rintro e wm ⟨rfl, em⟩; subst wm))
  obtain ⟨c, hc⟩ : ∃ c, 2 ^ (8 - onesN a 8) = c := ⟨_, rfl⟩
  have hcA : Aside (2 ^ (8 - onesN a 8) = c) := hc
  have K3 := count_c rfl x7 (x := x) (X := cubeF a p) (.tail _ (.head _)) ((cube_cnt a p 256 rfl).trans hc)
  clear hc x5 x6 u6 u7
  go_upto_region 10 with (first
    | (go_at_call 26; refine K3.mono ?_; clear K3; rintro e w8 ⟨rfl, b8⟩))
  have x8 : Aside (Sx W w8 S 8 400 [(y, cubeF b q), (x, cubeF a p), (0, c0), (1, c1)] (0 + 63 + 63)) := x7.below b8
  clear x7 b8
  go_loopg [14, 15] 8 (fun gg s14 s15 wr => ∃ v : Nat, v + gg = 8 ∧ s14 = .int .i64 ((8 - onesN a v : Nat) : Int) ∧ s15 = .int .i64 (v : Int) ∧ wr = w8)
  case atStart => exact ⟨0, rfl, rfl, rfl, rfl⟩
  case round =>
    obtain ⟨v, hv, rfl, rfl, rfl⟩ := hrel
    have hV : Aside (v + gk = 8) := hv
    by_cases hlt : v < 8
    · have hlt' : (v : Int) < 8 := by omega
      have bm := bit8 a v ha hlt
      have mv : min v 8 = v := by omega
      have hltA : Aside (v < 8) := hlt
      have le := onesN_le a v
      have e : onesN a (v + 1) = onesN a v + if a.testBit v then 1 else 0 := rfl
      obtain ⟨k, hk⟩ : ∃ k, 8 - onesN a v = k := ⟨_, rfl⟩
      obtain ⟨k', hk'⟩ : ∃ k', 8 - onesN a (v + 1) = k' := ⟨_, rfl⟩
      have hk'A : Aside (8 - onesN a (v + 1) = k') := hk'
      rw [hk]
      cases hbm : a.testBit v with
      | false =>
        rw [hbm] at bm e
        simp only [Bool.false_eq_true, if_false, Int.ofNat_zero, Nat.add_zero] at bm e
        have ek : IntKind.i64.wrap ((k : Int) - 0) = (k' : Int) := by rw [IntKind.wrap_i64]; omega
        have ek' : Aside ((k : Int) = (k' : Int)) := by show (k : Int) = (k' : Int); omega
        have kb : k ≤ 8 := by omega
        clear hbm e le hk hk' hv hlt
        go_wp2_with fail
        go_roundg (gk - 1)
        case measure => have := hV.out; have := hltA.out; omega
        case rel =>
          have := hV.out
          have := hltA.out
          exact ⟨v + 1, by omega, by rw [hk'A.out, ← ek'.out], by go_num, rfl⟩
      | true =>
        rw [hbm] at bm e
        simp only [if_true] at bm e
        have ek : IntKind.i64.wrap ((k : Int) - 1) = (k' : Int) := by rw [IntKind.wrap_i64]; omega
        have ek' : Aside ((k : Int) - 1 = (k' : Int)) := by show (k : Int) - 1 = (k' : Int); omega
        have kb : k ≤ 8 := by omega
        clear hbm e le hk hk' hv hlt
        go_wp2_with fail
        go_roundg (gk - 1)
        case measure => have := hV.out; have := hltA.out; omega
        case rel =>
          have := hV.out
          have := hltA.out
          exact ⟨v + 1, by omega, by rw [hk'A.out], by go_num, rfl⟩
    · obtain rfl : v = 8 := by omega
      obtain ⟨k, hk⟩ : ∃ k, 8 - onesN a 8 = k := ⟨_, rfl⟩
      have cA := hcA.out
      rw [hk] at cA ⊢
      have k8 : k ≤ 8 := by omega
      have mk : min k 64 = k := by omega
      have cb : c ≤ 256 := by rw [← cA]; exact Nat.pow_le_pow_right (n := 2) (j := 8) (by omega) k8
      have sh : IntKind.u64.wrap (2 ^ k) = (c : Int) := by
        have e : ((2 : Int) ^ k) = (c : Int) := by rw [← cA]; push_cast; rfl
        rw [e, IntKind.wrap_u64]
        omega
      have xlt : p ^^^ q < 256 := Nat.xor_lt_two_pow (n := 8) hp hq
      obtain ⟨t1, ht1⟩ : ∃ t, p ^^^ q = t := ⟨_, rfl⟩
      have q1 : bits .xor .u8 (p : Int) (q : Int) = (t1 : Int) := by rw [u8_xor_nat p q hp hq, ht1]
      rw [ht1] at xlt
      have xlt2 : t1 &&& a < 256 := Nat.and_lt_two_pow (n := 8) _ ha
      obtain ⟨t2, ht2⟩ : ∃ t, t1 &&& a = t := ⟨_, rfl⟩
      have q2 : bits .and .u8 (t1 : Int) (a : Int) = (t2 : Int) := by rw [u8_and_nat t1 a xlt ha, ht2]
      rw [ht2] at xlt2
      obtain ⟨t3, ht3⟩ : ∃ t, t2 &&& b = t := ⟨_, rfl⟩
      have q3 : bits .and .u8 (t2 : Int) (b : Int) = (t3 : Int) := by rw [u8_and_nat t2 b xlt2 hb, ht3]
      have meetE : ((p ^^^ q) &&& a) &&& b = t3 := by rw [ht1, ht2, ht3]
      have K4 := and_x x8.out (x := x) (X := cubeF a p) (y := y) (Y := cubeF b q) (.tail _ (.head _)) (.head _) 63 (by decide) (by decide)
      have xne : c = c := rfl
      clear ht1 ht2 ht3 xlt xlt2 hk cA xne hv hlt
      by_cases ht : t3 = 0
      · subst ht
        have em := cube_meet meetE
        have hab : a ||| b < 256 := Nat.or_lt_two_pow (n := 8) ha hb
        have hpa : p &&& a < 256 := Nat.and_lt_two_pow (n := 8) _ ha
        have hqb : q &&& b < 256 := Nat.and_lt_two_pow (n := 8) _ hb
        have hpq : p &&& a ||| q &&& b < 256 := Nat.or_lt_two_pow (n := 8) hpa hqb
        obtain ⟨r1, hr1⟩ : ∃ t, a ||| b = t := ⟨_, rfl⟩
        obtain ⟨r2, hr2⟩ : ∃ t, p &&& a = t := ⟨_, rfl⟩
        obtain ⟨r3, hr3⟩ : ∃ t, q &&& b = t := ⟨_, rfl⟩
        have g1 : bits .or .u8 (a : Int) (b : Int) = (r1 : Int) := by rw [u8_or_nat a b ha hb, hr1]
        have g2 : bits .and .u8 (p : Int) (a : Int) = (r2 : Int) := by rw [u8_and_nat p a hp ha, hr2]
        have g3 : bits .and .u8 (q : Int) (b : Int) = (r3 : Int) := by rw [u8_and_nat q b hq hb, hr3]
        rw [hr1] at hab em
        rw [hr2, hr3] at hpq em
        rw [hr2] at hpa
        rw [hr3] at hqb
        obtain ⟨r4, hr4⟩ : ∃ t, r2 ||| r3 = t := ⟨_, rfl⟩
        have g4 : bits .or .u8 (r2 : Int) (r3 : Int) = (r4 : Int) := by rw [u8_or_nat r2 r3 hpa hqb, hr4]
        rw [hr4] at hpq em
        have emA : Aside (Eqt (fA (cubeF a p) (cubeF b q)) (cubeF r1 r4)) := em
        clear hr1 hr2 hr3 hr4 em meetE hpa hqb
        go_upto_region 15 with (first
          | (go_at_call 27; refine K4.mono ?_; clear K4; rintro e w9 ⟨z, rfl, x9, u9⟩)
          | (go_at_call 25; refine (KM _ _).mono ?_; rintro e wm ⟨rfl, em⟩; subst wm))
        have zne : z ≠ 0 := fun e0 => cube_some r1 r4 hpq (emA.out.symm.trans ((x9.one (x := z) (y := 0) (X := fA (cubeF a p) (cubeF b q)) (Y := c0) (.head _) (.tail _ (.tail _ (.tail _ (.head _))))).1 e0))
        have K5 := cube_x x9 (by omega) r1 r4 hab hpq
        have zn : ((z : Int) != 0) = true := by rw [bne_iff_ne]; omega
        have zn' : (z != 0) = true := by rw [bne_iff_ne]; exact zne
        have zn2 : ¬ (z : Int) = 0 := by omega
        have zb := x9.bound (x := z) (.head _)
        have sm : Aside (∀ (z2 : Nat) (u : World), Sx W u S 8 400 [(z2, cubeF r1 r4), (z, fA (cubeF a p) (cubeF b q)), (y, cubeF b q), (x, cubeF a p), (0, c0), (1, c1)] (0 + 63 + 63 + 63 + 63) → z2 = z) := fun z2 u h => h.same (.head _) (.tail _ (.head _)) emA.out.symm
        clear u9 x9
        go_wp2_with (first
          | (go_at_call 20; refine K5.mono ?_; clear K5; rintro e w10 ⟨z2, rfl, x10, u10⟩; obtain rfl := sm.out z2 _ x10; have bA : Aside (Below W.heap.size W w10) := x10.base; clear x10 u10)
          | (go_at_call 25; refine (KM _ _).mono ?_; rintro e wm ⟨rfl, em⟩; subst wm))
        go_ret
        exact ⟨by simp, bA.out⟩
      · have ea := cube_apart ha (show ((p ^^^ q) &&& a) &&& b ≠ 0 by rw [meetE]; exact ht)
        have eaA : Aside (Eqt (fA (cubeF a p) (cubeF b q)) c0) := ea
        have tn : ((t3 : Int) == 0) = false := by rw [beq_eq_false_iff_ne]; omega
        have tn2 : ¬ (t3 : Int) = 0 := by omega
        clear meetE ea
        go_upto_region 15 with (first
          | (go_at_call 27; refine K4.mono ?_; clear K4; rintro e w9 ⟨z, rfl, x9, u9⟩; have z0 : z = 0 := x9.same (.head _) (.tail _ (.tail _ (.tail _ (.head _)))) eaA.out; subst z0; have bA : Aside (Below W.heap.size W w9) := x9.base; clear x9 u9)
          | (go_at_call 25; refine (KM _ _).mono ?_; rintro e wm ⟨rfl, em⟩; subst wm))
        go_wp2_with fail
        go_ret
        exact ⟨by simp, bA.out⟩
end Go.Proofs.YtfaccdnnjkkcfaaGreatDoor
