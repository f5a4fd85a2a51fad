/-
  The walk of OrderSwaps: for every number and every row of levels it tells true, and old memory is as it was.
-/
import Derived.Test.YthpancffloplkaaKnown
namespace Go.Proofs.Ythpancffloplkaa
open Go Go.RowKit

/-- Each is the other one's way back. -/
structure Perm (n : Nat) (v l : Nat → Nat) : Prop where
  va : ∀ i, i < n → v i < n
  vl : ∀ i, i < n → l (v i) = i
  la : ∀ x, x < n → l x < n
  lv : ∀ x, x < n → v (l x) = x

theorem perm_idn (n : Nat) : Perm n (idn n) (idn n) :=
  ⟨fun i hi => by simp [idn, hi], fun i hi => by simp [idn, hi], fun i hi => by simp [idn, hi], fun i hi => by simp [idn, hi]⟩

theorem swV_at (v : Nat → Nat) (k i : Nat) : swV v k i = if i = k + 1 then v k else if i = k then v (k + 1) else v i := by
  simp only [swV, upd]
theorem swL_at (v l : Nat → Nat) (k x : Nat) : swL v l k x = if x = v k then k + 1 else if x = v (k + 1) then k else l x := by
  simp only [swL, upd]

theorem swV_twice (v : Nat → Nat) (k : Nat) : swV (swV v k) k = v := by
  funext i
  rw [swV_at, swV_at, swV_at, swV_at]
  by_cases h1 : i = k + 1
  · subst h1; simp
  · by_cases h2 : i = k
    · subst h2; simp
    · simp [h1, h2]
theorem swV_k (v : Nat → Nat) (k : Nat) : swV v k k = v (k + 1) := by rw [swV_at, if_neg (by omega), if_pos rfl]
theorem swV_k1 (v : Nat → Nat) (k : Nat) : swV v k (k + 1) = v k := by rw [swV_at, if_pos rfl]

theorem swL_twice {n : Nat} {v l : Nat → Nat} (p : Perm n v l) {k : Nat} (hk : k + 1 < n) : swL (swV v k) (swL v l k) k = l := by
  funext x
  have h0 := p.vl k (by omega)
  have h1 := p.vl (k + 1) (by omega)
  rw [swL_at, swL_at, swV_k, swV_k1]
  by_cases e1 : x = v (k + 1)
  · rw [if_pos e1, e1, h1]
  · rw [if_neg e1]
    by_cases e0 : x = v k
    · rw [if_pos e0, e0, h0]
    · rw [if_neg e0, if_neg e0, if_neg e1]

theorem Perm.ne {n : Nat} {v l : Nat → Nat} (p : Perm n v l) {i j : Nat} (hi : i < n) (hj : j < n) (h : i ≠ j) : v i ≠ v j := fun e => h (by rw [← p.vl i hi, e, p.vl j hj])

theorem Perm.swap {n : Nat} {v l : Nat → Nat} (p : Perm n v l) {k : Nat} (hk : k + 1 < n) : Perm n (swV v k) (swL v l k) where
  va i hi := by
    rw [swV_at]
    split
    · exact p.va k (by omega)
    · split
      · exact p.va (k + 1) (by omega)
      · exact p.va i hi
  vl i hi := by
    rw [swV_at]
    by_cases h1 : i = k + 1
    · rw [if_pos h1, swL_at, if_pos rfl, h1]
    · rw [if_neg h1]
      by_cases h2 : i = k
      · rw [if_pos h2, swL_at, if_neg (p.ne hk (by omega) (by omega)), if_pos rfl, h2]
      · rw [if_neg h2, swL_at, if_neg (p.ne hi (by omega) h2), if_neg (p.ne hi hk h1)]
        exact p.vl i hi
  la x hx := by
    rw [swL_at]
    split
    · omega
    · split
      · omega
      · exact p.la x hx
  lv x hx := by
    rw [swL_at]
    by_cases h1 : x = v k
    · rw [if_pos h1, swV_k1, h1]
    · rw [if_neg h1]
      by_cases h2 : x = v (k + 1)
      · rw [if_pos h2, swV_k, h2]
      · rw [if_neg h2, swV_at, if_neg (fun e => h2 (by rw [← e, p.lv x hx])), if_neg (fun e => h1 (by rw [← e, p.lv x hx]))]
        exact p.lv x hx

theorem Moved.away {P : Nat} {W a b : World} (h : Below W.heap.size W a) (m : Moved P a b) (hP : W.heap.size ≤ P) : Below W.heap.size W b := h.trans (m.below h.size hP)

set_option maxHeartbeats 1600000 in
set_option maxRecDepth 100000 in
theorem swaps_walk (a : Int) (ha : 0 ≤ a ∧ a ≤ 255) (ad : Option Addr) (b off len cap : Nat) (Z : Nat → Int) (hZ : ∀ k, k < len → 0 ≤ Z k ∧ Z k ≤ 255) (W : World) (hb : 0 < len → b < W.heap.size)
    (hcell : ∀ k, k < len → W.cell? ⟨b, off + k, none⟩ = some (.int .u8 (Z k))) (hlen : len ≤ 60) (had : Aside (0 < len → ad = some ⟨b, off, none⟩)) :
    Calls Try.prog 4 #[.int .u8 a, .slice ad len cap] W fun e w' => e = .returned (.bool true) ∧ Below W.heap.size W w' := by
  have hd : decide (60 < (len : Int)) = false := by simp; omega
  obtain ⟨n, hnn⟩ : ∃ n : Nat, a % 8 + 1 = (n : Int) := ⟨(a % 8 + 1).toNat, by omega⟩
  have hn1 : 1 ≤ n ∧ n ≤ 8 := by omega
  have H0 := known_any W
  go_enter Try.func4, Try.ntmps4
  go_wp2_with (first
    | (go_at_call 6; refine H0.mono ?_; clear H0; rintro e w1 ⟨rfl, b1⟩; have H1 := new_any (n : Int) w1; rw [show heldN (n : Int) = n by (unfold heldN; rw [if_neg (by omega), if_neg (by omega)]; omega)] at H1)
    | (go_at_call 7; refine H1.mono ?_; clear H1; rintro e w2 ⟨rfl, o2, b2⟩))
  go_loopg [7] len (fun g si wr => ∃ (j : Nat) (v l : Nat → Nat), j + g = len ∧ si = .int .i64 (j : Int) ∧ IsOrd wr w1.heap.size n v l ∧ Perm n v l ∧ Below W.heap.size W wr)
  case atStart => exact ⟨0, _, _, by omega, rfl, o2, perm_idn n, below_far b1 b2⟩
  case round =>
    obtain ⟨j, v, l, hj, rfl, ho, hp, hB⟩ := hrel
    have hJ : Aside (j + gk = len) := hj
    by_cases hjl : j < len
    · have hb := hb (by omega)
      obtain rfl := had.out (by omega)
      clear had
      have hz := hZ j hjl
      have hc : wr.cell? ⟨b, off + j, none⟩ = some (.int .u8 (Z j)) := by rw [hB.cell hb]; exact hcell j hjl
      have hjl' : (j : Int) < (len : Int) := by omega
      generalize Z j = z at hz hc
      obtain ⟨k, hkn, hk⟩ : ∃ k : Nat, k < n ∧ z % (n : Int) = (k : Int) := ⟨(z % (n : Int)).toNat, by
        have := Int.emod_lt_of_pos z (show (0 : Int) < n by omega)
        have := Int.emod_nonneg z (show (n : Int) ≠ 0 by omega)
        omega, by
        have := Int.emod_nonneg z (show (n : Int) ≠ 0 by omega)
        omega⟩
      clear hj
      have K1 := all_any ho hn1.2
      obtain ⟨go, hgo⟩ : ∃ go, Aside (go = gk) := ⟨gk, rfl⟩
      by_cases hks : k + 1 < n
      · have hd1 : decide ((k : Int) < (n : Int) - 1) = true := by simp; omega
        have hPW : W.heap.size ≤ w1.heap.size := b1.size
        have hp1 := hp.swap hks
        have hne : Aside (¬ ((swV v k) k : Int) = (v k : Int)) := by
          have := hp.ne hks (show k < n by omega) (by omega)
          simp only [Aside]
          rw [swV_k]
          omega
        go_wp2_with (first
          | (go_at_call 13; refine K1.mono ?_; clear K1; rintro e w3 ⟨rfl, r3, b3⟩; have K2 := swap_in (ho.below b3) hn1.2 k hks hp.va)
          | (go_at_call 10; refine K2.mono ?_; clear K2; rintro e w4 ⟨rfl, o4, m4⟩; have K3 := swap_in o4 hn1.2 k hks hp1.va; rw [swV_twice, swL_twice hp hks] at K3)
          | (go_at_call 10; refine K3.mono ?_; clear K3; rintro e w5 ⟨rfl, o5, m5⟩; have K4 := all_any o5 hn1.2; have hP5 : wr.heap.size ≠ w1.heap.size := Nat.ne_of_gt ho.lt; have i5 : IntsAt w5 (some ⟨wr.heap.size, 0, none⟩) n (fun i => (v i : Int)) := (IntsAt.row r3).moved (m4.trans m5) (fun a h => by cases h; exact hP5))
          | (go_at_call 13; refine K4.mono ?_; clear K4; rintro e w6 ⟨rfl, r6, b6⟩; have K5 := same_any (c := n) (d := n) (IntsAt.row r6) (i5.below b6) (by omega); rw [sameB_true (fun _ _ => rfl)] at K5)
          | (go_at_call 12; refine K5.mono ?_; clear K5; rintro e w7 ⟨rfl, b7⟩; have K6 := swap_in ((o5.below b6).below b7) hn1.2 k hks hp.va; have i7 := (i5.below b6).below b7)
          | (go_at_call 10; refine K6.mono ?_; clear K6; rintro e w8 ⟨rfl, o8, m8⟩; have K7 := all_any o8 hn1.2; have i8 := i7.moved m8 (fun a h => by cases h; exact hP5))
          | (go_at_call 13; refine K7.mono ?_; clear K7; rintro e w9 ⟨rfl, r9, b9⟩; have K8 := same_any (c := n) (d := n) (IntsAt.row r9) (i8.below b9) (by omega); rw [sameB_false (show k < n by omega) hne.out] at K8)
          | (go_at_call 12; refine K8.mono ?_; clear K8; rintro e w10 ⟨rfl, b10⟩))
        have o9 := (o8.below b9).below b10
        have B9 : Below W.heap.size W w10 := below_far (below_far (Moved.away (below_far (below_far (Moved.away (Moved.away (below_far hB b3) m4 hPW) m5 hPW) b6) b7) m8 hPW) b9) b10
        go_loopg [11] n (fun g si wr => ∃ (q : Nat), q + g = n ∧ si = .int .i64 (q : Int) ∧ IsOrd wr w1.heap.size n (swV v k) (swL v l k) ∧ Below W.heap.size W wr)
        case atStart => exact ⟨0, by omega, rfl, o9, B9⟩
        case round =>
          obtain ⟨q, hq, rfl, hoq, hBq⟩ := hrel
          have hQ : Aside (q + gk = n) := hq
          by_cases hqn : q < n
          · have hqn' : (q : Int) < (n : Int) := by omega
            have L1 := level_in hoq hn1.2 q hqn
            have L2 := var_in hoq hn1.2 _ (hp1.la q hqn)
            rw [hp1.lv q hqn] at L2
            clear hq
            go_wp2_with (first
              | (go_at_call 16; refine L1.mono ?_; clear L1; rintro e w' ⟨rfl, rfl⟩)
              | (go_at_call 15; refine L2.mono ?_; clear L2; rintro e w' ⟨rfl, rfl⟩))
            go_roundg (gk - 1)
            case measure => have := hQ.out; omega
            case rel =>
              have hq := hQ.out
              exact ⟨q + 1, by omega, by go_num, hoq, hBq⟩
          · obtain rfl : q = n := by omega
            clear hq
            go_wp2_with fail
            go_roundg (go - 1)
            case measure => have := hJ.out; have := hgo.out; omega
            case rel =>
              have hj := hJ.out
              have := hgo.out
              exact ⟨j + 1, _, _, by omega, by go_num, hoq, hp1, hBq⟩
      · have hd1 : decide ((k : Int) < (n : Int) - 1) = false := by simp; omega
        go_wp2_with (first
          | (go_at_call 13; refine K1.mono ?_; clear K1; rintro e w3 ⟨rfl, r3, b3⟩; have K2 := swap_out (ho.below b3) hn1.2 (k : Int) (by omega))
          | (go_at_call 10; refine K2.mono ?_; clear K2; rintro e w4 ⟨rfl, rfl⟩))
        have o9 := ho.below b3
        have B9 := below_far hB b3
        go_loopg [11] n (fun g si wr => ∃ (q : Nat), q + g = n ∧ si = .int .i64 (q : Int) ∧ IsOrd wr w1.heap.size n v l ∧ Below W.heap.size W wr)
        case atStart => exact ⟨0, by omega, rfl, o9, B9⟩
        case round =>
          obtain ⟨q, hq, rfl, hoq, hBq⟩ := hrel
          have hQ : Aside (q + gk = n) := hq
          by_cases hqn : q < n
          · have hqn' : (q : Int) < (n : Int) := by omega
            have L1 := level_in hoq hn1.2 q hqn
            have L2 := var_in hoq hn1.2 _ (hp.la q hqn)
            rw [hp.lv q hqn] at L2
            clear hq
            go_wp2_with (first
              | (go_at_call 16; refine L1.mono ?_; clear L1; rintro e w' ⟨rfl, rfl⟩)
              | (go_at_call 15; refine L2.mono ?_; clear L2; rintro e w' ⟨rfl, rfl⟩))
            go_roundg (gk - 1)
            case measure => have := hQ.out; omega
            case rel =>
              have hq := hQ.out
              exact ⟨q + 1, by omega, by go_num, hoq, hBq⟩
          · obtain rfl : q = n := by omega
            clear hq
            go_wp2_with fail
            go_roundg (go - 1)
            case measure => have := hJ.out; have := hgo.out; omega
            case rel =>
              have hj := hJ.out
              have := hgo.out
              exact ⟨j + 1, _, _, by omega, by go_num, hoq, hp, hBq⟩
    · obtain rfl : j = len := by omega
      clear hj
      go_wp2_with fail
      go_ret
      exact ⟨rfl, hB⟩
end Go.Proofs.Ythpancffloplkaa
