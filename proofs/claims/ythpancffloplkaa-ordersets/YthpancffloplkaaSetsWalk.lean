/-
  The walk of OrderSets: for every two numbers and every row it tells true, and old memory is as it was.
-/
import Derived.Test.YthpancffloplkaaOwn
import Derived.Test.YthpancffloplkaaSwapsWalk
import Derived.Deep.Cut
namespace Go.Proofs.Ythpancffloplkaa
open Go Go.RowKit

theorem okAt_of {n : Nat} {Z : Nat → Int} {i : Nat} (h0 : 0 ≤ Z i ∧ Z i < (n : Int)) (hd : ∀ j, j < i → Z j ≠ Z i) : okAt n Z i = true := by
  cases e : seenB Z i (Z i).toNat with
  | false => simp only [okAt, e]; simp; omega
  | true =>
    obtain ⟨j, hj, e'⟩ := seenB_iff.1 e
    exact absurd (by rw [e']; omega) (hd j hj)
theorem okUpto_of {n : Nat} {Z : Nat → Int} : ∀ {k : Nat}, (∀ i, i < k → okAt n Z i = true) → okUpto n Z k = true
  | 0, _ => rfl
  | k + 1, h => by rw [okUpto, okUpto_of fun i hi => h i (by omega), h k (by omega)]; rfl
theorem permB_of {n : Nat} {Z : Nat → Int} (h0 : ∀ i, i < n → 0 ≤ Z i ∧ Z i < (n : Int)) (hd : ∀ i j, i < n → j < i → Z j ≠ Z i) : permB n Z n = true := by
  rw [permB, okUpto_of fun i hi => okAt_of (h0 i hi) fun j hj => hd i j hi hj]
  simp

/-- The variables turned. -/
def turned (n : Nat) (t : Int) (i : Nat) : Int := ((i : Int) + t) % (n : Int)
theorem turned_perm (n : Nat) (t : Int) (hn : 1 ≤ n ∧ n ≤ 8) : permB n (turned n t) n = true := by
  refine permB_of (fun i _ => ?_) (fun i j hi hj => ?_)
  · unfold turned
    exact ⟨Int.emod_nonneg _ (by omega), Int.emod_lt_of_pos _ (by omega)⟩
  · unfold turned
    have : n = 1 ∨ n = 2 ∨ n = 3 ∨ n = 4 ∨ n = 5 ∨ n = 6 ∨ n = 7 ∨ n = 8 := by omega
    rcases this with rfl | rfl | rfl | rfl | rfl | rfl | rfl | rfl <;> omega

theorem setV_int {v : Nat → Nat} {Z : Nat → Int} {len n : Nat} (hp : permB len Z n = true) : ∀ i, i < n → ((setV v Z n i : Nat) : Int) = Z i := fun i hi => by
  rw [setV_get v Z hi]
  have := (permB_spec hp).2.1 i hi
  omega

set_option maxHeartbeats 1600000 in
set_option maxRecDepth 100000 in
theorem sets_walk (a t : Int) (ha : 0 ≤ a ∧ a ≤ 255) (ht : 0 ≤ t ∧ t ≤ 255) (ad : Option Addr) (len cap : Nat) (Z : Nat → Int) (W : World) (hz : IntsAt W ad len Z) (hlen : len ≤ 12) :
    Calls Try.prog 5 #[.int .u8 a, .slice ad len cap, .int .u8 t] W fun e w' => e = .returned (.bool true) ∧ Below W.heap.size W w' := by
  have hd : decide (12 < (len : Int)) = false := by simp; omega
  obtain ⟨n, hnn⟩ : ∃ n : Nat, a % 8 + 1 = (n : Int) := ⟨(a % 8 + 1).toNat, by omega⟩
  have hn1 : 1 ≤ n ∧ n ≤ 8 := by omega
  have H0 := known_any W
  go_enter Try.func5, Try.ntmps5
  go_wp2_with (first
    | (go_at_call 6; refine H0.mono ?_; clear H0; rintro e w1 ⟨rfl, b1⟩; have H1 := new_any (n : Int) w1; rw [show heldN (n : Int) = n by (unfold heldN; rw [if_neg (by omega), if_neg (by omega)]; omega)] at H1)
    | (go_at_call 7; refine H1.mono ?_; clear H1; rintro e w2 ⟨rfl, o2, b2⟩))
  have hPW : W.heap.size ≤ w1.heap.size := b1.size
  have B2 : Below W.heap.size W w2 := below_far b1 b2
  go_loopg [9, 10] n (fun g st sv wr => ∃ (j : Nat) (ad' : Option Addr) (cap' : Nat), j + g = n ∧ st = .slice ad' j cap' ∧ sv = .int .i64 (j : Int) ∧ OwnI wr w2.heap.size ad' j cap' (turned n t) ∧ Below w2.heap.size w2 wr)
  case atStart => exact ⟨0, none, 0, by omega, rfl, rfl, OwnI.nil _ _ _, Below.refl _ _⟩
  case round =>
    obtain ⟨j, ad', cap', hj, rfl, rfl, hown, hB⟩ := hrel
    have hJ : Aside (j + gk = n) := hj
    by_cases hjn : j < n
    · have hjn' : (j : Int) < (n : Int) := by omega
      have hT : ((j : Int) + t) % (n : Int) = turned n t j := rfl
      clear hj
      go_wp2_with (first
        | (at_builtin; refine append_int (hown.new _) wr.heap.size (heap_alloc_new _ _) (by omega) (by have := hB.size; simp; omega) rfl _ _ rfl rfl rfl ?_; intro g cap2 w3 o3 b3))
      go_roundg (gk - 1)
      case measure => have := hJ.out; omega
      case rel =>
        have hj := hJ.out
        exact ⟨j + 1, _, _, by omega, rfl, by go_num, o3, (hB.alloc hB.size _).trans b3⟩
    · obtain rfl : j = n := by omega
      obtain ⟨g, rfl, hg1, hg2⟩ := hown.form (by omega)
      have ow := o2.below hB
      have hP2 := o2.lt
      have Bw : Below W.heap.size W wr := B2.trans (hB.mono B2.size)
      have hgP : g ≠ w1.heap.size := by omega
      have K1 := set_ok ow hown.ints hn1.2 (fun a h => by cases h; exact hgP) (turned_perm j t hn1) (c := cap')
      have hSame : ∀ i, i < j → ((setV (idn j) (turned j t) j i : Nat) : Int) = turned j t i := setV_int (turned_perm j t hn1)
      clear hj
      go_upto_region 15 with (first
        | (go_at_call 9; refine K1.mono ?_; clear K1; rintro e w4 ⟨rfl, o4, m4⟩; have K2 := all_any o4 hn1.2; have t4 := hown.moved m4 hP2)
        | (go_at_call 13; refine K2.mono ?_; clear K2; rintro e w5 ⟨rfl, r5, b5⟩; have K3 := same_any (c := j) (d := cap') (IntsAt.row r5) (t4.below b5).ints (by omega); rw [sameB_true hSame] at K3)
        | (go_at_call 12; refine K3.mono ?_; clear K3; rintro e w6 ⟨rfl, b6⟩; have t6 := (t4.below b5).below b6; have f6 := t6.frozen 0; have c6 := t6.cell (i := 0) (by omega)))
      have o7 : IsOrd (w6.setCell ⟨g, 0, none⟩ (.int .i64 99)) w1.heap.size j (setV (idn j) (turned j t) j) (setL (idn j) (turned j t) j) := ((o4.below b5).below b6).of_block (Below.heap_setCell _ _ _ _ (fun e => hgP e.symm))
      have B7 : Below W.heap.size W (w6.setCell ⟨g, 0, none⟩ (.int .i64 99)) := (below_far (below_far (Moved.away Bw m4 hPW) b5) b6).setCell (by have := B2.size; show W.heap.size ≤ g; omega) _
      generalize setV (idn j) (turned j t) j = v at o7
      generalize setL (idn j) (turned j t) j = l at o7
      generalize w6.setCell ⟨g, 0, none⟩ (.int .i64 99) = w7 at o7 B7
      have z7 := hz.below B7
      have K4 := all_any o7 hn1.2
      cases hp : permB len Z j with
      | true =>
        obtain ⟨hlj, hrg, hdd⟩ := permB_spec hp
        have hap := hz.apart (by omega) hPW
        have hV : Aside (∀ i, i < j → ((setV v Z j i : Nat) : Int) = Z i) := setV_int hp
        subst hlj
        clear hrg hdd
        go_wp2_with (first
          | (go_at_call 13; refine K4.mono ?_; clear K4; rintro e w8 ⟨rfl, r8, b8⟩; have K5 := set_ok (o7.below b8) (z7.below b8) hn1.2 hap hp (c := cap))
          | (go_at_call 9; refine K5.mono ?_; clear K5; rintro e w9 ⟨rfl, o9, m9⟩; have z9 := (z7.below b8).moved m9 hap; have K6 := perm_any z9 hn1.2 (c := cap); rw [hp] at K6)
          | (go_at_call 8; refine K6.mono ?_; clear K6; rintro e w10 ⟨rfl, b10⟩; have K7 := all_any (o9.below b10) hn1.2)
          | (go_at_call 13; refine K7.mono ?_; clear K7; rintro e w11 ⟨rfl, r11, b11⟩; have K8 := same_any (c := len) (d := cap) (IntsAt.row r11) ((z9.below b10).below b11) (by omega); rw [sameB_true hV.out] at K8)
          | (go_at_call 12; refine K8.mono ?_; clear K8; rintro e w12 ⟨rfl, b12⟩; have K9 := len_any (((o9.below b10).below b11).below b12))
          | (go_at_call 11; refine K9.mono ?_; clear K9; rintro e w13 ⟨rfl, rfl⟩))
        go_ret
        exact ⟨rfl, below_far (below_far (below_far (Moved.away (below_far B7 b8) m9 hPW) b10) b11) b12⟩
      | false =>
        go_wp2_with (first
          | (go_at_call 13; refine K4.mono ?_; clear K4; rintro e w8 ⟨rfl, r8, b8⟩; have K5 := set_no (o7.below b8) (z7.below b8) hn1.2 hp (c := cap))
          | (go_at_call 9; refine K5.mono ?_; clear K5; rintro e w9 ⟨rfl, b9⟩; have o9 := (o7.below b8).below b9; have K6 := all_any o9 hn1.2)
          | (go_at_call 13; refine K6.mono ?_; clear K6; rintro e w10 ⟨rfl, r10, b10⟩; have K7 := same_any (c := j) (d := j) (IntsAt.row r10) (((IntsAt.row r8).below b9).below b10) (by omega); rw [sameB_true (fun _ _ => rfl)] at K7)
          | (go_at_call 12; refine K7.mono ?_; clear K7; rintro e w11 ⟨rfl, b11⟩; have K8 := perm_any ((((z7.below b8).below b9).below b10).below b11) hn1.2 (n := j) (c := cap); rw [hp] at K8)
          | (go_at_call 8; refine K8.mono ?_; clear K8; rintro e w12 ⟨rfl, b12⟩))
        go_ret
        exact ⟨rfl, below_far (below_far (below_far (below_far (below_far B7 b8) b9) b10) b11) b12⟩
end Go.Proofs.Ythpancffloplkaa
