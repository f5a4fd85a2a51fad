/-
  The heap of the library over the queue's row: up, down.
-/
import Derived.Test.YthcjmbfhcdkffaaSwap
import Derived.Test.YthcjmbfhcdkffaaEnds
namespace Go.Proofs.Ythcjmbfhcdkffaa
open Go Go.RowKit
section
variable {w : World} {Q N n cap : Nat} {ad : Option Addr} {mp : Option Nat} {I : Nat → Int × Int}

set_option maxHeartbeats 1600000 in
theorem up_any (h : IsQ w Q ad N cap mp I) (hN : N ≤ 1000000) (hn : n ≤ N) (j : Nat) (hj : j < n) (hu : UpPre I n j) :
    Calls Try.prog 24 #[.iface 53 (.pointer (some ⟨Q, 0, none⟩)), .int .i64 (j : Int)] w fun e w' => e = .returned (.tuple #[]) ∧ ∃ J, IsQ w' Q ad N cap mp J ∧ Heap J n ∧ Same n I J ∧ (∀ k, n ≤ k → J k = I k) ∧ Moved (Foot Q ad mp) w w' := by
  go_enter Try.func24, Try.ntmps24
  go_wp2
  go_loopg [1] j (fun g sv wr => ∃ J, g < n ∧ sv = .int .i64 (g : Int) ∧ IsQ wr Q ad N cap mp J ∧ UpPre J n g ∧ Same n I J ∧ (∀ k, n ≤ k → J k = I k) ∧ Moved (Foot Q ad mp) w wr)
  case atStart => exact ⟨I, hj, rfl, h, hu, Same.refl n I, fun _ _ => rfl, Moved.refl _ _⟩
  case round =>
    obtain ⟨J, hg, rfl, hq, hu', hs, ho, hm⟩ := hrel
    by_cases h0 : gk = 0
    · subst h0
      go_wp2
      go_end0
      exact ⟨rfl, J, hq, hu'.stop0, hs, ho, hm⟩
    · have hp1 : ((gk : Int) - 1) / 2 = (par gk : Int) := by unfold par; omega
      have hp2 : ¬ (par gk : Int) = (gk : Int) := by unfold par; omega
      have hp3 : par gk < n := by unfold par; omega
      have hp4 : par gk ≠ gk := by unfold par; omega
      have K1 := less_any hq gk (par gk) (by omega) (by omega)
      cases hb : bet (J gk) (J (par gk)) with
      | false =>
        rw [hb] at K1
        go_wp2_with (first
          | (go_at_call 44; refine K1.mono ?_; clear K1; rintro e w1 ⟨rfl, b1⟩))
        go_end0
        exact ⟨rfl, J, hq.below b1, hu'.stop hb, hs, ho, hm.trans (Moved.of_below b1)⟩
      | true =>
        rw [hb] at K1
        go_wp2_with (first
          | (go_at_call 44; refine K1.mono ?_; clear K1; rintro e w1 ⟨rfl, b1⟩; have K2 := swap_any (hq.below b1) (par gk) gk (by omega) (by omega) hp4)
          | (go_at_call 47; refine K2.mono ?_; clear K2; rintro e w2 ⟨rfl, q2, m2⟩))
        go_roundg (par gk)
        case measure => unfold par; omega
        case rel =>
          exact ⟨_, hp3, rfl, q2, hu'.step (by omega) hg hb, hs.trans (Same.swapped hp3 hg), fun k hk => by rw [swp_o J (by omega) (by omega)]; exact ho k hk, (hm.trans (Moved.of_below b1)).trans m2⟩

theorem kids {s i : Nat} (h0 : 0 < s) (h : par s = i) : s = 2 * i + 1 ∨ s = 2 * i + 2 := by unfold par at h; omega

set_option maxHeartbeats 4000000 in
theorem down_any (h : IsQ w Q ad N cap mp I) (hN : N ≤ 1000000) (hn : n ≤ N) (i0 : Nat) (hi0 : i0 < n) (hd : DnPre I n i0) :
    Calls Try.prog 27 #[.iface 53 (.pointer (some ⟨Q, 0, none⟩)), .int .i64 (i0 : Int), .int .i64 (n : Int)] w fun e w' => ∃ (b : Bool) (J : Nat → Int × Int), e = .returned (.bool b) ∧ IsQ w' Q ad N cap mp J ∧ (b = true → Heap J n) ∧ (b = false → UpPre J n i0) ∧ Same n I J ∧ (∀ k, n ≤ k → J k = I k) ∧ Moved (Foot Q ad mp) w w' := by
  go_enter Try.func27, Try.ntmps27
  go_wp2
  go_loopg [7] (n - i0) (fun g sv wr => ∃ (i : Nat) (J : Nat → Int × Int), i + g = n ∧ i0 ≤ i ∧ i < n ∧ sv = .int .i64 (i : Int) ∧ IsQ wr Q ad N cap mp J ∧ DnPre J n i ∧ (i0 < i → bet (J i) (J (par i)) = false) ∧ Same n I J ∧ (∀ k, n ≤ k → J k = I k) ∧ Moved (Foot Q ad mp) w wr)
  case atStart => exact ⟨i0, I, by omega, Nat.le_refl _, hi0, rfl, h, hd, fun e => absurd e (Nat.lt_irrefl _), Same.refl n I, fun _ _ => rfl, Moved.refl _ _⟩
  case round =>
    obtain ⟨i, J, hg, hii, hin, rfl, hq, hd', hok, hs, ho, hm⟩ := hrel
    have hgA : Aside (i + gk = n) := hg
    clear hg
    obtain ⟨a, ha⟩ : ∃ a : Nat, 2 * (i : Int) + 1 = (a : Int) := ⟨2 * i + 1, by omega⟩
    have haN : Aside (a = 2 * i + 1) := (by omega : a = 2 * i + 1)
    -- the end, once no child is better
    have fin : ∀ w', IsQ w' Q ad N cap mp J → Moved (Foot Q ad mp) w w' → (∀ s, 0 < s → s < n → par s = i → bet (J s) (J i) = false) → ∃ (b : Bool) (J : Nat → Int × Int), Ending.returned (.bool (decide (i0 < i))) = .returned (.bool b) ∧ IsQ w' Q ad N cap mp J ∧ (b = true → Heap J n) ∧ (b = false → UpPre J n i0) ∧ Same n I J ∧ (∀ k, n ≤ k → J k = I k) ∧ Moved (Foot Q ad mp) w w' := by
      intro w' hq' hm' hk
      refine ⟨_, J, rfl, hq', fun e => ?_, fun e => ?_, hs, ho, hm'⟩
      · have e' : i0 < i := by simpa using e
        exact (hd'.stop hk).stop (hok e')
      · have e' : ¬ i0 < i := by simpa using e
        have : i0 = i := by omega
        rw [this]
        exact hd'.stop hk
    by_cases c1 : a < n
    · have hc1 : ¬ (n : Int) ≤ (a : Int) := by omega
      obtain ⟨b, hb⟩ : ∃ b : Nat, (a : Int) + 1 = (b : Int) := ⟨a + 1, by omega⟩
      have hbN : Aside (b = 2 * i + 2) := (by have := haN.out; omega : b = 2 * i + 2)
      by_cases c2 : b < n
      · have hc2 : (b : Int) < (n : Int) := by omega
        have K1 := less_any hq b a (by omega) (by omega)
        cases hb1 : bet (J b) (J a) with
        | false =>
          rw [hb1] at K1
          have hic : i ≠ a := by have := haN.out; omega
          have hka : ∀ s, 0 < s → s < n → par s = i → bet (J s) (J a) = false := fun s h0 hsn hp => by
            have h1 := haN.out
            have h2 := hbN.out
            rcases kids h0 hp with e | e
            · rw [e, ← h1]; exact bet_self _
            · rw [e, ← h2]; exact hb1
          cases hb2 : bet (J a) (J i) with
          | false =>
            go_wp2_with (first
              | (go_at_call 44; refine K1.mono ?_; clear K1; rintro e w1 ⟨rfl, b1⟩; have K2 := less_any (hq.below b1) a i (by omega) (by omega); rw [hb2] at K2)
              | (go_at_call 44; refine K2.mono ?_; clear K2; rintro e w2 ⟨rfl, b2⟩))
            go_ret
            exact fin w2 ((hq.below b1).below b2) ((hm.trans (Moved.of_below b1)).trans (Moved.of_below b2)) fun s h0 hsn hp => bet_le_trans (hka s h0 hsn hp) hb2
          | true =>
            go_wp2_with (first
              | (go_at_call 44; refine K1.mono ?_; clear K1; rintro e w1 ⟨rfl, b1⟩; have K2 := less_any (hq.below b1) a i (by omega) (by omega); rw [hb2] at K2)
              | (go_at_call 44; refine K2.mono ?_; clear K2; rintro e w2 ⟨rfl, b2⟩; have K3 := swap_any ((hq.below b1).below b2) i a (by omega) (by omega) hic)
              | (go_at_call 47; refine K3.mono ?_; clear K3; rintro e w3 ⟨rfl, q3, m3⟩))
            go_roundg (n - a)
            case measure => have := hgA.out; have := haN.out; have := hbN.out; omega
            case rel =>
              have st := hd'.step (j := a) (by have := haN.out; have := hbN.out; omega) (by omega) hb2 hka
              exact ⟨a, _, by omega, by have := haN.out; have := hbN.out; omega, by omega, rfl, q3, st.1, fun _ => st.2, hs.trans (Same.swapped (by omega) (by omega)), fun k hk => by rw [swp_o J (by omega) (by omega)]; exact ho k hk, ((hm.trans (Moved.of_below b1)).trans (Moved.of_below b2)).trans m3⟩
        | true =>
          rw [hb1] at K1
          have hic : i ≠ b := by have := hbN.out; omega
          have hkb : ∀ s, 0 < s → s < n → par s = i → bet (J s) (J b) = false := fun s h0 hsn hp => by
            have h1 := haN.out
            have h2 := hbN.out
            rcases kids h0 hp with e | e
            · rw [e, ← h1]; exact bet_asymm hb1
            · rw [e, ← h2]; exact bet_self _
          cases hb2 : bet (J b) (J i) with
          | false =>
            go_wp2_with (first
              | (go_at_call 44; refine K1.mono ?_; clear K1; rintro e w1 ⟨rfl, b1⟩; have K2 := less_any (hq.below b1) b i (by omega) (by omega); rw [hb2] at K2)
              | (go_at_call 44; refine K2.mono ?_; clear K2; rintro e w2 ⟨rfl, b2⟩))
            go_ret
            exact fin w2 ((hq.below b1).below b2) ((hm.trans (Moved.of_below b1)).trans (Moved.of_below b2)) fun s h0 hsn hp => bet_le_trans (hkb s h0 hsn hp) hb2
          | true =>
            go_wp2_with (first
              | (go_at_call 44; refine K1.mono ?_; clear K1; rintro e w1 ⟨rfl, b1⟩; have K2 := less_any (hq.below b1) b i (by omega) (by omega); rw [hb2] at K2)
              | (go_at_call 44; refine K2.mono ?_; clear K2; rintro e w2 ⟨rfl, b2⟩; have K3 := swap_any ((hq.below b1).below b2) i b (by omega) (by omega) hic)
              | (go_at_call 47; refine K3.mono ?_; clear K3; rintro e w3 ⟨rfl, q3, m3⟩))
            go_roundg (n - b)
            case measure => have := hgA.out; have := haN.out; have := hbN.out; omega
            case rel =>
              have st := hd'.step (j := b) (by have := haN.out; have := hbN.out; omega) (by omega) hb2 hkb
              exact ⟨b, _, by omega, by have := haN.out; have := hbN.out; omega, by omega, rfl, q3, st.1, fun _ => st.2, hs.trans (Same.swapped (by omega) (by omega)), fun k hk => by rw [swp_o J (by omega) (by omega)]; exact ho k hk, ((hm.trans (Moved.of_below b1)).trans (Moved.of_below b2)).trans m3⟩
      · have hc2 : ¬ (b : Int) < (n : Int) := by omega
        have hic : i ≠ a := by have := haN.out; omega
        have hka : ∀ s, 0 < s → s < n → par s = i → bet (J s) (J a) = false := fun s h0 hsn hp => by
          have h1 := haN.out
          have h2 := hbN.out
          rcases kids h0 hp with e | e
          · rw [e, ← h1]; exact bet_self _
          · omega
        have K2 := less_any hq a i (by omega) (by omega)
        cases hb2 : bet (J a) (J i) with
        | false =>
          rw [hb2] at K2
          go_wp2_with (first
            | (go_at_call 44; refine K2.mono ?_; clear K2; rintro e w2 ⟨rfl, b2⟩))
          go_ret
          exact fin w2 (hq.below b2) (hm.trans (Moved.of_below b2)) fun s h0 hsn hp => bet_le_trans (hka s h0 hsn hp) hb2
        | true =>
          rw [hb2] at K2
          go_wp2_with (first
            | (go_at_call 44; refine K2.mono ?_; clear K2; rintro e w2 ⟨rfl, b2⟩; have K3 := swap_any (hq.below b2) i a (by omega) (by omega) hic)
            | (go_at_call 47; refine K3.mono ?_; clear K3; rintro e w3 ⟨rfl, q3, m3⟩))
          go_roundg (n - a)
          case measure => have := hgA.out; have := haN.out; have := hbN.out; omega
          case rel =>
            have st := hd'.step (j := a) (by have := haN.out; have := hbN.out; omega) (by omega) hb2 hka
            exact ⟨a, _, by omega, by have := haN.out; have := hbN.out; omega, by omega, rfl, q3, st.1, fun _ => st.2, hs.trans (Same.swapped (by omega) (by omega)), fun k hk => by rw [swp_o J (by omega) (by omega)]; exact ho k hk, (hm.trans (Moved.of_below b2)).trans m3⟩
    · have hc1 : (n : Int) ≤ (a : Int) := by omega
      go_wp2
      go_ret
      exact fin wr hq hm fun s h0 hsn hp => by have := kids h0 hp; have := haN.out; omega
end
end Go.Proofs.Ythcjmbfhcdkffaa
