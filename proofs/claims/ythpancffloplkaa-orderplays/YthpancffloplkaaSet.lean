/-
  Set of package order, and the statements' own first look ('known').
-/
import Derived.Test.YthpancffloplkaaAux
namespace Go.Proofs.Ythpancffloplkaa
open Go Go.RowKit

set_option maxHeartbeats 800000 in
theorem each_any {w : World} {P n : Nat} {v l : Nat → Nat} (h : IsOrd w P n v l) {ad : Option Addr} {len c : Nat} {Z : Nat → Int} (hz : IntsAt w ad len Z) (hn : n ≤ 8) :
    Calls Try.prog 18 #[.pointer (some ⟨P, 0, none⟩), .slice ad len c] w fun e w' => e = .returned (.bool (permB len Z n)) ∧ Below w.heap.size w w' := by
  have c0 := h.cell0
  by_cases hnm : len = n
  · subst hnm
    go_enter Try.func18, Try.ntmps18
    go_wp2_with fail
    go_loopg [17] len (fun g si wr => ∃ j : Nat, j + g = len ∧ si = .int .i64 (j : Int) ∧ okUpto len Z j = true ∧ Below w.heap.size w wr ∧ wr.rowIs w.heap.size 46 8 (fun x => .bool (seenB Z j x)))
    case atStart => exact ⟨0, by omega, rfl, rfl, (Below.refl _ w).alloc (Nat.le_refl _) _, seen_start w Z⟩
    case round =>
      obtain ⟨j, hj, rfl, he, hb, hr⟩ := hrel
      have hJ : Aside (j + gk = len) := hj
      have hE : Aside (okUpto len Z j = true) := he
      have ho := h.below hb
      clear he
      by_cases hlt : j < len
      · have hlt' : (j : Int) < (len : Int) := by omega
        rcases hz with hz | ⟨b1, o1, rfl, hb1, hc1⟩
        · omega
        have k1 : wr.cell? ⟨b1, o1 + j, none⟩ = some (.int .i64 (Z j)) := by rw [hb.cell hb1]; exact hc1 j hlt
        by_cases h0 : Z j < 0 ∨ (len : Int) ≤ Z j
        · have hF : Aside (permB len Z len = false) := permB_false hlt (by rcases h0 with h0 | h0; exact okAt_neg h0; exact okAt_big h0)
          have H := has_out ho (Z j) h0
          generalize Z j = z at k1 H
          clear hj h0
          go_wp2_with (go_at_call 19; refine H.mono ?_; clear H; rintro e w' ⟨rfl, rfl⟩)
          go_ret
          rw [hF.out]
          exact ⟨rfl, hb⟩
        · obtain ⟨z, hzz⟩ : ∃ z : Nat, Z j = (z : Int) := ⟨(Z j).toNat, by omega⟩
          have hz8 : z < 8 := by omega
          have hz8' : (z : Int) < 8 := by omega
          have H := has_in ho z (by omega)
          have k2 : wr.cell? ⟨w.heap.size, z, none⟩ = some (.bool (seenB Z j z)) := hr.cell hz8
          have f2 := hr.frozen z
          have hr2 : Aside ((wr.setCell ⟨w.heap.size, z, none⟩ (.bool true)).rowIs w.heap.size 46 8 (fun x => .bool (seenB Z (j + 1) x))) := seen_set hr hzz
          rw [hzz] at k1
          by_cases hsn : seenB Z j z = true
          · have hF : Aside (permB len Z len = false) := permB_false hlt (okAt_seen hzz hsn)
            rw [hsn] at k2
            clear hj hzz h0 hsn
            go_wp2_with (go_at_call 19; refine H.mono ?_; clear H; rintro e w' ⟨rfl, rfl⟩)
            go_ret
            rw [hF.out]
            exact ⟨rfl, hb⟩
          · have hsn' : seenB Z j z = false := by simpa using hsn
            have hE' : Aside (okUpto len Z (j + 1) = true) := by
              simp only [Aside, okUpto]
              rw [hE.out, okAt_ok hzz (by omega) hsn']
              rfl
            rw [hsn'] at k2
            clear hj hzz h0 hsn hsn'
            go_wp2_with (go_at_call 19; refine H.mono ?_; clear H; rintro e w' ⟨rfl, rfl⟩)
            go_roundg (gk - 1)
            case measure => have := hJ.out; omega
            case rel =>
              have hj := hJ.out
              exact ⟨j + 1, by omega, by go_num, hE'.out, hb.setCell (Nat.le_refl _) _, hr2.out⟩
      · obtain rfl : j = len := by omega
        clear hj
        go_wp2_with fail
        go_ret
        rw [permB, hE.out]
        exact ⟨by simp, hb⟩
  · have hd : Aside (permB len Z n = false) := by simp [Aside, permB, hnm]
    have hnm' : ¬ (len : Int) = (n : Int) := by omega
    go_enter Try.func18, Try.ntmps18
    go_wp2_with fail
    go_ret
    rw [hd.out]
    exact ⟨rfl, Below.refl _ _⟩

/-- What Set leaves. -/
def setV (v : Nat → Nat) (Z : Nat → Int) : Nat → Nat → Nat
  | 0 => v
  | i + 1 => upd (setV v Z i) i (Z i).toNat
def setL (l : Nat → Nat) (Z : Nat → Int) : Nat → Nat → Nat
  | 0 => l
  | i + 1 => upd (setL l Z i) (Z i).toNat i
theorem setV_get (v : Nat → Nat) (Z : Nat → Int) : ∀ {n i : Nat}, i < n → setV v Z n i = (Z i).toNat
  | 0, i, hi => absurd hi (Nat.not_lt_zero _)
  | n + 1, i, hi => by
    rw [setV]
    by_cases e : i = n
    · subst e; rw [upd_same]
    · rw [upd_other _ _ e, setV_get v Z (by omega)]
theorem setL_get (l : Nat → Nat) (Z : Nat → Int) : ∀ {n i : Nat}, i < n → (∀ i, i < n → 0 ≤ Z i) → (∀ i j, i < n → j < i → Z j ≠ Z i) → setL l Z n (Z i).toNat = i
  | 0, i, hi, _, _ => absurd hi (Nat.not_lt_zero _)
  | n + 1, i, hi, h0, hd => by
    rw [setL]
    by_cases e : i = n
    · subst e; rw [upd_same]
    · have h1 := hd n i (by omega) (by omega)
      have h2 := h0 n (by omega)
      have h3 := h0 i (by omega)
      rw [upd_other _ _ (by omega), setL_get l Z (by omega) (fun i hi => h0 i (by omega)) (fun i j hi hj => hd i j (by omega) hj)]

set_option maxHeartbeats 800000 in
theorem set_ok {w : World} {P n : Nat} {v l : Nat → Nat} (h : IsOrd w P n v l) {ad : Option Addr} {len c : Nat} {Z : Nat → Int} (hz : IntsAt w ad len Z) (hn : n ≤ 8) (hP : ∀ a, ad = some a → a.block ≠ P) (hp : permB len Z n = true) :
    Calls Try.prog 9 #[.pointer (some ⟨P, 0, none⟩), .slice ad len c] w fun e w' => e = .returned (.int .i64 0) ∧ IsOrd w' P n (setV v Z n) (setL l Z n) ∧ Moved P w w' := by
  obtain ⟨hlen, hrange, _⟩ := permB_spec hp
  subst hlen
  have H := each_any h hz hn (c := c)
  rw [hp] at H
  clear hp
  go_enter Try.func9, Try.ntmps9
  go_wp2_with (go_at_call 18; refine H.mono ?_; clear H; rintro e w1 ⟨rfl, b1⟩)
  go_loopg [13] len (fun g si wr => ∃ j : Nat, j + g = len ∧ si = .int .i64 (j : Int) ∧ IsOrd wr P len (setV v Z j) (setL l Z j) ∧ Moved P w wr)
  case atStart => exact ⟨0, by omega, rfl, h.below b1, Moved.of_below b1⟩
  case round =>
    obtain ⟨j, hj, rfl, ho, hm⟩ := hrel
    have hJ : Aside (j + gk = len) := hj
    by_cases hlt : j < len
    · have hlt' : (j : Int) < (len : Int) := by omega
      have hzr := hz.moved hm hP
      rcases hzr with hz0 | ⟨b1, o1, rfl, hb1, hc1⟩
      · omega
      have k1 : wr.cell? ⟨b1, o1 + j, none⟩ = some (.int .i64 (Z j)) := hc1 j hlt
      have hr := hrange j hlt
      obtain ⟨z, hzz⟩ : ∃ z : Nat, Z j = (z : Int) := ⟨(Z j).toNat, by omega⟩
      have hS : Aside ((Z j).toNat = z) := by simp only [Aside]; omega
      have H := put_any ho j z (by omega) (by omega)
      rw [hzz] at k1
      clear hj hzz hr hc1
      go_wp2_with (go_at_call 17; refine H.mono ?_; clear H; rintro e w2 ⟨rfl, o2, m2⟩)
      go_roundg (gk - 1)
      case measure => have := hJ.out; omega
      case rel =>
        have hj := hJ.out
        refine ⟨j + 1, by omega, by go_num, ?_, hm.trans m2⟩
        rw [setV, setL, hS.out]
        exact o2
    · obtain rfl : j = len := by omega
      clear hj
      go_wp2_with fail
      go_ret
      exact ⟨rfl, ho, hm⟩

theorem set_no {w : World} {P n : Nat} {v l : Nat → Nat} (h : IsOrd w P n v l) {ad : Option Addr} {len c : Nat} {Z : Nat → Int} (hz : IntsAt w ad len Z) (hn : n ≤ 8) (hp : permB len Z n = false) :
    Calls Try.prog 9 #[.pointer (some ⟨P, 0, none⟩), .slice ad len c] w fun e w' => e = .returned (.int .i64 40) ∧ Below w.heap.size w w' := by
  have H := each_any h hz hn (c := c)
  rw [hp] at H
  clear hp
  go_enter Try.func9, Try.ntmps9
  go_wp2_with (go_at_call 18; refine H.mono ?_; clear H; rintro e w1 ⟨rfl, b1⟩)
  go_ret
  exact ⟨rfl, b1⟩

end Go.Proofs.Ythpancffloplkaa
