/-
  Package quant: masks by levels; the walk over whatever joins the halves.
-/
import Derived.Test.YtlhanbjjlifjjaaGreatQtP
import Derived.Test.YtlhanbjjlifjjaaGreatLgc
import Derived.Deep.RegionHeld3
import Derived.Deep.LoopGhost
import Derived.BigQuiet
namespace Go.Proofs.YtlhanbjjlifjjaaGreat
open Go Go.RowKit
open Rf (fixAt fixF)

/-! ## Masks by levels -/
/-- The levels of the first so many variables that a mask has. -/
def blUpto (l : Nat → Nat) (m : Nat) : Nat → Nat
  | 0 => 0
  | v + 1 => if m.testBit v then blUpto l m v ||| 2 ^ l v else blUpto l m v
theorem blUpto_bit (l : Nat → Nat) (m j : Nat) : ∀ k, (blUpto l m k).testBit j = true ↔ ∃ u, u < k ∧ l u = j ∧ m.testBit u = true
  | 0 => ⟨fun h => absurd h (by rw [blUpto, Nat.zero_testBit]; decide), fun ⟨u, h, _⟩ => by omega⟩
  | k + 1 => by
    have ih := blUpto_bit l m j k
    rw [blUpto]
    cases c : m.testBit k with
    | false =>
      rw [if_neg (by decide), ih]
      constructor
      · rintro ⟨u, h, q⟩
        exact ⟨u, by omega, q⟩
      · rintro ⟨u, h, q, r⟩
        refine ⟨u, ?_, q, r⟩
        by_cases e : u = k
        · rw [e, c] at r; cases r
        · omega
    | true =>
      rw [if_pos rfl, Nat.testBit_or, Bool.or_eq_true, ih, Nat.testBit_two_pow]
      constructor
      · rintro (⟨u, h, q⟩ | h)
        · exact ⟨u, by omega, q⟩
        · exact ⟨k, by omega, of_decide_eq_true h, c⟩
      · rintro ⟨u, h, q, r⟩
        by_cases e : u = k
        · exact .inr (decide_eq_true (by rw [← e]; exact q))
        · exact .inl ⟨u, by omega, q, r⟩
theorem blUpto_lt (l : Nat → Nat) (m : Nat) : ∀ k, (∀ u, u < k → l u < 8) → blUpto l m k < 256
  | 0, _ => by rw [blUpto]; omega
  | k + 1, h => by
    have ih := blUpto_lt l m k fun u hu => h u (by omega)
    have p : (2 : Nat) ^ l k < 2 ^ 8 := Nat.pow_lt_pow_right (by omega) (h k (by omega))
    rw [blUpto]
    split
    · exact Nat.or_lt_two_pow (n := 8) ih p
    · exact ih
theorem surj_of_inj {n : Nat} {v : Nat → Nat} (lt : ∀ i, i < n → v i < n) (inj : ∀ i j, i < n → j < n → v i = v j → i = j) {u : Nat} (hu : u < n) : ∃ i, i < n ∧ v i = u := by
  by_cases c : u ∈ (List.range n).map v
  · obtain ⟨i, hi, e⟩ := List.mem_map.1 c
    exact ⟨i, List.mem_range.1 hi, e⟩
  · exfalso
    have nd : ((List.range n).map v).Nodup := nodup_map_on v _ List.nodup_range fun x hx y hy e => inj x y (List.mem_range.1 hx) (List.mem_range.1 hy) e
    have := nodup_le (u :: (List.range n).map v) (List.range n) (List.nodup_cons.2 ⟨c, nd⟩) fun x hx => by
      rcases List.mem_cons.1 hx with rfl | hx
      · exact List.mem_range.2 hu
      · obtain ⟨i, hi, e⟩ := List.mem_map.1 hx
        rw [← e]
        exact List.mem_range.2 (lt i (List.mem_range.1 hi))
    simp at this
    omega
theorem lev_inv {M : Mdl} (o : M.Ok) {l : Nat → Nat} (inv : ∀ i, i < M.n → l (M.v i) = i) {u : Nat} (hu : u < M.n) : l u < M.n ∧ M.v (l u) = u := by
  obtain ⟨i, hi, rfl⟩ := surj_of_inj o.vlt o.vinj hu
  rw [inv i hi]
  exact ⟨hi, rfl⟩
theorem blUpto_by {M : Mdl} (o : M.Ok) {l : Nat → Nat} (inv : ∀ i, i < M.n → l (M.v i) = i) (m : Nat) : ByLev M m (blUpto l m M.n) := by
  have n8 := o.le8
  refine ⟨blUpto_lt l m M.n fun u hu => by have := (lev_inv o inv hu).1; omega, fun j hj => ?_⟩
  rw [Bool.eq_iff_iff, blUpto_bit, Bool.and_eq_true, decide_eq_true_eq]
  constructor
  · rintro ⟨u, hu, e, c⟩
    obtain ⟨h1, h2⟩ := lev_inv o inv hu
    rw [e] at h1 h2
    exact ⟨h1, by rw [h2]; exact c⟩
  · rintro ⟨h1, h2⟩
    exact ⟨M.v j, o.vlt j h1, inv j h1, h2⟩
theorem and_bit8 (m v : Nat) (hm : m < 256) : bits .and .u8 ((m : Int) / 2 ^ v) 1 = (if m.testBit v then 1 else 0) := by
  have h1 : ((m : Int) / 2 ^ v) = ((m / 2 ^ v : Nat) : Int) := by push_cast; rfl
  have h2 : m / 2 ^ v < 256 := Nat.lt_of_le_of_lt (Nat.div_le_self _ _) hm
  rw [h1, show (1 : Int) = ((1 : Nat) : Int) from rfl, u8_and_nat _ _ h2 (by decide), Nat.and_one_is_mod, ← M_bit']
  unfold Rf.M
  have h3 : m / 2 ^ v % 2 < 2 := Nat.mod_lt _ (by decide)
  by_cases h : m / 2 ^ v % 2 = 1
  · simp [h]
  · have h0 : m / 2 ^ v % 2 = 0 := by omega
    simp [h0]
theorem or_none8 (n : Nat) (hn : n < 256) : bits .or .u8 (n : Int) 0 = (n : Int) := by
  rw [show (0 : Int) = ((0 : Nat) : Int) from rfl, u8_or_nat _ _ hn (by decide), Nat.or_zero]
section
variable {w : World} {S : Nat} {F0 : Nat → Prop} {M : Mdl}
set_option maxRecDepth 100000 in
set_option maxHeartbeats 2000000 in
theorem byLevels_any (s : St w S F0 M) (m : Nat) (hm : m < 256) :
    Calls Tryz.prog 69 #[.pointer (some ⟨S, 0, none⟩), .int .u8 (m : Int)] w fun e w' => ∃ o : Nat, e = .returned (.int .u8 (o : Int)) ∧ ByLev M m o ∧ Below w.heap.size w w' := by
  have ok := s.ok
  have n8 := ok.le8
  have K1 := s_order' s
  have KV : Aside (∀ {u : World}, St u S F0 M → Calls Tryz.prog 54 #[.pointer (some ⟨S, 0, none⟩)] u fun e w' => e = .returned (.int .i64 (M.n : Int)) ∧ w' = u) := fun {u} su => s_vars su
  go_enter Tryz.func69, Tryz.ntmps69
  go_wp2_with (first
    | (go_at_call 40; refine K1.mono ?_; clear K1; rintro e w1 ⟨P, l, rfl, o1, inv, b1, p1⟩; have s1 := s.below b1; have K2 := KV.out s1; have invA : Aside (∀ i, i < M.n → l (M.v i) = i) := inv; clear inv p1)
    | (go_at_call 54; refine K2.mono ?_; clear K2; rintro e w1 ⟨rfl, rfl⟩))
  have LV : Aside (∀ u, u < M.n → l u < M.n) := fun u hu => (lev_inv ok invA.out hu).1
  have NN : Aside (M.n ≤ 8) := n8
  have okA : Aside M.Ok := ok
  have O1 : Aside (Od.IsOrd w1 P M.n M.v l) := o1
  have B1 : Aside (Below w.heap.size w w1) := b1
  clear b1 s1 s KV o1 n8 ok
  go_loopg [12, 6, 7] M.n (fun g si sl _sv wr => ∃ v : Nat, v + g = M.n ∧ si = .int .i64 (v : Int) ∧ sl = .int .u8 (blUpto l m v : Int) ∧ Aside (Od.IsOrd wr P M.n M.v l) ∧ Aside (Below w.heap.size w wr))
  case atStart => exact ⟨0, by omega, rfl, rfl, O1, B1⟩
  case round =>
    obtain ⟨v, hv, rfl, rfl, O2, B2⟩ := hrel
    have hV : Aside (v + gk = M.n) := hv
    clear hv O1 B1
    by_cases hvn : v < M.n
    · have hvi : (v : Int) < (M.n : Int) := by omega
      have hl := LV.out v hvn
      have v8i : (v : Int) < 8 := by have := NN.out; omega
      have hmn : min v 8 = v := by have := NN.out; omega
      have l8 : l v < 8 := by have := NN.out; omega
      have bl := blUpto_lt l m v fun u hu => by have := LV.out u (by omega); have := NN.out; omega
      have K : ∀ q, Calls Tryz.prog 61 #[.pointer (some ⟨P, 0, none⟩), .int .i64 (v : Int)] (wr.drewN q) fun e w' => e = .returned (.int .i64 (l v : Int)) ∧ w' = wr.drewN q := fun q => Od.level_in (w := wr.drewN q) (show Od.IsOrd (wr.drewN q) P M.n M.v l from O2.out) NN.out v hvn
      have ha := and_bit8 m v hm
      have hB : Aside (blUpto l m (v + 1) = if m.testBit v then blUpto l m v ||| 2 ^ l v else blUpto l m v) := rfl
      generalize blUpto l m v = B at bl hB
      have h1 := Rf.or_pow8 B (l v) bl l8
      have h1' := Rf.or_pow8' B (l v) bl l8
      have h0 := or_none8 B bl
      clear hvn hl
      cases c : m.testBit v with
      | false =>
        rw [c] at ha hB
        rw [if_neg (by decide)] at ha
        clear h1 h1' bl c
        go_wp2_with fail
        go_quiet ((go_at_call 61; exact Calls.quiet_of_same (K _)))
        go_wp2_with fail
        go_roundg (gk - 1)
        case measure => have := hV.out; omega
        case rel =>
          have := hV.out
          exact ⟨v + 1, by omega, rfl, by rw [hB.out]; rfl, O2.out, ⟨B2.out.os, B2.out.tape, B2.out.output, B2.out.size, B2.out.block⟩⟩
      | true =>
        rw [c] at ha hB
        rw [if_pos rfl] at ha
        clear h0 bl c
        go_wp2_with fail
        go_quiet ((go_at_call 61; exact Calls.quiet_of_same (K _)))
        go_wp2_with fail
        go_roundg (gk - 1)
        case measure => have := hV.out; omega
        case rel =>
          have := hV.out
          exact ⟨v + 1, by omega, rfl, by rw [hB.out]; rfl, O2.out, ⟨B2.out.os, B2.out.tape, B2.out.output, B2.out.size, B2.out.block⟩⟩
    · have ev : v = M.n := by have := hV.out; omega
      have hvi : ¬ (v : Int) < (M.n : Int) := by omega
      have eA : Aside (v = M.n) := ev
      clear ev hvn
      go_wp2_with fail
      go_ret
      refine ⟨_, rfl, ?_, B2.out⟩
      rw [eA.out]
      exact blUpto_by okA.out invA.out m
end
end Go.Proofs.YtlhanbjjlifjjaaGreat
