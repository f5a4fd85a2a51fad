/-
  The heap of the library over the queue's row: a pair is pushed, removed from its place, set right behind a change.
-/
import Derived.Test.YthcjmbfhcdkffaaUp
namespace Go.Proofs.Ythcjmbfhcdkffaa
open Go Go.RowKit
section
variable {w : World} {Q n cap : Nat} {ad : Option Addr} {mp : Option Nat} {I : Nat → Int × Int}

theorem rpush_any (h : IsQ w Q ad n cap mp I) (x : Int × Int) (hx : ∀ i, i < n → (I i).1 ≠ x.1) (hn : n ≤ 1000000) :
    Calls Try.prog 46 #[.pointer (some ⟨Q, 0, none⟩), .iface 30 (.agg #[.int .i64 x.1, .int .i64 x.2])] w fun e w' => e = .returned (.tuple #[]) ∧ ∃ ad' cap' mp', IsQ w' Q ad' (n + 1) cap' mp' (setP I n x) ∧ Went (Foot Q ad mp) (Foot Q ad' mp') w w' := by
  cases mp with
  | none => exact rpush_none h x
  | some m => exact rpush_some h x hx hn

theorem hpush_any (h : IsQ w Q ad n cap mp I) (hh : Heap I n) (x : Int × Int) (hx : ∀ i, i < n → (I i).1 ≠ x.1) (hn : n ≤ 900000) :
    Calls Try.prog 17 #[.iface 53 (.pointer (some ⟨Q, 0, none⟩)), .iface 30 (.agg #[.int .i64 x.1, .int .i64 x.2])] w fun e w' => e = .returned (.tuple #[]) ∧ ∃ ad' cap' mp' J, IsQ w' Q ad' (n + 1) cap' mp' J ∧ Heap J (n + 1) ∧ Same (n + 1) (setP I n x) J ∧ Went (Foot Q ad mp) (Foot Q ad' mp') w w' := by
  have K1 := rpush_any h x hx (by omega)
  have hu : UpPre (setP I n x) (n + 1) n := hh.push fun k hk => setP_other I x (by omega)
  go_enter Try.func17, Try.ntmps17
  go_wp2_with (first
    | (go_at_call 46; refine K1.mono ?_; clear K1; rintro e w1 ⟨rfl, ad', cap', mp', q1, g1⟩; have K2 := rlen_any q1; have K3 := up_any q1 (by omega) (Nat.le_refl _) n (by omega) hu)
    | (go_at_call 23; refine K2.mono ?_; clear K2; rintro e w2 ⟨rfl, rfl⟩)
    | (go_at_call 24; refine K3.mono ?_; clear K3; rintro e w3 ⟨rfl, J, q3, h3, s3, o3, m3⟩))
  go_end0
  exact ⟨rfl, ad', cap', mp', J, q3, h3, s3, g1.trans (Went.same m3)⟩

set_option maxHeartbeats 1600000 in
theorem remove_any (h : IsQ w Q ad (n + 1) cap mp I) (hh : Heap I (n + 1)) (hn : n ≤ 900000) (i : Nat) (hi : i < n + 1) :
    Calls Try.prog 25 #[.iface 53 (.pointer (some ⟨Q, 0, none⟩)), .int .i64 (i : Int)] w fun e w' => e = .returned (.iface 30 (.agg #[.int .i64 (I i).1, .int .i64 (I i).2])) ∧ ∃ J, IsQ w' Q ad n cap mp J ∧ Heap J n ∧ (∀ x, (∃ k, k < n ∧ J k = x) ↔ (∃ k, k < n + 1 ∧ k ≠ i ∧ I k = x)) ∧ Moved (Foot Q ad mp) w w' := by
  have K1 := rlen_any h
  by_cases hin : i = n
  · subst hin
    have K2 := rpop_any h (by omega)
    go_enter Try.func25, Try.ntmps25
    go_wp2_with (first
      | (go_at_call 23; refine K1.mono ?_; clear K1; rintro e w2 ⟨rfl, rfl⟩)
      | (go_at_call 45; refine K2.mono ?_; clear K2; rintro e w3 ⟨rfl, q3, m3⟩))
    go_ret
    refine ⟨rfl, I, q3, hh.less (by omega), fun x => ⟨?_, ?_⟩, m3⟩
    · rintro ⟨k, hk, e⟩
      exact ⟨k, by omega, by omega, e⟩
    · rintro ⟨k, hk, hne, e⟩
      exact ⟨k, by omega, e⟩
  · have hin' : ¬ (n : Int) = (i : Int) := by omega
    have K2 := swap_any h i n (by omega) (by omega) hin
    have hd : DnPre (swp I i n) n i := (hh.less (m := n) (by omega)).dn _ (fun k hk hne => swp_o I hne (by omega)) (by omega)
    have hfin : ∀ J : Nat → Int × Int, Same n (swp I i n) J → ∀ x, (∃ k, k < n ∧ J k = x) ↔ (∃ k, k < n + 1 ∧ k ≠ i ∧ I k = x) := by
      intro J hJ x
      rw [hJ x]
      constructor
      · rintro ⟨k, hk, e⟩
        by_cases e2 : k = i
        · rw [e2, swp_l] at e
          exact ⟨n, by omega, by omega, e⟩
        · rw [swp_o I e2 (by omega)] at e
          exact ⟨k, by omega, e2, e⟩
      · rintro ⟨k, hk, hne, e⟩
        by_cases e2 : k = n
        · exact ⟨i, by omega, by rw [swp_l, ← e2]; exact e⟩
        · exact ⟨k, by omega, by rw [swp_o I hne e2]; exact e⟩
    have hr : ∀ J : Nat → Int × Int, (∀ k, n ≤ k → J k = swp I i n k) → J n = I i := fun J hJ => by rw [hJ n (Nat.le_refl _), swp_r]
    go_enter Try.func25, Try.ntmps25
    go_wp2_with (first
      | (go_at_call 23; refine K1.mono ?_; clear K1; rintro e w2 ⟨rfl, rfl⟩)
      | (go_at_call 47; refine K2.mono ?_; clear K2; rintro e w3 ⟨rfl, q3, m3⟩; have K3 := down_any q3 (by omega) (Nat.le_succ n) i (by omega) hd)
      | (go_at_call 27; refine K3.mono ?_; clear K3; rintro e w4 ⟨b, J, rfl, q4, hb1, hb2, s4, o4, m4⟩; have K4 := rpop_any q4 (by omega))
      | (go_at_call 24; clear K4; refine (up_any q4 (by omega) (Nat.le_succ n) i (by omega) (hb2 (by have := ‹(!b) = true›; simpa using this))).mono ?_; rintro e w5 ⟨rfl, J2, q5, h5, s5, o5, m5⟩; have K5 := rpop_any q5 (by omega))
      | (go_at_call 45; refine K5.mono ?_; clear K5; rintro e w6 ⟨rfl, q6, m6⟩)
      | (go_at_call 45; refine K4.mono ?_; clear K4; rintro e w6 ⟨rfl, q6, m6⟩))
    · go_ret
      exact ⟨rfl, J2, q6, h5, hfin J2 (s4.trans s5), (((m3.trans m4).trans m5).trans m6)⟩
    · go_ret
      exact ⟨rfl, J, q6, hb1 (by have := ‹(!b) = false›; simpa using this), hfin J s4, ((m3.trans m4).trans m6)⟩

set_option maxHeartbeats 1600000 in
theorem fix_any (h : IsQ w Q ad n cap mp I) (hn : n ≤ 900000) (i : Nat) (hi : i < n) (hd : DnPre I n i) :
    Calls Try.prog 26 #[.iface 53 (.pointer (some ⟨Q, 0, none⟩)), .int .i64 (i : Int)] w fun e w' => e = .returned (.tuple #[]) ∧ ∃ J, IsQ w' Q ad n cap mp J ∧ Heap J n ∧ Same n I J ∧ Moved (Foot Q ad mp) w w' := by
  have K1 := rlen_any h
  have K3 := down_any h (by omega) (Nat.le_refl n) i hi hd
  go_enter Try.func26, Try.ntmps26
  go_wp2_with (first
    | (go_at_call 23; refine K1.mono ?_; clear K1; rintro e w2 ⟨rfl, rfl⟩)
    | (go_at_call 27; refine K3.mono ?_; clear K3; rintro e w4 ⟨b, J, rfl, q4, hb1, hb2, s4, o4, m4⟩)
    | (go_at_call 24; refine (up_any q4 (by omega) (Nat.le_refl n) i (by omega) (hb2 (by have := ‹(!b) = true›; simpa using this))).mono ?_; rintro e w5 ⟨rfl, J2, q5, h5, s5, o5, m5⟩))
  · go_end0
    exact ⟨rfl, J2, q5, h5, s4.trans s5, m4.trans m5⟩
  · go_end0
    exact ⟨rfl, J, q4, hb1 (by have := ‹(!b) = false›; simpa using this), s4, m4⟩
end
end Go.Proofs.Ythcjmbfhcdkffaa
