/-
  The statements' own first look ('known').
-/
import Derived.Test.YthpancffloplkaaSet
namespace Go.Proofs.Ythpancffloplkaa
open Go Go.RowKit

theorem row3 (w : World) : IntsAt (w.alloc (.cells #[.int .i64 0, .int .i64 0, .int .i64 1] 3)) (some ⟨w.heap.size, 0, none⟩) 3 (fun i => if i = 2 then 1 else 0) :=
  IntsAt.row (World.rowIs_alloc w #[.int .i64 0, .int .i64 0, .int .i64 1] 3 _ (fun i hi => by
        have : i = 0 ∨ i = 1 ∨ i = 2 := by simp at hi; omega
        rcases this with rfl | rfl | rfl <;> rfl))

theorem known_swapped {w : World} {P : Nat} (h : IsOrd w P 3 (swV (idn 3) 0) (swL (idn 3) (idn 3) 0)) :
    Calls Try.prog 15 #[.pointer (some ⟨P, 0, none⟩), .int .i64 0] w (fun e w' => e = .returned (.int .i64 1) ∧ w' = w)
    ∧ Calls Try.prog 16 #[.pointer (some ⟨P, 0, none⟩), .int .i64 0] w (fun e w' => e = .returned (.int .i64 1) ∧ w' = w)
    ∧ Calls Try.prog 10 #[.pointer (some ⟨P, 0, none⟩), .int .i64 2] w (fun e w' => e = .returned (.int .i64 40) ∧ w' = w) :=
  ⟨var_in h (by decide) 0 (by decide), level_in h (by decide) 0 (by decide), swap_out h (by decide) 2 (by decide)⟩

theorem known_set {w : World} {P : Nat} {v l : Nat → Nat} (h : IsOrd w P 3 v l) :
    Calls Try.prog 9 #[.pointer (some ⟨P, 0, none⟩), .slice (some ⟨w.heap.size, 0, none⟩) 3 3] (w.alloc (.cells #[.int .i64 0, .int .i64 0, .int .i64 1] 3)) (fun e w' => e = .returned (.int .i64 40) ∧ Below w.heap.size w w' ∧ IsOrd w' P 3 v l) := by
  refine (set_no (c := 3) (h.new _) (row3 w) (by decide) (by decide)).mono ?_
  rintro e w' ⟨rfl, b⟩
  exact ⟨rfl, ((Below.refl _ w).alloc (Nat.le_refl _) _).trans (b.mono (by simp)), (h.new _).below b⟩

set_option maxHeartbeats 800000 in
theorem known_any (w : World) : Calls Try.prog 6 #[] w fun e w' => e = .returned (.bool true) ∧ Below w.heap.size w w' := by
  have H1 := new_any 3 w
  rw [show heldN 3 = 3 by decide] at H1
  go_enter Try.func6, Try.ntmps6
  go_wp2_with (first
    | (go_at_call 7; refine H1.mono ?_; clear H1; rintro e w1 ⟨rfl, o1, b1⟩; have H2 := swap_in o1 (by decide) 0 (by decide) (by decide); rw [show ((0 : Nat) : Int) = 0 from rfl] at H2)
    | (go_at_call 10; refine H2.mono ?_; clear H2; rintro e w2 ⟨rfl, o2, m2⟩; obtain ⟨H3, H4, H5⟩ := known_swapped o2; have H6 := known_set o2)
    | (go_at_call 15; refine H3.mono ?_; clear H3; rintro e w' ⟨rfl, rfl⟩)
    | (go_at_call 16; refine H4.mono ?_; clear H4; rintro e w' ⟨rfl, rfl⟩)
    | (go_at_call 10; refine H5.mono ?_; clear H5; rintro e w' ⟨rfl, rfl⟩)
    | (go_at_call 9; refine H6.mono ?_; clear H6; rintro e w3 ⟨rfl, b3, o3⟩; have H9 := len_any o3; have H10 := var_out o3 3 (by decide))
    | (go_at_call 11; refine H9.mono ?_; clear H9; rintro e w' ⟨rfl, rfl⟩)
    | (go_at_call 15; refine H10.mono ?_; clear H10; rintro e w' ⟨rfl, rfl⟩))
  go_ret
  exact ⟨rfl, b1.trans ((m2.below b1.size (Nat.le_refl _)).trans (b3.mono (Nat.le_trans b1.size m2.size)))⟩
end Go.Proofs.Ythpancffloplkaa
