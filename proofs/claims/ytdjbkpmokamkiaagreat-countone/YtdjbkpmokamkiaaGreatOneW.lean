/-
  CountOne, walked.
-/
import Derived.Test.YtdjbkpmokamkiaaGreatCtK
namespace Go.Proofs.YtdjbkpmokamkiaaGreat
open Go Go.RowKit
open Rf (tab word IsTab)

set_option maxRecDepth 100000 in
set_option maxHeartbeats 4000000 in
theorem one_walk (F : Nat → Bool) (W : World) :
    Calls Tryz.prog 6 #[tab F] W fun e w' => e = .returned (.bool true) ∧ Below W.heap.size W w' := by
  conv in #[tab F] => unfold tab
  go_enter Tryz.func6, Tryz.ntmps6
  go_upto_region 1 with fail
  have TF := IsTab.new W F
  have B3 := nb W (.cells #[.int .u64 (word F 0 : Int), .int .u64 (word F 1 : Int), .int .u64 (word F 2 : Int), .int .u64 (word F 3 : Int)] 24)
  generalize W.alloc (.cells #[.int .u64 (word F 0 : Int), .int .u64 (word F 1 : Int), .int .u64 (word F 2 : Int), .int .u64 (word F 3 : Int)] 24) = v3 at TF B3 ⊢
  have B3A : Aside (Below W.heap.size W v3) := B3
  clear B3
  generalize W.heap.size = bf at TF ⊢
  have Kk := nknown_any v3
  go_upto_region 3 with (first
    | (go_at_call 9; refine Kk.mono ?_; clear Kk; rintro e v4 ⟨rfl, b4⟩))
  have TF4 := kept TF b4
  have Kn : Calls Tryz.prog 10 #[.int .i64 8, .int .i64 300] v4 _ := new_x W v4 8 300 (by omega) (by omega) (by omega) (by omega) (Rf.below_far B3A.out b4)
  clear TF B3A b4
  go_upto_region 6 with (first
    | (go_at_call 10; refine Kn.mono ?_; clear Kn; rintro e w5 ⟨S, rfl, f5, x5, b5⟩))
  have TF5 := kept TF4 b5
  have K1 := make_x x5 (by omega) F
  clear TF4 b5 f5
  unfold tab at K1
  obtain ⟨y0, y1, y2, y3⟩ := TF5.copy
  go_upto_region 7 with (first
    | (go_at_call 12; refine K1.mono ?_; clear K1; rintro e w6 ⟨a, rfl, x6, u6⟩))
  clear y0 y1 y2 y3 TF5 x5 u6
  have a0 : a = 0 ↔ ¬ lst F < 256 := by
    have := x6.one (x := a) (y := 0) (X := F) (Y := c0) (.head _) (.tail _ (.head _))
    rw [this]
    constructor
    · intro e h
      have := lst_at h
      rw [e _ h] at this
      cases this
    · intro h x hx
      cases q : F x with
      | false => rfl
      | true => have := lst_most q; omega
  have ab := x6.bound (x := a) (X := F) (.head _)
  have K2 := one_x x6 (x := a) (X := F) (.head _)
  have KE : Aside (∀ (u : World) (y : Nat), Sx W u S 8 300 ((a, F) :: [(0, c0), (1, c1)]) (0 + 63) → y < 256 → Calls Tryz.prog 15 #[.pointer (some ⟨S, 0, none⟩), .int .u32 (a : Int), .int .u8 (y : Int)] u fun e w' => e = .returned (.tuple #[.bool (F y), .int .i64 0]) ∧ Below u.heap.size u w') := fun u y h hy => eval_x h (.head _) y hy
  have x6A : Aside (Sx W w6 S 8 300 ((a, F) :: [(0, c0), (1, c1)]) (0 + 63)) := x6
  clear x6
  by_cases hc : lst F < 256
  · have hFA : Aside (∀ y, y ≤ lst F → F y = decide (y = lst F)) := fun y hy => by
      rcases lst_is F with ⟨h1, h2, h3⟩ | ⟨h1, _⟩
      · by_cases c : y = lst F
        · rw [decide_eq_true c, c]; exact h2
        · rw [decide_eq_false c]; exact h3 y (by omega)
      · omega
    have o1 : oneN F = lst F := by unfold oneN; rw [if_pos hc]
    have o2 : oneB F = true := by unfold oneB; exact decide_eq_true hc
    rw [o1, o2] at K2
    have an : ¬ (a : Int) = 0 := by
      intro e
      have : a = 0 := by omega
      exact a0.1 this hc
    have an' : (((a : Int)) != 0) = true := by simpa using an
    generalize lst F = m at K2 hc hFA
    have mw : IntKind.i64.wrap (m : Int) = (m : Int) := by rw [IntKind.wrap_i64]; omega
    clear a0 o1 o2
    go_wp2_with (first
      | (go_at_call 16; refine K2.mono ?_; clear K2; rintro e w7 ⟨rfl, b7⟩))
    have x7A : Aside (Sx W w7 S 8 300 ((a, F) :: [(0, c0), (1, c1)]) (0 + 63)) := x6A.out.below b7
    clear x6A b7
    go_loopg [9, 10, 11] (m + 1) (fun gg s9 _ _ wr => ∃ y : Nat, y + gg = m + 1 ∧ s9 = .int .i64 (y : Int) ∧ Aside (Sx W wr S 8 300 ((a, F) :: [(0, c0), (1, c1)]) (0 + 63)))
    case atStart => exact ⟨0, by omega, rfl, x7A⟩
    case round =>
      obtain ⟨y, hy, rfl, hx⟩ := hrel
      have hY : Aside (y + gk = m + 1) := hy
      by_cases hlt : y ≤ m
      · have hlt' : (y : Int) ≤ (m : Int) := by omega
        have K3 := KE.out wr y hx.out (by omega)
        rw [hFA.out y hlt] at K3
        have yw : IntKind.u8.wrap (y : Int) = (y : Int) := by rw [IntKind.wrap_u8]; omega
        have e1 : decide ((y : Int) = (m : Int)) = decide (y = m) := by
          by_cases c : y = m
          · subst c; simp
          · rw [decide_eq_false c, decide_eq_false (by omega)]
        have e2 : ((y : Int) == (m : Int)) = decide (y = m) := by
          by_cases c : y = m
          · subst c; simp
          · rw [decide_eq_false c, beq_eq_false_iff_ne]; omega
        have hltA : Aside (y ≤ m) := hlt
        have yb : y ≤ 255 := by omega
        generalize decide (y = m) = q at K3 e1 e2
        clear hy hlt
        go_wp2_with (first
          | (go_at_call 15; refine K3.mono ?_; clear K3; rintro e w8 ⟨rfl, b8⟩))
        go_roundg (gk - 1)
        case measure => have := hY.out; have := hltA.out; omega
        case rel =>
          have := hY.out
          have := hltA.out
          exact ⟨y + 1, by omega, by go_num, hx.out.below b8⟩
      · have hlt' : ¬ (y : Int) ≤ (m : Int) := by omega
        have hlt2 : ¬ y ≤ m := hlt
        clear hy hlt
        go_wp2_with fail
        go_ret
        exact ⟨rfl, hx.out.base⟩
  · obtain rfl := a0.2 hc
    have o1 : oneN F = 0 := by unfold oneN; rw [if_neg hc]
    have o2 : oneB F = false := by unfold oneB; exact decide_eq_false hc
    rw [o1, o2] at K2
    clear a0 o1 o2 hc KE
    go_wp2_with (first
      | (go_at_call 16; refine K2.mono ?_; clear K2; rintro e w7 ⟨rfl, b7⟩))
    go_loopg [9, 10, 11] 1 (fun gg s9 _ _ wr => gg = 1 ∧ s9 = .int .i64 0 ∧ wr = w7)
    case atStart => exact ⟨rfl, rfl, rfl⟩
    case round =>
      obtain ⟨_, rfl, rfl⟩ := hrel
      go_wp2_with fail
      go_ret
      exact ⟨rfl, (x6A.out.below b7).base⟩
end Go.Proofs.YtdjbkpmokamkiaaGreat
