/-
  What the reference's other functions return.
-/
import Derived.Test.YtmfocngdobcfcaaDoorQuant
namespace Go.Proofs.YtmfocngdobcfcaaDoor
open Go Go.RowKit

theorem forall_any (F : Nat → Bool) (m : Nat) (hm : m < 256) (w : World) :
    Calls Tryd.prog 31 #[tab F, .int .u8 (m : Int)] w fun e w' => e = .returned (tab (fun x => !exUpto (fun x => !F x) m 8 x)) ∧ Below w.heap.size w w' := by
  conv in #[tab F, Value.int IntKind.u8 (m : Int)] => unfold tab
  go_enter Tryd.func31, Tryd.ntmps31
  go_wp2_with (first
    | (go_at_call_of 15 (Value.int IntKind.u64 (word F 0 : Int)); refine (not_any F _).mono ?_; rintro e w6 ⟨rfl, b6⟩)
    | (go_at_call 29; refine (exists_any _ m hm _).mono ?_; rintro e w7 ⟨rfl, b7⟩)
    | (go_at_call 15; refine (not_any _ _).mono ?_; unfold tab; rintro e w8 ⟨rfl, b8⟩; have B0 := ((Below.refl _ w).alloc (Nat.le_refl _) (.cells #[.int .u64 (word F 0 : Int), .int .u64 (word F 1 : Int), .int .u64 (word F 2 : Int), .int .u64 (word F 3 : Int)] 24)).alloc (by simp) (.cells #[.int .u64 0, .int .u64 0, .int .u64 0, .int .u64 0] 24); have TZ := IsTab.zeroAt (w := w.alloc (.cells #[.int .u64 (word F 0 : Int), .int .u64 (word F 1 : Int), .int .u64 (word F 2 : Int), .int .u64 (word F 3 : Int)] 24)) (n := w.heap.size + 1) (by simp); have b9 := below_far (below_far b6 b7) b8; have T8 := TZ.kept b9; obtain ⟨p0, p1, p2, p3⟩ := T8.copy; have g0 := T8.free 0; have g1 := T8.free 1; have g2 := T8.free 2; have g3 := T8.free 3))
  exact bodyPost_ret (results_tab rfl rfl (laid_tab T8 _)) rfl ⟨rfl, (below_far B0 b9).trans ((laid_turned _ _ _).below (below_far B0 b9).size (by omega))⟩

theorem count_any (F : Nat → Bool) (w : World) :
    Calls Tryd.prog 43 #[tab F] w fun e w' => e = .returned (.int .i64 (countUpto F 256 : Int)) ∧ Below w.heap.size w w' := by
  conv in #[tab F] => unfold tab
  go_enter Tryd.func43, Tryd.ntmps43
  go_wp2_with fail
  have TF := (IsTab.new w F)
  have B0 := ((Below.refl _ w).alloc (Nat.le_refl _) (.cells #[.int .u64 (word F 0 : Int), .int .u64 (word F 1 : Int), .int .u64 (word F 2 : Int), .int .u64 (word F 3 : Int)] 24))
  generalize (w.alloc (.cells #[.int .u64 (word F 0 : Int), .int .u64 (word F 1 : Int), .int .u64 (word F 2 : Int), .int .u64 (word F 3 : Int)] 24)) = w4 at TF B0 ⊢
  go_loopg [3, 4] 256 (fun g sn si wr => ∃ k : Nat, k + g = 256 ∧ si = .int .i64 (k : Int) ∧ sn = .int .i64 (countUpto F k : Int) ∧ IsTab wr w.heap.size F ∧ Below w.heap.size w wr)
  case atStart => exact ⟨0, by omega, rfl, rfl, TF, B0⟩
  case round =>
    obtain ⟨k, hk, rfl, rfl, hT, hB⟩ := hrel
    have hK : Aside (k + gk = 256) := hk
    clear hk
    by_cases hk9 : k < 256
    · have hk9' : (k : Int) < 256 := by omega
      have hw : IntKind.u8.wrap (k : Int) = (k : Int) := by rw [IntKind.wrap_u8]; omega
      have hn := count_le F k
      have hs : Aside (countUpto F (k + 1) = countUpto F k + (if F k then 1 else 0)) := rfl
      generalize countUpto F k = n at hn hs
      obtain ⟨c0, c1, c2, c3⟩ := hT.copy
      cases hf : F k with
      | true =>
        go_wp2_with (first
          | (go_at_call 25; refine (eval_any F k hk9 _).mono ?_; rw [hf]; rintro e w6 ⟨rfl, b6⟩))
        go_roundg (gk - 1)
        case measure => have := hK.out; omega
        case rel =>
          have := hK.out
          refine ⟨k + 1, by omega, rfl, ?_, hT.kept b6, below_far hB b6⟩
          rw [hs.out, hf]
          rfl
      | false =>
        go_wp2_with (first
          | (go_at_call 25; refine (eval_any F k hk9 _).mono ?_; rw [hf]; rintro e w6 ⟨rfl, b6⟩))
        go_roundg (gk - 1)
        case measure => have := hK.out; omega
        case rel =>
          have := hK.out
          refine ⟨k + 1, by omega, rfl, ?_, hT.kept b6, below_far hB b6⟩
          rw [hs.out, hf]
          rfl
    · obtain rfl : k = 256 := by have := hK.out; omega
      go_wp2_with fail
      go_ret
      exact ⟨rfl, hB⟩

theorem one_any (F : Nat → Bool) (w : World) :
    Calls Tryd.prog 41 #[tab F] w fun e w' => ((∃ x, x < 256 ∧ F x = true ∧ (∀ y, y < x → F y = false) ∧ e = .returned (.tuple #[.int .u8 (x : Int), .bool true])) ∨ ((∀ y, y < 256 → F y = false) ∧ e = .returned (.tuple #[.int .u8 0, .bool false]))) ∧ Below w.heap.size w w' := by
  conv in #[tab F] => unfold tab
  go_enter Tryd.func41, Tryd.ntmps41
  go_wp2_with fail
  have TF := (IsTab.new w F)
  have B0 := ((Below.refl _ w).alloc (Nat.le_refl _) (.cells #[.int .u64 (word F 0 : Int), .int .u64 (word F 1 : Int), .int .u64 (word F 2 : Int), .int .u64 (word F 3 : Int)] 24))
  generalize (w.alloc (.cells #[.int .u64 (word F 0 : Int), .int .u64 (word F 1 : Int), .int .u64 (word F 2 : Int), .int .u64 (word F 3 : Int)] 24)) = w4 at TF B0 ⊢
  go_loopg [4] 256 (fun g si wr => ∃ k : Nat, k + g = 256 ∧ si = .int .i64 (k : Int) ∧ (∀ y, y < k → F y = false) ∧ IsTab wr w.heap.size F ∧ Below w.heap.size w wr)
  case atStart => exact ⟨0, by omega, rfl, fun y hy => absurd hy (by omega), TF, B0⟩
  case round =>
    obtain ⟨k, hk, rfl, ha, hT, hB⟩ := hrel
    have hK : Aside (k + gk = 256) := hk
    have hA : Aside (∀ y, y < k → F y = false) := ha
    clear hk ha
    by_cases hk9 : k < 256
    · have hk9' : (k : Int) < 256 := by omega
      have hw : IntKind.u8.wrap (k : Int) = (k : Int) := by rw [IntKind.wrap_u8]; omega
      obtain ⟨c0, c1, c2, c3⟩ := hT.copy
      cases hf : F k with
      | true =>
        have hF : Aside (F k = true) := hf
        go_wp2_with (first
          | (go_at_call 25; refine (eval_any F k hk9 _).mono ?_; rw [hF.out]; rintro e w6 ⟨rfl, b6⟩))
        go_ret2
        exact ⟨.inl ⟨k, hk9, hF.out, hA.out, rfl⟩, below_far hB b6⟩
      | false =>
        have hF : Aside (F k = false) := hf
        go_wp2_with (first
          | (go_at_call 25; refine (eval_any F k hk9 _).mono ?_; rw [hF.out]; rintro e w6 ⟨rfl, b6⟩))
        go_roundg (gk - 1)
        case measure => have := hK.out; omega
        case rel =>
          have := hK.out
          refine ⟨k + 1, by omega, rfl, fun y hy => ?_, hT.kept b6, below_far hB b6⟩
          by_cases e : y = k
          · rw [e]; exact hF.out
          · exact hA.out y (by omega)
    · obtain rfl : k = 256 := by have := hK.out; omega
      go_wp2_with fail
      go_ret2
      exact ⟨.inr ⟨hA.out, rfl⟩, hB⟩
end Go.Proofs.YtmfocngdobcfcaaDoor
