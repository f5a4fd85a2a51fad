/-
  What the reference's other functions return: the second part.
-/
import Derived.Test.YtmfocngdobcfcaaDoorMore
import Derived.Test.YtmfocngdobcfcaaDoorEq
namespace Go.Proofs.YtmfocngdobcfcaaDoor
open Go Go.RowKit

theorem half_any (x : Nat) (hx : x < 256) (w : World) :
    Calls Tryd.prog 52 #[.int .i64 (x : Int)] w fun e w' => e = .returned (.int .i64 (halfN x : Int)) ∧ w' = w := by
  rw [← half_form x hx]
  go_enter Tryd.func52, Tryd.ntmps52
  go_wp2
  go_ret
  exact ⟨rfl, rfl⟩

theorem var_none (v : Int) (hv : v < 0 ∨ 8 ≤ v) (w : World) :
    Calls Tryd.prog 13 #[.int .i64 v] w fun e w' => e = .returned (tab (fun _ => false)) ∧ Below w.heap.size w w' := by
  go_enter Tryd.func13, Tryd.ntmps13
  go_wp2_with fail
  have TZ := ((IsTab.zeroAt (w := w) (n := w.heap.size) (by simp)).alloc (.cells #[.int .u64 0, .int .u64 0, .int .u64 0, .int .u64 0] 24))
  have TZ1 := (IsTab.zeroAt (w := (w.alloc (.cells #[.int .u64 0, .int .u64 0, .int .u64 0, .int .u64 0] 24))) (n := w.heap.size + 1) (by simp))
  have B0 := (((Below.refl _ w).alloc (Nat.le_refl _) (.cells #[.int .u64 0, .int .u64 0, .int .u64 0, .int .u64 0] 24)).alloc (by simp) (.cells #[.int .u64 0, .int .u64 0, .int .u64 0, .int .u64 0] 24))
  generalize ((w.alloc (.cells #[.int .u64 0, .int .u64 0, .int .u64 0, .int .u64 0] 24)).alloc (.cells #[.int .u64 0, .int .u64 0, .int .u64 0, .int .u64 0] 24)) = w4 at  B0 TZ TZ1 ⊢
  obtain ⟨c0, c1, c2, c3⟩ := TZ1.copy
  obtain ⟨z0, z1, z2, z3⟩ := TZ.copy
  have y0 := TZ.free 0
  have y1 := TZ.free 1
  have y2 := TZ.free 2
  have y3 := TZ.free 3
  rcases hv with hv | hv
  · have hd : decide (0 ≤ v) = false := by simp; omega
    refine wp_loop_rounds 1 ?_
    rw [rounds_succ]
    go_wp2_with fail
    exact bodyPost_ret (results_tab rfl rfl (laid_tab TZ _)) rfl ⟨rfl, B0.trans ((laid_turned _ _ _).below B0.size (by omega))⟩
  · have hd : decide (0 ≤ v) = true := by simp; omega
    have hd2 : decide (v < 8) = false := by simp; omega
    refine wp_loop_rounds 1 ?_
    rw [rounds_succ]
    go_wp2_with fail
    exact bodyPost_ret (results_tab rfl rfl (laid_tab TZ _)) rfl ⟨rfl, B0.trans ((laid_turned _ _ _).below B0.size (by omega))⟩

theorem var_any (v : Nat) (hv : v < 8) (w : World) :
    Calls Tryd.prog 13 #[.int .i64 (v : Int)] w fun e w' => e = .returned (tab (M v)) ∧ Below w.heap.size w w' := by
  have R : Hid (tab (M v) = tab (fun y => decide (y < 256) && M v y)) := (tab_ext fun y hy => upto_all (M v) y hy).symm
  rw [R.out]
  clear R
  have hv' : (v : Int) < 8 := by omega
  go_enter Tryd.func13, Tryd.ntmps13
  go_wp2_with fail
  have TZ := ((IsTab.zeroAt (w := w) (n := w.heap.size) (by simp)).alloc (.cells #[.int .u64 0, .int .u64 0, .int .u64 0, .int .u64 0] 24))
  have TZ1 := (IsTab.zeroAt (w := (w.alloc (.cells #[.int .u64 0, .int .u64 0, .int .u64 0, .int .u64 0] 24))) (n := w.heap.size + 1) (by simp))
  have B0 := (((Below.refl _ w).alloc (Nat.le_refl _) (.cells #[.int .u64 0, .int .u64 0, .int .u64 0, .int .u64 0] 24)).alloc (by simp) (.cells #[.int .u64 0, .int .u64 0, .int .u64 0, .int .u64 0] 24))
  generalize ((w.alloc (.cells #[.int .u64 0, .int .u64 0, .int .u64 0, .int .u64 0] 24)).alloc (.cells #[.int .u64 0, .int .u64 0, .int .u64 0, .int .u64 0] 24)) = w4 at  B0 TZ TZ1 ⊢
  go_loopg [4] 256 (fun g si wr => ∃ k : Nat, k + g = 256 ∧ si = .int .i64 (k : Int) ∧ IsTab wr (w.heap.size + 1) (fun y => decide (y < k) && M v y) ∧ IsTab wr w.heap.size (fun _ => false) ∧ Below w.heap.size w wr)
  case atStart => exact ⟨0, by omega, rfl, TZ1.ext fun y _ => by simp, TZ, B0⟩
  case round =>
    obtain ⟨k, hk, rfl, hT, hZ, hB⟩ := hrel
    have hK : Aside (k + gk = 256) := hk
    clear hk
    by_cases hk9 : k < 256
    · have hk9' : (k : Int) < 256 := by omega
      have hw : IntKind.u8.wrap (k : Int) = (k : Int) := by rw [IntKind.wrap_u8]; omega
      have hb := var_bit v k hk9
      have hS := upto_step (M v) k
      generalize M v k = m at hb hS
      go_wp2_with (first
        | (go_at_call 48; refine (set_any (w.heap.size + 1) _ k hk9 m _ hT).mono ?_; rintro e w6 ⟨rfl, h6, t6⟩))
      go_roundg (gk - 1)
      case measure => have := hK.out; omega
      case rel =>
        have hk := hK.out
        exact ⟨k + 1, by omega, rfl, h6.ext fun y _ => hS y, t6.tab hZ (by omega), hB.trans (t6.below hB.size (by omega))⟩
    · obtain rfl : k = 256 := by have := hK.out; omega
      have hd : decide ((256 : Int) < 256) = false := by decide
      obtain ⟨c0, c1, c2, c3⟩ := hT.copy
      obtain ⟨z0, z1, z2, z3⟩ := hZ.copy
      have y0 := hZ.free 0
      have y1 := hZ.free 1
      have y2 := hZ.free 2
      have y3 := hZ.free 3
      go_wp2_with fail
      exact bodyPost_ret (results_tab rfl rfl (laid_tab hZ _)) rfl ⟨rfl, hB.trans ((laid_turned _ _ _).below hB.size (by omega))⟩

/-- The variables on which a function hangs, up to one. -/
def supUpto (F : Nat → Bool) : Nat → Nat
  | 0 => 0
  | v + 1 => if same (fixF F v false) (fixF F v true) then supUpto F v else supUpto F v ||| 2 ^ v
theorem sup_lt (F : Nat → Bool) (v : Nat) (hv : v ≤ 8) : supUpto F v < 2 ^ 8 := by
  induction v with
  | zero => simp [supUpto]
  | succ v ih =>
    rw [supUpto]
    split
    · exact ih (by omega)
    · exact Nat.or_lt_two_pow (ih (by omega)) (Nat.pow_lt_pow_right (by decide) (by omega))

set_option maxHeartbeats 800000 in
theorem support_any (F : Nat → Bool) (w : World) :
    Calls Tryd.prog 45 #[tab F] w fun e w' => e = .returned (.int .u8 (supUpto F 8 : Int)) ∧ Below w.heap.size w w' := by
  conv in #[tab F] => unfold tab
  go_enter Tryd.func45, Tryd.ntmps45
  go_wp2_with fail
  have TF := (IsTab.new w F)
  have B0 := ((Below.refl _ w).alloc (Nat.le_refl _) (.cells #[.int .u64 (word F 0 : Int), .int .u64 (word F 1 : Int), .int .u64 (word F 2 : Int), .int .u64 (word F 3 : Int)] 24))
  generalize (w.alloc (.cells #[.int .u64 (word F 0 : Int), .int .u64 (word F 1 : Int), .int .u64 (word F 2 : Int), .int .u64 (word F 3 : Int)] 24)) = w4 at TF B0 ⊢
  go_loopg [3, 4] 8 (fun g sn si wr => ∃ v : Nat, v + g = 8 ∧ si = .int .i64 (v : Int) ∧ sn = .int .u8 (supUpto F v : Int) ∧ IsTab wr w.heap.size F ∧ Below w.heap.size w wr)
  case atStart => exact ⟨0, by omega, rfl, rfl, TF, B0⟩
  case round =>
    obtain ⟨v, hv, rfl, rfl, hT, hB⟩ := hrel
    have hV : Aside (v + gk = 8) := hv
    clear hv
    by_cases hv8 : v < 8
    · have hv8' : (v : Int) < 8 := by omega
      have hl := sup_lt F v (by omega)
      have hs : Aside (supUpto F (v + 1) = if same (fixF F v false) (fixF F v true) then supUpto F v else supUpto F v ||| 2 ^ v) := rfl
      have heq : ∀ w, (Op.equalIn 10000 24 (tab (fixF F v false)) (tab (fixF F v true))).run Tryd.prog w = .ok (same (fixF F v false) (fixF F v true)) w := fun w => equal_tab _ _ w
      unfold tab at heq
      generalize supUpto F v = n at hl hs
      go_wp2_with fail
      obtain ⟨c0, c1, c2, c3⟩ := hT.copy
      cases hsm : same (fixF F v false) (fixF F v true) with
      | true =>
        rw [hsm] at hs
        simp only [hsm] at heq
        go_region_with (first
          | (go_at_call_of 27 (Value.bool false); refine (fix_any F v hv8 false _).mono ?_; unfold tab; rintro e w6 ⟨rfl, b6⟩; have T6 : IsTab w6 w.heap.size F := IsTab.kept hT.drew b6; obtain ⟨q0, q1, q2, q3⟩ := T6.copy)
          | (go_at_call_of 27 (Value.bool true); refine (fix_any F v hv8 true _).mono ?_; unfold tab; rintro e w7 ⟨rfl, b7⟩; have T7 := T6.kept b7))
        all_goals go_wp2_with fail
        all_goals go_roundg (gk - 1)
        all_goals first
          | (have := hV.out; omega)
          | (have := hV.out
             exact ⟨v + 1, by omega, rfl, by rw [hs.out]; rfl, T7, below_far hB (below_undrew (below_far b6 b7))⟩)
      | false =>
        rw [hsm] at hs
        simp only [hsm] at heq
        go_region_with (first
          | (go_at_call_of 27 (Value.bool false); refine (fix_any F v hv8 false _).mono ?_; unfold tab; rintro e w6 ⟨rfl, b6⟩; have T6 : IsTab w6 w.heap.size F := IsTab.kept hT.drew b6; obtain ⟨q0, q1, q2, q3⟩ := T6.copy)
          | (go_at_call_of 27 (Value.bool true); refine (fix_any F v hv8 true _).mono ?_; unfold tab; rintro e w7 ⟨rfl, b7⟩; have T7 := T6.kept b7))
        all_goals go_wp2_with fail
        all_goals go_roundg (gk - 1)
        all_goals first
          | (have := hV.out; omega)
          | (have := hV.out
             exact ⟨v + 1, by omega, rfl, by rw [hs.out, if_neg (by decide), or_pow8' n v hl hv8], T7, below_far hB (below_undrew (below_far b6 b7))⟩)
    · obtain rfl : v = 8 := by have := hV.out; omega
      go_wp2_with fail
      go_ret
      exact ⟨rfl, hB⟩
end Go.Proofs.YtmfocngdobcfcaaDoor
