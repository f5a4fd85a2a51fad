/-
  What the reference's other functions return: the second part.
-/
import Derived.Test.YtdmfbfbebcneeaaRfMore
import Derived.Test.YtdmfbfbebcneeaaRfEq
namespace Go.Proofs.Ytdmfbfbebcneeaa.Rf
open Go Go.RowKit
theorem var_none (v : Int) (hv : v < 0 ∨ 8 ≤ v) (w : World) :
    Calls Try.prog 55 #[.int .i64 v] w fun e w' => e = .returned (tab (fun _ => false)) ∧ Below w.heap.size w w' := by
  go_enter Try.func55, Try.ntmps55
  go_wp2_with fail
  have TZ := ((IsTab.zeroAt (w := w) (n := w.heap.size) (by simp)).alloc (.cells #[.int .u64 0, .int .u64 0, .int .u64 0, .int .u64 0] 46))
  have TZ1 := (IsTab.zeroAt (w := (w.alloc (.cells #[.int .u64 0, .int .u64 0, .int .u64 0, .int .u64 0] 46))) (n := w.heap.size + 1) (by simp))
  have B0 := (((Below.refl _ w).alloc (Nat.le_refl _) (.cells #[.int .u64 0, .int .u64 0, .int .u64 0, .int .u64 0] 46)).alloc (by simp) (.cells #[.int .u64 0, .int .u64 0, .int .u64 0, .int .u64 0] 46))
  generalize ((w.alloc (.cells #[.int .u64 0, .int .u64 0, .int .u64 0, .int .u64 0] 46)).alloc (.cells #[.int .u64 0, .int .u64 0, .int .u64 0, .int .u64 0] 46)) = w4 at  B0 TZ TZ1 ⊢
  obtain ⟨c0, c1, c2, c3⟩ := TZ1.copy
  obtain ⟨z0, z1, z2, z3⟩ := TZ.copy
  have y0 := TZ.free 0
  have y1 := TZ.free 1
  have y2 := TZ.free 2
  have y3 := TZ.free 3
  rcases hv with hv | hv
  · have hd : decide (0 ≤ v) = false := by simp; omega
    refine wp_loop_rounds 1 ?_
    rw [rounds_succ]
    go_wp2_with fail
    exact bodyPost_ret (results_tab rfl rfl (laid_tab TZ _)) rfl ⟨rfl, B0.trans ((laid_turned _ _ _).below B0.size (by omega))⟩
  · have hd : decide (0 ≤ v) = true := by simp; omega
    have hd2 : decide (v < 8) = false := by simp; omega
    refine wp_loop_rounds 1 ?_
    rw [rounds_succ]
    go_wp2_with fail
    exact bodyPost_ret (results_tab rfl rfl (laid_tab TZ _)) rfl ⟨rfl, B0.trans ((laid_turned _ _ _).below B0.size (by omega))⟩

theorem var_any (v : Nat) (hv : v < 8) (w : World) :
    Calls Try.prog 55 #[.int .i64 (v : Int)] w fun e w' => e = .returned (tab (M v)) ∧ Below w.heap.size w w' := by
  have R : Hid (tab (M v) = tab (fun y => decide (y < 256) && M v y)) := (tab_ext fun y hy => upto_all (M v) y hy).symm
  rw [R.out]
  clear R
  have hv' : (v : Int) < 8 := by omega
  go_enter Try.func55, Try.ntmps55
  go_wp2_with fail
  have TZ := ((IsTab.zeroAt (w := w) (n := w.heap.size) (by simp)).alloc (.cells #[.int .u64 0, .int .u64 0, .int .u64 0, .int .u64 0] 46))
  have TZ1 := (IsTab.zeroAt (w := (w.alloc (.cells #[.int .u64 0, .int .u64 0, .int .u64 0, .int .u64 0] 46))) (n := w.heap.size + 1) (by simp))
  have B0 := (((Below.refl _ w).alloc (Nat.le_refl _) (.cells #[.int .u64 0, .int .u64 0, .int .u64 0, .int .u64 0] 46)).alloc (by simp) (.cells #[.int .u64 0, .int .u64 0, .int .u64 0, .int .u64 0] 46))
  generalize ((w.alloc (.cells #[.int .u64 0, .int .u64 0, .int .u64 0, .int .u64 0] 46)).alloc (.cells #[.int .u64 0, .int .u64 0, .int .u64 0, .int .u64 0] 46)) = w4 at  B0 TZ TZ1 ⊢
  go_loopg [4] 256 (fun g si wr => ∃ k : Nat, k + g = 256 ∧ si = .int .i64 (k : Int) ∧ IsTab wr (w.heap.size + 1) (fun y => decide (y < k) && M v y) ∧ IsTab wr w.heap.size (fun _ => false) ∧ Below w.heap.size w wr)
  case atStart => exact ⟨0, by omega, rfl, TZ1.ext fun y _ => by simp, TZ, B0⟩
  case round =>
    obtain ⟨k, hk, rfl, hT, hZ, hB⟩ := hrel
    have hK : Aside (k + gk = 256) := hk
    clear hk
    by_cases hk9 : k < 256
    · have hk9' : (k : Int) < 256 := by omega
      have hw : IntKind.u8.wrap (k : Int) = (k : Int) := by rw [IntKind.wrap_u8]; omega
      have hb := var_bit v k hk9
      have hS := upto_step (M v) k
      generalize M v k = m at hb hS
      go_wp2_with (first
        | (go_at_call 68; refine (set_any (w.heap.size + 1) _ k hk9 m _ hT).mono ?_; rintro e w6 ⟨rfl, h6, t6⟩))
      go_roundg (gk - 1)
      case measure => have := hK.out; omega
      case rel =>
        have hk := hK.out
        exact ⟨k + 1, by omega, rfl, h6.ext fun y _ => hS y, t6.tab hZ (by omega), hB.trans (t6.below hB.size (by omega))⟩
    · obtain rfl : k = 256 := by have := hK.out; omega
      have hd : decide ((256 : Int) < 256) = false := by decide
      obtain ⟨c0, c1, c2, c3⟩ := hT.copy
      obtain ⟨z0, z1, z2, z3⟩ := hZ.copy
      have y0 := hZ.free 0
      have y1 := hZ.free 1
      have y2 := hZ.free 2
      have y3 := hZ.free 3
      go_wp2_with fail
      exact bodyPost_ret (results_tab rfl rfl (laid_tab hZ _)) rfl ⟨rfl, hB.trans ((laid_turned _ _ _).below hB.size (by omega))⟩

/-- The variables on which a function hangs, up to one. -/
def supUpto (F : Nat → Bool) : Nat → Nat
  | 0 => 0
  | v + 1 => if same (fixF F v false) (fixF F v true) then supUpto F v else supUpto F v ||| 2 ^ v
theorem sup_lt (F : Nat → Bool) (v : Nat) (hv : v ≤ 8) : supUpto F v < 2 ^ 8 := by
  induction v with
  | zero => simp [supUpto]
  | succ v ih =>
    rw [supUpto]
    split
    · exact ih (by omega)
    · exact Nat.or_lt_two_pow (ih (by omega)) (Nat.pow_lt_pow_right (by decide) (by omega))

end Go.Proofs.Ytdmfbfbebcneeaa.Rf
