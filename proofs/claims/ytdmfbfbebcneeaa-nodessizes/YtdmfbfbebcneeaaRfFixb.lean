/-
  What Fix of the reference returns: variables within a word.
-/
import Derived.Test.YtdmfbfbebcneeaaRfFix
namespace Go.Proofs.Ytdmfbfbebcneeaa.Rf
open Go Go.RowKit

theorem mask_set (v x : Nat) (hx : x < 64) (h : M v x = true) : bits .or .u64 (word (fun y => decide (y < x) && M v y) 0 : Int) (IntKind.u64.wrap (2 ^ x)) = (word (fun y => decide (y < x + 1) && M v y) 0 : Int) := by
  rw [set_bit _ 0 x hx]
  congr 1
  apply word_congr
  intro i _
  have := upto_step (M v) x (64 * 0 + i)
  rw [h, Bool.and_true] at this
  simpa using this
theorem mask_skip (v x : Nat) (h : M v x = false) : word (fun y => decide (y < x) && M v y) 0 = word (fun y => decide (y < x + 1) && M v y) 0 := by
  apply word_congr
  intro i _
  have := upto_step (M v) x (64 * 0 + i)
  rw [h, Bool.and_false, Bool.or_false] at this
  exact this
theorem mask_all (v : Nat) : word (fun y => decide (y < 64) && M v y) 0 = word (M v) 0 := word_congr fun i hi => by simp [hi]

theorem up_int (F : Nat → Bool) (v k S : Nat) (hv : v < 6) (hS : 2 ^ v = S) : bits .or .u64 (word (fun x => F x && M v x) k : Int) ((word (fun x => F x && M v x) k : Int) / 2 ^ S) = (word (fixF F v true) k : Int) := by
  subst hS
  have h1 : ((word (fun x => F x && M v x) k : Int) / 2 ^ (2 ^ v)) = ((word (fun x => F x && M v x) k / 2 ^ (2 ^ v) : Nat) : Int) := by push_cast; rfl
  rw [h1, u64_or_nat _ _ (word_lt _ k) (Nat.lt_of_le_of_lt (Nat.div_le_self _ _) (word_lt _ k)), fix_up F v k hv]
theorem down_int (F : Nat → Bool) (v k S : Nat) (hv : v < 6) (hS : 2 ^ v = S) : bits .or .u64 (word (fun x => F x && !M v x) k : Int) (IntKind.u64.wrap ((word (fun x => F x && !M v x) k : Int) * 2 ^ S)) = (word (fixF F v false) k : Int) := by
  subst hS
  have h1 : IntKind.u64.wrap ((word (fun x => F x && !M v x) k : Int) * 2 ^ (2 ^ v)) = ((word (fun x => F x && !M v x) k * 2 ^ (2 ^ v) % 18446744073709551616 : Nat) : Int) := by
    have h2 : (word (fun x => F x && !M v x) k : Int) * 2 ^ (2 ^ v) = ((word (fun x => F x && !M v x) k * 2 ^ (2 ^ v) : Nat) : Int) := by push_cast; rfl
    rw [IntKind.wrap_u64, h2]
    exact (Int.natCast_emod _ 18446744073709551616).symm
  rw [h1, u64_or_nat _ _ (word_lt _ k) (Nat.mod_lt _ (by decide)), fix_down F v k hv]

set_option maxHeartbeats 1600000 in
theorem fix_low_true (F : Nat → Bool) (v : Nat) (hv : v < 6) (w : World) :
    Calls Try.prog 42 #[tab F, .int .i64 (v : Int), .bool true] w fun e w' => e = .returned (tab (fixF F v true)) ∧ Below w.heap.size w w' := by
  have R : Hid (tab (fixF F v true) = tab (mix 4 F (fixF F v true))) := (tab_ext fun x hx => mix_all F (fixF F v true) x hx).symm
  rw [R.out]
  clear R
  obtain ⟨S, hS⟩ : ∃ S : Nat, 2 ^ v = S := ⟨_, rfl⟩
  have hS1 : S ≤ 32 := by rw [← hS]; exact Nat.pow_le_pow_right (n := 2) (by decide) (show v ≤ 5 by omega)
  have hS0 : 0 < S := by rw [← hS]; exact Nat.pow_pos (by decide)
  have hSS : IntKind.u64.wrap (2 ^ v) = (S : Int) := by
    have h2 : (2 : Int) ^ v = ((2 ^ v : Nat) : Int) := by push_cast; rfl
    rw [h2, hS, IntKind.wrap_u64]
    omega
  have hSA : Hid (2 ^ v = S) := hS
  clear hS
  have hv6 : decide ((6 : Int) ≤ (v : Int)) = false := by simp; omega
  conv in #[tab F, Value.int IntKind.i64 (v : Int), Value.bool true] => unfold tab
  go_enter Try.func42, Try.ntmps42
  go_wp2_with fail
  have TF := (IsTab.new w F).alloc (.cells #[.int .u64 0, .int .u64 0, .int .u64 0, .int .u64 0] 46)
  have TZ := IsTab.zeroAt (w := w.alloc (.cells #[.int .u64 (word F 0 : Int), .int .u64 (word F 1 : Int), .int .u64 (word F 2 : Int), .int .u64 (word F 3 : Int)] 46)) (n := w.heap.size + 1) (by simp)
  have B0 := ((Below.refl _ w).alloc (Nat.le_refl _) (.cells #[.int .u64 (word F 0 : Int), .int .u64 (word F 1 : Int), .int .u64 (word F 2 : Int), .int .u64 (word F 3 : Int)] 46)).alloc (by simp) (.cells #[.int .u64 0, .int .u64 0, .int .u64 0, .int .u64 0] 46)
  generalize (w.alloc (.cells #[.int .u64 (word F 0 : Int), .int .u64 (word F 1 : Int), .int .u64 (word F 2 : Int), .int .u64 (word F 3 : Int)] 46)).alloc (.cells #[.int .u64 0, .int .u64 0, .int .u64 0, .int .u64 0] 46) = w4 at TF TZ B0 ⊢
  go_loopg [10, 12] 64 (fun g sm sx wr => ∃ x : Nat, x + g = 64 ∧ sx = .int .u64 (x : Int) ∧ sm = .int .u64 (word (fun y => decide (y < x) && M v y) 0 : Int) ∧ wr = w4)
  case atStart => exact ⟨0, by omega, rfl, by simp [word_zero], rfl⟩
  case round =>
    obtain ⟨x, hx, rfl, rfl, rfl⟩ := hrel
    have hX : Aside (x + gk = 64) := hx
    clear hx
    by_cases hx9 : x < 64
    · have hx9' : (x : Int) < 64 := by omega
      have ha := and_pow x v hx9 hv
      rw [hSA.out] at ha
      cases hm : M v x with
      | true =>
        rw [hm, if_pos rfl] at ha
        have hne : ((S : Int) != 0) = true := by simp; omega
        have hor := mask_set v x hx9 hm
        go_wp2_with fail
        go_roundg (gk - 1)
        case measure => have := hX.out; omega
        case rel => have := hX.out; exact ⟨x + 1, by omega, rfl, rfl, rfl⟩
      | false =>
        rw [hm, if_neg (by decide)] at ha
        go_wp2_with fail
        go_roundg (gk - 1)
        case measure => have := hX.out; omega
        case rel => have := hX.out; exact ⟨x + 1, by omega, rfl, by rw [mask_skip v x hm], rfl⟩
    · obtain rfl : x = 64 := by have := hX.out; omega
      rw [mask_all]
      go_wp2_with fail
      go_loopg [13] 4 (fun g si wr => ∃ k : Nat, k + g = 4 ∧ si = .int .i64 (k : Int) ∧ IsTab wr w.heap.size (mix k F (fixF F v true)) ∧ IsTab wr (w.heap.size + 1) (fun _ => false) ∧ Below w.heap.size w wr)
      case atStart => exact ⟨0, by omega, rfl, TF.ext fun y _ => mix_none F _ y, TZ, B0⟩
      case round =>
        obtain ⟨k, hk, rfl, hT, hZ, hB⟩ := hrel
        have hK : Aside (k + gk = 4) := hk
        clear hk
        by_cases hk9 : k < 4
        · have hk9' : (k : Int) < 4 := by omega
          have c0 := hT.cell hk9
          rw [mix_now] at c0
          have f0 := hT.free k
          have e1 : bits .and .u64 (word F k : Int) (word (M v) 0 : Int) = (word (fun x => F x && M v x) k : Int) := by rw [u64_and_nat _ _ (word_lt F k) (word_lt _ 0), and_mask F v k hv]
          go_wp2_with fail
          rw [up_int F v k S hv hSA.out]
          go_roundg (gk - 1)
          case measure => have := hK.out; omega
          case rel =>
            have hk := hK.out
            exact ⟨k + 1, by omega, rfl, hT.mixed hk9, hZ.other (by simp) _, hB.setCell (Nat.le_refl _) _⟩
        · obtain rfl : k = 4 := by have := hK.out; omega
          obtain ⟨c0, c1, c2, c3⟩ := hT.copy
          obtain ⟨z0, z1, z2, z3⟩ := hZ.copy
          have y0 := hZ.free 0
          have y1 := hZ.free 1
          have y2 := hZ.free 2
          have y3 := hZ.free 3
          go_wp2_with fail
          exact bodyPost_ret (results_tab rfl rfl (laid_tab hZ _)) rfl ⟨rfl, hB.trans ((laid_turned _ _ _).below hB.size (Nat.le_succ _))⟩

set_option maxHeartbeats 1600000 in
theorem fix_low_false (F : Nat → Bool) (v : Nat) (hv : v < 6) (w : World) :
    Calls Try.prog 42 #[tab F, .int .i64 (v : Int), .bool false] w fun e w' => e = .returned (tab (fixF F v false)) ∧ Below w.heap.size w w' := by
  have R : Hid (tab (fixF F v false) = tab (mix 4 F (fixF F v false))) := (tab_ext fun x hx => mix_all F (fixF F v false) x hx).symm
  rw [R.out]
  clear R
  obtain ⟨S, hS⟩ : ∃ S : Nat, 2 ^ v = S := ⟨_, rfl⟩
  have hS1 : S ≤ 32 := by rw [← hS]; exact Nat.pow_le_pow_right (n := 2) (by decide) (show v ≤ 5 by omega)
  have hS0 : 0 < S := by rw [← hS]; exact Nat.pow_pos (by decide)
  have hSS : IntKind.u64.wrap (2 ^ v) = (S : Int) := by
    have h2 : (2 : Int) ^ v = ((2 ^ v : Nat) : Int) := by push_cast; rfl
    rw [h2, hS, IntKind.wrap_u64]
    omega
  have hSA : Hid (2 ^ v = S) := hS
  clear hS
  have hv6 : decide ((6 : Int) ≤ (v : Int)) = false := by simp; omega
  conv in #[tab F, Value.int IntKind.i64 (v : Int), Value.bool false] => unfold tab
  go_enter Try.func42, Try.ntmps42
  go_wp2_with fail
  have TF := (IsTab.new w F).alloc (.cells #[.int .u64 0, .int .u64 0, .int .u64 0, .int .u64 0] 46)
  have TZ := IsTab.zeroAt (w := w.alloc (.cells #[.int .u64 (word F 0 : Int), .int .u64 (word F 1 : Int), .int .u64 (word F 2 : Int), .int .u64 (word F 3 : Int)] 46)) (n := w.heap.size + 1) (by simp)
  have B0 := ((Below.refl _ w).alloc (Nat.le_refl _) (.cells #[.int .u64 (word F 0 : Int), .int .u64 (word F 1 : Int), .int .u64 (word F 2 : Int), .int .u64 (word F 3 : Int)] 46)).alloc (by simp) (.cells #[.int .u64 0, .int .u64 0, .int .u64 0, .int .u64 0] 46)
  generalize (w.alloc (.cells #[.int .u64 (word F 0 : Int), .int .u64 (word F 1 : Int), .int .u64 (word F 2 : Int), .int .u64 (word F 3 : Int)] 46)).alloc (.cells #[.int .u64 0, .int .u64 0, .int .u64 0, .int .u64 0] 46) = w4 at TF TZ B0 ⊢
  go_loopg [10, 12] 64 (fun g sm sx wr => ∃ x : Nat, x + g = 64 ∧ sx = .int .u64 (x : Int) ∧ sm = .int .u64 (word (fun y => decide (y < x) && M v y) 0 : Int) ∧ wr = w4)
  case atStart => exact ⟨0, by omega, rfl, by simp [word_zero], rfl⟩
  case round =>
    obtain ⟨x, hx, rfl, rfl, rfl⟩ := hrel
    have hX : Aside (x + gk = 64) := hx
    clear hx
    by_cases hx9 : x < 64
    · have hx9' : (x : Int) < 64 := by omega
      have ha := and_pow x v hx9 hv
      rw [hSA.out] at ha
      cases hm : M v x with
      | true =>
        rw [hm, if_pos rfl] at ha
        have hne : ((S : Int) != 0) = true := by simp; omega
        have hor := mask_set v x hx9 hm
        go_wp2_with fail
        go_roundg (gk - 1)
        case measure => have := hX.out; omega
        case rel => have := hX.out; exact ⟨x + 1, by omega, rfl, rfl, rfl⟩
      | false =>
        rw [hm, if_neg (by decide)] at ha
        go_wp2_with fail
        go_roundg (gk - 1)
        case measure => have := hX.out; omega
        case rel => have := hX.out; exact ⟨x + 1, by omega, rfl, by rw [mask_skip v x hm], rfl⟩
    · obtain rfl : x = 64 := by have := hX.out; omega
      rw [mask_all]
      go_wp2_with fail
      go_loopg [13] 4 (fun g si wr => ∃ k : Nat, k + g = 4 ∧ si = .int .i64 (k : Int) ∧ IsTab wr w.heap.size (mix k F (fixF F v false)) ∧ IsTab wr (w.heap.size + 1) (fun _ => false) ∧ Below w.heap.size w wr)
      case atStart => exact ⟨0, by omega, rfl, TF.ext fun y _ => mix_none F _ y, TZ, B0⟩
      case round =>
        obtain ⟨k, hk, rfl, hT, hZ, hB⟩ := hrel
        have hK : Aside (k + gk = 4) := hk
        clear hk
        by_cases hk9 : k < 4
        · have hk9' : (k : Int) < 4 := by omega
          have c0 := hT.cell hk9
          rw [mix_now] at c0
          have f0 := hT.free k
          have e1 : bits .andNot .u64 (word F k : Int) (word (M v) 0 : Int) = (word (fun x => F x && !M v x) k : Int) := by rw [u64_andNot_nat _ _ (word_lt F k) (word_lt _ 0), andNot_mask F v k hv]
          go_wp2_with fail
          rw [down_int F v k S hv hSA.out]
          go_roundg (gk - 1)
          case measure => have := hK.out; omega
          case rel =>
            have hk := hK.out
            exact ⟨k + 1, by omega, rfl, hT.mixed hk9, hZ.other (by simp) _, hB.setCell (Nat.le_refl _) _⟩
        · obtain rfl : k = 4 := by have := hK.out; omega
          obtain ⟨c0, c1, c2, c3⟩ := hT.copy
          obtain ⟨z0, z1, z2, z3⟩ := hZ.copy
          have y0 := hZ.free 0
          have y1 := hZ.free 1
          have y2 := hZ.free 2
          have y3 := hZ.free 3
          go_wp2_with fail
          exact bodyPost_ret (results_tab rfl rfl (laid_tab hZ _)) rfl ⟨rfl, hB.trans ((laid_turned _ _ _).below hB.size (Nat.le_succ _))⟩

/-- Fix of a variable. -/
theorem fix_any (F : Nat → Bool) (v : Nat) (hv : v < 8) (b : Bool) (w : World) :
    Calls Try.prog 42 #[tab F, .int .i64 (v : Int), .bool b] w fun e w' => e = .returned (tab (fixF F v b)) ∧ Below w.heap.size w w' := by
  by_cases h6 : v < 6
  · cases b
    · exact fix_low_false F v h6 w
    · exact fix_low_true F v h6 w
  · have h : v = 6 ∨ v = 7 := by omega
    rcases h with rfl | rfl
    · cases b
      · exact fix_6_false F w
      · exact fix_6_true F w
    · cases b
      · exact fix_7_false F w
      · exact fix_7_true F w
end Go.Proofs.Ytdmfbfbebcneeaa.Rf
