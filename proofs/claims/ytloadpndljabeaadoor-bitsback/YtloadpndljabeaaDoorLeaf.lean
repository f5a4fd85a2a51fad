/-
  What each function of package bits returns, and each of its reference: for every argument, over every world that holds the table of masks.
-/
import Derived.Test.YtloadpndljabeaaDoorProg
import Derived.Test.YtloadpndljabeaaDoorForm
import Derived.WalkKit
import Derived.Handy
import Derived.Deep.QuietTactic
import Derived.BigQuiet
namespace Go.Proofs.YtloadpndljabeaaDoor
open Go Go.RowKit Num

theorem ret_int {k : IntKind} {a b : Int} (h : a = b) : Ending.returned (.int k a) = .returned (.int k b) := by rw [h]

/-- The table of masks lies in block 0. -/
structure Tab (w : World) : Prop where
  c0 : w.cell? ⟨0, 0, none⟩ = some (.int .u64 6148914691236517205)
  c1 : w.cell? ⟨0, 1, none⟩ = some (.int .u64 3689348814741910323)
  c2 : w.cell? ⟨0, 2, none⟩ = some (.int .u64 1085102592571150095)
  c3 : w.cell? ⟨0, 3, none⟩ = some (.int .u64 71777214294589695)
  c4 : w.cell? ⟨0, 4, none⟩ = some (.int .u64 281470681808895)
  c5 : w.cell? ⟨0, 5, none⟩ = some (.int .u64 4294967295)
theorem Tab.drew {w : World} (n : Nat) (h : Tab w) : Tab (w.drewN n) := by
  obtain ⟨c0, c1, c2, c3, c4, c5⟩ := h
  constructor <;> simpa using (by assumption)

theorem width_any (k : Int) (w : World) (h0 : 0 ≤ k) (h1 : k ≤ 63) :
    Calls Tryd.prog 24 #[.int .i64 k] w fun e w' => e = .returned (.int .u64 (IntKind.u64.wrap (2 ^ k.toNat))) ∧ w' = w := by
  go_enter Tryd.func24, Tryd.ntmps24
  go_wp2
  go_ret
  exact ⟨rfl, rfl⟩

theorem node_any (l a b : Int) (w : World) (h0 : 0 ≤ l ∧ l ≤ 255) (h1 : 0 ≤ a ∧ a ≤ 4294967295) (h2 : 0 ≤ b ∧ b ≤ 4294967295) :
    Calls Tryd.prog 10 #[.int .u8 l, .int .u32 a, .int .u32 b] w fun e w' => e = .returned (.int .u64 (nodeZ l a b)) ∧ w' = w := by
  rw [← node_form l a b h0 h1 h2]
  go_enter Tryd.func10, Tryd.ntmps10
  go_wp2
  go_ret
  exact ⟨rfl, rfl⟩
theorem rnode_any (l a b : Int) (w : World) (h0 : 0 ≤ l ∧ l ≤ 255) (h1 : 0 ≤ a ∧ a ≤ 4294967295) (h2 : 0 ≤ b ∧ b ≤ 4294967295) :
    Calls Tryd.prog 11 #[.int .u8 l, .int .u32 a, .int .u32 b] w fun e w' => e = .returned (.int .u64 (nodeZ l a b)) ∧ w' = w := by
  rw [← node_form l a b h0 h1 h2]
  go_enter Tryd.func11, Tryd.ntmps11
  go_wp2
  go_ret
  exact ⟨rfl, rfl⟩
theorem parts_any (x : Int) (w : World) (h0 : 0 ≤ x) (h1 : x ≤ 18446744073709551615) :
    Calls Tryd.prog 22 #[.int .u64 x] w fun e w' => e = .returned (.tuple #[.int .u8 (x / 72057594037927936), .int .u32 (x / 268435456 % 268435456), .int .u32 (x % 268435456)]) ∧ w' = w := by
  have e1 : bits .and .u64 (x / 268435456) 268435455 % 4294967296 = x / 268435456 % 268435456 := by rw [and28_u64 _ (by omega) (by omega)]; omega
  have e2 : bits .and .u64 x 268435455 % 4294967296 = x % 268435456 := by rw [and28_u64 _ (by omega) (by omega)]; omega
  rw [← e1, ← e2]
  clear e1 e2
  go_enter Tryd.func22, Tryd.ntmps22
  go_wp2
  go_ret3
  exact ⟨rfl, rfl⟩
theorem mix_any (x : Int) (w : World) (h0 : 0 ≤ x) (h1 : x ≤ 18446744073709551615) :
    Calls Tryd.prog 12 #[.int .u64 x] w fun e w' => e = .returned (.int .u64 (mixZ x)) ∧ w' = w := by
  rw [← mix_form x h0 h1]
  go_enter Tryd.func12, Tryd.ntmps12
  go_wp2
  go_ret
  exact ⟨rfl, rfl⟩
theorem rmix_any (x : Int) (w : World) (h0 : 0 ≤ x) (h1 : x ≤ 18446744073709551615) :
    Calls Tryd.prog 13 #[.int .u64 x] w fun e w' => e = .returned (.int .u64 (mixZ x)) ∧ w' = w := by
  rw [← mix_form x h0 h1]
  go_enter Tryd.func13, Tryd.ntmps13
  go_wp2
  go_ret
  exact ⟨rfl, rfl⟩
theorem home_any (x s : Int) (w : World) (h0 : 0 ≤ x) (h1 : x ≤ 18446744073709551615) (h2 : -9223372036854775808 ≤ s) (h3 : s ≤ 9223372036854775807) :
    Calls Tryd.prog 14 #[.int .u64 x, .int .i64 s] w fun e w' => e = .returned (.int .i64 (homeZ x s)) ∧ w' = w := by
  have m0 := mixZ_lo x
  have m1 := mixZ_hi x
  by_cases hs : s < 1
  · rw [show homeZ x s = 0 by simp [homeZ, hs]]
    go_enter Tryd.func14, Tryd.ntmps14
    go_wp2
    go_ret
    exact ⟨rfl, rfl⟩
  · rw [show homeZ x s = mixZ x % s by simp [homeZ, hs]]
    have r0 : 0 ≤ mixZ x % s := Int.emod_nonneg _ (by omega)
    have r1 : mixZ x % s < s := Int.emod_lt_of_pos _ (by omega)
    go_enter Tryd.func14, Tryd.ntmps14
    go_wp2_with (go_at_call 12; refine (mix_any _ _ (by omega) (by omega)).mono ?_; rintro e w' ⟨rfl, rfl⟩)
    go_ret
    exact ⟨rfl, rfl⟩
theorem rhome_any (x s : Int) (w : World) (h0 : 0 ≤ x) (h1 : x ≤ 18446744073709551615) (h2 : -9223372036854775808 ≤ s) (h3 : s ≤ 9223372036854775807) :
    Calls Tryd.prog 15 #[.int .u64 x, .int .i64 s] w fun e w' => e = .returned (.int .i64 (homeZ x s)) ∧ w' = w := by
  have m0 := mixZ_lo x
  have m1 := mixZ_hi x
  by_cases hs : s < 1
  · rw [show homeZ x s = 0 by simp [homeZ, hs]]
    go_enter Tryd.func15, Tryd.ntmps15
    go_wp2
    go_ret
    exact ⟨rfl, rfl⟩
  · rw [show homeZ x s = mixZ x % s by simp [homeZ, hs]]
    have r0 : 0 ≤ mixZ x % s := Int.emod_nonneg _ (by omega)
    have r1 : mixZ x % s < s := Int.emod_lt_of_pos _ (by omega)
    go_enter Tryd.func15, Tryd.ntmps15
    go_wp2_with (go_at_call 13; refine (rmix_any _ _ (by omega) (by omega)).mono ?_; rintro e w' ⟨rfl, rfl⟩)
    go_ret
    exact ⟨rfl, rfl⟩

theorem ones_any (x : Int) (w : World) (h0 : 0 ≤ x) (h1 : x ≤ 18446744073709551615) (T : Tab w) :
    Calls Tryd.prog 16 #[.int .u64 x] w fun e w' => e = .returned (.int .i64 (onesZ x)) ∧ w' = w := by
  obtain ⟨c0, c1, c2, c3, c4, c5⟩ := T
  have ix : ∀ (w : World) (a b c d e f : Int),
      (Instr.index 41 (.agg #[.int .u64 a, .int .u64 b, .int .u64 c, .int .u64 d, .int .u64 e, .int .u64 f]) (.int .i64 0)).run Tryd.prog w = .ok (.int .u64 a) w ∧
      (Instr.index 41 (.agg #[.int .u64 a, .int .u64 b, .int .u64 c, .int .u64 d, .int .u64 e, .int .u64 f]) (.int .i64 1)).run Tryd.prog w = .ok (.int .u64 b) w ∧
      (Instr.index 41 (.agg #[.int .u64 a, .int .u64 b, .int .u64 c, .int .u64 d, .int .u64 e, .int .u64 f]) (.int .i64 2)).run Tryd.prog w = .ok (.int .u64 c) w ∧
      (Instr.index 41 (.agg #[.int .u64 a, .int .u64 b, .int .u64 c, .int .u64 d, .int .u64 e, .int .u64 f]) (.int .i64 3)).run Tryd.prog w = .ok (.int .u64 d) w ∧
      (Instr.index 41 (.agg #[.int .u64 a, .int .u64 b, .int .u64 c, .int .u64 d, .int .u64 e, .int .u64 f]) (.int .i64 4)).run Tryd.prog w = .ok (.int .u64 e) w ∧
      (Instr.index 41 (.agg #[.int .u64 a, .int .u64 b, .int .u64 c, .int .u64 d, .int .u64 e, .int .u64 f]) (.int .i64 5)).run Tryd.prog w = .ok (.int .u64 f) w := fun _ _ _ _ _ _ _ => ⟨by kernel_rfl, by kernel_rfl, by kernel_rfl, by kernel_rfl, by kernel_rfl, by kernel_rfl⟩
  have b1 := stZ_bd 6148914691236517205 2 x
  have b2 := stZ_bd 3689348814741910323 4 (o1 x)
  have b3 := stZ_bd 1085102592571150095 16 (o2 x)
  have b4 := stZ_bd 71777214294589695 256 (o3 x)
  have b5 := stZ_bd 281470681808895 65536 (o4 x)
  have B6 : 0 ≤ onesZ x ∧ onesZ x ≤ 64 := ⟨onesZ_lo x, onesZ_hi x⟩
  rw [← o6_form x h0 h1] at *
  have B1 : 0 ≤ o1 x ∧ o1 x ≤ 18446744073709551615 := b1
  have B2 : 0 ≤ o2 x ∧ o2 x ≤ 18446744073709551615 := b2
  have B3 : 0 ≤ o3 x ∧ o3 x ≤ 18446744073709551615 := b3
  have B4 : 0 ≤ o4 x ∧ o4 x ≤ 18446744073709551615 := b4
  have B5 : 0 ≤ o5 x ∧ o5 x ≤ 18446744073709551615 := b5
  clear b1 b2 b3 b4 b5
  obtain ⟨l1, u1⟩ := B1
  obtain ⟨l2, u2⟩ := B2
  obtain ⟨l3, u3⟩ := B3
  obtain ⟨l4, u4⟩ := B4
  obtain ⟨l5, u5⟩ := B5
  obtain ⟨l6, u6⟩ := B6
  go_enter Tryd.func16, Tryd.ntmps16
  go_wp2
  go_loop [0, 6] (fun t i => ∃ k : Nat, k ≤ 6 ∧ i = .int .i64 k ∧ ((k = 0 ∧ t = .int .u64 x) ∨ (k = 1 ∧ t = .int .u64 (o1 x)) ∨ (k = 2 ∧ t = .int .u64 (o2 x)) ∨ (k = 3 ∧ t = .int .u64 (o3 x)) ∨ (k = 4 ∧ t = .int .u64 (o4 x)) ∨ (k = 5 ∧ t = .int .u64 (o5 x)) ∨ (k = 6 ∧ t = .int .u64 (o6 x)))) (fun _ i => 6 - (intOf i).toNat)
  case atStart => exact ⟨0, by omega, rfl, Or.inl ⟨rfl, rfl⟩⟩
  case round =>
    obtain ⟨k, hk, rfl, hr⟩ := hrel
    rcases hr with ⟨rfl, rfl⟩ | ⟨rfl, rfl⟩ | ⟨rfl, rfl⟩ | ⟨rfl, rfl⟩ | ⟨rfl, rfl⟩ | ⟨rfl, rfl⟩ | ⟨rfl, rfl⟩
    · go_wp2
      go_round
      case rel => exact ⟨1, by omega, rfl, Or.inr (Or.inl ⟨rfl, rfl⟩)⟩
      case measure => simp [intOf]
    · go_wp2
      go_round
      case rel => exact ⟨2, by omega, rfl, Or.inr (Or.inr (Or.inl ⟨rfl, rfl⟩))⟩
      case measure => simp [intOf]
    · go_wp2
      go_round
      case rel => exact ⟨3, by omega, rfl, Or.inr (Or.inr (Or.inr (Or.inl ⟨rfl, rfl⟩)))⟩
      case measure => simp [intOf]
    · go_wp2
      go_round
      case rel => exact ⟨4, by omega, rfl, Or.inr (Or.inr (Or.inr (Or.inr (Or.inl ⟨rfl, rfl⟩))))⟩
      case measure => simp [intOf]
    · go_wp2
      go_round
      case rel => exact ⟨5, by omega, rfl, Or.inr (Or.inr (Or.inr (Or.inr (Or.inr (Or.inl ⟨rfl, rfl⟩)))))⟩
      case measure => simp [intOf]
    · go_wp2
      go_round
      case rel => exact ⟨6, by omega, rfl, Or.inr (Or.inr (Or.inr (Or.inr (Or.inr (Or.inr ⟨rfl, rfl⟩)))))⟩
      case measure => simp [intOf]
    · go_wp2
      go_ret
      exact ⟨rfl, rfl⟩
theorem spread_any (x : Int) (w : World) (h0 : 0 ≤ x) (h1 : x ≤ 255) (T : Tab w) :
    Calls Tryd.prog 18 #[.int .u8 x] w fun e w' => e = .returned (.int .u16 (spreadZ x)) ∧ ∃ n, w' = w.drewN n := by
  obtain ⟨c0, c1, c2, c3, c4, c5⟩ := id T
  rw [← spread_form x h0 h1]
  go_enter Tryd.func18, Tryd.ntmps18
  go_wp2
  refine wp_loop_rounds 4 ?_
  rw [rounds_succ]
  go_wp2
  go_quiet ((go_at_call 24; exact Calls.quiet_of_same (width_any _ _ (by omega) (by omega))))
  go_wp2
  have T1 := T.drew nq
  have R1 : Hid (∃ n, w.drewN nq = w.drewN n) := ⟨_, rfl⟩
  generalize w.drewN nq = w1 at *
  obtain ⟨d0, d1, d2, d3, d4, d5⟩ := id T1
  rw [rounds_succ]
  go_wp2
  go_quiet ((go_at_call 24; exact Calls.quiet_of_same (width_any _ _ (by omega) (by omega))))
  go_wp2
  have T2 := T1.drew nq
  have R2 : Hid (∃ n, w1.drewN nq = w.drewN n) := by obtain ⟨n, h⟩ := R1.out; exact ⟨n + nq, by rw [h, World.drewN_drewN]⟩
  generalize w1.drewN nq = w2 at *
  obtain ⟨e0, e1, e2, e3, e4, e5⟩ := id T2
  rw [rounds_succ]
  go_wp2
  go_quiet ((go_at_call 24; exact Calls.quiet_of_same (width_any _ _ (by omega) (by omega))))
  go_wp2
  rw [rounds_succ]
  go_wp2
  go_ret
  refine ⟨rfl, ?_⟩
  obtain ⟨n, h⟩ := R2.out
  exact ⟨n + nq, by rw [h, World.drewN_drewN]⟩
theorem gather_any (x : Int) (w : World) (h0 : 0 ≤ x) (h1 : x ≤ 65535) (T : Tab w) :
    Calls Tryd.prog 20 #[.int .u16 x] w fun e w' => e = .returned (.int .u8 (gatherZ x)) ∧ ∃ n, w' = w.drewN n := by
  obtain ⟨c0, c1, c2, c3, c4, c5⟩ := id T
  rw [← gather_form x h0 h1]
  go_enter Tryd.func20, Tryd.ntmps20
  go_wp2
  refine wp_loop_rounds 4 ?_
  rw [rounds_succ]
  go_wp2
  go_quiet ((go_at_call 24; exact Calls.quiet_of_same (width_any _ _ (by omega) (by omega))))
  go_wp2
  have T1 := T.drew nq
  have R1 : Hid (∃ n, w.drewN nq = w.drewN n) := ⟨_, rfl⟩
  generalize w.drewN nq = w1 at *
  obtain ⟨d0, d1, d2, d3, d4, d5⟩ := id T1
  rw [rounds_succ]
  go_wp2
  go_quiet ((go_at_call 24; exact Calls.quiet_of_same (width_any _ _ (by omega) (by omega))))
  go_wp2
  have T2 := T1.drew nq
  have R2 : Hid (∃ n, w1.drewN nq = w.drewN n) := by obtain ⟨n, h⟩ := R1.out; exact ⟨n + nq, by rw [h, World.drewN_drewN]⟩
  generalize w1.drewN nq = w2 at *
  obtain ⟨e0, e1, e2, e3, e4, e5⟩ := id T2
  rw [rounds_succ]
  go_wp2
  go_quiet ((go_at_call 24; exact Calls.quiet_of_same (width_any _ _ (by omega) (by omega))))
  go_wp2
  rw [rounds_succ]
  go_wp2
  go_ret
  refine ⟨rfl, ?_⟩
  obtain ⟨n, h⟩ := R2.out
  exact ⟨n + nq, by rw [h, World.drewN_drewN]⟩
theorem rspread_any (x : Int) (w : World) (h0 : 0 ≤ x) (h1 : x ≤ 255) :
    Calls Tryd.prog 19 #[.int .u8 x] w fun e w' => e = .returned (.int .u16 (spreadZ x)) ∧ w' = w := by
  rw [← rspread_form x h0 h1]
  go_enter Tryd.func19, Tryd.ntmps19
  go_wp2
  go_rounds 9
  go_ret
  exact ⟨rfl, rfl⟩
theorem rgather_any (x : Int) (w : World) (h0 : 0 ≤ x) (h1 : x ≤ 65535) :
    Calls Tryd.prog 21 #[.int .u16 x] w fun e w' => e = .returned (.int .u8 (gatherZ x)) ∧ w' = w := by
  rw [← rgather_form x h0 h1]
  go_enter Tryd.func21, Tryd.ntmps21
  go_wp2
  go_rounds 9
  go_ret
  exact ⟨rfl, rfl⟩
theorem rones_any (x : Int) (w : World) (h0 : 0 ≤ x) (h1 : x ≤ 18446744073709551615) :
    Calls Tryd.prog 17 #[.int .u64 x] w fun e w' => e = .returned (.int .i64 (onesZ x)) ∧ w' = w := by
  go_enter Tryd.func17, Tryd.ntmps17
  go_wp2
  go_loop [3, 4] (fun t i => ∃ k : Nat, k ≤ 64 ∧ i = .int .i64 k ∧ t = .int .i64 (popZ k x)) (fun _ i => 64 - (intOf i).toNat)
  case atStart => exact ⟨0, by omega, rfl, rfl⟩
  case round =>
    obtain ⟨k, hk, rfl, rfl⟩ := hrel
    have p0 := popZ_bd k x
    obtain ⟨p1, p2⟩ := p0
    by_cases hlt : k < 64
    · have HS : Hid (popZ (k + 1) x = popZ k x + bits .and .u64 (x / 2 ^ k) 1) := popZ_snoc k x h0 h1
      obtain ⟨q0, q1⟩ := and1_bd k x h0 h1
      go_wp2
      go_round
      case rel =>
        exact ⟨k + 1, by omega, by go_num, by rw [HS.out]⟩
      case measure => simp [intOf]; omega
    · have : k = 64 := by omega
      subst this
      go_wp2
      go_ret
      exact ⟨rfl, rfl⟩
end Go.Proofs.YtloadpndljabeaaDoor
