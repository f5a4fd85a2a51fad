/-
  The program's quantifiers and restrictions: what they return.
-/
import Derived.Test.YtmfocngdobcfcabDoorPfix
import Derived.Test.YtmfocngdobcfcabDoorPure
namespace Go.Proofs.YtmfocngdobcfcabDoor
open Go Go.RowKit


set_option maxHeartbeats 1600000 in
theorem pexists_any (F : Nat → Bool) (m : Nat) (hm : m < 256) (w : World) (hC : Cols w) :
    Calls Tryd.prog 18 #[tab F, .int .u8 (m : Int)] w fun e w' => e = .returned (tab (exUpto F m 8)) ∧ Below w.heap.size w w' := by
  conv in #[tab F, Value.int IntKind.u8 (m : Int)] => unfold tab
  go_enter Tryd.func18, Tryd.ntmps18
  go_wp2_with fail
  have TF := (IsTab.newAt (w := w) (n := w.heap.size) (by simp) F).alloc (.cells #[.int .u64 0, .int .u64 0, .int .u64 0, .int .u64 0] 24)
  have TZ := IsTab.zeroAt (w := w.alloc (.cells #[.int .u64 (word F 0 : Int), .int .u64 (word F 1 : Int), .int .u64 (word F 2 : Int), .int .u64 (word F 3 : Int)] 24)) (n := w.heap.size + 1) (by simp)
  have B0 := ((Below.refl _ w).alloc (Nat.le_refl _) (.cells #[.int .u64 (word F 0 : Int), .int .u64 (word F 1 : Int), .int .u64 (word F 2 : Int), .int .u64 (word F 3 : Int)] 24)).alloc (by simp) (.cells #[.int .u64 0, .int .u64 0, .int .u64 0, .int .u64 0] 24)
  generalize (w.alloc (.cells #[.int .u64 (word F 0 : Int), .int .u64 (word F 1 : Int), .int .u64 (word F 2 : Int), .int .u64 (word F 3 : Int)] 24)).alloc (.cells #[.int .u64 0, .int .u64 0, .int .u64 0, .int .u64 0] 24) = w4 at TF B0 TZ ⊢
  go_loopg [6] 8 (fun g si wr => ∃ v : Nat, v + g = 8 ∧ si = .int .i64 (v : Int) ∧ IsTab wr w.heap.size (exUpto F m v) ∧ IsTab wr (w.heap.size + 1) (fun _ => false) ∧ Below w.heap.size w wr)
  case atStart => exact ⟨0, by omega, rfl, TF, TZ, B0⟩
  case round =>
    obtain ⟨v, hv, rfl, hT, hZ, hB⟩ := hrel
    have hV : Aside (v + gk = 8) := hv
    clear hv
    by_cases hv8 : v < 8
    · have hv8' : (v : Int) < 8 := by omega
      have hCr := hC.kept hB
      have hne : w.heap.size + 1 ≠ w.heap.size := by omega
      have hMb : Hid (∀ b, M v m = b → Calls Tryd.prog 26 #[.int .u8 (m : Int), .int .i64 (v : Int)] wr fun e w' => e = .returned (.bool b) ∧ w' = wr) := fun b hb => hb ▸ inMask_any m v hm hv8 wr
      cases hM : M v m with
      | false =>
        go_wp2_with (first
          | (go_at_call 26; refine (hMb.out _ hM).mono ?_; rintro e w5 ⟨rfl, rfl⟩))
        go_roundg (gk - 1)
        case measure => have := hV.out; omega
        case rel =>
          have := hV.out
          exact ⟨v + 1, by omega, rfl, by rw [exUpto, if_neg (by simp [hM])]; exact hT, hZ, hB⟩
      | true =>
        have hG : Hid (∀ x, x < 256 → exUpto F m (v + 1) x = (exUpto F m v x || turnF (exUpto F m v) v x)) := fun x hx => by rw [exUpto, if_pos hM]; exact (turn_or _ v x hv8 hx).symm
        generalize exUpto F m v = G at hT hG
        obtain ⟨c0, c1, c2, c3⟩ := hT.copy
        go_wp2_with (first
          | (go_at_call 26; refine (hMb.out _ hM).mono ?_; rintro e w5 ⟨rfl, rfl⟩))
        go_region_with (first
          | (go_at_call 23; refine (turned_any G v hv8 _ hCr.drew).mono ?_; rintro e w6 ⟨rfl, b6⟩; have T6 : IsTab w6 w.heap.size G := IsTab.kept hT.drew b6; obtain ⟨q0, q1, q2, q3⟩ := T6.copy)
          | (go_at_call 11; refine (por_any _ _ _).mono ?_; unfold tab; rintro e w8 ⟨rfl, b8⟩; have T8 := T6.kept b8; obtain ⟨p0, p1, p2, p3⟩ := T8.copy; have g0 := T8.free 0; have g1 := T8.free 1; have g2 := T8.free 2; have g3 := T8.free 3))
        all_goals go_wp2_with fail
        all_goals go_roundg (gk - 1)
        all_goals first
          | (have := hV.out; omega)
          | (have := hV.out
             have b9 := below_undrew (below_far b6 b8)
             refine ⟨v + 1, by omega, rfl, (laid_tab T8 _).ext fun x hx => (hG.out x hx).symm, (laid_turned _ _ _).tab (hZ.kept b9) hne, (below_far hB b9).trans ((laid_turned _ _ _).below (below_far hB b9).size (Nat.le_refl _))⟩)
    · obtain rfl : v = 8 := by have := hV.out; omega
      obtain ⟨c0, c1, c2, c3⟩ := hT.copy
      obtain ⟨z0, z1, z2, z3⟩ := hZ.copy
      have y0 := hZ.free 0
      have y1 := hZ.free 1
      have y2 := hZ.free 2
      have y3 := hZ.free 3
      go_wp2_with fail
      exact bodyPost_ret (results_tab rfl rfl (laid_tab hZ _)) rfl ⟨rfl, hB.trans ((laid_turned _ _ _).below hB.size (by omega))⟩

set_option maxHeartbeats 1600000 in
theorem prestrict_any (F : Nat → Bool) (m n : Nat) (hm : m < 256) (hn : n < 256) (w : World) (hC : Cols w) :
    Calls Tryd.prog 25 #[tab F, .int .u8 (m : Int), .int .u8 (n : Int)] w fun e w' => e = .returned (tab (resUpto F m n 8)) ∧ Below w.heap.size w w' := by
  conv in #[tab F, Value.int IntKind.u8 (m : Int), Value.int IntKind.u8 (n : Int)] => unfold tab
  go_enter Tryd.func25, Tryd.ntmps25
  go_wp2_with fail
  have TF := (IsTab.newAt (w := w) (n := w.heap.size) (by simp) F).alloc (.cells #[.int .u64 0, .int .u64 0, .int .u64 0, .int .u64 0] 24)
  have TZ := IsTab.zeroAt (w := w.alloc (.cells #[.int .u64 (word F 0 : Int), .int .u64 (word F 1 : Int), .int .u64 (word F 2 : Int), .int .u64 (word F 3 : Int)] 24)) (n := w.heap.size + 1) (by simp)
  have B0 := ((Below.refl _ w).alloc (Nat.le_refl _) (.cells #[.int .u64 (word F 0 : Int), .int .u64 (word F 1 : Int), .int .u64 (word F 2 : Int), .int .u64 (word F 3 : Int)] 24)).alloc (by simp) (.cells #[.int .u64 0, .int .u64 0, .int .u64 0, .int .u64 0] 24)
  generalize (w.alloc (.cells #[.int .u64 (word F 0 : Int), .int .u64 (word F 1 : Int), .int .u64 (word F 2 : Int), .int .u64 (word F 3 : Int)] 24)).alloc (.cells #[.int .u64 0, .int .u64 0, .int .u64 0, .int .u64 0] 24) = w4 at TF B0 TZ ⊢
  go_loopg [8] 8 (fun g si wr => ∃ v : Nat, v + g = 8 ∧ si = .int .i64 (v : Int) ∧ IsTab wr w.heap.size (resUpto F m n v) ∧ IsTab wr (w.heap.size + 1) (fun _ => false) ∧ Below w.heap.size w wr)
  case atStart => exact ⟨0, by omega, rfl, TF, TZ, B0⟩
  case round =>
    obtain ⟨v, hv, rfl, hT, hZ, hB⟩ := hrel
    have hV : Aside (v + gk = 8) := hv
    clear hv
    by_cases hv8 : v < 8
    · have hv8' : (v : Int) < 8 := by omega
      have hCr := hC.kept hB
      have hne : w.heap.size + 1 ≠ w.heap.size := by omega
      have hMb : Hid (∀ (u : World) b, M v m = b → Calls Tryd.prog 26 #[.int .u8 (m : Int), .int .i64 (v : Int)] u fun e w' => e = .returned (.bool b) ∧ w' = u) := fun u b hb => hb ▸ inMask_any m v hm hv8 u
      have hNb : Hid (∀ (u : World) b, M v n = b → Calls Tryd.prog 26 #[.int .u8 (n : Int), .int .i64 (v : Int)] u fun e w' => e = .returned (.bool b) ∧ w' = u) := fun u b hb => hb ▸ inMask_any n v hn hv8 u
      cases hM : M v m with
      | false =>
        go_wp2_with (first
          | (go_at_call 26; refine (hMb.out _ _ hM).mono ?_; rintro e w5 ⟨rfl, rfl⟩))
        go_roundg (gk - 1)
        case measure => have := hV.out; omega
        case rel =>
          have := hV.out
          exact ⟨v + 1, by omega, rfl, by rw [resUpto, if_neg (by simp [hM])]; exact hT, hZ, hB⟩
      | true =>
        have hG : Hid (resUpto F m n (v + 1) = fixF (resUpto F m n v) v (M v n)) := by simp only [Hid]; rw [resUpto, if_pos hM]
        generalize resUpto F m n v = G at hT hG
        cases hN : M v n
        all_goals
          rw [hN] at hG
          obtain ⟨c0, c1, c2, c3⟩ := hT.copy
          go_wp2_with (first
            | (go_at_call 26; refine (hMb.out _ _ hM).mono ?_; rintro e w5 ⟨rfl, rfl⟩))
          go_region_with (first
            | (go_at_call 26; refine (hNb.out _ _ hN).mono ?_; rintro e w5 ⟨rfl, rfl⟩)
            | (go_at_call 12; refine (pfix_any G v hv8 _ _ hCr.drew).mono ?_; unfold tab; rintro e w8 ⟨rfl, b8⟩; have T8 : IsTab w8 w.heap.size G := IsTab.kept hT.drew b8; obtain ⟨p0, p1, p2, p3⟩ := T8.copy; have g0 := T8.free 0; have g1 := T8.free 1; have g2 := T8.free 2; have g3 := T8.free 3))
          all_goals go_wp2_with fail
          all_goals go_roundg (gk - 1)
          all_goals first
            | (have := hV.out; omega)
            | (have := hV.out
               have b9 := below_undrew b8
               refine ⟨v + 1, by omega, rfl, by rw [hG.out]; exact laid_tab T8 _, (laid_turned _ _ _).tab (hZ.kept b9) hne, (below_far hB b9).trans ((laid_turned _ _ _).below (below_far hB b9).size (Nat.le_refl _))⟩)
    · obtain rfl : v = 8 := by have := hV.out; omega
      obtain ⟨c0, c1, c2, c3⟩ := hT.copy
      obtain ⟨z0, z1, z2, z3⟩ := hZ.copy
      have y0 := hZ.free 0
      have y1 := hZ.free 1
      have y2 := hZ.free 2
      have y3 := hZ.free 3
      go_wp2_with fail
      exact bodyPost_ret (results_tab rfl rfl (laid_tab hZ _)) rfl ⟨rfl, hB.trans ((laid_turned _ _ _).below hB.size (by omega))⟩
end Go.Proofs.YtmfocngdobcfcabDoor
