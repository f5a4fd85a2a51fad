/-
  What the reference's quantifiers and restrictions return.
-/
import Derived.Test.YtmfocngdobcfcaaDoorFixb
namespace Go.Proofs.YtmfocngdobcfcaaDoor
open Go Go.RowKit

theorem below_far {a b c : World} (h : Below a.heap.size a b) (k : Below b.heap.size b c) : Below a.heap.size a c :=
  h.trans (k.mono h.size)

theorem below_undrew {w u : World} (h : Below w.drew.heap.size w.drew u) : Below w.heap.size w u := ⟨h.os, h.tape, h.output, h.size, h.block⟩

set_option maxHeartbeats 1600000 in
theorem exists_any (F : Nat → Bool) (m : Nat) (hm : m < 256) (w : World) :
    Calls Tryd.prog 29 #[tab F, .int .u8 (m : Int)] w fun e w' => e = .returned (tab (exUpto F m 8)) ∧ Below w.heap.size w w' := by
  conv in #[tab F, Value.int IntKind.u8 (m : Int)] => unfold tab
  go_enter Tryd.func29, Tryd.ntmps29
  go_wp2_with fail
  have TF := ((IsTab.newAt (w := w) (n := w.heap.size) (by simp) F).alloc (.cells #[.int .u64 0, .int .u64 0, .int .u64 0, .int .u64 0] 24))
  have TZ := IsTab.zeroAt (w := (w.alloc (.cells #[.int .u64 (word F 0 : Int), .int .u64 (word F 1 : Int), .int .u64 (word F 2 : Int), .int .u64 (word F 3 : Int)] 24))) (n := w.heap.size + 1) (by simp)
  have B0 := (((Below.refl _ w).alloc (Nat.le_refl _) (.cells #[.int .u64 (word F 0 : Int), .int .u64 (word F 1 : Int), .int .u64 (word F 2 : Int), .int .u64 (word F 3 : Int)] 24)).alloc (by simp) (.cells #[.int .u64 0, .int .u64 0, .int .u64 0, .int .u64 0] 24))
  generalize ((w.alloc (.cells #[.int .u64 (word F 0 : Int), .int .u64 (word F 1 : Int), .int .u64 (word F 2 : Int), .int .u64 (word F 3 : Int)] 24)).alloc (.cells #[.int .u64 0, .int .u64 0, .int .u64 0, .int .u64 0] 24)) = w4 at TF B0 TZ ⊢
  go_loopg [5] 8 (fun g si wr => ∃ v : Nat, v + g = 8 ∧ si = .int .i64 (v : Int) ∧ IsTab wr w.heap.size (exUpto F m v) ∧ IsTab wr (w.heap.size + 1) (fun _ => false) ∧ Below w.heap.size w wr)
  case atStart => exact ⟨0, by omega, rfl, TF, TZ, B0⟩
  case round =>
    obtain ⟨v, hv, rfl, hT, hZ, hB⟩ := hrel
    have hV : Aside (v + gk = 8) := hv
    clear hv
    by_cases hv8 : v < 8
    · have hv8' : (v : Int) < 8 := by omega
      have hb := read_mask m v hm
      have hne : w.heap.size + 1 ≠ w.heap.size := by omega
      cases hM : M v m with
      | false =>
        rw [hM] at hb
        go_wp2_with fail
        go_roundg (gk - 1)
        case measure => have := hV.out; omega
        case rel =>
          have := hV.out
          exact ⟨v + 1, by omega, rfl, by rw [exUpto, if_neg (by simp [hM])]; exact hT, hZ, hB⟩
      | true =>
        rw [hM] at hb
        have hG : Hid (exUpto F m (v + 1) = fun x => fixF (exUpto F m v) v false x || fixF (exUpto F m v) v true x) := by simp only [Hid]; rw [exUpto, if_pos hM]
        generalize exUpto F m v = G at hT hG
        go_wp2_with fail
        obtain ⟨c0, c1, c2, c3⟩ := hT.copy
        go_region_with (first
          | (go_at_call_of 27 (Value.bool false); refine (fix_any G v hv8 false _).mono ?_; rintro e w6 ⟨rfl, b6⟩; have T6 : IsTab w6 w.heap.size G := IsTab.kept hT.drew b6; obtain ⟨q0, q1, q2, q3⟩ := T6.copy)
          | (go_at_call_of 27 (Value.bool true); refine (fix_any G v hv8 true _).mono ?_; rintro e w7 ⟨rfl, b7⟩; have T7 := T6.kept b7)
          | (go_at_call 19; refine (or_any _ _ _).mono ?_; unfold tab; rintro e w8 ⟨rfl, b8⟩; have T8 := T7.kept b8; obtain ⟨p0, p1, p2, p3⟩ := T8.copy; have g0 := T8.free 0; have g1 := T8.free 1; have g2 := T8.free 2; have g3 := T8.free 3))
        all_goals go_wp2_with fail
        all_goals go_roundg (gk - 1)
        all_goals first
          | (have := hV.out; omega)
          | (have := hV.out
             have b9 : Below wr.heap.size wr w8 := below_undrew (below_far (below_far b6 b7) b8)
             refine ⟨v + 1, by omega, rfl, by rw [hG.out]; exact laid_tab T8 _, (laid_turned _ _ _).tab (hZ.kept b9) hne, (below_far hB b9).trans ((laid_turned _ _ _).below (below_far hB b9).size (Nat.le_refl _))⟩)
    · obtain rfl : v = 8 := by have := hV.out; omega
      obtain ⟨c0, c1, c2, c3⟩ := hT.copy
      obtain ⟨z0, z1, z2, z3⟩ := hZ.copy
      have y0 := hZ.free 0
      have y1 := hZ.free 1
      have y2 := hZ.free 2
      have y3 := hZ.free 3
      go_wp2_with fail
      exact bodyPost_ret (results_tab rfl rfl (laid_tab hZ _)) rfl ⟨rfl, hB.trans ((laid_turned _ _ _).below hB.size (by omega))⟩

theorem restrict_any (F : Nat → Bool) (m n : Nat) (hm : m < 256) (hn : n < 256) (w : World) :
    Calls Tryd.prog 33 #[tab F, .int .u8 (m : Int), .int .u8 (n : Int)] w fun e w' => e = .returned (tab (resUpto F m n 8)) ∧ Below w.heap.size w w' := by
  conv in #[tab F, Value.int IntKind.u8 (m : Int), Value.int IntKind.u8 (n : Int)] => unfold tab
  go_enter Tryd.func33, Tryd.ntmps33
  go_wp2_with fail
  have TF := ((IsTab.newAt (w := w) (n := w.heap.size) (by simp) F).alloc (.cells #[.int .u64 0, .int .u64 0, .int .u64 0, .int .u64 0] 24))
  have TZ := IsTab.zeroAt (w := (w.alloc (.cells #[.int .u64 (word F 0 : Int), .int .u64 (word F 1 : Int), .int .u64 (word F 2 : Int), .int .u64 (word F 3 : Int)] 24))) (n := w.heap.size + 1) (by simp)
  have B0 := (((Below.refl _ w).alloc (Nat.le_refl _) (.cells #[.int .u64 (word F 0 : Int), .int .u64 (word F 1 : Int), .int .u64 (word F 2 : Int), .int .u64 (word F 3 : Int)] 24)).alloc (by simp) (.cells #[.int .u64 0, .int .u64 0, .int .u64 0, .int .u64 0] 24))
  generalize ((w.alloc (.cells #[.int .u64 (word F 0 : Int), .int .u64 (word F 1 : Int), .int .u64 (word F 2 : Int), .int .u64 (word F 3 : Int)] 24)).alloc (.cells #[.int .u64 0, .int .u64 0, .int .u64 0, .int .u64 0] 24)) = w4 at TF B0 TZ ⊢
  go_loopg [7] 8 (fun g si wr => ∃ v : Nat, v + g = 8 ∧ si = .int .i64 (v : Int) ∧ IsTab wr w.heap.size (resUpto F m n v) ∧ IsTab wr (w.heap.size + 1) (fun _ => false) ∧ Below w.heap.size w wr)
  case atStart => exact ⟨0, by omega, rfl, TF, TZ, B0⟩
  case round =>
    obtain ⟨v, hv, rfl, hT, hZ, hB⟩ := hrel
    have hV : Aside (v + gk = 8) := hv
    clear hv
    by_cases hv8 : v < 8
    · have hv8' : (v : Int) < 8 := by omega
      have hb := read_mask m v hm
      have hne : w.heap.size + 1 ≠ w.heap.size := by omega
      cases hM : M v m with
      | false =>
        rw [hM] at hb
        go_wp2_with fail
        go_roundg (gk - 1)
        case measure => have := hV.out; omega
        case rel =>
          have := hV.out
          exact ⟨v + 1, by omega, rfl, by rw [resUpto, if_neg (by simp [hM])]; exact hT, hZ, hB⟩
      | true =>
        rw [hM] at hb
        have hc := read_mask n v hn
        have hG : Hid (resUpto F m n (v + 1) = fixF (resUpto F m n v) v (M v n)) := by simp only [Hid]; rw [resUpto, if_pos hM]
        generalize resUpto F m n v = G at hT hG
        generalize M v n = y at hG hc
        obtain ⟨c0, c1, c2, c3⟩ := hT.copy
        go_wp2_with (first
          | (go_at_call 27; refine (fix_any G v hv8 y _).mono ?_; unfold tab; rintro e w8 ⟨rfl, b8⟩; have T8 := hT.kept b8; obtain ⟨p0, p1, p2, p3⟩ := T8.copy; have g0 := T8.free 0; have g1 := T8.free 1; have g2 := T8.free 2; have g3 := T8.free 3))
        go_roundg (gk - 1)
        case measure => have := hV.out; omega
        case rel =>
          have := hV.out
          exact ⟨v + 1, by omega, rfl, by rw [hG.out]; exact laid_tab T8 _, (laid_turned _ _ _).tab (hZ.kept b8) hne, (below_far hB b8).trans ((laid_turned _ _ _).below (below_far hB b8).size (Nat.le_refl _))⟩
    · obtain rfl : v = 8 := by have := hV.out; omega
      obtain ⟨c0, c1, c2, c3⟩ := hT.copy
      obtain ⟨z0, z1, z2, z3⟩ := hZ.copy
      have y0 := hZ.free 0
      have y1 := hZ.free 1
      have y2 := hZ.free 2
      have y3 := hZ.free 3
      go_wp2_with fail
      exact bodyPost_ret (results_tab rfl rfl (laid_tab hZ _)) rfl ⟨rfl, hB.trans ((laid_turned _ _ _).below hB.size (by omega))⟩
end Go.Proofs.YtmfocngdobcfcaaDoor
