/-
  Steps of a relation: what the program's own calls return.
-/
import Derived.Test.YtmfocngdobcfcabDoorPquant
import Derived.Test.YtmfocngdobcfcabDoorPcomp
namespace Go.Proofs.YtmfocngdobcfcabDoor
open Go Go.RowKit

theorem pcomp_at (F G : Nat → Bool) (z : Int) (v : Nat) (hz : z = (v : Int)) (hv : v < 8) (w : World) (hC : Cols w) :
    Calls Tryd.prog 24 #[tab F, .int .i64 z, tab G] w fun e w' => e = .returned (tab (compF F v G)) ∧ Below w.heap.size w w' := by
  subst hz
  exact pcomp_any F G v hv w hC
theorem pvar_at (z : Int) (v : Nat) (hz : z = (v : Int)) (hv : v < 8) (w : World) (hC : Cols w) :
    Calls Tryd.prog 9 #[.int .i64 z] w fun e w' => e = .returned (tab (M v)) ∧ Below w.heap.size w w' := by
  subst hz
  exact pvar_any v hv w hC


set_option maxHeartbeats 1600000 in
theorem pnext_raw (F G : Nat → Bool) (w : World) (hC : Cols w) :
    Calls Tryd.prog 15 #[tab F, tab G] w fun e w' => e = .returned (tab (nxUpto (exUpto (fun x => F x && G x) 85 8) 4)) ∧ Below w.heap.size w w' := by
  conv in #[tab F, tab G] => unfold tab
  have B0 := (((Below.refl _ w).alloc (Nat.le_refl _) (.cells #[.int .u64 (word F 0 : Int), .int .u64 (word F 1 : Int), .int .u64 (word F 2 : Int), .int .u64 (word F 3 : Int)] 24)).alloc (by simp) (.cells #[.int .u64 (word G 0 : Int), .int .u64 (word G 1 : Int), .int .u64 (word G 2 : Int), .int .u64 (word G 3 : Int)] 24)).alloc (by simp; omega) (.cells #[.int .u64 0, .int .u64 0, .int .u64 0, .int .u64 0] 24)
  have TF := ((IsTab.new w F).alloc (.cells #[.int .u64 (word G 0 : Int), .int .u64 (word G 1 : Int), .int .u64 (word G 2 : Int), .int .u64 (word G 3 : Int)] 24)).alloc (.cells #[.int .u64 0, .int .u64 0, .int .u64 0, .int .u64 0] 24)
  have TG := (IsTab.newAt (w := w.alloc (.cells #[.int .u64 (word F 0 : Int), .int .u64 (word F 1 : Int), .int .u64 (word F 2 : Int), .int .u64 (word F 3 : Int)] 24)) (n := w.heap.size + 1) (by simp) G).alloc (.cells #[.int .u64 0, .int .u64 0, .int .u64 0, .int .u64 0] 24)
  have TZ := IsTab.zeroAt (w := (w.alloc (.cells #[.int .u64 (word F 0 : Int), .int .u64 (word F 1 : Int), .int .u64 (word F 2 : Int), .int .u64 (word F 3 : Int)] 24)).alloc (.cells #[.int .u64 (word G 0 : Int), .int .u64 (word G 1 : Int), .int .u64 (word G 2 : Int), .int .u64 (word G 3 : Int)] 24)) (n := w.heap.size + 2) (by simp)
  go_enter Tryd.func15, Tryd.ntmps15
  go_wp2_with fail
  generalize ((w.alloc (.cells #[.int .u64 (word F 0 : Int), .int .u64 (word F 1 : Int), .int .u64 (word F 2 : Int), .int .u64 (word F 3 : Int)] 24)).alloc (.cells #[.int .u64 (word G 0 : Int), .int .u64 (word G 1 : Int), .int .u64 (word G 2 : Int), .int .u64 (word G 3 : Int)] 24)).alloc (.cells #[.int .u64 0, .int .u64 0, .int .u64 0, .int .u64 0] 24) = w4 at B0 TF TG TZ ⊢
  have C4 := hC.kept B0
  obtain ⟨l0, l1, l2, l3⟩ := TF.copy
  obtain ⟨m0, m1, m2, m3⟩ := TG.copy
  go_wp2_with (first
    | (go_at_call 8; refine (pand_any F G _).mono ?_; rintro e w5 ⟨rfl, b5⟩)
    | (go_at_call 18; refine (pexists_any _ 85 (by decide) _ (C4.kept b5)).mono ?_; unfold tab; rintro e w6 ⟨rfl, b6⟩; have B6 := below_far B0 (below_far b5 b6); have TG6 := TG.kept (below_far b5 b6); have TZ6 := TZ.kept (below_far b5 b6)))
  have C6 := hC.kept B6
  have hn6 : Hid (∃ n6, n6 = w6.heap.size) := ⟨_, rfl⟩
  obtain ⟨n6, hn6⟩ := hn6.out
  have TE := IsTab.newAt (w := w6) (n := n6) hn6.symm (exUpto (fun x => F x && G x) 85 8)
  have TG7 := TG6.alloc (.cells #[.int .u64 (word (exUpto (fun x => F x && G x) 85 8) 0 : Int), .int .u64 (word (exUpto (fun x => F x && G x) 85 8) 1 : Int), .int .u64 (word (exUpto (fun x => F x && G x) 85 8) 2 : Int), .int .u64 (word (exUpto (fun x => F x && G x) 85 8) 3 : Int)] 24)
  have TZ7 := TZ6.alloc (.cells #[.int .u64 (word (exUpto (fun x => F x && G x) 85 8) 0 : Int), .int .u64 (word (exUpto (fun x => F x && G x) 85 8) 1 : Int), .int .u64 (word (exUpto (fun x => F x && G x) 85 8) 2 : Int), .int .u64 (word (exUpto (fun x => F x && G x) 85 8) 3 : Int)] 24)
  have B7 := B6.alloc B6.size (.cells #[.int .u64 (word (exUpto (fun x => F x && G x) 85 8) 0 : Int), .int .u64 (word (exUpto (fun x => F x && G x) 85 8) 1 : Int), .int .u64 (word (exUpto (fun x => F x && G x) 85 8) 2 : Int), .int .u64 (word (exUpto (fun x => F x && G x) 85 8) 3 : Int)] 24)
  have hlt : w.heap.size + 2 < n6 := by rw [hn6]; exact TZ6.lt
  rw [← hn6]
  generalize w6.alloc (.cells #[.int .u64 (word (exUpto (fun x => F x && G x) 85 8) 0 : Int), .int .u64 (word (exUpto (fun x => F x && G x) 85 8) 1 : Int), .int .u64 (word (exUpto (fun x => F x && G x) 85 8) 2 : Int), .int .u64 (word (exUpto (fun x => F x && G x) 85 8) 3 : Int)] 24) = w7 at TE TG7 TZ7 B7 ⊢
  clear TG6 TZ6 B6 C6 hn6
  go_loopg [6] 4 (fun g si wr => ∃ i v : Nat, i + g = 4 ∧ v = 2 * i ∧ si = .int .i64 (v : Int) ∧ IsTab wr n6 (nxUpto (exUpto (fun x => F x && G x) 85 8) i) ∧ IsTab wr (w.heap.size + 1) G ∧ IsTab wr (w.heap.size + 2) (fun _ => false) ∧ Below w.heap.size w wr)
  case atStart => exact ⟨0, 0, by omega, rfl, rfl, TE, TG7, TZ7, B7⟩
  case round =>
    obtain ⟨i, v, hi, hv, rfl, hT, hG, hZ, hB⟩ := hrel
    have hI : Aside (i + gk = 4 ∧ v = 2 * i) := ⟨hi, hv⟩
    clear hi hv
    have hCr := hC.kept hB
    by_cases hv8 : v < 8
    · have hv8' : (v : Int) < 8 := by omega
      have hv7 : v + 1 < 8 := by have := hI.out; omega
      have hH : Hid (nxUpto (exUpto (fun x => F x && G x) 85 8) (i + 1) = compF (nxUpto (exUpto (fun x => F x && G x) 85 8) i) (v + 1) (M v)) := by simp only [Hid]; rw [nxUpto, hI.out.2]
      generalize nxUpto (exUpto (fun x => F x && G x) 85 8) i = H at hT hH
      obtain ⟨c0, c1, c2, c3⟩ := hT.copy
      go_wp2_with fail
      go_region_with (first
        | (go_at_call 9; refine (pvar_any v hv8 _ hCr.drew).mono ?_; rintro e w8 ⟨rfl, b8⟩; have T8 : IsTab w8 n6 H := IsTab.kept hT.drew b8; obtain ⟨q0, q1, q2, q3⟩ := T8.copy)
        | (go_at_call 24; refine (pcomp_at H (M v) _ (v + 1) (by rw [IntKind.wrap_i64]; omega) hv7 _ (hCr.drew.kept b8)).mono ?_; unfold tab; rintro e w9 ⟨rfl, b9⟩; have T9 := T8.kept b9; obtain ⟨p0, p1, p2, p3⟩ := T9.copy; have g0 := T9.free 0; have g1 := T9.free 1; have g2 := T9.free 2; have g3 := T9.free 3))
      all_goals go_wp2_with fail
      all_goals go_roundg (gk - 1)
      all_goals first
        | (have := hI.out; omega)
        | (have := hI.out
           have ba := below_undrew (below_far b8 b9)
           refine ⟨i + 1, v + 2, by omega, by omega, by simp, by rw [hH.out]; exact laid_tab T9 _, (laid_turned _ _ _).tab (hG.kept ba) (by omega), (laid_turned _ _ _).tab (hZ.kept ba) (by omega), (below_far hB ba).trans ((laid_turned _ _ _).below (below_far hB ba).size (by omega))⟩)
    · obtain ⟨rfl, rfl⟩ : i = 4 ∧ v = 8 := by have := hI.out; omega
      obtain ⟨c0, c1, c2, c3⟩ := hT.copy
      obtain ⟨z0, z1, z2, z3⟩ := hZ.copy
      have y0 := hZ.free 0
      have y1 := hZ.free 1
      have y2 := hZ.free 2
      have y3 := hZ.free 3
      go_wp2_with fail
      exact bodyPost_ret (results_tab rfl rfl (laid_tab hZ _)) rfl ⟨rfl, hB.trans ((laid_turned _ _ _).below hB.size (by omega))⟩

set_option maxHeartbeats 1600000 in
theorem pprev_raw (F G : Nat → Bool) (w : World) (hC : Cols w) :
    Calls Tryd.prog 16 #[tab F, tab G] w fun e w' => e = .returned (tab (exUpto (fun x => G x && pvUpto (resUpto F 170 0 8) 4 x) 170 8)) ∧ Below w.heap.size w w' := by
  conv in #[tab F, tab G] => unfold tab
  have B0 := (((Below.refl _ w).alloc (Nat.le_refl _) (.cells #[.int .u64 (word F 0 : Int), .int .u64 (word F 1 : Int), .int .u64 (word F 2 : Int), .int .u64 (word F 3 : Int)] 24)).alloc (by simp) (.cells #[.int .u64 (word G 0 : Int), .int .u64 (word G 1 : Int), .int .u64 (word G 2 : Int), .int .u64 (word G 3 : Int)] 24)).alloc (by simp; omega) (.cells #[.int .u64 0, .int .u64 0, .int .u64 0, .int .u64 0] 24)
  have TF := ((IsTab.new w F).alloc (.cells #[.int .u64 (word G 0 : Int), .int .u64 (word G 1 : Int), .int .u64 (word G 2 : Int), .int .u64 (word G 3 : Int)] 24)).alloc (.cells #[.int .u64 0, .int .u64 0, .int .u64 0, .int .u64 0] 24)
  have TG := (IsTab.newAt (w := w.alloc (.cells #[.int .u64 (word F 0 : Int), .int .u64 (word F 1 : Int), .int .u64 (word F 2 : Int), .int .u64 (word F 3 : Int)] 24)) (n := w.heap.size + 1) (by simp) G).alloc (.cells #[.int .u64 0, .int .u64 0, .int .u64 0, .int .u64 0] 24)
  have TZ := IsTab.zeroAt (w := (w.alloc (.cells #[.int .u64 (word F 0 : Int), .int .u64 (word F 1 : Int), .int .u64 (word F 2 : Int), .int .u64 (word F 3 : Int)] 24)).alloc (.cells #[.int .u64 (word G 0 : Int), .int .u64 (word G 1 : Int), .int .u64 (word G 2 : Int), .int .u64 (word G 3 : Int)] 24)) (n := w.heap.size + 2) (by simp)
  go_enter Tryd.func16, Tryd.ntmps16
  go_wp2_with fail
  generalize ((w.alloc (.cells #[.int .u64 (word F 0 : Int), .int .u64 (word F 1 : Int), .int .u64 (word F 2 : Int), .int .u64 (word F 3 : Int)] 24)).alloc (.cells #[.int .u64 (word G 0 : Int), .int .u64 (word G 1 : Int), .int .u64 (word G 2 : Int), .int .u64 (word G 3 : Int)] 24)).alloc (.cells #[.int .u64 0, .int .u64 0, .int .u64 0, .int .u64 0] 24) = w4 at B0 TF TG TZ ⊢
  have C4 := hC.kept B0
  obtain ⟨l0, l1, l2, l3⟩ := TF.copy
  obtain ⟨m0, m1, m2, m3⟩ := TG.copy
  go_wp2_with (first
    | (go_at_call 25; refine (prestrict_any F 170 0 (by decide) (by decide) _ C4).mono ?_; unfold tab; rintro e w6 ⟨rfl, b6⟩; have B6 := below_far B0 b6; have TG6 := TG.kept b6; have TZ6 := TZ.kept b6))
  have C6 := hC.kept B6
  have hn6 : Hid (∃ n6, n6 = w6.heap.size) := ⟨_, rfl⟩
  obtain ⟨n6, hn6⟩ := hn6.out
  have TE := IsTab.newAt (w := w6) (n := n6) hn6.symm (resUpto F 170 0 8)
  have TG7 := TG6.alloc (.cells #[.int .u64 (word (resUpto F 170 0 8) 0 : Int), .int .u64 (word (resUpto F 170 0 8) 1 : Int), .int .u64 (word (resUpto F 170 0 8) 2 : Int), .int .u64 (word (resUpto F 170 0 8) 3 : Int)] 24)
  have TZ7 := TZ6.alloc (.cells #[.int .u64 (word (resUpto F 170 0 8) 0 : Int), .int .u64 (word (resUpto F 170 0 8) 1 : Int), .int .u64 (word (resUpto F 170 0 8) 2 : Int), .int .u64 (word (resUpto F 170 0 8) 3 : Int)] 24)
  have B7 := B6.alloc B6.size (.cells #[.int .u64 (word (resUpto F 170 0 8) 0 : Int), .int .u64 (word (resUpto F 170 0 8) 1 : Int), .int .u64 (word (resUpto F 170 0 8) 2 : Int), .int .u64 (word (resUpto F 170 0 8) 3 : Int)] 24)
  have hlt : w.heap.size + 2 < n6 := by rw [hn6]; exact TZ6.lt
  rw [← hn6]
  generalize w6.alloc (.cells #[.int .u64 (word (resUpto F 170 0 8) 0 : Int), .int .u64 (word (resUpto F 170 0 8) 1 : Int), .int .u64 (word (resUpto F 170 0 8) 2 : Int), .int .u64 (word (resUpto F 170 0 8) 3 : Int)] 24) = w7 at TE TG7 TZ7 B7 ⊢
  clear TG6 TZ6 B6 C6 hn6
  go_loopg [6] 4 (fun g si wr => ∃ i v : Nat, i + g = 4 ∧ v = 2 * i ∧ si = .int .i64 (v : Int) ∧ IsTab wr n6 (pvUpto (resUpto F 170 0 8) i) ∧ IsTab wr (w.heap.size + 1) G ∧ IsTab wr (w.heap.size + 2) (fun _ => false) ∧ Below w.heap.size w wr)
  case atStart => exact ⟨0, 0, by omega, rfl, rfl, TE, TG7, TZ7, B7⟩
  case round =>
    obtain ⟨i, v, hi, hv, rfl, hT, hG, hZ, hB⟩ := hrel
    have hI : Aside (i + gk = 4 ∧ v = 2 * i) := ⟨hi, hv⟩
    clear hi hv
    have hCr := hC.kept hB
    by_cases hv8 : v < 8
    · have hv8' : (v : Int) < 8 := by omega
      have hv7 : v + 1 < 8 := by have := hI.out; omega
      have hH : Hid (pvUpto (resUpto F 170 0 8) (i + 1) = compF (pvUpto (resUpto F 170 0 8) i) v (M (v + 1))) := by simp only [Hid]; rw [pvUpto, hI.out.2]
      generalize pvUpto (resUpto F 170 0 8) i = H at hT hH
      obtain ⟨c0, c1, c2, c3⟩ := hT.copy
      go_wp2_with fail
      go_region_with (first
        | (go_at_call 9; refine (pvar_at _ (v + 1) (by rw [IntKind.wrap_i64]; omega) hv7 _ hCr.drew).mono ?_; rintro e w8 ⟨rfl, b8⟩; have T8 : IsTab w8 n6 H := IsTab.kept hT.drew b8; obtain ⟨q0, q1, q2, q3⟩ := T8.copy)
        | (go_at_call 24; refine (pcomp_any H (M (v + 1)) v hv8 _ (hCr.drew.kept b8)).mono ?_; unfold tab; rintro e w9 ⟨rfl, b9⟩; have T9 := T8.kept b9; obtain ⟨p0, p1, p2, p3⟩ := T9.copy; have g0 := T9.free 0; have g1 := T9.free 1; have g2 := T9.free 2; have g3 := T9.free 3))
      all_goals go_wp2_with fail
      all_goals go_roundg (gk - 1)
      all_goals first
        | (have := hI.out; omega)
        | (have := hI.out
           have ba := below_undrew (below_far b8 b9)
           refine ⟨i + 1, v + 2, by omega, by omega, by simp, by rw [hH.out]; exact laid_tab T9 _, (laid_turned _ _ _).tab (hG.kept ba) (by omega), (laid_turned _ _ _).tab (hZ.kept ba) (by omega), (below_far hB ba).trans ((laid_turned _ _ _).below (below_far hB ba).size (by omega))⟩)
    · obtain ⟨rfl, rfl⟩ : i = 4 ∧ v = 8 := by have := hI.out; omega
      obtain ⟨c0, c1, c2, c3⟩ := hT.copy
      obtain ⟨d0, d1, d2, d3⟩ := hG.copy
      go_wp2_with (first
        | (go_at_call 8; refine (pand_any G (pvUpto (resUpto F 170 0 8) 4) _).mono ?_; rintro e w8 ⟨rfl, b8⟩)
        | (go_at_call 18; refine (pexists_any _ 170 (by decide) _ (hCr.kept b8)).mono ?_; unfold tab; rintro e w9 ⟨rfl, b9⟩; have Z9 := hZ.kept (below_far b8 b9); have B9 := below_far hB (below_far b8 b9); obtain ⟨z0, z1, z2, z3⟩ := Z9.copy; have y0 := Z9.free 0; have y1 := Z9.free 1; have y2 := Z9.free 2; have y3 := Z9.free 3))
      exact bodyPost_ret (results_tab rfl rfl (laid_tab Z9 _)) rfl ⟨rfl, B9.trans ((laid_turned _ _ _).below B9.size (by omega))⟩

theorem pnext_any (F G : Nat → Bool) (w : World) (hC : Cols w) :
    Calls Tryd.prog 15 #[tab F, tab G] w fun e w' => e = .returned (tab (nextF F G)) ∧ Below w.heap.size w w' := by
  rw [← tab_ext fun x hx => next_eq F G x hx]
  exact pnext_raw F G w hC
theorem pprev_any (F G : Nat → Bool) (w : World) (hC : Cols w) :
    Calls Tryd.prog 16 #[tab F, tab G] w fun e w' => e = .returned (tab (prevF F G)) ∧ Below w.heap.size w w' := by
  rw [← tab_ext fun x hx => prev_eq F G x hx]
  exact pprev_raw F G w hC
end Go.Proofs.YtmfocngdobcfcabDoor
