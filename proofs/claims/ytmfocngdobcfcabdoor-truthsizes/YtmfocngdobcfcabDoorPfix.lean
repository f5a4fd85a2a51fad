/-
  A function with one variable turned, fixed, put in: what the program's own calls return.
-/
import Derived.Test.YtmfocngdobcfcabDoorTurn
namespace Go.Proofs.YtmfocngdobcfcabDoor
open Go Go.RowKit

theorem isVar_yes (v : Nat) (hv : v < 8) (w : World) : Calls Tryd.prog 21 #[.int .i64 (v : Int)] w fun e w' => e = .returned (.bool true) ∧ w' = w := by
  have h := isVar_any (v : Int) w
  rwa [show decide (0 ≤ (v : Int) ∧ (v : Int) < 8) = true by simp; omega] at h
theorem isVar_no (v : Int) (hv : v < 0 ∨ 8 ≤ v) (w : World) : Calls Tryd.prog 21 #[.int .i64 v] w fun e w' => e = .returned (.bool false) ∧ w' = w := by
  have h := isVar_any v w
  rwa [show decide (0 ≤ v ∧ v < 8) = false by simp; omega] at h
theorem index_words (a b c d : Int) (w : World) :
    (Instr.index 24 (.agg #[.int .u64 a, .int .u64 b, .int .u64 c, .int .u64 d]) (.int .i64 0)).run Tryd.prog w = .ok (.int .u64 a) w ∧
    (Instr.index 24 (.agg #[.int .u64 a, .int .u64 b, .int .u64 c, .int .u64 d]) (.int .i64 1)).run Tryd.prog w = .ok (.int .u64 b) w ∧
    (Instr.index 24 (.agg #[.int .u64 a, .int .u64 b, .int .u64 c, .int .u64 d]) (.int .i64 2)).run Tryd.prog w = .ok (.int .u64 c) w ∧
    (Instr.index 24 (.agg #[.int .u64 a, .int .u64 b, .int .u64 c, .int .u64 d]) (.int .i64 3)).run Tryd.prog w = .ok (.int .u64 d) w := ⟨by kernel_rfl, by kernel_rfl, by kernel_rfl, by kernel_rfl⟩
theorem index_tab (F : Nat → Bool) (k : Nat) (hk : k < 4) (w : World) :
    (Instr.index 24 (.agg #[.int .u64 (word F 0 : Int), .int .u64 (word F 1 : Int), .int .u64 (word F 2 : Int), .int .u64 (word F 3 : Int)]) (.int .i64 (k : Int))).run Tryd.prog w = .ok (.int .u64 (word F k : Int)) w := by
  have h : k = 0 ∨ k = 1 ∨ k = 2 ∨ k = 3 := by omega
  obtain ⟨a, b, c, d⟩ := index_words (word F 0) (word F 1) (word F 2) (word F 3) w
  rcases h with rfl | rfl | rfl | rfl
  · exact a
  · exact b
  · exact c
  · exact d

set_option maxHeartbeats 1600000 in
theorem turned_low (F : Nat → Bool) (v : Nat) (hv : v < 6) (w : World) (hC : Cols w) :
    Calls Tryd.prog 23 #[tab F, .int .i64 (v : Int)] w fun e w' => e = .returned (tab (turnF F v)) ∧ Below w.heap.size w w' := by
  have R : Hid (tab (turnF F v) = tab (mix 4 (fun _ => false) (turnF F v))) := (tab_ext fun x hx => mix_all (fun _ => false) (turnF F v) x hx).symm
  rw [R.out]
  clear R
  obtain ⟨S, hS⟩ : ∃ S : Nat, 2 ^ v = S := ⟨_, rfl⟩
  have hS1 : S ≤ 32 := by rw [← hS]; exact Nat.pow_le_pow_right (n := 2) (by decide) (show v ≤ 5 by omega)
  have hS0 : 0 < S := by rw [← hS]; exact Nat.pow_pos (by decide)
  have hSS : IntKind.i64.wrap (2 ^ v) = (S : Int) := by
    have h2 : (2 : Int) ^ v = ((2 ^ v : Nat) : Int) := by push_cast; rfl
    rw [h2, hS, IntKind.wrap_i64]
    omega
  have hSA : Hid (2 ^ v = S) := hS
  clear hS
  have hv6 : decide ((v : Int) ≥ 6) = false := by simp; omega
  have hv8 : (v : Int) < 8 := by omega
  obtain ⟨c0, c1, c2, c3⟩ := hC.cells v (by omega)
  have hp := hC.1
  conv in #[tab F, Value.int IntKind.i64 (v : Int)] => unfold tab
  go_enter Tryd.func23, Tryd.ntmps23
  go_wp2_with fail
  go_loopg [31] 4 (fun g si wr => ∃ k : Nat, k + g = 4 ∧ si = .int .i64 (k : Int) ∧ IsTab wr w.heap.size F ∧ IsTab wr (w.heap.size + 1) (fun _ => false) ∧ IsTab wr (w.heap.size + 2) (mix k (fun _ => false) (turnF F v)) ∧ Below w.heap.size w wr)
  case atStart =>
    exact ⟨0, by omega, rfl, ((IsTab.new w F).alloc _).alloc _, (IsTab.zeroAt (by simp)).alloc _, (IsTab.zeroAt (by simp)).ext fun y _ => mix_none (fun _ => false) (turnF F v) y, (((Below.refl _ w).alloc (Nat.le_refl _) _).alloc (by simp) _).alloc (by simp; omega) _⟩
  case round =>
    obtain ⟨k, hk, rfl, hF, hZ, hT, hB⟩ := hrel
    have hK : Aside (k + gk = 4) := hk
    clear hk
    by_cases hk9 : k < 4
    · have hk9' : (k : Int) < 4 := by omega
      have d0 := hF.cell hk9
      have e0 := hT.cell hk9
      have f0 := hT.free k
      have ix := index_tab (M v) k hk9
      go_wp2_with fail
      go_region
      rw [turn_int F v k S hv hk9 hSA.out]
      go_wp2_with fail
      go_roundg (gk - 1)
      case measure => have := hK.out; omega
      case rel =>
        have hk := hK.out
        exact ⟨k + 1, by omega, rfl, (hF.other (by simp; omega) _).drew, (hZ.other (by simp) _).drew, (hT.mixed hk9).drew, (hB.setCell (by simp; omega) _).drew⟩
    · obtain rfl : k = 4 := by have := hK.out; omega
      obtain ⟨d0, d1, d2, d3⟩ := hT.copy
      obtain ⟨z0, z1, z2, z3⟩ := hZ.copy
      have y0 := hZ.free 0
      have y1 := hZ.free 1
      have y2 := hZ.free 2
      have y3 := hZ.free 3
      go_wp2_with fail
      exact bodyPost_ret (results_tab rfl rfl (laid_tab hZ _)) rfl ⟨rfl, hB.trans ((laid_turned _ _ _).below hB.size (by omega))⟩

theorem turned_any (F : Nat → Bool) (v : Nat) (hv : v < 8) (w : World) (hC : Cols w) :
    Calls Tryd.prog 23 #[tab F, .int .i64 (v : Int)] w fun e w' => e = .returned (tab (turnF F v)) ∧ Below w.heap.size w w' := by
  by_cases h6 : v < 6
  · exact turned_low F v h6 w hC
  · have h : v = 6 ∨ v = 7 := by omega
    rcases h with rfl | rfl
    · exact turned_6 F w
    · exact turned_7 F w

theorem pfix_none (F : Nat → Bool) (v : Int) (b : Bool) (hv : v < 0 ∨ 8 ≤ v) (w : World) :
    Calls Tryd.prog 12 #[tab F, .int .i64 v, .bool b] w fun e w' => e = .returned (tab F) ∧ Below w.heap.size w w' := by
  conv in #[tab F, Value.int IntKind.i64 v, Value.bool b] => unfold tab
  go_enter Tryd.func12, Tryd.ntmps12
  go_wp2_with (first
    | (go_at_call 21; refine (isVar_no v hv _).mono ?_; rintro e w5 ⟨rfl, rfl⟩))
  exact bodyPost_ret (results_tab rfl rfl (IsTab.newAt (by simp) F)) rfl ⟨rfl, ((Below.refl _ w).alloc (Nat.le_refl _) _).alloc (by simp) _⟩

theorem pfix_true (F : Nat → Bool) (v : Nat) (hv : v < 8) (w : World) (hC : Cols w) :
    Calls Tryd.prog 12 #[tab F, .int .i64 (v : Int), .bool true] w fun e w' => e = .returned (tab (fixF F v true)) ∧ Below w.heap.size w w' := by
  have R : Hid (tab (fixF F v true) = tab (fun x => (M v x && F x) || (!M v x && turnF F v x))) := (tab_ext fun x hx => fix_true F v x hv hx).symm
  rw [R.out]
  clear R
  conv in #[tab F, Value.int IntKind.i64 (v : Int), Value.bool true] => unfold tab
  have B0 := ((Below.refl _ w).alloc (Nat.le_refl _) (.cells #[.int .u64 (word F 0 : Int), .int .u64 (word F 1 : Int), .int .u64 (word F 2 : Int), .int .u64 (word F 3 : Int)] 24)).alloc (by simp) (.cells #[.int .u64 0, .int .u64 0, .int .u64 0, .int .u64 0] 24)
  have TF := (IsTab.new w F).alloc (.cells #[.int .u64 0, .int .u64 0, .int .u64 0, .int .u64 0] 24)
  have TZ := IsTab.zeroAt (w := w.alloc (.cells #[.int .u64 (word F 0 : Int), .int .u64 (word F 1 : Int), .int .u64 (word F 2 : Int), .int .u64 (word F 3 : Int)] 24)) (n := w.heap.size + 1) (by simp)
  go_enter Tryd.func12, Tryd.ntmps12
  go_wp2_with (first
    | (go_at_call 21; refine (isVar_yes v hv _).mono ?_; rintro e w5 ⟨rfl, rfl⟩))
  generalize (w.alloc (.cells #[.int .u64 (word F 0 : Int), .int .u64 (word F 1 : Int), .int .u64 (word F 2 : Int), .int .u64 (word F 3 : Int)] 24)).alloc (.cells #[.int .u64 0, .int .u64 0, .int .u64 0, .int .u64 0] 24) = w4 at B0 TF TZ ⊢
  have C4 := hC.kept B0
  have l0 : ∀ u, Sit w4 (w.heap.size + 1) u → u.cell? ⟨w.heap.size, 0, none⟩ = some (.int .u64 (word F 0 : Int)) := fun u s => s.cell TF (by omega) (by decide)
  have l1 : ∀ u, Sit w4 (w.heap.size + 1) u → u.cell? ⟨w.heap.size, 1, none⟩ = some (.int .u64 (word F 1 : Int)) := fun u s => s.cell TF (by omega) (by decide)
  have l2 : ∀ u, Sit w4 (w.heap.size + 1) u → u.cell? ⟨w.heap.size, 2, none⟩ = some (.int .u64 (word F 2 : Int)) := fun u s => s.cell TF (by omega) (by decide)
  have l3 : ∀ u, Sit w4 (w.heap.size + 1) u → u.cell? ⟨w.heap.size, 3, none⟩ = some (.int .u64 (word F 3 : Int)) := fun u s => s.cell TF (by omega) (by decide)
  have r0 : ∀ u, Sit w4 (w.heap.size + 1) u → u.cell? ⟨w.heap.size + 1, 0, none⟩ = some (valAt u (w.heap.size + 1) 0) := fun u s => s.place (by decide)
  have r1 : ∀ u, Sit w4 (w.heap.size + 1) u → u.cell? ⟨w.heap.size + 1, 1, none⟩ = some (valAt u (w.heap.size + 1) 1) := fun u s => s.place (by decide)
  have r2 : ∀ u, Sit w4 (w.heap.size + 1) u → u.cell? ⟨w.heap.size + 1, 2, none⟩ = some (valAt u (w.heap.size + 1) 2) := fun u s => s.place (by decide)
  have r3 : ∀ u, Sit w4 (w.heap.size + 1) u → u.cell? ⟨w.heap.size + 1, 3, none⟩ = some (valAt u (w.heap.size + 1) 3) := fun u s => s.place (by decide)
  have rf : ∀ k u, Sit w4 (w.heap.size + 1) u → u.frozen? ⟨w.heap.size + 1, k, none⟩ = false := fun k u s => s.free k
  have hc : ∀ u, Sit w4 (w.heap.size + 1) u → Cols u := fun u s => C4.same s.turned.size (s.turned.block 0 C4.1 (by omega))
  go_region_held3 (fun u => Sit w4 (w.heap.size + 1) u) (first | assumption | exact Sit.start TZ | exact Sit.call (by assumption) (by assumption) | exact Sit.laid (by assumption) _) (first
    | (go_at_call 9; refine (pvar_any v hv _ (hc _ (by assumption))).mono ?_; rintro e w6 ⟨rfl, b6⟩)
    | (go_at_call 23; refine (turned_any F v hv _ (hc _ (by assumption))).mono ?_; rintro e w6 ⟨rfl, b6⟩)
    | (go_at_call 22; refine (pite_any _ _ _ _).mono ?_; unfold tab; rintro e w6 ⟨rfl, b6⟩))
  have S6 : Sit w4 (w.heap.size + 1) w6 := Sit.call b6 (Sit.call (by assumption) (Sit.call (by assumption) (Sit.start TZ)))
  obtain ⟨F', hF'⟩ := S6.room
  go_wp2_with fail
  exact bodyPost_ret (results_tab rfl rfl (laid_tab hF' _)) rfl ⟨rfl, B0.trans ((S6.laid _).turned.below B0.size (by omega))⟩

theorem pfix_false (F : Nat → Bool) (v : Nat) (hv : v < 8) (w : World) (hC : Cols w) :
    Calls Tryd.prog 12 #[tab F, .int .i64 (v : Int), .bool false] w fun e w' => e = .returned (tab (fixF F v false)) ∧ Below w.heap.size w w' := by
  have R : Hid (tab (fixF F v false) = tab (fun x => (M v x && turnF F v x) || (!M v x && F x))) := (tab_ext fun x hx => fix_false F v x hv hx).symm
  rw [R.out]
  clear R
  conv in #[tab F, Value.int IntKind.i64 (v : Int), Value.bool false] => unfold tab
  have B0 := ((Below.refl _ w).alloc (Nat.le_refl _) (.cells #[.int .u64 (word F 0 : Int), .int .u64 (word F 1 : Int), .int .u64 (word F 2 : Int), .int .u64 (word F 3 : Int)] 24)).alloc (by simp) (.cells #[.int .u64 0, .int .u64 0, .int .u64 0, .int .u64 0] 24)
  have TF := (IsTab.new w F).alloc (.cells #[.int .u64 0, .int .u64 0, .int .u64 0, .int .u64 0] 24)
  have TZ := IsTab.zeroAt (w := w.alloc (.cells #[.int .u64 (word F 0 : Int), .int .u64 (word F 1 : Int), .int .u64 (word F 2 : Int), .int .u64 (word F 3 : Int)] 24)) (n := w.heap.size + 1) (by simp)
  go_enter Tryd.func12, Tryd.ntmps12
  go_wp2_with (first
    | (go_at_call 21; refine (isVar_yes v hv _).mono ?_; rintro e w5 ⟨rfl, rfl⟩))
  generalize (w.alloc (.cells #[.int .u64 (word F 0 : Int), .int .u64 (word F 1 : Int), .int .u64 (word F 2 : Int), .int .u64 (word F 3 : Int)] 24)).alloc (.cells #[.int .u64 0, .int .u64 0, .int .u64 0, .int .u64 0] 24) = w4 at B0 TF TZ ⊢
  have C4 := hC.kept B0
  have l0 : ∀ u, Sit w4 (w.heap.size + 1) u → u.cell? ⟨w.heap.size, 0, none⟩ = some (.int .u64 (word F 0 : Int)) := fun u s => s.cell TF (by omega) (by decide)
  have l1 : ∀ u, Sit w4 (w.heap.size + 1) u → u.cell? ⟨w.heap.size, 1, none⟩ = some (.int .u64 (word F 1 : Int)) := fun u s => s.cell TF (by omega) (by decide)
  have l2 : ∀ u, Sit w4 (w.heap.size + 1) u → u.cell? ⟨w.heap.size, 2, none⟩ = some (.int .u64 (word F 2 : Int)) := fun u s => s.cell TF (by omega) (by decide)
  have l3 : ∀ u, Sit w4 (w.heap.size + 1) u → u.cell? ⟨w.heap.size, 3, none⟩ = some (.int .u64 (word F 3 : Int)) := fun u s => s.cell TF (by omega) (by decide)
  have r0 : ∀ u, Sit w4 (w.heap.size + 1) u → u.cell? ⟨w.heap.size + 1, 0, none⟩ = some (valAt u (w.heap.size + 1) 0) := fun u s => s.place (by decide)
  have r1 : ∀ u, Sit w4 (w.heap.size + 1) u → u.cell? ⟨w.heap.size + 1, 1, none⟩ = some (valAt u (w.heap.size + 1) 1) := fun u s => s.place (by decide)
  have r2 : ∀ u, Sit w4 (w.heap.size + 1) u → u.cell? ⟨w.heap.size + 1, 2, none⟩ = some (valAt u (w.heap.size + 1) 2) := fun u s => s.place (by decide)
  have r3 : ∀ u, Sit w4 (w.heap.size + 1) u → u.cell? ⟨w.heap.size + 1, 3, none⟩ = some (valAt u (w.heap.size + 1) 3) := fun u s => s.place (by decide)
  have rf : ∀ k u, Sit w4 (w.heap.size + 1) u → u.frozen? ⟨w.heap.size + 1, k, none⟩ = false := fun k u s => s.free k
  have hc : ∀ u, Sit w4 (w.heap.size + 1) u → Cols u := fun u s => C4.same s.turned.size (s.turned.block 0 C4.1 (by omega))
  go_region_held3 (fun u => Sit w4 (w.heap.size + 1) u) (first | assumption | exact Sit.start TZ | exact Sit.call (by assumption) (by assumption) | exact Sit.laid (by assumption) _) (first
    | (go_at_call 9; refine (pvar_any v hv _ (hc _ (by assumption))).mono ?_; rintro e w6 ⟨rfl, b6⟩)
    | (go_at_call 23; refine (turned_any F v hv _ (hc _ (by assumption))).mono ?_; rintro e w6 ⟨rfl, b6⟩)
    | (go_at_call 22; refine (pite_any _ _ _ _).mono ?_; unfold tab; rintro e w6 ⟨rfl, b6⟩))
  have S6 : Sit w4 (w.heap.size + 1) w6 := Sit.call b6 (Sit.call (by assumption) (Sit.call (by assumption) (Sit.start TZ)))
  obtain ⟨F', hF'⟩ := S6.room
  go_wp2_with fail
  exact bodyPost_ret (results_tab rfl rfl (laid_tab hF' _)) rfl ⟨rfl, B0.trans ((S6.laid _).turned.below B0.size (by omega))⟩

theorem pfix_any (F : Nat → Bool) (v : Nat) (hv : v < 8) (b : Bool) (w : World) (hC : Cols w) :
    Calls Tryd.prog 12 #[tab F, .int .i64 (v : Int), .bool b] w fun e w' => e = .returned (tab (fixF F v b)) ∧ Below w.heap.size w w' := by
  cases b
  · exact pfix_false F v hv w hC
  · exact pfix_true F v hv w hC
end Go.Proofs.YtmfocngdobcfcabDoor
