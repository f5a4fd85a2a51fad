/-
  One function put in for a variable of another: what the program's own call returns.
-/
import Derived.Test.YtmfocngdobcfcabDoorPfix
import Derived.Test.YtmfocngdobcfcabDoorPureb
namespace Go.Proofs.YtmfocngdobcfcabDoor
open Go Go.RowKit

theorem pcompose_any (F G : Nat → Bool) (v : Nat) (hv : v < 8) (w : World) (hC : Cols w) :
    Calls Tryd.prog 24 #[tab F, .int .i64 (v : Int), tab G] w fun e w' => e = .returned (tab (fun x => (G x && fixF F v true x) || (!G x && fixF F v false x))) ∧ Below w.heap.size w w' := by
  conv in #[tab F, Value.int IntKind.i64 (v : Int), tab G] => unfold tab
  have B0 := (((Below.refl _ w).alloc (Nat.le_refl _) (.cells #[.int .u64 (word F 0 : Int), .int .u64 (word F 1 : Int), .int .u64 (word F 2 : Int), .int .u64 (word F 3 : Int)] 24)).alloc (by simp) (.cells #[.int .u64 (word G 0 : Int), .int .u64 (word G 1 : Int), .int .u64 (word G 2 : Int), .int .u64 (word G 3 : Int)] 24)).alloc (by simp; omega) (.cells #[.int .u64 0, .int .u64 0, .int .u64 0, .int .u64 0] 24)
  have TF := ((IsTab.new w F).alloc (.cells #[.int .u64 (word G 0 : Int), .int .u64 (word G 1 : Int), .int .u64 (word G 2 : Int), .int .u64 (word G 3 : Int)] 24)).alloc (.cells #[.int .u64 0, .int .u64 0, .int .u64 0, .int .u64 0] 24)
  have TG := (IsTab.newAt (w := w.alloc (.cells #[.int .u64 (word F 0 : Int), .int .u64 (word F 1 : Int), .int .u64 (word F 2 : Int), .int .u64 (word F 3 : Int)] 24)) (n := w.heap.size + 1) (by simp) G).alloc (.cells #[.int .u64 0, .int .u64 0, .int .u64 0, .int .u64 0] 24)
  have TZ := IsTab.zeroAt (w := (w.alloc (.cells #[.int .u64 (word F 0 : Int), .int .u64 (word F 1 : Int), .int .u64 (word F 2 : Int), .int .u64 (word F 3 : Int)] 24)).alloc (.cells #[.int .u64 (word G 0 : Int), .int .u64 (word G 1 : Int), .int .u64 (word G 2 : Int), .int .u64 (word G 3 : Int)] 24)) (n := w.heap.size + 2) (by simp)
  go_enter Tryd.func24, Tryd.ntmps24
  go_wp2_with fail
  generalize ((w.alloc (.cells #[.int .u64 (word F 0 : Int), .int .u64 (word F 1 : Int), .int .u64 (word F 2 : Int), .int .u64 (word F 3 : Int)] 24)).alloc (.cells #[.int .u64 (word G 0 : Int), .int .u64 (word G 1 : Int), .int .u64 (word G 2 : Int), .int .u64 (word G 3 : Int)] 24)).alloc (.cells #[.int .u64 0, .int .u64 0, .int .u64 0, .int .u64 0] 24) = w4 at B0 TF TG TZ ⊢
  have C4 := hC.kept B0
  have l0 : ∀ u, Sit w4 (w.heap.size + 2) u → u.cell? ⟨w.heap.size, 0, none⟩ = some (.int .u64 (word F 0 : Int)) := fun u s => s.cell TF (by omega) (by decide)
  have l1 : ∀ u, Sit w4 (w.heap.size + 2) u → u.cell? ⟨w.heap.size, 1, none⟩ = some (.int .u64 (word F 1 : Int)) := fun u s => s.cell TF (by omega) (by decide)
  have l2 : ∀ u, Sit w4 (w.heap.size + 2) u → u.cell? ⟨w.heap.size, 2, none⟩ = some (.int .u64 (word F 2 : Int)) := fun u s => s.cell TF (by omega) (by decide)
  have l3 : ∀ u, Sit w4 (w.heap.size + 2) u → u.cell? ⟨w.heap.size, 3, none⟩ = some (.int .u64 (word F 3 : Int)) := fun u s => s.cell TF (by omega) (by decide)
  have m0 : ∀ u, Sit w4 (w.heap.size + 2) u → u.cell? ⟨w.heap.size + 1, 0, none⟩ = some (.int .u64 (word G 0 : Int)) := fun u s => s.cell TG (by omega) (by decide)
  have m1 : ∀ u, Sit w4 (w.heap.size + 2) u → u.cell? ⟨w.heap.size + 1, 1, none⟩ = some (.int .u64 (word G 1 : Int)) := fun u s => s.cell TG (by omega) (by decide)
  have m2 : ∀ u, Sit w4 (w.heap.size + 2) u → u.cell? ⟨w.heap.size + 1, 2, none⟩ = some (.int .u64 (word G 2 : Int)) := fun u s => s.cell TG (by omega) (by decide)
  have m3 : ∀ u, Sit w4 (w.heap.size + 2) u → u.cell? ⟨w.heap.size + 1, 3, none⟩ = some (.int .u64 (word G 3 : Int)) := fun u s => s.cell TG (by omega) (by decide)
  have r0 : ∀ u, Sit w4 (w.heap.size + 2) u → u.cell? ⟨w.heap.size + 2, 0, none⟩ = some (valAt u (w.heap.size + 2) 0) := fun u s => s.place (by decide)
  have r1 : ∀ u, Sit w4 (w.heap.size + 2) u → u.cell? ⟨w.heap.size + 2, 1, none⟩ = some (valAt u (w.heap.size + 2) 1) := fun u s => s.place (by decide)
  have r2 : ∀ u, Sit w4 (w.heap.size + 2) u → u.cell? ⟨w.heap.size + 2, 2, none⟩ = some (valAt u (w.heap.size + 2) 2) := fun u s => s.place (by decide)
  have r3 : ∀ u, Sit w4 (w.heap.size + 2) u → u.cell? ⟨w.heap.size + 2, 3, none⟩ = some (valAt u (w.heap.size + 2) 3) := fun u s => s.place (by decide)
  have rf : ∀ k u, Sit w4 (w.heap.size + 2) u → u.frozen? ⟨w.heap.size + 2, k, none⟩ = false := fun k u s => s.free k
  have hc : ∀ u, Sit w4 (w.heap.size + 2) u → Cols u := fun u s => C4.same s.turned.size (s.turned.block 0 C4.1 (by omega))
  go_region_held3 (fun u => Sit w4 (w.heap.size + 2) u) (first | assumption | exact Sit.start TZ | exact Sit.call (by assumption) (by assumption) | exact Sit.laid (by assumption) _) (first
    | (go_at_call 12; refine (pfix_any F v hv _ _ (hc _ (by assumption))).mono ?_; rintro e w6 ⟨rfl, b6⟩)
    | (go_at_call 22; refine (pite_any _ _ _ _).mono ?_; unfold tab; rintro e w6 ⟨rfl, b6⟩))
  have S6 : Sit w4 (w.heap.size + 2) w6 := Sit.call b6 (Sit.call (by assumption) (Sit.call (by assumption) (Sit.start TZ)))
  obtain ⟨F', hF'⟩ := S6.room
  go_wp2_with fail
  exact bodyPost_ret (results_tab rfl rfl (laid_tab hF' _)) rfl ⟨rfl, B0.trans ((S6.laid _).turned.below B0.size (by omega))⟩

theorem pcompose_none (F G : Nat → Bool) (v : Int) (hv : v < 0 ∨ 8 ≤ v) (w : World) (hC : Cols w) :
    Calls Tryd.prog 24 #[tab F, .int .i64 v, tab G] w fun e w' => e = .returned (tab (fun x => (G x && F x) || (!G x && F x))) ∧ Below w.heap.size w w' := by
  conv in #[tab F, Value.int IntKind.i64 v, tab G] => unfold tab
  have B0 := (((Below.refl _ w).alloc (Nat.le_refl _) (.cells #[.int .u64 (word F 0 : Int), .int .u64 (word F 1 : Int), .int .u64 (word F 2 : Int), .int .u64 (word F 3 : Int)] 24)).alloc (by simp) (.cells #[.int .u64 (word G 0 : Int), .int .u64 (word G 1 : Int), .int .u64 (word G 2 : Int), .int .u64 (word G 3 : Int)] 24)).alloc (by simp; omega) (.cells #[.int .u64 0, .int .u64 0, .int .u64 0, .int .u64 0] 24)
  have TF := ((IsTab.new w F).alloc (.cells #[.int .u64 (word G 0 : Int), .int .u64 (word G 1 : Int), .int .u64 (word G 2 : Int), .int .u64 (word G 3 : Int)] 24)).alloc (.cells #[.int .u64 0, .int .u64 0, .int .u64 0, .int .u64 0] 24)
  have TG := (IsTab.newAt (w := w.alloc (.cells #[.int .u64 (word F 0 : Int), .int .u64 (word F 1 : Int), .int .u64 (word F 2 : Int), .int .u64 (word F 3 : Int)] 24)) (n := w.heap.size + 1) (by simp) G).alloc (.cells #[.int .u64 0, .int .u64 0, .int .u64 0, .int .u64 0] 24)
  have TZ := IsTab.zeroAt (w := (w.alloc (.cells #[.int .u64 (word F 0 : Int), .int .u64 (word F 1 : Int), .int .u64 (word F 2 : Int), .int .u64 (word F 3 : Int)] 24)).alloc (.cells #[.int .u64 (word G 0 : Int), .int .u64 (word G 1 : Int), .int .u64 (word G 2 : Int), .int .u64 (word G 3 : Int)] 24)) (n := w.heap.size + 2) (by simp)
  go_enter Tryd.func24, Tryd.ntmps24
  go_wp2_with fail
  generalize ((w.alloc (.cells #[.int .u64 (word F 0 : Int), .int .u64 (word F 1 : Int), .int .u64 (word F 2 : Int), .int .u64 (word F 3 : Int)] 24)).alloc (.cells #[.int .u64 (word G 0 : Int), .int .u64 (word G 1 : Int), .int .u64 (word G 2 : Int), .int .u64 (word G 3 : Int)] 24)).alloc (.cells #[.int .u64 0, .int .u64 0, .int .u64 0, .int .u64 0] 24) = w4 at B0 TF TG TZ ⊢
  have C4 := hC.kept B0
  have l0 : ∀ u, Sit w4 (w.heap.size + 2) u → u.cell? ⟨w.heap.size, 0, none⟩ = some (.int .u64 (word F 0 : Int)) := fun u s => s.cell TF (by omega) (by decide)
  have l1 : ∀ u, Sit w4 (w.heap.size + 2) u → u.cell? ⟨w.heap.size, 1, none⟩ = some (.int .u64 (word F 1 : Int)) := fun u s => s.cell TF (by omega) (by decide)
  have l2 : ∀ u, Sit w4 (w.heap.size + 2) u → u.cell? ⟨w.heap.size, 2, none⟩ = some (.int .u64 (word F 2 : Int)) := fun u s => s.cell TF (by omega) (by decide)
  have l3 : ∀ u, Sit w4 (w.heap.size + 2) u → u.cell? ⟨w.heap.size, 3, none⟩ = some (.int .u64 (word F 3 : Int)) := fun u s => s.cell TF (by omega) (by decide)
  have m0 : ∀ u, Sit w4 (w.heap.size + 2) u → u.cell? ⟨w.heap.size + 1, 0, none⟩ = some (.int .u64 (word G 0 : Int)) := fun u s => s.cell TG (by omega) (by decide)
  have m1 : ∀ u, Sit w4 (w.heap.size + 2) u → u.cell? ⟨w.heap.size + 1, 1, none⟩ = some (.int .u64 (word G 1 : Int)) := fun u s => s.cell TG (by omega) (by decide)
  have m2 : ∀ u, Sit w4 (w.heap.size + 2) u → u.cell? ⟨w.heap.size + 1, 2, none⟩ = some (.int .u64 (word G 2 : Int)) := fun u s => s.cell TG (by omega) (by decide)
  have m3 : ∀ u, Sit w4 (w.heap.size + 2) u → u.cell? ⟨w.heap.size + 1, 3, none⟩ = some (.int .u64 (word G 3 : Int)) := fun u s => s.cell TG (by omega) (by decide)
  have r0 : ∀ u, Sit w4 (w.heap.size + 2) u → u.cell? ⟨w.heap.size + 2, 0, none⟩ = some (valAt u (w.heap.size + 2) 0) := fun u s => s.place (by decide)
  have r1 : ∀ u, Sit w4 (w.heap.size + 2) u → u.cell? ⟨w.heap.size + 2, 1, none⟩ = some (valAt u (w.heap.size + 2) 1) := fun u s => s.place (by decide)
  have r2 : ∀ u, Sit w4 (w.heap.size + 2) u → u.cell? ⟨w.heap.size + 2, 2, none⟩ = some (valAt u (w.heap.size + 2) 2) := fun u s => s.place (by decide)
  have r3 : ∀ u, Sit w4 (w.heap.size + 2) u → u.cell? ⟨w.heap.size + 2, 3, none⟩ = some (valAt u (w.heap.size + 2) 3) := fun u s => s.place (by decide)
  have rf : ∀ k u, Sit w4 (w.heap.size + 2) u → u.frozen? ⟨w.heap.size + 2, k, none⟩ = false := fun k u s => s.free k
  have hc : ∀ u, Sit w4 (w.heap.size + 2) u → Cols u := fun u s => C4.same s.turned.size (s.turned.block 0 C4.1 (by omega))
  go_region_held3 (fun u => Sit w4 (w.heap.size + 2) u) (first | assumption | exact Sit.start TZ | exact Sit.call (by assumption) (by assumption) | exact Sit.laid (by assumption) _) (first
    | (go_at_call 12; refine (pfix_none F v _ hv _).mono ?_; rintro e w6 ⟨rfl, b6⟩)
    | (go_at_call 22; refine (pite_any _ _ _ _).mono ?_; unfold tab; rintro e w6 ⟨rfl, b6⟩))
  have S6 : Sit w4 (w.heap.size + 2) w6 := Sit.call b6 (Sit.call (by assumption) (Sit.call (by assumption) (Sit.start TZ)))
  obtain ⟨F', hF'⟩ := S6.room
  go_wp2_with fail
  exact bodyPost_ret (results_tab rfl rfl (laid_tab hF' _)) rfl ⟨rfl, B0.trans ((S6.laid _).turned.below B0.size (by omega))⟩

theorem comp_ite (F G : Nat → Bool) (v x : Nat) : ((G x && fixF F v true x) || (!G x && fixF F v false x)) = compF F v G x := by
  unfold compF fixF
  cases G x <;> simp
theorem pcomp_any (F G : Nat → Bool) (v : Nat) (hv : v < 8) (w : World) (hC : Cols w) :
    Calls Tryd.prog 24 #[tab F, .int .i64 (v : Int), tab G] w fun e w' => e = .returned (tab (compF F v G)) ∧ Below w.heap.size w w' := by
  rw [← tab_ext fun x _ => comp_ite F G v x]
  exact pcompose_any F G v hv w hC
theorem pcomp_none (F G : Nat → Bool) (v : Int) (hv : v < 0 ∨ 8 ≤ v) (w : World) (hC : Cols w) :
    Calls Tryd.prog 24 #[tab F, .int .i64 v, tab G] w fun e w' => e = .returned (tab F) ∧ Below w.heap.size w w' := by
  have : tab F = tab (fun x => (G x && F x) || (!G x && F x)) := tab_ext fun x _ => by cases G x <;> simp
  rw [this]
  have h := pcompose_none F G v hv w hC
  rw [← this] at h ⊢
  exact h
end Go.Proofs.YtmfocngdobcfcabDoor
