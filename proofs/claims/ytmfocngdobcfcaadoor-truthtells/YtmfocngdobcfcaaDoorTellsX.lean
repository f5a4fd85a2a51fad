/-
  The statement TruthTells, walked.
-/
import Derived.Test.YtmfocngdobcfcaaDoorKnown
import Derived.Test.YtmfocngdobcfcaaDoorRel
import Derived.Test.YtmfocngdobcfcaaDoorParts
namespace Go.Proofs.YtmfocngdobcfcaaDoor
open Go Go.RowKit

theorem same_self (F : Nat → Bool) : same F F = true := (same_iff F F).2 fun _ _ => rfl
theorem eql_tab (F : Nat → Bool) (w : World) : (binOp .eql 24 (tab F) (tab F)).run Tryd.prog w = .ok (.bool true) w := by
  show (binOp .eql 24 (.agg _) (.agg _)).run Tryd.prog w = _
  rw [run_eql_struct]
  have := equal_tab F F w
  rw [same_self] at this
  unfold tab at this
  rw [this]
  rfl
theorem guard_tab (x y : Operand) (F G : Nat → Bool) (w : World) : (eqGuard .eql 24 x y (tab F) (tab G)).run Tryd.prog w = .ok () w := run_eqGuard_agg (P := Tryd.prog) w .eql 24 x y _ _ (by kernel_rfl)

def varI (v : Int) : Nat → Bool := if 0 ≤ v ∧ v < 8 then M v.toNat else fun _ => false
def compI (F : Nat → Bool) (v : Int) (G : Nat → Bool) : Nat → Bool := if 0 ≤ v ∧ v < 8 then compF F v.toNat G else F
theorem pvar_int (v : Int) (w : World) (hC : Cols w) : Calls Tryd.prog 12 #[.int .i64 v] w fun e w' => e = .returned (tab (varI v)) ∧ Below w.heap.size w w' := by
  unfold varI
  by_cases h : 0 ≤ v ∧ v < 8
  · rw [if_pos h]
    exact pvar_at v v.toNat (by omega) (by omega) w hC
  · rw [if_neg h]
    exact pvar_none v (by omega) w
theorem var_int (v : Int) (w : World) : Calls Tryd.prog 13 #[.int .i64 v] w fun e w' => e = .returned (tab (varI v)) ∧ Below w.heap.size w w' := by
  unfold varI
  by_cases h : 0 ≤ v ∧ v < 8
  · rw [if_pos h]
    have hv : v = ((v.toNat : Nat) : Int) := by omega
    have := var_any v.toNat (by omega) w
    rw [← hv] at this
    exact this
  · rw [if_neg h]
    exact var_none v (by omega) w
theorem pcomp_int (F : Nat → Bool) (v : Int) (G : Nat → Bool) (w : World) (hC : Cols w) : Calls Tryd.prog 34 #[tab F, .int .i64 v, tab G] w fun e w' => e = .returned (tab (compI F v G)) ∧ Below w.heap.size w w' := by
  unfold compI
  by_cases h : 0 ≤ v ∧ v < 8
  · rw [if_pos h]
    exact pcomp_at F G v v.toNat (by omega) (by omega) w hC
  · rw [if_neg h]
    exact pcomp_none F G v (by omega) w hC
theorem compose_int (F : Nat → Bool) (v : Int) (G : Nat → Bool) (w : World) : Calls Tryd.prog 35 #[tab F, .int .i64 v, tab G] w fun e w' => e = .returned (tab (compI F v G)) ∧ Below w.heap.size w w' := by
  unfold compI
  by_cases h : 0 ≤ v ∧ v < 8
  · rw [if_pos h, ← tab_ext fun x _ => comp_ite F G v.toNat x]
    have hv : v = ((v.toNat : Nat) : Int) := by omega
    have := compose_any F G v.toNat (by omega) w
    rw [← hv] at this
    exact this
  · rw [if_neg h]
    exact compose_none F G v (by omega) w
theorem forall_all (F : Nat → Bool) (m : Nat) (hm : m < 256) (w : World) : Calls Tryd.prog 31 #[tab F, .int .u8 (m : Int)] w fun e w' => e = .returned (tab (allUpto F m 8)) ∧ Below w.heap.size w w' := by
  rw [tab_ext fun x _ => all_not F m 8 x]
  exact forall_any F m hm w

set_option maxRecDepth 100000 in
set_option maxHeartbeats 6400000 in
theorem tells_any (F G H : Nat → Bool) (v : Int) (b : Bool) (m n x : Nat) (hm : m < 256) (hn : n < 256) (hx : x < 256) (w : World) (hC : Cols w) (hg : Grp w) :
    Calls Tryd.prog 3 #[tab F, tab G, tab H, .int .i64 v, .bool b, .int .u8 (m : Int), .int .u8 (n : Int), .int .u8 (x : Int)] w fun e w' => e = .returned (.bool true) ∧ Below w.heap.size w w' := by
  conv in #[tab F, tab G, tab H, _, _, _, _, _] => unfold tab
  have TF := ((IsTab.new w F).alloc (.cells #[.int .u64 (word G 0 : Int), .int .u64 (word G 1 : Int), .int .u64 (word G 2 : Int), .int .u64 (word G 3 : Int)] 24)).alloc (.cells #[.int .u64 (word H 0 : Int), .int .u64 (word H 1 : Int), .int .u64 (word H 2 : Int), .int .u64 (word H 3 : Int)] 24)
  have TG := (IsTab.newAt (w := w.alloc (.cells #[.int .u64 (word F 0 : Int), .int .u64 (word F 1 : Int), .int .u64 (word F 2 : Int), .int .u64 (word F 3 : Int)] 24)) (n := w.heap.size + 1) (by simp) G).alloc (.cells #[.int .u64 (word H 0 : Int), .int .u64 (word H 1 : Int), .int .u64 (word H 2 : Int), .int .u64 (word H 3 : Int)] 24)
  have TH := IsTab.newAt (w := (w.alloc (.cells #[.int .u64 (word F 0 : Int), .int .u64 (word F 1 : Int), .int .u64 (word F 2 : Int), .int .u64 (word F 3 : Int)] 24)).alloc (.cells #[.int .u64 (word G 0 : Int), .int .u64 (word G 1 : Int), .int .u64 (word G 2 : Int), .int .u64 (word G 3 : Int)] 24)) (n := w.heap.size + 2) (by simp) H
  have B0 := (((Below.refl _ w).alloc (Nat.le_refl _) (.cells #[.int .u64 (word F 0 : Int), .int .u64 (word F 1 : Int), .int .u64 (word F 2 : Int), .int .u64 (word F 3 : Int)] 24)).alloc (by simp) (.cells #[.int .u64 (word G 0 : Int), .int .u64 (word G 1 : Int), .int .u64 (word G 2 : Int), .int .u64 (word G 3 : Int)] 24)).alloc (by simp; omega) (.cells #[.int .u64 (word H 0 : Int), .int .u64 (word H 1 : Int), .int .u64 (word H 2 : Int), .int .u64 (word H 3 : Int)] 24)
  have heql : ∀ (F : Nat → Bool) (w : World), (binOp .eql 24 (tab F) (tab F)).run Tryd.prog w = .ok (.bool true) w := eql_tab
  have hgrd : ∀ (x y : Operand) (F G : Nat → Bool) (w : World), (eqGuard .eql 24 x y (tab F) (tab G)).run Tryd.prog w = .ok () w := guard_tab
  have hFF : (F x == F x) = true := by simp
  go_enter Tryd.func3, Tryd.ntmps3
  go_wp2_with (first
    | (go_at_call 9; generalize ((w.alloc (.cells #[.int .u64 (word F 0 : Int), .int .u64 (word F 1 : Int), .int .u64 (word F 2 : Int), .int .u64 (word F 3 : Int)] 24)).alloc (.cells #[.int .u64 (word G 0 : Int), .int .u64 (word G 1 : Int), .int .u64 (word G 2 : Int), .int .u64 (word G 3 : Int)] 24)).alloc (.cells #[.int .u64 (word H 0 : Int), .int .u64 (word H 1 : Int), .int .u64 (word H 2 : Int), .int .u64 (word H 3 : Int)] 24) = w4 at TF TG TH B0 ⊢; refine (known_any _ (hC.kept B0) (hg.kept B0)).mono ?_; rintro e w5 ⟨rfl, b5⟩; have B5 := below_far B0 b5; have C5 := hC.kept B5; have TF := TF.kept b5; have TG := TG.kept b5; have TH := TH.kept b5; clear b5 B0))
  have lF0 : ∀ u, Below w5.heap.size w5 u → u.cell? ⟨w.heap.size, 0, none⟩ = some (.int .u64 (word F 0 : Int)) := fun u s => (TF.kept s).cell (by decide)
  have lF1 : ∀ u, Below w5.heap.size w5 u → u.cell? ⟨w.heap.size, 1, none⟩ = some (.int .u64 (word F 1 : Int)) := fun u s => (TF.kept s).cell (by decide)
  have lF2 : ∀ u, Below w5.heap.size w5 u → u.cell? ⟨w.heap.size, 2, none⟩ = some (.int .u64 (word F 2 : Int)) := fun u s => (TF.kept s).cell (by decide)
  have lF3 : ∀ u, Below w5.heap.size w5 u → u.cell? ⟨w.heap.size, 3, none⟩ = some (.int .u64 (word F 3 : Int)) := fun u s => (TF.kept s).cell (by decide)
  have lG0 : ∀ u, Below w5.heap.size w5 u → u.cell? ⟨w.heap.size + 1, 0, none⟩ = some (.int .u64 (word G 0 : Int)) := fun u s => (TG.kept s).cell (by decide)
  have lG1 : ∀ u, Below w5.heap.size w5 u → u.cell? ⟨w.heap.size + 1, 1, none⟩ = some (.int .u64 (word G 1 : Int)) := fun u s => (TG.kept s).cell (by decide)
  have lG2 : ∀ u, Below w5.heap.size w5 u → u.cell? ⟨w.heap.size + 1, 2, none⟩ = some (.int .u64 (word G 2 : Int)) := fun u s => (TG.kept s).cell (by decide)
  have lG3 : ∀ u, Below w5.heap.size w5 u → u.cell? ⟨w.heap.size + 1, 3, none⟩ = some (.int .u64 (word G 3 : Int)) := fun u s => (TG.kept s).cell (by decide)
  have lH0 : ∀ u, Below w5.heap.size w5 u → u.cell? ⟨w.heap.size + 2, 0, none⟩ = some (.int .u64 (word H 0 : Int)) := fun u s => (TH.kept s).cell (by decide)
  have lH1 : ∀ u, Below w5.heap.size w5 u → u.cell? ⟨w.heap.size + 2, 1, none⟩ = some (.int .u64 (word H 1 : Int)) := fun u s => (TH.kept s).cell (by decide)
  have lH2 : ∀ u, Below w5.heap.size w5 u → u.cell? ⟨w.heap.size + 2, 2, none⟩ = some (.int .u64 (word H 2 : Int)) := fun u s => (TH.kept s).cell (by decide)
  have lH3 : ∀ u, Below w5.heap.size w5 u → u.cell? ⟨w.heap.size + 2, 3, none⟩ = some (.int .u64 (word H 3 : Int)) := fun u s => (TH.kept s).cell (by decide)
  have hcu : ∀ u, Below w5.heap.size w5 u → Cols u := fun u s => C5.kept s
  simp only [List.append]
  go_region_held3 (fun u => Below w5.heap.size w5 u) (first | assumption | exact (Below.refl _ _).drew | exact below_far (by assumption) (by assumption)) (first
    | (go_at_call 10; refine (pconst_any _ _).mono ?_; rintro e w6 ⟨rfl, b6⟩)
    | (go_at_call 11; refine (const_any _ _).mono ?_; rintro e w6 ⟨rfl, b6⟩)
    | (go_at_call 12; refine (pvar_int v _ (hcu _ (by assumption))).mono ?_; rintro e w6 ⟨rfl, b6⟩)
    | (go_at_call 13; refine (var_int v _).mono ?_; rintro e w6 ⟨rfl, b6⟩)
    | (go_at_call 14; refine (pnot_any _ _).mono ?_; rintro e w6 ⟨rfl, b6⟩)
    | (go_at_call 15; refine (not_any _ _).mono ?_; rintro e w6 ⟨rfl, b6⟩)
    | (go_at_call 16; refine (pand_any _ _ _).mono ?_; rintro e w6 ⟨rfl, b6⟩)
    | (go_at_call 17; refine (and_any _ _ _).mono ?_; rintro e w6 ⟨rfl, b6⟩)
    | (go_at_call 18; refine (por_any _ _ _).mono ?_; rintro e w6 ⟨rfl, b6⟩)
    | (go_at_call 19; refine (or_any _ _ _).mono ?_; rintro e w6 ⟨rfl, b6⟩)
    | (go_at_call 20; refine (pxor_any _ _ _).mono ?_; rintro e w6 ⟨rfl, b6⟩)
    | (go_at_call 21; refine (xor_any _ _ _).mono ?_; rintro e w6 ⟨rfl, b6⟩)
    | (go_at_call 22; refine (pite_any _ _ _ _).mono ?_; rintro e w6 ⟨rfl, b6⟩)
    | (go_at_call 23; refine (ite_any _ _ _ _).mono ?_; rintro e w6 ⟨rfl, b6⟩)
    | (go_at_call 24; refine (peval_any F x hx _).mono ?_; rintro e w6 ⟨rfl, b6⟩)
    | (go_at_call 25; refine (eval_any F x hx _).mono ?_; rintro e w6 ⟨rfl, b6⟩))
  have S6 : Below w5.heap.size w5 w6 := by repeat (first | assumption | exact (Below.refl _ _).drew | refine below_far ?_ (by assumption))
  go_wp2_with fail
  simp only [List.append]
  go_region_held3 (fun u => Below w5.heap.size w5 u) (first | assumption | exact S6.drew | exact below_far (by assumption) (by assumption)) (first
    | (go_at_call 26; refine (pfix_int F v b _ (hcu _ (by assumption))).mono ?_; rintro e w7 ⟨rfl, b7⟩)
    | (go_at_call 27; refine (fix_int F v b _).mono ?_; rintro e w7 ⟨rfl, b7⟩)
    | (go_at_call 28; refine (pexists_any F m hm _ (hcu _ (by assumption))).mono ?_; rintro e w7 ⟨rfl, b7⟩)
    | (go_at_call 29; refine (exists_any F m hm _).mono ?_; rintro e w7 ⟨rfl, b7⟩)
    | (go_at_call 30; refine (pforall_any F m hm _ (hcu _ (by assumption))).mono ?_; rintro e w7 ⟨rfl, b7⟩)
    | (go_at_call 31; refine (forall_all F m hm _).mono ?_; rintro e w7 ⟨rfl, b7⟩)
    | (go_at_call 32; refine (prestrict_any F m n hm hn _ (hcu _ (by assumption))).mono ?_; rintro e w7 ⟨rfl, b7⟩)
    | (go_at_call 33; refine (restrict_any F m n hm hn _).mono ?_; rintro e w7 ⟨rfl, b7⟩)
    | (go_at_call 34; refine (pcomp_int F v G _ (hcu _ (by assumption))).mono ?_; rintro e w7 ⟨rfl, b7⟩)
    | (go_at_call 35; refine (compose_int F v G _).mono ?_; rintro e w7 ⟨rfl, b7⟩)
    | (go_at_call 36; refine (pnext_any F G _ (hcu _ (by assumption))).mono ?_; rintro e w7 ⟨rfl, b7⟩)
    | (go_at_call 37; refine (next_any F G _).mono ?_; rintro e w7 ⟨rfl, b7⟩)
    | (go_at_call 38; refine (pprev_any F G _ (hcu _ (by assumption))).mono ?_; rintro e w7 ⟨rfl, b7⟩)
    | (go_at_call 39; refine (prev_any F G _).mono ?_; rintro e w7 ⟨rfl, b7⟩))
  have S7 : Below w5.heap.size w5 w7 := by repeat (first | assumption | exact S6.drew | refine below_far ?_ (by assumption))
  go_wp2_with fail
  go_ret
  exact ⟨rfl, below_far B5 S7⟩
end Go.Proofs.YtmfocngdobcfcaaDoor
