/-
  The statement TruthRels, walked.
-/
import Derived.Test.YtmfocngdobcfcabDoorKnown
namespace Go.Proofs.YtmfocngdobcfcabDoor
open Go Go.RowKit

theorem eql_of {F G : Nat → Bool} (h : ∀ x, x < 256 → F x = G x) (w : World) : (binOp .eql 24 (tab F) (tab G)).run Tryd.prog w = .ok (.bool true) w := by
  show (binOp .eql 24 (.agg _) (.agg _)).run Tryd.prog w = _
  rw [run_eql_struct]
  have := equal_tab F G w
  rw [(same_iff F G).2 h] at this
  unfold tab at this
  rw [this]
  rfl
theorem guard_tab (x y : Operand) (F G : Nat → Bool) (w : World) : (eqGuard .eql 24 x y (tab F) (tab G)).run Tryd.prog w = .ok () w := run_eqGuard_agg (P := Tryd.prog) w .eql 24 x y _ _ (by kernel_rfl)
/-- The table that is false throughout, as a literal. -/
def noTab : Value := .agg #[.int .u64 0, .int .u64 0, .int .u64 0, .int .u64 0]
theorem noTab_eq : tab (fun _ => false) = noTab := by unfold tab noTab; simp only [zero_int]

theorem next_or_states (P Q R : Nat → Bool) (x : Nat) : nextF (fun x => P x || Q x) R x = (nextF P R x || nextF Q R x) := by
  rw [Bool.eq_iff_iff, Bool.or_eq_true, next_iff, next_iff, next_iff]
  constructor
  · rintro ⟨y, hy, h1, h2, h3⟩
    rcases Bool.or_eq_true_iff.1 h1 with h | h
    · exact Or.inl ⟨y, hy, h, h2, h3⟩
    · exact Or.inr ⟨y, hy, h, h2, h3⟩
  · rintro (⟨y, hy, h1, h2, h3⟩ | ⟨y, hy, h1, h2, h3⟩)
    · exact ⟨y, hy, by simp [h1], h2, h3⟩
    · exact ⟨y, hy, by simp [h1], h2, h3⟩
theorem next_or_rel (P R T : Nat → Bool) (x : Nat) : nextF P (fun x => R x || T x) x = (nextF P R x || nextF P T x) := by
  rw [Bool.eq_iff_iff, Bool.or_eq_true, next_iff, next_iff, next_iff]
  constructor
  · rintro ⟨y, hy, h1, h2, h3⟩
    rcases Bool.or_eq_true_iff.1 h2 with h | h
    · exact Or.inl ⟨y, hy, h1, h, h3⟩
    · exact Or.inr ⟨y, hy, h1, h, h3⟩
  · rintro (⟨y, hy, h1, h2, h3⟩ | ⟨y, hy, h1, h2, h3⟩)
    · exact ⟨y, hy, h1, by simp [h2], h3⟩
    · exact ⟨y, hy, h1, by simp [h2], h3⟩
theorem prev_or_states (P Q R : Nat → Bool) (x : Nat) : prevF (fun x => P x || Q x) R x = (prevF P R x || prevF Q R x) := by
  rw [Bool.eq_iff_iff, Bool.or_eq_true, prev_iff, prev_iff, prev_iff]
  constructor
  · rintro ⟨y, hy, h1, h2, h3⟩
    rcases Bool.or_eq_true_iff.1 h3 with h | h
    · exact Or.inl ⟨y, hy, h1, h2, h⟩
    · exact Or.inr ⟨y, hy, h1, h2, h⟩
  · rintro (⟨y, hy, h1, h2, h3⟩ | ⟨y, hy, h1, h2, h3⟩)
    · exact ⟨y, hy, h1, h2, by simp [h3]⟩
    · exact ⟨y, hy, h1, h2, by simp [h3]⟩
theorem prev_or_rel (P R T : Nat → Bool) (x : Nat) : prevF P (fun x => R x || T x) x = (prevF P R x || prevF P T x) := by
  rw [Bool.eq_iff_iff, Bool.or_eq_true, prev_iff, prev_iff, prev_iff]
  constructor
  · rintro ⟨y, hy, h1, h2, h3⟩
    rcases Bool.or_eq_true_iff.1 h2 with h | h
    · exact Or.inl ⟨y, hy, h1, h, h3⟩
    · exact Or.inr ⟨y, hy, h1, h, h3⟩
  · rintro (⟨y, hy, h1, h2, h3⟩ | ⟨y, hy, h1, h2, h3⟩)
    · exact ⟨y, hy, h1, by simp [h2], h3⟩
    · exact ⟨y, hy, h1, by simp [h2], h3⟩
theorem next_none (P : Nat → Bool) (x : Nat) : nextF P (fun _ => false) x = false := by
  cases h : nextF P (fun _ => false) x with
  | false => rfl
  | true => obtain ⟨y, _, _, h2, _⟩ := (next_iff _ _ _).1 h; cases h2
theorem prev_none (R : Nat → Bool) (x : Nat) : prevF (fun _ => false) R x = false := by
  cases h : prevF (fun _ => false) R x with
  | false => rfl
  | true => obtain ⟨y, _, _, _, h2⟩ := (prev_iff _ _ _).1 h; cases h2
theorem pnext_no (P : Nat → Bool) (w : World) (hC : Cols w) : Calls Tryd.prog 15 #[tab P, noTab] w fun e w' => e = .returned (tab (fun _ => false)) ∧ Below w.heap.size w w' := by
  have h := pnext_any P (fun _ => false) w hC
  rw [tab_ext (F := nextF P fun _ => false) (G := fun _ => false) (fun x _ => next_none P x)] at h
  rw [show noTab = tab (fun _ => false) from noTab_eq.symm]
  exact h
theorem pprev_no (R : Nat → Bool) (w : World) (hC : Cols w) : Calls Tryd.prog 16 #[noTab, tab R] w fun e w' => e = .returned (tab (fun _ => false)) ∧ Below w.heap.size w w' := by
  have h := pprev_any (fun _ => false) R w hC
  rw [tab_ext (F := prevF (fun _ => false) R) (G := fun _ => false) (fun x _ => prev_none R x)] at h
  rw [show noTab = tab (fun _ => false) from noTab_eq.symm]
  exact h

set_option maxRecDepth 100000 in
set_option maxHeartbeats 6400000 in
theorem rels_any (P Q R T : Nat → Bool) (w : World) (hC : Cols w) (hg : Grp w) :
    Calls Tryd.prog 5 #[tab P, tab Q, tab R, tab T] w fun e w' => e = .returned (.bool true) ∧ Below w.heap.size w w' := by
  conv in #[tab P, tab Q, tab R, tab T] => unfold tab
  have e1 : ∀ w, (binOp .eql 24 (tab (nextF (fun x => P x || Q x) R)) (tab (fun x => nextF P R x || nextF Q R x))).run Tryd.prog w = .ok (.bool true) w := fun w => eql_of (fun x _ => next_or_states P Q R x) w
  have e2 : ∀ w, (binOp .eql 24 (tab (nextF P (fun x => R x || T x))) (tab (fun x => nextF P R x || nextF P T x))).run Tryd.prog w = .ok (.bool true) w := fun w => eql_of (fun x _ => next_or_rel P R T x) w
  have e3 : ∀ w, (binOp .eql 24 (tab (prevF (fun x => P x || Q x) R)) (tab (fun x => prevF P R x || prevF Q R x))).run Tryd.prog w = .ok (.bool true) w := fun w => eql_of (fun x _ => prev_or_states P Q R x) w
  have e4 : ∀ w, (binOp .eql 24 (tab (prevF P (fun x => R x || T x))) (tab (fun x => prevF P R x || prevF P T x))).run Tryd.prog w = .ok (.bool true) w := fun w => eql_of (fun x _ => prev_or_rel P R T x) w
  have e5 : ∀ w, (binOp .eql 24 (tab (fun _ => false)) noTab).run Tryd.prog w = .ok (.bool true) w := fun w => by rw [← noTab_eq]; exact eql_of (fun _ _ => rfl) w
  have hgrd : ∀ (x y : Operand) (F G : Nat → Bool) (w : World), (eqGuard .eql 24 x y (tab F) (tab G)).run Tryd.prog w = .ok () w := guard_tab
  have hgr2 : ∀ (x y : Operand) (F : Nat → Bool) (w : World), (eqGuard .eql 24 x y (tab F) noTab).run Tryd.prog w = .ok () w := fun x y F w => by rw [← noTab_eq]; exact guard_tab x y F _ w
  unfold noTab at e5 hgr2
  have TP := ((((IsTab.newAt (w := w) (n := w.heap.size) (by simp) P).alloc (.cells #[.int .u64 (word Q 0 : Int), .int .u64 (word Q 1 : Int), .int .u64 (word Q 2 : Int), .int .u64 (word Q 3 : Int)] 24)).alloc (.cells #[.int .u64 (word R 0 : Int), .int .u64 (word R 1 : Int), .int .u64 (word R 2 : Int), .int .u64 (word R 3 : Int)] 24)).alloc (.cells #[.int .u64 (word T 0 : Int), .int .u64 (word T 1 : Int), .int .u64 (word T 2 : Int), .int .u64 (word T 3 : Int)] 24))
  have TQ := (((IsTab.newAt (w := (w.alloc (.cells #[.int .u64 (word P 0 : Int), .int .u64 (word P 1 : Int), .int .u64 (word P 2 : Int), .int .u64 (word P 3 : Int)] 24))) (n := w.heap.size + 1) (by simp) Q).alloc (.cells #[.int .u64 (word R 0 : Int), .int .u64 (word R 1 : Int), .int .u64 (word R 2 : Int), .int .u64 (word R 3 : Int)] 24)).alloc (.cells #[.int .u64 (word T 0 : Int), .int .u64 (word T 1 : Int), .int .u64 (word T 2 : Int), .int .u64 (word T 3 : Int)] 24))
  have TR := ((IsTab.newAt (w := ((w.alloc (.cells #[.int .u64 (word P 0 : Int), .int .u64 (word P 1 : Int), .int .u64 (word P 2 : Int), .int .u64 (word P 3 : Int)] 24)).alloc (.cells #[.int .u64 (word Q 0 : Int), .int .u64 (word Q 1 : Int), .int .u64 (word Q 2 : Int), .int .u64 (word Q 3 : Int)] 24))) (n := w.heap.size + 2) (by simp) R).alloc (.cells #[.int .u64 (word T 0 : Int), .int .u64 (word T 1 : Int), .int .u64 (word T 2 : Int), .int .u64 (word T 3 : Int)] 24))
  have TT := (IsTab.newAt (w := (((w.alloc (.cells #[.int .u64 (word P 0 : Int), .int .u64 (word P 1 : Int), .int .u64 (word P 2 : Int), .int .u64 (word P 3 : Int)] 24)).alloc (.cells #[.int .u64 (word Q 0 : Int), .int .u64 (word Q 1 : Int), .int .u64 (word Q 2 : Int), .int .u64 (word Q 3 : Int)] 24)).alloc (.cells #[.int .u64 (word R 0 : Int), .int .u64 (word R 1 : Int), .int .u64 (word R 2 : Int), .int .u64 (word R 3 : Int)] 24))) (n := w.heap.size + 3) (by simp) T)
  have B0 := (((((Below.refl _ w).alloc (Nat.le_refl _) (.cells #[.int .u64 (word P 0 : Int), .int .u64 (word P 1 : Int), .int .u64 (word P 2 : Int), .int .u64 (word P 3 : Int)] 24)).alloc (by simp) (.cells #[.int .u64 (word Q 0 : Int), .int .u64 (word Q 1 : Int), .int .u64 (word Q 2 : Int), .int .u64 (word Q 3 : Int)] 24)).alloc (by simp; omega) (.cells #[.int .u64 (word R 0 : Int), .int .u64 (word R 1 : Int), .int .u64 (word R 2 : Int), .int .u64 (word R 3 : Int)] 24)).alloc (by simp; omega) (.cells #[.int .u64 (word T 0 : Int), .int .u64 (word T 1 : Int), .int .u64 (word T 2 : Int), .int .u64 (word T 3 : Int)] 24))
  go_enter Tryd.func5, Tryd.ntmps5
  go_wp2_with (first
    | (go_at_call 6; generalize ((((w.alloc (.cells #[.int .u64 (word P 0 : Int), .int .u64 (word P 1 : Int), .int .u64 (word P 2 : Int), .int .u64 (word P 3 : Int)] 24)).alloc (.cells #[.int .u64 (word Q 0 : Int), .int .u64 (word Q 1 : Int), .int .u64 (word Q 2 : Int), .int .u64 (word Q 3 : Int)] 24)).alloc (.cells #[.int .u64 (word R 0 : Int), .int .u64 (word R 1 : Int), .int .u64 (word R 2 : Int), .int .u64 (word R 3 : Int)] 24)).alloc (.cells #[.int .u64 (word T 0 : Int), .int .u64 (word T 1 : Int), .int .u64 (word T 2 : Int), .int .u64 (word T 3 : Int)] 24)) = w4 at TP TQ TR TT B0 ⊢; refine (known_any _ (hC.kept B0) (hg.kept B0)).mono ?_; rintro e w5 ⟨rfl, b5⟩; have B5 := below_far B0 b5; have C5 := hC.kept B5; have G5 := hg.kept B5; have TP := TP.kept b5; have TQ := TQ.kept b5; have TR := TR.kept b5; have TT := TT.kept b5; clear b5 B0))
  have lP0 : ∀ u, Below w5.heap.size w5 u → u.cell? ⟨w.heap.size, 0, none⟩ = some (.int .u64 (word P 0 : Int)) := fun u s => (TP.kept s).cell (by decide)
  have lP1 : ∀ u, Below w5.heap.size w5 u → u.cell? ⟨w.heap.size, 1, none⟩ = some (.int .u64 (word P 1 : Int)) := fun u s => (TP.kept s).cell (by decide)
  have lP2 : ∀ u, Below w5.heap.size w5 u → u.cell? ⟨w.heap.size, 2, none⟩ = some (.int .u64 (word P 2 : Int)) := fun u s => (TP.kept s).cell (by decide)
  have lP3 : ∀ u, Below w5.heap.size w5 u → u.cell? ⟨w.heap.size, 3, none⟩ = some (.int .u64 (word P 3 : Int)) := fun u s => (TP.kept s).cell (by decide)
  have lQ0 : ∀ u, Below w5.heap.size w5 u → u.cell? ⟨w.heap.size + 1, 0, none⟩ = some (.int .u64 (word Q 0 : Int)) := fun u s => (TQ.kept s).cell (by decide)
  have lQ1 : ∀ u, Below w5.heap.size w5 u → u.cell? ⟨w.heap.size + 1, 1, none⟩ = some (.int .u64 (word Q 1 : Int)) := fun u s => (TQ.kept s).cell (by decide)
  have lQ2 : ∀ u, Below w5.heap.size w5 u → u.cell? ⟨w.heap.size + 1, 2, none⟩ = some (.int .u64 (word Q 2 : Int)) := fun u s => (TQ.kept s).cell (by decide)
  have lQ3 : ∀ u, Below w5.heap.size w5 u → u.cell? ⟨w.heap.size + 1, 3, none⟩ = some (.int .u64 (word Q 3 : Int)) := fun u s => (TQ.kept s).cell (by decide)
  have lR0 : ∀ u, Below w5.heap.size w5 u → u.cell? ⟨w.heap.size + 2, 0, none⟩ = some (.int .u64 (word R 0 : Int)) := fun u s => (TR.kept s).cell (by decide)
  have lR1 : ∀ u, Below w5.heap.size w5 u → u.cell? ⟨w.heap.size + 2, 1, none⟩ = some (.int .u64 (word R 1 : Int)) := fun u s => (TR.kept s).cell (by decide)
  have lR2 : ∀ u, Below w5.heap.size w5 u → u.cell? ⟨w.heap.size + 2, 2, none⟩ = some (.int .u64 (word R 2 : Int)) := fun u s => (TR.kept s).cell (by decide)
  have lR3 : ∀ u, Below w5.heap.size w5 u → u.cell? ⟨w.heap.size + 2, 3, none⟩ = some (.int .u64 (word R 3 : Int)) := fun u s => (TR.kept s).cell (by decide)
  have lT0 : ∀ u, Below w5.heap.size w5 u → u.cell? ⟨w.heap.size + 3, 0, none⟩ = some (.int .u64 (word T 0 : Int)) := fun u s => (TT.kept s).cell (by decide)
  have lT1 : ∀ u, Below w5.heap.size w5 u → u.cell? ⟨w.heap.size + 3, 1, none⟩ = some (.int .u64 (word T 1 : Int)) := fun u s => (TT.kept s).cell (by decide)
  have lT2 : ∀ u, Below w5.heap.size w5 u → u.cell? ⟨w.heap.size + 3, 2, none⟩ = some (.int .u64 (word T 2 : Int)) := fun u s => (TT.kept s).cell (by decide)
  have lT3 : ∀ u, Below w5.heap.size w5 u → u.cell? ⟨w.heap.size + 3, 3, none⟩ = some (.int .u64 (word T 3 : Int)) := fun u s => (TT.kept s).cell (by decide)
  have hcu : ∀ u, Below w5.heap.size w5 u → Cols u := fun u s => C5.kept s
  have hgu : ∀ u, Below w5.heap.size w5 u → Grp u := fun u s => G5.kept s
  simp only [List.append]
  go_region_held3 (fun u => Below w5.heap.size w5 u) (first | assumption | exact (Below.refl _ _).drew | exact below_far (by assumption) (by assumption)) (first
    | (go_at_call 11; refine (por_any _ _ _).mono ?_; rintro e w6 ⟨rfl, b6⟩)
    | (go_at_call_of 15 (Value.agg #[Value.int IntKind.u64 0, Value.int IntKind.u64 0, Value.int IntKind.u64 0, Value.int IntKind.u64 0]); refine (pnext_no P _ (hcu _ (by assumption))).mono ?_; rintro e w6 ⟨rfl, b6⟩)
    | (go_at_call_of 16 (Value.agg #[Value.int IntKind.u64 0, Value.int IntKind.u64 0, Value.int IntKind.u64 0, Value.int IntKind.u64 0]); refine (pprev_no R _ (hcu _ (by assumption))).mono ?_; rintro e w6 ⟨rfl, b6⟩)
    | (go_at_call 15; refine (pnext_any _ _ _ (hcu _ (by assumption))).mono ?_; rintro e w6 ⟨rfl, b6⟩)
    | (go_at_call 16; refine (pprev_any _ _ _ (hcu _ (by assumption))).mono ?_; rintro e w6 ⟨rfl, b6⟩))
  have S6 : Below w5.heap.size w5 w6 := by repeat (first | assumption | exact (Below.refl _ _).drew | refine below_far ?_ (by assumption))
  go_wp2_with fail
  go_ret
  exact ⟨rfl, below_far B5 S6⟩
end Go.Proofs.YtmfocngdobcfcabDoor
