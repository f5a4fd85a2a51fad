/-
  What each function of the reference of tables returns: the second part.
-/
import Derived.Test.YtdmfbfbebcneeaaRfRef
import Derived.Deep.RegionHeld3
namespace Go.Proofs.Ytdmfbfbebcneeaa.Rf
open Go Go.RowKit

theorem IsTab.kept {w w' : World} {b : Nat} {F : Nat → Bool} (h : IsTab w b F) (k : Below w.heap.size w w') : IsTab w' b F := (k.block b h.lt).trans h

/-- What a cell holds, whatever that is. -/
def valAt (u : World) (b k : Nat) : Value := (u.cell? ⟨b, k, none⟩).getD undef

/-- Within one statement: all blocks but one are as they were when it began, and that one has room for a table. -/
structure Sit (w : World) (R : Nat) (u : World) : Prop where
  turned : Turned R w u
  room : ∃ F, IsTab u R F
theorem Sit.call {w u u' : World} {R : Nat} (k : Below u.heap.size u u') (h : Sit w R u) : Sit w R u' := by
  obtain ⟨F, hF⟩ := h.room
  refine ⟨⟨k.os.trans h.turned.os, k.tape.trans h.turned.tape, k.output.trans h.turned.output, Nat.le_trans h.turned.size k.size, fun i hi hne => ?_⟩, ⟨F, hF.kept k⟩⟩
  rw [k.block i (Nat.lt_of_lt_of_le hi h.turned.size)]
  exact h.turned.block i hi hne
theorem Sit.start {w : World} {R : Nat} {F : Nat → Bool} (h : IsTab w R F) : Sit w R w.drew := ⟨⟨rfl, rfl, rfl, Nat.le_refl _, fun _ _ _ => rfl⟩, ⟨F, h⟩⟩
theorem Sit.cell {w u : World} {R b : Nat} {F : Nat → Bool} (h : IsTab w b F) (hb : b ≠ R) {k : Nat} (hk : k < 4) (s : Sit w R u) : u.cell? ⟨b, k, none⟩ = some (.int .u64 (word F k : Int)) := (s.turned.tab h hb).cell hk
theorem Sit.place {w u : World} {R : Nat} {k : Nat} (hk : k < 4) (s : Sit w R u) : u.cell? ⟨R, k, none⟩ = some (valAt u R k) := by
  obtain ⟨F, hF⟩ := s.room
  unfold valAt
  rw [hF.cell hk]
  rfl
theorem Sit.free {w u : World} {R : Nat} (k : Nat) (s : Sit w R u) : u.frozen? ⟨R, k, none⟩ = false := by
  obtain ⟨F, hF⟩ := s.room
  exact hF.free k
theorem Sit.laid {w u : World} {R : Nat} (s : Sit w R u) (G : Nat → Bool) : Sit w R (laid u R G) := by
  obtain ⟨F, hF⟩ := s.room
  have t := laid_turned u R G
  exact ⟨⟨t.os.trans s.turned.os, t.tape.trans s.turned.tape, t.output.trans s.turned.output, Nat.le_trans s.turned.size t.size, fun i hi hne => (t.block i (Nat.lt_of_lt_of_le hi s.turned.size) hne).trans (s.turned.block i hi hne)⟩, ⟨G, laid_tab hF G⟩⟩

theorem ite_any (F G H : Nat → Bool) (w : World) :
    Calls Try.prog 70 #[tab F, tab G, tab H] w fun e w' => e = .returned (tab (fun x => (F x && G x) || (!F x && H x))) ∧ Below w.heap.size w w' := by
  conv in #[tab F, tab G, tab H] => unfold tab
  go_enter Try.func70, Try.ntmps70
  go_wp2_with fail
  have B0 := ((((Below.refl _ w).alloc (Nat.le_refl _) (.cells #[.int .u64 (word F 0 : Int), .int .u64 (word F 1 : Int), .int .u64 (word F 2 : Int), .int .u64 (word F 3 : Int)] 46)).alloc (by simp) (.cells #[.int .u64 (word G 0 : Int), .int .u64 (word G 1 : Int), .int .u64 (word G 2 : Int), .int .u64 (word G 3 : Int)] 46)).alloc (by simp; omega) (.cells #[.int .u64 (word H 0 : Int), .int .u64 (word H 1 : Int), .int .u64 (word H 2 : Int), .int .u64 (word H 3 : Int)] 46)).alloc (by simp; omega) (.cells #[.int .u64 0, .int .u64 0, .int .u64 0, .int .u64 0] 46)
  have TF := (((IsTab.new w F).alloc (.cells #[.int .u64 (word G 0 : Int), .int .u64 (word G 1 : Int), .int .u64 (word G 2 : Int), .int .u64 (word G 3 : Int)] 46)).alloc (.cells #[.int .u64 (word H 0 : Int), .int .u64 (word H 1 : Int), .int .u64 (word H 2 : Int), .int .u64 (word H 3 : Int)] 46)).alloc (.cells #[.int .u64 0, .int .u64 0, .int .u64 0, .int .u64 0] 46)
  have TG := ((IsTab.newAt (w := w.alloc (.cells #[.int .u64 (word F 0 : Int), .int .u64 (word F 1 : Int), .int .u64 (word F 2 : Int), .int .u64 (word F 3 : Int)] 46)) (n := w.heap.size + 1) (by simp) G).alloc (.cells #[.int .u64 (word H 0 : Int), .int .u64 (word H 1 : Int), .int .u64 (word H 2 : Int), .int .u64 (word H 3 : Int)] 46)).alloc (.cells #[.int .u64 0, .int .u64 0, .int .u64 0, .int .u64 0] 46)
  have TH := (IsTab.newAt (w := (w.alloc (.cells #[.int .u64 (word F 0 : Int), .int .u64 (word F 1 : Int), .int .u64 (word F 2 : Int), .int .u64 (word F 3 : Int)] 46)).alloc (.cells #[.int .u64 (word G 0 : Int), .int .u64 (word G 1 : Int), .int .u64 (word G 2 : Int), .int .u64 (word G 3 : Int)] 46)) (n := w.heap.size + 2) (by simp) H).alloc (.cells #[.int .u64 0, .int .u64 0, .int .u64 0, .int .u64 0] 46)
  have TZ := IsTab.zeroAt (w := ((w.alloc (.cells #[.int .u64 (word F 0 : Int), .int .u64 (word F 1 : Int), .int .u64 (word F 2 : Int), .int .u64 (word F 3 : Int)] 46)).alloc (.cells #[.int .u64 (word G 0 : Int), .int .u64 (word G 1 : Int), .int .u64 (word G 2 : Int), .int .u64 (word G 3 : Int)] 46)).alloc (.cells #[.int .u64 (word H 0 : Int), .int .u64 (word H 1 : Int), .int .u64 (word H 2 : Int), .int .u64 (word H 3 : Int)] 46)) (n := w.heap.size + 3) (by simp)
  generalize (((w.alloc (.cells #[.int .u64 (word F 0 : Int), .int .u64 (word F 1 : Int), .int .u64 (word F 2 : Int), .int .u64 (word F 3 : Int)] 46)).alloc (.cells #[.int .u64 (word G 0 : Int), .int .u64 (word G 1 : Int), .int .u64 (word G 2 : Int), .int .u64 (word G 3 : Int)] 46)).alloc (.cells #[.int .u64 (word H 0 : Int), .int .u64 (word H 1 : Int), .int .u64 (word H 2 : Int), .int .u64 (word H 3 : Int)] 46)).alloc (.cells #[.int .u64 0, .int .u64 0, .int .u64 0, .int .u64 0] 46) = w4 at B0 TF TG TH TZ ⊢
  have l0 : ∀ u, Sit w4 (w.heap.size + 3) u → u.cell? ⟨w.heap.size, 0, none⟩ = some (.int .u64 (word F 0 : Int)) := fun u s => s.cell TF (by omega) (by decide)
  have l1 : ∀ u, Sit w4 (w.heap.size + 3) u → u.cell? ⟨w.heap.size, 1, none⟩ = some (.int .u64 (word F 1 : Int)) := fun u s => s.cell TF (by omega) (by decide)
  have l2 : ∀ u, Sit w4 (w.heap.size + 3) u → u.cell? ⟨w.heap.size, 2, none⟩ = some (.int .u64 (word F 2 : Int)) := fun u s => s.cell TF (by omega) (by decide)
  have l3 : ∀ u, Sit w4 (w.heap.size + 3) u → u.cell? ⟨w.heap.size, 3, none⟩ = some (.int .u64 (word F 3 : Int)) := fun u s => s.cell TF (by omega) (by decide)
  have m0 : ∀ u, Sit w4 (w.heap.size + 3) u → u.cell? ⟨w.heap.size + 1, 0, none⟩ = some (.int .u64 (word G 0 : Int)) := fun u s => s.cell TG (by omega) (by decide)
  have m1 : ∀ u, Sit w4 (w.heap.size + 3) u → u.cell? ⟨w.heap.size + 1, 1, none⟩ = some (.int .u64 (word G 1 : Int)) := fun u s => s.cell TG (by omega) (by decide)
  have m2 : ∀ u, Sit w4 (w.heap.size + 3) u → u.cell? ⟨w.heap.size + 1, 2, none⟩ = some (.int .u64 (word G 2 : Int)) := fun u s => s.cell TG (by omega) (by decide)
  have m3 : ∀ u, Sit w4 (w.heap.size + 3) u → u.cell? ⟨w.heap.size + 1, 3, none⟩ = some (.int .u64 (word G 3 : Int)) := fun u s => s.cell TG (by omega) (by decide)
  have n0 : ∀ u, Sit w4 (w.heap.size + 3) u → u.cell? ⟨w.heap.size + 2, 0, none⟩ = some (.int .u64 (word H 0 : Int)) := fun u s => s.cell TH (by omega) (by decide)
  have n1 : ∀ u, Sit w4 (w.heap.size + 3) u → u.cell? ⟨w.heap.size + 2, 1, none⟩ = some (.int .u64 (word H 1 : Int)) := fun u s => s.cell TH (by omega) (by decide)
  have n2 : ∀ u, Sit w4 (w.heap.size + 3) u → u.cell? ⟨w.heap.size + 2, 2, none⟩ = some (.int .u64 (word H 2 : Int)) := fun u s => s.cell TH (by omega) (by decide)
  have n3 : ∀ u, Sit w4 (w.heap.size + 3) u → u.cell? ⟨w.heap.size + 2, 3, none⟩ = some (.int .u64 (word H 3 : Int)) := fun u s => s.cell TH (by omega) (by decide)
  have r0 : ∀ u, Sit w4 (w.heap.size + 3) u → u.cell? ⟨w.heap.size + 3, 0, none⟩ = some (valAt u (w.heap.size + 3) 0) := fun u s => s.place (by decide)
  have r1 : ∀ u, Sit w4 (w.heap.size + 3) u → u.cell? ⟨w.heap.size + 3, 1, none⟩ = some (valAt u (w.heap.size + 3) 1) := fun u s => s.place (by decide)
  have r2 : ∀ u, Sit w4 (w.heap.size + 3) u → u.cell? ⟨w.heap.size + 3, 2, none⟩ = some (valAt u (w.heap.size + 3) 2) := fun u s => s.place (by decide)
  have r3 : ∀ u, Sit w4 (w.heap.size + 3) u → u.cell? ⟨w.heap.size + 3, 3, none⟩ = some (valAt u (w.heap.size + 3) 3) := fun u s => s.place (by decide)
  have rf : ∀ k u, Sit w4 (w.heap.size + 3) u → u.frozen? ⟨w.heap.size + 3, k, none⟩ = false := fun k u s => s.free k
  go_region_held3 (fun u => Sit w4 (w.heap.size + 3) u) (first | exact Sit.start TZ | exact Sit.call (by assumption) (by assumption) | exact Sit.laid (by assumption) _) (first
    | (go_at_call 83; refine (and_any _ _ _).mono ?_; rintro e w6 ⟨rfl, b6⟩)
    | (go_at_call 69; refine (not_any _ _).mono ?_; rintro e w6 ⟨rfl, b6⟩)
    | (go_at_call 82; refine (or_any _ _ _).mono ?_; unfold tab; rintro e w6 ⟨rfl, b6⟩))
  have S6 : Sit w4 (w.heap.size + 3) w6 := Sit.call b6 (Sit.call (by assumption) (Sit.call (by assumption) (Sit.call (by assumption) (Sit.start TZ))))
  obtain ⟨F', hF'⟩ := S6.room
  go_wp2_with fail
  exact bodyPost_ret (results_tab rfl rfl (laid_tab hF' _)) rfl ⟨rfl, B0.trans ((S6.laid _).turned.below B0.size (by omega))⟩
end Go.Proofs.Ytdmfbfbebcneeaa.Rf
