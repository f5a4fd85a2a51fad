/-
  What each function of the reference of tables returns: the second part.
-/
import Derived.Test.YtmfocngdobcfcabDoorRef
import Derived.Deep.RegionHeld3
namespace Go.Proofs.YtmfocngdobcfcabDoor
open Go Go.RowKit

theorem IsTab.kept {w w' : World} {b : Nat} {F : Nat → Bool} (h : IsTab w b F) (k : Below w.heap.size w w') : IsTab w' b F := (k.block b h.lt).trans h

/-- What a cell holds, whatever that is. -/
def valAt (u : World) (b k : Nat) : Value := (u.cell? ⟨b, k, none⟩).getD undef

/-- Within one statement: all blocks but one are as they were when it began, and that one has room for a table. -/
structure Sit (w : World) (R : Nat) (u : World) : Prop where
  turned : Turned R w u
  room : ∃ F, IsTab u R F
theorem Sit.call {w u u' : World} {R : Nat} (k : Below u.heap.size u u') (h : Sit w R u) : Sit w R u' := by
  obtain ⟨F, hF⟩ := h.room
  refine ⟨⟨k.os.trans h.turned.os, k.tape.trans h.turned.tape, k.output.trans h.turned.output, Nat.le_trans h.turned.size k.size, fun i hi hne => ?_⟩, ⟨F, hF.kept k⟩⟩
  rw [k.block i (Nat.lt_of_lt_of_le hi h.turned.size)]
  exact h.turned.block i hi hne
theorem Sit.start {w : World} {R : Nat} {F : Nat → Bool} (h : IsTab w R F) : Sit w R w.drew := ⟨⟨rfl, rfl, rfl, Nat.le_refl _, fun _ _ _ => rfl⟩, ⟨F, h⟩⟩
theorem Sit.cell {w u : World} {R b : Nat} {F : Nat → Bool} (h : IsTab w b F) (hb : b ≠ R) {k : Nat} (hk : k < 4) (s : Sit w R u) : u.cell? ⟨b, k, none⟩ = some (.int .u64 (word F k : Int)) := (s.turned.tab h hb).cell hk
theorem Sit.place {w u : World} {R : Nat} {k : Nat} (hk : k < 4) (s : Sit w R u) : u.cell? ⟨R, k, none⟩ = some (valAt u R k) := by
  obtain ⟨F, hF⟩ := s.room
  unfold valAt
  rw [hF.cell hk]
  rfl
theorem Sit.free {w u : World} {R : Nat} (k : Nat) (s : Sit w R u) : u.frozen? ⟨R, k, none⟩ = false := by
  obtain ⟨F, hF⟩ := s.room
  exact hF.free k
theorem Sit.laid {w u : World} {R : Nat} (s : Sit w R u) (G : Nat → Bool) : Sit w R (laid u R G) := by
  obtain ⟨F, hF⟩ := s.room
  have t := laid_turned u R G
  exact ⟨⟨t.os.trans s.turned.os, t.tape.trans s.turned.tape, t.output.trans s.turned.output, Nat.le_trans s.turned.size t.size, fun i hi hne => (t.block i (Nat.lt_of_lt_of_le hi s.turned.size) hne).trans (s.turned.block i hi hne)⟩, ⟨G, laid_tab hF G⟩⟩

end Go.Proofs.YtmfocngdobcfcabDoor
