/-
  What Fix of the reference returns.
-/
import Derived.Test.YtmfocngdobcfcabDoorRefb
namespace Go.Proofs.YtmfocngdobcfcabDoor
open Go Go.RowKit

theorem IsTab.copy {w : World} {b : Nat} {F : Nat → Bool} (h : IsTab w b F) : w.cell? ⟨b, 0, none⟩ = some (.int .u64 (word F 0 : Int)) ∧ w.cell? ⟨b, 1, none⟩ = some (.int .u64 (word F 1 : Int)) ∧ w.cell? ⟨b, 2, none⟩ = some (.int .u64 (word F 2 : Int)) ∧ w.cell? ⟨b, 3, none⟩ = some (.int .u64 (word F 3 : Int)) := ⟨h.cell (by decide), h.cell (by decide), h.cell (by decide), h.cell (by decide)⟩

/-- Four words that are a table's. -/
theorem IsTab.wordsAt {w : World} {n : Nat} (hn : w.heap.size = n) (G : Nat → Bool) {a b c d : Nat} (h0 : word G 0 = a) (h1 : word G 1 = b) (h2 : word G 2 = c) (h3 : word G 3 = d) : IsTab (w.alloc (.cells #[.int .u64 (a : Int), .int .u64 (b : Int), .int .u64 (c : Int), .int .u64 (d : Int)] 24)) n G := by
  subst h0 h1 h2 h3
  exact IsTab.newAt hn G

end Go.Proofs.YtmfocngdobcfcabDoor
