/-
  Two tables loaded, each handed to a call, and both stored again: whatever the order.
-/
import Derived.Test.YtdmfbfbebcneeaaListed
import Derived.Test.YtdmfbfbebcneeaaMadeW
import Derived.Test.YtdmfbfbebcneeaaRfValsq
namespace Go.Proofs.Ytdmfbfbebcneeaa
open Go Go.RowKit
open Rf (tab word IsTab laid laid_turned laid_tab)

/-- What holds while the statement is under way: the first six operations leave values from slot b on, the last two store. -/
structure PG (w5 : World) (bf bg : Nat) (X Y : Nat → Bool) (b : Nat) (val : Nat → Value) (a0 : Act) (listed : Array Bool) (a : Act) (w : World) : Prop where
  size : a.tmps.size = a0.tmps.size
  defers : a.defers = a0.defers
  other : ∀ s, (s < b ∨ b + 6 ≤ s) → slot a s = slot a0 s
  vals : ∀ i, i < 6 → listed.getD i false = true → slot a (b + i) = val i
  world : ∃ wy, Below w5.heap.size w5 wy ∧ w = (if listed.getD 7 false = true then laid (laid wy bf X) bg Y else if listed.getD 6 false = true then laid wy bf X else wy)
section
variable {w5 : World} {bf bg : Nat} {X Y : Nat → Bool} {b : Nat} {val : Nat → Value} {a0 : Act} {listed : Array Bool} {a : Act} {w w' : World}
theorem getD_start (n j : Nat) : (Array.replicate n false).getD j false = false := by
  by_cases h : j < n <;> simp [h]
theorem PG.start (n : Nat) : PG w5 bf bg X Y b val a0 (Array.replicate n false) a0 w5 := by
  refine ⟨rfl, rfl, fun _ _ => rfl, fun i _ hl => ?_, w5, Below.refl _ _, ?_⟩
  · rw [getD_start] at hl; cases hl
  · rw [getD_start, getD_start]; simp
theorem PG.step (g : PG w5 bf bg X Y b val a0 listed a w) {i : Nat} (hi : i < 6) (hb : b + 6 ≤ a0.tmps.size) (n6 : listed.getD 6 false = false) (n7 : listed.getD 7 false = false) (k : Below w.heap.size w w') : PG w5 bf bg X Y b val a0 (listed.setIfInBounds i true) (a.put (some (b + i)) (val i)) w' := by
  refine ⟨by simp [Act.put, g.size], by simp [Act.put, g.defers], fun s hs => ?_, fun j hj hl => ?_, ?_⟩
  · rw [slot_put_ne _ (show @Ne Nat (b + i) s by omega)]
    exact g.other s hs
  · by_cases e : i = j
    · subst e
      exact slot_put_eq _ (show @LT.lt Nat _ (b + i) a.tmps.size by rw [g.size]; omega)
    · rw [getD_set_ne false e] at hl
      rw [slot_put_ne _ (show @Ne Nat (b + i) (b + j) by omega)]
      exact g.vals j hj hl
  · obtain ⟨wy, h1, h2⟩ := g.world
    rw [n7, n6] at h2
    simp at h2
    subst h2
    refine ⟨w', Rf.below_far h1 k, ?_⟩
    rw [getD_set_ne false (by omega), getD_set_ne false (by omega), n7, n6]
    simp
theorem PG.now (g : PG w5 bf bg X Y b val a0 listed a w) (n6 : listed.getD 6 false = false) (n7 : listed.getD 7 false = false) : Below w5.heap.size w5 w := by
  obtain ⟨wy, h1, h2⟩ := g.world
  rw [n7, n6] at h2
  simp at h2
  subst h2
  exact h1
theorem PG.store (g : PG w5 bf bg X Y b val a0 listed a w) (hn : listed.size = 8) (n6 : listed.getD 6 false = false) (n7 : listed.getD 7 false = false) : PG w5 bf bg X Y b val a0 (listed.setIfInBounds 6 true) a (laid w bf X) := by
  refine ⟨g.size, g.defers, g.other, fun j hj hl => g.vals j hj (by rwa [getD_set_ne false (by omega)] at hl), ?_⟩
  refine ⟨w, g.now n6 n7, ?_⟩
  rw [getD_set_ne false (by omega), n7]
  simp [hn]
theorem PG.store2 (g : PG w5 bf bg X Y b val a0 listed a w) (hn : listed.size = 8) (n6 : listed.getD 6 false = true) (n7 : listed.getD 7 false = false) : PG w5 bf bg X Y b val a0 (listed.setIfInBounds 7 true) a (laid w bg Y) ∧ ∃ wy, Below w5.heap.size w5 wy ∧ w = laid wy bf X := by
  obtain ⟨wy, h1, h2⟩ := g.world
  rw [n7, n6] at h2
  simp at h2
  refine ⟨⟨g.size, g.defers, g.other, fun j hj hl => g.vals j hj (by rwa [getD_set_ne false (by omega)] at hl), wy, h1, ?_⟩, wy, h1, h2⟩
  rw [h2]
  simp [hn]
end
end Go.Proofs.Ytdmfbfbebcneeaa
