/-
  A row of handles in a block, all else as it was; what comparing and exchanging two of them does.
-/
import Derived.Test.YteickckgljlacaaGreatProg
import Derived.WalkKit
import Derived.Handy
import Derived.Carry
import Derived.Deep.OwnRows
import Derived.Deep.QuietTactic
import Derived.Deep.LoopGhost
import Derived.BigQuiet
import Derived.BigRegion
import Derived.Sort.AssemblyPlain
namespace Go.Proofs.YteickckgljlacaaGreat.Rs
open Go Go.RowKit

/-- All but the blocks of S stay as they were; there may be new ones. -/
structure Went (S : Nat → Prop) (w w' : World) : Prop where
  os : w'.os = w.os
  tape : w'.tape = w.tape
  output : w'.output = w.output
  size : w.heap.size ≤ w'.heap.size
  block : ∀ k, k < w.heap.size → ¬ S k → w'.heap[k]? = w.heap[k]?

namespace Went
variable {S S' : Nat → Prop} {a b c w w' : World}
theorem refl (S : Nat → Prop) (w : World) : Went S w w := ⟨rfl, rfl, rfl, Nat.le_refl _, fun _ _ _ => rfl⟩
theorem trans (h : Went S a b) (k : Went S b c) : Went S a c :=
  ⟨k.os.trans h.os, k.tape.trans h.tape, k.output.trans h.output, Nat.le_trans h.size k.size, fun i hi hs => (k.block i (Nat.lt_of_lt_of_le hi h.size) hs).trans (h.block i hi hs)⟩
theorem wider (h : Went S a b) (k : ∀ i, S i → S' i) : Went S' a b := ⟨h.os, h.tape, h.output, h.size, fun i hi hs => h.block i hi fun e => hs (k i e)⟩
/-- What is new to the first world may be turned. -/
theorem old (h : Went S a b) (k : ∀ i, i < a.heap.size → S i → S' i) : Went S' a b := ⟨h.os, h.tape, h.output, h.size, fun i hi hs => h.block i hi fun e => hs (k i hi e)⟩
theorem below {B : Nat} (h : Went S w w') (hB : B ≤ w.heap.size) (hS : ∀ i, S i → B ≤ i) : Below B w w' :=
  ⟨h.os, h.tape, h.output, h.size, fun k hk => h.block k (by omega) fun e => by have := hS k e; omega⟩
theorem of_below (h : Below w.heap.size w w') : Went S w w' := ⟨h.os, h.tape, h.output, h.size, fun k hk _ => h.block k hk⟩
theorem set {k o : Nat} (h : S k) (w : World) (v : Value) : Went S w (w.setCell ⟨k, o, none⟩ v) :=
  ⟨rfl, rfl, rfl, by simp [World.setCell], fun i _ hs => Below.heap_setCell _ _ _ _ fun e => hs (e ▸ h)⟩
theorem new (S : Nat → Prop) (w : World) (o : Obj) : Went S w (w.alloc o) := ⟨rfl, rfl, rfl, by simp, fun k hk _ => Below.heap_alloc _ _ _ hk⟩
theorem drew (h : Went S a b) : Went S a b.drew := ⟨h.os, h.tape, h.output, h.size, h.block⟩
theorem undrew (h : Went S a.drew b) : Went S a b := ⟨h.os, h.tape, h.output, h.size, h.block⟩
theorem drewN (h : Went S a b) (q : Nat) : Went S a (b.drewN q) := ⟨h.os, h.tape, h.output, h.size, h.block⟩
theorem undrewN {q : Nat} (h : Went S (a.drewN q) b) : Went S a b := ⟨h.os, h.tape, h.output, h.size, h.block⟩
end Went

/-- The cells of a row: the handles, then whatever lies behind. -/
def rowf (d : Array Int) (U : Nat → Value) : Nat → Value := fun i => if i < d.size then .int .u32 d[i]! else U i

/-- The block holds the handles d, behind them U; all other blocks of w0 are as they were. -/
structure Rw (w0 : World) (blk cap : Nat) (U : Nat → Value) (d : Array Int) (w : World) : Prop where
  row : w.rowIs blk 38 cap (rowf d U)
  le : d.size ≤ cap
  went : Went (fun k => k = blk) w0 w
  old : blk < w0.heap.size

section
variable {w0 w : World} {blk cap : Nat} {U : Nat → Value} {d : Array Int}
theorem Rw.cell (h : Rw w0 blk cap U d w) {i : Nat} (hi : i < d.size) : w.cell? ⟨blk, i, none⟩ = some (.int .u32 d[i]!) := by
  have := h.row.cell (i := i) (by have := h.le; omega)
  rw [this, rowf, if_pos hi]
theorem Rw.free (h : Rw w0 blk cap U d w) (i : Nat) : w.frozen? ⟨blk, i, none⟩ = false := h.row.frozen i
theorem Rw.drew (h : Rw w0 blk cap U d w) : Rw w0 blk cap U d w.drew := ⟨h.row.drew, h.le, h.went.drew, h.old⟩
theorem Rw.drewN (h : Rw w0 blk cap U d w) (q : Nat) : Rw w0 blk cap U d (w.drewN q) := ⟨h.row.of_block rfl, h.le, h.went.drewN q, h.old⟩
theorem Rw.alloc (h : Rw w0 blk cap U d w) (o : Obj) : Rw w0 blk cap U d (w.alloc o) := ⟨h.row.alloc o, h.le, h.went.trans (Went.new _ _ _), h.old⟩
theorem Rw.setNew (h : Rw w0 blk cap U d w) {b : Nat} (hb : w0.heap.size ≤ b) (o : Nat) (v : Value) : Rw w0 blk cap U d (w.setCell ⟨b, o, none⟩ v) :=
  ⟨h.row.setOther (by have := h.old; show blk ≠ b; omega) v, h.le, (h.went.wider (S' := fun k => k = blk ∨ w0.heap.size ≤ k) fun _ e => .inl e).trans (Went.set (.inr hb) w v) |>.old fun i hi e => e.elim id fun e => by omega, h.old⟩
theorem Rw.lt (h : Rw w0 blk cap U d w) : blk < w.heap.size := h.row.lt
theorem Rw.size_le (h : Rw w0 blk cap U d w) : w0.heap.size ≤ w.heap.size := h.went.size
/-- From here on. -/
theorem Rw.here (h : Rw w0 blk cap U d w) : Rw w blk cap U d w := ⟨h.row, h.le, Went.refl _ _, h.lt⟩
theorem Rw.on {w' : World} {d' : Array Int} {U' : Nat → Value} (h : Rw w0 blk cap U d w) (k : Rw w blk cap U' d' w') : Rw w0 blk cap U' d' w' := ⟨k.row, k.le, h.went.trans k.went, h.old⟩

theorem get_set (d : Array Int) (i : Nat) (v : Int) (hi : i < d.size) (k : Nat) : (d.setIfInBounds i v)[k]! = if k = i then v else d[k]! := by
  by_cases e : k = i
  · subst e
    rw [if_pos rfl, getElem!_pos _ k (by simpa using hi)]
    simp
  · rw [if_neg e]
    by_cases hk : k < d.size
    · rw [getElem!_pos _ k (by simpa using hk), getElem!_pos d k hk]
      rw [Array.getElem_setIfInBounds_ne _ (by omega)]
    · rw [getElem!_neg _ k (by simpa using hk), getElem!_neg d k hk]
theorem Rw.set (h : Rw w0 blk cap U d w) (i : Nat) (hi : i < d.size) (v : Int) : Rw w0 blk cap U (d.setIfInBounds i v) (w.setCell ⟨blk, i, none⟩ (.int .u32 v)) := by
  refine ⟨(h.row.set i _).congr fun j hj => ?_, by simpa using h.le, h.went.trans (Went.set (S := fun k => k = blk) rfl w _), h.old⟩
  unfold rowf
  simp only [Array.size_setIfInBounds, get_set d i v hi]
  by_cases e : j = i
  · subst e
    simp [hi]
  · simp [e]
theorem Rw.swp (h : Rw w0 blk cap U d w) (i j : Nat) (hi : i < d.size) (hj : j < d.size) :
    Rw w0 blk cap U (Sort.swp d i j) ((w.setCell ⟨blk, i, none⟩ (.int .u32 d[j]!)).setCell ⟨blk, j, none⟩ (.int .u32 d[i]!)) :=
  (h.set i hi d[j]!).set j (by simpa using hj) d[i]!
/-- Behind the first store the second cell is there still. -/
theorem Rw.cell2 (h : Rw w0 blk cap U d w) (i j : Nat) (hi : i < d.size) (hj : j < d.size) (v : Int) : ∃ u, (w.setCell ⟨blk, i, none⟩ (.int .u32 v)).cell? ⟨blk, j, none⟩ = some u :=
  ⟨_, (h.set i hi v).cell (by simpa using hj)⟩
end
theorem size_swp (d : Array Int) (i j : Nat) : (Sort.swp d i j).size = d.size := by simp [Sort.swp]

/-! ## Comparing -/
theorem isNaN_any (x : Int) (w : World) : Calls Tryz.prog 147 #[.int .u32 x] w fun e w' => e = .returned (.bool false) ∧ w' = w := by
  go_enter Tryz.func147, Tryz.ntmps147
  go_wp2
  go_ret
  simp
theorem less_any (x y : Int) (w : World) : Calls Tryz.prog 124 #[.int .u32 x, .int .u32 y] w fun e w' => e = .returned (.bool (Sort.ltInt x y)) ∧ w' = w := by
  have K := fun x => isNaN_any x w
  go_enter Tryz.func124, Tryz.ntmps124
  go_wp2_with (go_at_call 147; refine (K _).mono ?_; rintro e w' ⟨rfl, rfl⟩)
  go_ret
  exact ⟨rfl, rfl⟩
end Go.Proofs.YteickckgljlacaaGreat.Rs
