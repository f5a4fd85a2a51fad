/-
  What each function of the reference of tables returns.
-/
import Derived.Test.YtmfocngdobcfcabDoorProg
import Derived.Test.YtmfocngdobcfcabDoorTab
import Derived.Handy
import Derived.Deep.OwnRows
import Derived.Deep.RegionWith
import Derived.Deep.LoopGhost
import Derived.BigRegion
namespace Go.Proofs.YtmfocngdobcfcabDoor
open Go Go.RowKit

/-- A block that holds a table. -/
def IsTab (w : World) (b : Nat) (F : Nat → Bool) : Prop := w.heap[b]? = some (.cells #[.int .u64 (word F 0 : Int), .int .u64 (word F 1 : Int), .int .u64 (word F 2 : Int), .int .u64 (word F 3 : Int)] 24 (0, 0))

theorem IsTab.cell {w : World} {b : Nat} {F : Nat → Bool} (h : IsTab w b F) {k : Nat} (hk : k < 4) : w.cell? ⟨b, k, none⟩ = some (.int .u64 (word F k : Int)) := by
  unfold IsTab at h
  have : k = 0 ∨ k = 1 ∨ k = 2 ∨ k = 3 := by omega
  rcases this with rfl | rfl | rfl | rfl <;> simp [World.cell?, h]
theorem IsTab.free {w : World} {b : Nat} {F : Nat → Bool} (h : IsTab w b F) (k : Nat) : w.frozen? ⟨b, k, none⟩ = false := by
  unfold IsTab at h
  simp [World.frozen?, h]
theorem IsTab.lt {w : World} {b : Nat} {F : Nat → Bool} (h : IsTab w b F) : b < w.heap.size := (Array.getElem?_eq_some_iff.1 h).1
theorem IsTab.below {w w' : World} {b B : Nat} {F : Nat → Bool} (h : IsTab w b F) (k : Below B w w') (hb : b < B) : IsTab w' b F := (k.block b hb).trans h
theorem IsTab.drew {w : World} {b : Nat} {F : Nat → Bool} (h : IsTab w b F) : IsTab w.drew b F := h
theorem IsTab.new (w : World) (F : Nat → Bool) : IsTab (w.alloc (.cells #[.int .u64 (word F 0 : Int), .int .u64 (word F 1 : Int), .int .u64 (word F 2 : Int), .int .u64 (word F 3 : Int)] 24)) w.heap.size F := Go.Deep.blk_alloc_new _ _
theorem IsTab.alloc {w : World} {b : Nat} {F : Nat → Bool} (h : IsTab w b F) (o : Obj) : IsTab (w.alloc o) b F := (Below.heap_alloc _ _ _ h.lt).trans h
theorem IsTab.other {w : World} {b : Nat} {F : Nat → Bool} (h : IsTab w b F) {a : Addr} (ha : b ≠ a.block) (v : Value) : IsTab (w.setCell a v) b F := (Below.heap_setCell _ _ _ _ ha).trans h
theorem IsTab.ext {w : World} {b : Nat} {F G : Nat → Bool} (h : IsTab w b F) (e : ∀ x, x < 256 → F x = G x) : IsTab w b G := by
  unfold IsTab at h ⊢
  rw [h, word_ext e (show 0 < 4 by decide), word_ext e (show 1 < 4 by decide), word_ext e (show 2 < 4 by decide), word_ext e (show 3 < 4 by decide)]

theorem IsTab.set {w : World} {b : Nat} {F : Nat → Bool} (h : IsTab w b F) {k : Nat} (hk : k < 4) (G : Nat → Bool) (hG : ∀ j, j < 4 → j ≠ k → word F j = word G j) : IsTab (w.setCell ⟨b, k, none⟩ (.int .u64 (word G k : Int))) b G := by
  unfold IsTab at h ⊢
  have h4 : k = 0 ∨ k = 1 ∨ k = 2 ∨ k = 3 := by omega
  rcases h4 with rfl | rfl | rfl | rfl
  · simp [World.setCell, Array.getElem?_modify, h, hG 1 (by decide) (by decide), hG 2 (by decide) (by decide), hG 3 (by decide) (by decide)]
  · simp [World.setCell, Array.getElem?_modify, h, hG 0 (by decide) (by decide), hG 2 (by decide) (by decide), hG 3 (by decide) (by decide)]
  · simp [World.setCell, Array.getElem?_modify, h, hG 0 (by decide) (by decide), hG 1 (by decide) (by decide), hG 3 (by decide) (by decide)]
  · simp [World.setCell, Array.getElem?_modify, h, hG 0 (by decide) (by decide), hG 1 (by decide) (by decide), hG 2 (by decide) (by decide)]

/-- All blocks but one stay as they were. -/
structure Turned (b : Nat) (w w' : World) : Prop where
  os : w'.os = w.os
  tape : w'.tape = w.tape
  output : w'.output = w.output
  size : w.heap.size ≤ w'.heap.size
  block : ∀ k, k < w.heap.size → k ≠ b → w'.heap[k]? = w.heap[k]?
theorem Turned.below {b B : Nat} {w w' : World} (h : Turned b w w') (hB : B ≤ w.heap.size) (hb : B ≤ b) : Below B w w' :=
  ⟨h.os, h.tape, h.output, h.size, fun k hk => h.block k (by omega) (by omega)⟩
theorem Turned.refl (b : Nat) (w : World) : Turned b w w := ⟨rfl, rfl, rfl, Nat.le_refl _, fun _ _ _ => rfl⟩
theorem Turned.tab {b c : Nat} {w w' : World} {F : Nat → Bool} (h : Turned b w w') (k : IsTab w c F) (hc : c ≠ b) : IsTab w' c F := (h.block c k.lt hc).trans k

theorem IsTab.zero {w : World} {b : Nat} (h : w.heap[b]? = some (.cells #[.int .u64 0, .int .u64 0, .int .u64 0, .int .u64 0] 24 (0, 0))) : IsTab w b (fun _ => false) := by
  unfold IsTab
  rw [word_zero, word_zero, word_zero, word_zero]
  exact h

theorem results_cell1 {fn : Func} {p : Tmp} {ty : TypeId} (h : fn.results = #[.cell p ty]) (tmps : Array Value) (P : Program) (w : World) :
    (results fn tmps).run P w = ((asAddr (tmps.getD p undef)).run P w).andThen fun a w₁ => ((loadVar ty a).run P w₁) := by
  simp only [results, h]
  simp [Sem.run_bind, Result.andThen]

theorem results_tab {fn : Func} {p : Tmp} (h : fn.results = #[.cell p 24]) {tmps : Array Value} {w : World} {b : Nat} {F : Nat → Bool} (hp : tmps.getD p undef = .pointer (some ⟨b, 0, none⟩)) (hT : IsTab w b F) :
    (results fn tmps).run Tryd.prog w = .ok (tab F) w := by
  have c0 := hT.cell (show 0 < 4 by decide)
  have c1 := hT.cell (show 1 < 4 by decide)
  have c2 := hT.cell (show 2 < 4 by decide)
  have c3 := hT.cell (show 3 < 4 by decide)
  rw [results_cell1 h, hp]
  unfold tab
  go_simp

/-- A whole table laid into a block. -/
def laid (w : World) (b : Nat) (G : Nat → Bool) : World := (((w.setCell ⟨b, 0, none⟩ (.int .u64 (word G 0 : Int))).setCell ⟨b, 1, none⟩ (.int .u64 (word G 1 : Int))).setCell ⟨b, 2, none⟩ (.int .u64 (word G 2 : Int))).setCell ⟨b, 3, none⟩ (.int .u64 (word G 3 : Int))
theorem laid_tab {w : World} {b : Nat} {F : Nat → Bool} (h : IsTab w b F) (G : Nat → Bool) : IsTab (laid w b G) b G := by
  unfold laid IsTab at *
  simp [World.setCell, Array.getElem?_modify, h]
theorem laid_turned (w : World) (b : Nat) (G : Nat → Bool) : Turned b w (laid w b G) := by
  unfold laid
  refine ⟨rfl, rfl, rfl, by simp [World.setCell], fun k _ hk => ?_⟩
  rw [Below.heap_setCell _ _ _ _ hk, Below.heap_setCell _ _ _ _ hk, Below.heap_setCell _ _ _ _ hk, Below.heap_setCell _ _ _ _ hk]

theorem IsTab.mixed {w : World} {b k : Nat} {F G : Nat → Bool} (h : IsTab w b (mix k F G)) (hk : k < 4) : IsTab (w.setCell ⟨b, k, none⟩ (.int .u64 (word G k : Int))) b (mix (k + 1) F G) := by
  rw [← mix_next k F G]
  exact h.set hk _ (fun j _ hj => mix_else k j F G hj)

/-- A table laid new at the heap's end, and told so. -/
theorem IsTab.newAt {w : World} {n : Nat} (hn : w.heap.size = n) (F : Nat → Bool) : IsTab (w.alloc (.cells #[.int .u64 (word F 0 : Int), .int .u64 (word F 1 : Int), .int .u64 (word F 2 : Int), .int .u64 (word F 3 : Int)] 24)) n F := by
  subst hn
  exact IsTab.new w F
theorem IsTab.zeroAt {w : World} {n : Nat} (hn : w.heap.size = n) : IsTab (w.alloc (.cells #[.int .u64 0, .int .u64 0, .int .u64 0, .int .u64 0] 24)) n (fun _ => false) := by
  subst hn
  exact IsTab.zero (Go.Deep.blk_alloc_new _ _)

end Go.Proofs.YtmfocngdobcfcabDoor
