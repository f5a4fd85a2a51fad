/-
  What an argument that is a slice of steps gives the walk: empty, or each step's three fields cell by cell, its list's numbers too.
-/
import Derived.Test.YthpancffloplkaaView
import Derived.Deep.Slices
namespace Go.Proofs.Ythpancffloplkaa
open Go.ChangeShapes Go.WideShapes Go.ChangeAt Go.RowKit Go.Deep

theorem cells28 : Try.prog.cellsOf 28 = 3 := by kernel_rfl
theorem cells3 : Try.prog.cellsOf 3 = 1 := by kernel_rfl
theorem cells4 : Try.prog.cellsOf 4 = 1 := by kernel_rfl
theorem cells26 : Try.prog.cellsOf 26 = 1 := by kernel_rfl

theorem add_lit (b off i : Nat) : (⟨b, off, none⟩ : Addr).add i = ⟨b, off + i, none⟩ := by
  by_cases hi : i = 0
  · subst hi; rfl
  · simp [Addr.add, hi]

theorem ints_of_trod {H : Type} {enc : TypeId × Value → H} {W : World} {fuel : Nat} {v : Value} {x : DataW H × List MemPlace}
    (hf : DataW.trod enc Try.prog W 0 (fun _ => true) true fuel 26 [v] = some x) :
    ∃ (ad : Option Addr) (len cap : Nat) (Z : Nat → Int), v = .slice ad len cap ∧ IntsAt W ad len Z := by
  rcases open_ints Try.underlying26 Try.underlying3 cells3 hf with ⟨hcs, _⟩ | ⟨a, len', cap', zs, hcs, _, hl, _, hz, _, hcell, hwz⟩
  · simp at hcs
    exact ⟨none, 0, 0, fun _ => 0, hcs, .inl rfl⟩
  · simp at hcs
    rw [if_pos rfl] at hz
    by_cases h0 : len' = 0
    · exact ⟨_, len', cap', fun _ => 0, hcs, .inl h0⟩
    · have c0 := hcell 0 (by omega)
      obtain ⟨e', n', hs, _, hsp⟩ := World.shape?_of_cell? c0
      obtain ⟨b, off, sp⟩ := a
      have hsp' : sp = none := hsp
      subst hsp'
      refine ⟨_, len', cap', fun i => zs.getD i 0, hcs, .inr ⟨b, off, rfl, ?_, fun i hi => by rw [← add_lit]; exact hcell i (by omega)⟩⟩
      rw [add_lit] at c0
      cases hh : W.heap[b]? with
      | none => simp [World.cell?, hh] at c0
      | some o => exact (Array.getElem?_eq_some_iff.1 hh).1

/-- One step of the argument. -/
def StepAt (W : World) (b o : Nat) : Prop :=
  ∃ (st : Bool) (lv : Int) (ad : Option Addr) (len cap : Nat) (Z : Nat → Int), W.cell? ⟨b, o, none⟩ = some (.bool st) ∧ W.cell? ⟨b, o + 1, none⟩ = some (.int .i64 lv) ∧ W.cell? ⟨b, o + 2, none⟩ = some (.slice ad len cap) ∧ IntsAt W ad len Z

theorem view_steps {H : Type} {enc : TypeId × Value → H} {W : World} {base : Nat} {r : Reach} {v : Value} {d : DataW H} {p : List MemPlace}
    (hv : Value.okWide Try.prog W r base 22 v) (h : DataW.Trod enc Try.prog W 0 (fun _ => true) true 22 v d p) :
    ∃ (ad : Option Addr) (len cap : Nat), v = .slice ad len cap ∧ (len = 0 ∨ ∃ (b off : Nat), ad = some ⟨b, off, none⟩ ∧ b < W.heap.size ∧ ∀ i, i < len → StepAt W b (off + i * 3)) := by
  obtain ⟨ad, len, cap, rfl⟩ := okWide_slice Try.underlying22 hv
  refine ⟨ad, len, cap, rfl, ?_⟩
  obtain ⟨fuel, hf⟩ := h
  rcases open_slice Try.underlying22 hf with ⟨hcs, _⟩ | ⟨a, len', cap', m, n, D, Pl, hcs, _, hl, _, hm, _, hx⟩
  · simp [Value.cells] at hcs
    exact Or.inl hcs.2.1
  · simp [Value.cells] at hcs
    obtain ⟨rfl, rfl, rfl⟩ := hcs
    rw [if_pos rfl] at hm
    subst hm
    by_cases h0 : len = 0
    · exact Or.inl h0
    · right
      have each : ∀ i, i < len → ∃ (st : Bool) (lv : Int) (ad : Option Addr) (len cap : Nat) (Z : Nat → Int), W.cell? (a.add (i * 3 + 0)) = some (.bool st) ∧ W.cell? (a.add (i * 3 + 1)) = some (.int .i64 lv) ∧ W.cell? (a.add (i * 3 + 2)) = some (.slice ad len cap) ∧ IntsAt W ad len Z := by
        intro i hi
        obtain ⟨cs', h1, h2⟩ := hx i (by omega)
        rw [cells28] at h1
        obtain ⟨_, hlen, hcell⟩ := World.cells?_some h1
        obtain ⟨xs, k, _, _, _, hxl, hf'⟩ := DataW.trod_struct Try.underlying28 h2
        match xs, hxl, cs', hlen with
        | [y0, y1, y2], _, [v0, v1, v2], _ =>
          have g0 := hf' 0 _ rfl
          have g1 := hf' 1 _ rfl
          have g2 := hf' 2 _ rfl
          simp [cells3, cells4, cells26] at g0 g1 g2
          obtain ⟨st, e0, _⟩ := DataW.trod_bool Try.underlying4 g0
          obtain ⟨lv, e1, _, _⟩ := DataW.trod_int Try.underlying3 g1
          obtain ⟨ad2, len2, cap2, Z, e2, hI⟩ := ints_of_trod g2
          simp at e0 e1
          subst e0 e1 e2
          have k0 := hcell 0 (by omega)
          have k1 := hcell 1 (by omega)
          have k2 := hcell 2 (by omega)
          rw [add_add] at k0 k1 k2
          exact ⟨st, lv, ad2, len2, cap2, Z, k0, k1, k2, hI⟩
      obtain ⟨st0, lv0, _, _, _, _, c0, _⟩ := each 0 (by omega)
      obtain ⟨e', n', hs, _, hsp⟩ := World.shape?_of_cell? c0
      obtain ⟨b, off, sp⟩ := a
      have hsp' : sp = none := hsp
      subst hsp'
      refine ⟨b, off, rfl, ?_, fun i hi => ?_⟩
      · rw [add_lit] at c0
        cases hh : W.heap[b]? with
        | none => simp [World.cell?, hh] at c0
        | some o => exact (Array.getElem?_eq_some_iff.1 hh).1
      · obtain ⟨st, lv, ad2, len2, cap2, Z, k0, k1, k2, hI⟩ := each i hi
        rw [add_lit] at k0 k1 k2
        exact ⟨st, lv, ad2, len2, cap2, Z, k0, k1, k2, hI⟩

end Go.Proofs.Ythpancffloplkaa
