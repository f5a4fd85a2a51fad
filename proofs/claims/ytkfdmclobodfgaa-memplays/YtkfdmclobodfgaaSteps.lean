/-
  What an argument that is a slice of steps gives the walk: empty, or each step's four numbers cell by cell.
-/
import Derived.Test.YtkfdmclobodfgaaView
import Derived.Deep.Slices
namespace Go.Proofs.Ytkfdmclobodfgaa
open Go.ChangeShapes Go.WideShapes Go.ChangeAt Go.RowKit Go.Deep

theorem cells29 : Try.prog.cellsOf 29 = 4 := by kernel_rfl
theorem cells3 : Try.prog.cellsOf 3 = 1 := by kernel_rfl
theorem cells27 : Try.prog.cellsOf 27 = 1 := by kernel_rfl

theorem view_steps {H : Type} {enc : TypeId × Value → H} {W : World} {base : Nat} {r : Reach} {v : Value} {d : DataW H} {p : List MemPlace}
    (hv : Value.okWide Try.prog W r base 22 v) (h : DataW.Trod enc Try.prog W 0 (fun _ => true) true 22 v d p) :
    ∃ (ad : Option Addr) (len cap : Nat), v = .slice ad len cap ∧ (len = 0 ∨ ∃ (b off : Nat), ad = some ⟨b, off, none⟩ ∧ b < W.heap.size ∧ ∀ i, i < len → ∃ (t a o n : Int), W.cell? ⟨b, off + i * 4, none⟩ = some (.int .i64 t) ∧ W.cell? ⟨b, off + i * 4 + 1, none⟩ = some (.int .i64 a) ∧ W.cell? ⟨b, off + i * 4 + 2, none⟩ = some (.int .u64 o) ∧ W.cell? ⟨b, off + i * 4 + 3, none⟩ = some (.int .u64 n)) := by
  obtain ⟨ad, len, cap, rfl⟩ := okWide_slice Try.underlying22 hv
  refine ⟨ad, len, cap, rfl, ?_⟩
  obtain ⟨fuel, hf⟩ := h
  rcases open_slice Try.underlying22 hf with ⟨hcs, _⟩ | ⟨a, len', cap', m, n, D, Pl, hcs, _, hl, _, hm, _, hx⟩
  · simp [Value.cells] at hcs
    exact Or.inl hcs.2.1
  · simp [Value.cells] at hcs
    obtain ⟨rfl, rfl, rfl⟩ := hcs
    rw [if_pos rfl] at hm
    subst hm
    by_cases h0 : len = 0
    · exact Or.inl h0
    · right
      have each : ∀ i, i < len → ∃ (t a' o n : Int), W.cell? (a.add (i * 4 + 0)) = some (.int .i64 t) ∧ W.cell? (a.add (i * 4 + 1)) = some (.int .i64 a') ∧ W.cell? (a.add (i * 4 + 2)) = some (.int .u64 o) ∧ W.cell? (a.add (i * 4 + 3)) = some (.int .u64 n) := by
        intro i hi
        obtain ⟨cs', h1, h2⟩ := hx i (by omega)
        rw [cells29] at h1
        obtain ⟨_, hlen, hcell⟩ := World.cells?_some h1
        obtain ⟨xs, k, _, _, _, hxl, hf'⟩ := DataW.trod_struct Try.underlying29 h2
        match xs, hxl, cs', hlen with
        | [y0, y1, y2, y3], _, [v0, v1, v2, v3], _ =>
          have g0 := hf' 0 _ rfl
          have g1 := hf' 1 _ rfl
          have g2 := hf' 2 _ rfl
          have g3 := hf' 3 _ rfl
          simp [cells3, cells27] at g0 g1 g2 g3
          obtain ⟨t, e0, _, _⟩ := DataW.trod_int Try.underlying3 g0
          obtain ⟨a', e1, _, _⟩ := DataW.trod_int Try.underlying3 g1
          obtain ⟨o, e2, _, _⟩ := DataW.trod_int Try.underlying27 g2
          obtain ⟨n', e3, _, _⟩ := DataW.trod_int Try.underlying27 g3
          simp at e0 e1 e2 e3
          subst e0 e1 e2 e3
          have k0 := hcell 0 (by omega)
          have k1 := hcell 1 (by omega)
          have k2 := hcell 2 (by omega)
          have k3 := hcell 3 (by omega)
          rw [add_add] at k0 k1 k2 k3
          exact ⟨t, a', o, n', k0, k1, k2, k3⟩
      obtain ⟨t0, a0, o0, n0, c0, _⟩ := each 0 (by omega)
      obtain ⟨e', n', hs, _, hsp⟩ := World.shape?_of_cell? c0
      obtain ⟨b, off, sp⟩ := a
      have hsp' : sp = none := hsp
      subst hsp'
      have hadd : ∀ i, (⟨b, off, none⟩ : Addr).add i = ⟨b, off + i, none⟩ := fun i => by
        by_cases hi : i = 0
        · subst hi; rfl
        · simp [Addr.add, hi]
      refine ⟨b, off, rfl, ?_, fun i hi => ?_⟩
      · rw [hadd] at c0
        cases hh : W.heap[b]? with
        | none => simp [World.cell?, hh] at c0
        | some o => exact (Array.getElem?_eq_some_iff.1 hh).1
      · obtain ⟨t, a', o, n', k0, k1, k2, k3⟩ := each i hi
        rw [hadd] at k0 k1 k2 k3
        exact ⟨t, a', o, n', k0, k1, k2, k3⟩

end Go.Proofs.Ytkfdmclobodfgaa
