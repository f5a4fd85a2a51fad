/-
  A slice of small numbers with signs among the arguments.
-/
import Derived.Test.YteickckgljlacaaGreatSKeepsW
namespace Go.Proofs.YteickckgljlacaaGreat.Sw
open Go Go.RowKit

theorem wf_i8 {z : Int} (h : (Lit.int .i8 z).wf = true) : -128 ≤ z ∧ z ≤ 127 := by
  have h1 : IntKind.i8.min = -128 := rfl
  have h2 : IntKind.i8.max = 127 := rfl
  simp only [Lit.wf, Bool.and_eq_true, decide_eq_true_eq] at h
  omega
theorem i8_of {W : World} {ad : Option Addr} {len : Nat} (h : len = 0 ∨ ∃ (b off : Nat) (Z : Nat → Int), ad = some ⟨b, off, none⟩ ∧ b < W.heap.size ∧ ∀ i, i < len → W.cell? ⟨b, off + i, none⟩ = some (.int .i8 (Z i)) ∧ (Lit.int .i8 (Z i)).wf = true) : ∃ V, I8At W ad len V ∧ ∀ i, i < len → -128 ≤ V i ∧ V i ≤ 127 := by
  rcases h with h | ⟨b, off, Z, e, hb, hc⟩
  · exact ⟨fun _ => 0, .inl h, fun i hi => absurd hi (by omega)⟩
  · exact ⟨Z, .inr ⟨b, off, e, hb, fun i hi => (hc i hi).1⟩, fun i hi => wf_i8 (hc i hi).2⟩
end Go.Proofs.YteickckgljlacaaGreat.Sw
