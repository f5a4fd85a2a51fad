/-
  Whether a table stands in a slice of tables.
-/
import Derived.Test.YtdmfbfbebcneeaaGreatRfRel
namespace Go.Proofs.YtdmfbfbebcneeaaGreat.Rf
open Go Go.RowKit

/-- A slice of tables: empty, or its cells lie one behind the other. -/
def TabsAt (w : World) (ad : Option Addr) (n : Nat) (T : Nat → Nat → Bool) : Prop :=
  n = 0 ∨ ∃ b off, ad = some ⟨b, off, none⟩ ∧ b < w.heap.size ∧ ∀ i, i < n → ∀ k, k < 4 → w.cell? ⟨b, off + i * 4 + k, none⟩ = some (.int .u64 (word (T i) k : Int))
theorem TabsAt.kept {w w' : World} {ad : Option Addr} {n : Nat} {T : Nat → Nat → Bool} (h : TabsAt w ad n T) (k : Below w.heap.size w w') : TabsAt w' ad n T := by
  rcases h with h | ⟨b, off, e, hb, hc⟩
  · exact .inl h
  · exact .inr ⟨b, off, e, Nat.lt_of_lt_of_le hb k.size, fun i hi j hj => by rw [k.cell hb]; exact hc i hi j hj⟩

theorem TabsAt.drew {w : World} {ad : Option Addr} {n : Nat} {T : Nat → Nat → Bool} (h : TabsAt w ad n T) : TabsAt w.drew ad n T := h

theorem TabsAt.get {w : World} {b off n : Nat} {T : Nat → Nat → Bool} (h : TabsAt w (some ⟨b, off, none⟩) n T) {i : Nat} (hi : i < n) : w.cell? ⟨b, off + i * 4, none⟩ = some (.int .u64 (word (T i) 0 : Int)) ∧ w.cell? ⟨b, off + i * 4 + 1, none⟩ = some (.int .u64 (word (T i) 1 : Int)) ∧ w.cell? ⟨b, off + i * 4 + 2, none⟩ = some (.int .u64 (word (T i) 2 : Int)) ∧ w.cell? ⟨b, off + i * 4 + 3, none⟩ = some (.int .u64 (word (T i) 3 : Int)) := by
  rcases h with h | ⟨b', off', e, _, hc⟩
  · omega
  · injection e with e
    injection e with e1 e2
    subst e1 e2
    exact ⟨hc i hi 0 (by decide), hc i hi 1 (by decide), hc i hi 2 (by decide), hc i hi 3 (by decide)⟩
theorem TabsAt.some {w : World} {ad : Option Addr} {n : Nat} {T : Nat → Nat → Bool} (h : TabsAt w ad n T) (hn : 0 < n) : ∃ b off, ad = .some ⟨b, off, none⟩ ∧ b < w.heap.size := by
  rcases h with h | ⟨b, off, e, hb, _⟩
  · omega
  · exact ⟨b, off, e, hb⟩

/-- Whether one of the first n is F. -/
def hasUpto (T : Nat → Nat → Bool) (F : Nat → Bool) : Nat → Bool
  | 0 => false
  | i + 1 => hasUpto T F i || same (T i) F
theorem has_of {T : Nat → Nat → Bool} {F : Nat → Bool} {i n : Nat} (hi : i < n) (h : same (T i) F = true) : hasUpto T F n = true := by
  induction n with
  | zero => omega
  | succ n ih =>
    rw [hasUpto]
    by_cases e : i = n
    · subst e; simp [h]
    · simp [ih (by omega)]

end Go.Proofs.YtdmfbfbebcneeaaGreat.Rf
