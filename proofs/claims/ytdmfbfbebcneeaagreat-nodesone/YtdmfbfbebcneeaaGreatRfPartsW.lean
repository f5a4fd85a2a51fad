/-
  Parts of the reference, walked.
-/
import Derived.Test.YtdmfbfbebcneeaaGreatRfPartsO
namespace Go.Proofs.YtdmfbfbebcneeaaGreat.Rf
open Go Go.RowKit

/-- A slot that holds no pointer beyond the heap. -/
def Old (w : World) (v : Value) : Prop := ∀ b, v = ptr b → b < w.heap.size
theorem old_undef (w : World) : Old w undef := fun b h => by simp [undef, ptr] at h
theorem old_ptr {w : World} {b : Nat} (h : b < w.heap.size) : Old w (.pointer (some ⟨b, 0, none⟩)) := fun c e => by
  have : b = c := ptr_inj e
  omega
theorem old_lt {w : World} {v : Value} {fb : Nat} {F : Nat → Bool} (h : ∀ b, v = ptr b → b < fb) (T : IsTab w fb F) : Old w v := fun b e => Nat.lt_trans (h b e) T.lt

end Go.Proofs.YtdmfbfbebcneeaaGreat.Rf
