/-
  What the reference's Compose, Next and Prev return.
-/
import Derived.Test.YtdmfbfbebcneeaaRfMoreb
namespace Go.Proofs.Ytdmfbfbebcneeaa.Rf
open Go Go.RowKit
theorem odd_set {w : World} {b : Nat} {f : Nat → Bool} (h : w.rowIs b 171 16 (fun i => .bool (f i))) (j : Nat) : (w.setCell ⟨b, j, none⟩ (.bool true)).rowIs b 171 16 (fun i => .bool (f i || decide (i = j))) :=
  (h.set j (.bool true)).congr fun i _ => by by_cases e : i = j <;> simp [e]

end Go.Proofs.Ytdmfbfbebcneeaa.Rf
