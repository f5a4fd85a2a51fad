/-
  What the reference's other functions return: the second part.
-/
import Derived.Test.YtmfocngdobcfcabDoorMore
import Derived.Test.YtmfocngdobcfcabDoorEq
namespace Go.Proofs.YtmfocngdobcfcabDoor
open Go Go.RowKit

/-- The variables on which a function hangs, up to one. -/
def supUpto (F : Nat → Bool) : Nat → Nat
  | 0 => 0
  | v + 1 => if same (fixF F v false) (fixF F v true) then supUpto F v else supUpto F v ||| 2 ^ v
theorem sup_lt (F : Nat → Bool) (v : Nat) (hv : v ≤ 8) : supUpto F v < 2 ^ 8 := by
  induction v with
  | zero => simp [supUpto]
  | succ v ih =>
    rw [supUpto]
    split
    · exact ih (by omega)
    · exact Nat.or_lt_two_pow (ih (by omega)) (Nat.pow_lt_pow_right (by decide) (by omega))

end Go.Proofs.YtmfocngdobcfcabDoor
