/-
  Package count: Eval.
-/
import Derived.Test.YtfaccdnnjkkcfaaGreatDoorCtN
import Derived.Deep.LoopGhost
namespace Go.Proofs.YtfaccdnnjkkcfaaGreatDoor
open Go Go.RowKit

section
variable {w : World} {S h : Nat} {F0 : Nat → Prop} {M : Mdl}
theorem read8 (m v : Nat) (hm : m < 256) : (bits .and .u8 ((m : Int) / 2 ^ v) 1 == 1) = m.testBit v := by rw [Rf.read_mask m v hm, Rf.M_bit]
end
end Go.Proofs.YtfaccdnnjkkcfaaGreatDoor
