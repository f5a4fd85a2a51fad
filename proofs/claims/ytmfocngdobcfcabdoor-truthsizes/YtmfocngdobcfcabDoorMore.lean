/-
  What the reference's other functions return.
-/
import Derived.Test.YtmfocngdobcfcabDoorQuant
namespace Go.Proofs.YtmfocngdobcfcabDoor
open Go Go.RowKit

end Go.Proofs.YtmfocngdobcfcabDoor
