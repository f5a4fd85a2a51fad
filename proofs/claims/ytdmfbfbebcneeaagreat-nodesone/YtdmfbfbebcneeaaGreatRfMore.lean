/-
  What the reference's other functions return.
-/
import Derived.Test.YtdmfbfbebcneeaaGreatRfQuant
namespace Go.Proofs.YtdmfbfbebcneeaaGreat.Rf
open Go Go.RowKit
end Go.Proofs.YtdmfbfbebcneeaaGreat.Rf
