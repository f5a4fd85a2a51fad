/-
  What the reference's other functions return.
-/
import Derived.Test.YtdmfbfbebcneeaaRfQuant
namespace Go.Proofs.Ytdmfbfbebcneeaa.Rf
open Go Go.RowKit
end Go.Proofs.Ytdmfbfbebcneeaa.Rf
