/-
  What an argument that is a slice of integers gives the walks: empty, or its numbers cell by cell. An argument that is a table.
-/
import Derived.Test.YtnnmdkaoiofabaaGreatRows
import Derived.Test.YtnnmdkaoiofabaaGreatBaseG
import Derived.ProofKit
import Derived.OpenShut
import Derived.Lib.LaidTab
import Derived.WideKeyArr2
namespace Go.Proofs.YtnnmdkaoiofabaaGreat
open Go.ChangeShapes Go.WideShapes Go.ChangeAt Go.RowKit
theorem try_own : ownKnob Tryz.prog.godebug=none:=by kernel_rfl
end Go.Proofs.YtnnmdkaoiofabaaGreat
