/-
  What the reference's quantifiers and restrictions return.
-/
import Derived.Test.YtdmfbfbebcneeaaRfFixb
namespace Go.Proofs.Ytdmfbfbebcneeaa.Rf
open Go Go.RowKit

theorem below_far {a b c : World} (h : Below a.heap.size a b) (k : Below b.heap.size b c) : Below a.heap.size a c :=
  h.trans (k.mono h.size)

theorem below_undrew {w u : World} (h : Below w.drew.heap.size w.drew u) : Below w.heap.size w u := ⟨h.os, h.tape, h.output, h.size, h.block⟩

end Go.Proofs.Ytdmfbfbebcneeaa.Rf
