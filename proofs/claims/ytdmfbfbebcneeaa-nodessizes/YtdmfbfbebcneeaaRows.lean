/-
  No cell of these rows narrows 'for every input' (looked for: loops, veiled, ifaces, maps, wideKeys, modest, calm, conditions, laid).
  DERIVED. THE GIVEN ROWS OF THIS SEAT. 5 by the template 'for every input the law returns true; each argument reads behind the call as it read before'; 0 by the template 'total and deterministic' (their statements: YtdmfbfbebcneeaaTotals.lean).
  GIVEN WITH THE SEED: the statements are not yours to turn. If you find one false, say at which input.
  Laid BY PROGRAM, IN A SANDBOX (cutbox-rows.mjs): the forced cells as the released guide's own fill.sh prints them over the translation 9306045c71b514b9… (all of the seat's roots in one cut). By AI agents, Wed Nov 11 2026. No macro, syntax, notation, axiom, sorry.
-/
import Derived.Test.YtdmfbfbebcneeaaChecked
import GoSem.Claim
import GoSem.ClaimJoined
import GoSem.ClaimMapViews
import Derived.JoinedTies
import Derived.KernelRfl
namespace Go.Proofs.Ytdmfbfbebcneeaa
/- THE CELL 'sum', in the pinned program and in every row, IS THE sha256 OF THE DUMP (.gsa) THAT YtdmfbfbebcneeaaProg.lean LOADS. Nothing in Lean hashes anything: it is a label: what it is worth is what the hold of that sum in a sandbox is worth. -/
noncomputable def Try.pinned : Pinned := { name := "ytdmfbfbebcneeaa", sum := "9306045c71b514b9eaf6f6aa70eef123b3f09f8f7d3ef3292b5fa86dd5c6bf0c", checked := Try.checked }
namespace Rows
def none {H : Type} : Left H := { results := [], args := [] }

/-- 'spinneylaw10.NodesPlay': WHATEVER THE INPUT: true; the input reads as it did. -/
def nodesPlaySpec : ChangeSpec := { name := "nodesPlay", fn := fun _ => fun
  | [d1, d2, d3] => { results := [.lit (.bool true)], args := [d1, d2, d3] }
  | _ => none }
def nodesPlayRow : OpenClaim := { program := "ytdmfbfbebcneeaa", sum := "9306045c71b514b9eaf6f6aa70eef123b3f09f8f7d3ef3292b5fa86dd5c6bf0c", func := "spinney/spinneylaw10.NodesPlay", spec := "nodesPlay", inPlace := ["sync/atomic.AddInt64", "sync/atomic.LoadUint64", "sync/atomic.CompareAndSwapUint64", "sync/atomic.StoreUint64"], unfollowed := true, recurses := true, apart := false }
def NodesPlaySaid : Prop := nodesPlayRow.holds Try.pinned (OpenSpec.ofChange nodesPlaySpec)

/-- ITS FALSE NEIGHBOUR: 'it returns false'. Refute it at one input. -/
def nodesPlayWrong : ChangeSpec := { name := "nodesPlay", fn := fun _ => fun
  | [d1, d2, d3] => { results := [.lit (.bool false)], args := [d1, d2, d3] }
  | _ => none }
def NodesPlayWrongFalsely : Prop := nodesPlayRow.holds Try.pinned (OpenSpec.ofChange nodesPlayWrong)

/-- 'spinneylaw10.NodesSizes': WHATEVER THE INPUT: true; the input reads as it did. -/
def nodesSizesSpec : ChangeSpec := { name := "nodesSizes", fn := fun _ => fun
  | [d1, d2, d3] => { results := [.lit (.bool true)], args := [d1, d2, d3] }
  | _ => none }
def nodesSizesRow : OpenClaim := { program := "ytdmfbfbebcneeaa", sum := "9306045c71b514b9eaf6f6aa70eef123b3f09f8f7d3ef3292b5fa86dd5c6bf0c", func := "spinney/spinneylaw10.NodesSizes", spec := "nodesSizes", inPlace := ["sync/atomic.AddInt64", "sync/atomic.LoadUint64", "sync/atomic.CompareAndSwapUint64", "sync/atomic.StoreUint64"], unfollowed := true, recurses := true, apart := false }
def NodesSizesSaid : Prop := nodesSizesRow.holds Try.pinned (OpenSpec.ofChange nodesSizesSpec)

/-- ITS FALSE NEIGHBOUR: 'it returns false'. Refute it at one input. -/
def nodesSizesWrong : ChangeSpec := { name := "nodesSizes", fn := fun _ => fun
  | [d1, d2, d3] => { results := [.lit (.bool false)], args := [d1, d2, d3] }
  | _ => none }
def NodesSizesWrongFalsely : Prop := nodesSizesRow.holds Try.pinned (OpenSpec.ofChange nodesSizesWrong)

/-- 'spinneylaw10.NodesRoom': WHATEVER THE INPUT: true; the input reads as it did. -/
def nodesRoomSpec : ChangeSpec := { name := "nodesRoom", fn := fun _ => fun
  | [d1, d2] => { results := [.lit (.bool true)], args := [d1, d2] }
  | _ => none }
def nodesRoomRow : OpenClaim := { program := "ytdmfbfbebcneeaa", sum := "9306045c71b514b9eaf6f6aa70eef123b3f09f8f7d3ef3292b5fa86dd5c6bf0c", func := "spinney/spinneylaw10.NodesRoom", spec := "nodesRoom", inPlace := ["sync/atomic.AddInt64", "sync/atomic.LoadUint64", "sync/atomic.CompareAndSwapUint64", "sync/atomic.StoreUint64"], unfollowed := true, recurses := true, apart := false }
def NodesRoomSaid : Prop := nodesRoomRow.holds Try.pinned (OpenSpec.ofChange nodesRoomSpec)

/-- ITS FALSE NEIGHBOUR: 'it returns false'. Refute it at one input. -/
def nodesRoomWrong : ChangeSpec := { name := "nodesRoom", fn := fun _ => fun
  | [d1, d2] => { results := [.lit (.bool false)], args := [d1, d2] }
  | _ => none }
def NodesRoomWrongFalsely : Prop := nodesRoomRow.holds Try.pinned (OpenSpec.ofChange nodesRoomWrong)

/-- 'spinneylaw10.NodesLevels': WHATEVER THE INPUT: true; the input reads as it did. -/
def nodesLevelsSpec : ChangeSpec := { name := "nodesLevels", fn := fun _ => fun
  | [d1, d2] => { results := [.lit (.bool true)], args := [d1, d2] }
  | _ => none }
def nodesLevelsRow : OpenClaim := { program := "ytdmfbfbebcneeaa", sum := "9306045c71b514b9eaf6f6aa70eef123b3f09f8f7d3ef3292b5fa86dd5c6bf0c", func := "spinney/spinneylaw10.NodesLevels", spec := "nodesLevels", inPlace := ["sync/atomic.AddInt64", "sync/atomic.LoadUint64", "sync/atomic.CompareAndSwapUint64", "sync/atomic.StoreUint64"], unfollowed := true, recurses := true, apart := false }
def NodesLevelsSaid : Prop := nodesLevelsRow.holds Try.pinned (OpenSpec.ofChange nodesLevelsSpec)

/-- ITS FALSE NEIGHBOUR: 'it returns false'. Refute it at one input. -/
def nodesLevelsWrong : ChangeSpec := { name := "nodesLevels", fn := fun _ => fun
  | [d1, d2] => { results := [.lit (.bool false)], args := [d1, d2] }
  | _ => none }
def NodesLevelsWrongFalsely : Prop := nodesLevelsRow.holds Try.pinned (OpenSpec.ofChange nodesLevelsWrong)

/-- 'spinneylaw10.NodesOrder': WHATEVER THE INPUT: true; the input reads as it did. -/
def nodesOrderSpec : ChangeSpec := { name := "nodesOrder", fn := fun _ => fun
  | [d1, d2] => { results := [.lit (.bool true)], args := [d1, d2] }
  | _ => none }
def nodesOrderRow : OpenClaim := { program := "ytdmfbfbebcneeaa", sum := "9306045c71b514b9eaf6f6aa70eef123b3f09f8f7d3ef3292b5fa86dd5c6bf0c", func := "spinney/spinneylaw10.NodesOrder", spec := "nodesOrder", inPlace := ["sync/atomic.AddInt64", "sync/atomic.LoadUint64", "sync/atomic.CompareAndSwapUint64", "sync/atomic.StoreUint64"], unfollowed := true, recurses := true, apart := false }
def NodesOrderSaid : Prop := nodesOrderRow.holds Try.pinned (OpenSpec.ofChange nodesOrderSpec)

/-- ITS FALSE NEIGHBOUR: 'it returns false'. Refute it at one input. -/
def nodesOrderWrong : ChangeSpec := { name := "nodesOrder", fn := fun _ => fun
  | [d1, d2] => { results := [.lit (.bool false)], args := [d1, d2] }
  | _ => none }
def NodesOrderWrongFalsely : Prop := nodesOrderRow.holds Try.pinned (OpenSpec.ofChange nodesOrderWrong)

/- THE SECOND FORM. 'bulk': how many values and letters a reading holds, each counted each time it is reached (what is shared counts as often as it is met; a slice's spare places count too). A statement '..UptoSaid' is the law's where the arguments, and the package variables that the reading takes, are together of bulk at most 1048576: NARROWER than '..Said'. Prove '..Said' where nothing that the law and all that it calls make is longer than what came in: it says more and counts as full. Else prove '..UptoSaid'. A law counts once. -/
mutual
def uptoBulk {H : Type} : DataW H → Nat
  | .lit (.string bytes) => bytes.length + 1
  | .lit _ => 1
  | .nil => 1
  | .ptr d => uptoBulk d + 1
  | .slice elems spare => uptoBulkAll elems + uptoBulkAll spare + 1
  | .agg parts => uptoBulkAll parts + 1
  | .iface _ d => uptoBulk d + 1
  | .map entries => uptoBulkEntries entries + 1
  | .held _ => 1
def uptoBulkAll {H : Type} : List (DataW H) → Nat
  | [] => 0
  | d :: r => uptoBulk d + uptoBulkAll r
def uptoBulkEntries {H : Type} : List (Lit × DataW H) → Nat
  | [] => 0
  | x :: r => uptoBulkEntry x + uptoBulkEntries r
def uptoBulkEntry {H : Type} : Lit × DataW H → Nat
  | (.string bytes, d) => bytes.length + uptoBulk d + 1
  | (_, d) => uptoBulk d + 1
 end
def uptoSmall : (H : Type) → List (DataW H) → Bool := fun _ ds => decide (uptoBulkAll ds ≤ 1048576)
def OpenSpec.upto (s : _root_.Go.ChangeSpec) : _root_.Go.OpenSpec := { _root_.Go.OpenSpec.ofChange s with cond := some uptoSmall }

/-- 'spinneylaw10.NodesPlay', WHERE WHAT IT READS IS OF BULK AT MOST 1048576: true; the input reads as it did. -/
def nodesPlayUptoRow : OpenClaim := { program := "ytdmfbfbebcneeaa", sum := "9306045c71b514b9eaf6f6aa70eef123b3f09f8f7d3ef3292b5fa86dd5c6bf0c", func := "spinney/spinneylaw10.NodesPlay", spec := "nodesPlay", inPlace := ["sync/atomic.AddInt64", "sync/atomic.LoadUint64", "sync/atomic.CompareAndSwapUint64", "sync/atomic.StoreUint64"], unfollowed := true, recurses := true, apart := false, narrowed := true }
def NodesPlayUptoSaid : Prop := nodesPlayUptoRow.holds Try.pinned (OpenSpec.upto nodesPlaySpec)

/-- 'spinneylaw10.NodesSizes', WHERE WHAT IT READS IS OF BULK AT MOST 1048576: true; the input reads as it did. -/
def nodesSizesUptoRow : OpenClaim := { program := "ytdmfbfbebcneeaa", sum := "9306045c71b514b9eaf6f6aa70eef123b3f09f8f7d3ef3292b5fa86dd5c6bf0c", func := "spinney/spinneylaw10.NodesSizes", spec := "nodesSizes", inPlace := ["sync/atomic.AddInt64", "sync/atomic.LoadUint64", "sync/atomic.CompareAndSwapUint64", "sync/atomic.StoreUint64"], unfollowed := true, recurses := true, apart := false, narrowed := true }
def NodesSizesUptoSaid : Prop := nodesSizesUptoRow.holds Try.pinned (OpenSpec.upto nodesSizesSpec)

/-- 'spinneylaw10.NodesRoom', WHERE WHAT IT READS IS OF BULK AT MOST 1048576: true; the input reads as it did. -/
def nodesRoomUptoRow : OpenClaim := { program := "ytdmfbfbebcneeaa", sum := "9306045c71b514b9eaf6f6aa70eef123b3f09f8f7d3ef3292b5fa86dd5c6bf0c", func := "spinney/spinneylaw10.NodesRoom", spec := "nodesRoom", inPlace := ["sync/atomic.AddInt64", "sync/atomic.LoadUint64", "sync/atomic.CompareAndSwapUint64", "sync/atomic.StoreUint64"], unfollowed := true, recurses := true, apart := false, narrowed := true }
def NodesRoomUptoSaid : Prop := nodesRoomUptoRow.holds Try.pinned (OpenSpec.upto nodesRoomSpec)

/-- 'spinneylaw10.NodesLevels', WHERE WHAT IT READS IS OF BULK AT MOST 1048576: true; the input reads as it did. -/
def nodesLevelsUptoRow : OpenClaim := { program := "ytdmfbfbebcneeaa", sum := "9306045c71b514b9eaf6f6aa70eef123b3f09f8f7d3ef3292b5fa86dd5c6bf0c", func := "spinney/spinneylaw10.NodesLevels", spec := "nodesLevels", inPlace := ["sync/atomic.AddInt64", "sync/atomic.LoadUint64", "sync/atomic.CompareAndSwapUint64", "sync/atomic.StoreUint64"], unfollowed := true, recurses := true, apart := false, narrowed := true }
def NodesLevelsUptoSaid : Prop := nodesLevelsUptoRow.holds Try.pinned (OpenSpec.upto nodesLevelsSpec)

/-- 'spinneylaw10.NodesOrder', WHERE WHAT IT READS IS OF BULK AT MOST 1048576: true; the input reads as it did. -/
def nodesOrderUptoRow : OpenClaim := { program := "ytdmfbfbebcneeaa", sum := "9306045c71b514b9eaf6f6aa70eef123b3f09f8f7d3ef3292b5fa86dd5c6bf0c", func := "spinney/spinneylaw10.NodesOrder", spec := "nodesOrder", inPlace := ["sync/atomic.AddInt64", "sync/atomic.LoadUint64", "sync/atomic.CompareAndSwapUint64", "sync/atomic.StoreUint64"], unfollowed := true, recurses := true, apart := false, narrowed := true }
def NodesOrderUptoSaid : Prop := nodesOrderUptoRow.holds Try.pinned (OpenSpec.upto nodesOrderSpec)

end Rows
end Go.Proofs.Ytdmfbfbebcneeaa
