/-
  No cell of these rows narrows 'for every input' (looked for: loops, veiled, ifaces, maps, wideKeys, modest, calm, conditions, laid).
  DERIVED. THE GIVEN ROWS OF THIS SEAT. 5 by the template 'for every input the law returns true; each argument reads behind the call as it read before'; 0 by the template 'total and deterministic' (their statements: YtancdjjhjfhcbaaGreatTotals.lean).
  GIVEN WITH THE SEED: the statements are not yours to turn. If you find one false, say at which input.
  Laid BY PROGRAM, IN A SANDBOX (cutbox-rows.mjs): the forced cells as the released guide's own fill.sh prints them over the translation 167bb2efa47609da… (all of the seat's roots in one cut). By AI agents, Wed Nov 11 2026. No macro, syntax, notation, axiom, sorry.
-/
import Derived.Test.YtancdjjhjfhcbaaGreatChecked
import GoSem.Claim
import GoSem.ClaimJoined
import GoSem.ClaimMapViews
import Derived.JoinedTies
import Derived.KernelRfl
namespace Go.Proofs.YtancdjjhjfhcbaaGreat
/- THE CELL 'sum', in the pinned program and in every row, IS THE sha256 OF THE DUMP (.gsa) THAT YtancdjjhjfhcbaaGreatProg.lean LOADS. Nothing in Lean hashes anything: it is a label: what it is worth is what the hold of that sum in a sandbox is worth. -/
noncomputable def Tryz.pinned : Pinned := { name := "ytancdjjhjfhcbaagreat", sum := "167bb2efa47609dab0dd54569b74938b6e1063a6f08ba40b5c61164111197358", checked := Tryz.checked }
namespace Rows
def none {H : Type} : Left H := { results := [], args := [] }

/-- 'spinneylaw13.ComposeTells': WHATEVER THE INPUT: true; the input reads as it did. -/
def composeTellsSpec : ChangeSpec := { name := "composeTells", fn := fun _ => fun
  | [d1, d2, d3, d4, d5, d6] => { results := [.lit (.bool true)], args := [d1, d2, d3, d4, d5, d6] }
  | _ => none }
def composeTellsRow : OpenClaim := { program := "ytancdjjhjfhcbaagreat", sum := "167bb2efa47609dab0dd54569b74938b6e1063a6f08ba40b5c61164111197358", func := "spinney/spinneylaw13.ComposeTells", spec := "composeTells", inPlace := ["sync/atomic.AddInt64", "sync/atomic.LoadUint64", "sync/atomic.CompareAndSwapUint64", "sync/atomic.StoreUint64", "sync/atomic.AddUint64"], unfollowed := true, recurses := true, apart := false }
def ComposeTellsSaid : Prop := composeTellsRow.holds Tryz.pinned (OpenSpec.ofChange composeTellsSpec)

/-- ITS FALSE NEIGHBOUR: 'it returns false'. Refute it at one input. -/
def composeTellsWrong : ChangeSpec := { name := "composeTells", fn := fun _ => fun
  | [d1, d2, d3, d4, d5, d6] => { results := [.lit (.bool false)], args := [d1, d2, d3, d4, d5, d6] }
  | _ => none }
def ComposeTellsWrongFalsely : Prop := composeTellsRow.holds Tryz.pinned (OpenSpec.ofChange composeTellsWrong)

/-- 'spinneylaw13.ComposeAll': WHATEVER THE INPUT: true; the input reads as it did. -/
def composeAllSpec : ChangeSpec := { name := "composeAll", fn := fun _ => fun
  | [d1, d2] => { results := [.lit (.bool true)], args := [d1, d2] }
  | _ => none }
def composeAllRow : OpenClaim := { program := "ytancdjjhjfhcbaagreat", sum := "167bb2efa47609dab0dd54569b74938b6e1063a6f08ba40b5c61164111197358", func := "spinney/spinneylaw13.ComposeAll", spec := "composeAll", inPlace := ["sync/atomic.AddInt64", "sync/atomic.LoadUint64", "sync/atomic.CompareAndSwapUint64", "sync/atomic.StoreUint64"], unfollowed := true, recurses := true, apart := false }
def ComposeAllSaid : Prop := composeAllRow.holds Tryz.pinned (OpenSpec.ofChange composeAllSpec)

/-- ITS FALSE NEIGHBOUR: 'it returns false'. Refute it at one input. -/
def composeAllWrong : ChangeSpec := { name := "composeAll", fn := fun _ => fun
  | [d1, d2] => { results := [.lit (.bool false)], args := [d1, d2] }
  | _ => none }
def ComposeAllWrongFalsely : Prop := composeAllRow.holds Tryz.pinned (OpenSpec.ofChange composeAllWrong)

/-- 'spinneylaw13.ComposeConst': WHATEVER THE INPUT: true; the input reads as it did. -/
def composeConstSpec : ChangeSpec := { name := "composeConst", fn := fun _ => fun
  | [d1, d2, d3] => { results := [.lit (.bool true)], args := [d1, d2, d3] }
  | _ => none }
def composeConstRow : OpenClaim := { program := "ytancdjjhjfhcbaagreat", sum := "167bb2efa47609dab0dd54569b74938b6e1063a6f08ba40b5c61164111197358", func := "spinney/spinneylaw13.ComposeConst", spec := "composeConst", inPlace := ["sync/atomic.AddInt64", "sync/atomic.LoadUint64", "sync/atomic.CompareAndSwapUint64", "sync/atomic.StoreUint64"], unfollowed := true, recurses := true, apart := false }
def ComposeConstSaid : Prop := composeConstRow.holds Tryz.pinned (OpenSpec.ofChange composeConstSpec)

/-- ITS FALSE NEIGHBOUR: 'it returns false'. Refute it at one input. -/
def composeConstWrong : ChangeSpec := { name := "composeConst", fn := fun _ => fun
  | [d1, d2, d3] => { results := [.lit (.bool false)], args := [d1, d2, d3] }
  | _ => none }
def ComposeConstWrongFalsely : Prop := composeConstRow.holds Tryz.pinned (OpenSpec.ofChange composeConstWrong)

/-- 'spinneylaw13.ComposeBack': WHATEVER THE INPUT: true; the input reads as it did. -/
def composeBackSpec : ChangeSpec := { name := "composeBack", fn := fun _ => fun
  | [d1, d2] => { results := [.lit (.bool true)], args := [d1, d2] }
  | _ => none }
def composeBackRow : OpenClaim := { program := "ytancdjjhjfhcbaagreat", sum := "167bb2efa47609dab0dd54569b74938b6e1063a6f08ba40b5c61164111197358", func := "spinney/spinneylaw13.ComposeBack", spec := "composeBack", inPlace := ["sync/atomic.AddInt64", "sync/atomic.LoadUint64", "sync/atomic.CompareAndSwapUint64", "sync/atomic.StoreUint64"], unfollowed := true, recurses := true, apart := false }
def ComposeBackSaid : Prop := composeBackRow.holds Tryz.pinned (OpenSpec.ofChange composeBackSpec)

/-- ITS FALSE NEIGHBOUR: 'it returns false'. Refute it at one input. -/
def composeBackWrong : ChangeSpec := { name := "composeBack", fn := fun _ => fun
  | [d1, d2] => { results := [.lit (.bool false)], args := [d1, d2] }
  | _ => none }
def ComposeBackWrongFalsely : Prop := composeBackRow.holds Tryz.pinned (OpenSpec.ofChange composeBackWrong)

/-- 'spinneylaw13.ComposeThrough': WHATEVER THE INPUT: true; the input reads as it did. -/
def composeThroughSpec : ChangeSpec := { name := "composeThrough", fn := fun _ => fun
  | [d1, d2, d3, d4] => { results := [.lit (.bool true)], args := [d1, d2, d3, d4] }
  | _ => none }
def composeThroughRow : OpenClaim := { program := "ytancdjjhjfhcbaagreat", sum := "167bb2efa47609dab0dd54569b74938b6e1063a6f08ba40b5c61164111197358", func := "spinney/spinneylaw13.ComposeThrough", spec := "composeThrough", inPlace := ["sync/atomic.AddInt64", "sync/atomic.LoadUint64", "sync/atomic.CompareAndSwapUint64", "sync/atomic.StoreUint64"], unfollowed := true, recurses := true, apart := false }
def ComposeThroughSaid : Prop := composeThroughRow.holds Tryz.pinned (OpenSpec.ofChange composeThroughSpec)

/-- ITS FALSE NEIGHBOUR: 'it returns false'. Refute it at one input. -/
def composeThroughWrong : ChangeSpec := { name := "composeThrough", fn := fun _ => fun
  | [d1, d2, d3, d4] => { results := [.lit (.bool false)], args := [d1, d2, d3, d4] }
  | _ => none }
def ComposeThroughWrongFalsely : Prop := composeThroughRow.holds Tryz.pinned (OpenSpec.ofChange composeThroughWrong)

/- THE SECOND FORM. 'bulk': how many values and letters a reading holds, each counted each time it is reached (what is shared counts as often as it is met; a slice's spare places count too). A statement '..UptoSaid' is the law's where the arguments, and the package variables that the reading takes, are together of bulk at most 1048576: NARROWER than '..Said'. Prove '..Said' where nothing that the law and all that it calls make is longer than what came in: it says more and counts as full. Else prove '..UptoSaid'. A law counts once. -/
mutual
def uptoBulk {H : Type} : DataW H → Nat
  | .lit (.string bytes) => bytes.length + 1
  | .lit _ => 1
  | .nil => 1
  | .ptr d => uptoBulk d + 1
  | .slice elems spare => uptoBulkAll elems + uptoBulkAll spare + 1
  | .agg parts => uptoBulkAll parts + 1
  | .iface _ d => uptoBulk d + 1
  | .map entries => uptoBulkEntries entries + 1
  | .held _ => 1
def uptoBulkAll {H : Type} : List (DataW H) → Nat
  | [] => 0
  | d :: r => uptoBulk d + uptoBulkAll r
def uptoBulkEntries {H : Type} : List (Lit × DataW H) → Nat
  | [] => 0
  | x :: r => uptoBulkEntry x + uptoBulkEntries r
def uptoBulkEntry {H : Type} : Lit × DataW H → Nat
  | (.string bytes, d) => bytes.length + uptoBulk d + 1
  | (_, d) => uptoBulk d + 1
 end
def uptoSmall : (H : Type) → List (DataW H) → Bool := fun _ ds => decide (uptoBulkAll ds ≤ 1048576)
def OpenSpec.upto (s : _root_.Go.ChangeSpec) : _root_.Go.OpenSpec := { _root_.Go.OpenSpec.ofChange s with cond := some uptoSmall }

/-- 'spinneylaw13.ComposeTells', WHERE WHAT IT READS IS OF BULK AT MOST 1048576: true; the input reads as it did. -/
def composeTellsUptoRow : OpenClaim := { program := "ytancdjjhjfhcbaagreat", sum := "167bb2efa47609dab0dd54569b74938b6e1063a6f08ba40b5c61164111197358", func := "spinney/spinneylaw13.ComposeTells", spec := "composeTells", inPlace := ["sync/atomic.AddInt64", "sync/atomic.LoadUint64", "sync/atomic.CompareAndSwapUint64", "sync/atomic.StoreUint64", "sync/atomic.AddUint64"], unfollowed := true, recurses := true, apart := false, narrowed := true }
def ComposeTellsUptoSaid : Prop := composeTellsUptoRow.holds Tryz.pinned (OpenSpec.upto composeTellsSpec)

/-- 'spinneylaw13.ComposeAll', WHERE WHAT IT READS IS OF BULK AT MOST 1048576: true; the input reads as it did. -/
def composeAllUptoRow : OpenClaim := { program := "ytancdjjhjfhcbaagreat", sum := "167bb2efa47609dab0dd54569b74938b6e1063a6f08ba40b5c61164111197358", func := "spinney/spinneylaw13.ComposeAll", spec := "composeAll", inPlace := ["sync/atomic.AddInt64", "sync/atomic.LoadUint64", "sync/atomic.CompareAndSwapUint64", "sync/atomic.StoreUint64"], unfollowed := true, recurses := true, apart := false, narrowed := true }
def ComposeAllUptoSaid : Prop := composeAllUptoRow.holds Tryz.pinned (OpenSpec.upto composeAllSpec)

/-- 'spinneylaw13.ComposeConst', WHERE WHAT IT READS IS OF BULK AT MOST 1048576: true; the input reads as it did. -/
def composeConstUptoRow : OpenClaim := { program := "ytancdjjhjfhcbaagreat", sum := "167bb2efa47609dab0dd54569b74938b6e1063a6f08ba40b5c61164111197358", func := "spinney/spinneylaw13.ComposeConst", spec := "composeConst", inPlace := ["sync/atomic.AddInt64", "sync/atomic.LoadUint64", "sync/atomic.CompareAndSwapUint64", "sync/atomic.StoreUint64"], unfollowed := true, recurses := true, apart := false, narrowed := true }
def ComposeConstUptoSaid : Prop := composeConstUptoRow.holds Tryz.pinned (OpenSpec.upto composeConstSpec)

/-- 'spinneylaw13.ComposeBack', WHERE WHAT IT READS IS OF BULK AT MOST 1048576: true; the input reads as it did. -/
def composeBackUptoRow : OpenClaim := { program := "ytancdjjhjfhcbaagreat", sum := "167bb2efa47609dab0dd54569b74938b6e1063a6f08ba40b5c61164111197358", func := "spinney/spinneylaw13.ComposeBack", spec := "composeBack", inPlace := ["sync/atomic.AddInt64", "sync/atomic.LoadUint64", "sync/atomic.CompareAndSwapUint64", "sync/atomic.StoreUint64"], unfollowed := true, recurses := true, apart := false, narrowed := true }
def ComposeBackUptoSaid : Prop := composeBackUptoRow.holds Tryz.pinned (OpenSpec.upto composeBackSpec)

/-- 'spinneylaw13.ComposeThrough', WHERE WHAT IT READS IS OF BULK AT MOST 1048576: true; the input reads as it did. -/
def composeThroughUptoRow : OpenClaim := { program := "ytancdjjhjfhcbaagreat", sum := "167bb2efa47609dab0dd54569b74938b6e1063a6f08ba40b5c61164111197358", func := "spinney/spinneylaw13.ComposeThrough", spec := "composeThrough", inPlace := ["sync/atomic.AddInt64", "sync/atomic.LoadUint64", "sync/atomic.CompareAndSwapUint64", "sync/atomic.StoreUint64"], unfollowed := true, recurses := true, apart := false, narrowed := true }
def ComposeThroughUptoSaid : Prop := composeThroughUptoRow.holds Tryz.pinned (OpenSpec.upto composeThroughSpec)

end Rows
end Go.Proofs.YtancdjjhjfhcbaaGreat
