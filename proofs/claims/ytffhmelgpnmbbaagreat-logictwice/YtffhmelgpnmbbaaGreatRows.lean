/-
  No cell of these rows narrows 'for every input' (looked for: loops, veiled, ifaces, maps, wideKeys, modest, calm, conditions, laid).
  DERIVED. THE GIVEN ROWS OF THIS SEAT. 3 by the template 'for every input the law returns true; each argument reads behind the call as it read before'; 0 by the template 'total and deterministic' (their statements: YtffhmelgpnmbbaaGreatTotals.lean).
  GIVEN WITH THE SEED: the statements are not yours to turn. If you find one false, say at which input.
  Laid BY PROGRAM, IN A SANDBOX (cutbox-rows.mjs): the forced cells as the released guide's own fill.sh prints them over the translation f7d66f8ce54b2ecc… (all of the seat's roots in one cut). By AI agents, Wed Nov 11 2026. No macro, syntax, notation, axiom, sorry.
-/
import Derived.Test.YtffhmelgpnmbbaaGreatChecked
import GoSem.Claim
import GoSem.ClaimJoined
import GoSem.ClaimMapViews
import Derived.JoinedTies
import Derived.KernelRfl
namespace Go.Proofs.YtffhmelgpnmbbaaGreat
/- THE CELL 'sum', in the pinned program and in every row, IS THE sha256 OF THE DUMP (.gsa) THAT YtffhmelgpnmbbaaGreatProg.lean LOADS. Nothing in Lean hashes anything: it is a label: what it is worth is what the hold of that sum in a sandbox is worth. -/
noncomputable def Tryz.pinned : Pinned := { name := "ytffhmelgpnmbbaagreat", sum := "f7d66f8ce54b2ecc8a7b9c99620bb488246ea20bb023d3b27a9d06fe52b7b642", checked := Tryz.checked }
namespace Rows
def none {H : Type} : Left H := { results := [], args := [] }

/-- 'spinneylaw11.LogicTells': WHATEVER THE INPUT: true; the input reads as it did. -/
def logicTellsSpec : ChangeSpec := { name := "logicTells", fn := fun _ => fun
  | [d1, d2, d3, d4, d5, d6] => { results := [.lit (.bool true)], args := [d1, d2, d3, d4, d5, d6] }
  | _ => none }
def logicTellsRow : OpenClaim := { program := "ytffhmelgpnmbbaagreat", sum := "f7d66f8ce54b2ecc8a7b9c99620bb488246ea20bb023d3b27a9d06fe52b7b642", func := "spinney/spinneylaw11.LogicTells", spec := "logicTells", inPlace := ["sync/atomic.AddInt64", "sync/atomic.LoadUint64", "sync/atomic.CompareAndSwapUint64", "sync/atomic.StoreUint64", "sync/atomic.AddUint64"], unfollowed := true, recurses := true, apart := false }
def LogicTellsSaid : Prop := logicTellsRow.holds Tryz.pinned (OpenSpec.ofChange logicTellsSpec)

/-- ITS FALSE NEIGHBOUR: 'it returns false'. Refute it at one input. -/
def logicTellsWrong : ChangeSpec := { name := "logicTells", fn := fun _ => fun
  | [d1, d2, d3, d4, d5, d6] => { results := [.lit (.bool false)], args := [d1, d2, d3, d4, d5, d6] }
  | _ => none }
def LogicTellsWrongFalsely : Prop := logicTellsRow.holds Tryz.pinned (OpenSpec.ofChange logicTellsWrong)

/-- 'spinneylaw11.LogicTwice': WHATEVER THE INPUT: true; the input reads as it did. -/
def logicTwiceSpec : ChangeSpec := { name := "logicTwice", fn := fun _ => fun
  | [d1, d2, d3, d4] => { results := [.lit (.bool true)], args := [d1, d2, d3, d4] }
  | _ => none }
def logicTwiceRow : OpenClaim := { program := "ytffhmelgpnmbbaagreat", sum := "f7d66f8ce54b2ecc8a7b9c99620bb488246ea20bb023d3b27a9d06fe52b7b642", func := "spinney/spinneylaw11.LogicTwice", spec := "logicTwice", inPlace := ["sync/atomic.AddInt64", "sync/atomic.LoadUint64", "sync/atomic.CompareAndSwapUint64", "sync/atomic.StoreUint64", "sync/atomic.AddUint64"], unfollowed := true, recurses := true, apart := false }
def LogicTwiceSaid : Prop := logicTwiceRow.holds Tryz.pinned (OpenSpec.ofChange logicTwiceSpec)

/-- ITS FALSE NEIGHBOUR: 'it returns false'. Refute it at one input. -/
def logicTwiceWrong : ChangeSpec := { name := "logicTwice", fn := fun _ => fun
  | [d1, d2, d3, d4] => { results := [.lit (.bool false)], args := [d1, d2, d3, d4] }
  | _ => none }
def LogicTwiceWrongFalsely : Prop := logicTwiceRow.holds Tryz.pinned (OpenSpec.ofChange logicTwiceWrong)

/-- 'spinneylaw11.LogicGrows': WHATEVER THE INPUT: true; the input reads as it did. -/
def logicGrowsSpec : ChangeSpec := { name := "logicGrows", fn := fun _ => fun
  | [d1, d2, d3] => { results := [.lit (.bool true)], args := [d1, d2, d3] }
  | _ => none }
def logicGrowsRow : OpenClaim := { program := "ytffhmelgpnmbbaagreat", sum := "f7d66f8ce54b2ecc8a7b9c99620bb488246ea20bb023d3b27a9d06fe52b7b642", func := "spinney/spinneylaw11.LogicGrows", spec := "logicGrows", inPlace := ["sync/atomic.AddInt64", "sync/atomic.LoadUint64", "sync/atomic.CompareAndSwapUint64", "sync/atomic.StoreUint64"], unfollowed := true, recurses := true, apart := false }
def LogicGrowsSaid : Prop := logicGrowsRow.holds Tryz.pinned (OpenSpec.ofChange logicGrowsSpec)

/-- ITS FALSE NEIGHBOUR: 'it returns false'. Refute it at one input. -/
def logicGrowsWrong : ChangeSpec := { name := "logicGrows", fn := fun _ => fun
  | [d1, d2, d3] => { results := [.lit (.bool false)], args := [d1, d2, d3] }
  | _ => none }
def LogicGrowsWrongFalsely : Prop := logicGrowsRow.holds Tryz.pinned (OpenSpec.ofChange logicGrowsWrong)

/- THE SECOND FORM. 'bulk': how many values and letters a reading holds, each counted each time it is reached (what is shared counts as often as it is met; a slice's spare places count too). A statement '..UptoSaid' is the law's where the arguments, and the package variables that the reading takes, are together of bulk at most 1048576: NARROWER than '..Said'. Prove '..Said' where nothing that the law and all that it calls make is longer than what came in: it says more and counts as full. Else prove '..UptoSaid'. A law counts once. -/
mutual
def uptoBulk {H : Type} : DataW H → Nat
  | .lit (.string bytes) => bytes.length + 1
  | .lit _ => 1
  | .nil => 1
  | .ptr d => uptoBulk d + 1
  | .slice elems spare => uptoBulkAll elems + uptoBulkAll spare + 1
  | .agg parts => uptoBulkAll parts + 1
  | .iface _ d => uptoBulk d + 1
  | .map entries => uptoBulkEntries entries + 1
  | .held _ => 1
def uptoBulkAll {H : Type} : List (DataW H) → Nat
  | [] => 0
  | d :: r => uptoBulk d + uptoBulkAll r
def uptoBulkEntries {H : Type} : List (Lit × DataW H) → Nat
  | [] => 0
  | x :: r => uptoBulkEntry x + uptoBulkEntries r
def uptoBulkEntry {H : Type} : Lit × DataW H → Nat
  | (.string bytes, d) => bytes.length + uptoBulk d + 1
  | (_, d) => uptoBulk d + 1
 end
def uptoSmall : (H : Type) → List (DataW H) → Bool := fun _ ds => decide (uptoBulkAll ds ≤ 1048576)
def OpenSpec.upto (s : _root_.Go.ChangeSpec) : _root_.Go.OpenSpec := { _root_.Go.OpenSpec.ofChange s with cond := some uptoSmall }

/-- 'spinneylaw11.LogicTells', WHERE WHAT IT READS IS OF BULK AT MOST 1048576: true; the input reads as it did. -/
def logicTellsUptoRow : OpenClaim := { program := "ytffhmelgpnmbbaagreat", sum := "f7d66f8ce54b2ecc8a7b9c99620bb488246ea20bb023d3b27a9d06fe52b7b642", func := "spinney/spinneylaw11.LogicTells", spec := "logicTells", inPlace := ["sync/atomic.AddInt64", "sync/atomic.LoadUint64", "sync/atomic.CompareAndSwapUint64", "sync/atomic.StoreUint64", "sync/atomic.AddUint64"], unfollowed := true, recurses := true, apart := false, narrowed := true }
def LogicTellsUptoSaid : Prop := logicTellsUptoRow.holds Tryz.pinned (OpenSpec.upto logicTellsSpec)

/-- 'spinneylaw11.LogicTwice', WHERE WHAT IT READS IS OF BULK AT MOST 1048576: true; the input reads as it did. -/
def logicTwiceUptoRow : OpenClaim := { program := "ytffhmelgpnmbbaagreat", sum := "f7d66f8ce54b2ecc8a7b9c99620bb488246ea20bb023d3b27a9d06fe52b7b642", func := "spinney/spinneylaw11.LogicTwice", spec := "logicTwice", inPlace := ["sync/atomic.AddInt64", "sync/atomic.LoadUint64", "sync/atomic.CompareAndSwapUint64", "sync/atomic.StoreUint64", "sync/atomic.AddUint64"], unfollowed := true, recurses := true, apart := false, narrowed := true }
def LogicTwiceUptoSaid : Prop := logicTwiceUptoRow.holds Tryz.pinned (OpenSpec.upto logicTwiceSpec)

/-- 'spinneylaw11.LogicGrows', WHERE WHAT IT READS IS OF BULK AT MOST 1048576: true; the input reads as it did. -/
def logicGrowsUptoRow : OpenClaim := { program := "ytffhmelgpnmbbaagreat", sum := "f7d66f8ce54b2ecc8a7b9c99620bb488246ea20bb023d3b27a9d06fe52b7b642", func := "spinney/spinneylaw11.LogicGrows", spec := "logicGrows", inPlace := ["sync/atomic.AddInt64", "sync/atomic.LoadUint64", "sync/atomic.CompareAndSwapUint64", "sync/atomic.StoreUint64"], unfollowed := true, recurses := true, apart := false, narrowed := true }
def LogicGrowsUptoSaid : Prop := logicGrowsUptoRow.holds Tryz.pinned (OpenSpec.upto logicGrowsSpec)

end Rows
end Go.Proofs.YtffhmelgpnmbbaaGreat
