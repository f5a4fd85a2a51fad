/-
  No cell of these rows narrows 'for every input' (looked for: loops, veiled, ifaces, maps, wideKeys, modest, calm, conditions, laid).
  DERIVED. THE GIVEN ROWS OF THIS SEAT. 5 by the template 'for every input the law returns true; each argument reads behind the call as it read before'; 0 by the template 'total and deterministic' (their statements: YtnnmdkaoiofabaaGreatTotals.lean).
  GIVEN WITH THE SEED: the statements are not yours to turn. If you find one false, say at which input.
  Laid BY PROGRAM, IN A SANDBOX (cutbox-rows.mjs): the forced cells as the released guide's own fill.sh prints them over the translation 3d8be19609761f50… (all of the seat's roots in one cut). By AI agents, Wed Nov 11 2026. No macro, syntax, notation, axiom, sorry.
-/
import Derived.Test.YtnnmdkaoiofabaaGreatChecked
import GoSem.Claim
import GoSem.ClaimJoined
import GoSem.ClaimMapViews
import Derived.JoinedTies
import Derived.KernelRfl
namespace Go.Proofs.YtnnmdkaoiofabaaGreat
/- THE CELL 'sum', in the pinned program and in every row, IS THE sha256 OF THE DUMP (.gsa) THAT YtnnmdkaoiofabaaGreatProg.lean LOADS. Nothing in Lean hashes anything: it is a label: what it is worth is what the hold of that sum in a sandbox is worth. -/
noncomputable def Tryz.pinned : Pinned := { name := "ytnnmdkaoiofabaagreat", sum := "3d8be19609761f5028070ab3f5db92c743a7da8a79ac2181d5c69d368b99d307", checked := Tryz.checked }
namespace Rows
def none {H : Type} : Left H := { results := [], args := [] }

/-- 'spinneylaw19.SiftTells': WHATEVER THE INPUT: true; the input reads as it did. -/
def siftTellsSpec : ChangeSpec := { name := "siftTells", fn := fun _ => fun
  | [d1, d2, d3, d4] => { results := [.lit (.bool true)], args := [d1, d2, d3, d4] }
  | _ => none }
def siftTellsRow : OpenClaim := { program := "ytnnmdkaoiofabaagreat", sum := "3d8be19609761f5028070ab3f5db92c743a7da8a79ac2181d5c69d368b99d307", func := "spinney/spinneylaw19.SiftTells", spec := "siftTells", inPlace := ["sync/atomic.StoreUint64", "sync/atomic.AddInt64", "sync/atomic.AddUint64", "sync/atomic.LoadUint64", "sync/atomic.CompareAndSwapUint64"], unfollowed := true, recurses := true, plainKeys := false, apart := false }
def SiftTellsSaid : Prop := siftTellsRow.holds Tryz.pinned (OpenSpec.ofChange siftTellsSpec)

/-- ITS FALSE NEIGHBOUR: 'it returns false'. Refute it at one input. -/
def siftTellsWrong : ChangeSpec := { name := "siftTells", fn := fun _ => fun
  | [d1, d2, d3, d4] => { results := [.lit (.bool false)], args := [d1, d2, d3, d4] }
  | _ => none }
def SiftTellsWrongFalsely : Prop := siftTellsRow.holds Tryz.pinned (OpenSpec.ofChange siftTellsWrong)

/-- 'spinneylaw19.SiftFull': WHATEVER THE INPUT: true; the input reads as it did. -/
def siftFullSpec : ChangeSpec := { name := "siftFull", fn := fun _ => fun
  | [d1, d2, d3, d4] => { results := [.lit (.bool true)], args := [d1, d2, d3, d4] }
  | _ => none }
def siftFullRow : OpenClaim := { program := "ytnnmdkaoiofabaagreat", sum := "3d8be19609761f5028070ab3f5db92c743a7da8a79ac2181d5c69d368b99d307", func := "spinney/spinneylaw19.SiftFull", spec := "siftFull", inPlace := ["sync/atomic.StoreUint64", "sync/atomic.AddInt64", "sync/atomic.AddUint64", "sync/atomic.LoadUint64", "sync/atomic.CompareAndSwapUint64"], unfollowed := true, recurses := true, plainKeys := false, apart := false }
def SiftFullSaid : Prop := siftFullRow.holds Tryz.pinned (OpenSpec.ofChange siftFullSpec)

/-- ITS FALSE NEIGHBOUR: 'it returns false'. Refute it at one input. -/
def siftFullWrong : ChangeSpec := { name := "siftFull", fn := fun _ => fun
  | [d1, d2, d3, d4] => { results := [.lit (.bool false)], args := [d1, d2, d3, d4] }
  | _ => none }
def SiftFullWrongFalsely : Prop := siftFullRow.holds Tryz.pinned (OpenSpec.ofChange siftFullWrong)

/-- 'spinneylaw19.SiftTwice': WHATEVER THE INPUT: true; the input reads as it did. -/
def siftTwiceSpec : ChangeSpec := { name := "siftTwice", fn := fun _ => fun
  | [d1, d2] => { results := [.lit (.bool true)], args := [d1, d2] }
  | _ => none }
def siftTwiceRow : OpenClaim := { program := "ytnnmdkaoiofabaagreat", sum := "3d8be19609761f5028070ab3f5db92c743a7da8a79ac2181d5c69d368b99d307", func := "spinney/spinneylaw19.SiftTwice", spec := "siftTwice", inPlace := ["sync/atomic.StoreUint64", "sync/atomic.AddInt64", "sync/atomic.AddUint64", "sync/atomic.LoadUint64", "sync/atomic.CompareAndSwapUint64"], unfollowed := true, recurses := true, plainKeys := false, apart := false }
def SiftTwiceSaid : Prop := siftTwiceRow.holds Tryz.pinned (OpenSpec.ofChange siftTwiceSpec)

/-- ITS FALSE NEIGHBOUR: 'it returns false'. Refute it at one input. -/
def siftTwiceWrong : ChangeSpec := { name := "siftTwice", fn := fun _ => fun
  | [d1, d2] => { results := [.lit (.bool false)], args := [d1, d2] }
  | _ => none }
def SiftTwiceWrongFalsely : Prop := siftTwiceRow.holds Tryz.pinned (OpenSpec.ofChange siftTwiceWrong)

/-- 'spinneylaw19.SiftPairs': WHATEVER THE INPUT: true; the input reads as it did. -/
def siftPairsSpec : ChangeSpec := { name := "siftPairs", fn := fun _ => fun
  | [d] => { results := [.lit (.bool true)], args := [d] }
  | _ => none }
def siftPairsRow : OpenClaim := { program := "ytnnmdkaoiofabaagreat", sum := "3d8be19609761f5028070ab3f5db92c743a7da8a79ac2181d5c69d368b99d307", func := "spinney/spinneylaw19.SiftPairs", spec := "siftPairs", inPlace := ["sync/atomic.StoreUint64", "sync/atomic.AddInt64", "sync/atomic.AddUint64", "sync/atomic.LoadUint64", "sync/atomic.CompareAndSwapUint64"], unfollowed := true, recurses := true, plainKeys := false, apart := false }
def SiftPairsSaid : Prop := siftPairsRow.holds Tryz.pinned (OpenSpec.ofChange siftPairsSpec)

/-- ITS FALSE NEIGHBOUR: 'it returns false'. Refute it at one input. -/
def siftPairsWrong : ChangeSpec := { name := "siftPairs", fn := fun _ => fun
  | [d] => { results := [.lit (.bool false)], args := [d] }
  | _ => none }
def SiftPairsWrongFalsely : Prop := siftPairsRow.holds Tryz.pinned (OpenSpec.ofChange siftPairsWrong)

/-- 'spinneylaw19.SiftLevels': WHATEVER THE INPUT: true; the input reads as it did. -/
def siftLevelsSpec : ChangeSpec := { name := "siftLevels", fn := fun _ => fun
  | [d1, d2] => { results := [.lit (.bool true)], args := [d1, d2] }
  | _ => none }
def siftLevelsRow : OpenClaim := { program := "ytnnmdkaoiofabaagreat", sum := "3d8be19609761f5028070ab3f5db92c743a7da8a79ac2181d5c69d368b99d307", func := "spinney/spinneylaw19.SiftLevels", spec := "siftLevels", inPlace := ["sync/atomic.StoreUint64", "sync/atomic.AddInt64", "sync/atomic.AddUint64", "sync/atomic.LoadUint64", "sync/atomic.CompareAndSwapUint64"], unfollowed := true, recurses := true, plainKeys := false, apart := false }
def SiftLevelsSaid : Prop := siftLevelsRow.holds Tryz.pinned (OpenSpec.ofChange siftLevelsSpec)

/-- ITS FALSE NEIGHBOUR: 'it returns false'. Refute it at one input. -/
def siftLevelsWrong : ChangeSpec := { name := "siftLevels", fn := fun _ => fun
  | [d1, d2] => { results := [.lit (.bool false)], args := [d1, d2] }
  | _ => none }
def SiftLevelsWrongFalsely : Prop := siftLevelsRow.holds Tryz.pinned (OpenSpec.ofChange siftLevelsWrong)

/- THE SECOND FORM. 'bulk': how many values and letters a reading holds, each counted each time it is reached (what is shared counts as often as it is met; a slice's spare places count too). A statement '..UptoSaid' is the law's where the arguments, and the package variables that the reading takes, are together of bulk at most 1048576: NARROWER than '..Said'. Prove '..Said' where nothing that the law and all that it calls make is longer than what came in: it says more and counts as full. Else prove '..UptoSaid'. A law counts once. -/
mutual
def uptoBulk {H : Type} : DataW H → Nat
  | .lit (.string bytes) => bytes.length + 1
  | .lit _ => 1
  | .nil => 1
  | .ptr d => uptoBulk d + 1
  | .slice elems spare => uptoBulkAll elems + uptoBulkAll spare + 1
  | .agg parts => uptoBulkAll parts + 1
  | .iface _ d => uptoBulk d + 1
  | .map entries => uptoBulkEntries entries + 1
  | .held _ => 1
def uptoBulkAll {H : Type} : List (DataW H) → Nat
  | [] => 0
  | d :: r => uptoBulk d + uptoBulkAll r
def uptoBulkEntries {H : Type} : List (Lit × DataW H) → Nat
  | [] => 0
  | x :: r => uptoBulkEntry x + uptoBulkEntries r
def uptoBulkEntry {H : Type} : Lit × DataW H → Nat
  | (.string bytes, d) => bytes.length + uptoBulk d + 1
  | (_, d) => uptoBulk d + 1
 end
def uptoSmall : (H : Type) → List (DataW H) → Bool := fun _ ds => decide (uptoBulkAll ds ≤ 1048576)
def OpenSpec.upto (s : _root_.Go.ChangeSpec) : _root_.Go.OpenSpec := { _root_.Go.OpenSpec.ofChange s with cond := some uptoSmall }

/-- 'spinneylaw19.SiftTells', WHERE WHAT IT READS IS OF BULK AT MOST 1048576: true; the input reads as it did. -/
def siftTellsUptoRow : OpenClaim := { program := "ytnnmdkaoiofabaagreat", sum := "3d8be19609761f5028070ab3f5db92c743a7da8a79ac2181d5c69d368b99d307", func := "spinney/spinneylaw19.SiftTells", spec := "siftTells", inPlace := ["sync/atomic.StoreUint64", "sync/atomic.AddInt64", "sync/atomic.AddUint64", "sync/atomic.LoadUint64", "sync/atomic.CompareAndSwapUint64"], unfollowed := true, recurses := true, plainKeys := false, apart := false, narrowed := true }
def SiftTellsUptoSaid : Prop := siftTellsUptoRow.holds Tryz.pinned (OpenSpec.upto siftTellsSpec)

/-- 'spinneylaw19.SiftFull', WHERE WHAT IT READS IS OF BULK AT MOST 1048576: true; the input reads as it did. -/
def siftFullUptoRow : OpenClaim := { program := "ytnnmdkaoiofabaagreat", sum := "3d8be19609761f5028070ab3f5db92c743a7da8a79ac2181d5c69d368b99d307", func := "spinney/spinneylaw19.SiftFull", spec := "siftFull", inPlace := ["sync/atomic.StoreUint64", "sync/atomic.AddInt64", "sync/atomic.AddUint64", "sync/atomic.LoadUint64", "sync/atomic.CompareAndSwapUint64"], unfollowed := true, recurses := true, plainKeys := false, apart := false, narrowed := true }
def SiftFullUptoSaid : Prop := siftFullUptoRow.holds Tryz.pinned (OpenSpec.upto siftFullSpec)

/-- 'spinneylaw19.SiftTwice', WHERE WHAT IT READS IS OF BULK AT MOST 1048576: true; the input reads as it did. -/
def siftTwiceUptoRow : OpenClaim := { program := "ytnnmdkaoiofabaagreat", sum := "3d8be19609761f5028070ab3f5db92c743a7da8a79ac2181d5c69d368b99d307", func := "spinney/spinneylaw19.SiftTwice", spec := "siftTwice", inPlace := ["sync/atomic.StoreUint64", "sync/atomic.AddInt64", "sync/atomic.AddUint64", "sync/atomic.LoadUint64", "sync/atomic.CompareAndSwapUint64"], unfollowed := true, recurses := true, plainKeys := false, apart := false, narrowed := true }
def SiftTwiceUptoSaid : Prop := siftTwiceUptoRow.holds Tryz.pinned (OpenSpec.upto siftTwiceSpec)

/-- 'spinneylaw19.SiftPairs', WHERE WHAT IT READS IS OF BULK AT MOST 1048576: true; the input reads as it did. -/
def siftPairsUptoRow : OpenClaim := { program := "ytnnmdkaoiofabaagreat", sum := "3d8be19609761f5028070ab3f5db92c743a7da8a79ac2181d5c69d368b99d307", func := "spinney/spinneylaw19.SiftPairs", spec := "siftPairs", inPlace := ["sync/atomic.StoreUint64", "sync/atomic.AddInt64", "sync/atomic.AddUint64", "sync/atomic.LoadUint64", "sync/atomic.CompareAndSwapUint64"], unfollowed := true, recurses := true, plainKeys := false, apart := false, narrowed := true }
def SiftPairsUptoSaid : Prop := siftPairsUptoRow.holds Tryz.pinned (OpenSpec.upto siftPairsSpec)

/-- 'spinneylaw19.SiftLevels', WHERE WHAT IT READS IS OF BULK AT MOST 1048576: true; the input reads as it did. -/
def siftLevelsUptoRow : OpenClaim := { program := "ytnnmdkaoiofabaagreat", sum := "3d8be19609761f5028070ab3f5db92c743a7da8a79ac2181d5c69d368b99d307", func := "spinney/spinneylaw19.SiftLevels", spec := "siftLevels", inPlace := ["sync/atomic.StoreUint64", "sync/atomic.AddInt64", "sync/atomic.AddUint64", "sync/atomic.LoadUint64", "sync/atomic.CompareAndSwapUint64"], unfollowed := true, recurses := true, plainKeys := false, apart := false, narrowed := true }
def SiftLevelsUptoSaid : Prop := siftLevelsUptoRow.holds Tryz.pinned (OpenSpec.upto siftLevelsSpec)

end Rows
end Go.Proofs.YtnnmdkaoiofabaaGreat
