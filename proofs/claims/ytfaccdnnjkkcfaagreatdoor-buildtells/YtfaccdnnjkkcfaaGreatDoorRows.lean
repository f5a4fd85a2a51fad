/-
  NARROWER THAN 'FOR EVERY INPUT', by the rows' own cells (each row's printed sentence says how): BuildTells: laid · BuildPaths: laid · BuildCubes: laid · BuildSame: laid · BuildPathsUp: laid.
  DERIVED. THE GIVEN ROWS OF THIS SEAT. 5 by the template 'for every input the law returns true; each argument reads behind the call as it read before'; 0 by the template 'total and deterministic' (their statements: YtfaccdnnjkkcfaaGreatDoorTotals.lean).
  GIVEN WITH THE SEED: the statements are not yours to turn. If you find one false, say at which input.
  Laid BY PROGRAM, IN A SANDBOX (cutbox-rows.mjs): the forced cells as the released guide's own fill.sh prints them over the translation c9bb789c73e80340… (all of the seat's roots in one cut). By AI agents, Wed Nov 11 2026. No macro, syntax, notation, axiom, sorry.
-/
import Derived.Test.YtfaccdnnjkkcfaaGreatDoorChecked
import GoSem.Claim
import GoSem.ClaimJoined
import GoSem.ClaimMapViews
import Derived.JoinedTies
import Derived.KernelRfl
namespace Go.Proofs.YtfaccdnnjkkcfaaGreatDoor
/- THE CELL 'sum', in the pinned program and in every row, IS THE sha256 OF THE DUMP (.gsa) THAT YtfaccdnnjkkcfaaGreatDoorProg.lean LOADS. Nothing in Lean hashes anything: it is a label: what it is worth is what the hold of that sum in a sandbox is worth. -/
noncomputable def Tryz.pinned : Pinned := { name := "ytfaccdnnjkkcfaagreatdoor", sum := "c9bb789c73e8034037826ed6e3bb84b9c71dc749a81b99d33c391b55b3c0658e", checked := Tryz.checked }
namespace Rows
def none {H : Type} : Left H := { results := [], args := [] }

/- WHAT THE LISTED PACKAGE-LEVEL VARIABLES READ AS WHEN THE CALL BEGINS. Each datum BY PROGRAM (the guide's laid-datum.mjs) off the statement by which the dump's own 'gosem.cut.vars' lays the variable. In a bare row this is a premise. The card (YtfaccdnnjkkcfaaGreatDoorCards.lean) ties it to the program's text. -/
def laid_spinney_truth_columns {H : Type} : DataW H := .agg [.agg [.lit (.int .u64 12297829382473034410), .lit (.int .u64 12297829382473034410), .lit (.int .u64 12297829382473034410), .lit (.int .u64 12297829382473034410)], .agg [.lit (.int .u64 14757395258967641292), .lit (.int .u64 14757395258967641292), .lit (.int .u64 14757395258967641292), .lit (.int .u64 14757395258967641292)], .agg [.lit (.int .u64 17361641481138401520), .lit (.int .u64 17361641481138401520), .lit (.int .u64 17361641481138401520), .lit (.int .u64 17361641481138401520)], .agg [.lit (.int .u64 18374966859414961920), .lit (.int .u64 18374966859414961920), .lit (.int .u64 18374966859414961920), .lit (.int .u64 18374966859414961920)], .agg [.lit (.int .u64 18446462603027742720), .lit (.int .u64 18446462603027742720), .lit (.int .u64 18446462603027742720), .lit (.int .u64 18446462603027742720)], .agg [.lit (.int .u64 18446744069414584320), .lit (.int .u64 18446744069414584320), .lit (.int .u64 18446744069414584320), .lit (.int .u64 18446744069414584320)], .agg [.lit (.int .u64 0), .lit (.int .u64 18446744073709551615), .lit (.int .u64 0), .lit (.int .u64 18446744073709551615)], .agg [.lit (.int .u64 0), .lit (.int .u64 0), .lit (.int .u64 18446744073709551615), .lit (.int .u64 18446744073709551615)]]

/-- 'spinneylaw15.BuildTells': WHATEVER THE INPUT: true; the input reads as it did. -/
def buildTellsSpec : ChangeSpec := { name := "buildTells", fn := fun _ => fun
  | [d1, d2, d3, d4] => { results := [.lit (.bool true)], args := [d1, d2, d3, d4] }
  | _ => none }
def buildTellsRow : OpenClaim := { program := "ytfaccdnnjkkcfaagreatdoor", sum := "c9bb789c73e8034037826ed6e3bb84b9c71dc749a81b99d33c391b55b3c0658e", func := "spinney/spinneylaw15.BuildTells", spec := "buildTells", inPlace := ["sync/atomic.AddInt64", "sync/atomic.LoadUint64", "sync/atomic.CompareAndSwapUint64", "sync/atomic.StoreUint64"], unfollowed := true, recurses := true, named := ["spinney/truth.columns"], apart := false, laid := [("spinney/truth.columns", laid_spinney_truth_columns)] }
def BuildTellsSaid : Prop := buildTellsRow.holds Tryz.pinned (OpenSpec.ofChange buildTellsSpec)

/-- ITS FALSE NEIGHBOUR: 'it returns false'. Refute it at one input. -/
def buildTellsWrong : ChangeSpec := { name := "buildTells", fn := fun _ => fun
  | [d1, d2, d3, d4] => { results := [.lit (.bool false)], args := [d1, d2, d3, d4] }
  | _ => none }
def BuildTellsWrongFalsely : Prop := buildTellsRow.holds Tryz.pinned (OpenSpec.ofChange buildTellsWrong)

/-- 'spinneylaw15.BuildPaths': WHATEVER THE INPUT: true; the input reads as it did. -/
def buildPathsSpec : ChangeSpec := { name := "buildPaths", fn := fun _ => fun
  | [d] => { results := [.lit (.bool true)], args := [d] }
  | _ => none }
def buildPathsRow : OpenClaim := { program := "ytfaccdnnjkkcfaagreatdoor", sum := "c9bb789c73e8034037826ed6e3bb84b9c71dc749a81b99d33c391b55b3c0658e", func := "spinney/spinneylaw15.BuildPaths", spec := "buildPaths", inPlace := ["sync/atomic.AddInt64", "sync/atomic.LoadUint64", "sync/atomic.CompareAndSwapUint64", "sync/atomic.StoreUint64"], unfollowed := true, recurses := true, named := ["spinney/truth.columns"], apart := false, laid := [("spinney/truth.columns", laid_spinney_truth_columns)] }
def BuildPathsSaid : Prop := buildPathsRow.holds Tryz.pinned (OpenSpec.ofChange buildPathsSpec)

/-- ITS FALSE NEIGHBOUR: 'it returns false'. Refute it at one input. -/
def buildPathsWrong : ChangeSpec := { name := "buildPaths", fn := fun _ => fun
  | [d] => { results := [.lit (.bool false)], args := [d] }
  | _ => none }
def BuildPathsWrongFalsely : Prop := buildPathsRow.holds Tryz.pinned (OpenSpec.ofChange buildPathsWrong)

/-- 'spinneylaw15.BuildCubes': WHATEVER THE INPUT: true; the input reads as it did. -/
def buildCubesSpec : ChangeSpec := { name := "buildCubes", fn := fun _ => fun
  | [d1, d2, d3, d4] => { results := [.lit (.bool true)], args := [d1, d2, d3, d4] }
  | _ => none }
def buildCubesRow : OpenClaim := { program := "ytfaccdnnjkkcfaagreatdoor", sum := "c9bb789c73e8034037826ed6e3bb84b9c71dc749a81b99d33c391b55b3c0658e", func := "spinney/spinneylaw15.BuildCubes", spec := "buildCubes", inPlace := ["sync/atomic.AddInt64", "sync/atomic.LoadUint64", "sync/atomic.CompareAndSwapUint64", "sync/atomic.StoreUint64"], unfollowed := true, recurses := true, named := ["spinney/truth.columns"], apart := false, laid := [("spinney/truth.columns", laid_spinney_truth_columns)] }
def BuildCubesSaid : Prop := buildCubesRow.holds Tryz.pinned (OpenSpec.ofChange buildCubesSpec)

/-- ITS FALSE NEIGHBOUR: 'it returns false'. Refute it at one input. -/
def buildCubesWrong : ChangeSpec := { name := "buildCubes", fn := fun _ => fun
  | [d1, d2, d3, d4] => { results := [.lit (.bool false)], args := [d1, d2, d3, d4] }
  | _ => none }
def BuildCubesWrongFalsely : Prop := buildCubesRow.holds Tryz.pinned (OpenSpec.ofChange buildCubesWrong)

/-- 'spinneylaw15.BuildSame': WHATEVER THE INPUT: true; the input reads as it did. -/
def buildSameSpec : ChangeSpec := { name := "buildSame", fn := fun _ => fun
  | [d1, d2] => { results := [.lit (.bool true)], args := [d1, d2] }
  | _ => none }
def buildSameRow : OpenClaim := { program := "ytfaccdnnjkkcfaagreatdoor", sum := "c9bb789c73e8034037826ed6e3bb84b9c71dc749a81b99d33c391b55b3c0658e", func := "spinney/spinneylaw15.BuildSame", spec := "buildSame", inPlace := ["sync/atomic.AddInt64", "sync/atomic.LoadUint64", "sync/atomic.CompareAndSwapUint64", "sync/atomic.StoreUint64"], unfollowed := true, recurses := true, named := ["spinney/truth.columns"], apart := false, laid := [("spinney/truth.columns", laid_spinney_truth_columns)] }
def BuildSameSaid : Prop := buildSameRow.holds Tryz.pinned (OpenSpec.ofChange buildSameSpec)

/-- ITS FALSE NEIGHBOUR: 'it returns false'. Refute it at one input. -/
def buildSameWrong : ChangeSpec := { name := "buildSame", fn := fun _ => fun
  | [d1, d2] => { results := [.lit (.bool false)], args := [d1, d2] }
  | _ => none }
def BuildSameWrongFalsely : Prop := buildSameRow.holds Tryz.pinned (OpenSpec.ofChange buildSameWrong)

/-- 'spinneylaw15.BuildPathsUp': WHATEVER THE INPUT: true; the input reads as it did. -/
def buildPathsUpSpec : ChangeSpec := { name := "buildPathsUp", fn := fun _ => fun
  | [d] => { results := [.lit (.bool true)], args := [d] }
  | _ => none }
def buildPathsUpRow : OpenClaim := { program := "ytfaccdnnjkkcfaagreatdoor", sum := "c9bb789c73e8034037826ed6e3bb84b9c71dc749a81b99d33c391b55b3c0658e", func := "spinney/spinneylaw15.BuildPathsUp", spec := "buildPathsUp", inPlace := ["sync/atomic.AddInt64", "sync/atomic.LoadUint64", "sync/atomic.CompareAndSwapUint64", "sync/atomic.StoreUint64"], unfollowed := true, recurses := true, named := ["spinney/truth.columns"], apart := false, laid := [("spinney/truth.columns", laid_spinney_truth_columns)] }
def BuildPathsUpSaid : Prop := buildPathsUpRow.holds Tryz.pinned (OpenSpec.ofChange buildPathsUpSpec)

/-- ITS FALSE NEIGHBOUR: 'it returns false'. Refute it at one input. -/
def buildPathsUpWrong : ChangeSpec := { name := "buildPathsUp", fn := fun _ => fun
  | [d] => { results := [.lit (.bool false)], args := [d] }
  | _ => none }
def BuildPathsUpWrongFalsely : Prop := buildPathsUpRow.holds Tryz.pinned (OpenSpec.ofChange buildPathsUpWrong)

/- THE SECOND FORM. 'bulk': how many values and letters a reading holds, each counted each time it is reached (what is shared counts as often as it is met; a slice's spare places count too). A statement '..UptoSaid' is the law's where the arguments, and the package variables that the reading takes, are together of bulk at most 1048576: NARROWER than '..Said'. Prove '..Said' where nothing that the law and all that it calls make is longer than what came in: it says more and counts as full. Else prove '..UptoSaid'. A law counts once. -/
mutual
def uptoBulk {H : Type} : DataW H → Nat
  | .lit (.string bytes) => bytes.length + 1
  | .lit _ => 1
  | .nil => 1
  | .ptr d => uptoBulk d + 1
  | .slice elems spare => uptoBulkAll elems + uptoBulkAll spare + 1
  | .agg parts => uptoBulkAll parts + 1
  | .iface _ d => uptoBulk d + 1
  | .map entries => uptoBulkEntries entries + 1
  | .held _ => 1
def uptoBulkAll {H : Type} : List (DataW H) → Nat
  | [] => 0
  | d :: r => uptoBulk d + uptoBulkAll r
def uptoBulkEntries {H : Type} : List (Lit × DataW H) → Nat
  | [] => 0
  | x :: r => uptoBulkEntry x + uptoBulkEntries r
def uptoBulkEntry {H : Type} : Lit × DataW H → Nat
  | (.string bytes, d) => bytes.length + uptoBulk d + 1
  | (_, d) => uptoBulk d + 1
 end
def uptoSmall : (H : Type) → List (DataW H) → Bool := fun _ ds => decide (uptoBulkAll ds ≤ 1048576)
def OpenSpec.upto (s : _root_.Go.ChangeSpec) : _root_.Go.OpenSpec := { _root_.Go.OpenSpec.ofChange s with cond := some uptoSmall }

/-- 'spinneylaw15.BuildTells', WHERE WHAT IT READS IS OF BULK AT MOST 1048576: true; the input reads as it did. -/
def buildTellsUptoRow : OpenClaim := { program := "ytfaccdnnjkkcfaagreatdoor", sum := "c9bb789c73e8034037826ed6e3bb84b9c71dc749a81b99d33c391b55b3c0658e", func := "spinney/spinneylaw15.BuildTells", spec := "buildTells", inPlace := ["sync/atomic.AddInt64", "sync/atomic.LoadUint64", "sync/atomic.CompareAndSwapUint64", "sync/atomic.StoreUint64"], unfollowed := true, recurses := true, named := ["spinney/truth.columns"], apart := false, laid := [("spinney/truth.columns", laid_spinney_truth_columns)], narrowed := true }
def BuildTellsUptoSaid : Prop := buildTellsUptoRow.holds Tryz.pinned (OpenSpec.upto buildTellsSpec)

/-- 'spinneylaw15.BuildPaths', WHERE WHAT IT READS IS OF BULK AT MOST 1048576: true; the input reads as it did. -/
def buildPathsUptoRow : OpenClaim := { program := "ytfaccdnnjkkcfaagreatdoor", sum := "c9bb789c73e8034037826ed6e3bb84b9c71dc749a81b99d33c391b55b3c0658e", func := "spinney/spinneylaw15.BuildPaths", spec := "buildPaths", inPlace := ["sync/atomic.AddInt64", "sync/atomic.LoadUint64", "sync/atomic.CompareAndSwapUint64", "sync/atomic.StoreUint64"], unfollowed := true, recurses := true, named := ["spinney/truth.columns"], apart := false, laid := [("spinney/truth.columns", laid_spinney_truth_columns)], narrowed := true }
def BuildPathsUptoSaid : Prop := buildPathsUptoRow.holds Tryz.pinned (OpenSpec.upto buildPathsSpec)

/-- 'spinneylaw15.BuildCubes', WHERE WHAT IT READS IS OF BULK AT MOST 1048576: true; the input reads as it did. -/
def buildCubesUptoRow : OpenClaim := { program := "ytfaccdnnjkkcfaagreatdoor", sum := "c9bb789c73e8034037826ed6e3bb84b9c71dc749a81b99d33c391b55b3c0658e", func := "spinney/spinneylaw15.BuildCubes", spec := "buildCubes", inPlace := ["sync/atomic.AddInt64", "sync/atomic.LoadUint64", "sync/atomic.CompareAndSwapUint64", "sync/atomic.StoreUint64"], unfollowed := true, recurses := true, named := ["spinney/truth.columns"], apart := false, laid := [("spinney/truth.columns", laid_spinney_truth_columns)], narrowed := true }
def BuildCubesUptoSaid : Prop := buildCubesUptoRow.holds Tryz.pinned (OpenSpec.upto buildCubesSpec)

/-- 'spinneylaw15.BuildSame', WHERE WHAT IT READS IS OF BULK AT MOST 1048576: true; the input reads as it did. -/
def buildSameUptoRow : OpenClaim := { program := "ytfaccdnnjkkcfaagreatdoor", sum := "c9bb789c73e8034037826ed6e3bb84b9c71dc749a81b99d33c391b55b3c0658e", func := "spinney/spinneylaw15.BuildSame", spec := "buildSame", inPlace := ["sync/atomic.AddInt64", "sync/atomic.LoadUint64", "sync/atomic.CompareAndSwapUint64", "sync/atomic.StoreUint64"], unfollowed := true, recurses := true, named := ["spinney/truth.columns"], apart := false, laid := [("spinney/truth.columns", laid_spinney_truth_columns)], narrowed := true }
def BuildSameUptoSaid : Prop := buildSameUptoRow.holds Tryz.pinned (OpenSpec.upto buildSameSpec)

/-- 'spinneylaw15.BuildPathsUp', WHERE WHAT IT READS IS OF BULK AT MOST 1048576: true; the input reads as it did. -/
def buildPathsUpUptoRow : OpenClaim := { program := "ytfaccdnnjkkcfaagreatdoor", sum := "c9bb789c73e8034037826ed6e3bb84b9c71dc749a81b99d33c391b55b3c0658e", func := "spinney/spinneylaw15.BuildPathsUp", spec := "buildPathsUp", inPlace := ["sync/atomic.AddInt64", "sync/atomic.LoadUint64", "sync/atomic.CompareAndSwapUint64", "sync/atomic.StoreUint64"], unfollowed := true, recurses := true, named := ["spinney/truth.columns"], apart := false, laid := [("spinney/truth.columns", laid_spinney_truth_columns)], narrowed := true }
def BuildPathsUpUptoSaid : Prop := buildPathsUpUptoRow.holds Tryz.pinned (OpenSpec.upto buildPathsUpSpec)

end Rows
end Go.Proofs.YtfaccdnnjkkcfaaGreatDoor
