/-
  NARROWER THAN 'FOR EVERY INPUT', by the rows' own cells (each row's printed sentence says how): TruthCountsUp: laid · TruthSizes: laid · TruthRels: laid.
  DERIVED. THE GIVEN ROWS OF THIS SEAT. 3 by the template 'for every input the law returns true; each argument reads behind the call as it read before'; 0 by the template 'total and deterministic' (their statements: YtmfocngdobcfcabDoorTotals.lean).
  GIVEN WITH THE SEED: the statements are not yours to turn. If you find one false, say at which input.
  Laid BY PROGRAM, IN A SANDBOX (cutbox-rows.mjs): the forced cells as the released guide's own fill.sh prints them over the translation 1e7d15299f3d027c… (all of the seat's roots in one cut). By AI agents, Wed Nov 11 2026. No macro, syntax, notation, axiom, sorry.
-/
import Derived.Test.YtmfocngdobcfcabDoorChecked
import GoSem.Claim
import GoSem.ClaimJoined
import GoSem.ClaimMapViews
import Derived.JoinedTies
import Derived.KernelRfl
namespace Go.Proofs.YtmfocngdobcfcabDoor
/- THE CELL 'sum', in the pinned program and in every row, IS THE sha256 OF THE DUMP (.gsa) THAT YtmfocngdobcfcabDoorProg.lean LOADS. Nothing in Lean hashes anything: it is a label: what it is worth is what the hold of that sum in a sandbox is worth. -/
noncomputable def Tryd.pinned : Pinned := { name := "ytmfocngdobcfcabdoor", sum := "1e7d15299f3d027c2ca4a7d910872e64217ae6f14d369a04c5d3a702a29e2339", checked := Tryd.checked }
namespace Rows
def none {H : Type} : Left H := { results := [], args := [] }

/- WHAT THE LISTED PACKAGE-LEVEL VARIABLES READ AS WHEN THE CALL BEGINS. Each datum BY PROGRAM (the guide's laid-datum.mjs) off the statement by which the dump's own 'gosem.cut.vars' lays the variable. In a bare row this is a premise. The card (YtmfocngdobcfcabDoorCards.lean) ties it to the program's text. -/
def laid_spinney_bits_groups {H : Type} : DataW H := .agg [.lit (.int .u64 6148914691236517205), .lit (.int .u64 3689348814741910323), .lit (.int .u64 1085102592571150095), .lit (.int .u64 71777214294589695), .lit (.int .u64 281470681808895), .lit (.int .u64 4294967295)]
def laid_spinney_truth_columns {H : Type} : DataW H := .agg [.agg [.lit (.int .u64 12297829382473034410), .lit (.int .u64 12297829382473034410), .lit (.int .u64 12297829382473034410), .lit (.int .u64 12297829382473034410)], .agg [.lit (.int .u64 14757395258967641292), .lit (.int .u64 14757395258967641292), .lit (.int .u64 14757395258967641292), .lit (.int .u64 14757395258967641292)], .agg [.lit (.int .u64 17361641481138401520), .lit (.int .u64 17361641481138401520), .lit (.int .u64 17361641481138401520), .lit (.int .u64 17361641481138401520)], .agg [.lit (.int .u64 18374966859414961920), .lit (.int .u64 18374966859414961920), .lit (.int .u64 18374966859414961920), .lit (.int .u64 18374966859414961920)], .agg [.lit (.int .u64 18446462603027742720), .lit (.int .u64 18446462603027742720), .lit (.int .u64 18446462603027742720), .lit (.int .u64 18446462603027742720)], .agg [.lit (.int .u64 18446744069414584320), .lit (.int .u64 18446744069414584320), .lit (.int .u64 18446744069414584320), .lit (.int .u64 18446744069414584320)], .agg [.lit (.int .u64 0), .lit (.int .u64 18446744073709551615), .lit (.int .u64 0), .lit (.int .u64 18446744073709551615)], .agg [.lit (.int .u64 0), .lit (.int .u64 0), .lit (.int .u64 18446744073709551615), .lit (.int .u64 18446744073709551615)]]

/-- 'spinneylaw3.TruthCountsUp': WHATEVER THE INPUT: true; the input reads as it did. -/
def truthCountsUpSpec : ChangeSpec := { name := "truthCountsUp", fn := fun _ => fun
  | [d1, d2, d3] => { results := [.lit (.bool true)], args := [d1, d2, d3] }
  | _ => none }
def truthCountsUpRow : OpenClaim := { program := "ytmfocngdobcfcabdoor", sum := "1e7d15299f3d027c2ca4a7d910872e64217ae6f14d369a04c5d3a702a29e2339", func := "spinney/spinneylaw3.TruthCountsUp", spec := "truthCountsUp", named := ["spinney/truth.columns", "spinney/bits.groups"], plainKeys := false, apart := false, laid := [("spinney/bits.groups", laid_spinney_bits_groups), ("spinney/truth.columns", laid_spinney_truth_columns)] }
def TruthCountsUpSaid : Prop := truthCountsUpRow.holds Tryd.pinned (OpenSpec.ofChange truthCountsUpSpec)

/-- ITS FALSE NEIGHBOUR: 'it returns false'. Refute it at one input. -/
def truthCountsUpWrong : ChangeSpec := { name := "truthCountsUp", fn := fun _ => fun
  | [d1, d2, d3] => { results := [.lit (.bool false)], args := [d1, d2, d3] }
  | _ => none }
def TruthCountsUpWrongFalsely : Prop := truthCountsUpRow.holds Tryd.pinned (OpenSpec.ofChange truthCountsUpWrong)

/-- 'spinneylaw3.TruthSizes': WHATEVER THE INPUT: true; the input reads as it did. -/
def truthSizesSpec : ChangeSpec := { name := "truthSizes", fn := fun _ => fun
  | [d1, d2, d3] => { results := [.lit (.bool true)], args := [d1, d2, d3] }
  | _ => none }
def truthSizesRow : OpenClaim := { program := "ytmfocngdobcfcabdoor", sum := "1e7d15299f3d027c2ca4a7d910872e64217ae6f14d369a04c5d3a702a29e2339", func := "spinney/spinneylaw3.TruthSizes", spec := "truthSizes", named := ["spinney/truth.columns", "spinney/bits.groups"], plainKeys := false, apart := false, laid := [("spinney/bits.groups", laid_spinney_bits_groups), ("spinney/truth.columns", laid_spinney_truth_columns)] }
def TruthSizesSaid : Prop := truthSizesRow.holds Tryd.pinned (OpenSpec.ofChange truthSizesSpec)

/-- ITS FALSE NEIGHBOUR: 'it returns false'. Refute it at one input. -/
def truthSizesWrong : ChangeSpec := { name := "truthSizes", fn := fun _ => fun
  | [d1, d2, d3] => { results := [.lit (.bool false)], args := [d1, d2, d3] }
  | _ => none }
def TruthSizesWrongFalsely : Prop := truthSizesRow.holds Tryd.pinned (OpenSpec.ofChange truthSizesWrong)

/-- 'spinneylaw3.TruthRels': WHATEVER THE INPUT: true; the input reads as it did. -/
def truthRelsSpec : ChangeSpec := { name := "truthRels", fn := fun _ => fun
  | [d1, d2, d3, d4] => { results := [.lit (.bool true)], args := [d1, d2, d3, d4] }
  | _ => none }
def truthRelsRow : OpenClaim := { program := "ytmfocngdobcfcabdoor", sum := "1e7d15299f3d027c2ca4a7d910872e64217ae6f14d369a04c5d3a702a29e2339", func := "spinney/spinneylaw3.TruthRels", spec := "truthRels", named := ["spinney/truth.columns", "spinney/bits.groups"], plainKeys := false, apart := false, laid := [("spinney/bits.groups", laid_spinney_bits_groups), ("spinney/truth.columns", laid_spinney_truth_columns)] }
def TruthRelsSaid : Prop := truthRelsRow.holds Tryd.pinned (OpenSpec.ofChange truthRelsSpec)

/-- ITS FALSE NEIGHBOUR: 'it returns false'. Refute it at one input. -/
def truthRelsWrong : ChangeSpec := { name := "truthRels", fn := fun _ => fun
  | [d1, d2, d3, d4] => { results := [.lit (.bool false)], args := [d1, d2, d3, d4] }
  | _ => none }
def TruthRelsWrongFalsely : Prop := truthRelsRow.holds Tryd.pinned (OpenSpec.ofChange truthRelsWrong)

/- THE SECOND FORM. 'bulk': how many values and letters a reading holds, each counted each time it is reached (what is shared counts as often as it is met; a slice's spare places count too). A statement '..UptoSaid' is the law's where the arguments, and the package variables that the reading takes, are together of bulk at most 1048576: NARROWER than '..Said'. Prove '..Said' where nothing that the law and all that it calls make is longer than what came in: it says more and counts as full. Else prove '..UptoSaid'. A law counts once. -/
mutual
def uptoBulk {H : Type} : DataW H → Nat
  | .lit (.string bytes) => bytes.length + 1
  | .lit _ => 1
  | .nil => 1
  | .ptr d => uptoBulk d + 1
  | .slice elems spare => uptoBulkAll elems + uptoBulkAll spare + 1
  | .agg parts => uptoBulkAll parts + 1
  | .iface _ d => uptoBulk d + 1
  | .map entries => uptoBulkEntries entries + 1
  | .held _ => 1
def uptoBulkAll {H : Type} : List (DataW H) → Nat
  | [] => 0
  | d :: r => uptoBulk d + uptoBulkAll r
def uptoBulkEntries {H : Type} : List (Lit × DataW H) → Nat
  | [] => 0
  | x :: r => uptoBulkEntry x + uptoBulkEntries r
def uptoBulkEntry {H : Type} : Lit × DataW H → Nat
  | (.string bytes, d) => bytes.length + uptoBulk d + 1
  | (_, d) => uptoBulk d + 1
 end
def uptoSmall : (H : Type) → List (DataW H) → Bool := fun _ ds => decide (uptoBulkAll ds ≤ 1048576)
def OpenSpec.upto (s : _root_.Go.ChangeSpec) : _root_.Go.OpenSpec := { _root_.Go.OpenSpec.ofChange s with cond := some uptoSmall }

/-- 'spinneylaw3.TruthCountsUp', WHERE WHAT IT READS IS OF BULK AT MOST 1048576: true; the input reads as it did. -/
def truthCountsUpUptoRow : OpenClaim := { program := "ytmfocngdobcfcabdoor", sum := "1e7d15299f3d027c2ca4a7d910872e64217ae6f14d369a04c5d3a702a29e2339", func := "spinney/spinneylaw3.TruthCountsUp", spec := "truthCountsUp", named := ["spinney/truth.columns", "spinney/bits.groups"], plainKeys := false, apart := false, laid := [("spinney/bits.groups", laid_spinney_bits_groups), ("spinney/truth.columns", laid_spinney_truth_columns)], narrowed := true }
def TruthCountsUpUptoSaid : Prop := truthCountsUpUptoRow.holds Tryd.pinned (OpenSpec.upto truthCountsUpSpec)

/-- 'spinneylaw3.TruthSizes', WHERE WHAT IT READS IS OF BULK AT MOST 1048576: true; the input reads as it did. -/
def truthSizesUptoRow : OpenClaim := { program := "ytmfocngdobcfcabdoor", sum := "1e7d15299f3d027c2ca4a7d910872e64217ae6f14d369a04c5d3a702a29e2339", func := "spinney/spinneylaw3.TruthSizes", spec := "truthSizes", named := ["spinney/truth.columns", "spinney/bits.groups"], plainKeys := false, apart := false, laid := [("spinney/bits.groups", laid_spinney_bits_groups), ("spinney/truth.columns", laid_spinney_truth_columns)], narrowed := true }
def TruthSizesUptoSaid : Prop := truthSizesUptoRow.holds Tryd.pinned (OpenSpec.upto truthSizesSpec)

/-- 'spinneylaw3.TruthRels', WHERE WHAT IT READS IS OF BULK AT MOST 1048576: true; the input reads as it did. -/
def truthRelsUptoRow : OpenClaim := { program := "ytmfocngdobcfcabdoor", sum := "1e7d15299f3d027c2ca4a7d910872e64217ae6f14d369a04c5d3a702a29e2339", func := "spinney/spinneylaw3.TruthRels", spec := "truthRels", named := ["spinney/truth.columns", "spinney/bits.groups"], plainKeys := false, apart := false, laid := [("spinney/bits.groups", laid_spinney_bits_groups), ("spinney/truth.columns", laid_spinney_truth_columns)], narrowed := true }
def TruthRelsUptoSaid : Prop := truthRelsUptoRow.holds Tryd.pinned (OpenSpec.upto truthRelsSpec)

end Rows
end Go.Proofs.YtmfocngdobcfcabDoor
