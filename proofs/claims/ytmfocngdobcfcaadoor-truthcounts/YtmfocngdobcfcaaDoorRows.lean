/-
  NARROWER THAN 'FOR EVERY INPUT', by the rows' own cells (each row's printed sentence says how): TruthTells: laid · TruthCounts: laid · TruthPoints: laid · TruthSteps: laid · TruthRing: laid · TruthQuants: laid.
  DERIVED. THE GIVEN ROWS OF THIS SEAT. 6 by the template 'for every input the law returns true; each argument reads behind the call as it read before'; 0 by the template 'total and deterministic' (their statements: YtmfocngdobcfcaaDoorTotals.lean).
  GIVEN WITH THE SEED: the statements are not yours to turn. If you find one false, say at which input.
  Laid BY PROGRAM, IN A SANDBOX (cutbox-rows.mjs): the forced cells as the released guide's own fill.sh prints them over the translation 7cde039edee2d4df… (all of the seat's roots in one cut). By AI agents, Wed Nov 11 2026. No macro, syntax, notation, axiom, sorry.
-/
import Derived.Test.YtmfocngdobcfcaaDoorChecked
import GoSem.Claim
import GoSem.ClaimJoined
import GoSem.ClaimMapViews
import Derived.JoinedTies
import Derived.KernelRfl
namespace Go.Proofs.YtmfocngdobcfcaaDoor
/- THE CELL 'sum', in the pinned program and in every row, IS THE sha256 OF THE DUMP (.gsa) THAT YtmfocngdobcfcaaDoorProg.lean LOADS. Nothing in Lean hashes anything: it is a label: what it is worth is what the hold of that sum in a sandbox is worth. -/
noncomputable def Tryd.pinned : Pinned := { name := "ytmfocngdobcfcaadoor", sum := "7cde039edee2d4dfd56495ed64fe061347f92e690a7bf8c1b07b7b8203ad0779", checked := Tryd.checked }
namespace Rows
def none {H : Type} : Left H := { results := [], args := [] }

/- WHAT THE LISTED PACKAGE-LEVEL VARIABLES READ AS WHEN THE CALL BEGINS. Each datum BY PROGRAM (the guide's laid-datum.mjs) off the statement by which the dump's own 'gosem.cut.vars' lays the variable. In a bare row this is a premise. The card (YtmfocngdobcfcaaDoorCards.lean) ties it to the program's text. -/
def laid_spinney_bits_groups {H : Type} : DataW H := .agg [.lit (.int .u64 6148914691236517205), .lit (.int .u64 3689348814741910323), .lit (.int .u64 1085102592571150095), .lit (.int .u64 71777214294589695), .lit (.int .u64 281470681808895), .lit (.int .u64 4294967295)]
def laid_spinney_truth_columns {H : Type} : DataW H := .agg [.agg [.lit (.int .u64 12297829382473034410), .lit (.int .u64 12297829382473034410), .lit (.int .u64 12297829382473034410), .lit (.int .u64 12297829382473034410)], .agg [.lit (.int .u64 14757395258967641292), .lit (.int .u64 14757395258967641292), .lit (.int .u64 14757395258967641292), .lit (.int .u64 14757395258967641292)], .agg [.lit (.int .u64 17361641481138401520), .lit (.int .u64 17361641481138401520), .lit (.int .u64 17361641481138401520), .lit (.int .u64 17361641481138401520)], .agg [.lit (.int .u64 18374966859414961920), .lit (.int .u64 18374966859414961920), .lit (.int .u64 18374966859414961920), .lit (.int .u64 18374966859414961920)], .agg [.lit (.int .u64 18446462603027742720), .lit (.int .u64 18446462603027742720), .lit (.int .u64 18446462603027742720), .lit (.int .u64 18446462603027742720)], .agg [.lit (.int .u64 18446744069414584320), .lit (.int .u64 18446744069414584320), .lit (.int .u64 18446744069414584320), .lit (.int .u64 18446744069414584320)], .agg [.lit (.int .u64 0), .lit (.int .u64 18446744073709551615), .lit (.int .u64 0), .lit (.int .u64 18446744073709551615)], .agg [.lit (.int .u64 0), .lit (.int .u64 0), .lit (.int .u64 18446744073709551615), .lit (.int .u64 18446744073709551615)]]

/-- 'spinneylaw3.TruthTells': WHATEVER THE INPUT: true; the input reads as it did. -/
def truthTellsSpec : ChangeSpec := { name := "truthTells", fn := fun _ => fun
  | [d1, d2, d3, d4, d5, d6, d7, d8] => { results := [.lit (.bool true)], args := [d1, d2, d3, d4, d5, d6, d7, d8] }
  | _ => none }
def truthTellsRow : OpenClaim := { program := "ytmfocngdobcfcaadoor", sum := "7cde039edee2d4dfd56495ed64fe061347f92e690a7bf8c1b07b7b8203ad0779", func := "spinney/spinneylaw3.TruthTells", spec := "truthTells", named := ["spinney/truth.columns", "spinney/bits.groups"], plainKeys := false, apart := false, laid := [("spinney/bits.groups", laid_spinney_bits_groups), ("spinney/truth.columns", laid_spinney_truth_columns)] }
def TruthTellsSaid : Prop := truthTellsRow.holds Tryd.pinned (OpenSpec.ofChange truthTellsSpec)

/-- ITS FALSE NEIGHBOUR: 'it returns false'. Refute it at one input. -/
def truthTellsWrong : ChangeSpec := { name := "truthTells", fn := fun _ => fun
  | [d1, d2, d3, d4, d5, d6, d7, d8] => { results := [.lit (.bool false)], args := [d1, d2, d3, d4, d5, d6, d7, d8] }
  | _ => none }
def TruthTellsWrongFalsely : Prop := truthTellsRow.holds Tryd.pinned (OpenSpec.ofChange truthTellsWrong)

/-- 'spinneylaw3.TruthCounts': WHATEVER THE INPUT: true; the input reads as it did. -/
def truthCountsSpec : ChangeSpec := { name := "truthCounts", fn := fun _ => fun
  | [d1, d2, d3] => { results := [.lit (.bool true)], args := [d1, d2, d3] }
  | _ => none }
def truthCountsRow : OpenClaim := { program := "ytmfocngdobcfcaadoor", sum := "7cde039edee2d4dfd56495ed64fe061347f92e690a7bf8c1b07b7b8203ad0779", func := "spinney/spinneylaw3.TruthCounts", spec := "truthCounts", named := ["spinney/truth.columns", "spinney/bits.groups"], plainKeys := false, apart := false, laid := [("spinney/bits.groups", laid_spinney_bits_groups), ("spinney/truth.columns", laid_spinney_truth_columns)] }
def TruthCountsSaid : Prop := truthCountsRow.holds Tryd.pinned (OpenSpec.ofChange truthCountsSpec)

/-- ITS FALSE NEIGHBOUR: 'it returns false'. Refute it at one input. -/
def truthCountsWrong : ChangeSpec := { name := "truthCounts", fn := fun _ => fun
  | [d1, d2, d3] => { results := [.lit (.bool false)], args := [d1, d2, d3] }
  | _ => none }
def TruthCountsWrongFalsely : Prop := truthCountsRow.holds Tryd.pinned (OpenSpec.ofChange truthCountsWrong)

/-- 'spinneylaw3.TruthPoints': WHATEVER THE INPUT: true; the input reads as it did. -/
def truthPointsSpec : ChangeSpec := { name := "truthPoints", fn := fun _ => fun
  | [d1, d2, d3, d4, d5] => { results := [.lit (.bool true)], args := [d1, d2, d3, d4, d5] }
  | _ => none }
def truthPointsRow : OpenClaim := { program := "ytmfocngdobcfcaadoor", sum := "7cde039edee2d4dfd56495ed64fe061347f92e690a7bf8c1b07b7b8203ad0779", func := "spinney/spinneylaw3.TruthPoints", spec := "truthPoints", named := ["spinney/truth.columns", "spinney/bits.groups"], plainKeys := false, apart := false, laid := [("spinney/bits.groups", laid_spinney_bits_groups), ("spinney/truth.columns", laid_spinney_truth_columns)] }
def TruthPointsSaid : Prop := truthPointsRow.holds Tryd.pinned (OpenSpec.ofChange truthPointsSpec)

/-- ITS FALSE NEIGHBOUR: 'it returns false'. Refute it at one input. -/
def truthPointsWrong : ChangeSpec := { name := "truthPoints", fn := fun _ => fun
  | [d1, d2, d3, d4, d5] => { results := [.lit (.bool false)], args := [d1, d2, d3, d4, d5] }
  | _ => none }
def TruthPointsWrongFalsely : Prop := truthPointsRow.holds Tryd.pinned (OpenSpec.ofChange truthPointsWrong)

/-- 'spinneylaw3.TruthSteps': WHATEVER THE INPUT: true; the input reads as it did. -/
def truthStepsSpec : ChangeSpec := { name := "truthSteps", fn := fun _ => fun
  | [d1, d2, d3] => { results := [.lit (.bool true)], args := [d1, d2, d3] }
  | _ => none }
def truthStepsRow : OpenClaim := { program := "ytmfocngdobcfcaadoor", sum := "7cde039edee2d4dfd56495ed64fe061347f92e690a7bf8c1b07b7b8203ad0779", func := "spinney/spinneylaw3.TruthSteps", spec := "truthSteps", named := ["spinney/truth.columns", "spinney/bits.groups"], plainKeys := false, apart := false, laid := [("spinney/bits.groups", laid_spinney_bits_groups), ("spinney/truth.columns", laid_spinney_truth_columns)] }
def TruthStepsSaid : Prop := truthStepsRow.holds Tryd.pinned (OpenSpec.ofChange truthStepsSpec)

/-- ITS FALSE NEIGHBOUR: 'it returns false'. Refute it at one input. -/
def truthStepsWrong : ChangeSpec := { name := "truthSteps", fn := fun _ => fun
  | [d1, d2, d3] => { results := [.lit (.bool false)], args := [d1, d2, d3] }
  | _ => none }
def TruthStepsWrongFalsely : Prop := truthStepsRow.holds Tryd.pinned (OpenSpec.ofChange truthStepsWrong)

/-- 'spinneylaw3.TruthRing': WHATEVER THE INPUT: true; the input reads as it did. -/
def truthRingSpec : ChangeSpec := { name := "truthRing", fn := fun _ => fun
  | [d1, d2, d3] => { results := [.lit (.bool true)], args := [d1, d2, d3] }
  | _ => none }
def truthRingRow : OpenClaim := { program := "ytmfocngdobcfcaadoor", sum := "7cde039edee2d4dfd56495ed64fe061347f92e690a7bf8c1b07b7b8203ad0779", func := "spinney/spinneylaw3.TruthRing", spec := "truthRing", named := ["spinney/truth.columns", "spinney/bits.groups"], plainKeys := false, apart := false, laid := [("spinney/bits.groups", laid_spinney_bits_groups), ("spinney/truth.columns", laid_spinney_truth_columns)] }
def TruthRingSaid : Prop := truthRingRow.holds Tryd.pinned (OpenSpec.ofChange truthRingSpec)

/-- ITS FALSE NEIGHBOUR: 'it returns false'. Refute it at one input. -/
def truthRingWrong : ChangeSpec := { name := "truthRing", fn := fun _ => fun
  | [d1, d2, d3] => { results := [.lit (.bool false)], args := [d1, d2, d3] }
  | _ => none }
def TruthRingWrongFalsely : Prop := truthRingRow.holds Tryd.pinned (OpenSpec.ofChange truthRingWrong)

/-- 'spinneylaw3.TruthQuants': WHATEVER THE INPUT: true; the input reads as it did. -/
def truthQuantsSpec : ChangeSpec := { name := "truthQuants", fn := fun _ => fun
  | [d1, d2, d3, d4] => { results := [.lit (.bool true)], args := [d1, d2, d3, d4] }
  | _ => none }
def truthQuantsRow : OpenClaim := { program := "ytmfocngdobcfcaadoor", sum := "7cde039edee2d4dfd56495ed64fe061347f92e690a7bf8c1b07b7b8203ad0779", func := "spinney/spinneylaw3.TruthQuants", spec := "truthQuants", named := ["spinney/truth.columns", "spinney/bits.groups"], plainKeys := false, apart := false, laid := [("spinney/bits.groups", laid_spinney_bits_groups), ("spinney/truth.columns", laid_spinney_truth_columns)] }
def TruthQuantsSaid : Prop := truthQuantsRow.holds Tryd.pinned (OpenSpec.ofChange truthQuantsSpec)

/-- ITS FALSE NEIGHBOUR: 'it returns false'. Refute it at one input. -/
def truthQuantsWrong : ChangeSpec := { name := "truthQuants", fn := fun _ => fun
  | [d1, d2, d3, d4] => { results := [.lit (.bool false)], args := [d1, d2, d3, d4] }
  | _ => none }
def TruthQuantsWrongFalsely : Prop := truthQuantsRow.holds Tryd.pinned (OpenSpec.ofChange truthQuantsWrong)

/- THE SECOND FORM. 'bulk': how many values and letters a reading holds, each counted each time it is reached (what is shared counts as often as it is met; a slice's spare places count too). A statement '..UptoSaid' is the law's where the arguments, and the package variables that the reading takes, are together of bulk at most 1048576: NARROWER than '..Said'. Prove '..Said' where nothing that the law and all that it calls make is longer than what came in: it says more and counts as full. Else prove '..UptoSaid'. A law counts once. -/
mutual
def uptoBulk {H : Type} : DataW H → Nat
  | .lit (.string bytes) => bytes.length + 1
  | .lit _ => 1
  | .nil => 1
  | .ptr d => uptoBulk d + 1
  | .slice elems spare => uptoBulkAll elems + uptoBulkAll spare + 1
  | .agg parts => uptoBulkAll parts + 1
  | .iface _ d => uptoBulk d + 1
  | .map entries => uptoBulkEntries entries + 1
  | .held _ => 1
def uptoBulkAll {H : Type} : List (DataW H) → Nat
  | [] => 0
  | d :: r => uptoBulk d + uptoBulkAll r
def uptoBulkEntries {H : Type} : List (Lit × DataW H) → Nat
  | [] => 0
  | x :: r => uptoBulkEntry x + uptoBulkEntries r
def uptoBulkEntry {H : Type} : Lit × DataW H → Nat
  | (.string bytes, d) => bytes.length + uptoBulk d + 1
  | (_, d) => uptoBulk d + 1
 end
def uptoSmall : (H : Type) → List (DataW H) → Bool := fun _ ds => decide (uptoBulkAll ds ≤ 1048576)
def OpenSpec.upto (s : _root_.Go.ChangeSpec) : _root_.Go.OpenSpec := { _root_.Go.OpenSpec.ofChange s with cond := some uptoSmall }

/-- 'spinneylaw3.TruthTells', WHERE WHAT IT READS IS OF BULK AT MOST 1048576: true; the input reads as it did. -/
def truthTellsUptoRow : OpenClaim := { program := "ytmfocngdobcfcaadoor", sum := "7cde039edee2d4dfd56495ed64fe061347f92e690a7bf8c1b07b7b8203ad0779", func := "spinney/spinneylaw3.TruthTells", spec := "truthTells", named := ["spinney/truth.columns", "spinney/bits.groups"], plainKeys := false, apart := false, laid := [("spinney/bits.groups", laid_spinney_bits_groups), ("spinney/truth.columns", laid_spinney_truth_columns)], narrowed := true }
def TruthTellsUptoSaid : Prop := truthTellsUptoRow.holds Tryd.pinned (OpenSpec.upto truthTellsSpec)

/-- 'spinneylaw3.TruthCounts', WHERE WHAT IT READS IS OF BULK AT MOST 1048576: true; the input reads as it did. -/
def truthCountsUptoRow : OpenClaim := { program := "ytmfocngdobcfcaadoor", sum := "7cde039edee2d4dfd56495ed64fe061347f92e690a7bf8c1b07b7b8203ad0779", func := "spinney/spinneylaw3.TruthCounts", spec := "truthCounts", named := ["spinney/truth.columns", "spinney/bits.groups"], plainKeys := false, apart := false, laid := [("spinney/bits.groups", laid_spinney_bits_groups), ("spinney/truth.columns", laid_spinney_truth_columns)], narrowed := true }
def TruthCountsUptoSaid : Prop := truthCountsUptoRow.holds Tryd.pinned (OpenSpec.upto truthCountsSpec)

/-- 'spinneylaw3.TruthPoints', WHERE WHAT IT READS IS OF BULK AT MOST 1048576: true; the input reads as it did. -/
def truthPointsUptoRow : OpenClaim := { program := "ytmfocngdobcfcaadoor", sum := "7cde039edee2d4dfd56495ed64fe061347f92e690a7bf8c1b07b7b8203ad0779", func := "spinney/spinneylaw3.TruthPoints", spec := "truthPoints", named := ["spinney/truth.columns", "spinney/bits.groups"], plainKeys := false, apart := false, laid := [("spinney/bits.groups", laid_spinney_bits_groups), ("spinney/truth.columns", laid_spinney_truth_columns)], narrowed := true }
def TruthPointsUptoSaid : Prop := truthPointsUptoRow.holds Tryd.pinned (OpenSpec.upto truthPointsSpec)

/-- 'spinneylaw3.TruthSteps', WHERE WHAT IT READS IS OF BULK AT MOST 1048576: true; the input reads as it did. -/
def truthStepsUptoRow : OpenClaim := { program := "ytmfocngdobcfcaadoor", sum := "7cde039edee2d4dfd56495ed64fe061347f92e690a7bf8c1b07b7b8203ad0779", func := "spinney/spinneylaw3.TruthSteps", spec := "truthSteps", named := ["spinney/truth.columns", "spinney/bits.groups"], plainKeys := false, apart := false, laid := [("spinney/bits.groups", laid_spinney_bits_groups), ("spinney/truth.columns", laid_spinney_truth_columns)], narrowed := true }
def TruthStepsUptoSaid : Prop := truthStepsUptoRow.holds Tryd.pinned (OpenSpec.upto truthStepsSpec)

/-- 'spinneylaw3.TruthRing', WHERE WHAT IT READS IS OF BULK AT MOST 1048576: true; the input reads as it did. -/
def truthRingUptoRow : OpenClaim := { program := "ytmfocngdobcfcaadoor", sum := "7cde039edee2d4dfd56495ed64fe061347f92e690a7bf8c1b07b7b8203ad0779", func := "spinney/spinneylaw3.TruthRing", spec := "truthRing", named := ["spinney/truth.columns", "spinney/bits.groups"], plainKeys := false, apart := false, laid := [("spinney/bits.groups", laid_spinney_bits_groups), ("spinney/truth.columns", laid_spinney_truth_columns)], narrowed := true }
def TruthRingUptoSaid : Prop := truthRingUptoRow.holds Tryd.pinned (OpenSpec.upto truthRingSpec)

/-- 'spinneylaw3.TruthQuants', WHERE WHAT IT READS IS OF BULK AT MOST 1048576: true; the input reads as it did. -/
def truthQuantsUptoRow : OpenClaim := { program := "ytmfocngdobcfcaadoor", sum := "7cde039edee2d4dfd56495ed64fe061347f92e690a7bf8c1b07b7b8203ad0779", func := "spinney/spinneylaw3.TruthQuants", spec := "truthQuants", named := ["spinney/truth.columns", "spinney/bits.groups"], plainKeys := false, apart := false, laid := [("spinney/bits.groups", laid_spinney_bits_groups), ("spinney/truth.columns", laid_spinney_truth_columns)], narrowed := true }
def TruthQuantsUptoSaid : Prop := truthQuantsUptoRow.holds Tryd.pinned (OpenSpec.upto truthQuantsSpec)

end Rows
end Go.Proofs.YtmfocngdobcfcaaDoor
