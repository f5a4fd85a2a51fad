/-
  No cell of these rows narrows 'for every input' (looked for: loops, veiled, ifaces, maps, wideKeys, modest, calm, conditions, laid).
  DERIVED. THE GIVEN ROWS OF THIS SEAT. 6 by the template 'for every input the law returns true; each argument reads behind the call as it read before'; 0 by the template 'total and deterministic' (their statements: YtlhanbjjlifjjaaGreatTotals.lean).
  GIVEN WITH THE SEED: the statements are not yours to turn. If you find one false, say at which input.
  Laid BY PROGRAM, IN A SANDBOX (cutbox-rows.mjs): the forced cells as the released guide's own fill.sh prints them over the translation c436864190f3aaf9… (all of the seat's roots in one cut). By AI agents, Wed Nov 11 2026. No macro, syntax, notation, axiom, sorry.
-/
import Derived.Test.YtlhanbjjlifjjaaGreatChecked
import GoSem.Claim
import GoSem.ClaimJoined
import GoSem.ClaimMapViews
import Derived.JoinedTies
import Derived.KernelRfl
namespace Go.Proofs.YtlhanbjjlifjjaaGreat
/- THE CELL 'sum', in the pinned program and in every row, IS THE sha256 OF THE DUMP (.gsa) THAT YtlhanbjjlifjjaaGreatProg.lean LOADS. Nothing in Lean hashes anything: it is a label: what it is worth is what the hold of that sum in a sandbox is worth. -/
noncomputable def Tryz.pinned : Pinned := { name := "ytlhanbjjlifjjaagreat", sum := "c436864190f3aaf930aea44353ec333e7fc10b84627104aae19a3dfbacaa278a", checked := Tryz.checked }
namespace Rows
def none {H : Type} : Left H := { results := [], args := [] }

/-- 'spinneylaw12.QuantTells': WHATEVER THE INPUT: true; the input reads as it did. -/
def quantTellsSpec : ChangeSpec := { name := "quantTells", fn := fun _ => fun
  | [d1, d2, d3, d4, d5] => { results := [.lit (.bool true)], args := [d1, d2, d3, d4, d5] }
  | _ => none }
def quantTellsRow : OpenClaim := { program := "ytlhanbjjlifjjaagreat", sum := "c436864190f3aaf930aea44353ec333e7fc10b84627104aae19a3dfbacaa278a", func := "spinney/spinneylaw12.QuantTells", spec := "quantTells", inPlace := ["sync/atomic.AddInt64", "sync/atomic.LoadUint64", "sync/atomic.CompareAndSwapUint64", "sync/atomic.StoreUint64", "sync/atomic.AddUint64"], unfollowed := true, recurses := true, apart := false }
def QuantTellsSaid : Prop := quantTellsRow.holds Tryz.pinned (OpenSpec.ofChange quantTellsSpec)

/-- ITS FALSE NEIGHBOUR: 'it returns false'. Refute it at one input. -/
def quantTellsWrong : ChangeSpec := { name := "quantTells", fn := fun _ => fun
  | [d1, d2, d3, d4, d5] => { results := [.lit (.bool false)], args := [d1, d2, d3, d4, d5] }
  | _ => none }
def QuantTellsWrongFalsely : Prop := quantTellsRow.holds Tryz.pinned (OpenSpec.ofChange quantTellsWrong)

/-- 'spinneylaw12.QuantDual': WHATEVER THE INPUT: true; the input reads as it did. -/
def quantDualSpec : ChangeSpec := { name := "quantDual", fn := fun _ => fun
  | [d1, d2, d3] => { results := [.lit (.bool true)], args := [d1, d2, d3] }
  | _ => none }
def quantDualRow : OpenClaim := { program := "ytlhanbjjlifjjaagreat", sum := "c436864190f3aaf930aea44353ec333e7fc10b84627104aae19a3dfbacaa278a", func := "spinney/spinneylaw12.QuantDual", spec := "quantDual", inPlace := ["sync/atomic.AddInt64", "sync/atomic.LoadUint64", "sync/atomic.CompareAndSwapUint64", "sync/atomic.StoreUint64"], unfollowed := true, recurses := true, apart := false }
def QuantDualSaid : Prop := quantDualRow.holds Tryz.pinned (OpenSpec.ofChange quantDualSpec)

/-- ITS FALSE NEIGHBOUR: 'it returns false'. Refute it at one input. -/
def quantDualWrong : ChangeSpec := { name := "quantDual", fn := fun _ => fun
  | [d1, d2, d3] => { results := [.lit (.bool false)], args := [d1, d2, d3] }
  | _ => none }
def QuantDualWrongFalsely : Prop := quantDualRow.holds Tryz.pinned (OpenSpec.ofChange quantDualWrong)

/-- 'spinneylaw12.QuantFull': WHATEVER THE INPUT: true; the input reads as it did. -/
def quantFullSpec : ChangeSpec := { name := "quantFull", fn := fun _ => fun
  | [d1, d2, d3, d4] => { results := [.lit (.bool true)], args := [d1, d2, d3, d4] }
  | _ => none }
def quantFullRow : OpenClaim := { program := "ytlhanbjjlifjjaagreat", sum := "c436864190f3aaf930aea44353ec333e7fc10b84627104aae19a3dfbacaa278a", func := "spinney/spinneylaw12.QuantFull", spec := "quantFull", inPlace := ["sync/atomic.AddInt64", "sync/atomic.LoadUint64", "sync/atomic.CompareAndSwapUint64", "sync/atomic.StoreUint64"], unfollowed := true, recurses := true, apart := false }
def QuantFullSaid : Prop := quantFullRow.holds Tryz.pinned (OpenSpec.ofChange quantFullSpec)

/-- ITS FALSE NEIGHBOUR: 'it returns false'. Refute it at one input. -/
def quantFullWrong : ChangeSpec := { name := "quantFull", fn := fun _ => fun
  | [d1, d2, d3, d4] => { results := [.lit (.bool false)], args := [d1, d2, d3, d4] }
  | _ => none }
def QuantFullWrongFalsely : Prop := quantFullRow.holds Tryz.pinned (OpenSpec.ofChange quantFullWrong)

/-- 'spinneylaw12.QuantSplits': WHATEVER THE INPUT: true; the input reads as it did. -/
def quantSplitsSpec : ChangeSpec := { name := "quantSplits", fn := fun _ => fun
  | [d1, d2, d3] => { results := [.lit (.bool true)], args := [d1, d2, d3] }
  | _ => none }
def quantSplitsRow : OpenClaim := { program := "ytlhanbjjlifjjaagreat", sum := "c436864190f3aaf930aea44353ec333e7fc10b84627104aae19a3dfbacaa278a", func := "spinney/spinneylaw12.QuantSplits", spec := "quantSplits", inPlace := ["sync/atomic.AddInt64", "sync/atomic.LoadUint64", "sync/atomic.CompareAndSwapUint64", "sync/atomic.StoreUint64"], unfollowed := true, recurses := true, apart := false }
def QuantSplitsSaid : Prop := quantSplitsRow.holds Tryz.pinned (OpenSpec.ofChange quantSplitsSpec)

/-- ITS FALSE NEIGHBOUR: 'it returns false'. Refute it at one input. -/
def quantSplitsWrong : ChangeSpec := { name := "quantSplits", fn := fun _ => fun
  | [d1, d2, d3] => { results := [.lit (.bool false)], args := [d1, d2, d3] }
  | _ => none }
def QuantSplitsWrongFalsely : Prop := quantSplitsRow.holds Tryz.pinned (OpenSpec.ofChange quantSplitsWrong)

/-- 'spinneylaw12.QuantJoins': WHATEVER THE INPUT: true; the input reads as it did. -/
def quantJoinsSpec : ChangeSpec := { name := "quantJoins", fn := fun _ => fun
  | [d1, d2, d3] => { results := [.lit (.bool true)], args := [d1, d2, d3] }
  | _ => none }
def quantJoinsRow : OpenClaim := { program := "ytlhanbjjlifjjaagreat", sum := "c436864190f3aaf930aea44353ec333e7fc10b84627104aae19a3dfbacaa278a", func := "spinney/spinneylaw12.QuantJoins", spec := "quantJoins", inPlace := ["sync/atomic.AddInt64", "sync/atomic.LoadUint64", "sync/atomic.CompareAndSwapUint64", "sync/atomic.StoreUint64"], unfollowed := true, recurses := true, apart := false }
def QuantJoinsSaid : Prop := quantJoinsRow.holds Tryz.pinned (OpenSpec.ofChange quantJoinsSpec)

/-- ITS FALSE NEIGHBOUR: 'it returns false'. Refute it at one input. -/
def quantJoinsWrong : ChangeSpec := { name := "quantJoins", fn := fun _ => fun
  | [d1, d2, d3] => { results := [.lit (.bool false)], args := [d1, d2, d3] }
  | _ => none }
def QuantJoinsWrongFalsely : Prop := quantJoinsRow.holds Tryz.pinned (OpenSpec.ofChange quantJoinsWrong)

/-- 'spinneylaw12.QuantFixes': WHATEVER THE INPUT: true; the input reads as it did. -/
def quantFixesSpec : ChangeSpec := { name := "quantFixes", fn := fun _ => fun
  | [d1, d2, d3] => { results := [.lit (.bool true)], args := [d1, d2, d3] }
  | _ => none }
def quantFixesRow : OpenClaim := { program := "ytlhanbjjlifjjaagreat", sum := "c436864190f3aaf930aea44353ec333e7fc10b84627104aae19a3dfbacaa278a", func := "spinney/spinneylaw12.QuantFixes", spec := "quantFixes", inPlace := ["sync/atomic.AddInt64", "sync/atomic.LoadUint64", "sync/atomic.CompareAndSwapUint64", "sync/atomic.StoreUint64"], unfollowed := true, recurses := true, apart := false }
def QuantFixesSaid : Prop := quantFixesRow.holds Tryz.pinned (OpenSpec.ofChange quantFixesSpec)

/-- ITS FALSE NEIGHBOUR: 'it returns false'. Refute it at one input. -/
def quantFixesWrong : ChangeSpec := { name := "quantFixes", fn := fun _ => fun
  | [d1, d2, d3] => { results := [.lit (.bool false)], args := [d1, d2, d3] }
  | _ => none }
def QuantFixesWrongFalsely : Prop := quantFixesRow.holds Tryz.pinned (OpenSpec.ofChange quantFixesWrong)

/- THE SECOND FORM. 'bulk': how many values and letters a reading holds, each counted each time it is reached (what is shared counts as often as it is met; a slice's spare places count too). A statement '..UptoSaid' is the law's where the arguments, and the package variables that the reading takes, are together of bulk at most 1048576: NARROWER than '..Said'. Prove '..Said' where nothing that the law and all that it calls make is longer than what came in: it says more and counts as full. Else prove '..UptoSaid'. A law counts once. -/
mutual
def uptoBulk {H : Type} : DataW H → Nat
  | .lit (.string bytes) => bytes.length + 1
  | .lit _ => 1
  | .nil => 1
  | .ptr d => uptoBulk d + 1
  | .slice elems spare => uptoBulkAll elems + uptoBulkAll spare + 1
  | .agg parts => uptoBulkAll parts + 1
  | .iface _ d => uptoBulk d + 1
  | .map entries => uptoBulkEntries entries + 1
  | .held _ => 1
def uptoBulkAll {H : Type} : List (DataW H) → Nat
  | [] => 0
  | d :: r => uptoBulk d + uptoBulkAll r
def uptoBulkEntries {H : Type} : List (Lit × DataW H) → Nat
  | [] => 0
  | x :: r => uptoBulkEntry x + uptoBulkEntries r
def uptoBulkEntry {H : Type} : Lit × DataW H → Nat
  | (.string bytes, d) => bytes.length + uptoBulk d + 1
  | (_, d) => uptoBulk d + 1
 end
def uptoSmall : (H : Type) → List (DataW H) → Bool := fun _ ds => decide (uptoBulkAll ds ≤ 1048576)
def OpenSpec.upto (s : _root_.Go.ChangeSpec) : _root_.Go.OpenSpec := { _root_.Go.OpenSpec.ofChange s with cond := some uptoSmall }

/-- 'spinneylaw12.QuantTells', WHERE WHAT IT READS IS OF BULK AT MOST 1048576: true; the input reads as it did. -/
def quantTellsUptoRow : OpenClaim := { program := "ytlhanbjjlifjjaagreat", sum := "c436864190f3aaf930aea44353ec333e7fc10b84627104aae19a3dfbacaa278a", func := "spinney/spinneylaw12.QuantTells", spec := "quantTells", inPlace := ["sync/atomic.AddInt64", "sync/atomic.LoadUint64", "sync/atomic.CompareAndSwapUint64", "sync/atomic.StoreUint64", "sync/atomic.AddUint64"], unfollowed := true, recurses := true, apart := false, narrowed := true }
def QuantTellsUptoSaid : Prop := quantTellsUptoRow.holds Tryz.pinned (OpenSpec.upto quantTellsSpec)

/-- 'spinneylaw12.QuantDual', WHERE WHAT IT READS IS OF BULK AT MOST 1048576: true; the input reads as it did. -/
def quantDualUptoRow : OpenClaim := { program := "ytlhanbjjlifjjaagreat", sum := "c436864190f3aaf930aea44353ec333e7fc10b84627104aae19a3dfbacaa278a", func := "spinney/spinneylaw12.QuantDual", spec := "quantDual", inPlace := ["sync/atomic.AddInt64", "sync/atomic.LoadUint64", "sync/atomic.CompareAndSwapUint64", "sync/atomic.StoreUint64"], unfollowed := true, recurses := true, apart := false, narrowed := true }
def QuantDualUptoSaid : Prop := quantDualUptoRow.holds Tryz.pinned (OpenSpec.upto quantDualSpec)

/-- 'spinneylaw12.QuantFull', WHERE WHAT IT READS IS OF BULK AT MOST 1048576: true; the input reads as it did. -/
def quantFullUptoRow : OpenClaim := { program := "ytlhanbjjlifjjaagreat", sum := "c436864190f3aaf930aea44353ec333e7fc10b84627104aae19a3dfbacaa278a", func := "spinney/spinneylaw12.QuantFull", spec := "quantFull", inPlace := ["sync/atomic.AddInt64", "sync/atomic.LoadUint64", "sync/atomic.CompareAndSwapUint64", "sync/atomic.StoreUint64"], unfollowed := true, recurses := true, apart := false, narrowed := true }
def QuantFullUptoSaid : Prop := quantFullUptoRow.holds Tryz.pinned (OpenSpec.upto quantFullSpec)

/-- 'spinneylaw12.QuantSplits', WHERE WHAT IT READS IS OF BULK AT MOST 1048576: true; the input reads as it did. -/
def quantSplitsUptoRow : OpenClaim := { program := "ytlhanbjjlifjjaagreat", sum := "c436864190f3aaf930aea44353ec333e7fc10b84627104aae19a3dfbacaa278a", func := "spinney/spinneylaw12.QuantSplits", spec := "quantSplits", inPlace := ["sync/atomic.AddInt64", "sync/atomic.LoadUint64", "sync/atomic.CompareAndSwapUint64", "sync/atomic.StoreUint64"], unfollowed := true, recurses := true, apart := false, narrowed := true }
def QuantSplitsUptoSaid : Prop := quantSplitsUptoRow.holds Tryz.pinned (OpenSpec.upto quantSplitsSpec)

/-- 'spinneylaw12.QuantJoins', WHERE WHAT IT READS IS OF BULK AT MOST 1048576: true; the input reads as it did. -/
def quantJoinsUptoRow : OpenClaim := { program := "ytlhanbjjlifjjaagreat", sum := "c436864190f3aaf930aea44353ec333e7fc10b84627104aae19a3dfbacaa278a", func := "spinney/spinneylaw12.QuantJoins", spec := "quantJoins", inPlace := ["sync/atomic.AddInt64", "sync/atomic.LoadUint64", "sync/atomic.CompareAndSwapUint64", "sync/atomic.StoreUint64"], unfollowed := true, recurses := true, apart := false, narrowed := true }
def QuantJoinsUptoSaid : Prop := quantJoinsUptoRow.holds Tryz.pinned (OpenSpec.upto quantJoinsSpec)

/-- 'spinneylaw12.QuantFixes', WHERE WHAT IT READS IS OF BULK AT MOST 1048576: true; the input reads as it did. -/
def quantFixesUptoRow : OpenClaim := { program := "ytlhanbjjlifjjaagreat", sum := "c436864190f3aaf930aea44353ec333e7fc10b84627104aae19a3dfbacaa278a", func := "spinney/spinneylaw12.QuantFixes", spec := "quantFixes", inPlace := ["sync/atomic.AddInt64", "sync/atomic.LoadUint64", "sync/atomic.CompareAndSwapUint64", "sync/atomic.StoreUint64"], unfollowed := true, recurses := true, apart := false, narrowed := true }
def QuantFixesUptoSaid : Prop := quantFixesUptoRow.holds Tryz.pinned (OpenSpec.upto quantFixesSpec)

end Rows
end Go.Proofs.YtlhanbjjlifjjaaGreat
