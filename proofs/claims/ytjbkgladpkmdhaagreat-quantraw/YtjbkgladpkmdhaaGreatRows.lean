/-
  No cell of these rows narrows 'for every input' (looked for: loops, veiled, ifaces, maps, wideKeys, modest, calm, conditions, laid).
  DERIVED. THE GIVEN ROWS OF THIS SEAT. 3 by the template 'for every input the law returns true; each argument reads behind the call as it read before'; 0 by the template 'total and deterministic' (their statements: YtjbkgladpkmdhaaGreatTotals.lean).
  GIVEN WITH THE SEED: the statements are not yours to turn. If you find one false, say at which input.
  Laid BY PROGRAM, IN A SANDBOX (cutbox-rows.mjs): the forced cells as the released guide's own fill.sh prints them over the translation ec4e14a3cdea00bb… (all of the seat's roots in one cut). By AI agents, Wed Nov 11 2026. No macro, syntax, notation, axiom, sorry.
-/
import Derived.Test.YtjbkgladpkmdhaaGreatChecked
import GoSem.Claim
import GoSem.ClaimJoined
import GoSem.ClaimMapViews
import Derived.JoinedTies
import Derived.KernelRfl
namespace Go.Proofs.YtjbkgladpkmdhaaGreat
/- THE CELL 'sum', in the pinned program and in every row, IS THE sha256 OF THE DUMP (.gsa) THAT YtjbkgladpkmdhaaGreatProg.lean LOADS. Nothing in Lean hashes anything: it is a label: what it is worth is what the hold of that sum in a sandbox is worth. -/
noncomputable def Tryz.pinned : Pinned := { name := "ytjbkgladpkmdhaagreat", sum := "ec4e14a3cdea00bb8dd9ae3a9ba07eca58a0ce5b6e0c84f1883226d419b7cddc", checked := Tryz.checked }
namespace Rows
def none {H : Type} : Left H := { results := [], args := [] }

/-- 'spinneylaw12.QuantTells': WHATEVER THE INPUT: true; the input reads as it did. -/
def quantTellsSpec : ChangeSpec := { name := "quantTells", fn := fun _ => fun
  | [d1, d2, d3, d4, d5] => { results := [.lit (.bool true)], args := [d1, d2, d3, d4, d5] }
  | _ => none }
def quantTellsRow : OpenClaim := { program := "ytjbkgladpkmdhaagreat", sum := "ec4e14a3cdea00bb8dd9ae3a9ba07eca58a0ce5b6e0c84f1883226d419b7cddc", func := "spinney/spinneylaw12.QuantTells", spec := "quantTells", inPlace := ["sync/atomic.AddInt64", "sync/atomic.LoadUint64", "sync/atomic.CompareAndSwapUint64", "sync/atomic.StoreUint64", "sync/atomic.AddUint64"], unfollowed := true, recurses := true, apart := false }
def QuantTellsSaid : Prop := quantTellsRow.holds Tryz.pinned (OpenSpec.ofChange quantTellsSpec)

/-- ITS FALSE NEIGHBOUR: 'it returns false'. Refute it at one input. -/
def quantTellsWrong : ChangeSpec := { name := "quantTells", fn := fun _ => fun
  | [d1, d2, d3, d4, d5] => { results := [.lit (.bool false)], args := [d1, d2, d3, d4, d5] }
  | _ => none }
def QuantTellsWrongFalsely : Prop := quantTellsRow.holds Tryz.pinned (OpenSpec.ofChange quantTellsWrong)

/-- 'spinneylaw12.QuantFull': WHATEVER THE INPUT: true; the input reads as it did. -/
def quantFullSpec : ChangeSpec := { name := "quantFull", fn := fun _ => fun
  | [d1, d2, d3, d4] => { results := [.lit (.bool true)], args := [d1, d2, d3, d4] }
  | _ => none }
def quantFullRow : OpenClaim := { program := "ytjbkgladpkmdhaagreat", sum := "ec4e14a3cdea00bb8dd9ae3a9ba07eca58a0ce5b6e0c84f1883226d419b7cddc", func := "spinney/spinneylaw12.QuantFull", spec := "quantFull", inPlace := ["sync/atomic.AddInt64", "sync/atomic.LoadUint64", "sync/atomic.CompareAndSwapUint64", "sync/atomic.StoreUint64"], unfollowed := true, recurses := true, apart := false }
def QuantFullSaid : Prop := quantFullRow.holds Tryz.pinned (OpenSpec.ofChange quantFullSpec)

/-- ITS FALSE NEIGHBOUR: 'it returns false'. Refute it at one input. -/
def quantFullWrong : ChangeSpec := { name := "quantFull", fn := fun _ => fun
  | [d1, d2, d3, d4] => { results := [.lit (.bool false)], args := [d1, d2, d3, d4] }
  | _ => none }
def QuantFullWrongFalsely : Prop := quantFullRow.holds Tryz.pinned (OpenSpec.ofChange quantFullWrong)

/-- 'spinneylaw12.QuantRaw': WHATEVER THE INPUT: true; the input reads as it did. -/
def quantRawSpec : ChangeSpec := { name := "quantRaw", fn := fun _ => fun
  | [d1, d2, d3, d4] => { results := [.lit (.bool true)], args := [d1, d2, d3, d4] }
  | _ => none }
def quantRawRow : OpenClaim := { program := "ytjbkgladpkmdhaagreat", sum := "ec4e14a3cdea00bb8dd9ae3a9ba07eca58a0ce5b6e0c84f1883226d419b7cddc", func := "spinney/spinneylaw12.QuantRaw", spec := "quantRaw", inPlace := ["sync/atomic.AddInt64", "sync/atomic.LoadUint64", "sync/atomic.CompareAndSwapUint64", "sync/atomic.StoreUint64"], unfollowed := true, recurses := true, apart := false }
def QuantRawSaid : Prop := quantRawRow.holds Tryz.pinned (OpenSpec.ofChange quantRawSpec)

/-- ITS FALSE NEIGHBOUR: 'it returns false'. Refute it at one input. -/
def quantRawWrong : ChangeSpec := { name := "quantRaw", fn := fun _ => fun
  | [d1, d2, d3, d4] => { results := [.lit (.bool false)], args := [d1, d2, d3, d4] }
  | _ => none }
def QuantRawWrongFalsely : Prop := quantRawRow.holds Tryz.pinned (OpenSpec.ofChange quantRawWrong)

/- THE SECOND FORM. 'bulk': how many values and letters a reading holds, each counted each time it is reached (what is shared counts as often as it is met; a slice's spare places count too). A statement '..UptoSaid' is the law's where the arguments, and the package variables that the reading takes, are together of bulk at most 1048576: NARROWER than '..Said'. Prove '..Said' where nothing that the law and all that it calls make is longer than what came in: it says more and counts as full. Else prove '..UptoSaid'. A law counts once. -/
mutual
def uptoBulk {H : Type} : DataW H → Nat
  | .lit (.string bytes) => bytes.length + 1
  | .lit _ => 1
  | .nil => 1
  | .ptr d => uptoBulk d + 1
  | .slice elems spare => uptoBulkAll elems + uptoBulkAll spare + 1
  | .agg parts => uptoBulkAll parts + 1
  | .iface _ d => uptoBulk d + 1
  | .map entries => uptoBulkEntries entries + 1
  | .held _ => 1
def uptoBulkAll {H : Type} : List (DataW H) → Nat
  | [] => 0
  | d :: r => uptoBulk d + uptoBulkAll r
def uptoBulkEntries {H : Type} : List (Lit × DataW H) → Nat
  | [] => 0
  | x :: r => uptoBulkEntry x + uptoBulkEntries r
def uptoBulkEntry {H : Type} : Lit × DataW H → Nat
  | (.string bytes, d) => bytes.length + uptoBulk d + 1
  | (_, d) => uptoBulk d + 1
 end
def uptoSmall : (H : Type) → List (DataW H) → Bool := fun _ ds => decide (uptoBulkAll ds ≤ 1048576)
def OpenSpec.upto (s : _root_.Go.ChangeSpec) : _root_.Go.OpenSpec := { _root_.Go.OpenSpec.ofChange s with cond := some uptoSmall }

/-- 'spinneylaw12.QuantTells', WHERE WHAT IT READS IS OF BULK AT MOST 1048576: true; the input reads as it did. -/
def quantTellsUptoRow : OpenClaim := { program := "ytjbkgladpkmdhaagreat", sum := "ec4e14a3cdea00bb8dd9ae3a9ba07eca58a0ce5b6e0c84f1883226d419b7cddc", func := "spinney/spinneylaw12.QuantTells", spec := "quantTells", inPlace := ["sync/atomic.AddInt64", "sync/atomic.LoadUint64", "sync/atomic.CompareAndSwapUint64", "sync/atomic.StoreUint64", "sync/atomic.AddUint64"], unfollowed := true, recurses := true, apart := false, narrowed := true }
def QuantTellsUptoSaid : Prop := quantTellsUptoRow.holds Tryz.pinned (OpenSpec.upto quantTellsSpec)

/-- 'spinneylaw12.QuantFull', WHERE WHAT IT READS IS OF BULK AT MOST 1048576: true; the input reads as it did. -/
def quantFullUptoRow : OpenClaim := { program := "ytjbkgladpkmdhaagreat", sum := "ec4e14a3cdea00bb8dd9ae3a9ba07eca58a0ce5b6e0c84f1883226d419b7cddc", func := "spinney/spinneylaw12.QuantFull", spec := "quantFull", inPlace := ["sync/atomic.AddInt64", "sync/atomic.LoadUint64", "sync/atomic.CompareAndSwapUint64", "sync/atomic.StoreUint64"], unfollowed := true, recurses := true, apart := false, narrowed := true }
def QuantFullUptoSaid : Prop := quantFullUptoRow.holds Tryz.pinned (OpenSpec.upto quantFullSpec)

/-- 'spinneylaw12.QuantRaw', WHERE WHAT IT READS IS OF BULK AT MOST 1048576: true; the input reads as it did. -/
def quantRawUptoRow : OpenClaim := { program := "ytjbkgladpkmdhaagreat", sum := "ec4e14a3cdea00bb8dd9ae3a9ba07eca58a0ce5b6e0c84f1883226d419b7cddc", func := "spinney/spinneylaw12.QuantRaw", spec := "quantRaw", inPlace := ["sync/atomic.AddInt64", "sync/atomic.LoadUint64", "sync/atomic.CompareAndSwapUint64", "sync/atomic.StoreUint64"], unfollowed := true, recurses := true, apart := false, narrowed := true }
def QuantRawUptoSaid : Prop := quantRawUptoRow.holds Tryz.pinned (OpenSpec.upto quantRawSpec)

end Rows
end Go.Proofs.YtjbkgladpkmdhaaGreat
