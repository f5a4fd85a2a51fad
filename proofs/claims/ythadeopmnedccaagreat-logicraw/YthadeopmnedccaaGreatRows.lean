/-
  No cell of these rows narrows 'for every input' (looked for: loops, veiled, ifaces, maps, wideKeys, modest, calm, conditions, laid).
  DERIVED. THE GIVEN ROWS OF THIS SEAT. 6 by the template 'for every input the law returns true; each argument reads behind the call as it read before'; 0 by the template 'total and deterministic' (their statements: YthadeopmnedccaaGreatTotals.lean).
  GIVEN WITH THE SEED: the statements are not yours to turn. If you find one false, say at which input.
  Laid BY PROGRAM, IN A SANDBOX (cutbox-rows.mjs): the forced cells as the released guide's own fill.sh prints them over the translation 04fc8394c17ffbc2… (all of the seat's roots in one cut). By AI agents, Wed Nov 11 2026. No macro, syntax, notation, axiom, sorry.
-/
import Derived.Test.YthadeopmnedccaaGreatChecked
import GoSem.Claim
import GoSem.ClaimJoined
import GoSem.ClaimMapViews
import Derived.JoinedTies
import Derived.KernelRfl
namespace Go.Proofs.YthadeopmnedccaaGreat
/- THE CELL 'sum', in the pinned program and in every row, IS THE sha256 OF THE DUMP (.gsa) THAT YthadeopmnedccaaGreatProg.lean LOADS. Nothing in Lean hashes anything: it is a label: what it is worth is what the hold of that sum in a sandbox is worth. -/
noncomputable def Tryz.pinned : Pinned := { name := "ythadeopmnedccaagreat", sum := "04fc8394c17ffbc2590b12fe39751ca561dd5f6cef0fa355a0640f41406dd5cc", checked := Tryz.checked }
namespace Rows
def none {H : Type} : Left H := { results := [], args := [] }

/-- 'spinneylaw11.LogicTells': WHATEVER THE INPUT: true; the input reads as it did. -/
def logicTellsSpec : ChangeSpec := { name := "logicTells", fn := fun _ => fun
  | [d1, d2, d3, d4, d5, d6] => { results := [.lit (.bool true)], args := [d1, d2, d3, d4, d5, d6] }
  | _ => none }
def logicTellsRow : OpenClaim := { program := "ythadeopmnedccaagreat", sum := "04fc8394c17ffbc2590b12fe39751ca561dd5f6cef0fa355a0640f41406dd5cc", func := "spinney/spinneylaw11.LogicTells", spec := "logicTells", inPlace := ["sync/atomic.AddInt64", "sync/atomic.LoadUint64", "sync/atomic.CompareAndSwapUint64", "sync/atomic.StoreUint64", "sync/atomic.AddUint64"], unfollowed := true, recurses := true, apart := false }
def LogicTellsSaid : Prop := logicTellsRow.holds Tryz.pinned (OpenSpec.ofChange logicTellsSpec)

/-- ITS FALSE NEIGHBOUR: 'it returns false'. Refute it at one input. -/
def logicTellsWrong : ChangeSpec := { name := "logicTells", fn := fun _ => fun
  | [d1, d2, d3, d4, d5, d6] => { results := [.lit (.bool false)], args := [d1, d2, d3, d4, d5, d6] }
  | _ => none }
def LogicTellsWrongFalsely : Prop := logicTellsRow.holds Tryz.pinned (OpenSpec.ofChange logicTellsWrong)

/-- 'spinneylaw11.LogicFull': WHATEVER THE INPUT: true; the input reads as it did. -/
def logicFullSpec : ChangeSpec := { name := "logicFull", fn := fun _ => fun
  | [d1, d2, d3, d4, d5] => { results := [.lit (.bool true)], args := [d1, d2, d3, d4, d5] }
  | _ => none }
def logicFullRow : OpenClaim := { program := "ythadeopmnedccaagreat", sum := "04fc8394c17ffbc2590b12fe39751ca561dd5f6cef0fa355a0640f41406dd5cc", func := "spinney/spinneylaw11.LogicFull", spec := "logicFull", inPlace := ["sync/atomic.AddInt64", "sync/atomic.LoadUint64", "sync/atomic.CompareAndSwapUint64", "sync/atomic.StoreUint64"], unfollowed := true, recurses := true, apart := false }
def LogicFullSaid : Prop := logicFullRow.holds Tryz.pinned (OpenSpec.ofChange logicFullSpec)

/-- ITS FALSE NEIGHBOUR: 'it returns false'. Refute it at one input. -/
def logicFullWrong : ChangeSpec := { name := "logicFull", fn := fun _ => fun
  | [d1, d2, d3, d4, d5] => { results := [.lit (.bool false)], args := [d1, d2, d3, d4, d5] }
  | _ => none }
def LogicFullWrongFalsely : Prop := logicFullRow.holds Tryz.pinned (OpenSpec.ofChange logicFullWrong)

/-- 'spinneylaw11.LogicRaw': WHATEVER THE INPUT: true; the input reads as it did. -/
def logicRawSpec : ChangeSpec := { name := "logicRaw", fn := fun _ => fun
  | [d1, d2, d3, d4, d5] => { results := [.lit (.bool true)], args := [d1, d2, d3, d4, d5] }
  | _ => none }
def logicRawRow : OpenClaim := { program := "ythadeopmnedccaagreat", sum := "04fc8394c17ffbc2590b12fe39751ca561dd5f6cef0fa355a0640f41406dd5cc", func := "spinney/spinneylaw11.LogicRaw", spec := "logicRaw", inPlace := ["sync/atomic.AddInt64", "sync/atomic.LoadUint64", "sync/atomic.CompareAndSwapUint64", "sync/atomic.StoreUint64"], unfollowed := true, recurses := true, apart := false }
def LogicRawSaid : Prop := logicRawRow.holds Tryz.pinned (OpenSpec.ofChange logicRawSpec)

/-- ITS FALSE NEIGHBOUR: 'it returns false'. Refute it at one input. -/
def logicRawWrong : ChangeSpec := { name := "logicRaw", fn := fun _ => fun
  | [d1, d2, d3, d4, d5] => { results := [.lit (.bool false)], args := [d1, d2, d3, d4, d5] }
  | _ => none }
def LogicRawWrongFalsely : Prop := logicRawRow.holds Tryz.pinned (OpenSpec.ofChange logicRawWrong)

/-- 'spinneylaw11.LogicLaws': WHATEVER THE INPUT: true; the input reads as it did. -/
def logicLawsSpec : ChangeSpec := { name := "logicLaws", fn := fun _ => fun
  | [d1, d2, d3] => { results := [.lit (.bool true)], args := [d1, d2, d3] }
  | _ => none }
def logicLawsRow : OpenClaim := { program := "ythadeopmnedccaagreat", sum := "04fc8394c17ffbc2590b12fe39751ca561dd5f6cef0fa355a0640f41406dd5cc", func := "spinney/spinneylaw11.LogicLaws", spec := "logicLaws", inPlace := ["sync/atomic.AddInt64", "sync/atomic.LoadUint64", "sync/atomic.CompareAndSwapUint64", "sync/atomic.StoreUint64"], unfollowed := true, recurses := true, apart := false }
def LogicLawsSaid : Prop := logicLawsRow.holds Tryz.pinned (OpenSpec.ofChange logicLawsSpec)

/-- ITS FALSE NEIGHBOUR: 'it returns false'. Refute it at one input. -/
def logicLawsWrong : ChangeSpec := { name := "logicLaws", fn := fun _ => fun
  | [d1, d2, d3] => { results := [.lit (.bool false)], args := [d1, d2, d3] }
  | _ => none }
def LogicLawsWrongFalsely : Prop := logicLawsRow.holds Tryz.pinned (OpenSpec.ofChange logicLawsWrong)

/-- 'spinneylaw11.LogicXors': WHATEVER THE INPUT: true; the input reads as it did. -/
def logicXorsSpec : ChangeSpec := { name := "logicXors", fn := fun _ => fun
  | [d1, d2, d3] => { results := [.lit (.bool true)], args := [d1, d2, d3] }
  | _ => none }
def logicXorsRow : OpenClaim := { program := "ythadeopmnedccaagreat", sum := "04fc8394c17ffbc2590b12fe39751ca561dd5f6cef0fa355a0640f41406dd5cc", func := "spinney/spinneylaw11.LogicXors", spec := "logicXors", inPlace := ["sync/atomic.AddInt64", "sync/atomic.LoadUint64", "sync/atomic.CompareAndSwapUint64", "sync/atomic.StoreUint64"], unfollowed := true, recurses := true, apart := false }
def LogicXorsSaid : Prop := logicXorsRow.holds Tryz.pinned (OpenSpec.ofChange logicXorsSpec)

/-- ITS FALSE NEIGHBOUR: 'it returns false'. Refute it at one input. -/
def logicXorsWrong : ChangeSpec := { name := "logicXors", fn := fun _ => fun
  | [d1, d2, d3] => { results := [.lit (.bool false)], args := [d1, d2, d3] }
  | _ => none }
def LogicXorsWrongFalsely : Prop := logicXorsRow.holds Tryz.pinned (OpenSpec.ofChange logicXorsWrong)

/-- 'spinneylaw11.LogicItes': WHATEVER THE INPUT: true; the input reads as it did. -/
def logicItesSpec : ChangeSpec := { name := "logicItes", fn := fun _ => fun
  | [d1, d2, d3] => { results := [.lit (.bool true)], args := [d1, d2, d3] }
  | _ => none }
def logicItesRow : OpenClaim := { program := "ythadeopmnedccaagreat", sum := "04fc8394c17ffbc2590b12fe39751ca561dd5f6cef0fa355a0640f41406dd5cc", func := "spinney/spinneylaw11.LogicItes", spec := "logicItes", inPlace := ["sync/atomic.AddInt64", "sync/atomic.LoadUint64", "sync/atomic.CompareAndSwapUint64", "sync/atomic.StoreUint64"], unfollowed := true, recurses := true, apart := false }
def LogicItesSaid : Prop := logicItesRow.holds Tryz.pinned (OpenSpec.ofChange logicItesSpec)

/-- ITS FALSE NEIGHBOUR: 'it returns false'. Refute it at one input. -/
def logicItesWrong : ChangeSpec := { name := "logicItes", fn := fun _ => fun
  | [d1, d2, d3] => { results := [.lit (.bool false)], args := [d1, d2, d3] }
  | _ => none }
def LogicItesWrongFalsely : Prop := logicItesRow.holds Tryz.pinned (OpenSpec.ofChange logicItesWrong)

/- THE SECOND FORM. 'bulk': how many values and letters a reading holds, each counted each time it is reached (what is shared counts as often as it is met; a slice's spare places count too). A statement '..UptoSaid' is the law's where the arguments, and the package variables that the reading takes, are together of bulk at most 1048576: NARROWER than '..Said'. Prove '..Said' where nothing that the law and all that it calls make is longer than what came in: it says more and counts as full. Else prove '..UptoSaid'. A law counts once. -/
mutual
def uptoBulk {H : Type} : DataW H → Nat
  | .lit (.string bytes) => bytes.length + 1
  | .lit _ => 1
  | .nil => 1
  | .ptr d => uptoBulk d + 1
  | .slice elems spare => uptoBulkAll elems + uptoBulkAll spare + 1
  | .agg parts => uptoBulkAll parts + 1
  | .iface _ d => uptoBulk d + 1
  | .map entries => uptoBulkEntries entries + 1
  | .held _ => 1
def uptoBulkAll {H : Type} : List (DataW H) → Nat
  | [] => 0
  | d :: r => uptoBulk d + uptoBulkAll r
def uptoBulkEntries {H : Type} : List (Lit × DataW H) → Nat
  | [] => 0
  | x :: r => uptoBulkEntry x + uptoBulkEntries r
def uptoBulkEntry {H : Type} : Lit × DataW H → Nat
  | (.string bytes, d) => bytes.length + uptoBulk d + 1
  | (_, d) => uptoBulk d + 1
 end
def uptoSmall : (H : Type) → List (DataW H) → Bool := fun _ ds => decide (uptoBulkAll ds ≤ 1048576)
def OpenSpec.upto (s : _root_.Go.ChangeSpec) : _root_.Go.OpenSpec := { _root_.Go.OpenSpec.ofChange s with cond := some uptoSmall }

/-- 'spinneylaw11.LogicTells', WHERE WHAT IT READS IS OF BULK AT MOST 1048576: true; the input reads as it did. -/
def logicTellsUptoRow : OpenClaim := { program := "ythadeopmnedccaagreat", sum := "04fc8394c17ffbc2590b12fe39751ca561dd5f6cef0fa355a0640f41406dd5cc", func := "spinney/spinneylaw11.LogicTells", spec := "logicTells", inPlace := ["sync/atomic.AddInt64", "sync/atomic.LoadUint64", "sync/atomic.CompareAndSwapUint64", "sync/atomic.StoreUint64", "sync/atomic.AddUint64"], unfollowed := true, recurses := true, apart := false, narrowed := true }
def LogicTellsUptoSaid : Prop := logicTellsUptoRow.holds Tryz.pinned (OpenSpec.upto logicTellsSpec)

/-- 'spinneylaw11.LogicFull', WHERE WHAT IT READS IS OF BULK AT MOST 1048576: true; the input reads as it did. -/
def logicFullUptoRow : OpenClaim := { program := "ythadeopmnedccaagreat", sum := "04fc8394c17ffbc2590b12fe39751ca561dd5f6cef0fa355a0640f41406dd5cc", func := "spinney/spinneylaw11.LogicFull", spec := "logicFull", inPlace := ["sync/atomic.AddInt64", "sync/atomic.LoadUint64", "sync/atomic.CompareAndSwapUint64", "sync/atomic.StoreUint64"], unfollowed := true, recurses := true, apart := false, narrowed := true }
def LogicFullUptoSaid : Prop := logicFullUptoRow.holds Tryz.pinned (OpenSpec.upto logicFullSpec)

/-- 'spinneylaw11.LogicRaw', WHERE WHAT IT READS IS OF BULK AT MOST 1048576: true; the input reads as it did. -/
def logicRawUptoRow : OpenClaim := { program := "ythadeopmnedccaagreat", sum := "04fc8394c17ffbc2590b12fe39751ca561dd5f6cef0fa355a0640f41406dd5cc", func := "spinney/spinneylaw11.LogicRaw", spec := "logicRaw", inPlace := ["sync/atomic.AddInt64", "sync/atomic.LoadUint64", "sync/atomic.CompareAndSwapUint64", "sync/atomic.StoreUint64"], unfollowed := true, recurses := true, apart := false, narrowed := true }
def LogicRawUptoSaid : Prop := logicRawUptoRow.holds Tryz.pinned (OpenSpec.upto logicRawSpec)

/-- 'spinneylaw11.LogicLaws', WHERE WHAT IT READS IS OF BULK AT MOST 1048576: true; the input reads as it did. -/
def logicLawsUptoRow : OpenClaim := { program := "ythadeopmnedccaagreat", sum := "04fc8394c17ffbc2590b12fe39751ca561dd5f6cef0fa355a0640f41406dd5cc", func := "spinney/spinneylaw11.LogicLaws", spec := "logicLaws", inPlace := ["sync/atomic.AddInt64", "sync/atomic.LoadUint64", "sync/atomic.CompareAndSwapUint64", "sync/atomic.StoreUint64"], unfollowed := true, recurses := true, apart := false, narrowed := true }
def LogicLawsUptoSaid : Prop := logicLawsUptoRow.holds Tryz.pinned (OpenSpec.upto logicLawsSpec)

/-- 'spinneylaw11.LogicXors', WHERE WHAT IT READS IS OF BULK AT MOST 1048576: true; the input reads as it did. -/
def logicXorsUptoRow : OpenClaim := { program := "ythadeopmnedccaagreat", sum := "04fc8394c17ffbc2590b12fe39751ca561dd5f6cef0fa355a0640f41406dd5cc", func := "spinney/spinneylaw11.LogicXors", spec := "logicXors", inPlace := ["sync/atomic.AddInt64", "sync/atomic.LoadUint64", "sync/atomic.CompareAndSwapUint64", "sync/atomic.StoreUint64"], unfollowed := true, recurses := true, apart := false, narrowed := true }
def LogicXorsUptoSaid : Prop := logicXorsUptoRow.holds Tryz.pinned (OpenSpec.upto logicXorsSpec)

/-- 'spinneylaw11.LogicItes', WHERE WHAT IT READS IS OF BULK AT MOST 1048576: true; the input reads as it did. -/
def logicItesUptoRow : OpenClaim := { program := "ythadeopmnedccaagreat", sum := "04fc8394c17ffbc2590b12fe39751ca561dd5f6cef0fa355a0640f41406dd5cc", func := "spinney/spinneylaw11.LogicItes", spec := "logicItes", inPlace := ["sync/atomic.AddInt64", "sync/atomic.LoadUint64", "sync/atomic.CompareAndSwapUint64", "sync/atomic.StoreUint64"], unfollowed := true, recurses := true, apart := false, narrowed := true }
def LogicItesUptoSaid : Prop := logicItesUptoRow.holds Tryz.pinned (OpenSpec.upto logicItesSpec)

end Rows
end Go.Proofs.YthadeopmnedccaaGreat
