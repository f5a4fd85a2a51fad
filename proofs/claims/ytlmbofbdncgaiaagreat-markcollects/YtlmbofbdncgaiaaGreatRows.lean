/-
  No cell of these rows narrows 'for every input' (looked for: loops, veiled, ifaces, maps, wideKeys, modest, calm, conditions, laid).
  DERIVED. THE GIVEN ROWS OF THIS SEAT. 5 by the template 'for every input the law returns true; each argument reads behind the call as it read before'; 0 by the template 'total and deterministic' (their statements: YtlmbofbdncgaiaaGreatTotals.lean).
  GIVEN WITH THE SEED: the statements are not yours to turn. If you find one false, say at which input.
  Laid BY PROGRAM, IN A SANDBOX (cutbox-rows.mjs): the forced cells as the released guide's own fill.sh prints them over the translation e2980dd175d561e8… (all of the seat's roots in one cut). By AI agents, Wed Nov 11 2026. No macro, syntax, notation, axiom, sorry.
-/
import Derived.Test.YtlmbofbdncgaiaaGreatChecked
import GoSem.Claim
import GoSem.ClaimJoined
import GoSem.ClaimMapViews
import Derived.JoinedTies
import Derived.KernelRfl
namespace Go.Proofs.YtlmbofbdncgaiaaGreat
/- THE CELL 'sum', in the pinned program and in every row, IS THE sha256 OF THE DUMP (.gsa) THAT YtlmbofbdncgaiaaGreatProg.lean LOADS. Nothing in Lean hashes anything: it is a label: what it is worth is what the hold of that sum in a sandbox is worth. -/
noncomputable def Tryz.pinned : Pinned := { name := "ytlmbofbdncgaiaagreat", sum := "e2980dd175d561e875ccaf4aabafdc150965d3e8024209ea98668dd009db98d7", checked := Tryz.checked }
namespace Rows
def none {H : Type} : Left H := { results := [], args := [] }

/-- 'spinneylaw17.MarkCollects': WHATEVER THE INPUT: true; the input reads as it did. -/
def markCollectsSpec : ChangeSpec := { name := "markCollects", fn := fun _ => fun
  | [d1, d2, d3, d4] => { results := [.lit (.bool true)], args := [d1, d2, d3, d4] }
  | _ => none }
def markCollectsRow : OpenClaim := { program := "ytlmbofbdncgaiaagreat", sum := "e2980dd175d561e875ccaf4aabafdc150965d3e8024209ea98668dd009db98d7", func := "spinney/spinneylaw17.MarkCollects", spec := "markCollects", inPlace := ["sync/atomic.AddInt64", "sync/atomic.LoadUint64", "sync/atomic.CompareAndSwapUint64", "sync/atomic.StoreUint64", "sync/atomic.AddUint64"], unfollowed := true, recurses := true, apart := false }
def MarkCollectsSaid : Prop := markCollectsRow.holds Tryz.pinned (OpenSpec.ofChange markCollectsSpec)

/-- ITS FALSE NEIGHBOUR: 'it returns false'. Refute it at one input. -/
def markCollectsWrong : ChangeSpec := { name := "markCollects", fn := fun _ => fun
  | [d1, d2, d3, d4] => { results := [.lit (.bool false)], args := [d1, d2, d3, d4] }
  | _ => none }
def MarkCollectsWrongFalsely : Prop := markCollectsRow.holds Tryz.pinned (OpenSpec.ofChange markCollectsWrong)

/-- 'spinneylaw17.MarkRaw': WHATEVER THE INPUT: true; the input reads as it did. -/
def markRawSpec : ChangeSpec := { name := "markRaw", fn := fun _ => fun
  | [d1, d2] => { results := [.lit (.bool true)], args := [d1, d2] }
  | _ => none }
def markRawRow : OpenClaim := { program := "ytlmbofbdncgaiaagreat", sum := "e2980dd175d561e875ccaf4aabafdc150965d3e8024209ea98668dd009db98d7", func := "spinney/spinneylaw17.MarkRaw", spec := "markRaw", inPlace := ["sync/atomic.AddInt64", "sync/atomic.LoadUint64", "sync/atomic.CompareAndSwapUint64", "sync/atomic.StoreUint64", "sync/atomic.AddUint64"], unfollowed := true, recurses := true, apart := false }
def MarkRawSaid : Prop := markRawRow.holds Tryz.pinned (OpenSpec.ofChange markRawSpec)

/-- ITS FALSE NEIGHBOUR: 'it returns false'. Refute it at one input. -/
def markRawWrong : ChangeSpec := { name := "markRaw", fn := fun _ => fun
  | [d1, d2] => { results := [.lit (.bool false)], args := [d1, d2] }
  | _ => none }
def MarkRawWrongFalsely : Prop := markRawRow.holds Tryz.pinned (OpenSpec.ofChange markRawWrong)

/-- 'spinneylaw17.MarkTwice': WHATEVER THE INPUT: true; the input reads as it did. -/
def markTwiceSpec : ChangeSpec := { name := "markTwice", fn := fun _ => fun
  | [d1, d2, d3] => { results := [.lit (.bool true)], args := [d1, d2, d3] }
  | _ => none }
def markTwiceRow : OpenClaim := { program := "ytlmbofbdncgaiaagreat", sum := "e2980dd175d561e875ccaf4aabafdc150965d3e8024209ea98668dd009db98d7", func := "spinney/spinneylaw17.MarkTwice", spec := "markTwice", inPlace := ["sync/atomic.AddInt64", "sync/atomic.LoadUint64", "sync/atomic.CompareAndSwapUint64", "sync/atomic.StoreUint64", "sync/atomic.AddUint64"], unfollowed := true, recurses := true, apart := false }
def MarkTwiceSaid : Prop := markTwiceRow.holds Tryz.pinned (OpenSpec.ofChange markTwiceSpec)

/-- ITS FALSE NEIGHBOUR: 'it returns false'. Refute it at one input. -/
def markTwiceWrong : ChangeSpec := { name := "markTwice", fn := fun _ => fun
  | [d1, d2, d3] => { results := [.lit (.bool false)], args := [d1, d2, d3] }
  | _ => none }
def MarkTwiceWrongFalsely : Prop := markTwiceRow.holds Tryz.pinned (OpenSpec.ofChange markTwiceWrong)

/-- 'spinneylaw17.MarkRoom': WHATEVER THE INPUT: true; the input reads as it did. -/
def markRoomSpec : ChangeSpec := { name := "markRoom", fn := fun _ => fun
  | [d1, d2, d3] => { results := [.lit (.bool true)], args := [d1, d2, d3] }
  | _ => none }
def markRoomRow : OpenClaim := { program := "ytlmbofbdncgaiaagreat", sum := "e2980dd175d561e875ccaf4aabafdc150965d3e8024209ea98668dd009db98d7", func := "spinney/spinneylaw17.MarkRoom", spec := "markRoom", inPlace := ["sync/atomic.AddInt64", "sync/atomic.LoadUint64", "sync/atomic.CompareAndSwapUint64", "sync/atomic.StoreUint64", "sync/atomic.AddUint64"], unfollowed := true, recurses := true, apart := false }
def MarkRoomSaid : Prop := markRoomRow.holds Tryz.pinned (OpenSpec.ofChange markRoomSpec)

/-- ITS FALSE NEIGHBOUR: 'it returns false'. Refute it at one input. -/
def markRoomWrong : ChangeSpec := { name := "markRoom", fn := fun _ => fun
  | [d1, d2, d3] => { results := [.lit (.bool false)], args := [d1, d2, d3] }
  | _ => none }
def MarkRoomWrongFalsely : Prop := markRoomRow.holds Tryz.pinned (OpenSpec.ofChange markRoomWrong)

/-- 'spinneylaw17.MarkRefs': WHATEVER THE INPUT: true; the input reads as it did. -/
def markRefsSpec : ChangeSpec := { name := "markRefs", fn := fun _ => fun
  | [d1, d2, d3] => { results := [.lit (.bool true)], args := [d1, d2, d3] }
  | _ => none }
def markRefsRow : OpenClaim := { program := "ytlmbofbdncgaiaagreat", sum := "e2980dd175d561e875ccaf4aabafdc150965d3e8024209ea98668dd009db98d7", func := "spinney/spinneylaw17.MarkRefs", spec := "markRefs", inPlace := ["sync/atomic.AddInt64", "sync/atomic.LoadUint64", "sync/atomic.CompareAndSwapUint64", "sync/atomic.StoreUint64", "sync/atomic.AddUint64"], unfollowed := true, recurses := true, apart := false }
def MarkRefsSaid : Prop := markRefsRow.holds Tryz.pinned (OpenSpec.ofChange markRefsSpec)

/-- ITS FALSE NEIGHBOUR: 'it returns false'. Refute it at one input. -/
def markRefsWrong : ChangeSpec := { name := "markRefs", fn := fun _ => fun
  | [d1, d2, d3] => { results := [.lit (.bool false)], args := [d1, d2, d3] }
  | _ => none }
def MarkRefsWrongFalsely : Prop := markRefsRow.holds Tryz.pinned (OpenSpec.ofChange markRefsWrong)

/- THE SECOND FORM. 'bulk': how many values and letters a reading holds, each counted each time it is reached (what is shared counts as often as it is met; a slice's spare places count too). A statement '..UptoSaid' is the law's where the arguments, and the package variables that the reading takes, are together of bulk at most 1048576: NARROWER than '..Said'. Prove '..Said' where nothing that the law and all that it calls make is longer than what came in: it says more and counts as full. Else prove '..UptoSaid'. A law counts once. -/
mutual
def uptoBulk {H : Type} : DataW H → Nat
  | .lit (.string bytes) => bytes.length + 1
  | .lit _ => 1
  | .nil => 1
  | .ptr d => uptoBulk d + 1
  | .slice elems spare => uptoBulkAll elems + uptoBulkAll spare + 1
  | .agg parts => uptoBulkAll parts + 1
  | .iface _ d => uptoBulk d + 1
  | .map entries => uptoBulkEntries entries + 1
  | .held _ => 1
def uptoBulkAll {H : Type} : List (DataW H) → Nat
  | [] => 0
  | d :: r => uptoBulk d + uptoBulkAll r
def uptoBulkEntries {H : Type} : List (Lit × DataW H) → Nat
  | [] => 0
  | x :: r => uptoBulkEntry x + uptoBulkEntries r
def uptoBulkEntry {H : Type} : Lit × DataW H → Nat
  | (.string bytes, d) => bytes.length + uptoBulk d + 1
  | (_, d) => uptoBulk d + 1
 end
def uptoSmall : (H : Type) → List (DataW H) → Bool := fun _ ds => decide (uptoBulkAll ds ≤ 1048576)
def OpenSpec.upto (s : _root_.Go.ChangeSpec) : _root_.Go.OpenSpec := { _root_.Go.OpenSpec.ofChange s with cond := some uptoSmall }

/-- 'spinneylaw17.MarkCollects', WHERE WHAT IT READS IS OF BULK AT MOST 1048576: true; the input reads as it did. -/
def markCollectsUptoRow : OpenClaim := { program := "ytlmbofbdncgaiaagreat", sum := "e2980dd175d561e875ccaf4aabafdc150965d3e8024209ea98668dd009db98d7", func := "spinney/spinneylaw17.MarkCollects", spec := "markCollects", inPlace := ["sync/atomic.AddInt64", "sync/atomic.LoadUint64", "sync/atomic.CompareAndSwapUint64", "sync/atomic.StoreUint64", "sync/atomic.AddUint64"], unfollowed := true, recurses := true, apart := false, narrowed := true }
def MarkCollectsUptoSaid : Prop := markCollectsUptoRow.holds Tryz.pinned (OpenSpec.upto markCollectsSpec)

/-- 'spinneylaw17.MarkRaw', WHERE WHAT IT READS IS OF BULK AT MOST 1048576: true; the input reads as it did. -/
def markRawUptoRow : OpenClaim := { program := "ytlmbofbdncgaiaagreat", sum := "e2980dd175d561e875ccaf4aabafdc150965d3e8024209ea98668dd009db98d7", func := "spinney/spinneylaw17.MarkRaw", spec := "markRaw", inPlace := ["sync/atomic.AddInt64", "sync/atomic.LoadUint64", "sync/atomic.CompareAndSwapUint64", "sync/atomic.StoreUint64", "sync/atomic.AddUint64"], unfollowed := true, recurses := true, apart := false, narrowed := true }
def MarkRawUptoSaid : Prop := markRawUptoRow.holds Tryz.pinned (OpenSpec.upto markRawSpec)

/-- 'spinneylaw17.MarkTwice', WHERE WHAT IT READS IS OF BULK AT MOST 1048576: true; the input reads as it did. -/
def markTwiceUptoRow : OpenClaim := { program := "ytlmbofbdncgaiaagreat", sum := "e2980dd175d561e875ccaf4aabafdc150965d3e8024209ea98668dd009db98d7", func := "spinney/spinneylaw17.MarkTwice", spec := "markTwice", inPlace := ["sync/atomic.AddInt64", "sync/atomic.LoadUint64", "sync/atomic.CompareAndSwapUint64", "sync/atomic.StoreUint64", "sync/atomic.AddUint64"], unfollowed := true, recurses := true, apart := false, narrowed := true }
def MarkTwiceUptoSaid : Prop := markTwiceUptoRow.holds Tryz.pinned (OpenSpec.upto markTwiceSpec)

/-- 'spinneylaw17.MarkRoom', WHERE WHAT IT READS IS OF BULK AT MOST 1048576: true; the input reads as it did. -/
def markRoomUptoRow : OpenClaim := { program := "ytlmbofbdncgaiaagreat", sum := "e2980dd175d561e875ccaf4aabafdc150965d3e8024209ea98668dd009db98d7", func := "spinney/spinneylaw17.MarkRoom", spec := "markRoom", inPlace := ["sync/atomic.AddInt64", "sync/atomic.LoadUint64", "sync/atomic.CompareAndSwapUint64", "sync/atomic.StoreUint64", "sync/atomic.AddUint64"], unfollowed := true, recurses := true, apart := false, narrowed := true }
def MarkRoomUptoSaid : Prop := markRoomUptoRow.holds Tryz.pinned (OpenSpec.upto markRoomSpec)

/-- 'spinneylaw17.MarkRefs', WHERE WHAT IT READS IS OF BULK AT MOST 1048576: true; the input reads as it did. -/
def markRefsUptoRow : OpenClaim := { program := "ytlmbofbdncgaiaagreat", sum := "e2980dd175d561e875ccaf4aabafdc150965d3e8024209ea98668dd009db98d7", func := "spinney/spinneylaw17.MarkRefs", spec := "markRefs", inPlace := ["sync/atomic.AddInt64", "sync/atomic.LoadUint64", "sync/atomic.CompareAndSwapUint64", "sync/atomic.StoreUint64", "sync/atomic.AddUint64"], unfollowed := true, recurses := true, apart := false, narrowed := true }
def MarkRefsUptoSaid : Prop := markRefsUptoRow.holds Tryz.pinned (OpenSpec.upto markRefsSpec)

end Rows
end Go.Proofs.YtlmbofbdncgaiaaGreat
