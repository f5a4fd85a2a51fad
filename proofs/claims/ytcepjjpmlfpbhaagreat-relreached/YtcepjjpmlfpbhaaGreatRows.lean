/-
  No cell of these rows narrows 'for every input' (looked for: loops, veiled, ifaces, maps, wideKeys, modest, calm, conditions, laid).
  DERIVED. THE GIVEN ROWS OF THIS SEAT. 3 by the template 'for every input the law returns true; each argument reads behind the call as it read before'; 0 by the template 'total and deterministic' (their statements: YtcepjjpmlfpbhaaGreatTotals.lean).
  GIVEN WITH THE SEED: the statements are not yours to turn. If you find one false, say at which input.
  Laid BY PROGRAM, IN A SANDBOX (cutbox-rows.mjs): the forced cells as the released guide's own fill.sh prints them over the translation fabe50b2ef74d6a2… (all of the seat's roots in one cut). By AI agents, Wed Nov 11 2026. No macro, syntax, notation, axiom, sorry.
-/
import Derived.Test.YtcepjjpmlfpbhaaGreatChecked
import GoSem.Claim
import GoSem.ClaimJoined
import GoSem.ClaimMapViews
import Derived.JoinedTies
import Derived.KernelRfl
namespace Go.Proofs.YtcepjjpmlfpbhaaGreat
/- THE CELL 'sum', in the pinned program and in every row, IS THE sha256 OF THE DUMP (.gsa) THAT YtcepjjpmlfpbhaaGreatProg.lean LOADS. Nothing in Lean hashes anything: it is a label: what it is worth is what the hold of that sum in a sandbox is worth. -/
noncomputable def Tryz.pinned : Pinned := { name := "ytcepjjpmlfpbhaagreat", sum := "fabe50b2ef74d6a290aa2f1df2b90816eeaca2795eb0200b2c005e759fbe66c0", checked := Tryz.checked }
namespace Rows
def none {H : Type} : Left H := { results := [], args := [] }

/-- 'spinneylaw16.RelChain': WHATEVER THE INPUT: true; the input reads as it did. -/
def relChainSpec : ChangeSpec := { name := "relChain", fn := fun _ => fun
  | [d] => { results := [.lit (.bool true)], args := [d] }
  | _ => none }
def relChainRow : OpenClaim := { program := "ytcepjjpmlfpbhaagreat", sum := "fabe50b2ef74d6a290aa2f1df2b90816eeaca2795eb0200b2c005e759fbe66c0", func := "spinney/spinneylaw16.RelChain", spec := "relChain", inPlace := ["sync/atomic.AddInt64", "sync/atomic.LoadUint64", "sync/atomic.CompareAndSwapUint64", "sync/atomic.StoreUint64"], unfollowed := true, recurses := true, apart := false }
def RelChainSaid : Prop := relChainRow.holds Tryz.pinned (OpenSpec.ofChange relChainSpec)

/-- ITS FALSE NEIGHBOUR: 'it returns false'. Refute it at one input. -/
def relChainWrong : ChangeSpec := { name := "relChain", fn := fun _ => fun
  | [d] => { results := [.lit (.bool false)], args := [d] }
  | _ => none }
def RelChainWrongFalsely : Prop := relChainRow.holds Tryz.pinned (OpenSpec.ofChange relChainWrong)

/-- 'spinneylaw16.RelPairs': WHATEVER THE INPUT: true; the input reads as it did. -/
def relPairsSpec : ChangeSpec := { name := "relPairs", fn := fun _ => fun
  | [d1, d2, d3] => { results := [.lit (.bool true)], args := [d1, d2, d3] }
  | _ => none }
def relPairsRow : OpenClaim := { program := "ytcepjjpmlfpbhaagreat", sum := "fabe50b2ef74d6a290aa2f1df2b90816eeaca2795eb0200b2c005e759fbe66c0", func := "spinney/spinneylaw16.RelPairs", spec := "relPairs", inPlace := ["sync/atomic.AddInt64", "sync/atomic.LoadUint64", "sync/atomic.CompareAndSwapUint64", "sync/atomic.StoreUint64"], unfollowed := true, recurses := true, apart := false }
def RelPairsSaid : Prop := relPairsRow.holds Tryz.pinned (OpenSpec.ofChange relPairsSpec)

/-- ITS FALSE NEIGHBOUR: 'it returns false'. Refute it at one input. -/
def relPairsWrong : ChangeSpec := { name := "relPairs", fn := fun _ => fun
  | [d1, d2, d3] => { results := [.lit (.bool false)], args := [d1, d2, d3] }
  | _ => none }
def RelPairsWrongFalsely : Prop := relPairsRow.holds Tryz.pinned (OpenSpec.ofChange relPairsWrong)

/-- 'spinneylaw16.RelReached': WHATEVER THE INPUT: true; the input reads as it did. -/
def relReachedSpec : ChangeSpec := { name := "relReached", fn := fun _ => fun
  | [d1, d2, d3] => { results := [.lit (.bool true)], args := [d1, d2, d3] }
  | _ => none }
def relReachedRow : OpenClaim := { program := "ytcepjjpmlfpbhaagreat", sum := "fabe50b2ef74d6a290aa2f1df2b90816eeaca2795eb0200b2c005e759fbe66c0", func := "spinney/spinneylaw16.RelReached", spec := "relReached", inPlace := ["sync/atomic.AddInt64", "sync/atomic.LoadUint64", "sync/atomic.CompareAndSwapUint64", "sync/atomic.StoreUint64"], unfollowed := true, recurses := true, apart := false }
def RelReachedSaid : Prop := relReachedRow.holds Tryz.pinned (OpenSpec.ofChange relReachedSpec)

/-- ITS FALSE NEIGHBOUR: 'it returns false'. Refute it at one input. -/
def relReachedWrong : ChangeSpec := { name := "relReached", fn := fun _ => fun
  | [d1, d2, d3] => { results := [.lit (.bool false)], args := [d1, d2, d3] }
  | _ => none }
def RelReachedWrongFalsely : Prop := relReachedRow.holds Tryz.pinned (OpenSpec.ofChange relReachedWrong)

/- THE SECOND FORM. 'bulk': how many values and letters a reading holds, each counted each time it is reached (what is shared counts as often as it is met; a slice's spare places count too). A statement '..UptoSaid' is the law's where the arguments, and the package variables that the reading takes, are together of bulk at most 1048576: NARROWER than '..Said'. Prove '..Said' where nothing that the law and all that it calls make is longer than what came in: it says more and counts as full. Else prove '..UptoSaid'. A law counts once. -/
mutual
def uptoBulk {H : Type} : DataW H → Nat
  | .lit (.string bytes) => bytes.length + 1
  | .lit _ => 1
  | .nil => 1
  | .ptr d => uptoBulk d + 1
  | .slice elems spare => uptoBulkAll elems + uptoBulkAll spare + 1
  | .agg parts => uptoBulkAll parts + 1
  | .iface _ d => uptoBulk d + 1
  | .map entries => uptoBulkEntries entries + 1
  | .held _ => 1
def uptoBulkAll {H : Type} : List (DataW H) → Nat
  | [] => 0
  | d :: r => uptoBulk d + uptoBulkAll r
def uptoBulkEntries {H : Type} : List (Lit × DataW H) → Nat
  | [] => 0
  | x :: r => uptoBulkEntry x + uptoBulkEntries r
def uptoBulkEntry {H : Type} : Lit × DataW H → Nat
  | (.string bytes, d) => bytes.length + uptoBulk d + 1
  | (_, d) => uptoBulk d + 1
 end
def uptoSmall : (H : Type) → List (DataW H) → Bool := fun _ ds => decide (uptoBulkAll ds ≤ 1048576)
def OpenSpec.upto (s : _root_.Go.ChangeSpec) : _root_.Go.OpenSpec := { _root_.Go.OpenSpec.ofChange s with cond := some uptoSmall }

/-- 'spinneylaw16.RelChain', WHERE WHAT IT READS IS OF BULK AT MOST 1048576: true; the input reads as it did. -/
def relChainUptoRow : OpenClaim := { program := "ytcepjjpmlfpbhaagreat", sum := "fabe50b2ef74d6a290aa2f1df2b90816eeaca2795eb0200b2c005e759fbe66c0", func := "spinney/spinneylaw16.RelChain", spec := "relChain", inPlace := ["sync/atomic.AddInt64", "sync/atomic.LoadUint64", "sync/atomic.CompareAndSwapUint64", "sync/atomic.StoreUint64"], unfollowed := true, recurses := true, apart := false, narrowed := true }
def RelChainUptoSaid : Prop := relChainUptoRow.holds Tryz.pinned (OpenSpec.upto relChainSpec)

/-- 'spinneylaw16.RelPairs', WHERE WHAT IT READS IS OF BULK AT MOST 1048576: true; the input reads as it did. -/
def relPairsUptoRow : OpenClaim := { program := "ytcepjjpmlfpbhaagreat", sum := "fabe50b2ef74d6a290aa2f1df2b90816eeaca2795eb0200b2c005e759fbe66c0", func := "spinney/spinneylaw16.RelPairs", spec := "relPairs", inPlace := ["sync/atomic.AddInt64", "sync/atomic.LoadUint64", "sync/atomic.CompareAndSwapUint64", "sync/atomic.StoreUint64"], unfollowed := true, recurses := true, apart := false, narrowed := true }
def RelPairsUptoSaid : Prop := relPairsUptoRow.holds Tryz.pinned (OpenSpec.upto relPairsSpec)

/-- 'spinneylaw16.RelReached', WHERE WHAT IT READS IS OF BULK AT MOST 1048576: true; the input reads as it did. -/
def relReachedUptoRow : OpenClaim := { program := "ytcepjjpmlfpbhaagreat", sum := "fabe50b2ef74d6a290aa2f1df2b90816eeaca2795eb0200b2c005e759fbe66c0", func := "spinney/spinneylaw16.RelReached", spec := "relReached", inPlace := ["sync/atomic.AddInt64", "sync/atomic.LoadUint64", "sync/atomic.CompareAndSwapUint64", "sync/atomic.StoreUint64"], unfollowed := true, recurses := true, apart := false, narrowed := true }
def RelReachedUptoSaid : Prop := relReachedUptoRow.holds Tryz.pinned (OpenSpec.upto relReachedSpec)

end Rows
end Go.Proofs.YtcepjjpmlfpbhaaGreat
