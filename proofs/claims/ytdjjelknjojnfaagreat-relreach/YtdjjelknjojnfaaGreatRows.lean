/-
  No cell of these rows narrows 'for every input' (looked for: loops, veiled, ifaces, maps, wideKeys, modest, calm, conditions, laid).
  DERIVED. THE GIVEN ROWS OF THIS SEAT. 6 by the template 'for every input the law returns true; each argument reads behind the call as it read before'; 0 by the template 'total and deterministic' (their statements: YtdjjelknjojnfaaGreatTotals.lean).
  GIVEN WITH THE SEED: the statements are not yours to turn. If you find one false, say at which input.
  Laid BY PROGRAM, IN A SANDBOX (cutbox-rows.mjs): the forced cells as the released guide's own fill.sh prints them over the translation ddd9a6c169b234f3… (all of the seat's roots in one cut). By AI agents, Wed Nov 11 2026. No macro, syntax, notation, axiom, sorry.
-/
import Derived.Test.YtdjjelknjojnfaaGreatChecked
import GoSem.Claim
import GoSem.ClaimJoined
import GoSem.ClaimMapViews
import Derived.JoinedTies
import Derived.KernelRfl
namespace Go.Proofs.YtdjjelknjojnfaaGreat
/- THE CELL 'sum', in the pinned program and in every row, IS THE sha256 OF THE DUMP (.gsa) THAT YtdjjelknjojnfaaGreatProg.lean LOADS. Nothing in Lean hashes anything: it is a label: what it is worth is what the hold of that sum in a sandbox is worth. -/
noncomputable def Tryz.pinned : Pinned := { name := "ytdjjelknjojnfaagreat", sum := "ddd9a6c169b234f3710069917d85907916cc6777e6de26fcccc534a7a232002c", checked := Tryz.checked }
namespace Rows
def none {H : Type} : Left H := { results := [], args := [] }

/-- 'spinneylaw16.RelChain': WHATEVER THE INPUT: true; the input reads as it did. -/
def relChainSpec : ChangeSpec := { name := "relChain", fn := fun _ => fun
  | [d] => { results := [.lit (.bool true)], args := [d] }
  | _ => none }
def relChainRow : OpenClaim := { program := "ytdjjelknjojnfaagreat", sum := "ddd9a6c169b234f3710069917d85907916cc6777e6de26fcccc534a7a232002c", func := "spinney/spinneylaw16.RelChain", spec := "relChain", inPlace := ["sync/atomic.AddInt64", "sync/atomic.LoadUint64", "sync/atomic.CompareAndSwapUint64", "sync/atomic.StoreUint64"], unfollowed := true, recurses := true, apart := false }
def RelChainSaid : Prop := relChainRow.holds Tryz.pinned (OpenSpec.ofChange relChainSpec)

/-- ITS FALSE NEIGHBOUR: 'it returns false'. Refute it at one input. -/
def relChainWrong : ChangeSpec := { name := "relChain", fn := fun _ => fun
  | [d] => { results := [.lit (.bool false)], args := [d] }
  | _ => none }
def RelChainWrongFalsely : Prop := relChainRow.holds Tryz.pinned (OpenSpec.ofChange relChainWrong)

/-- 'spinneylaw16.RelTells': WHATEVER THE INPUT: true; the input reads as it did. -/
def relTellsSpec : ChangeSpec := { name := "relTells", fn := fun _ => fun
  | [d1, d2, d3, d4, d5] => { results := [.lit (.bool true)], args := [d1, d2, d3, d4, d5] }
  | _ => none }
def relTellsRow : OpenClaim := { program := "ytdjjelknjojnfaagreat", sum := "ddd9a6c169b234f3710069917d85907916cc6777e6de26fcccc534a7a232002c", func := "spinney/spinneylaw16.RelTells", spec := "relTells", inPlace := ["sync/atomic.AddInt64", "sync/atomic.LoadUint64", "sync/atomic.CompareAndSwapUint64", "sync/atomic.StoreUint64", "sync/atomic.AddUint64"], unfollowed := true, recurses := true, apart := false }
def RelTellsSaid : Prop := relTellsRow.holds Tryz.pinned (OpenSpec.ofChange relTellsSpec)

/-- ITS FALSE NEIGHBOUR: 'it returns false'. Refute it at one input. -/
def relTellsWrong : ChangeSpec := { name := "relTells", fn := fun _ => fun
  | [d1, d2, d3, d4, d5] => { results := [.lit (.bool false)], args := [d1, d2, d3, d4, d5] }
  | _ => none }
def RelTellsWrongFalsely : Prop := relTellsRow.holds Tryz.pinned (OpenSpec.ofChange relTellsWrong)

/-- 'spinneylaw16.RelReach': WHATEVER THE INPUT: true; the input reads as it did. -/
def relReachSpec : ChangeSpec := { name := "relReach", fn := fun _ => fun
  | [d1, d2, d3] => { results := [.lit (.bool true)], args := [d1, d2, d3] }
  | _ => none }
def relReachRow : OpenClaim := { program := "ytdjjelknjojnfaagreat", sum := "ddd9a6c169b234f3710069917d85907916cc6777e6de26fcccc534a7a232002c", func := "spinney/spinneylaw16.RelReach", spec := "relReach", inPlace := ["sync/atomic.AddInt64", "sync/atomic.LoadUint64", "sync/atomic.CompareAndSwapUint64", "sync/atomic.StoreUint64"], unfollowed := true, recurses := true, apart := false }
def RelReachSaid : Prop := relReachRow.holds Tryz.pinned (OpenSpec.ofChange relReachSpec)

/-- ITS FALSE NEIGHBOUR: 'it returns false'. Refute it at one input. -/
def relReachWrong : ChangeSpec := { name := "relReach", fn := fun _ => fun
  | [d1, d2, d3] => { results := [.lit (.bool false)], args := [d1, d2, d3] }
  | _ => none }
def RelReachWrongFalsely : Prop := relReachRow.holds Tryz.pinned (OpenSpec.ofChange relReachWrong)

/-- 'spinneylaw16.RelRaw': WHATEVER THE INPUT: true; the input reads as it did. -/
def relRawSpec : ChangeSpec := { name := "relRaw", fn := fun _ => fun
  | [d1, d2, d3, d4, d5] => { results := [.lit (.bool true)], args := [d1, d2, d3, d4, d5] }
  | _ => none }
def relRawRow : OpenClaim := { program := "ytdjjelknjojnfaagreat", sum := "ddd9a6c169b234f3710069917d85907916cc6777e6de26fcccc534a7a232002c", func := "spinney/spinneylaw16.RelRaw", spec := "relRaw", inPlace := ["sync/atomic.AddInt64", "sync/atomic.LoadUint64", "sync/atomic.CompareAndSwapUint64", "sync/atomic.StoreUint64"], unfollowed := true, recurses := true, apart := false }
def RelRawSaid : Prop := relRawRow.holds Tryz.pinned (OpenSpec.ofChange relRawSpec)

/-- ITS FALSE NEIGHBOUR: 'it returns false'. Refute it at one input. -/
def relRawWrong : ChangeSpec := { name := "relRaw", fn := fun _ => fun
  | [d1, d2, d3, d4, d5] => { results := [.lit (.bool false)], args := [d1, d2, d3, d4, d5] }
  | _ => none }
def RelRawWrongFalsely : Prop := relRawRow.holds Tryz.pinned (OpenSpec.ofChange relRawWrong)

/-- 'spinneylaw16.RelJoins': WHATEVER THE INPUT: true; the input reads as it did. -/
def relJoinsSpec : ChangeSpec := { name := "relJoins", fn := fun _ => fun
  | [d1, d2, d3, d4] => { results := [.lit (.bool true)], args := [d1, d2, d3, d4] }
  | _ => none }
def relJoinsRow : OpenClaim := { program := "ytdjjelknjojnfaagreat", sum := "ddd9a6c169b234f3710069917d85907916cc6777e6de26fcccc534a7a232002c", func := "spinney/spinneylaw16.RelJoins", spec := "relJoins", inPlace := ["sync/atomic.AddInt64", "sync/atomic.LoadUint64", "sync/atomic.CompareAndSwapUint64", "sync/atomic.StoreUint64"], unfollowed := true, recurses := true, apart := false }
def RelJoinsSaid : Prop := relJoinsRow.holds Tryz.pinned (OpenSpec.ofChange relJoinsSpec)

/-- ITS FALSE NEIGHBOUR: 'it returns false'. Refute it at one input. -/
def relJoinsWrong : ChangeSpec := { name := "relJoins", fn := fun _ => fun
  | [d1, d2, d3, d4] => { results := [.lit (.bool false)], args := [d1, d2, d3, d4] }
  | _ => none }
def RelJoinsWrongFalsely : Prop := relJoinsRow.holds Tryz.pinned (OpenSpec.ofChange relJoinsWrong)

/-- 'spinneylaw16.RelMeets': WHATEVER THE INPUT: true; the input reads as it did. -/
def relMeetsSpec : ChangeSpec := { name := "relMeets", fn := fun _ => fun
  | [d1, d2, d3] => { results := [.lit (.bool true)], args := [d1, d2, d3] }
  | _ => none }
def relMeetsRow : OpenClaim := { program := "ytdjjelknjojnfaagreat", sum := "ddd9a6c169b234f3710069917d85907916cc6777e6de26fcccc534a7a232002c", func := "spinney/spinneylaw16.RelMeets", spec := "relMeets", inPlace := ["sync/atomic.AddInt64", "sync/atomic.LoadUint64", "sync/atomic.CompareAndSwapUint64", "sync/atomic.StoreUint64"], unfollowed := true, recurses := true, apart := false }
def RelMeetsSaid : Prop := relMeetsRow.holds Tryz.pinned (OpenSpec.ofChange relMeetsSpec)

/-- ITS FALSE NEIGHBOUR: 'it returns false'. Refute it at one input. -/
def relMeetsWrong : ChangeSpec := { name := "relMeets", fn := fun _ => fun
  | [d1, d2, d3] => { results := [.lit (.bool false)], args := [d1, d2, d3] }
  | _ => none }
def RelMeetsWrongFalsely : Prop := relMeetsRow.holds Tryz.pinned (OpenSpec.ofChange relMeetsWrong)

/- THE SECOND FORM. 'bulk': how many values and letters a reading holds, each counted each time it is reached (what is shared counts as often as it is met; a slice's spare places count too). A statement '..UptoSaid' is the law's where the arguments, and the package variables that the reading takes, are together of bulk at most 1048576: NARROWER than '..Said'. Prove '..Said' where nothing that the law and all that it calls make is longer than what came in: it says more and counts as full. Else prove '..UptoSaid'. A law counts once. -/
mutual
def uptoBulk {H : Type} : DataW H → Nat
  | .lit (.string bytes) => bytes.length + 1
  | .lit _ => 1
  | .nil => 1
  | .ptr d => uptoBulk d + 1
  | .slice elems spare => uptoBulkAll elems + uptoBulkAll spare + 1
  | .agg parts => uptoBulkAll parts + 1
  | .iface _ d => uptoBulk d + 1
  | .map entries => uptoBulkEntries entries + 1
  | .held _ => 1
def uptoBulkAll {H : Type} : List (DataW H) → Nat
  | [] => 0
  | d :: r => uptoBulk d + uptoBulkAll r
def uptoBulkEntries {H : Type} : List (Lit × DataW H) → Nat
  | [] => 0
  | x :: r => uptoBulkEntry x + uptoBulkEntries r
def uptoBulkEntry {H : Type} : Lit × DataW H → Nat
  | (.string bytes, d) => bytes.length + uptoBulk d + 1
  | (_, d) => uptoBulk d + 1
 end
def uptoSmall : (H : Type) → List (DataW H) → Bool := fun _ ds => decide (uptoBulkAll ds ≤ 1048576)
def OpenSpec.upto (s : _root_.Go.ChangeSpec) : _root_.Go.OpenSpec := { _root_.Go.OpenSpec.ofChange s with cond := some uptoSmall }

/-- 'spinneylaw16.RelChain', WHERE WHAT IT READS IS OF BULK AT MOST 1048576: true; the input reads as it did. -/
def relChainUptoRow : OpenClaim := { program := "ytdjjelknjojnfaagreat", sum := "ddd9a6c169b234f3710069917d85907916cc6777e6de26fcccc534a7a232002c", func := "spinney/spinneylaw16.RelChain", spec := "relChain", inPlace := ["sync/atomic.AddInt64", "sync/atomic.LoadUint64", "sync/atomic.CompareAndSwapUint64", "sync/atomic.StoreUint64"], unfollowed := true, recurses := true, apart := false, narrowed := true }
def RelChainUptoSaid : Prop := relChainUptoRow.holds Tryz.pinned (OpenSpec.upto relChainSpec)

/-- 'spinneylaw16.RelTells', WHERE WHAT IT READS IS OF BULK AT MOST 1048576: true; the input reads as it did. -/
def relTellsUptoRow : OpenClaim := { program := "ytdjjelknjojnfaagreat", sum := "ddd9a6c169b234f3710069917d85907916cc6777e6de26fcccc534a7a232002c", func := "spinney/spinneylaw16.RelTells", spec := "relTells", inPlace := ["sync/atomic.AddInt64", "sync/atomic.LoadUint64", "sync/atomic.CompareAndSwapUint64", "sync/atomic.StoreUint64", "sync/atomic.AddUint64"], unfollowed := true, recurses := true, apart := false, narrowed := true }
def RelTellsUptoSaid : Prop := relTellsUptoRow.holds Tryz.pinned (OpenSpec.upto relTellsSpec)

/-- 'spinneylaw16.RelReach', WHERE WHAT IT READS IS OF BULK AT MOST 1048576: true; the input reads as it did. -/
def relReachUptoRow : OpenClaim := { program := "ytdjjelknjojnfaagreat", sum := "ddd9a6c169b234f3710069917d85907916cc6777e6de26fcccc534a7a232002c", func := "spinney/spinneylaw16.RelReach", spec := "relReach", inPlace := ["sync/atomic.AddInt64", "sync/atomic.LoadUint64", "sync/atomic.CompareAndSwapUint64", "sync/atomic.StoreUint64"], unfollowed := true, recurses := true, apart := false, narrowed := true }
def RelReachUptoSaid : Prop := relReachUptoRow.holds Tryz.pinned (OpenSpec.upto relReachSpec)

/-- 'spinneylaw16.RelRaw', WHERE WHAT IT READS IS OF BULK AT MOST 1048576: true; the input reads as it did. -/
def relRawUptoRow : OpenClaim := { program := "ytdjjelknjojnfaagreat", sum := "ddd9a6c169b234f3710069917d85907916cc6777e6de26fcccc534a7a232002c", func := "spinney/spinneylaw16.RelRaw", spec := "relRaw", inPlace := ["sync/atomic.AddInt64", "sync/atomic.LoadUint64", "sync/atomic.CompareAndSwapUint64", "sync/atomic.StoreUint64"], unfollowed := true, recurses := true, apart := false, narrowed := true }
def RelRawUptoSaid : Prop := relRawUptoRow.holds Tryz.pinned (OpenSpec.upto relRawSpec)

/-- 'spinneylaw16.RelJoins', WHERE WHAT IT READS IS OF BULK AT MOST 1048576: true; the input reads as it did. -/
def relJoinsUptoRow : OpenClaim := { program := "ytdjjelknjojnfaagreat", sum := "ddd9a6c169b234f3710069917d85907916cc6777e6de26fcccc534a7a232002c", func := "spinney/spinneylaw16.RelJoins", spec := "relJoins", inPlace := ["sync/atomic.AddInt64", "sync/atomic.LoadUint64", "sync/atomic.CompareAndSwapUint64", "sync/atomic.StoreUint64"], unfollowed := true, recurses := true, apart := false, narrowed := true }
def RelJoinsUptoSaid : Prop := relJoinsUptoRow.holds Tryz.pinned (OpenSpec.upto relJoinsSpec)

/-- 'spinneylaw16.RelMeets', WHERE WHAT IT READS IS OF BULK AT MOST 1048576: true; the input reads as it did. -/
def relMeetsUptoRow : OpenClaim := { program := "ytdjjelknjojnfaagreat", sum := "ddd9a6c169b234f3710069917d85907916cc6777e6de26fcccc534a7a232002c", func := "spinney/spinneylaw16.RelMeets", spec := "relMeets", inPlace := ["sync/atomic.AddInt64", "sync/atomic.LoadUint64", "sync/atomic.CompareAndSwapUint64", "sync/atomic.StoreUint64"], unfollowed := true, recurses := true, apart := false, narrowed := true }
def RelMeetsUptoSaid : Prop := relMeetsUptoRow.holds Tryz.pinned (OpenSpec.upto relMeetsSpec)

end Rows
end Go.Proofs.YtdjjelknjojnfaaGreat
