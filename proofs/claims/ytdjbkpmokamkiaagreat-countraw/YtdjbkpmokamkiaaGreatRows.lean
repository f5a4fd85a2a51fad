/-
  No cell of these rows narrows 'for every input' (looked for: loops, veiled, ifaces, maps, wideKeys, modest, calm, conditions, laid).
  DERIVED. THE GIVEN ROWS OF THIS SEAT. 6 by the template 'for every input the law returns true; each argument reads behind the call as it read before'; 0 by the template 'total and deterministic' (their statements: YtdjbkpmokamkiaaGreatTotals.lean).
  GIVEN WITH THE SEED: the statements are not yours to turn. If you find one false, say at which input.
  Laid BY PROGRAM, IN A SANDBOX (cutbox-rows.mjs): the forced cells as the released guide's own fill.sh prints them over the translation 78b1132a6f4c2f2b… (all of the seat's roots in one cut). By AI agents, Wed Nov 11 2026. No macro, syntax, notation, axiom, sorry.
-/
import Derived.Test.YtdjbkpmokamkiaaGreatChecked
import GoSem.Claim
import GoSem.ClaimJoined
import GoSem.ClaimMapViews
import Derived.JoinedTies
import Derived.KernelRfl
namespace Go.Proofs.YtdjbkpmokamkiaaGreat
/- THE CELL 'sum', in the pinned program and in every row, IS THE sha256 OF THE DUMP (.gsa) THAT YtdjbkpmokamkiaaGreatProg.lean LOADS. Nothing in Lean hashes anything: it is a label: what it is worth is what the hold of that sum in a sandbox is worth. -/
noncomputable def Tryz.pinned : Pinned := { name := "ytdjbkpmokamkiaagreat", sum := "78b1132a6f4c2f2bf9a45582ea2f5b8b8f88b43e9f73b888fc4917641b672164", checked := Tryz.checked }
namespace Rows
def none {H : Type} : Left H := { results := [], args := [] }

/-- 'spinneylaw14.CountTells': WHATEVER THE INPUT: true; the input reads as it did. -/
def countTellsSpec : ChangeSpec := { name := "countTells", fn := fun _ => fun
  | [d1, d2, d3, d4] => { results := [.lit (.bool true)], args := [d1, d2, d3, d4] }
  | _ => none }
def countTellsRow : OpenClaim := { program := "ytdjbkpmokamkiaagreat", sum := "78b1132a6f4c2f2bf9a45582ea2f5b8b8f88b43e9f73b888fc4917641b672164", func := "spinney/spinneylaw14.CountTells", spec := "countTells", inPlace := ["sync/atomic.AddInt64", "sync/atomic.LoadUint64", "sync/atomic.CompareAndSwapUint64", "sync/atomic.StoreUint64"], unfollowed := true, recurses := true, apart := false }
def CountTellsSaid : Prop := countTellsRow.holds Tryz.pinned (OpenSpec.ofChange countTellsSpec)

/-- ITS FALSE NEIGHBOUR: 'it returns false'. Refute it at one input. -/
def countTellsWrong : ChangeSpec := { name := "countTells", fn := fun _ => fun
  | [d1, d2, d3, d4] => { results := [.lit (.bool false)], args := [d1, d2, d3, d4] }
  | _ => none }
def CountTellsWrongFalsely : Prop := countTellsRow.holds Tryz.pinned (OpenSpec.ofChange countTellsWrong)

/-- 'spinneylaw14.CountRaw': WHATEVER THE INPUT: true; the input reads as it did. -/
def countRawSpec : ChangeSpec := { name := "countRaw", fn := fun _ => fun
  | [d1, d2] => { results := [.lit (.bool true)], args := [d1, d2] }
  | _ => none }
def countRawRow : OpenClaim := { program := "ytdjbkpmokamkiaagreat", sum := "78b1132a6f4c2f2bf9a45582ea2f5b8b8f88b43e9f73b888fc4917641b672164", func := "spinney/spinneylaw14.CountRaw", spec := "countRaw", inPlace := ["sync/atomic.AddInt64", "sync/atomic.LoadUint64", "sync/atomic.CompareAndSwapUint64", "sync/atomic.StoreUint64"], unfollowed := true, recurses := true, apart := false }
def CountRawSaid : Prop := countRawRow.holds Tryz.pinned (OpenSpec.ofChange countRawSpec)

/-- ITS FALSE NEIGHBOUR: 'it returns false'. Refute it at one input. -/
def countRawWrong : ChangeSpec := { name := "countRaw", fn := fun _ => fun
  | [d1, d2] => { results := [.lit (.bool false)], args := [d1, d2] }
  | _ => none }
def CountRawWrongFalsely : Prop := countRawRow.holds Tryz.pinned (OpenSpec.ofChange countRawWrong)

/-- 'spinneylaw14.CountSums': WHATEVER THE INPUT: true; the input reads as it did. -/
def countSumsSpec : ChangeSpec := { name := "countSums", fn := fun _ => fun
  | [d1, d2] => { results := [.lit (.bool true)], args := [d1, d2] }
  | _ => none }
def countSumsRow : OpenClaim := { program := "ytdjbkpmokamkiaagreat", sum := "78b1132a6f4c2f2bf9a45582ea2f5b8b8f88b43e9f73b888fc4917641b672164", func := "spinney/spinneylaw14.CountSums", spec := "countSums", inPlace := ["sync/atomic.AddInt64", "sync/atomic.LoadUint64", "sync/atomic.CompareAndSwapUint64", "sync/atomic.StoreUint64"], unfollowed := true, recurses := true, apart := false }
def CountSumsSaid : Prop := countSumsRow.holds Tryz.pinned (OpenSpec.ofChange countSumsSpec)

/-- ITS FALSE NEIGHBOUR: 'it returns false'. Refute it at one input. -/
def countSumsWrong : ChangeSpec := { name := "countSums", fn := fun _ => fun
  | [d1, d2] => { results := [.lit (.bool false)], args := [d1, d2] }
  | _ => none }
def CountSumsWrongFalsely : Prop := countSumsRow.holds Tryz.pinned (OpenSpec.ofChange countSumsWrong)

/-- 'spinneylaw14.CountOne': WHATEVER THE INPUT: true; the input reads as it did. -/
def countOneSpec : ChangeSpec := { name := "countOne", fn := fun _ => fun
  | [d] => { results := [.lit (.bool true)], args := [d] }
  | _ => none }
def countOneRow : OpenClaim := { program := "ytdjbkpmokamkiaagreat", sum := "78b1132a6f4c2f2bf9a45582ea2f5b8b8f88b43e9f73b888fc4917641b672164", func := "spinney/spinneylaw14.CountOne", spec := "countOne", inPlace := ["sync/atomic.AddInt64", "sync/atomic.LoadUint64", "sync/atomic.CompareAndSwapUint64", "sync/atomic.StoreUint64"], unfollowed := true, recurses := true, apart := false }
def CountOneSaid : Prop := countOneRow.holds Tryz.pinned (OpenSpec.ofChange countOneSpec)

/-- ITS FALSE NEIGHBOUR: 'it returns false'. Refute it at one input. -/
def countOneWrong : ChangeSpec := { name := "countOne", fn := fun _ => fun
  | [d] => { results := [.lit (.bool false)], args := [d] }
  | _ => none }
def CountOneWrongFalsely : Prop := countOneRow.holds Tryz.pinned (OpenSpec.ofChange countOneWrong)

/-- 'spinneylaw14.CountLevels': WHATEVER THE INPUT: true; the input reads as it did. -/
def countLevelsSpec : ChangeSpec := { name := "countLevels", fn := fun _ => fun
  | [d1, d2] => { results := [.lit (.bool true)], args := [d1, d2] }
  | _ => none }
def countLevelsRow : OpenClaim := { program := "ytdjbkpmokamkiaagreat", sum := "78b1132a6f4c2f2bf9a45582ea2f5b8b8f88b43e9f73b888fc4917641b672164", func := "spinney/spinneylaw14.CountLevels", spec := "countLevels", inPlace := ["sync/atomic.AddInt64", "sync/atomic.LoadUint64", "sync/atomic.CompareAndSwapUint64", "sync/atomic.StoreUint64"], unfollowed := true, recurses := true, apart := false }
def CountLevelsSaid : Prop := countLevelsRow.holds Tryz.pinned (OpenSpec.ofChange countLevelsSpec)

/-- ITS FALSE NEIGHBOUR: 'it returns false'. Refute it at one input. -/
def countLevelsWrong : ChangeSpec := { name := "countLevels", fn := fun _ => fun
  | [d1, d2] => { results := [.lit (.bool false)], args := [d1, d2] }
  | _ => none }
def CountLevelsWrongFalsely : Prop := countLevelsRow.holds Tryz.pinned (OpenSpec.ofChange countLevelsWrong)

/-- 'spinneylaw14.CountWalks': WHATEVER THE INPUT: true; the input reads as it did. -/
def countWalksSpec : ChangeSpec := { name := "countWalks", fn := fun _ => fun
  | [d1, d2] => { results := [.lit (.bool true)], args := [d1, d2] }
  | _ => none }
def countWalksRow : OpenClaim := { program := "ytdjbkpmokamkiaagreat", sum := "78b1132a6f4c2f2bf9a45582ea2f5b8b8f88b43e9f73b888fc4917641b672164", func := "spinney/spinneylaw14.CountWalks", spec := "countWalks", inPlace := ["sync/atomic.AddInt64", "sync/atomic.LoadUint64", "sync/atomic.CompareAndSwapUint64", "sync/atomic.StoreUint64"], unfollowed := true, recurses := true, apart := false }
def CountWalksSaid : Prop := countWalksRow.holds Tryz.pinned (OpenSpec.ofChange countWalksSpec)

/-- ITS FALSE NEIGHBOUR: 'it returns false'. Refute it at one input. -/
def countWalksWrong : ChangeSpec := { name := "countWalks", fn := fun _ => fun
  | [d1, d2] => { results := [.lit (.bool false)], args := [d1, d2] }
  | _ => none }
def CountWalksWrongFalsely : Prop := countWalksRow.holds Tryz.pinned (OpenSpec.ofChange countWalksWrong)

/- THE SECOND FORM. 'bulk': how many values and letters a reading holds, each counted each time it is reached (what is shared counts as often as it is met; a slice's spare places count too). A statement '..UptoSaid' is the law's where the arguments, and the package variables that the reading takes, are together of bulk at most 1048576: NARROWER than '..Said'. Prove '..Said' where nothing that the law and all that it calls make is longer than what came in: it says more and counts as full. Else prove '..UptoSaid'. A law counts once. -/
mutual
def uptoBulk {H : Type} : DataW H → Nat
  | .lit (.string bytes) => bytes.length + 1
  | .lit _ => 1
  | .nil => 1
  | .ptr d => uptoBulk d + 1
  | .slice elems spare => uptoBulkAll elems + uptoBulkAll spare + 1
  | .agg parts => uptoBulkAll parts + 1
  | .iface _ d => uptoBulk d + 1
  | .map entries => uptoBulkEntries entries + 1
  | .held _ => 1
def uptoBulkAll {H : Type} : List (DataW H) → Nat
  | [] => 0
  | d :: r => uptoBulk d + uptoBulkAll r
def uptoBulkEntries {H : Type} : List (Lit × DataW H) → Nat
  | [] => 0
  | x :: r => uptoBulkEntry x + uptoBulkEntries r
def uptoBulkEntry {H : Type} : Lit × DataW H → Nat
  | (.string bytes, d) => bytes.length + uptoBulk d + 1
  | (_, d) => uptoBulk d + 1
 end
def uptoSmall : (H : Type) → List (DataW H) → Bool := fun _ ds => decide (uptoBulkAll ds ≤ 1048576)
def OpenSpec.upto (s : _root_.Go.ChangeSpec) : _root_.Go.OpenSpec := { _root_.Go.OpenSpec.ofChange s with cond := some uptoSmall }

/-- 'spinneylaw14.CountTells', WHERE WHAT IT READS IS OF BULK AT MOST 1048576: true; the input reads as it did. -/
def countTellsUptoRow : OpenClaim := { program := "ytdjbkpmokamkiaagreat", sum := "78b1132a6f4c2f2bf9a45582ea2f5b8b8f88b43e9f73b888fc4917641b672164", func := "spinney/spinneylaw14.CountTells", spec := "countTells", inPlace := ["sync/atomic.AddInt64", "sync/atomic.LoadUint64", "sync/atomic.CompareAndSwapUint64", "sync/atomic.StoreUint64"], unfollowed := true, recurses := true, apart := false, narrowed := true }
def CountTellsUptoSaid : Prop := countTellsUptoRow.holds Tryz.pinned (OpenSpec.upto countTellsSpec)

/-- 'spinneylaw14.CountRaw', WHERE WHAT IT READS IS OF BULK AT MOST 1048576: true; the input reads as it did. -/
def countRawUptoRow : OpenClaim := { program := "ytdjbkpmokamkiaagreat", sum := "78b1132a6f4c2f2bf9a45582ea2f5b8b8f88b43e9f73b888fc4917641b672164", func := "spinney/spinneylaw14.CountRaw", spec := "countRaw", inPlace := ["sync/atomic.AddInt64", "sync/atomic.LoadUint64", "sync/atomic.CompareAndSwapUint64", "sync/atomic.StoreUint64"], unfollowed := true, recurses := true, apart := false, narrowed := true }
def CountRawUptoSaid : Prop := countRawUptoRow.holds Tryz.pinned (OpenSpec.upto countRawSpec)

/-- 'spinneylaw14.CountSums', WHERE WHAT IT READS IS OF BULK AT MOST 1048576: true; the input reads as it did. -/
def countSumsUptoRow : OpenClaim := { program := "ytdjbkpmokamkiaagreat", sum := "78b1132a6f4c2f2bf9a45582ea2f5b8b8f88b43e9f73b888fc4917641b672164", func := "spinney/spinneylaw14.CountSums", spec := "countSums", inPlace := ["sync/atomic.AddInt64", "sync/atomic.LoadUint64", "sync/atomic.CompareAndSwapUint64", "sync/atomic.StoreUint64"], unfollowed := true, recurses := true, apart := false, narrowed := true }
def CountSumsUptoSaid : Prop := countSumsUptoRow.holds Tryz.pinned (OpenSpec.upto countSumsSpec)

/-- 'spinneylaw14.CountOne', WHERE WHAT IT READS IS OF BULK AT MOST 1048576: true; the input reads as it did. -/
def countOneUptoRow : OpenClaim := { program := "ytdjbkpmokamkiaagreat", sum := "78b1132a6f4c2f2bf9a45582ea2f5b8b8f88b43e9f73b888fc4917641b672164", func := "spinney/spinneylaw14.CountOne", spec := "countOne", inPlace := ["sync/atomic.AddInt64", "sync/atomic.LoadUint64", "sync/atomic.CompareAndSwapUint64", "sync/atomic.StoreUint64"], unfollowed := true, recurses := true, apart := false, narrowed := true }
def CountOneUptoSaid : Prop := countOneUptoRow.holds Tryz.pinned (OpenSpec.upto countOneSpec)

/-- 'spinneylaw14.CountLevels', WHERE WHAT IT READS IS OF BULK AT MOST 1048576: true; the input reads as it did. -/
def countLevelsUptoRow : OpenClaim := { program := "ytdjbkpmokamkiaagreat", sum := "78b1132a6f4c2f2bf9a45582ea2f5b8b8f88b43e9f73b888fc4917641b672164", func := "spinney/spinneylaw14.CountLevels", spec := "countLevels", inPlace := ["sync/atomic.AddInt64", "sync/atomic.LoadUint64", "sync/atomic.CompareAndSwapUint64", "sync/atomic.StoreUint64"], unfollowed := true, recurses := true, apart := false, narrowed := true }
def CountLevelsUptoSaid : Prop := countLevelsUptoRow.holds Tryz.pinned (OpenSpec.upto countLevelsSpec)

/-- 'spinneylaw14.CountWalks', WHERE WHAT IT READS IS OF BULK AT MOST 1048576: true; the input reads as it did. -/
def countWalksUptoRow : OpenClaim := { program := "ytdjbkpmokamkiaagreat", sum := "78b1132a6f4c2f2bf9a45582ea2f5b8b8f88b43e9f73b888fc4917641b672164", func := "spinney/spinneylaw14.CountWalks", spec := "countWalks", inPlace := ["sync/atomic.AddInt64", "sync/atomic.LoadUint64", "sync/atomic.CompareAndSwapUint64", "sync/atomic.StoreUint64"], unfollowed := true, recurses := true, apart := false, narrowed := true }
def CountWalksUptoSaid : Prop := countWalksUptoRow.holds Tryz.pinned (OpenSpec.upto countWalksSpec)

end Rows
end Go.Proofs.YtdjbkpmokamkiaaGreat
