/-
  No cell of these rows narrows 'for every input' (looked for: loops, veiled, ifaces, maps, wideKeys, modest, calm, conditions, laid).
  DERIVED. THE GIVEN ROWS OF THIS SEAT. 4 by the template 'for every input the law returns true; each argument reads behind the call as it read before'; 0 by the template 'total and deterministic' (their statements: YthcjmbfhcdkffaaTotals.lean).
  GIVEN WITH THE SEED: the statements are not yours to turn. If you find one false, say at which input.
  Laid BY PROGRAM, IN A SANDBOX (cutbox-rows.mjs): the forced cells as the released guide's own fill.sh prints them over the translation 9b61420de3e14d35… (all of the seat's roots in one cut). By AI agents, Wed Nov 11 2026. No macro, syntax, notation, axiom, sorry.
-/
import Derived.Test.YthcjmbfhcdkffaaChecked
import GoSem.Claim
import GoSem.ClaimJoined
import GoSem.ClaimMapViews
import Derived.JoinedTies
import Derived.KernelRfl
namespace Go.Proofs.Ythcjmbfhcdkffaa
/- THE CELL 'sum', in the pinned program and in every row, IS THE sha256 OF THE DUMP (.gsa) THAT YthcjmbfhcdkffaaProg.lean LOADS. Nothing in Lean hashes anything: it is a label: what it is worth is what the hold of that sum in a sandbox is worth. -/
noncomputable def Try.pinned : Pinned := { name := "ythcjmbfhcdkffaa", sum := "9b61420de3e14d35f8ad4b6aa001118105d6f8bb45f3d9c1604f4248020b11b0", checked := Try.checked }
namespace Rows
def none {H : Type} : Left H := { results := [], args := [] }

/-- 'spinneylaw5.RanksPlay': WHATEVER THE INPUT: true; the input reads as it did. -/
def ranksPlaySpec : ChangeSpec := { name := "ranksPlay", fn := fun _ => fun
  | [d] => { results := [.lit (.bool true)], args := [d] }
  | _ => none }
def ranksPlayRow : OpenClaim := { program := "ythcjmbfhcdkffaa", sum := "9b61420de3e14d35f8ad4b6aa001118105d6f8bb45f3d9c1604f4248020b11b0", func := "spinney/spinneylaw5.RanksPlay", spec := "ranksPlay", unfollowed := true, recurses := true, apart := false }
def RanksPlaySaid : Prop := ranksPlayRow.holds Try.pinned (OpenSpec.ofChange ranksPlaySpec)

/-- ITS FALSE NEIGHBOUR: 'it returns false'. Refute it at one input. -/
def ranksPlayWrong : ChangeSpec := { name := "ranksPlay", fn := fun _ => fun
  | [d] => { results := [.lit (.bool false)], args := [d] }
  | _ => none }
def RanksPlayWrongFalsely : Prop := ranksPlayRow.holds Try.pinned (OpenSpec.ofChange ranksPlayWrong)

/-- 'spinneylaw5.RanksSort': WHATEVER THE INPUT: true; the input reads as it did. -/
def ranksSortSpec : ChangeSpec := { name := "ranksSort", fn := fun _ => fun
  | [d] => { results := [.lit (.bool true)], args := [d] }
  | _ => none }
def ranksSortRow : OpenClaim := { program := "ythcjmbfhcdkffaa", sum := "9b61420de3e14d35f8ad4b6aa001118105d6f8bb45f3d9c1604f4248020b11b0", func := "spinney/spinneylaw5.RanksSort", spec := "ranksSort", unfollowed := true, recurses := true, apart := false }
def RanksSortSaid : Prop := ranksSortRow.holds Try.pinned (OpenSpec.ofChange ranksSortSpec)

/-- ITS FALSE NEIGHBOUR: 'it returns false'. Refute it at one input. -/
def ranksSortWrong : ChangeSpec := { name := "ranksSort", fn := fun _ => fun
  | [d] => { results := [.lit (.bool false)], args := [d] }
  | _ => none }
def RanksSortWrongFalsely : Prop := ranksSortRow.holds Try.pinned (OpenSpec.ofChange ranksSortWrong)

/-- 'spinneylaw5.RanksChange': WHATEVER THE INPUT: true; the input reads as it did. -/
def ranksChangeSpec : ChangeSpec := { name := "ranksChange", fn := fun _ => fun
  | [d1, d2, d3, d4] => { results := [.lit (.bool true)], args := [d1, d2, d3, d4] }
  | _ => none }
def ranksChangeRow : OpenClaim := { program := "ythcjmbfhcdkffaa", sum := "9b61420de3e14d35f8ad4b6aa001118105d6f8bb45f3d9c1604f4248020b11b0", func := "spinney/spinneylaw5.RanksChange", spec := "ranksChange", unfollowed := true, recurses := true, apart := false }
def RanksChangeSaid : Prop := ranksChangeRow.holds Try.pinned (OpenSpec.ofChange ranksChangeSpec)

/-- ITS FALSE NEIGHBOUR: 'it returns false'. Refute it at one input. -/
def ranksChangeWrong : ChangeSpec := { name := "ranksChange", fn := fun _ => fun
  | [d1, d2, d3, d4] => { results := [.lit (.bool false)], args := [d1, d2, d3, d4] }
  | _ => none }
def RanksChangeWrongFalsely : Prop := ranksChangeRow.holds Try.pinned (OpenSpec.ofChange ranksChangeWrong)

/-- 'spinneylaw5.RanksTwice': WHATEVER THE INPUT: true; the input reads as it did. -/
def ranksTwiceSpec : ChangeSpec := { name := "ranksTwice", fn := fun _ => fun
  | [d] => { results := [.lit (.bool true)], args := [d] }
  | _ => none }
def ranksTwiceRow : OpenClaim := { program := "ythcjmbfhcdkffaa", sum := "9b61420de3e14d35f8ad4b6aa001118105d6f8bb45f3d9c1604f4248020b11b0", func := "spinney/spinneylaw5.RanksTwice", spec := "ranksTwice", unfollowed := true, recurses := true, apart := false }
def RanksTwiceSaid : Prop := ranksTwiceRow.holds Try.pinned (OpenSpec.ofChange ranksTwiceSpec)

/-- ITS FALSE NEIGHBOUR: 'it returns false'. Refute it at one input. -/
def ranksTwiceWrong : ChangeSpec := { name := "ranksTwice", fn := fun _ => fun
  | [d] => { results := [.lit (.bool false)], args := [d] }
  | _ => none }
def RanksTwiceWrongFalsely : Prop := ranksTwiceRow.holds Try.pinned (OpenSpec.ofChange ranksTwiceWrong)

/- THE SECOND FORM. 'bulk': how many values and letters a reading holds, each counted each time it is reached (what is shared counts as often as it is met; a slice's spare places count too). A statement '..UptoSaid' is the law's where the arguments, and the package variables that the reading takes, are together of bulk at most 1048576: NARROWER than '..Said'. Prove '..Said' where nothing that the law and all that it calls make is longer than what came in: it says more and counts as full. Else prove '..UptoSaid'. A law counts once. -/
mutual
def uptoBulk {H : Type} : DataW H → Nat
  | .lit (.string bytes) => bytes.length + 1
  | .lit _ => 1
  | .nil => 1
  | .ptr d => uptoBulk d + 1
  | .slice elems spare => uptoBulkAll elems + uptoBulkAll spare + 1
  | .agg parts => uptoBulkAll parts + 1
  | .iface _ d => uptoBulk d + 1
  | .map entries => uptoBulkEntries entries + 1
  | .held _ => 1
def uptoBulkAll {H : Type} : List (DataW H) → Nat
  | [] => 0
  | d :: r => uptoBulk d + uptoBulkAll r
def uptoBulkEntries {H : Type} : List (Lit × DataW H) → Nat
  | [] => 0
  | x :: r => uptoBulkEntry x + uptoBulkEntries r
def uptoBulkEntry {H : Type} : Lit × DataW H → Nat
  | (.string bytes, d) => bytes.length + uptoBulk d + 1
  | (_, d) => uptoBulk d + 1
 end
def uptoSmall : (H : Type) → List (DataW H) → Bool := fun _ ds => decide (uptoBulkAll ds ≤ 1048576)
def OpenSpec.upto (s : _root_.Go.ChangeSpec) : _root_.Go.OpenSpec := { _root_.Go.OpenSpec.ofChange s with cond := some uptoSmall }

/-- 'spinneylaw5.RanksPlay', WHERE WHAT IT READS IS OF BULK AT MOST 1048576: true; the input reads as it did. -/
def ranksPlayUptoRow : OpenClaim := { program := "ythcjmbfhcdkffaa", sum := "9b61420de3e14d35f8ad4b6aa001118105d6f8bb45f3d9c1604f4248020b11b0", func := "spinney/spinneylaw5.RanksPlay", spec := "ranksPlay", unfollowed := true, recurses := true, apart := false, narrowed := true }
def RanksPlayUptoSaid : Prop := ranksPlayUptoRow.holds Try.pinned (OpenSpec.upto ranksPlaySpec)

/-- 'spinneylaw5.RanksSort', WHERE WHAT IT READS IS OF BULK AT MOST 1048576: true; the input reads as it did. -/
def ranksSortUptoRow : OpenClaim := { program := "ythcjmbfhcdkffaa", sum := "9b61420de3e14d35f8ad4b6aa001118105d6f8bb45f3d9c1604f4248020b11b0", func := "spinney/spinneylaw5.RanksSort", spec := "ranksSort", unfollowed := true, recurses := true, apart := false, narrowed := true }
def RanksSortUptoSaid : Prop := ranksSortUptoRow.holds Try.pinned (OpenSpec.upto ranksSortSpec)

/-- 'spinneylaw5.RanksChange', WHERE WHAT IT READS IS OF BULK AT MOST 1048576: true; the input reads as it did. -/
def ranksChangeUptoRow : OpenClaim := { program := "ythcjmbfhcdkffaa", sum := "9b61420de3e14d35f8ad4b6aa001118105d6f8bb45f3d9c1604f4248020b11b0", func := "spinney/spinneylaw5.RanksChange", spec := "ranksChange", unfollowed := true, recurses := true, apart := false, narrowed := true }
def RanksChangeUptoSaid : Prop := ranksChangeUptoRow.holds Try.pinned (OpenSpec.upto ranksChangeSpec)

/-- 'spinneylaw5.RanksTwice', WHERE WHAT IT READS IS OF BULK AT MOST 1048576: true; the input reads as it did. -/
def ranksTwiceUptoRow : OpenClaim := { program := "ythcjmbfhcdkffaa", sum := "9b61420de3e14d35f8ad4b6aa001118105d6f8bb45f3d9c1604f4248020b11b0", func := "spinney/spinneylaw5.RanksTwice", spec := "ranksTwice", unfollowed := true, recurses := true, apart := false, narrowed := true }
def RanksTwiceUptoSaid : Prop := ranksTwiceUptoRow.holds Try.pinned (OpenSpec.upto ranksTwiceSpec)

end Rows
end Go.Proofs.Ythcjmbfhcdkffaa
