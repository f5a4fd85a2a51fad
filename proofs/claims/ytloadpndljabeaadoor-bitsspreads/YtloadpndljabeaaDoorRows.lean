/-
  NARROWER THAN 'FOR EVERY INPUT', by the rows' own cells (each row's printed sentence says how): BitsTells: laid · BitsBack: laid · BitsUnlike: laid · BitsHomes: laid · BitsUnmix: laid · BitsSpreads: laid.
  DERIVED. THE GIVEN ROWS OF THIS SEAT. 6 by the template 'for every input the law returns true; each argument reads behind the call as it read before'; 0 by the template 'total and deterministic' (their statements: YtloadpndljabeaaDoorTotals.lean).
  GIVEN WITH THE SEED: the statements are not yours to turn. If you find one false, say at which input.
  Laid BY PROGRAM, IN A SANDBOX (cutbox-rows.mjs): the forced cells as the released guide's own fill.sh prints them over the translation 22b6b1cb5ab2d83c… (all of the seat's roots in one cut). By AI agents, Wed Nov 11 2026. No macro, syntax, notation, axiom, sorry.
-/
import Derived.Test.YtloadpndljabeaaDoorChecked
import GoSem.Claim
import GoSem.ClaimJoined
import GoSem.ClaimMapViews
import Derived.JoinedTies
import Derived.KernelRfl
namespace Go.Proofs.YtloadpndljabeaaDoor
/- THE CELL 'sum', in the pinned program and in every row, IS THE sha256 OF THE DUMP (.gsa) THAT YtloadpndljabeaaDoorProg.lean LOADS. Nothing in Lean hashes anything: it is a label: what it is worth is what the hold of that sum in a sandbox is worth. -/
noncomputable def Tryd.pinned : Pinned := { name := "ytloadpndljabeaadoor", sum := "22b6b1cb5ab2d83c6f581109454762f834d5c31ce840386ab65c49b543eea265", checked := Tryd.checked }
namespace Rows
def none {H : Type} : Left H := { results := [], args := [] }

/- WHAT THE LISTED PACKAGE-LEVEL VARIABLES READ AS WHEN THE CALL BEGINS. Each datum BY PROGRAM (the guide's laid-datum.mjs) off the statement by which the dump's own 'gosem.cut.vars' lays the variable. In a bare row this is a premise. The card (YtloadpndljabeaaDoorCards.lean) ties it to the program's text. -/
def laid_spinney_bits_groups {H : Type} : DataW H := .agg [.lit (.int .u64 6148914691236517205), .lit (.int .u64 3689348814741910323), .lit (.int .u64 1085102592571150095), .lit (.int .u64 71777214294589695), .lit (.int .u64 281470681808895), .lit (.int .u64 4294967295)]

/-- 'spinneylaw1.BitsTells': WHATEVER THE INPUT: true; the input reads as it did. -/
def bitsTellsSpec : ChangeSpec := { name := "bitsTells", fn := fun _ => fun
  | [d1, d2, d3, d4, d5, d6, d7] => { results := [.lit (.bool true)], args := [d1, d2, d3, d4, d5, d6, d7] }
  | _ => none }
def bitsTellsRow : OpenClaim := { program := "ytloadpndljabeaadoor", sum := "22b6b1cb5ab2d83c6f581109454762f834d5c31ce840386ab65c49b543eea265", func := "spinney/spinneylaw1.BitsTells", spec := "bitsTells", named := ["spinney/bits.groups"], apart := false, laid := [("spinney/bits.groups", laid_spinney_bits_groups)] }
def BitsTellsSaid : Prop := bitsTellsRow.holds Tryd.pinned (OpenSpec.ofChange bitsTellsSpec)

/-- ITS FALSE NEIGHBOUR: 'it returns false'. Refute it at one input. -/
def bitsTellsWrong : ChangeSpec := { name := "bitsTells", fn := fun _ => fun
  | [d1, d2, d3, d4, d5, d6, d7] => { results := [.lit (.bool false)], args := [d1, d2, d3, d4, d5, d6, d7] }
  | _ => none }
def BitsTellsWrongFalsely : Prop := bitsTellsRow.holds Tryd.pinned (OpenSpec.ofChange bitsTellsWrong)

/-- 'spinneylaw1.BitsBack': WHATEVER THE INPUT: true; the input reads as it did. -/
def bitsBackSpec : ChangeSpec := { name := "bitsBack", fn := fun _ => fun
  | [d1, d2, d3, d4] => { results := [.lit (.bool true)], args := [d1, d2, d3, d4] }
  | _ => none }
def bitsBackRow : OpenClaim := { program := "ytloadpndljabeaadoor", sum := "22b6b1cb5ab2d83c6f581109454762f834d5c31ce840386ab65c49b543eea265", func := "spinney/spinneylaw1.BitsBack", spec := "bitsBack", named := ["spinney/bits.groups"], apart := false, laid := [("spinney/bits.groups", laid_spinney_bits_groups)] }
def BitsBackSaid : Prop := bitsBackRow.holds Tryd.pinned (OpenSpec.ofChange bitsBackSpec)

/-- ITS FALSE NEIGHBOUR: 'it returns false'. Refute it at one input. -/
def bitsBackWrong : ChangeSpec := { name := "bitsBack", fn := fun _ => fun
  | [d1, d2, d3, d4] => { results := [.lit (.bool false)], args := [d1, d2, d3, d4] }
  | _ => none }
def BitsBackWrongFalsely : Prop := bitsBackRow.holds Tryd.pinned (OpenSpec.ofChange bitsBackWrong)

/-- 'spinneylaw1.BitsUnlike': WHATEVER THE INPUT: true; the input reads as it did. -/
def bitsUnlikeSpec : ChangeSpec := { name := "bitsUnlike", fn := fun _ => fun
  | [d1, d2, d3, d4, d5, d6] => { results := [.lit (.bool true)], args := [d1, d2, d3, d4, d5, d6] }
  | _ => none }
def bitsUnlikeRow : OpenClaim := { program := "ytloadpndljabeaadoor", sum := "22b6b1cb5ab2d83c6f581109454762f834d5c31ce840386ab65c49b543eea265", func := "spinney/spinneylaw1.BitsUnlike", spec := "bitsUnlike", named := ["spinney/bits.groups"], apart := false, laid := [("spinney/bits.groups", laid_spinney_bits_groups)] }
def BitsUnlikeSaid : Prop := bitsUnlikeRow.holds Tryd.pinned (OpenSpec.ofChange bitsUnlikeSpec)

/-- ITS FALSE NEIGHBOUR: 'it returns false'. Refute it at one input. -/
def bitsUnlikeWrong : ChangeSpec := { name := "bitsUnlike", fn := fun _ => fun
  | [d1, d2, d3, d4, d5, d6] => { results := [.lit (.bool false)], args := [d1, d2, d3, d4, d5, d6] }
  | _ => none }
def BitsUnlikeWrongFalsely : Prop := bitsUnlikeRow.holds Tryd.pinned (OpenSpec.ofChange bitsUnlikeWrong)

/-- 'spinneylaw1.BitsHomes': WHATEVER THE INPUT: true; the input reads as it did. -/
def bitsHomesSpec : ChangeSpec := { name := "bitsHomes", fn := fun _ => fun
  | [d1, d2] => { results := [.lit (.bool true)], args := [d1, d2] }
  | _ => none }
def bitsHomesRow : OpenClaim := { program := "ytloadpndljabeaadoor", sum := "22b6b1cb5ab2d83c6f581109454762f834d5c31ce840386ab65c49b543eea265", func := "spinney/spinneylaw1.BitsHomes", spec := "bitsHomes", named := ["spinney/bits.groups"], apart := false, laid := [("spinney/bits.groups", laid_spinney_bits_groups)] }
def BitsHomesSaid : Prop := bitsHomesRow.holds Tryd.pinned (OpenSpec.ofChange bitsHomesSpec)

/-- ITS FALSE NEIGHBOUR: 'it returns false'. Refute it at one input. -/
def bitsHomesWrong : ChangeSpec := { name := "bitsHomes", fn := fun _ => fun
  | [d1, d2] => { results := [.lit (.bool false)], args := [d1, d2] }
  | _ => none }
def BitsHomesWrongFalsely : Prop := bitsHomesRow.holds Tryd.pinned (OpenSpec.ofChange bitsHomesWrong)

/-- 'spinneylaw1.BitsUnmix': WHATEVER THE INPUT: true; the input reads as it did. -/
def bitsUnmixSpec : ChangeSpec := { name := "bitsUnmix", fn := fun _ => fun
  | [d] => { results := [.lit (.bool true)], args := [d] }
  | _ => none }
def bitsUnmixRow : OpenClaim := { program := "ytloadpndljabeaadoor", sum := "22b6b1cb5ab2d83c6f581109454762f834d5c31ce840386ab65c49b543eea265", func := "spinney/spinneylaw1.BitsUnmix", spec := "bitsUnmix", named := ["spinney/bits.groups"], apart := false, laid := [("spinney/bits.groups", laid_spinney_bits_groups)] }
def BitsUnmixSaid : Prop := bitsUnmixRow.holds Tryd.pinned (OpenSpec.ofChange bitsUnmixSpec)

/-- ITS FALSE NEIGHBOUR: 'it returns false'. Refute it at one input. -/
def bitsUnmixWrong : ChangeSpec := { name := "bitsUnmix", fn := fun _ => fun
  | [d] => { results := [.lit (.bool false)], args := [d] }
  | _ => none }
def BitsUnmixWrongFalsely : Prop := bitsUnmixRow.holds Tryd.pinned (OpenSpec.ofChange bitsUnmixWrong)

/-- 'spinneylaw1.BitsSpreads': WHATEVER THE INPUT: true; the input reads as it did. -/
def bitsSpreadsSpec : ChangeSpec := { name := "bitsSpreads", fn := fun _ => fun
  | [d1, d2] => { results := [.lit (.bool true)], args := [d1, d2] }
  | _ => none }
def bitsSpreadsRow : OpenClaim := { program := "ytloadpndljabeaadoor", sum := "22b6b1cb5ab2d83c6f581109454762f834d5c31ce840386ab65c49b543eea265", func := "spinney/spinneylaw1.BitsSpreads", spec := "bitsSpreads", named := ["spinney/bits.groups"], apart := false, laid := [("spinney/bits.groups", laid_spinney_bits_groups)] }
def BitsSpreadsSaid : Prop := bitsSpreadsRow.holds Tryd.pinned (OpenSpec.ofChange bitsSpreadsSpec)

/-- ITS FALSE NEIGHBOUR: 'it returns false'. Refute it at one input. -/
def bitsSpreadsWrong : ChangeSpec := { name := "bitsSpreads", fn := fun _ => fun
  | [d1, d2] => { results := [.lit (.bool false)], args := [d1, d2] }
  | _ => none }
def BitsSpreadsWrongFalsely : Prop := bitsSpreadsRow.holds Tryd.pinned (OpenSpec.ofChange bitsSpreadsWrong)

/- THE SECOND FORM. 'bulk': how many values and letters a reading holds, each counted each time it is reached (what is shared counts as often as it is met; a slice's spare places count too). A statement '..UptoSaid' is the law's where the arguments, and the package variables that the reading takes, are together of bulk at most 1048576: NARROWER than '..Said'. Prove '..Said' where nothing that the law and all that it calls make is longer than what came in: it says more and counts as full. Else prove '..UptoSaid'. A law counts once. -/
mutual
def uptoBulk {H : Type} : DataW H → Nat
  | .lit (.string bytes) => bytes.length + 1
  | .lit _ => 1
  | .nil => 1
  | .ptr d => uptoBulk d + 1
  | .slice elems spare => uptoBulkAll elems + uptoBulkAll spare + 1
  | .agg parts => uptoBulkAll parts + 1
  | .iface _ d => uptoBulk d + 1
  | .map entries => uptoBulkEntries entries + 1
  | .held _ => 1
def uptoBulkAll {H : Type} : List (DataW H) → Nat
  | [] => 0
  | d :: r => uptoBulk d + uptoBulkAll r
def uptoBulkEntries {H : Type} : List (Lit × DataW H) → Nat
  | [] => 0
  | x :: r => uptoBulkEntry x + uptoBulkEntries r
def uptoBulkEntry {H : Type} : Lit × DataW H → Nat
  | (.string bytes, d) => bytes.length + uptoBulk d + 1
  | (_, d) => uptoBulk d + 1
 end
def uptoSmall : (H : Type) → List (DataW H) → Bool := fun _ ds => decide (uptoBulkAll ds ≤ 1048576)
def OpenSpec.upto (s : _root_.Go.ChangeSpec) : _root_.Go.OpenSpec := { _root_.Go.OpenSpec.ofChange s with cond := some uptoSmall }

/-- 'spinneylaw1.BitsTells', WHERE WHAT IT READS IS OF BULK AT MOST 1048576: true; the input reads as it did. -/
def bitsTellsUptoRow : OpenClaim := { program := "ytloadpndljabeaadoor", sum := "22b6b1cb5ab2d83c6f581109454762f834d5c31ce840386ab65c49b543eea265", func := "spinney/spinneylaw1.BitsTells", spec := "bitsTells", named := ["spinney/bits.groups"], apart := false, laid := [("spinney/bits.groups", laid_spinney_bits_groups)], narrowed := true }
def BitsTellsUptoSaid : Prop := bitsTellsUptoRow.holds Tryd.pinned (OpenSpec.upto bitsTellsSpec)

/-- 'spinneylaw1.BitsBack', WHERE WHAT IT READS IS OF BULK AT MOST 1048576: true; the input reads as it did. -/
def bitsBackUptoRow : OpenClaim := { program := "ytloadpndljabeaadoor", sum := "22b6b1cb5ab2d83c6f581109454762f834d5c31ce840386ab65c49b543eea265", func := "spinney/spinneylaw1.BitsBack", spec := "bitsBack", named := ["spinney/bits.groups"], apart := false, laid := [("spinney/bits.groups", laid_spinney_bits_groups)], narrowed := true }
def BitsBackUptoSaid : Prop := bitsBackUptoRow.holds Tryd.pinned (OpenSpec.upto bitsBackSpec)

/-- 'spinneylaw1.BitsUnlike', WHERE WHAT IT READS IS OF BULK AT MOST 1048576: true; the input reads as it did. -/
def bitsUnlikeUptoRow : OpenClaim := { program := "ytloadpndljabeaadoor", sum := "22b6b1cb5ab2d83c6f581109454762f834d5c31ce840386ab65c49b543eea265", func := "spinney/spinneylaw1.BitsUnlike", spec := "bitsUnlike", named := ["spinney/bits.groups"], apart := false, laid := [("spinney/bits.groups", laid_spinney_bits_groups)], narrowed := true }
def BitsUnlikeUptoSaid : Prop := bitsUnlikeUptoRow.holds Tryd.pinned (OpenSpec.upto bitsUnlikeSpec)

/-- 'spinneylaw1.BitsHomes', WHERE WHAT IT READS IS OF BULK AT MOST 1048576: true; the input reads as it did. -/
def bitsHomesUptoRow : OpenClaim := { program := "ytloadpndljabeaadoor", sum := "22b6b1cb5ab2d83c6f581109454762f834d5c31ce840386ab65c49b543eea265", func := "spinney/spinneylaw1.BitsHomes", spec := "bitsHomes", named := ["spinney/bits.groups"], apart := false, laid := [("spinney/bits.groups", laid_spinney_bits_groups)], narrowed := true }
def BitsHomesUptoSaid : Prop := bitsHomesUptoRow.holds Tryd.pinned (OpenSpec.upto bitsHomesSpec)

/-- 'spinneylaw1.BitsUnmix', WHERE WHAT IT READS IS OF BULK AT MOST 1048576: true; the input reads as it did. -/
def bitsUnmixUptoRow : OpenClaim := { program := "ytloadpndljabeaadoor", sum := "22b6b1cb5ab2d83c6f581109454762f834d5c31ce840386ab65c49b543eea265", func := "spinney/spinneylaw1.BitsUnmix", spec := "bitsUnmix", named := ["spinney/bits.groups"], apart := false, laid := [("spinney/bits.groups", laid_spinney_bits_groups)], narrowed := true }
def BitsUnmixUptoSaid : Prop := bitsUnmixUptoRow.holds Tryd.pinned (OpenSpec.upto bitsUnmixSpec)

/-- 'spinneylaw1.BitsSpreads', WHERE WHAT IT READS IS OF BULK AT MOST 1048576: true; the input reads as it did. -/
def bitsSpreadsUptoRow : OpenClaim := { program := "ytloadpndljabeaadoor", sum := "22b6b1cb5ab2d83c6f581109454762f834d5c31ce840386ab65c49b543eea265", func := "spinney/spinneylaw1.BitsSpreads", spec := "bitsSpreads", named := ["spinney/bits.groups"], apart := false, laid := [("spinney/bits.groups", laid_spinney_bits_groups)], narrowed := true }
def BitsSpreadsUptoSaid : Prop := bitsSpreadsUptoRow.holds Tryd.pinned (OpenSpec.upto bitsSpreadsSpec)

end Rows
end Go.Proofs.YtloadpndljabeaaDoor
