/-
  DERIVED. GIVEN WITH THE SEED: THE CARDS: each row of YtfaccdnnjkkcfaaGreatDoorRows.lean that lists a variable, with what it lists TIED to the program's text (the seventh form; the later family's looks); each row that meets fmt, with fmt's text TOLD by the authors' own Lean function (tested against real Go, not proved from fmt's source: count such statements apart). THE CARD IS WHAT COUNTS. Prove the row's statement (the work); the ties are given (YtfaccdnnjkkcfaaGreatDoorTie.lean); close each card by the builder's one call (the guide's Derived/Test/ToyasCard.lean, 'card_holds'). Laid BY PROGRAM, IN A SANDBOX (cutbox-door.mjs). By AI agents, Wed Nov 11 2026. No macro, syntax, notation, axiom, sorry.
-/
import Derived.Test.YtfaccdnnjkkcfaaGreatDoorRows
import GoSem.ClaimSeven
namespace Go.Proofs.YtfaccdnnjkkcfaaGreatDoor
namespace Rows

/-- THE TIED CARD OF 'spinneylaw15.BuildTells'. -/
def buildTellsCard : Claim7 := { stood := { row := buildTellsRow, standIns := [], harness := (true, "6a0e0cc081e22abe7f4228476799a6cabf82f6db1b16bee8df7120f2688d8fbc"), looks := false }, kinds := [], alts := [], laidByText := true, laidKinds := [.data], laidTests := true, laidLooks := .later }
def BuildTellsCardSaid : Prop := Claim7.holds Tryz.pinned (.plain (OpenSpec.ofChange buildTellsSpec)) buildTellsCard

/-- THE TIED CARD OF 'spinneylaw15.BuildPaths'. -/
def buildPathsCard : Claim7 := { stood := { row := buildPathsRow, standIns := [], harness := (true, "6a0e0cc081e22abe7f4228476799a6cabf82f6db1b16bee8df7120f2688d8fbc"), looks := false }, kinds := [], alts := [], laidByText := true, laidKinds := [.data], laidTests := true, laidLooks := .later }
def BuildPathsCardSaid : Prop := Claim7.holds Tryz.pinned (.plain (OpenSpec.ofChange buildPathsSpec)) buildPathsCard

/-- THE TIED CARD OF 'spinneylaw15.BuildCubes'. -/
def buildCubesCard : Claim7 := { stood := { row := buildCubesRow, standIns := [], harness := (true, "6a0e0cc081e22abe7f4228476799a6cabf82f6db1b16bee8df7120f2688d8fbc"), looks := false }, kinds := [], alts := [], laidByText := true, laidKinds := [.data], laidTests := true, laidLooks := .later }
def BuildCubesCardSaid : Prop := Claim7.holds Tryz.pinned (.plain (OpenSpec.ofChange buildCubesSpec)) buildCubesCard

/-- THE TIED CARD OF 'spinneylaw15.BuildSame'. -/
def buildSameCard : Claim7 := { stood := { row := buildSameRow, standIns := [], harness := (true, "6a0e0cc081e22abe7f4228476799a6cabf82f6db1b16bee8df7120f2688d8fbc"), looks := false }, kinds := [], alts := [], laidByText := true, laidKinds := [.data], laidTests := true, laidLooks := .later }
def BuildSameCardSaid : Prop := Claim7.holds Tryz.pinned (.plain (OpenSpec.ofChange buildSameSpec)) buildSameCard

/-- THE TIED CARD OF 'spinneylaw15.BuildPathsUp'. -/
def buildPathsUpCard : Claim7 := { stood := { row := buildPathsUpRow, standIns := [], harness := (true, "6a0e0cc081e22abe7f4228476799a6cabf82f6db1b16bee8df7120f2688d8fbc"), looks := false }, kinds := [], alts := [], laidByText := true, laidKinds := [.data], laidTests := true, laidLooks := .later }
def BuildPathsUpCardSaid : Prop := Claim7.holds Tryz.pinned (.plain (OpenSpec.ofChange buildPathsUpSpec)) buildPathsUpCard

/-- THE SECOND FORM's CARD OF 'spinneylaw15.BuildTells'. -/
def buildTellsUptoCard : Claim7 := { stood := { row := buildTellsUptoRow, standIns := [], harness := (true, "6a0e0cc081e22abe7f4228476799a6cabf82f6db1b16bee8df7120f2688d8fbc"), looks := false }, kinds := [], alts := [], laidByText := true, laidKinds := [.data], laidTests := true, laidLooks := .later }
def BuildTellsUptoCardSaid : Prop := Claim7.holds Tryz.pinned (.plain (OpenSpec.upto buildTellsSpec)) buildTellsUptoCard

/-- THE SECOND FORM's CARD OF 'spinneylaw15.BuildPaths'. -/
def buildPathsUptoCard : Claim7 := { stood := { row := buildPathsUptoRow, standIns := [], harness := (true, "6a0e0cc081e22abe7f4228476799a6cabf82f6db1b16bee8df7120f2688d8fbc"), looks := false }, kinds := [], alts := [], laidByText := true, laidKinds := [.data], laidTests := true, laidLooks := .later }
def BuildPathsUptoCardSaid : Prop := Claim7.holds Tryz.pinned (.plain (OpenSpec.upto buildPathsSpec)) buildPathsUptoCard

/-- THE SECOND FORM's CARD OF 'spinneylaw15.BuildCubes'. -/
def buildCubesUptoCard : Claim7 := { stood := { row := buildCubesUptoRow, standIns := [], harness := (true, "6a0e0cc081e22abe7f4228476799a6cabf82f6db1b16bee8df7120f2688d8fbc"), looks := false }, kinds := [], alts := [], laidByText := true, laidKinds := [.data], laidTests := true, laidLooks := .later }
def BuildCubesUptoCardSaid : Prop := Claim7.holds Tryz.pinned (.plain (OpenSpec.upto buildCubesSpec)) buildCubesUptoCard

/-- THE SECOND FORM's CARD OF 'spinneylaw15.BuildSame'. -/
def buildSameUptoCard : Claim7 := { stood := { row := buildSameUptoRow, standIns := [], harness := (true, "6a0e0cc081e22abe7f4228476799a6cabf82f6db1b16bee8df7120f2688d8fbc"), looks := false }, kinds := [], alts := [], laidByText := true, laidKinds := [.data], laidTests := true, laidLooks := .later }
def BuildSameUptoCardSaid : Prop := Claim7.holds Tryz.pinned (.plain (OpenSpec.upto buildSameSpec)) buildSameUptoCard

/-- THE SECOND FORM's CARD OF 'spinneylaw15.BuildPathsUp'. -/
def buildPathsUpUptoCard : Claim7 := { stood := { row := buildPathsUpUptoRow, standIns := [], harness := (true, "6a0e0cc081e22abe7f4228476799a6cabf82f6db1b16bee8df7120f2688d8fbc"), looks := false }, kinds := [], alts := [], laidByText := true, laidKinds := [.data], laidTests := true, laidLooks := .later }
def BuildPathsUpUptoCardSaid : Prop := Claim7.holds Tryz.pinned (.plain (OpenSpec.upto buildPathsUpSpec)) buildPathsUpUptoCard
end Rows
end Go.Proofs.YtfaccdnnjkkcfaaGreatDoor
