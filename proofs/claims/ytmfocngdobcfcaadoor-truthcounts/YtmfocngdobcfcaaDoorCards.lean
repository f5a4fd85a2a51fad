/-
  DERIVED. GIVEN WITH THE SEED: THE CARDS: each row of YtmfocngdobcfcaaDoorRows.lean that lists a variable, with what it lists TIED to the program's text (the seventh form; the later family's looks); each row that meets fmt, with fmt's text TOLD by the authors' own Lean function (tested against real Go, not proved from fmt's source: count such statements apart). THE CARD IS WHAT COUNTS. Prove the row's statement (the work); the ties are given (YtmfocngdobcfcaaDoorTie.lean); close each card by the builder's one call (the guide's Derived/Test/ToyasCard.lean, 'card_holds'). Laid BY PROGRAM, IN A SANDBOX (cutbox-door.mjs). By AI agents, Wed Nov 11 2026. No macro, syntax, notation, axiom, sorry.
-/
import Derived.Test.YtmfocngdobcfcaaDoorRows
import GoSem.ClaimSeven
namespace Go.Proofs.YtmfocngdobcfcaaDoor
namespace Rows

/-- THE TIED CARD OF 'spinneylaw3.TruthTells'. -/
def truthTellsCard : Claim7 := { stood := { row := truthTellsRow, standIns := [], harness := (true, "5d8ab4ba6d964a3094394859a19c698fade6d15ff74a55daa34bcc9b7e72cc32"), looks := false }, kinds := [], alts := [], laidByText := true, laidKinds := [.data, .data], laidTests := true, laidLooks := .later }
def TruthTellsCardSaid : Prop := Claim7.holds Tryd.pinned (.plain (OpenSpec.ofChange truthTellsSpec)) truthTellsCard

/-- THE TIED CARD OF 'spinneylaw3.TruthCounts'. -/
def truthCountsCard : Claim7 := { stood := { row := truthCountsRow, standIns := [], harness := (true, "5d8ab4ba6d964a3094394859a19c698fade6d15ff74a55daa34bcc9b7e72cc32"), looks := false }, kinds := [], alts := [], laidByText := true, laidKinds := [.data, .data], laidTests := true, laidLooks := .later }
def TruthCountsCardSaid : Prop := Claim7.holds Tryd.pinned (.plain (OpenSpec.ofChange truthCountsSpec)) truthCountsCard

/-- THE TIED CARD OF 'spinneylaw3.TruthPoints'. -/
def truthPointsCard : Claim7 := { stood := { row := truthPointsRow, standIns := [], harness := (true, "5d8ab4ba6d964a3094394859a19c698fade6d15ff74a55daa34bcc9b7e72cc32"), looks := false }, kinds := [], alts := [], laidByText := true, laidKinds := [.data, .data], laidTests := true, laidLooks := .later }
def TruthPointsCardSaid : Prop := Claim7.holds Tryd.pinned (.plain (OpenSpec.ofChange truthPointsSpec)) truthPointsCard

/-- THE TIED CARD OF 'spinneylaw3.TruthSteps'. -/
def truthStepsCard : Claim7 := { stood := { row := truthStepsRow, standIns := [], harness := (true, "5d8ab4ba6d964a3094394859a19c698fade6d15ff74a55daa34bcc9b7e72cc32"), looks := false }, kinds := [], alts := [], laidByText := true, laidKinds := [.data, .data], laidTests := true, laidLooks := .later }
def TruthStepsCardSaid : Prop := Claim7.holds Tryd.pinned (.plain (OpenSpec.ofChange truthStepsSpec)) truthStepsCard

/-- THE TIED CARD OF 'spinneylaw3.TruthRing'. -/
def truthRingCard : Claim7 := { stood := { row := truthRingRow, standIns := [], harness := (true, "5d8ab4ba6d964a3094394859a19c698fade6d15ff74a55daa34bcc9b7e72cc32"), looks := false }, kinds := [], alts := [], laidByText := true, laidKinds := [.data, .data], laidTests := true, laidLooks := .later }
def TruthRingCardSaid : Prop := Claim7.holds Tryd.pinned (.plain (OpenSpec.ofChange truthRingSpec)) truthRingCard

/-- THE TIED CARD OF 'spinneylaw3.TruthQuants'. -/
def truthQuantsCard : Claim7 := { stood := { row := truthQuantsRow, standIns := [], harness := (true, "5d8ab4ba6d964a3094394859a19c698fade6d15ff74a55daa34bcc9b7e72cc32"), looks := false }, kinds := [], alts := [], laidByText := true, laidKinds := [.data, .data], laidTests := true, laidLooks := .later }
def TruthQuantsCardSaid : Prop := Claim7.holds Tryd.pinned (.plain (OpenSpec.ofChange truthQuantsSpec)) truthQuantsCard

/-- THE SECOND FORM's CARD OF 'spinneylaw3.TruthTells'. -/
def truthTellsUptoCard : Claim7 := { stood := { row := truthTellsUptoRow, standIns := [], harness := (true, "5d8ab4ba6d964a3094394859a19c698fade6d15ff74a55daa34bcc9b7e72cc32"), looks := false }, kinds := [], alts := [], laidByText := true, laidKinds := [.data, .data], laidTests := true, laidLooks := .later }
def TruthTellsUptoCardSaid : Prop := Claim7.holds Tryd.pinned (.plain (OpenSpec.upto truthTellsSpec)) truthTellsUptoCard

/-- THE SECOND FORM's CARD OF 'spinneylaw3.TruthCounts'. -/
def truthCountsUptoCard : Claim7 := { stood := { row := truthCountsUptoRow, standIns := [], harness := (true, "5d8ab4ba6d964a3094394859a19c698fade6d15ff74a55daa34bcc9b7e72cc32"), looks := false }, kinds := [], alts := [], laidByText := true, laidKinds := [.data, .data], laidTests := true, laidLooks := .later }
def TruthCountsUptoCardSaid : Prop := Claim7.holds Tryd.pinned (.plain (OpenSpec.upto truthCountsSpec)) truthCountsUptoCard

/-- THE SECOND FORM's CARD OF 'spinneylaw3.TruthPoints'. -/
def truthPointsUptoCard : Claim7 := { stood := { row := truthPointsUptoRow, standIns := [], harness := (true, "5d8ab4ba6d964a3094394859a19c698fade6d15ff74a55daa34bcc9b7e72cc32"), looks := false }, kinds := [], alts := [], laidByText := true, laidKinds := [.data, .data], laidTests := true, laidLooks := .later }
def TruthPointsUptoCardSaid : Prop := Claim7.holds Tryd.pinned (.plain (OpenSpec.upto truthPointsSpec)) truthPointsUptoCard

/-- THE SECOND FORM's CARD OF 'spinneylaw3.TruthSteps'. -/
def truthStepsUptoCard : Claim7 := { stood := { row := truthStepsUptoRow, standIns := [], harness := (true, "5d8ab4ba6d964a3094394859a19c698fade6d15ff74a55daa34bcc9b7e72cc32"), looks := false }, kinds := [], alts := [], laidByText := true, laidKinds := [.data, .data], laidTests := true, laidLooks := .later }
def TruthStepsUptoCardSaid : Prop := Claim7.holds Tryd.pinned (.plain (OpenSpec.upto truthStepsSpec)) truthStepsUptoCard

/-- THE SECOND FORM's CARD OF 'spinneylaw3.TruthRing'. -/
def truthRingUptoCard : Claim7 := { stood := { row := truthRingUptoRow, standIns := [], harness := (true, "5d8ab4ba6d964a3094394859a19c698fade6d15ff74a55daa34bcc9b7e72cc32"), looks := false }, kinds := [], alts := [], laidByText := true, laidKinds := [.data, .data], laidTests := true, laidLooks := .later }
def TruthRingUptoCardSaid : Prop := Claim7.holds Tryd.pinned (.plain (OpenSpec.upto truthRingSpec)) truthRingUptoCard

/-- THE SECOND FORM's CARD OF 'spinneylaw3.TruthQuants'. -/
def truthQuantsUptoCard : Claim7 := { stood := { row := truthQuantsUptoRow, standIns := [], harness := (true, "5d8ab4ba6d964a3094394859a19c698fade6d15ff74a55daa34bcc9b7e72cc32"), looks := false }, kinds := [], alts := [], laidByText := true, laidKinds := [.data, .data], laidTests := true, laidLooks := .later }
def TruthQuantsUptoCardSaid : Prop := Claim7.holds Tryd.pinned (.plain (OpenSpec.upto truthQuantsSpec)) truthQuantsUptoCard
end Rows
end Go.Proofs.YtmfocngdobcfcaaDoor
