/-
  DERIVED. GIVEN WITH THE SEED: THE CARDS: each row of YtmfocngdobcfcabDoorRows.lean that lists a variable, with what it lists TIED to the program's text (the seventh form; the later family's looks); each row that meets fmt, with fmt's text TOLD by the authors' own Lean function (tested against real Go, not proved from fmt's source: count such statements apart). THE CARD IS WHAT COUNTS. Prove the row's statement (the work); the ties are given (YtmfocngdobcfcabDoorTie.lean); close each card by the builder's one call (the guide's Derived/Test/ToyasCard.lean, 'card_holds'). Laid BY PROGRAM, IN A SANDBOX (cutbox-door.mjs). By AI agents, Wed Nov 11 2026. No macro, syntax, notation, axiom, sorry.
-/
import Derived.Test.YtmfocngdobcfcabDoorRows
import GoSem.ClaimSeven
namespace Go.Proofs.YtmfocngdobcfcabDoor
namespace Rows

/-- THE TIED CARD OF 'spinneylaw3.TruthCountsUp'. -/
def truthCountsUpCard : Claim7 := { stood := { row := truthCountsUpRow, standIns := [], harness := (true, "41146839e01078208da9ed63f29c26c7d5866437fae650052bcd1a6e64820145"), looks := false }, kinds := [], alts := [], laidByText := true, laidKinds := [.data, .data], laidTests := true, laidLooks := .later }
def TruthCountsUpCardSaid : Prop := Claim7.holds Tryd.pinned (.plain (OpenSpec.ofChange truthCountsUpSpec)) truthCountsUpCard

/-- THE TIED CARD OF 'spinneylaw3.TruthSizes'. -/
def truthSizesCard : Claim7 := { stood := { row := truthSizesRow, standIns := [], harness := (true, "41146839e01078208da9ed63f29c26c7d5866437fae650052bcd1a6e64820145"), looks := false }, kinds := [], alts := [], laidByText := true, laidKinds := [.data, .data], laidTests := true, laidLooks := .later }
def TruthSizesCardSaid : Prop := Claim7.holds Tryd.pinned (.plain (OpenSpec.ofChange truthSizesSpec)) truthSizesCard

/-- THE TIED CARD OF 'spinneylaw3.TruthRels'. -/
def truthRelsCard : Claim7 := { stood := { row := truthRelsRow, standIns := [], harness := (true, "41146839e01078208da9ed63f29c26c7d5866437fae650052bcd1a6e64820145"), looks := false }, kinds := [], alts := [], laidByText := true, laidKinds := [.data, .data], laidTests := true, laidLooks := .later }
def TruthRelsCardSaid : Prop := Claim7.holds Tryd.pinned (.plain (OpenSpec.ofChange truthRelsSpec)) truthRelsCard

/-- THE SECOND FORM's CARD OF 'spinneylaw3.TruthCountsUp'. -/
def truthCountsUpUptoCard : Claim7 := { stood := { row := truthCountsUpUptoRow, standIns := [], harness := (true, "41146839e01078208da9ed63f29c26c7d5866437fae650052bcd1a6e64820145"), looks := false }, kinds := [], alts := [], laidByText := true, laidKinds := [.data, .data], laidTests := true, laidLooks := .later }
def TruthCountsUpUptoCardSaid : Prop := Claim7.holds Tryd.pinned (.plain (OpenSpec.upto truthCountsUpSpec)) truthCountsUpUptoCard

/-- THE SECOND FORM's CARD OF 'spinneylaw3.TruthSizes'. -/
def truthSizesUptoCard : Claim7 := { stood := { row := truthSizesUptoRow, standIns := [], harness := (true, "41146839e01078208da9ed63f29c26c7d5866437fae650052bcd1a6e64820145"), looks := false }, kinds := [], alts := [], laidByText := true, laidKinds := [.data, .data], laidTests := true, laidLooks := .later }
def TruthSizesUptoCardSaid : Prop := Claim7.holds Tryd.pinned (.plain (OpenSpec.upto truthSizesSpec)) truthSizesUptoCard

/-- THE SECOND FORM's CARD OF 'spinneylaw3.TruthRels'. -/
def truthRelsUptoCard : Claim7 := { stood := { row := truthRelsUptoRow, standIns := [], harness := (true, "41146839e01078208da9ed63f29c26c7d5866437fae650052bcd1a6e64820145"), looks := false }, kinds := [], alts := [], laidByText := true, laidKinds := [.data, .data], laidTests := true, laidLooks := .later }
def TruthRelsUptoCardSaid : Prop := Claim7.holds Tryd.pinned (.plain (OpenSpec.upto truthRelsSpec)) truthRelsUptoCard
end Rows
end Go.Proofs.YtmfocngdobcfcabDoor
