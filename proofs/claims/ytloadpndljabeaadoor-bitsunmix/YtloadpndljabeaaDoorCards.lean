/-
  DERIVED. GIVEN WITH THE SEED: THE CARDS: each row of YtloadpndljabeaaDoorRows.lean that lists a variable, with what it lists TIED to the program's text (the seventh form; the later family's looks); each row that meets fmt, with fmt's text TOLD by the authors' own Lean function (tested against real Go, not proved from fmt's source: count such statements apart). THE CARD IS WHAT COUNTS. Prove the row's statement (the work); the ties are given (YtloadpndljabeaaDoorTie.lean); close each card by the builder's one call (the guide's Derived/Test/ToyasCard.lean, 'card_holds'). Laid BY PROGRAM, IN A SANDBOX (cutbox-door.mjs). By AI agents, Wed Nov 11 2026. No macro, syntax, notation, axiom, sorry.
-/
import Derived.Test.YtloadpndljabeaaDoorRows
import GoSem.ClaimSeven
namespace Go.Proofs.YtloadpndljabeaaDoor
namespace Rows

/-- THE TIED CARD OF 'spinneylaw1.BitsTells'. -/
def bitsTellsCard : Claim7 := { stood := { row := bitsTellsRow, standIns := [], harness := (true, "a3d08951d1756f51ad6f281058737e7f3dcb07f46395ec831ee7fc19cb66d38b"), looks := false }, kinds := [], alts := [], laidByText := true, laidKinds := [.data], laidTests := true, laidLooks := .later }
def BitsTellsCardSaid : Prop := Claim7.holds Tryd.pinned (.plain (OpenSpec.ofChange bitsTellsSpec)) bitsTellsCard

/-- THE TIED CARD OF 'spinneylaw1.BitsBack'. -/
def bitsBackCard : Claim7 := { stood := { row := bitsBackRow, standIns := [], harness := (true, "a3d08951d1756f51ad6f281058737e7f3dcb07f46395ec831ee7fc19cb66d38b"), looks := false }, kinds := [], alts := [], laidByText := true, laidKinds := [.data], laidTests := true, laidLooks := .later }
def BitsBackCardSaid : Prop := Claim7.holds Tryd.pinned (.plain (OpenSpec.ofChange bitsBackSpec)) bitsBackCard

/-- THE TIED CARD OF 'spinneylaw1.BitsUnlike'. -/
def bitsUnlikeCard : Claim7 := { stood := { row := bitsUnlikeRow, standIns := [], harness := (true, "a3d08951d1756f51ad6f281058737e7f3dcb07f46395ec831ee7fc19cb66d38b"), looks := false }, kinds := [], alts := [], laidByText := true, laidKinds := [.data], laidTests := true, laidLooks := .later }
def BitsUnlikeCardSaid : Prop := Claim7.holds Tryd.pinned (.plain (OpenSpec.ofChange bitsUnlikeSpec)) bitsUnlikeCard

/-- THE TIED CARD OF 'spinneylaw1.BitsHomes'. -/
def bitsHomesCard : Claim7 := { stood := { row := bitsHomesRow, standIns := [], harness := (true, "a3d08951d1756f51ad6f281058737e7f3dcb07f46395ec831ee7fc19cb66d38b"), looks := false }, kinds := [], alts := [], laidByText := true, laidKinds := [.data], laidTests := true, laidLooks := .later }
def BitsHomesCardSaid : Prop := Claim7.holds Tryd.pinned (.plain (OpenSpec.ofChange bitsHomesSpec)) bitsHomesCard

/-- THE TIED CARD OF 'spinneylaw1.BitsUnmix'. -/
def bitsUnmixCard : Claim7 := { stood := { row := bitsUnmixRow, standIns := [], harness := (true, "a3d08951d1756f51ad6f281058737e7f3dcb07f46395ec831ee7fc19cb66d38b"), looks := false }, kinds := [], alts := [], laidByText := true, laidKinds := [.data], laidTests := true, laidLooks := .later }
def BitsUnmixCardSaid : Prop := Claim7.holds Tryd.pinned (.plain (OpenSpec.ofChange bitsUnmixSpec)) bitsUnmixCard

/-- THE TIED CARD OF 'spinneylaw1.BitsSpreads'. -/
def bitsSpreadsCard : Claim7 := { stood := { row := bitsSpreadsRow, standIns := [], harness := (true, "a3d08951d1756f51ad6f281058737e7f3dcb07f46395ec831ee7fc19cb66d38b"), looks := false }, kinds := [], alts := [], laidByText := true, laidKinds := [.data], laidTests := true, laidLooks := .later }
def BitsSpreadsCardSaid : Prop := Claim7.holds Tryd.pinned (.plain (OpenSpec.ofChange bitsSpreadsSpec)) bitsSpreadsCard

/-- THE SECOND FORM's CARD OF 'spinneylaw1.BitsTells'. -/
def bitsTellsUptoCard : Claim7 := { stood := { row := bitsTellsUptoRow, standIns := [], harness := (true, "a3d08951d1756f51ad6f281058737e7f3dcb07f46395ec831ee7fc19cb66d38b"), looks := false }, kinds := [], alts := [], laidByText := true, laidKinds := [.data], laidTests := true, laidLooks := .later }
def BitsTellsUptoCardSaid : Prop := Claim7.holds Tryd.pinned (.plain (OpenSpec.upto bitsTellsSpec)) bitsTellsUptoCard

/-- THE SECOND FORM's CARD OF 'spinneylaw1.BitsBack'. -/
def bitsBackUptoCard : Claim7 := { stood := { row := bitsBackUptoRow, standIns := [], harness := (true, "a3d08951d1756f51ad6f281058737e7f3dcb07f46395ec831ee7fc19cb66d38b"), looks := false }, kinds := [], alts := [], laidByText := true, laidKinds := [.data], laidTests := true, laidLooks := .later }
def BitsBackUptoCardSaid : Prop := Claim7.holds Tryd.pinned (.plain (OpenSpec.upto bitsBackSpec)) bitsBackUptoCard

/-- THE SECOND FORM's CARD OF 'spinneylaw1.BitsUnlike'. -/
def bitsUnlikeUptoCard : Claim7 := { stood := { row := bitsUnlikeUptoRow, standIns := [], harness := (true, "a3d08951d1756f51ad6f281058737e7f3dcb07f46395ec831ee7fc19cb66d38b"), looks := false }, kinds := [], alts := [], laidByText := true, laidKinds := [.data], laidTests := true, laidLooks := .later }
def BitsUnlikeUptoCardSaid : Prop := Claim7.holds Tryd.pinned (.plain (OpenSpec.upto bitsUnlikeSpec)) bitsUnlikeUptoCard

/-- THE SECOND FORM's CARD OF 'spinneylaw1.BitsHomes'. -/
def bitsHomesUptoCard : Claim7 := { stood := { row := bitsHomesUptoRow, standIns := [], harness := (true, "a3d08951d1756f51ad6f281058737e7f3dcb07f46395ec831ee7fc19cb66d38b"), looks := false }, kinds := [], alts := [], laidByText := true, laidKinds := [.data], laidTests := true, laidLooks := .later }
def BitsHomesUptoCardSaid : Prop := Claim7.holds Tryd.pinned (.plain (OpenSpec.upto bitsHomesSpec)) bitsHomesUptoCard

/-- THE SECOND FORM's CARD OF 'spinneylaw1.BitsUnmix'. -/
def bitsUnmixUptoCard : Claim7 := { stood := { row := bitsUnmixUptoRow, standIns := [], harness := (true, "a3d08951d1756f51ad6f281058737e7f3dcb07f46395ec831ee7fc19cb66d38b"), looks := false }, kinds := [], alts := [], laidByText := true, laidKinds := [.data], laidTests := true, laidLooks := .later }
def BitsUnmixUptoCardSaid : Prop := Claim7.holds Tryd.pinned (.plain (OpenSpec.upto bitsUnmixSpec)) bitsUnmixUptoCard

/-- THE SECOND FORM's CARD OF 'spinneylaw1.BitsSpreads'. -/
def bitsSpreadsUptoCard : Claim7 := { stood := { row := bitsSpreadsUptoRow, standIns := [], harness := (true, "a3d08951d1756f51ad6f281058737e7f3dcb07f46395ec831ee7fc19cb66d38b"), looks := false }, kinds := [], alts := [], laidByText := true, laidKinds := [.data], laidTests := true, laidLooks := .later }
def BitsSpreadsUptoCardSaid : Prop := Claim7.holds Tryd.pinned (.plain (OpenSpec.upto bitsSpreadsSpec)) bitsSpreadsUptoCard
end Rows
end Go.Proofs.YtloadpndljabeaaDoor
