/-
  DERIVED. GIVEN WITH THE SEED: THE CARDS: each row of YtabhhbdbkeeblaaDoorRows.lean that lists a variable, with what it lists TIED to the program's text (the seventh form; the later family's looks); each row that meets fmt, with fmt's text TOLD by the authors' own Lean function (tested against real Go, not proved from fmt's source: count such statements apart). THE CARD IS WHAT COUNTS. Prove the row's statement (the work); the ties are given (YtabhhbdbkeeblaaDoorTie.lean); close each card by the builder's one call (the guide's Derived/Test/ToyasCard.lean, 'card_holds'). Laid BY PROGRAM, IN A SANDBOX (cutbox-door.mjs). By AI agents, Wed Nov 11 2026. No macro, syntax, notation, axiom, sorry.
-/
import Derived.Test.YtabhhbdbkeeblaaDoorRows
import GoSem.ClaimSeven
namespace Go.Proofs.YtabhhbdbkeeblaaDoor
namespace Rows

/-- THE TIED CARD OF 'stepladderlaw10.PurseTells'. -/
def purseTellsCard : Claim7 := { stood := { row := purseTellsRow, standIns := [], harness := (true, "25116c468554b941c9397727aab1215b31965b0a370fb32a2d24c624b355dc97"), looks := false }, kinds := [], alts := [], laidByText := true, laidKinds := [.data, .data], laidTests := true, laidLooks := .later }
def PurseTellsCardSaid : Prop := Claim7.holds Tryd.pinned (.plain (OpenSpec.ofChange purseTellsSpec)) purseTellsCard

/-- THE TIED CARD OF 'stepladderlaw10.PurseStays'. -/
def purseStaysCard : Claim7 := { stood := { row := purseStaysRow, standIns := [], harness := (true, "25116c468554b941c9397727aab1215b31965b0a370fb32a2d24c624b355dc97"), looks := false }, kinds := [], alts := [], laidByText := true, laidKinds := [.data, .data], laidTests := true, laidLooks := .later }
def PurseStaysCardSaid : Prop := Claim7.holds Tryd.pinned (.plain (OpenSpec.ofChange purseStaysSpec)) purseStaysCard

/-- THE TIED CARD OF 'stepladderlaw10.PurseSpends'. -/
def purseSpendsCard : Claim7 := { stood := { row := purseSpendsRow, standIns := [], harness := (true, "25116c468554b941c9397727aab1215b31965b0a370fb32a2d24c624b355dc97"), looks := false }, kinds := [], alts := [], laidByText := true, laidKinds := [.data, .data], laidTests := true, laidLooks := .later }
def PurseSpendsCardSaid : Prop := Claim7.holds Tryd.pinned (.plain (OpenSpec.ofChange purseSpendsSpec)) purseSpendsCard

/-- THE TIED CARD OF 'stepladderlaw10.PurseOne'. -/
def purseOneCard : Claim7 := { stood := { row := purseOneRow, standIns := [], harness := (true, "25116c468554b941c9397727aab1215b31965b0a370fb32a2d24c624b355dc97"), looks := false }, kinds := [], alts := [], laidByText := true, laidKinds := [.data, .data], laidTests := true, laidLooks := .later }
def PurseOneCardSaid : Prop := Claim7.holds Tryd.pinned (.plain (OpenSpec.ofChange purseOneSpec)) purseOneCard

/-- THE TIED CARD OF 'stepladderlaw10.PurseFirst'. -/
def purseFirstCard : Claim7 := { stood := { row := purseFirstRow, standIns := [], harness := (true, "25116c468554b941c9397727aab1215b31965b0a370fb32a2d24c624b355dc97"), looks := false }, kinds := [], alts := [], laidByText := true, laidKinds := [.data, .data], laidTests := true, laidLooks := .later }
def PurseFirstCardSaid : Prop := Claim7.holds Tryd.pinned (.plain (OpenSpec.ofChange purseFirstSpec)) purseFirstCard

/-- THE TIED CARD OF 'stepladderlaw10.PurseFinds'. -/
def purseFindsCard : Claim7 := { stood := { row := purseFindsRow, standIns := [], harness := (true, "25116c468554b941c9397727aab1215b31965b0a370fb32a2d24c624b355dc97"), looks := false }, kinds := [], alts := [], laidByText := true, laidKinds := [.data, .data], laidTests := true, laidLooks := .later }
def PurseFindsCardSaid : Prop := Claim7.holds Tryd.pinned (.plain (OpenSpec.ofChange purseFindsSpec)) purseFindsCard

/-- THE SECOND FORM's CARD OF 'stepladderlaw10.PurseTells'. -/
def purseTellsUptoCard : Claim7 := { stood := { row := purseTellsUptoRow, standIns := [], harness := (true, "25116c468554b941c9397727aab1215b31965b0a370fb32a2d24c624b355dc97"), looks := false }, kinds := [], alts := [], laidByText := true, laidKinds := [.data, .data], laidTests := true, laidLooks := .later }
def PurseTellsUptoCardSaid : Prop := Claim7.holds Tryd.pinned (.plain (OpenSpec.upto purseTellsSpec)) purseTellsUptoCard

/-- THE SECOND FORM's CARD OF 'stepladderlaw10.PurseStays'. -/
def purseStaysUptoCard : Claim7 := { stood := { row := purseStaysUptoRow, standIns := [], harness := (true, "25116c468554b941c9397727aab1215b31965b0a370fb32a2d24c624b355dc97"), looks := false }, kinds := [], alts := [], laidByText := true, laidKinds := [.data, .data], laidTests := true, laidLooks := .later }
def PurseStaysUptoCardSaid : Prop := Claim7.holds Tryd.pinned (.plain (OpenSpec.upto purseStaysSpec)) purseStaysUptoCard

/-- THE SECOND FORM's CARD OF 'stepladderlaw10.PurseSpends'. -/
def purseSpendsUptoCard : Claim7 := { stood := { row := purseSpendsUptoRow, standIns := [], harness := (true, "25116c468554b941c9397727aab1215b31965b0a370fb32a2d24c624b355dc97"), looks := false }, kinds := [], alts := [], laidByText := true, laidKinds := [.data, .data], laidTests := true, laidLooks := .later }
def PurseSpendsUptoCardSaid : Prop := Claim7.holds Tryd.pinned (.plain (OpenSpec.upto purseSpendsSpec)) purseSpendsUptoCard

/-- THE SECOND FORM's CARD OF 'stepladderlaw10.PurseOne'. -/
def purseOneUptoCard : Claim7 := { stood := { row := purseOneUptoRow, standIns := [], harness := (true, "25116c468554b941c9397727aab1215b31965b0a370fb32a2d24c624b355dc97"), looks := false }, kinds := [], alts := [], laidByText := true, laidKinds := [.data, .data], laidTests := true, laidLooks := .later }
def PurseOneUptoCardSaid : Prop := Claim7.holds Tryd.pinned (.plain (OpenSpec.upto purseOneSpec)) purseOneUptoCard

/-- THE SECOND FORM's CARD OF 'stepladderlaw10.PurseFirst'. -/
def purseFirstUptoCard : Claim7 := { stood := { row := purseFirstUptoRow, standIns := [], harness := (true, "25116c468554b941c9397727aab1215b31965b0a370fb32a2d24c624b355dc97"), looks := false }, kinds := [], alts := [], laidByText := true, laidKinds := [.data, .data], laidTests := true, laidLooks := .later }
def PurseFirstUptoCardSaid : Prop := Claim7.holds Tryd.pinned (.plain (OpenSpec.upto purseFirstSpec)) purseFirstUptoCard

/-- THE SECOND FORM's CARD OF 'stepladderlaw10.PurseFinds'. -/
def purseFindsUptoCard : Claim7 := { stood := { row := purseFindsUptoRow, standIns := [], harness := (true, "25116c468554b941c9397727aab1215b31965b0a370fb32a2d24c624b355dc97"), looks := false }, kinds := [], alts := [], laidByText := true, laidKinds := [.data, .data], laidTests := true, laidLooks := .later }
def PurseFindsUptoCardSaid : Prop := Claim7.holds Tryd.pinned (.plain (OpenSpec.upto purseFindsSpec)) purseFindsUptoCard
end Rows
end Go.Proofs.YtabhhbdbkeeblaaDoor
