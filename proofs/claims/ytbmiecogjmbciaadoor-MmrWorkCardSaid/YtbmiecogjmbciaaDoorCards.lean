/-
  DERIVED. GIVEN WITH THE SEED: THE CARDS: each row of YtbmiecogjmbciaaDoorRows.lean that lists a variable, with what it lists TIED to the program's text (the seventh form; the later family's looks); each row that meets fmt, with fmt's text TOLD by the authors' own Lean function (tested against real Go, not proved from fmt's source: count such statements apart). THE CARD IS WHAT COUNTS. Prove the row's statement (the work); the ties are given (YtbmiecogjmbciaaDoorTie.lean); close each card by the builder's one call (the guide's Derived/Test/ToyasCard.lean, 'card_holds'). Laid BY PROGRAM, IN A SANDBOX (cutbox-door.mjs). By AI agents, Wed Nov 11 2026. No macro, syntax, notation, axiom, sorry.
-/
import Derived.Test.YtbmiecogjmbciaaDoorRows
import GoSem.ClaimSeven
namespace Go.Proofs.YtbmiecogjmbciaaDoor
namespace Rows

/-- THE TIED CARD OF 'stepladderlaw06.MmrTells'. -/
def mmrTellsCard : Claim7 := { stood := { row := mmrTellsRow, standIns := [], harness := (true, "f187b0605e012635b95f6b8e0e9e9347ce90b57ad24e10d39f5801e3da0eda06"), looks := false }, kinds := [], alts := [], laidByText := true, laidKinds := [.data, .data], laidTests := true, laidLooks := .later }
def MmrTellsCardSaid : Prop := Claim7.holds Tryd.pinned (.plain (OpenSpec.ofChange mmrTellsSpec)) mmrTellsCard

/-- THE TIED CARD OF 'stepladderlaw06.MmrWhole'. -/
def mmrWholeCard : Claim7 := { stood := { row := mmrWholeRow, standIns := [], harness := (true, "f187b0605e012635b95f6b8e0e9e9347ce90b57ad24e10d39f5801e3da0eda06"), looks := false }, kinds := [], alts := [], laidByText := true, laidKinds := [.data, .data], laidTests := true, laidLooks := .later }
def MmrWholeCardSaid : Prop := Claim7.holds Tryd.pinned (.plain (OpenSpec.ofChange mmrWholeSpec)) mmrWholeCard

/-- THE TIED CARD OF 'stepladderlaw06.MmrPaths'. -/
def mmrPathsCard : Claim7 := { stood := { row := mmrPathsRow, standIns := [], harness := (true, "f187b0605e012635b95f6b8e0e9e9347ce90b57ad24e10d39f5801e3da0eda06"), looks := false }, kinds := [], alts := [], laidByText := true, laidKinds := [.data, .data], laidTests := true, laidLooks := .later }
def MmrPathsCardSaid : Prop := Claim7.holds Tryd.pinned (.plain (OpenSpec.ofChange mmrPathsSpec)) mmrPathsCard

/-- THE TIED CARD OF 'stepladderlaw06.MmrWork'. -/
def mmrWorkCard : Claim7 := { stood := { row := mmrWorkRow, standIns := [], harness := (true, "f187b0605e012635b95f6b8e0e9e9347ce90b57ad24e10d39f5801e3da0eda06"), looks := false }, kinds := [], alts := [], laidByText := true, laidKinds := [.data, .data], laidTests := true, laidLooks := .later }
def MmrWorkCardSaid : Prop := Claim7.holds Tryd.pinned (.plain (OpenSpec.ofChange mmrWorkSpec)) mmrWorkCard

/-- THE TIED CARD OF 'stepladderlaw06.MmrOne'. -/
def mmrOneCard : Claim7 := { stood := { row := mmrOneRow, standIns := [], harness := (true, "f187b0605e012635b95f6b8e0e9e9347ce90b57ad24e10d39f5801e3da0eda06"), looks := false }, kinds := [], alts := [], laidByText := true, laidKinds := [.data, .data], laidTests := true, laidLooks := .later }
def MmrOneCardSaid : Prop := Claim7.holds Tryd.pinned (.plain (OpenSpec.ofChange mmrOneSpec)) mmrOneCard

/-- THE TIED CARD OF 'stepladderlaw06.MmrJoins'. -/
def mmrJoinsCard : Claim7 := { stood := { row := mmrJoinsRow, standIns := [], harness := (true, "f187b0605e012635b95f6b8e0e9e9347ce90b57ad24e10d39f5801e3da0eda06"), looks := false }, kinds := [], alts := [], laidByText := true, laidKinds := [.data, .data], laidTests := true, laidLooks := .later }
def MmrJoinsCardSaid : Prop := Claim7.holds Tryd.pinned (.plain (OpenSpec.ofChange mmrJoinsSpec)) mmrJoinsCard

/-- THE SECOND FORM's CARD OF 'stepladderlaw06.MmrTells'. -/
def mmrTellsUptoCard : Claim7 := { stood := { row := mmrTellsUptoRow, standIns := [], harness := (true, "f187b0605e012635b95f6b8e0e9e9347ce90b57ad24e10d39f5801e3da0eda06"), looks := false }, kinds := [], alts := [], laidByText := true, laidKinds := [.data, .data], laidTests := true, laidLooks := .later }
def MmrTellsUptoCardSaid : Prop := Claim7.holds Tryd.pinned (.plain (OpenSpec.upto mmrTellsSpec)) mmrTellsUptoCard

/-- THE SECOND FORM's CARD OF 'stepladderlaw06.MmrWhole'. -/
def mmrWholeUptoCard : Claim7 := { stood := { row := mmrWholeUptoRow, standIns := [], harness := (true, "f187b0605e012635b95f6b8e0e9e9347ce90b57ad24e10d39f5801e3da0eda06"), looks := false }, kinds := [], alts := [], laidByText := true, laidKinds := [.data, .data], laidTests := true, laidLooks := .later }
def MmrWholeUptoCardSaid : Prop := Claim7.holds Tryd.pinned (.plain (OpenSpec.upto mmrWholeSpec)) mmrWholeUptoCard

/-- THE SECOND FORM's CARD OF 'stepladderlaw06.MmrPaths'. -/
def mmrPathsUptoCard : Claim7 := { stood := { row := mmrPathsUptoRow, standIns := [], harness := (true, "f187b0605e012635b95f6b8e0e9e9347ce90b57ad24e10d39f5801e3da0eda06"), looks := false }, kinds := [], alts := [], laidByText := true, laidKinds := [.data, .data], laidTests := true, laidLooks := .later }
def MmrPathsUptoCardSaid : Prop := Claim7.holds Tryd.pinned (.plain (OpenSpec.upto mmrPathsSpec)) mmrPathsUptoCard

/-- THE SECOND FORM's CARD OF 'stepladderlaw06.MmrWork'. -/
def mmrWorkUptoCard : Claim7 := { stood := { row := mmrWorkUptoRow, standIns := [], harness := (true, "f187b0605e012635b95f6b8e0e9e9347ce90b57ad24e10d39f5801e3da0eda06"), looks := false }, kinds := [], alts := [], laidByText := true, laidKinds := [.data, .data], laidTests := true, laidLooks := .later }
def MmrWorkUptoCardSaid : Prop := Claim7.holds Tryd.pinned (.plain (OpenSpec.upto mmrWorkSpec)) mmrWorkUptoCard

/-- THE SECOND FORM's CARD OF 'stepladderlaw06.MmrOne'. -/
def mmrOneUptoCard : Claim7 := { stood := { row := mmrOneUptoRow, standIns := [], harness := (true, "f187b0605e012635b95f6b8e0e9e9347ce90b57ad24e10d39f5801e3da0eda06"), looks := false }, kinds := [], alts := [], laidByText := true, laidKinds := [.data, .data], laidTests := true, laidLooks := .later }
def MmrOneUptoCardSaid : Prop := Claim7.holds Tryd.pinned (.plain (OpenSpec.upto mmrOneSpec)) mmrOneUptoCard

/-- THE SECOND FORM's CARD OF 'stepladderlaw06.MmrJoins'. -/
def mmrJoinsUptoCard : Claim7 := { stood := { row := mmrJoinsUptoRow, standIns := [], harness := (true, "f187b0605e012635b95f6b8e0e9e9347ce90b57ad24e10d39f5801e3da0eda06"), looks := false }, kinds := [], alts := [], laidByText := true, laidKinds := [.data, .data], laidTests := true, laidLooks := .later }
def MmrJoinsUptoCardSaid : Prop := Claim7.holds Tryd.pinned (.plain (OpenSpec.upto mmrJoinsSpec)) mmrJoinsUptoCard
end Rows
end Go.Proofs.YtbmiecogjmbciaaDoor
