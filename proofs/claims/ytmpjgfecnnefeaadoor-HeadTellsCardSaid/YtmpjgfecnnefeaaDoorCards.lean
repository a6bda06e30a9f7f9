/-
  DERIVED. GIVEN WITH THE SEED: THE CARDS: each row of YtmpjgfecnnefeaaDoorRows.lean that lists a variable, with what it lists TIED to the program's text (the seventh form; the later family's looks); each row that meets fmt, with fmt's text TOLD by the authors' own Lean function (tested against real Go, not proved from fmt's source: count such statements apart). THE CARD IS WHAT COUNTS. Prove the row's statement (the work); the ties are given (YtmpjgfecnnefeaaDoorTie.lean); close each card by the builder's one call (the guide's Derived/Test/ToyasCard.lean, 'card_holds'). Laid BY PROGRAM, IN A SANDBOX (cutbox-door.mjs). By AI agents, Wed Nov 11 2026. No macro, syntax, notation, axiom, sorry.
-/
import Derived.Test.YtmpjgfecnnefeaaDoorRows
import GoSem.ClaimSeven
namespace Go.Proofs.YtmpjgfecnnefeaaDoor
namespace Rows

/-- THE TIED CARD OF 'stepladderlaw08.HeadTells'. -/
def headTellsCard : Claim7 := { stood := { row := headTellsRow, standIns := [], harness := (true, "eb609bcd0b7b47674c8623a17216d3d40e89114684ee585f9cde0ba5eefca3f4"), looks := false }, kinds := [], alts := [], laidByText := true, laidKinds := [.data, .data], laidTests := true, laidLooks := .later }
def HeadTellsCardSaid : Prop := Claim7.holds Tryd.pinned (.plain (OpenSpec.ofChange headTellsSpec)) headTellsCard

/-- THE TIED CARD OF 'stepladderlaw08.HeadBack'. -/
def headBackCard : Claim7 := { stood := { row := headBackRow, standIns := [], harness := (true, "eb609bcd0b7b47674c8623a17216d3d40e89114684ee585f9cde0ba5eefca3f4"), looks := false }, kinds := [], alts := [], laidByText := true, laidKinds := [.data, .data], laidTests := true, laidLooks := .later }
def HeadBackCardSaid : Prop := Claim7.holds Tryd.pinned (.plain (OpenSpec.ofChange headBackSpec)) headBackCard

/-- THE TIED CARD OF 'stepladderlaw08.HeadSums'. -/
def headSumsCard : Claim7 := { stood := { row := headSumsRow, standIns := [], harness := (true, "eb609bcd0b7b47674c8623a17216d3d40e89114684ee585f9cde0ba5eefca3f4"), looks := false }, kinds := [], alts := [], laidByText := true, laidKinds := [.data, .data], laidTests := true, laidLooks := .later }
def HeadSumsCardSaid : Prop := Claim7.holds Tryd.pinned (.plain (OpenSpec.ofChange headSumsSpec)) headSumsCard

/-- THE TIED CARD OF 'stepladderlaw08.HeadMines'. -/
def headMinesCard : Claim7 := { stood := { row := headMinesRow, standIns := [], harness := (true, "eb609bcd0b7b47674c8623a17216d3d40e89114684ee585f9cde0ba5eefca3f4"), looks := false }, kinds := [], alts := [], laidByText := true, laidKinds := [.data, .data], laidTests := true, laidLooks := .later }
def HeadMinesCardSaid : Prop := Claim7.holds Tryd.pinned (.plain (OpenSpec.ofChange headMinesSpec)) headMinesCard

/-- THE TIED CARD OF 'stepladderlaw08.HeadLevels'. -/
def headLevelsCard : Claim7 := { stood := { row := headLevelsRow, standIns := [], harness := (true, "eb609bcd0b7b47674c8623a17216d3d40e89114684ee585f9cde0ba5eefca3f4"), looks := false }, kinds := [], alts := [], laidByText := true, laidKinds := [.data, .data], laidTests := true, laidLooks := .later }
def HeadLevelsCardSaid : Prop := Claim7.holds Tryd.pinned (.plain (OpenSpec.ofChange headLevelsSpec)) headLevelsCard

/-- THE TIED CARD OF 'stepladderlaw08.HeadCut'. -/
def headCutCard : Claim7 := { stood := { row := headCutRow, standIns := [], harness := (true, "eb609bcd0b7b47674c8623a17216d3d40e89114684ee585f9cde0ba5eefca3f4"), looks := false }, kinds := [], alts := [], laidByText := true, laidKinds := [.data, .data], laidTests := true, laidLooks := .later }
def HeadCutCardSaid : Prop := Claim7.holds Tryd.pinned (.plain (OpenSpec.ofChange headCutSpec)) headCutCard

/-- THE SECOND FORM's CARD OF 'stepladderlaw08.HeadTells'. -/
def headTellsUptoCard : Claim7 := { stood := { row := headTellsUptoRow, standIns := [], harness := (true, "eb609bcd0b7b47674c8623a17216d3d40e89114684ee585f9cde0ba5eefca3f4"), looks := false }, kinds := [], alts := [], laidByText := true, laidKinds := [.data, .data], laidTests := true, laidLooks := .later }
def HeadTellsUptoCardSaid : Prop := Claim7.holds Tryd.pinned (.plain (OpenSpec.upto headTellsSpec)) headTellsUptoCard

/-- THE SECOND FORM's CARD OF 'stepladderlaw08.HeadBack'. -/
def headBackUptoCard : Claim7 := { stood := { row := headBackUptoRow, standIns := [], harness := (true, "eb609bcd0b7b47674c8623a17216d3d40e89114684ee585f9cde0ba5eefca3f4"), looks := false }, kinds := [], alts := [], laidByText := true, laidKinds := [.data, .data], laidTests := true, laidLooks := .later }
def HeadBackUptoCardSaid : Prop := Claim7.holds Tryd.pinned (.plain (OpenSpec.upto headBackSpec)) headBackUptoCard

/-- THE SECOND FORM's CARD OF 'stepladderlaw08.HeadSums'. -/
def headSumsUptoCard : Claim7 := { stood := { row := headSumsUptoRow, standIns := [], harness := (true, "eb609bcd0b7b47674c8623a17216d3d40e89114684ee585f9cde0ba5eefca3f4"), looks := false }, kinds := [], alts := [], laidByText := true, laidKinds := [.data, .data], laidTests := true, laidLooks := .later }
def HeadSumsUptoCardSaid : Prop := Claim7.holds Tryd.pinned (.plain (OpenSpec.upto headSumsSpec)) headSumsUptoCard

/-- THE SECOND FORM's CARD OF 'stepladderlaw08.HeadMines'. -/
def headMinesUptoCard : Claim7 := { stood := { row := headMinesUptoRow, standIns := [], harness := (true, "eb609bcd0b7b47674c8623a17216d3d40e89114684ee585f9cde0ba5eefca3f4"), looks := false }, kinds := [], alts := [], laidByText := true, laidKinds := [.data, .data], laidTests := true, laidLooks := .later }
def HeadMinesUptoCardSaid : Prop := Claim7.holds Tryd.pinned (.plain (OpenSpec.upto headMinesSpec)) headMinesUptoCard

/-- THE SECOND FORM's CARD OF 'stepladderlaw08.HeadLevels'. -/
def headLevelsUptoCard : Claim7 := { stood := { row := headLevelsUptoRow, standIns := [], harness := (true, "eb609bcd0b7b47674c8623a17216d3d40e89114684ee585f9cde0ba5eefca3f4"), looks := false }, kinds := [], alts := [], laidByText := true, laidKinds := [.data, .data], laidTests := true, laidLooks := .later }
def HeadLevelsUptoCardSaid : Prop := Claim7.holds Tryd.pinned (.plain (OpenSpec.upto headLevelsSpec)) headLevelsUptoCard

/-- THE SECOND FORM's CARD OF 'stepladderlaw08.HeadCut'. -/
def headCutUptoCard : Claim7 := { stood := { row := headCutUptoRow, standIns := [], harness := (true, "eb609bcd0b7b47674c8623a17216d3d40e89114684ee585f9cde0ba5eefca3f4"), looks := false }, kinds := [], alts := [], laidByText := true, laidKinds := [.data, .data], laidTests := true, laidLooks := .later }
def HeadCutUptoCardSaid : Prop := Claim7.holds Tryd.pinned (.plain (OpenSpec.upto headCutSpec)) headCutUptoCard
end Rows
end Go.Proofs.YtmpjgfecnnefeaaDoor
