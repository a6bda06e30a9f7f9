/-
  DERIVED. GIVEN WITH THE SEED: THE CARDS: each row of YtbjojpgedcikiaaDoorRows.lean that lists a variable, with what it lists TIED to the program's text (the seventh form; the later family's looks); each row that meets fmt, with fmt's text TOLD by the authors' own Lean function (tested against real Go, not proved from fmt's source: count such statements apart). THE CARD IS WHAT COUNTS. Prove the row's statement (the work); the ties are given (YtbjojpgedcikiaaDoorTie.lean); close each card by the builder's one call (the guide's Derived/Test/ToyasCard.lean, 'card_holds'). Laid BY PROGRAM, IN A SANDBOX (cutbox-door.mjs). By AI agents, Wed Nov 11 2026. No macro, syntax, notation, axiom, sorry.
-/
import Derived.Test.YtbjojpgedcikiaaDoorRows
import GoSem.ClaimSeven
namespace Go.Proofs.YtbjojpgedcikiaaDoor
namespace Rows

/-- THE TIED CARD OF 'stepladderlaw07.LinkTells'. -/
def linkTellsCard : Claim7 := { stood := { row := linkTellsRow, standIns := [], harness := (true, "45b102be5083891aebcb4ee79b32677b4a6e2098f19b41b6fc3dae0006015906"), looks := false }, kinds := [], alts := [], laidByText := true, laidKinds := [.data, .data], laidTests := true, laidLooks := .later }
def LinkTellsCardSaid : Prop := Claim7.holds Tryd.pinned (.plain (OpenSpec.ofChange linkTellsSpec)) linkTellsCard

/-- THE TIED CARD OF 'stepladderlaw07.LinkGrows'. -/
def linkGrowsCard : Claim7 := { stood := { row := linkGrowsRow, standIns := [], harness := (true, "45b102be5083891aebcb4ee79b32677b4a6e2098f19b41b6fc3dae0006015906"), looks := false }, kinds := [], alts := [], laidByText := true, laidKinds := [.data, .data], laidTests := true, laidLooks := .later }
def LinkGrowsCardSaid : Prop := Claim7.holds Tryd.pinned (.plain (OpenSpec.ofChange linkGrowsSpec)) linkGrowsCard

/-- THE TIED CARD OF 'stepladderlaw07.LinkPaths'. -/
def linkPathsCard : Claim7 := { stood := { row := linkPathsRow, standIns := [], harness := (true, "45b102be5083891aebcb4ee79b32677b4a6e2098f19b41b6fc3dae0006015906"), looks := false }, kinds := [], alts := [], laidByText := true, laidKinds := [.data, .data], laidTests := true, laidLooks := .later }
def LinkPathsCardSaid : Prop := Claim7.holds Tryd.pinned (.plain (OpenSpec.ofChange linkPathsSpec)) linkPathsCard

/-- THE TIED CARD OF 'stepladderlaw07.LinkTwice'. -/
def linkTwiceCard : Claim7 := { stood := { row := linkTwiceRow, standIns := [], harness := (true, "45b102be5083891aebcb4ee79b32677b4a6e2098f19b41b6fc3dae0006015906"), looks := false }, kinds := [], alts := [], laidByText := true, laidKinds := [.data, .data], laidTests := true, laidLooks := .later }
def LinkTwiceCardSaid : Prop := Claim7.holds Tryd.pinned (.plain (OpenSpec.ofChange linkTwiceSpec)) linkTwiceCard

/-- THE TIED CARD OF 'stepladderlaw07.LinkSums'. -/
def linkSumsCard : Claim7 := { stood := { row := linkSumsRow, standIns := [], harness := (true, "45b102be5083891aebcb4ee79b32677b4a6e2098f19b41b6fc3dae0006015906"), looks := false }, kinds := [], alts := [], laidByText := true, laidKinds := [.data, .data], laidTests := true, laidLooks := .later }
def LinkSumsCardSaid : Prop := Claim7.holds Tryd.pinned (.plain (OpenSpec.ofChange linkSumsSpec)) linkSumsCard

/-- THE TIED CARD OF 'stepladderlaw07.LinkLow'. -/
def linkLowCard : Claim7 := { stood := { row := linkLowRow, standIns := [], harness := (true, "45b102be5083891aebcb4ee79b32677b4a6e2098f19b41b6fc3dae0006015906"), looks := false }, kinds := [], alts := [], laidByText := true, laidKinds := [.data, .data], laidTests := true, laidLooks := .later }
def LinkLowCardSaid : Prop := Claim7.holds Tryd.pinned (.plain (OpenSpec.ofChange linkLowSpec)) linkLowCard

/-- THE SECOND FORM's CARD OF 'stepladderlaw07.LinkTells'. -/
def linkTellsUptoCard : Claim7 := { stood := { row := linkTellsUptoRow, standIns := [], harness := (true, "45b102be5083891aebcb4ee79b32677b4a6e2098f19b41b6fc3dae0006015906"), looks := false }, kinds := [], alts := [], laidByText := true, laidKinds := [.data, .data], laidTests := true, laidLooks := .later }
def LinkTellsUptoCardSaid : Prop := Claim7.holds Tryd.pinned (.plain (OpenSpec.upto linkTellsSpec)) linkTellsUptoCard

/-- THE SECOND FORM's CARD OF 'stepladderlaw07.LinkGrows'. -/
def linkGrowsUptoCard : Claim7 := { stood := { row := linkGrowsUptoRow, standIns := [], harness := (true, "45b102be5083891aebcb4ee79b32677b4a6e2098f19b41b6fc3dae0006015906"), looks := false }, kinds := [], alts := [], laidByText := true, laidKinds := [.data, .data], laidTests := true, laidLooks := .later }
def LinkGrowsUptoCardSaid : Prop := Claim7.holds Tryd.pinned (.plain (OpenSpec.upto linkGrowsSpec)) linkGrowsUptoCard

/-- THE SECOND FORM's CARD OF 'stepladderlaw07.LinkPaths'. -/
def linkPathsUptoCard : Claim7 := { stood := { row := linkPathsUptoRow, standIns := [], harness := (true, "45b102be5083891aebcb4ee79b32677b4a6e2098f19b41b6fc3dae0006015906"), looks := false }, kinds := [], alts := [], laidByText := true, laidKinds := [.data, .data], laidTests := true, laidLooks := .later }
def LinkPathsUptoCardSaid : Prop := Claim7.holds Tryd.pinned (.plain (OpenSpec.upto linkPathsSpec)) linkPathsUptoCard

/-- THE SECOND FORM's CARD OF 'stepladderlaw07.LinkTwice'. -/
def linkTwiceUptoCard : Claim7 := { stood := { row := linkTwiceUptoRow, standIns := [], harness := (true, "45b102be5083891aebcb4ee79b32677b4a6e2098f19b41b6fc3dae0006015906"), looks := false }, kinds := [], alts := [], laidByText := true, laidKinds := [.data, .data], laidTests := true, laidLooks := .later }
def LinkTwiceUptoCardSaid : Prop := Claim7.holds Tryd.pinned (.plain (OpenSpec.upto linkTwiceSpec)) linkTwiceUptoCard

/-- THE SECOND FORM's CARD OF 'stepladderlaw07.LinkSums'. -/
def linkSumsUptoCard : Claim7 := { stood := { row := linkSumsUptoRow, standIns := [], harness := (true, "45b102be5083891aebcb4ee79b32677b4a6e2098f19b41b6fc3dae0006015906"), looks := false }, kinds := [], alts := [], laidByText := true, laidKinds := [.data, .data], laidTests := true, laidLooks := .later }
def LinkSumsUptoCardSaid : Prop := Claim7.holds Tryd.pinned (.plain (OpenSpec.upto linkSumsSpec)) linkSumsUptoCard

/-- THE SECOND FORM's CARD OF 'stepladderlaw07.LinkLow'. -/
def linkLowUptoCard : Claim7 := { stood := { row := linkLowUptoRow, standIns := [], harness := (true, "45b102be5083891aebcb4ee79b32677b4a6e2098f19b41b6fc3dae0006015906"), looks := false }, kinds := [], alts := [], laidByText := true, laidKinds := [.data, .data], laidTests := true, laidLooks := .later }
def LinkLowUptoCardSaid : Prop := Claim7.holds Tryd.pinned (.plain (OpenSpec.upto linkLowSpec)) linkLowUptoCard
end Rows
end Go.Proofs.YtbjojpgedcikiaaDoor
