/-
  DERIVED. GIVEN WITH THE SEED: THE CARDS: each row of YtojmeodoenkapaaGreatDoorRows.lean that lists a variable, with what it lists TIED to the program's text (the seventh form; the later family's looks); each row that meets fmt, with fmt's text TOLD by the authors' own Lean function (tested against real Go, not proved from fmt's source: count such statements apart). THE CARD IS WHAT COUNTS. Prove the row's statement (the work); the ties are given (YtojmeodoenkapaaGreatDoorTie.lean); close each card by the builder's one call (the guide's Derived/Test/ToyasCard.lean, 'card_holds'). Laid BY PROGRAM, IN A SANDBOX (cutbox-door.mjs). By AI agents, Wed Nov 11 2026. No macro, syntax, notation, axiom, sorry.
-/
import Derived.Test.YtojmeodoenkapaaGreatDoorRows
import GoSem.ClaimSeven
namespace Go.Proofs.YtojmeodoenkapaaGreatDoor
namespace Rows

/-- THE TIED CARD OF 'stepladderlaw12.ChainTells'. -/
def chainTellsCard : Claim7 := { stood := { row := chainTellsRow, standIns := [], harness := (true, "823c7b65b96fda118c319150a543597e689762a44c2b103415cd7c4e38300d03"), looks := false }, kinds := [], alts := [], laidByText := true, laidKinds := [.data, .data], laidTests := true, laidLooks := .later }
def ChainTellsCardSaid : Prop := Claim7.holds Tryz.pinned (.plain (OpenSpec.ofChange chainTellsSpec)) chainTellsCard

/-- THE TIED CARD OF 'stepladderlaw12.ChainGrows'. -/
def chainGrowsCard : Claim7 := { stood := { row := chainGrowsRow, standIns := [], harness := (true, "823c7b65b96fda118c319150a543597e689762a44c2b103415cd7c4e38300d03"), looks := false }, kinds := [], alts := [], laidByText := true, laidKinds := [.data, .data], laidTests := true, laidLooks := .later }
def ChainGrowsCardSaid : Prop := Claim7.holds Tryz.pinned (.plain (OpenSpec.ofChange chainGrowsSpec)) chainGrowsCard

/-- THE TIED CARD OF 'stepladderlaw12.ChainStands'. -/
def chainStandsCard : Claim7 := { stood := { row := chainStandsRow, standIns := [], harness := (true, "823c7b65b96fda118c319150a543597e689762a44c2b103415cd7c4e38300d03"), looks := false }, kinds := [], alts := [], laidByText := true, laidKinds := [.data, .data], laidTests := true, laidLooks := .later }
def ChainStandsCardSaid : Prop := Claim7.holds Tryz.pinned (.plain (OpenSpec.ofChange chainStandsSpec)) chainStandsCard

/-- THE TIED CARD OF 'stepladderlaw12.ChainLinks'. -/
def chainLinksCard : Claim7 := { stood := { row := chainLinksRow, standIns := [], harness := (true, "823c7b65b96fda118c319150a543597e689762a44c2b103415cd7c4e38300d03"), looks := false }, kinds := [], alts := [], laidByText := true, laidKinds := [.data, .data], laidTests := true, laidLooks := .later }
def ChainLinksCardSaid : Prop := Claim7.holds Tryz.pinned (.plain (OpenSpec.ofChange chainLinksSpec)) chainLinksCard

/-- THE TIED CARD OF 'stepladderlaw12.ChainSpoiled'. -/
def chainSpoiledCard : Claim7 := { stood := { row := chainSpoiledRow, standIns := [], harness := (true, "823c7b65b96fda118c319150a543597e689762a44c2b103415cd7c4e38300d03"), looks := false }, kinds := [], alts := [], laidByText := true, laidKinds := [.data, .data], laidTests := true, laidLooks := .later }
def ChainSpoiledCardSaid : Prop := Claim7.holds Tryz.pinned (.plain (OpenSpec.ofChange chainSpoiledSpec)) chainSpoiledCard

/-- THE TIED CARD OF 'stepladderlaw12.ChainPushes'. -/
def chainPushesCard : Claim7 := { stood := { row := chainPushesRow, standIns := [], harness := (true, "823c7b65b96fda118c319150a543597e689762a44c2b103415cd7c4e38300d03"), looks := false }, kinds := [], alts := [], laidByText := true, laidKinds := [.data, .data], laidTests := true, laidLooks := .later }
def ChainPushesCardSaid : Prop := Claim7.holds Tryz.pinned (.plain (OpenSpec.ofChange chainPushesSpec)) chainPushesCard

/-- THE TIED CARD OF 'stepladderlaw12.ChainFinds'. -/
def chainFindsCard : Claim7 := { stood := { row := chainFindsRow, standIns := [], harness := (true, "823c7b65b96fda118c319150a543597e689762a44c2b103415cd7c4e38300d03"), looks := false }, kinds := [], alts := [], laidByText := true, laidKinds := [.data, .data], laidTests := true, laidLooks := .later }
def ChainFindsCardSaid : Prop := Claim7.holds Tryz.pinned (.plain (OpenSpec.ofChange chainFindsSpec)) chainFindsCard

/-- THE SECOND FORM's CARD OF 'stepladderlaw12.ChainTells'. -/
def chainTellsUptoCard : Claim7 := { stood := { row := chainTellsUptoRow, standIns := [], harness := (true, "823c7b65b96fda118c319150a543597e689762a44c2b103415cd7c4e38300d03"), looks := false }, kinds := [], alts := [], laidByText := true, laidKinds := [.data, .data], laidTests := true, laidLooks := .later }
def ChainTellsUptoCardSaid : Prop := Claim7.holds Tryz.pinned (.plain (OpenSpec.upto chainTellsSpec)) chainTellsUptoCard

/-- THE SECOND FORM's CARD OF 'stepladderlaw12.ChainGrows'. -/
def chainGrowsUptoCard : Claim7 := { stood := { row := chainGrowsUptoRow, standIns := [], harness := (true, "823c7b65b96fda118c319150a543597e689762a44c2b103415cd7c4e38300d03"), looks := false }, kinds := [], alts := [], laidByText := true, laidKinds := [.data, .data], laidTests := true, laidLooks := .later }
def ChainGrowsUptoCardSaid : Prop := Claim7.holds Tryz.pinned (.plain (OpenSpec.upto chainGrowsSpec)) chainGrowsUptoCard

/-- THE SECOND FORM's CARD OF 'stepladderlaw12.ChainStands'. -/
def chainStandsUptoCard : Claim7 := { stood := { row := chainStandsUptoRow, standIns := [], harness := (true, "823c7b65b96fda118c319150a543597e689762a44c2b103415cd7c4e38300d03"), looks := false }, kinds := [], alts := [], laidByText := true, laidKinds := [.data, .data], laidTests := true, laidLooks := .later }
def ChainStandsUptoCardSaid : Prop := Claim7.holds Tryz.pinned (.plain (OpenSpec.upto chainStandsSpec)) chainStandsUptoCard

/-- THE SECOND FORM's CARD OF 'stepladderlaw12.ChainLinks'. -/
def chainLinksUptoCard : Claim7 := { stood := { row := chainLinksUptoRow, standIns := [], harness := (true, "823c7b65b96fda118c319150a543597e689762a44c2b103415cd7c4e38300d03"), looks := false }, kinds := [], alts := [], laidByText := true, laidKinds := [.data, .data], laidTests := true, laidLooks := .later }
def ChainLinksUptoCardSaid : Prop := Claim7.holds Tryz.pinned (.plain (OpenSpec.upto chainLinksSpec)) chainLinksUptoCard

/-- THE SECOND FORM's CARD OF 'stepladderlaw12.ChainSpoiled'. -/
def chainSpoiledUptoCard : Claim7 := { stood := { row := chainSpoiledUptoRow, standIns := [], harness := (true, "823c7b65b96fda118c319150a543597e689762a44c2b103415cd7c4e38300d03"), looks := false }, kinds := [], alts := [], laidByText := true, laidKinds := [.data, .data], laidTests := true, laidLooks := .later }
def ChainSpoiledUptoCardSaid : Prop := Claim7.holds Tryz.pinned (.plain (OpenSpec.upto chainSpoiledSpec)) chainSpoiledUptoCard

/-- THE SECOND FORM's CARD OF 'stepladderlaw12.ChainPushes'. -/
def chainPushesUptoCard : Claim7 := { stood := { row := chainPushesUptoRow, standIns := [], harness := (true, "823c7b65b96fda118c319150a543597e689762a44c2b103415cd7c4e38300d03"), looks := false }, kinds := [], alts := [], laidByText := true, laidKinds := [.data, .data], laidTests := true, laidLooks := .later }
def ChainPushesUptoCardSaid : Prop := Claim7.holds Tryz.pinned (.plain (OpenSpec.upto chainPushesSpec)) chainPushesUptoCard

/-- THE SECOND FORM's CARD OF 'stepladderlaw12.ChainFinds'. -/
def chainFindsUptoCard : Claim7 := { stood := { row := chainFindsUptoRow, standIns := [], harness := (true, "823c7b65b96fda118c319150a543597e689762a44c2b103415cd7c4e38300d03"), looks := false }, kinds := [], alts := [], laidByText := true, laidKinds := [.data, .data], laidTests := true, laidLooks := .later }
def ChainFindsUptoCardSaid : Prop := Claim7.holds Tryz.pinned (.plain (OpenSpec.upto chainFindsSpec)) chainFindsUptoCard
end Rows
end Go.Proofs.YtojmeodoenkapaaGreatDoor
