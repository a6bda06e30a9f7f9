/-
  DERIVED. GIVEN WITH THE SEED: THE CARDS: each row of YtpanpohdnbgdpaaGreatDoorRows.lean that lists a variable, with what it lists TIED to the program's text (the seventh form; the later family's looks); each row that meets fmt, with fmt's text TOLD by the authors' own Lean function (tested against real Go, not proved from fmt's source: count such statements apart). THE CARD IS WHAT COUNTS. Prove the row's statement (the work); the ties are given (YtpanpohdnbgdpaaGreatDoorTie.lean); close each card by the builder's one call (the guide's Derived/Test/ToyasCard.lean, 'card_holds'). Laid BY PROGRAM, IN A SANDBOX (cutbox-door.mjs). By AI agents, Wed Nov 11 2026. No macro, syntax, notation, axiom, sorry.
-/
import Derived.Test.YtpanpohdnbgdpaaGreatDoorRows
import GoSem.ClaimSeven
namespace Go.Proofs.YtpanpohdnbgdpaaGreatDoor
namespace Rows

/-- THE TIED CARD OF 'stepladderlaw11.BlockTells'. -/
def blockTellsCard : Claim7 := { stood := { row := blockTellsRow, standIns := [], harness := (true, "a2dc93fe463e89155a61bd753066ffc74aa7f0ea9f0b12794c5408c62453c81d"), looks := false }, kinds := [], alts := [], laidByText := true, laidKinds := [.data, .data], laidTests := true, laidLooks := .later }
def BlockTellsCardSaid : Prop := Claim7.holds Tryz.pinned (.plain (OpenSpec.ofChange blockTellsSpec)) blockTellsCard

/-- THE TIED CARD OF 'stepladderlaw11.BlockMines'. -/
def blockMinesCard : Claim7 := { stood := { row := blockMinesRow, standIns := [], harness := (true, "a2dc93fe463e89155a61bd753066ffc74aa7f0ea9f0b12794c5408c62453c81d"), looks := false }, kinds := [], alts := [], laidByText := true, laidKinds := [.data, .data], laidTests := true, laidLooks := .later }
def BlockMinesCardSaid : Prop := Claim7.holds Tryz.pinned (.plain (OpenSpec.ofChange blockMinesSpec)) blockMinesCard

/-- THE TIED CARD OF 'stepladderlaw11.BlockPushes'. -/
def blockPushesCard : Claim7 := { stood := { row := blockPushesRow, standIns := [], harness := (true, "a2dc93fe463e89155a61bd753066ffc74aa7f0ea9f0b12794c5408c62453c81d"), looks := false }, kinds := [], alts := [], laidByText := true, laidKinds := [.data, .data], laidTests := true, laidLooks := .later }
def BlockPushesCardSaid : Prop := Claim7.holds Tryz.pinned (.plain (OpenSpec.ofChange blockPushesSpec)) blockPushesCard

/-- THE TIED CARD OF 'stepladderlaw11.BlockOther'. -/
def blockOtherCard : Claim7 := { stood := { row := blockOtherRow, standIns := [], harness := (true, "a2dc93fe463e89155a61bd753066ffc74aa7f0ea9f0b12794c5408c62453c81d"), looks := false }, kinds := [], alts := [], laidByText := true, laidKinds := [.data, .data], laidTests := true, laidLooks := .later }
def BlockOtherCardSaid : Prop := Claim7.holds Tryz.pinned (.plain (OpenSpec.ofChange blockOtherSpec)) blockOtherCard

/-- THE TIED CARD OF 'stepladderlaw11.BlockFirst'. -/
def blockFirstCard : Claim7 := { stood := { row := blockFirstRow, standIns := [], harness := (true, "a2dc93fe463e89155a61bd753066ffc74aa7f0ea9f0b12794c5408c62453c81d"), looks := false }, kinds := [], alts := [], laidByText := true, laidKinds := [.data, .data], laidTests := true, laidLooks := .later }
def BlockFirstCardSaid : Prop := Claim7.holds Tryz.pinned (.plain (OpenSpec.ofChange blockFirstSpec)) blockFirstCard

/-- THE TIED CARD OF 'stepladderlaw11.BlockNext'. -/
def blockNextCard : Claim7 := { stood := { row := blockNextRow, standIns := [], harness := (true, "a2dc93fe463e89155a61bd753066ffc74aa7f0ea9f0b12794c5408c62453c81d"), looks := false }, kinds := [], alts := [], laidByText := true, laidKinds := [.data, .data], laidTests := true, laidLooks := .later }
def BlockNextCardSaid : Prop := Claim7.holds Tryz.pinned (.plain (OpenSpec.ofChange blockNextSpec)) blockNextCard

/-- THE TIED CARD OF 'stepladderlaw11.BlockTwice'. -/
def blockTwiceCard : Claim7 := { stood := { row := blockTwiceRow, standIns := [], harness := (true, "a2dc93fe463e89155a61bd753066ffc74aa7f0ea9f0b12794c5408c62453c81d"), looks := false }, kinds := [], alts := [], laidByText := true, laidKinds := [.data, .data], laidTests := true, laidLooks := .later }
def BlockTwiceCardSaid : Prop := Claim7.holds Tryz.pinned (.plain (OpenSpec.ofChange blockTwiceSpec)) blockTwiceCard

/-- THE SECOND FORM's CARD OF 'stepladderlaw11.BlockTells'. -/
def blockTellsUptoCard : Claim7 := { stood := { row := blockTellsUptoRow, standIns := [], harness := (true, "a2dc93fe463e89155a61bd753066ffc74aa7f0ea9f0b12794c5408c62453c81d"), looks := false }, kinds := [], alts := [], laidByText := true, laidKinds := [.data, .data], laidTests := true, laidLooks := .later }
def BlockTellsUptoCardSaid : Prop := Claim7.holds Tryz.pinned (.plain (OpenSpec.upto blockTellsSpec)) blockTellsUptoCard

/-- THE SECOND FORM's CARD OF 'stepladderlaw11.BlockMines'. -/
def blockMinesUptoCard : Claim7 := { stood := { row := blockMinesUptoRow, standIns := [], harness := (true, "a2dc93fe463e89155a61bd753066ffc74aa7f0ea9f0b12794c5408c62453c81d"), looks := false }, kinds := [], alts := [], laidByText := true, laidKinds := [.data, .data], laidTests := true, laidLooks := .later }
def BlockMinesUptoCardSaid : Prop := Claim7.holds Tryz.pinned (.plain (OpenSpec.upto blockMinesSpec)) blockMinesUptoCard

/-- THE SECOND FORM's CARD OF 'stepladderlaw11.BlockPushes'. -/
def blockPushesUptoCard : Claim7 := { stood := { row := blockPushesUptoRow, standIns := [], harness := (true, "a2dc93fe463e89155a61bd753066ffc74aa7f0ea9f0b12794c5408c62453c81d"), looks := false }, kinds := [], alts := [], laidByText := true, laidKinds := [.data, .data], laidTests := true, laidLooks := .later }
def BlockPushesUptoCardSaid : Prop := Claim7.holds Tryz.pinned (.plain (OpenSpec.upto blockPushesSpec)) blockPushesUptoCard

/-- THE SECOND FORM's CARD OF 'stepladderlaw11.BlockOther'. -/
def blockOtherUptoCard : Claim7 := { stood := { row := blockOtherUptoRow, standIns := [], harness := (true, "a2dc93fe463e89155a61bd753066ffc74aa7f0ea9f0b12794c5408c62453c81d"), looks := false }, kinds := [], alts := [], laidByText := true, laidKinds := [.data, .data], laidTests := true, laidLooks := .later }
def BlockOtherUptoCardSaid : Prop := Claim7.holds Tryz.pinned (.plain (OpenSpec.upto blockOtherSpec)) blockOtherUptoCard

/-- THE SECOND FORM's CARD OF 'stepladderlaw11.BlockFirst'. -/
def blockFirstUptoCard : Claim7 := { stood := { row := blockFirstUptoRow, standIns := [], harness := (true, "a2dc93fe463e89155a61bd753066ffc74aa7f0ea9f0b12794c5408c62453c81d"), looks := false }, kinds := [], alts := [], laidByText := true, laidKinds := [.data, .data], laidTests := true, laidLooks := .later }
def BlockFirstUptoCardSaid : Prop := Claim7.holds Tryz.pinned (.plain (OpenSpec.upto blockFirstSpec)) blockFirstUptoCard

/-- THE SECOND FORM's CARD OF 'stepladderlaw11.BlockNext'. -/
def blockNextUptoCard : Claim7 := { stood := { row := blockNextUptoRow, standIns := [], harness := (true, "a2dc93fe463e89155a61bd753066ffc74aa7f0ea9f0b12794c5408c62453c81d"), looks := false }, kinds := [], alts := [], laidByText := true, laidKinds := [.data, .data], laidTests := true, laidLooks := .later }
def BlockNextUptoCardSaid : Prop := Claim7.holds Tryz.pinned (.plain (OpenSpec.upto blockNextSpec)) blockNextUptoCard

/-- THE SECOND FORM's CARD OF 'stepladderlaw11.BlockTwice'. -/
def blockTwiceUptoCard : Claim7 := { stood := { row := blockTwiceUptoRow, standIns := [], harness := (true, "a2dc93fe463e89155a61bd753066ffc74aa7f0ea9f0b12794c5408c62453c81d"), looks := false }, kinds := [], alts := [], laidByText := true, laidKinds := [.data, .data], laidTests := true, laidLooks := .later }
def BlockTwiceUptoCardSaid : Prop := Claim7.holds Tryz.pinned (.plain (OpenSpec.upto blockTwiceSpec)) blockTwiceUptoCard
end Rows
end Go.Proofs.YtpanpohdnbgdpaaGreatDoor
