/-
  DERIVED. GIVEN WITH THE SEED: THE CARDS: each row of YtcodmedgkboohaaDoorRows.lean that lists a variable, with what it lists TIED to the program's text (the seventh form; the later family's looks); each row that meets fmt, with fmt's text TOLD by the authors' own Lean function (tested against real Go, not proved from fmt's source: count such statements apart). THE CARD IS WHAT COUNTS. Prove the row's statement (the work); the ties are given (YtcodmedgkboohaaDoorTie.lean); close each card by the builder's one call (the guide's Derived/Test/ToyasCard.lean, 'card_holds'). Laid BY PROGRAM, IN A SANDBOX (cutbox-door.mjs). By AI agents, Wed Nov 11 2026. No macro, syntax, notation, axiom, sorry.
-/
import Derived.Test.YtcodmedgkboohaaDoorRows
import GoSem.ClaimSeven
namespace Go.Proofs.YtcodmedgkboohaaDoor
namespace Rows

/-- THE TIED CARD OF 'stepladderlaw09.CoinTells'. -/
def coinTellsCard : Claim7 := { stood := { row := coinTellsRow, standIns := [], harness := (true, "dc00e9a86fde23b6717d10a48b99296df6704d1b47424db2c202b7f936f95684"), looks := false }, kinds := [], alts := [], laidByText := true, laidKinds := [.data, .data], laidTests := true, laidLooks := .later }
def CoinTellsCardSaid : Prop := Claim7.holds Tryd.pinned (.plain (OpenSpec.ofChange coinTellsSpec)) coinTellsCard

/-- THE TIED CARD OF 'stepladderlaw09.CoinBack'. -/
def coinBackCard : Claim7 := { stood := { row := coinBackRow, standIns := [], harness := (true, "dc00e9a86fde23b6717d10a48b99296df6704d1b47424db2c202b7f936f95684"), looks := false }, kinds := [], alts := [], laidByText := true, laidKinds := [.data, .data], laidTests := true, laidLooks := .later }
def CoinBackCardSaid : Prop := Claim7.holds Tryd.pinned (.plain (OpenSpec.ofChange coinBackSpec)) coinBackCard

/-- THE TIED CARD OF 'stepladderlaw09.CoinSums'. -/
def coinSumsCard : Claim7 := { stood := { row := coinSumsRow, standIns := [], harness := (true, "dc00e9a86fde23b6717d10a48b99296df6704d1b47424db2c202b7f936f95684"), looks := false }, kinds := [], alts := [], laidByText := true, laidKinds := [.data, .data], laidTests := true, laidLooks := .later }
def CoinSumsCardSaid : Prop := Claim7.holds Tryd.pinned (.plain (OpenSpec.ofChange coinSumsSpec)) coinSumsCard

/-- THE TIED CARD OF 'stepladderlaw09.CoinCut'. -/
def coinCutCard : Claim7 := { stood := { row := coinCutRow, standIns := [], harness := (true, "dc00e9a86fde23b6717d10a48b99296df6704d1b47424db2c202b7f936f95684"), looks := false }, kinds := [], alts := [], laidByText := true, laidKinds := [.data, .data], laidTests := true, laidLooks := .later }
def CoinCutCardSaid : Prop := Claim7.holds Tryd.pinned (.plain (OpenSpec.ofChange coinCutSpec)) coinCutCard

/-- THE TIED CARD OF 'stepladderlaw09.CoinPaths'. -/
def coinPathsCard : Claim7 := { stood := { row := coinPathsRow, standIns := [], harness := (true, "dc00e9a86fde23b6717d10a48b99296df6704d1b47424db2c202b7f936f95684"), looks := false }, kinds := [], alts := [], laidByText := true, laidKinds := [.data, .data], laidTests := true, laidLooks := .later }
def CoinPathsCardSaid : Prop := Claim7.holds Tryd.pinned (.plain (OpenSpec.ofChange coinPathsSpec)) coinPathsCard

/-- THE TIED CARD OF 'stepladderlaw09.CoinMore'. -/
def coinMoreCard : Claim7 := { stood := { row := coinMoreRow, standIns := [], harness := (true, "dc00e9a86fde23b6717d10a48b99296df6704d1b47424db2c202b7f936f95684"), looks := false }, kinds := [], alts := [], laidByText := true, laidKinds := [.data, .data], laidTests := true, laidLooks := .later }
def CoinMoreCardSaid : Prop := Claim7.holds Tryd.pinned (.plain (OpenSpec.ofChange coinMoreSpec)) coinMoreCard

/-- THE SECOND FORM's CARD OF 'stepladderlaw09.CoinTells'. -/
def coinTellsUptoCard : Claim7 := { stood := { row := coinTellsUptoRow, standIns := [], harness := (true, "dc00e9a86fde23b6717d10a48b99296df6704d1b47424db2c202b7f936f95684"), looks := false }, kinds := [], alts := [], laidByText := true, laidKinds := [.data, .data], laidTests := true, laidLooks := .later }
def CoinTellsUptoCardSaid : Prop := Claim7.holds Tryd.pinned (.plain (OpenSpec.upto coinTellsSpec)) coinTellsUptoCard

/-- THE SECOND FORM's CARD OF 'stepladderlaw09.CoinBack'. -/
def coinBackUptoCard : Claim7 := { stood := { row := coinBackUptoRow, standIns := [], harness := (true, "dc00e9a86fde23b6717d10a48b99296df6704d1b47424db2c202b7f936f95684"), looks := false }, kinds := [], alts := [], laidByText := true, laidKinds := [.data, .data], laidTests := true, laidLooks := .later }
def CoinBackUptoCardSaid : Prop := Claim7.holds Tryd.pinned (.plain (OpenSpec.upto coinBackSpec)) coinBackUptoCard

/-- THE SECOND FORM's CARD OF 'stepladderlaw09.CoinSums'. -/
def coinSumsUptoCard : Claim7 := { stood := { row := coinSumsUptoRow, standIns := [], harness := (true, "dc00e9a86fde23b6717d10a48b99296df6704d1b47424db2c202b7f936f95684"), looks := false }, kinds := [], alts := [], laidByText := true, laidKinds := [.data, .data], laidTests := true, laidLooks := .later }
def CoinSumsUptoCardSaid : Prop := Claim7.holds Tryd.pinned (.plain (OpenSpec.upto coinSumsSpec)) coinSumsUptoCard

/-- THE SECOND FORM's CARD OF 'stepladderlaw09.CoinCut'. -/
def coinCutUptoCard : Claim7 := { stood := { row := coinCutUptoRow, standIns := [], harness := (true, "dc00e9a86fde23b6717d10a48b99296df6704d1b47424db2c202b7f936f95684"), looks := false }, kinds := [], alts := [], laidByText := true, laidKinds := [.data, .data], laidTests := true, laidLooks := .later }
def CoinCutUptoCardSaid : Prop := Claim7.holds Tryd.pinned (.plain (OpenSpec.upto coinCutSpec)) coinCutUptoCard

/-- THE SECOND FORM's CARD OF 'stepladderlaw09.CoinPaths'. -/
def coinPathsUptoCard : Claim7 := { stood := { row := coinPathsUptoRow, standIns := [], harness := (true, "dc00e9a86fde23b6717d10a48b99296df6704d1b47424db2c202b7f936f95684"), looks := false }, kinds := [], alts := [], laidByText := true, laidKinds := [.data, .data], laidTests := true, laidLooks := .later }
def CoinPathsUptoCardSaid : Prop := Claim7.holds Tryd.pinned (.plain (OpenSpec.upto coinPathsSpec)) coinPathsUptoCard

/-- THE SECOND FORM's CARD OF 'stepladderlaw09.CoinMore'. -/
def coinMoreUptoCard : Claim7 := { stood := { row := coinMoreUptoRow, standIns := [], harness := (true, "dc00e9a86fde23b6717d10a48b99296df6704d1b47424db2c202b7f936f95684"), looks := false }, kinds := [], alts := [], laidByText := true, laidKinds := [.data, .data], laidTests := true, laidLooks := .later }
def CoinMoreUptoCardSaid : Prop := Claim7.holds Tryd.pinned (.plain (OpenSpec.upto coinMoreSpec)) coinMoreUptoCard
end Rows
end Go.Proofs.YtcodmedgkboohaaDoor
