/-
  NARROWER THAN 'FOR EVERY INPUT', by the rows' own cells (each row's printed sentence says how): ChainTells: laid · ChainGrows: laid · ChainStands: laid · ChainLinks: laid · ChainSpoiled: laid · ChainPushes: laid · ChainFinds: laid.
  DERIVED. THE GIVEN ROWS OF THIS SEAT. 7 by the template 'for every input the law returns true; each argument reads behind the call as it read before'; 0 by the template 'total and deterministic' (their statements: YtojmeodoenkapaaGreatDoorTotals.lean).
  GIVEN WITH THE SEED: the statements are not yours to turn. If you find one false, say at which input.
  Laid BY PROGRAM, IN A SANDBOX (cutbox-rows.mjs): the forced cells as the released guide's own fill.sh prints them over the translation db0429514d7282eb… (all of the seat's roots in one cut). By AI agents, Wed Nov 11 2026. No macro, syntax, notation, axiom, sorry.
-/
import Derived.Test.YtojmeodoenkapaaGreatDoorChecked
import GoSem.Claim
import GoSem.ClaimJoined
import GoSem.ClaimMapViews
import Derived.JoinedTies
import Derived.KernelRfl
namespace Go.Proofs.YtojmeodoenkapaaGreatDoor
/- THE CELL 'sum', in the pinned program and in every row, IS THE sha256 OF THE DUMP (.gsa) THAT YtojmeodoenkapaaGreatDoorProg.lean LOADS. Nothing in Lean hashes anything: it is a label: what it is worth is what the hold of that sum in a sandbox is worth. -/
noncomputable def Tryz.pinned : Pinned := { name := "ytojmeodoenkapaagreatdoor", sum := "db0429514d7282eb59c7e90ba90a78f9c67e1e9071b7316c13bd53e7356120b8", checked := Tryz.checked }
namespace Rows
def none {H : Type} : Left H := { results := [], args := [] }

/- WHAT THE LISTED PACKAGE-LEVEL VARIABLES READ AS WHEN THE CALL BEGINS. Each datum BY PROGRAM (the guide's laid-datum.mjs) off the statement by which the dump's own 'gosem.cut.vars' lays the variable. In a bare row this is a premise. The card (YtojmeodoenkapaaGreatDoorCards.lean) ties it to the program's text. -/
def laid_stepladder_sha_firstWords {H : Type} : DataW H := .agg [.lit (.int .u32 1779033703), .lit (.int .u32 3144134277), .lit (.int .u32 1013904242), .lit (.int .u32 2773480762), .lit (.int .u32 1359893119), .lit (.int .u32 2600822924), .lit (.int .u32 528734635), .lit (.int .u32 1541459225)]
def laid_stepladder_sha_roundNumbers {H : Type} : DataW H := .agg [.lit (.int .u32 1116352408), .lit (.int .u32 1899447441), .lit (.int .u32 3049323471), .lit (.int .u32 3921009573), .lit (.int .u32 961987163), .lit (.int .u32 1508970993), .lit (.int .u32 2453635748), .lit (.int .u32 2870763221), .lit (.int .u32 3624381080), .lit (.int .u32 310598401), .lit (.int .u32 607225278), .lit (.int .u32 1426881987), .lit (.int .u32 1925078388), .lit (.int .u32 2162078206), .lit (.int .u32 2614888103), .lit (.int .u32 3248222580), .lit (.int .u32 3835390401), .lit (.int .u32 4022224774), .lit (.int .u32 264347078), .lit (.int .u32 604807628), .lit (.int .u32 770255983), .lit (.int .u32 1249150122), .lit (.int .u32 1555081692), .lit (.int .u32 1996064986), .lit (.int .u32 2554220882), .lit (.int .u32 2821834349), .lit (.int .u32 2952996808), .lit (.int .u32 3210313671), .lit (.int .u32 3336571891), .lit (.int .u32 3584528711), .lit (.int .u32 113926993), .lit (.int .u32 338241895), .lit (.int .u32 666307205), .lit (.int .u32 773529912), .lit (.int .u32 1294757372), .lit (.int .u32 1396182291), .lit (.int .u32 1695183700), .lit (.int .u32 1986661051), .lit (.int .u32 2177026350), .lit (.int .u32 2456956037), .lit (.int .u32 2730485921), .lit (.int .u32 2820302411), .lit (.int .u32 3259730800), .lit (.int .u32 3345764771), .lit (.int .u32 3516065817), .lit (.int .u32 3600352804), .lit (.int .u32 4094571909), .lit (.int .u32 275423344), .lit (.int .u32 430227734), .lit (.int .u32 506948616), .lit (.int .u32 659060556), .lit (.int .u32 883997877), .lit (.int .u32 958139571), .lit (.int .u32 1322822218), .lit (.int .u32 1537002063), .lit (.int .u32 1747873779), .lit (.int .u32 1955562222), .lit (.int .u32 2024104815), .lit (.int .u32 2227730452), .lit (.int .u32 2361852424), .lit (.int .u32 2428436474), .lit (.int .u32 2756734187), .lit (.int .u32 3204031479), .lit (.int .u32 3329325298)]

/-- 'stepladderlaw12.ChainTells': WHATEVER THE INPUT: true; the input reads as it did. -/
def chainTellsSpec : ChangeSpec := { name := "chainTells", fn := fun _ => fun
  | [d1, d2, d3, d4, d5, d6] => { results := [.lit (.bool true)], args := [d1, d2, d3, d4, d5, d6] }
  | _ => none }
def chainTellsRow : OpenClaim := { program := "ytojmeodoenkapaagreatdoor", sum := "db0429514d7282eb59c7e90ba90a78f9c67e1e9071b7316c13bd53e7356120b8", func := "stepladder/stepladderlaw12.ChainTells", spec := "chainTells", inPlace := ["math/bits.Add64", "math/bits.Sub64"], unfollowed := true, recurses := true, named := ["stepladder/sha.firstWords", "stepladder/sha.roundNumbers"], apart := false, laid := [("stepladder/sha.firstWords", laid_stepladder_sha_firstWords), ("stepladder/sha.roundNumbers", laid_stepladder_sha_roundNumbers)] }
def ChainTellsSaid : Prop := chainTellsRow.holds Tryz.pinned (OpenSpec.ofChange chainTellsSpec)

/-- ITS FALSE NEIGHBOUR: 'it returns false'. Refute it at one input. -/
def chainTellsWrong : ChangeSpec := { name := "chainTells", fn := fun _ => fun
  | [d1, d2, d3, d4, d5, d6] => { results := [.lit (.bool false)], args := [d1, d2, d3, d4, d5, d6] }
  | _ => none }
def ChainTellsWrongFalsely : Prop := chainTellsRow.holds Tryz.pinned (OpenSpec.ofChange chainTellsWrong)

/-- 'stepladderlaw12.ChainGrows': WHATEVER THE INPUT: true; the input reads as it did. -/
def chainGrowsSpec : ChangeSpec := { name := "chainGrows", fn := fun _ => fun
  | [d1, d2, d3, d4] => { results := [.lit (.bool true)], args := [d1, d2, d3, d4] }
  | _ => none }
def chainGrowsRow : OpenClaim := { program := "ytojmeodoenkapaagreatdoor", sum := "db0429514d7282eb59c7e90ba90a78f9c67e1e9071b7316c13bd53e7356120b8", func := "stepladder/stepladderlaw12.ChainGrows", spec := "chainGrows", inPlace := ["math/bits.Add64", "math/bits.Sub64"], unfollowed := true, recurses := true, named := ["stepladder/sha.firstWords", "stepladder/sha.roundNumbers"], apart := false, laid := [("stepladder/sha.firstWords", laid_stepladder_sha_firstWords), ("stepladder/sha.roundNumbers", laid_stepladder_sha_roundNumbers)] }
def ChainGrowsSaid : Prop := chainGrowsRow.holds Tryz.pinned (OpenSpec.ofChange chainGrowsSpec)

/-- ITS FALSE NEIGHBOUR: 'it returns false'. Refute it at one input. -/
def chainGrowsWrong : ChangeSpec := { name := "chainGrows", fn := fun _ => fun
  | [d1, d2, d3, d4] => { results := [.lit (.bool false)], args := [d1, d2, d3, d4] }
  | _ => none }
def ChainGrowsWrongFalsely : Prop := chainGrowsRow.holds Tryz.pinned (OpenSpec.ofChange chainGrowsWrong)

/-- 'stepladderlaw12.ChainStands': WHATEVER THE INPUT: true; the input reads as it did. -/
def chainStandsSpec : ChangeSpec := { name := "chainStands", fn := fun _ => fun
  | [d1, d2] => { results := [.lit (.bool true)], args := [d1, d2] }
  | _ => none }
def chainStandsRow : OpenClaim := { program := "ytojmeodoenkapaagreatdoor", sum := "db0429514d7282eb59c7e90ba90a78f9c67e1e9071b7316c13bd53e7356120b8", func := "stepladder/stepladderlaw12.ChainStands", spec := "chainStands", inPlace := ["math/bits.Add64", "math/bits.Sub64"], unfollowed := true, recurses := true, named := ["stepladder/sha.firstWords", "stepladder/sha.roundNumbers"], apart := false, laid := [("stepladder/sha.firstWords", laid_stepladder_sha_firstWords), ("stepladder/sha.roundNumbers", laid_stepladder_sha_roundNumbers)] }
def ChainStandsSaid : Prop := chainStandsRow.holds Tryz.pinned (OpenSpec.ofChange chainStandsSpec)

/-- ITS FALSE NEIGHBOUR: 'it returns false'. Refute it at one input. -/
def chainStandsWrong : ChangeSpec := { name := "chainStands", fn := fun _ => fun
  | [d1, d2] => { results := [.lit (.bool false)], args := [d1, d2] }
  | _ => none }
def ChainStandsWrongFalsely : Prop := chainStandsRow.holds Tryz.pinned (OpenSpec.ofChange chainStandsWrong)

/-- 'stepladderlaw12.ChainLinks': WHATEVER THE INPUT: true; the input reads as it did. -/
def chainLinksSpec : ChangeSpec := { name := "chainLinks", fn := fun _ => fun
  | [d1, d2, d3] => { results := [.lit (.bool true)], args := [d1, d2, d3] }
  | _ => none }
def chainLinksRow : OpenClaim := { program := "ytojmeodoenkapaagreatdoor", sum := "db0429514d7282eb59c7e90ba90a78f9c67e1e9071b7316c13bd53e7356120b8", func := "stepladder/stepladderlaw12.ChainLinks", spec := "chainLinks", inPlace := ["math/bits.Add64", "math/bits.Sub64"], unfollowed := true, recurses := true, named := ["stepladder/sha.firstWords", "stepladder/sha.roundNumbers"], apart := false, laid := [("stepladder/sha.firstWords", laid_stepladder_sha_firstWords), ("stepladder/sha.roundNumbers", laid_stepladder_sha_roundNumbers)] }
def ChainLinksSaid : Prop := chainLinksRow.holds Tryz.pinned (OpenSpec.ofChange chainLinksSpec)

/-- ITS FALSE NEIGHBOUR: 'it returns false'. Refute it at one input. -/
def chainLinksWrong : ChangeSpec := { name := "chainLinks", fn := fun _ => fun
  | [d1, d2, d3] => { results := [.lit (.bool false)], args := [d1, d2, d3] }
  | _ => none }
def ChainLinksWrongFalsely : Prop := chainLinksRow.holds Tryz.pinned (OpenSpec.ofChange chainLinksWrong)

/-- 'stepladderlaw12.ChainSpoiled': WHATEVER THE INPUT: true; the input reads as it did. -/
def chainSpoiledSpec : ChangeSpec := { name := "chainSpoiled", fn := fun _ => fun
  | [d1, d2, d3] => { results := [.lit (.bool true)], args := [d1, d2, d3] }
  | _ => none }
def chainSpoiledRow : OpenClaim := { program := "ytojmeodoenkapaagreatdoor", sum := "db0429514d7282eb59c7e90ba90a78f9c67e1e9071b7316c13bd53e7356120b8", func := "stepladder/stepladderlaw12.ChainSpoiled", spec := "chainSpoiled", inPlace := ["math/bits.Add64", "math/bits.Sub64"], unfollowed := true, recurses := true, named := ["stepladder/sha.firstWords", "stepladder/sha.roundNumbers"], apart := false, laid := [("stepladder/sha.firstWords", laid_stepladder_sha_firstWords), ("stepladder/sha.roundNumbers", laid_stepladder_sha_roundNumbers)] }
def ChainSpoiledSaid : Prop := chainSpoiledRow.holds Tryz.pinned (OpenSpec.ofChange chainSpoiledSpec)

/-- ITS FALSE NEIGHBOUR: 'it returns false'. Refute it at one input. -/
def chainSpoiledWrong : ChangeSpec := { name := "chainSpoiled", fn := fun _ => fun
  | [d1, d2, d3] => { results := [.lit (.bool false)], args := [d1, d2, d3] }
  | _ => none }
def ChainSpoiledWrongFalsely : Prop := chainSpoiledRow.holds Tryz.pinned (OpenSpec.ofChange chainSpoiledWrong)

/-- 'stepladderlaw12.ChainPushes': WHATEVER THE INPUT: true; the input reads as it did. -/
def chainPushesSpec : ChangeSpec := { name := "chainPushes", fn := fun _ => fun
  | [d1, d2] => { results := [.lit (.bool true)], args := [d1, d2] }
  | _ => none }
def chainPushesRow : OpenClaim := { program := "ytojmeodoenkapaagreatdoor", sum := "db0429514d7282eb59c7e90ba90a78f9c67e1e9071b7316c13bd53e7356120b8", func := "stepladder/stepladderlaw12.ChainPushes", spec := "chainPushes", inPlace := ["math/bits.Add64", "math/bits.Sub64"], unfollowed := true, recurses := true, named := ["stepladder/sha.firstWords", "stepladder/sha.roundNumbers"], apart := false, laid := [("stepladder/sha.firstWords", laid_stepladder_sha_firstWords), ("stepladder/sha.roundNumbers", laid_stepladder_sha_roundNumbers)] }
def ChainPushesSaid : Prop := chainPushesRow.holds Tryz.pinned (OpenSpec.ofChange chainPushesSpec)

/-- ITS FALSE NEIGHBOUR: 'it returns false'. Refute it at one input. -/
def chainPushesWrong : ChangeSpec := { name := "chainPushes", fn := fun _ => fun
  | [d1, d2] => { results := [.lit (.bool false)], args := [d1, d2] }
  | _ => none }
def ChainPushesWrongFalsely : Prop := chainPushesRow.holds Tryz.pinned (OpenSpec.ofChange chainPushesWrong)

/-- 'stepladderlaw12.ChainFinds': WHATEVER THE INPUT: true; the input reads as it did. -/
def chainFindsSpec : ChangeSpec := { name := "chainFinds", fn := fun _ => fun
  | [d1, d2, d3] => { results := [.lit (.bool true)], args := [d1, d2, d3] }
  | _ => none }
def chainFindsRow : OpenClaim := { program := "ytojmeodoenkapaagreatdoor", sum := "db0429514d7282eb59c7e90ba90a78f9c67e1e9071b7316c13bd53e7356120b8", func := "stepladder/stepladderlaw12.ChainFinds", spec := "chainFinds", inPlace := ["math/bits.Add64", "math/bits.Sub64"], unfollowed := true, recurses := true, named := ["stepladder/sha.firstWords", "stepladder/sha.roundNumbers"], apart := false, laid := [("stepladder/sha.firstWords", laid_stepladder_sha_firstWords), ("stepladder/sha.roundNumbers", laid_stepladder_sha_roundNumbers)] }
def ChainFindsSaid : Prop := chainFindsRow.holds Tryz.pinned (OpenSpec.ofChange chainFindsSpec)

/-- ITS FALSE NEIGHBOUR: 'it returns false'. Refute it at one input. -/
def chainFindsWrong : ChangeSpec := { name := "chainFinds", fn := fun _ => fun
  | [d1, d2, d3] => { results := [.lit (.bool false)], args := [d1, d2, d3] }
  | _ => none }
def ChainFindsWrongFalsely : Prop := chainFindsRow.holds Tryz.pinned (OpenSpec.ofChange chainFindsWrong)

/- THE SECOND FORM. 'bulk': how many values and letters a reading holds, each counted each time it is reached (what is shared counts as often as it is met; a slice's spare places count too). A statement '..UptoSaid' is the law's where the arguments, and the package variables that the reading takes, are together of bulk at most 1048576: NARROWER than '..Said'. Prove '..Said' where nothing that the law and all that it calls make is longer than what came in: it says more and counts as full. Else prove '..UptoSaid'. A law counts once. -/
mutual
def uptoBulk {H : Type} : DataW H → Nat
  | .lit (.string bytes) => bytes.length + 1
  | .lit _ => 1
  | .nil => 1
  | .ptr d => uptoBulk d + 1
  | .slice elems spare => uptoBulkAll elems + uptoBulkAll spare + 1
  | .agg parts => uptoBulkAll parts + 1
  | .iface _ d => uptoBulk d + 1
  | .map entries => uptoBulkEntries entries + 1
  | .held _ => 1
def uptoBulkAll {H : Type} : List (DataW H) → Nat
  | [] => 0
  | d :: r => uptoBulk d + uptoBulkAll r
def uptoBulkEntries {H : Type} : List (Lit × DataW H) → Nat
  | [] => 0
  | x :: r => uptoBulkEntry x + uptoBulkEntries r
def uptoBulkEntry {H : Type} : Lit × DataW H → Nat
  | (.string bytes, d) => bytes.length + uptoBulk d + 1
  | (_, d) => uptoBulk d + 1
 end
def uptoSmall : (H : Type) → List (DataW H) → Bool := fun _ ds => decide (uptoBulkAll ds ≤ 1048576)
def OpenSpec.upto (s : _root_.Go.ChangeSpec) : _root_.Go.OpenSpec := { _root_.Go.OpenSpec.ofChange s with cond := some uptoSmall }

/-- 'stepladderlaw12.ChainTells', WHERE WHAT IT READS IS OF BULK AT MOST 1048576: true; the input reads as it did. -/
def chainTellsUptoRow : OpenClaim := { program := "ytojmeodoenkapaagreatdoor", sum := "db0429514d7282eb59c7e90ba90a78f9c67e1e9071b7316c13bd53e7356120b8", func := "stepladder/stepladderlaw12.ChainTells", spec := "chainTells", inPlace := ["math/bits.Add64", "math/bits.Sub64"], unfollowed := true, recurses := true, named := ["stepladder/sha.firstWords", "stepladder/sha.roundNumbers"], apart := false, laid := [("stepladder/sha.firstWords", laid_stepladder_sha_firstWords), ("stepladder/sha.roundNumbers", laid_stepladder_sha_roundNumbers)], narrowed := true }
def ChainTellsUptoSaid : Prop := chainTellsUptoRow.holds Tryz.pinned (OpenSpec.upto chainTellsSpec)

/-- 'stepladderlaw12.ChainGrows', WHERE WHAT IT READS IS OF BULK AT MOST 1048576: true; the input reads as it did. -/
def chainGrowsUptoRow : OpenClaim := { program := "ytojmeodoenkapaagreatdoor", sum := "db0429514d7282eb59c7e90ba90a78f9c67e1e9071b7316c13bd53e7356120b8", func := "stepladder/stepladderlaw12.ChainGrows", spec := "chainGrows", inPlace := ["math/bits.Add64", "math/bits.Sub64"], unfollowed := true, recurses := true, named := ["stepladder/sha.firstWords", "stepladder/sha.roundNumbers"], apart := false, laid := [("stepladder/sha.firstWords", laid_stepladder_sha_firstWords), ("stepladder/sha.roundNumbers", laid_stepladder_sha_roundNumbers)], narrowed := true }
def ChainGrowsUptoSaid : Prop := chainGrowsUptoRow.holds Tryz.pinned (OpenSpec.upto chainGrowsSpec)

/-- 'stepladderlaw12.ChainStands', WHERE WHAT IT READS IS OF BULK AT MOST 1048576: true; the input reads as it did. -/
def chainStandsUptoRow : OpenClaim := { program := "ytojmeodoenkapaagreatdoor", sum := "db0429514d7282eb59c7e90ba90a78f9c67e1e9071b7316c13bd53e7356120b8", func := "stepladder/stepladderlaw12.ChainStands", spec := "chainStands", inPlace := ["math/bits.Add64", "math/bits.Sub64"], unfollowed := true, recurses := true, named := ["stepladder/sha.firstWords", "stepladder/sha.roundNumbers"], apart := false, laid := [("stepladder/sha.firstWords", laid_stepladder_sha_firstWords), ("stepladder/sha.roundNumbers", laid_stepladder_sha_roundNumbers)], narrowed := true }
def ChainStandsUptoSaid : Prop := chainStandsUptoRow.holds Tryz.pinned (OpenSpec.upto chainStandsSpec)

/-- 'stepladderlaw12.ChainLinks', WHERE WHAT IT READS IS OF BULK AT MOST 1048576: true; the input reads as it did. -/
def chainLinksUptoRow : OpenClaim := { program := "ytojmeodoenkapaagreatdoor", sum := "db0429514d7282eb59c7e90ba90a78f9c67e1e9071b7316c13bd53e7356120b8", func := "stepladder/stepladderlaw12.ChainLinks", spec := "chainLinks", inPlace := ["math/bits.Add64", "math/bits.Sub64"], unfollowed := true, recurses := true, named := ["stepladder/sha.firstWords", "stepladder/sha.roundNumbers"], apart := false, laid := [("stepladder/sha.firstWords", laid_stepladder_sha_firstWords), ("stepladder/sha.roundNumbers", laid_stepladder_sha_roundNumbers)], narrowed := true }
def ChainLinksUptoSaid : Prop := chainLinksUptoRow.holds Tryz.pinned (OpenSpec.upto chainLinksSpec)

/-- 'stepladderlaw12.ChainSpoiled', WHERE WHAT IT READS IS OF BULK AT MOST 1048576: true; the input reads as it did. -/
def chainSpoiledUptoRow : OpenClaim := { program := "ytojmeodoenkapaagreatdoor", sum := "db0429514d7282eb59c7e90ba90a78f9c67e1e9071b7316c13bd53e7356120b8", func := "stepladder/stepladderlaw12.ChainSpoiled", spec := "chainSpoiled", inPlace := ["math/bits.Add64", "math/bits.Sub64"], unfollowed := true, recurses := true, named := ["stepladder/sha.firstWords", "stepladder/sha.roundNumbers"], apart := false, laid := [("stepladder/sha.firstWords", laid_stepladder_sha_firstWords), ("stepladder/sha.roundNumbers", laid_stepladder_sha_roundNumbers)], narrowed := true }
def ChainSpoiledUptoSaid : Prop := chainSpoiledUptoRow.holds Tryz.pinned (OpenSpec.upto chainSpoiledSpec)

/-- 'stepladderlaw12.ChainPushes', WHERE WHAT IT READS IS OF BULK AT MOST 1048576: true; the input reads as it did. -/
def chainPushesUptoRow : OpenClaim := { program := "ytojmeodoenkapaagreatdoor", sum := "db0429514d7282eb59c7e90ba90a78f9c67e1e9071b7316c13bd53e7356120b8", func := "stepladder/stepladderlaw12.ChainPushes", spec := "chainPushes", inPlace := ["math/bits.Add64", "math/bits.Sub64"], unfollowed := true, recurses := true, named := ["stepladder/sha.firstWords", "stepladder/sha.roundNumbers"], apart := false, laid := [("stepladder/sha.firstWords", laid_stepladder_sha_firstWords), ("stepladder/sha.roundNumbers", laid_stepladder_sha_roundNumbers)], narrowed := true }
def ChainPushesUptoSaid : Prop := chainPushesUptoRow.holds Tryz.pinned (OpenSpec.upto chainPushesSpec)

/-- 'stepladderlaw12.ChainFinds', WHERE WHAT IT READS IS OF BULK AT MOST 1048576: true; the input reads as it did. -/
def chainFindsUptoRow : OpenClaim := { program := "ytojmeodoenkapaagreatdoor", sum := "db0429514d7282eb59c7e90ba90a78f9c67e1e9071b7316c13bd53e7356120b8", func := "stepladder/stepladderlaw12.ChainFinds", spec := "chainFinds", inPlace := ["math/bits.Add64", "math/bits.Sub64"], unfollowed := true, recurses := true, named := ["stepladder/sha.firstWords", "stepladder/sha.roundNumbers"], apart := false, laid := [("stepladder/sha.firstWords", laid_stepladder_sha_firstWords), ("stepladder/sha.roundNumbers", laid_stepladder_sha_roundNumbers)], narrowed := true }
def ChainFindsUptoSaid : Prop := chainFindsUptoRow.holds Tryz.pinned (OpenSpec.upto chainFindsSpec)

end Rows
end Go.Proofs.YtojmeodoenkapaaGreatDoor
