/-
  NARROWER THAN 'FOR EVERY INPUT', by the rows' own cells (each row's printed sentence says how): LinkTells: laid · LinkGrows: laid · LinkPaths: laid · LinkTwice: laid · LinkSums: laid · LinkLow: laid.
  DERIVED. THE GIVEN ROWS OF THIS SEAT. 6 by the template 'for every input the law returns true; each argument reads behind the call as it read before'; 0 by the template 'total and deterministic' (their statements: YtbjojpgedcikiaaDoorTotals.lean).
  GIVEN WITH THE SEED: the statements are not yours to turn. If you find one false, say at which input.
  Laid BY PROGRAM, IN A SANDBOX (cutbox-rows.mjs): the forced cells as the released guide's own fill.sh prints them over the translation 33deedeacb7739c7… (all of the seat's roots in one cut). By AI agents, Wed Nov 11 2026. No macro, syntax, notation, axiom, sorry.
-/
import Derived.Test.YtbjojpgedcikiaaDoorChecked
import GoSem.Claim
import GoSem.ClaimJoined
import GoSem.ClaimMapViews
import Derived.JoinedTies
import Derived.KernelRfl
namespace Go.Proofs.YtbjojpgedcikiaaDoor
/- THE CELL 'sum', in the pinned program and in every row, IS THE sha256 OF THE DUMP (.gsa) THAT YtbjojpgedcikiaaDoorProg.lean LOADS. Nothing in Lean hashes anything: it is a label: what it is worth is what the hold of that sum in a sandbox is worth. -/
noncomputable def Tryd.pinned : Pinned := { name := "ytbjojpgedcikiaadoor", sum := "33deedeacb7739c77337404b3a408216f79a8758d561443c4dc71ead26162579", checked := Tryd.checked }
namespace Rows
def none {H : Type} : Left H := { results := [], args := [] }

/- WHAT THE LISTED PACKAGE-LEVEL VARIABLES READ AS WHEN THE CALL BEGINS. Each datum BY PROGRAM (the guide's laid-datum.mjs) off the statement by which the dump's own 'gosem.cut.vars' lays the variable. In a bare row this is a premise. The card (YtbjojpgedcikiaaDoorCards.lean) ties it to the program's text. -/
def laid_stepladder_sha_firstWords {H : Type} : DataW H := .agg [.lit (.int .u32 1779033703), .lit (.int .u32 3144134277), .lit (.int .u32 1013904242), .lit (.int .u32 2773480762), .lit (.int .u32 1359893119), .lit (.int .u32 2600822924), .lit (.int .u32 528734635), .lit (.int .u32 1541459225)]
def laid_stepladder_sha_roundNumbers {H : Type} : DataW H := .agg [.lit (.int .u32 1116352408), .lit (.int .u32 1899447441), .lit (.int .u32 3049323471), .lit (.int .u32 3921009573), .lit (.int .u32 961987163), .lit (.int .u32 1508970993), .lit (.int .u32 2453635748), .lit (.int .u32 2870763221), .lit (.int .u32 3624381080), .lit (.int .u32 310598401), .lit (.int .u32 607225278), .lit (.int .u32 1426881987), .lit (.int .u32 1925078388), .lit (.int .u32 2162078206), .lit (.int .u32 2614888103), .lit (.int .u32 3248222580), .lit (.int .u32 3835390401), .lit (.int .u32 4022224774), .lit (.int .u32 264347078), .lit (.int .u32 604807628), .lit (.int .u32 770255983), .lit (.int .u32 1249150122), .lit (.int .u32 1555081692), .lit (.int .u32 1996064986), .lit (.int .u32 2554220882), .lit (.int .u32 2821834349), .lit (.int .u32 2952996808), .lit (.int .u32 3210313671), .lit (.int .u32 3336571891), .lit (.int .u32 3584528711), .lit (.int .u32 113926993), .lit (.int .u32 338241895), .lit (.int .u32 666307205), .lit (.int .u32 773529912), .lit (.int .u32 1294757372), .lit (.int .u32 1396182291), .lit (.int .u32 1695183700), .lit (.int .u32 1986661051), .lit (.int .u32 2177026350), .lit (.int .u32 2456956037), .lit (.int .u32 2730485921), .lit (.int .u32 2820302411), .lit (.int .u32 3259730800), .lit (.int .u32 3345764771), .lit (.int .u32 3516065817), .lit (.int .u32 3600352804), .lit (.int .u32 4094571909), .lit (.int .u32 275423344), .lit (.int .u32 430227734), .lit (.int .u32 506948616), .lit (.int .u32 659060556), .lit (.int .u32 883997877), .lit (.int .u32 958139571), .lit (.int .u32 1322822218), .lit (.int .u32 1537002063), .lit (.int .u32 1747873779), .lit (.int .u32 1955562222), .lit (.int .u32 2024104815), .lit (.int .u32 2227730452), .lit (.int .u32 2361852424), .lit (.int .u32 2428436474), .lit (.int .u32 2756734187), .lit (.int .u32 3204031479), .lit (.int .u32 3329325298)]

/-- 'stepladderlaw07.LinkTells': WHATEVER THE INPUT: true; the input reads as it did. -/
def linkTellsSpec : ChangeSpec := { name := "linkTells", fn := fun _ => fun
  | [d1, d2, d3, d4, d5, d6] => { results := [.lit (.bool true)], args := [d1, d2, d3, d4, d5, d6] }
  | _ => none }
def linkTellsRow : OpenClaim := { program := "ytbjojpgedcikiaadoor", sum := "33deedeacb7739c77337404b3a408216f79a8758d561443c4dc71ead26162579", func := "stepladder/stepladderlaw07.LinkTells", spec := "linkTells", unfollowed := true, recurses := true, named := ["stepladder/sha.firstWords", "stepladder/sha.roundNumbers"], apart := false, laid := [("stepladder/sha.firstWords", laid_stepladder_sha_firstWords), ("stepladder/sha.roundNumbers", laid_stepladder_sha_roundNumbers)] }
def LinkTellsSaid : Prop := linkTellsRow.holds Tryd.pinned (OpenSpec.ofChange linkTellsSpec)

/-- ITS FALSE NEIGHBOUR: 'it returns false'. Refute it at one input. -/
def linkTellsWrong : ChangeSpec := { name := "linkTells", fn := fun _ => fun
  | [d1, d2, d3, d4, d5, d6] => { results := [.lit (.bool false)], args := [d1, d2, d3, d4, d5, d6] }
  | _ => none }
def LinkTellsWrongFalsely : Prop := linkTellsRow.holds Tryd.pinned (OpenSpec.ofChange linkTellsWrong)

/-- 'stepladderlaw07.LinkGrows': WHATEVER THE INPUT: true; the input reads as it did. -/
def linkGrowsSpec : ChangeSpec := { name := "linkGrows", fn := fun _ => fun
  | [d1, d2, d3, d4] => { results := [.lit (.bool true)], args := [d1, d2, d3, d4] }
  | _ => none }
def linkGrowsRow : OpenClaim := { program := "ytbjojpgedcikiaadoor", sum := "33deedeacb7739c77337404b3a408216f79a8758d561443c4dc71ead26162579", func := "stepladder/stepladderlaw07.LinkGrows", spec := "linkGrows", unfollowed := true, recurses := true, named := ["stepladder/sha.firstWords", "stepladder/sha.roundNumbers"], apart := false, laid := [("stepladder/sha.firstWords", laid_stepladder_sha_firstWords), ("stepladder/sha.roundNumbers", laid_stepladder_sha_roundNumbers)] }
def LinkGrowsSaid : Prop := linkGrowsRow.holds Tryd.pinned (OpenSpec.ofChange linkGrowsSpec)

/-- ITS FALSE NEIGHBOUR: 'it returns false'. Refute it at one input. -/
def linkGrowsWrong : ChangeSpec := { name := "linkGrows", fn := fun _ => fun
  | [d1, d2, d3, d4] => { results := [.lit (.bool false)], args := [d1, d2, d3, d4] }
  | _ => none }
def LinkGrowsWrongFalsely : Prop := linkGrowsRow.holds Tryd.pinned (OpenSpec.ofChange linkGrowsWrong)

/-- 'stepladderlaw07.LinkPaths': WHATEVER THE INPUT: true; the input reads as it did. -/
def linkPathsSpec : ChangeSpec := { name := "linkPaths", fn := fun _ => fun
  | [d1, d2, d3] => { results := [.lit (.bool true)], args := [d1, d2, d3] }
  | _ => none }
def linkPathsRow : OpenClaim := { program := "ytbjojpgedcikiaadoor", sum := "33deedeacb7739c77337404b3a408216f79a8758d561443c4dc71ead26162579", func := "stepladder/stepladderlaw07.LinkPaths", spec := "linkPaths", unfollowed := true, recurses := true, named := ["stepladder/sha.firstWords", "stepladder/sha.roundNumbers"], apart := false, laid := [("stepladder/sha.firstWords", laid_stepladder_sha_firstWords), ("stepladder/sha.roundNumbers", laid_stepladder_sha_roundNumbers)] }
def LinkPathsSaid : Prop := linkPathsRow.holds Tryd.pinned (OpenSpec.ofChange linkPathsSpec)

/-- ITS FALSE NEIGHBOUR: 'it returns false'. Refute it at one input. -/
def linkPathsWrong : ChangeSpec := { name := "linkPaths", fn := fun _ => fun
  | [d1, d2, d3] => { results := [.lit (.bool false)], args := [d1, d2, d3] }
  | _ => none }
def LinkPathsWrongFalsely : Prop := linkPathsRow.holds Tryd.pinned (OpenSpec.ofChange linkPathsWrong)

/-- 'stepladderlaw07.LinkTwice': WHATEVER THE INPUT: true; the input reads as it did. -/
def linkTwiceSpec : ChangeSpec := { name := "linkTwice", fn := fun _ => fun
  | [d1, d2, d3, d4, d5, d6] => { results := [.lit (.bool true)], args := [d1, d2, d3, d4, d5, d6] }
  | _ => none }
def linkTwiceRow : OpenClaim := { program := "ytbjojpgedcikiaadoor", sum := "33deedeacb7739c77337404b3a408216f79a8758d561443c4dc71ead26162579", func := "stepladder/stepladderlaw07.LinkTwice", spec := "linkTwice", unfollowed := true, recurses := true, named := ["stepladder/sha.firstWords", "stepladder/sha.roundNumbers"], apart := false, laid := [("stepladder/sha.firstWords", laid_stepladder_sha_firstWords), ("stepladder/sha.roundNumbers", laid_stepladder_sha_roundNumbers)] }
def LinkTwiceSaid : Prop := linkTwiceRow.holds Tryd.pinned (OpenSpec.ofChange linkTwiceSpec)

/-- ITS FALSE NEIGHBOUR: 'it returns false'. Refute it at one input. -/
def linkTwiceWrong : ChangeSpec := { name := "linkTwice", fn := fun _ => fun
  | [d1, d2, d3, d4, d5, d6] => { results := [.lit (.bool false)], args := [d1, d2, d3, d4, d5, d6] }
  | _ => none }
def LinkTwiceWrongFalsely : Prop := linkTwiceRow.holds Tryd.pinned (OpenSpec.ofChange linkTwiceWrong)

/-- 'stepladderlaw07.LinkSums': WHATEVER THE INPUT: true; the input reads as it did. -/
def linkSumsSpec : ChangeSpec := { name := "linkSums", fn := fun _ => fun
  | [d1, d2, d3, d4] => { results := [.lit (.bool true)], args := [d1, d2, d3, d4] }
  | _ => none }
def linkSumsRow : OpenClaim := { program := "ytbjojpgedcikiaadoor", sum := "33deedeacb7739c77337404b3a408216f79a8758d561443c4dc71ead26162579", func := "stepladder/stepladderlaw07.LinkSums", spec := "linkSums", unfollowed := true, recurses := true, named := ["stepladder/sha.firstWords", "stepladder/sha.roundNumbers"], apart := false, laid := [("stepladder/sha.firstWords", laid_stepladder_sha_firstWords), ("stepladder/sha.roundNumbers", laid_stepladder_sha_roundNumbers)] }
def LinkSumsSaid : Prop := linkSumsRow.holds Tryd.pinned (OpenSpec.ofChange linkSumsSpec)

/-- ITS FALSE NEIGHBOUR: 'it returns false'. Refute it at one input. -/
def linkSumsWrong : ChangeSpec := { name := "linkSums", fn := fun _ => fun
  | [d1, d2, d3, d4] => { results := [.lit (.bool false)], args := [d1, d2, d3, d4] }
  | _ => none }
def LinkSumsWrongFalsely : Prop := linkSumsRow.holds Tryd.pinned (OpenSpec.ofChange linkSumsWrong)

/-- 'stepladderlaw07.LinkLow': WHATEVER THE INPUT: true; the input reads as it did. -/
def linkLowSpec : ChangeSpec := { name := "linkLow", fn := fun _ => fun
  | [d1, d2, d3, d4] => { results := [.lit (.bool true)], args := [d1, d2, d3, d4] }
  | _ => none }
def linkLowRow : OpenClaim := { program := "ytbjojpgedcikiaadoor", sum := "33deedeacb7739c77337404b3a408216f79a8758d561443c4dc71ead26162579", func := "stepladder/stepladderlaw07.LinkLow", spec := "linkLow", unfollowed := true, recurses := true, named := ["stepladder/sha.firstWords", "stepladder/sha.roundNumbers"], apart := false, laid := [("stepladder/sha.firstWords", laid_stepladder_sha_firstWords), ("stepladder/sha.roundNumbers", laid_stepladder_sha_roundNumbers)] }
def LinkLowSaid : Prop := linkLowRow.holds Tryd.pinned (OpenSpec.ofChange linkLowSpec)

/-- ITS FALSE NEIGHBOUR: 'it returns false'. Refute it at one input. -/
def linkLowWrong : ChangeSpec := { name := "linkLow", fn := fun _ => fun
  | [d1, d2, d3, d4] => { results := [.lit (.bool false)], args := [d1, d2, d3, d4] }
  | _ => none }
def LinkLowWrongFalsely : Prop := linkLowRow.holds Tryd.pinned (OpenSpec.ofChange linkLowWrong)

/- THE SECOND FORM. 'bulk': how many values and letters a reading holds, each counted each time it is reached (what is shared counts as often as it is met; a slice's spare places count too). A statement '..UptoSaid' is the law's where the arguments, and the package variables that the reading takes, are together of bulk at most 1048576: NARROWER than '..Said'. Prove '..Said' where nothing that the law and all that it calls make is longer than what came in: it says more and counts as full. Else prove '..UptoSaid'. A law counts once. -/
mutual
def uptoBulk {H : Type} : DataW H → Nat
  | .lit (.string bytes) => bytes.length + 1
  | .lit _ => 1
  | .nil => 1
  | .ptr d => uptoBulk d + 1
  | .slice elems spare => uptoBulkAll elems + uptoBulkAll spare + 1
  | .agg parts => uptoBulkAll parts + 1
  | .iface _ d => uptoBulk d + 1
  | .map entries => uptoBulkEntries entries + 1
  | .held _ => 1
def uptoBulkAll {H : Type} : List (DataW H) → Nat
  | [] => 0
  | d :: r => uptoBulk d + uptoBulkAll r
def uptoBulkEntries {H : Type} : List (Lit × DataW H) → Nat
  | [] => 0
  | x :: r => uptoBulkEntry x + uptoBulkEntries r
def uptoBulkEntry {H : Type} : Lit × DataW H → Nat
  | (.string bytes, d) => bytes.length + uptoBulk d + 1
  | (_, d) => uptoBulk d + 1
 end
def uptoSmall : (H : Type) → List (DataW H) → Bool := fun _ ds => decide (uptoBulkAll ds ≤ 1048576)
def OpenSpec.upto (s : _root_.Go.ChangeSpec) : _root_.Go.OpenSpec := { _root_.Go.OpenSpec.ofChange s with cond := some uptoSmall }

/-- 'stepladderlaw07.LinkTells', WHERE WHAT IT READS IS OF BULK AT MOST 1048576: true; the input reads as it did. -/
def linkTellsUptoRow : OpenClaim := { program := "ytbjojpgedcikiaadoor", sum := "33deedeacb7739c77337404b3a408216f79a8758d561443c4dc71ead26162579", func := "stepladder/stepladderlaw07.LinkTells", spec := "linkTells", unfollowed := true, recurses := true, named := ["stepladder/sha.firstWords", "stepladder/sha.roundNumbers"], apart := false, laid := [("stepladder/sha.firstWords", laid_stepladder_sha_firstWords), ("stepladder/sha.roundNumbers", laid_stepladder_sha_roundNumbers)], narrowed := true }
def LinkTellsUptoSaid : Prop := linkTellsUptoRow.holds Tryd.pinned (OpenSpec.upto linkTellsSpec)

/-- 'stepladderlaw07.LinkGrows', WHERE WHAT IT READS IS OF BULK AT MOST 1048576: true; the input reads as it did. -/
def linkGrowsUptoRow : OpenClaim := { program := "ytbjojpgedcikiaadoor", sum := "33deedeacb7739c77337404b3a408216f79a8758d561443c4dc71ead26162579", func := "stepladder/stepladderlaw07.LinkGrows", spec := "linkGrows", unfollowed := true, recurses := true, named := ["stepladder/sha.firstWords", "stepladder/sha.roundNumbers"], apart := false, laid := [("stepladder/sha.firstWords", laid_stepladder_sha_firstWords), ("stepladder/sha.roundNumbers", laid_stepladder_sha_roundNumbers)], narrowed := true }
def LinkGrowsUptoSaid : Prop := linkGrowsUptoRow.holds Tryd.pinned (OpenSpec.upto linkGrowsSpec)

/-- 'stepladderlaw07.LinkPaths', WHERE WHAT IT READS IS OF BULK AT MOST 1048576: true; the input reads as it did. -/
def linkPathsUptoRow : OpenClaim := { program := "ytbjojpgedcikiaadoor", sum := "33deedeacb7739c77337404b3a408216f79a8758d561443c4dc71ead26162579", func := "stepladder/stepladderlaw07.LinkPaths", spec := "linkPaths", unfollowed := true, recurses := true, named := ["stepladder/sha.firstWords", "stepladder/sha.roundNumbers"], apart := false, laid := [("stepladder/sha.firstWords", laid_stepladder_sha_firstWords), ("stepladder/sha.roundNumbers", laid_stepladder_sha_roundNumbers)], narrowed := true }
def LinkPathsUptoSaid : Prop := linkPathsUptoRow.holds Tryd.pinned (OpenSpec.upto linkPathsSpec)

/-- 'stepladderlaw07.LinkTwice', WHERE WHAT IT READS IS OF BULK AT MOST 1048576: true; the input reads as it did. -/
def linkTwiceUptoRow : OpenClaim := { program := "ytbjojpgedcikiaadoor", sum := "33deedeacb7739c77337404b3a408216f79a8758d561443c4dc71ead26162579", func := "stepladder/stepladderlaw07.LinkTwice", spec := "linkTwice", unfollowed := true, recurses := true, named := ["stepladder/sha.firstWords", "stepladder/sha.roundNumbers"], apart := false, laid := [("stepladder/sha.firstWords", laid_stepladder_sha_firstWords), ("stepladder/sha.roundNumbers", laid_stepladder_sha_roundNumbers)], narrowed := true }
def LinkTwiceUptoSaid : Prop := linkTwiceUptoRow.holds Tryd.pinned (OpenSpec.upto linkTwiceSpec)

/-- 'stepladderlaw07.LinkSums', WHERE WHAT IT READS IS OF BULK AT MOST 1048576: true; the input reads as it did. -/
def linkSumsUptoRow : OpenClaim := { program := "ytbjojpgedcikiaadoor", sum := "33deedeacb7739c77337404b3a408216f79a8758d561443c4dc71ead26162579", func := "stepladder/stepladderlaw07.LinkSums", spec := "linkSums", unfollowed := true, recurses := true, named := ["stepladder/sha.firstWords", "stepladder/sha.roundNumbers"], apart := false, laid := [("stepladder/sha.firstWords", laid_stepladder_sha_firstWords), ("stepladder/sha.roundNumbers", laid_stepladder_sha_roundNumbers)], narrowed := true }
def LinkSumsUptoSaid : Prop := linkSumsUptoRow.holds Tryd.pinned (OpenSpec.upto linkSumsSpec)

/-- 'stepladderlaw07.LinkLow', WHERE WHAT IT READS IS OF BULK AT MOST 1048576: true; the input reads as it did. -/
def linkLowUptoRow : OpenClaim := { program := "ytbjojpgedcikiaadoor", sum := "33deedeacb7739c77337404b3a408216f79a8758d561443c4dc71ead26162579", func := "stepladder/stepladderlaw07.LinkLow", spec := "linkLow", unfollowed := true, recurses := true, named := ["stepladder/sha.firstWords", "stepladder/sha.roundNumbers"], apart := false, laid := [("stepladder/sha.firstWords", laid_stepladder_sha_firstWords), ("stepladder/sha.roundNumbers", laid_stepladder_sha_roundNumbers)], narrowed := true }
def LinkLowUptoSaid : Prop := linkLowUptoRow.holds Tryd.pinned (OpenSpec.upto linkLowSpec)

end Rows
end Go.Proofs.YtbjojpgedcikiaaDoor
