/-
  NARROWER THAN 'FOR EVERY INPUT', by the rows' own cells (each row's printed sentence says how): BlockTells: laid · BlockMines: laid · BlockPushes: laid · BlockOther: laid · BlockFirst: laid · BlockNext: laid · BlockTwice: laid.
  DERIVED. THE GIVEN ROWS OF THIS SEAT. 7 by the template 'for every input the law returns true; each argument reads behind the call as it read before'; 0 by the template 'total and deterministic' (their statements: YtpanpohdnbgdpaaGreatDoorTotals.lean).
  GIVEN WITH THE SEED: the statements are not yours to turn. If you find one false, say at which input.
  Laid BY PROGRAM, IN A SANDBOX (cutbox-rows.mjs): the forced cells as the released guide's own fill.sh prints them over the translation c063d6fd76743386… (all of the seat's roots in one cut). By AI agents, Wed Nov 11 2026. No macro, syntax, notation, axiom, sorry.
-/
import Derived.Test.YtpanpohdnbgdpaaGreatDoorChecked
import GoSem.Claim
import GoSem.ClaimJoined
import GoSem.ClaimMapViews
import Derived.JoinedTies
import Derived.KernelRfl
namespace Go.Proofs.YtpanpohdnbgdpaaGreatDoor
/- THE CELL 'sum', in the pinned program and in every row, IS THE sha256 OF THE DUMP (.gsa) THAT YtpanpohdnbgdpaaGreatDoorProg.lean LOADS. Nothing in Lean hashes anything: it is a label: what it is worth is what the hold of that sum in a sandbox is worth. -/
noncomputable def Tryz.pinned : Pinned := { name := "ytpanpohdnbgdpaagreatdoor", sum := "c063d6fd7674338609c6f82657ef1b40a47bbf2a387894245ec05e16c579584d", checked := Tryz.checked }
namespace Rows
def none {H : Type} : Left H := { results := [], args := [] }

/- WHAT THE LISTED PACKAGE-LEVEL VARIABLES READ AS WHEN THE CALL BEGINS. Each datum BY PROGRAM (the guide's laid-datum.mjs) off the statement by which the dump's own 'gosem.cut.vars' lays the variable. In a bare row this is a premise. The card (YtpanpohdnbgdpaaGreatDoorCards.lean) ties it to the program's text. -/
def laid_stepladder_sha_firstWords {H : Type} : DataW H := .agg [.lit (.int .u32 1779033703), .lit (.int .u32 3144134277), .lit (.int .u32 1013904242), .lit (.int .u32 2773480762), .lit (.int .u32 1359893119), .lit (.int .u32 2600822924), .lit (.int .u32 528734635), .lit (.int .u32 1541459225)]
def laid_stepladder_sha_roundNumbers {H : Type} : DataW H := .agg [.lit (.int .u32 1116352408), .lit (.int .u32 1899447441), .lit (.int .u32 3049323471), .lit (.int .u32 3921009573), .lit (.int .u32 961987163), .lit (.int .u32 1508970993), .lit (.int .u32 2453635748), .lit (.int .u32 2870763221), .lit (.int .u32 3624381080), .lit (.int .u32 310598401), .lit (.int .u32 607225278), .lit (.int .u32 1426881987), .lit (.int .u32 1925078388), .lit (.int .u32 2162078206), .lit (.int .u32 2614888103), .lit (.int .u32 3248222580), .lit (.int .u32 3835390401), .lit (.int .u32 4022224774), .lit (.int .u32 264347078), .lit (.int .u32 604807628), .lit (.int .u32 770255983), .lit (.int .u32 1249150122), .lit (.int .u32 1555081692), .lit (.int .u32 1996064986), .lit (.int .u32 2554220882), .lit (.int .u32 2821834349), .lit (.int .u32 2952996808), .lit (.int .u32 3210313671), .lit (.int .u32 3336571891), .lit (.int .u32 3584528711), .lit (.int .u32 113926993), .lit (.int .u32 338241895), .lit (.int .u32 666307205), .lit (.int .u32 773529912), .lit (.int .u32 1294757372), .lit (.int .u32 1396182291), .lit (.int .u32 1695183700), .lit (.int .u32 1986661051), .lit (.int .u32 2177026350), .lit (.int .u32 2456956037), .lit (.int .u32 2730485921), .lit (.int .u32 2820302411), .lit (.int .u32 3259730800), .lit (.int .u32 3345764771), .lit (.int .u32 3516065817), .lit (.int .u32 3600352804), .lit (.int .u32 4094571909), .lit (.int .u32 275423344), .lit (.int .u32 430227734), .lit (.int .u32 506948616), .lit (.int .u32 659060556), .lit (.int .u32 883997877), .lit (.int .u32 958139571), .lit (.int .u32 1322822218), .lit (.int .u32 1537002063), .lit (.int .u32 1747873779), .lit (.int .u32 1955562222), .lit (.int .u32 2024104815), .lit (.int .u32 2227730452), .lit (.int .u32 2361852424), .lit (.int .u32 2428436474), .lit (.int .u32 2756734187), .lit (.int .u32 3204031479), .lit (.int .u32 3329325298)]

/-- 'stepladderlaw11.BlockTells': WHATEVER THE INPUT: true; the input reads as it did. -/
def blockTellsSpec : ChangeSpec := { name := "blockTells", fn := fun _ => fun
  | [d1, d2, d3, d4, d5, d6] => { results := [.lit (.bool true)], args := [d1, d2, d3, d4, d5, d6] }
  | _ => none }
def blockTellsRow : OpenClaim := { program := "ytpanpohdnbgdpaagreatdoor", sum := "c063d6fd7674338609c6f82657ef1b40a47bbf2a387894245ec05e16c579584d", func := "stepladder/stepladderlaw11.BlockTells", spec := "blockTells", inPlace := ["math/bits.Add64", "math/bits.Sub64"], unfollowed := true, recurses := true, named := ["stepladder/sha.firstWords", "stepladder/sha.roundNumbers"], apart := false, laid := [("stepladder/sha.firstWords", laid_stepladder_sha_firstWords), ("stepladder/sha.roundNumbers", laid_stepladder_sha_roundNumbers)] }
def BlockTellsSaid : Prop := blockTellsRow.holds Tryz.pinned (OpenSpec.ofChange blockTellsSpec)

/-- ITS FALSE NEIGHBOUR: 'it returns false'. Refute it at one input. -/
def blockTellsWrong : ChangeSpec := { name := "blockTells", fn := fun _ => fun
  | [d1, d2, d3, d4, d5, d6] => { results := [.lit (.bool false)], args := [d1, d2, d3, d4, d5, d6] }
  | _ => none }
def BlockTellsWrongFalsely : Prop := blockTellsRow.holds Tryz.pinned (OpenSpec.ofChange blockTellsWrong)

/-- 'stepladderlaw11.BlockMines': WHATEVER THE INPUT: true; the input reads as it did. -/
def blockMinesSpec : ChangeSpec := { name := "blockMines", fn := fun _ => fun
  | [d1, d2, d3, d4] => { results := [.lit (.bool true)], args := [d1, d2, d3, d4] }
  | _ => none }
def blockMinesRow : OpenClaim := { program := "ytpanpohdnbgdpaagreatdoor", sum := "c063d6fd7674338609c6f82657ef1b40a47bbf2a387894245ec05e16c579584d", func := "stepladder/stepladderlaw11.BlockMines", spec := "blockMines", inPlace := ["math/bits.Add64", "math/bits.Sub64"], unfollowed := true, recurses := true, named := ["stepladder/sha.firstWords", "stepladder/sha.roundNumbers"], apart := false, laid := [("stepladder/sha.firstWords", laid_stepladder_sha_firstWords), ("stepladder/sha.roundNumbers", laid_stepladder_sha_roundNumbers)] }
def BlockMinesSaid : Prop := blockMinesRow.holds Tryz.pinned (OpenSpec.ofChange blockMinesSpec)

/-- ITS FALSE NEIGHBOUR: 'it returns false'. Refute it at one input. -/
def blockMinesWrong : ChangeSpec := { name := "blockMines", fn := fun _ => fun
  | [d1, d2, d3, d4] => { results := [.lit (.bool false)], args := [d1, d2, d3, d4] }
  | _ => none }
def BlockMinesWrongFalsely : Prop := blockMinesRow.holds Tryz.pinned (OpenSpec.ofChange blockMinesWrong)

/-- 'stepladderlaw11.BlockPushes': WHATEVER THE INPUT: true; the input reads as it did. -/
def blockPushesSpec : ChangeSpec := { name := "blockPushes", fn := fun _ => fun
  | [d1, d2, d3] => { results := [.lit (.bool true)], args := [d1, d2, d3] }
  | _ => none }
def blockPushesRow : OpenClaim := { program := "ytpanpohdnbgdpaagreatdoor", sum := "c063d6fd7674338609c6f82657ef1b40a47bbf2a387894245ec05e16c579584d", func := "stepladder/stepladderlaw11.BlockPushes", spec := "blockPushes", inPlace := ["math/bits.Add64", "math/bits.Sub64"], unfollowed := true, recurses := true, named := ["stepladder/sha.firstWords", "stepladder/sha.roundNumbers"], apart := false, laid := [("stepladder/sha.firstWords", laid_stepladder_sha_firstWords), ("stepladder/sha.roundNumbers", laid_stepladder_sha_roundNumbers)] }
def BlockPushesSaid : Prop := blockPushesRow.holds Tryz.pinned (OpenSpec.ofChange blockPushesSpec)

/-- ITS FALSE NEIGHBOUR: 'it returns false'. Refute it at one input. -/
def blockPushesWrong : ChangeSpec := { name := "blockPushes", fn := fun _ => fun
  | [d1, d2, d3] => { results := [.lit (.bool false)], args := [d1, d2, d3] }
  | _ => none }
def BlockPushesWrongFalsely : Prop := blockPushesRow.holds Tryz.pinned (OpenSpec.ofChange blockPushesWrong)

/-- 'stepladderlaw11.BlockOther': WHATEVER THE INPUT: true; the input reads as it did. -/
def blockOtherSpec : ChangeSpec := { name := "blockOther", fn := fun _ => fun
  | [d1, d2, d3, d4] => { results := [.lit (.bool true)], args := [d1, d2, d3, d4] }
  | _ => none }
def blockOtherRow : OpenClaim := { program := "ytpanpohdnbgdpaagreatdoor", sum := "c063d6fd7674338609c6f82657ef1b40a47bbf2a387894245ec05e16c579584d", func := "stepladder/stepladderlaw11.BlockOther", spec := "blockOther", inPlace := ["math/bits.Add64", "math/bits.Sub64"], unfollowed := true, recurses := true, named := ["stepladder/sha.firstWords", "stepladder/sha.roundNumbers"], apart := false, laid := [("stepladder/sha.firstWords", laid_stepladder_sha_firstWords), ("stepladder/sha.roundNumbers", laid_stepladder_sha_roundNumbers)] }
def BlockOtherSaid : Prop := blockOtherRow.holds Tryz.pinned (OpenSpec.ofChange blockOtherSpec)

/-- ITS FALSE NEIGHBOUR: 'it returns false'. Refute it at one input. -/
def blockOtherWrong : ChangeSpec := { name := "blockOther", fn := fun _ => fun
  | [d1, d2, d3, d4] => { results := [.lit (.bool false)], args := [d1, d2, d3, d4] }
  | _ => none }
def BlockOtherWrongFalsely : Prop := blockOtherRow.holds Tryz.pinned (OpenSpec.ofChange blockOtherWrong)

/-- 'stepladderlaw11.BlockFirst': WHATEVER THE INPUT: true; the input reads as it did. -/
def blockFirstSpec : ChangeSpec := { name := "blockFirst", fn := fun _ => fun
  | [d1, d2] => { results := [.lit (.bool true)], args := [d1, d2] }
  | _ => none }
def blockFirstRow : OpenClaim := { program := "ytpanpohdnbgdpaagreatdoor", sum := "c063d6fd7674338609c6f82657ef1b40a47bbf2a387894245ec05e16c579584d", func := "stepladder/stepladderlaw11.BlockFirst", spec := "blockFirst", inPlace := ["math/bits.Add64", "math/bits.Sub64"], unfollowed := true, recurses := true, named := ["stepladder/sha.firstWords", "stepladder/sha.roundNumbers"], apart := false, laid := [("stepladder/sha.firstWords", laid_stepladder_sha_firstWords), ("stepladder/sha.roundNumbers", laid_stepladder_sha_roundNumbers)] }
def BlockFirstSaid : Prop := blockFirstRow.holds Tryz.pinned (OpenSpec.ofChange blockFirstSpec)

/-- ITS FALSE NEIGHBOUR: 'it returns false'. Refute it at one input. -/
def blockFirstWrong : ChangeSpec := { name := "blockFirst", fn := fun _ => fun
  | [d1, d2] => { results := [.lit (.bool false)], args := [d1, d2] }
  | _ => none }
def BlockFirstWrongFalsely : Prop := blockFirstRow.holds Tryz.pinned (OpenSpec.ofChange blockFirstWrong)

/-- 'stepladderlaw11.BlockNext': WHATEVER THE INPUT: true; the input reads as it did. -/
def blockNextSpec : ChangeSpec := { name := "blockNext", fn := fun _ => fun
  | [d1, d2, d3, d4, d5] => { results := [.lit (.bool true)], args := [d1, d2, d3, d4, d5] }
  | _ => none }
def blockNextRow : OpenClaim := { program := "ytpanpohdnbgdpaagreatdoor", sum := "c063d6fd7674338609c6f82657ef1b40a47bbf2a387894245ec05e16c579584d", func := "stepladder/stepladderlaw11.BlockNext", spec := "blockNext", inPlace := ["math/bits.Add64", "math/bits.Sub64"], unfollowed := true, recurses := true, named := ["stepladder/sha.firstWords", "stepladder/sha.roundNumbers"], apart := false, laid := [("stepladder/sha.firstWords", laid_stepladder_sha_firstWords), ("stepladder/sha.roundNumbers", laid_stepladder_sha_roundNumbers)] }
def BlockNextSaid : Prop := blockNextRow.holds Tryz.pinned (OpenSpec.ofChange blockNextSpec)

/-- ITS FALSE NEIGHBOUR: 'it returns false'. Refute it at one input. -/
def blockNextWrong : ChangeSpec := { name := "blockNext", fn := fun _ => fun
  | [d1, d2, d3, d4, d5] => { results := [.lit (.bool false)], args := [d1, d2, d3, d4, d5] }
  | _ => none }
def BlockNextWrongFalsely : Prop := blockNextRow.holds Tryz.pinned (OpenSpec.ofChange blockNextWrong)

/-- 'stepladderlaw11.BlockTwice': WHATEVER THE INPUT: true; the input reads as it did. -/
def blockTwiceSpec : ChangeSpec := { name := "blockTwice", fn := fun _ => fun
  | [d1, d2, d3] => { results := [.lit (.bool true)], args := [d1, d2, d3] }
  | _ => none }
def blockTwiceRow : OpenClaim := { program := "ytpanpohdnbgdpaagreatdoor", sum := "c063d6fd7674338609c6f82657ef1b40a47bbf2a387894245ec05e16c579584d", func := "stepladder/stepladderlaw11.BlockTwice", spec := "blockTwice", inPlace := ["math/bits.Add64", "math/bits.Sub64"], unfollowed := true, recurses := true, named := ["stepladder/sha.firstWords", "stepladder/sha.roundNumbers"], apart := false, laid := [("stepladder/sha.firstWords", laid_stepladder_sha_firstWords), ("stepladder/sha.roundNumbers", laid_stepladder_sha_roundNumbers)] }
def BlockTwiceSaid : Prop := blockTwiceRow.holds Tryz.pinned (OpenSpec.ofChange blockTwiceSpec)

/-- ITS FALSE NEIGHBOUR: 'it returns false'. Refute it at one input. -/
def blockTwiceWrong : ChangeSpec := { name := "blockTwice", fn := fun _ => fun
  | [d1, d2, d3] => { results := [.lit (.bool false)], args := [d1, d2, d3] }
  | _ => none }
def BlockTwiceWrongFalsely : Prop := blockTwiceRow.holds Tryz.pinned (OpenSpec.ofChange blockTwiceWrong)

/- THE SECOND FORM. 'bulk': how many values and letters a reading holds, each counted each time it is reached (what is shared counts as often as it is met; a slice's spare places count too). A statement '..UptoSaid' is the law's where the arguments, and the package variables that the reading takes, are together of bulk at most 1048576: NARROWER than '..Said'. Prove '..Said' where nothing that the law and all that it calls make is longer than what came in: it says more and counts as full. Else prove '..UptoSaid'. A law counts once. -/
mutual
def uptoBulk {H : Type} : DataW H → Nat
  | .lit (.string bytes) => bytes.length + 1
  | .lit _ => 1
  | .nil => 1
  | .ptr d => uptoBulk d + 1
  | .slice elems spare => uptoBulkAll elems + uptoBulkAll spare + 1
  | .agg parts => uptoBulkAll parts + 1
  | .iface _ d => uptoBulk d + 1
  | .map entries => uptoBulkEntries entries + 1
  | .held _ => 1
def uptoBulkAll {H : Type} : List (DataW H) → Nat
  | [] => 0
  | d :: r => uptoBulk d + uptoBulkAll r
def uptoBulkEntries {H : Type} : List (Lit × DataW H) → Nat
  | [] => 0
  | x :: r => uptoBulkEntry x + uptoBulkEntries r
def uptoBulkEntry {H : Type} : Lit × DataW H → Nat
  | (.string bytes, d) => bytes.length + uptoBulk d + 1
  | (_, d) => uptoBulk d + 1
 end
def uptoSmall : (H : Type) → List (DataW H) → Bool := fun _ ds => decide (uptoBulkAll ds ≤ 1048576)
def OpenSpec.upto (s : _root_.Go.ChangeSpec) : _root_.Go.OpenSpec := { _root_.Go.OpenSpec.ofChange s with cond := some uptoSmall }

/-- 'stepladderlaw11.BlockTells', WHERE WHAT IT READS IS OF BULK AT MOST 1048576: true; the input reads as it did. -/
def blockTellsUptoRow : OpenClaim := { program := "ytpanpohdnbgdpaagreatdoor", sum := "c063d6fd7674338609c6f82657ef1b40a47bbf2a387894245ec05e16c579584d", func := "stepladder/stepladderlaw11.BlockTells", spec := "blockTells", inPlace := ["math/bits.Add64", "math/bits.Sub64"], unfollowed := true, recurses := true, named := ["stepladder/sha.firstWords", "stepladder/sha.roundNumbers"], apart := false, laid := [("stepladder/sha.firstWords", laid_stepladder_sha_firstWords), ("stepladder/sha.roundNumbers", laid_stepladder_sha_roundNumbers)], narrowed := true }
def BlockTellsUptoSaid : Prop := blockTellsUptoRow.holds Tryz.pinned (OpenSpec.upto blockTellsSpec)

/-- 'stepladderlaw11.BlockMines', WHERE WHAT IT READS IS OF BULK AT MOST 1048576: true; the input reads as it did. -/
def blockMinesUptoRow : OpenClaim := { program := "ytpanpohdnbgdpaagreatdoor", sum := "c063d6fd7674338609c6f82657ef1b40a47bbf2a387894245ec05e16c579584d", func := "stepladder/stepladderlaw11.BlockMines", spec := "blockMines", inPlace := ["math/bits.Add64", "math/bits.Sub64"], unfollowed := true, recurses := true, named := ["stepladder/sha.firstWords", "stepladder/sha.roundNumbers"], apart := false, laid := [("stepladder/sha.firstWords", laid_stepladder_sha_firstWords), ("stepladder/sha.roundNumbers", laid_stepladder_sha_roundNumbers)], narrowed := true }
def BlockMinesUptoSaid : Prop := blockMinesUptoRow.holds Tryz.pinned (OpenSpec.upto blockMinesSpec)

/-- 'stepladderlaw11.BlockPushes', WHERE WHAT IT READS IS OF BULK AT MOST 1048576: true; the input reads as it did. -/
def blockPushesUptoRow : OpenClaim := { program := "ytpanpohdnbgdpaagreatdoor", sum := "c063d6fd7674338609c6f82657ef1b40a47bbf2a387894245ec05e16c579584d", func := "stepladder/stepladderlaw11.BlockPushes", spec := "blockPushes", inPlace := ["math/bits.Add64", "math/bits.Sub64"], unfollowed := true, recurses := true, named := ["stepladder/sha.firstWords", "stepladder/sha.roundNumbers"], apart := false, laid := [("stepladder/sha.firstWords", laid_stepladder_sha_firstWords), ("stepladder/sha.roundNumbers", laid_stepladder_sha_roundNumbers)], narrowed := true }
def BlockPushesUptoSaid : Prop := blockPushesUptoRow.holds Tryz.pinned (OpenSpec.upto blockPushesSpec)

/-- 'stepladderlaw11.BlockOther', WHERE WHAT IT READS IS OF BULK AT MOST 1048576: true; the input reads as it did. -/
def blockOtherUptoRow : OpenClaim := { program := "ytpanpohdnbgdpaagreatdoor", sum := "c063d6fd7674338609c6f82657ef1b40a47bbf2a387894245ec05e16c579584d", func := "stepladder/stepladderlaw11.BlockOther", spec := "blockOther", inPlace := ["math/bits.Add64", "math/bits.Sub64"], unfollowed := true, recurses := true, named := ["stepladder/sha.firstWords", "stepladder/sha.roundNumbers"], apart := false, laid := [("stepladder/sha.firstWords", laid_stepladder_sha_firstWords), ("stepladder/sha.roundNumbers", laid_stepladder_sha_roundNumbers)], narrowed := true }
def BlockOtherUptoSaid : Prop := blockOtherUptoRow.holds Tryz.pinned (OpenSpec.upto blockOtherSpec)

/-- 'stepladderlaw11.BlockFirst', WHERE WHAT IT READS IS OF BULK AT MOST 1048576: true; the input reads as it did. -/
def blockFirstUptoRow : OpenClaim := { program := "ytpanpohdnbgdpaagreatdoor", sum := "c063d6fd7674338609c6f82657ef1b40a47bbf2a387894245ec05e16c579584d", func := "stepladder/stepladderlaw11.BlockFirst", spec := "blockFirst", inPlace := ["math/bits.Add64", "math/bits.Sub64"], unfollowed := true, recurses := true, named := ["stepladder/sha.firstWords", "stepladder/sha.roundNumbers"], apart := false, laid := [("stepladder/sha.firstWords", laid_stepladder_sha_firstWords), ("stepladder/sha.roundNumbers", laid_stepladder_sha_roundNumbers)], narrowed := true }
def BlockFirstUptoSaid : Prop := blockFirstUptoRow.holds Tryz.pinned (OpenSpec.upto blockFirstSpec)

/-- 'stepladderlaw11.BlockNext', WHERE WHAT IT READS IS OF BULK AT MOST 1048576: true; the input reads as it did. -/
def blockNextUptoRow : OpenClaim := { program := "ytpanpohdnbgdpaagreatdoor", sum := "c063d6fd7674338609c6f82657ef1b40a47bbf2a387894245ec05e16c579584d", func := "stepladder/stepladderlaw11.BlockNext", spec := "blockNext", inPlace := ["math/bits.Add64", "math/bits.Sub64"], unfollowed := true, recurses := true, named := ["stepladder/sha.firstWords", "stepladder/sha.roundNumbers"], apart := false, laid := [("stepladder/sha.firstWords", laid_stepladder_sha_firstWords), ("stepladder/sha.roundNumbers", laid_stepladder_sha_roundNumbers)], narrowed := true }
def BlockNextUptoSaid : Prop := blockNextUptoRow.holds Tryz.pinned (OpenSpec.upto blockNextSpec)

/-- 'stepladderlaw11.BlockTwice', WHERE WHAT IT READS IS OF BULK AT MOST 1048576: true; the input reads as it did. -/
def blockTwiceUptoRow : OpenClaim := { program := "ytpanpohdnbgdpaagreatdoor", sum := "c063d6fd7674338609c6f82657ef1b40a47bbf2a387894245ec05e16c579584d", func := "stepladder/stepladderlaw11.BlockTwice", spec := "blockTwice", inPlace := ["math/bits.Add64", "math/bits.Sub64"], unfollowed := true, recurses := true, named := ["stepladder/sha.firstWords", "stepladder/sha.roundNumbers"], apart := false, laid := [("stepladder/sha.firstWords", laid_stepladder_sha_firstWords), ("stepladder/sha.roundNumbers", laid_stepladder_sha_roundNumbers)], narrowed := true }
def BlockTwiceUptoSaid : Prop := blockTwiceUptoRow.holds Tryz.pinned (OpenSpec.upto blockTwiceSpec)

end Rows
end Go.Proofs.YtpanpohdnbgdpaaGreatDoor
