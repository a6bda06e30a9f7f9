/-
  NARROWER THAN 'FOR EVERY INPUT', by the rows' own cells (each row's printed sentence says how): HeadTells: laid · HeadBack: laid · HeadSums: laid · HeadMines: laid · HeadLevels: laid · HeadCut: laid.
  DERIVED. THE GIVEN ROWS OF THIS SEAT. 6 by the template 'for every input the law returns true; each argument reads behind the call as it read before'; 0 by the template 'total and deterministic' (their statements: YtmpjgfecnnefeaaDoorTotals.lean).
  GIVEN WITH THE SEED: the statements are not yours to turn. If you find one false, say at which input.
  Laid BY PROGRAM, IN A SANDBOX (cutbox-rows.mjs): the forced cells as the released guide's own fill.sh prints them over the translation 17d74f64e3a11710… (all of the seat's roots in one cut). By AI agents, Wed Nov 11 2026. No macro, syntax, notation, axiom, sorry.
-/
import Derived.Test.YtmpjgfecnnefeaaDoorChecked
import GoSem.Claim
import GoSem.ClaimJoined
import GoSem.ClaimMapViews
import Derived.JoinedTies
import Derived.KernelRfl
namespace Go.Proofs.YtmpjgfecnnefeaaDoor
/- THE CELL 'sum', in the pinned program and in every row, IS THE sha256 OF THE DUMP (.gsa) THAT YtmpjgfecnnefeaaDoorProg.lean LOADS. Nothing in Lean hashes anything: it is a label: what it is worth is what the hold of that sum in a sandbox is worth. -/
noncomputable def Tryd.pinned : Pinned := { name := "ytmpjgfecnnefeaadoor", sum := "17d74f64e3a11710ee63001b0257f64d06429e6a6f06a80ec52aff2c2dc10ec7", checked := Tryd.checked }
namespace Rows
def none {H : Type} : Left H := { results := [], args := [] }

/- WHAT THE LISTED PACKAGE-LEVEL VARIABLES READ AS WHEN THE CALL BEGINS. Each datum BY PROGRAM (the guide's laid-datum.mjs) off the statement by which the dump's own 'gosem.cut.vars' lays the variable. In a bare row this is a premise. The card (YtmpjgfecnnefeaaDoorCards.lean) ties it to the program's text. -/
def laid_stepladder_sha_firstWords {H : Type} : DataW H := .agg [.lit (.int .u32 1779033703), .lit (.int .u32 3144134277), .lit (.int .u32 1013904242), .lit (.int .u32 2773480762), .lit (.int .u32 1359893119), .lit (.int .u32 2600822924), .lit (.int .u32 528734635), .lit (.int .u32 1541459225)]
def laid_stepladder_sha_roundNumbers {H : Type} : DataW H := .agg [.lit (.int .u32 1116352408), .lit (.int .u32 1899447441), .lit (.int .u32 3049323471), .lit (.int .u32 3921009573), .lit (.int .u32 961987163), .lit (.int .u32 1508970993), .lit (.int .u32 2453635748), .lit (.int .u32 2870763221), .lit (.int .u32 3624381080), .lit (.int .u32 310598401), .lit (.int .u32 607225278), .lit (.int .u32 1426881987), .lit (.int .u32 1925078388), .lit (.int .u32 2162078206), .lit (.int .u32 2614888103), .lit (.int .u32 3248222580), .lit (.int .u32 3835390401), .lit (.int .u32 4022224774), .lit (.int .u32 264347078), .lit (.int .u32 604807628), .lit (.int .u32 770255983), .lit (.int .u32 1249150122), .lit (.int .u32 1555081692), .lit (.int .u32 1996064986), .lit (.int .u32 2554220882), .lit (.int .u32 2821834349), .lit (.int .u32 2952996808), .lit (.int .u32 3210313671), .lit (.int .u32 3336571891), .lit (.int .u32 3584528711), .lit (.int .u32 113926993), .lit (.int .u32 338241895), .lit (.int .u32 666307205), .lit (.int .u32 773529912), .lit (.int .u32 1294757372), .lit (.int .u32 1396182291), .lit (.int .u32 1695183700), .lit (.int .u32 1986661051), .lit (.int .u32 2177026350), .lit (.int .u32 2456956037), .lit (.int .u32 2730485921), .lit (.int .u32 2820302411), .lit (.int .u32 3259730800), .lit (.int .u32 3345764771), .lit (.int .u32 3516065817), .lit (.int .u32 3600352804), .lit (.int .u32 4094571909), .lit (.int .u32 275423344), .lit (.int .u32 430227734), .lit (.int .u32 506948616), .lit (.int .u32 659060556), .lit (.int .u32 883997877), .lit (.int .u32 958139571), .lit (.int .u32 1322822218), .lit (.int .u32 1537002063), .lit (.int .u32 1747873779), .lit (.int .u32 1955562222), .lit (.int .u32 2024104815), .lit (.int .u32 2227730452), .lit (.int .u32 2361852424), .lit (.int .u32 2428436474), .lit (.int .u32 2756734187), .lit (.int .u32 3204031479), .lit (.int .u32 3329325298)]

/-- 'stepladderlaw08.HeadTells': WHATEVER THE INPUT: true; the input reads as it did. -/
def headTellsSpec : ChangeSpec := { name := "headTells", fn := fun _ => fun
  | [d1, d2, d3] => { results := [.lit (.bool true)], args := [d1, d2, d3] }
  | _ => none }
def headTellsRow : OpenClaim := { program := "ytmpjgfecnnefeaadoor", sum := "17d74f64e3a11710ee63001b0257f64d06429e6a6f06a80ec52aff2c2dc10ec7", func := "stepladder/stepladderlaw08.HeadTells", spec := "headTells", inPlace := ["math/bits.Sub64", "math/bits.Add64"], unfollowed := true, recurses := true, named := ["stepladder/sha.firstWords", "stepladder/sha.roundNumbers"], apart := false, laid := [("stepladder/sha.firstWords", laid_stepladder_sha_firstWords), ("stepladder/sha.roundNumbers", laid_stepladder_sha_roundNumbers)] }
def HeadTellsSaid : Prop := headTellsRow.holds Tryd.pinned (OpenSpec.ofChange headTellsSpec)

/-- ITS FALSE NEIGHBOUR: 'it returns false'. Refute it at one input. -/
def headTellsWrong : ChangeSpec := { name := "headTells", fn := fun _ => fun
  | [d1, d2, d3] => { results := [.lit (.bool false)], args := [d1, d2, d3] }
  | _ => none }
def HeadTellsWrongFalsely : Prop := headTellsRow.holds Tryd.pinned (OpenSpec.ofChange headTellsWrong)

/-- 'stepladderlaw08.HeadBack': WHATEVER THE INPUT: true; the input reads as it did. -/
def headBackSpec : ChangeSpec := { name := "headBack", fn := fun _ => fun
  | [d1, d2, d3] => { results := [.lit (.bool true)], args := [d1, d2, d3] }
  | _ => none }
def headBackRow : OpenClaim := { program := "ytmpjgfecnnefeaadoor", sum := "17d74f64e3a11710ee63001b0257f64d06429e6a6f06a80ec52aff2c2dc10ec7", func := "stepladder/stepladderlaw08.HeadBack", spec := "headBack", inPlace := ["math/bits.Sub64", "math/bits.Add64"], unfollowed := true, recurses := true, named := ["stepladder/sha.firstWords", "stepladder/sha.roundNumbers"], apart := false, laid := [("stepladder/sha.firstWords", laid_stepladder_sha_firstWords), ("stepladder/sha.roundNumbers", laid_stepladder_sha_roundNumbers)] }
def HeadBackSaid : Prop := headBackRow.holds Tryd.pinned (OpenSpec.ofChange headBackSpec)

/-- ITS FALSE NEIGHBOUR: 'it returns false'. Refute it at one input. -/
def headBackWrong : ChangeSpec := { name := "headBack", fn := fun _ => fun
  | [d1, d2, d3] => { results := [.lit (.bool false)], args := [d1, d2, d3] }
  | _ => none }
def HeadBackWrongFalsely : Prop := headBackRow.holds Tryd.pinned (OpenSpec.ofChange headBackWrong)

/-- 'stepladderlaw08.HeadSums': WHATEVER THE INPUT: true; the input reads as it did. -/
def headSumsSpec : ChangeSpec := { name := "headSums", fn := fun _ => fun
  | [d1, d2] => { results := [.lit (.bool true)], args := [d1, d2] }
  | _ => none }
def headSumsRow : OpenClaim := { program := "ytmpjgfecnnefeaadoor", sum := "17d74f64e3a11710ee63001b0257f64d06429e6a6f06a80ec52aff2c2dc10ec7", func := "stepladder/stepladderlaw08.HeadSums", spec := "headSums", inPlace := ["math/bits.Sub64", "math/bits.Add64"], unfollowed := true, recurses := true, named := ["stepladder/sha.firstWords", "stepladder/sha.roundNumbers"], apart := false, laid := [("stepladder/sha.firstWords", laid_stepladder_sha_firstWords), ("stepladder/sha.roundNumbers", laid_stepladder_sha_roundNumbers)] }
def HeadSumsSaid : Prop := headSumsRow.holds Tryd.pinned (OpenSpec.ofChange headSumsSpec)

/-- ITS FALSE NEIGHBOUR: 'it returns false'. Refute it at one input. -/
def headSumsWrong : ChangeSpec := { name := "headSums", fn := fun _ => fun
  | [d1, d2] => { results := [.lit (.bool false)], args := [d1, d2] }
  | _ => none }
def HeadSumsWrongFalsely : Prop := headSumsRow.holds Tryd.pinned (OpenSpec.ofChange headSumsWrong)

/-- 'stepladderlaw08.HeadMines': WHATEVER THE INPUT: true; the input reads as it did. -/
def headMinesSpec : ChangeSpec := { name := "headMines", fn := fun _ => fun
  | [d1, d2, d3] => { results := [.lit (.bool true)], args := [d1, d2, d3] }
  | _ => none }
def headMinesRow : OpenClaim := { program := "ytmpjgfecnnefeaadoor", sum := "17d74f64e3a11710ee63001b0257f64d06429e6a6f06a80ec52aff2c2dc10ec7", func := "stepladder/stepladderlaw08.HeadMines", spec := "headMines", inPlace := ["math/bits.Sub64", "math/bits.Add64"], unfollowed := true, recurses := true, named := ["stepladder/sha.firstWords", "stepladder/sha.roundNumbers"], apart := false, laid := [("stepladder/sha.firstWords", laid_stepladder_sha_firstWords), ("stepladder/sha.roundNumbers", laid_stepladder_sha_roundNumbers)] }
def HeadMinesSaid : Prop := headMinesRow.holds Tryd.pinned (OpenSpec.ofChange headMinesSpec)

/-- ITS FALSE NEIGHBOUR: 'it returns false'. Refute it at one input. -/
def headMinesWrong : ChangeSpec := { name := "headMines", fn := fun _ => fun
  | [d1, d2, d3] => { results := [.lit (.bool false)], args := [d1, d2, d3] }
  | _ => none }
def HeadMinesWrongFalsely : Prop := headMinesRow.holds Tryd.pinned (OpenSpec.ofChange headMinesWrong)

/-- 'stepladderlaw08.HeadLevels': WHATEVER THE INPUT: true; the input reads as it did. -/
def headLevelsSpec : ChangeSpec := { name := "headLevels", fn := fun _ => fun
  | [d] => { results := [.lit (.bool true)], args := [d] }
  | _ => none }
def headLevelsRow : OpenClaim := { program := "ytmpjgfecnnefeaadoor", sum := "17d74f64e3a11710ee63001b0257f64d06429e6a6f06a80ec52aff2c2dc10ec7", func := "stepladder/stepladderlaw08.HeadLevels", spec := "headLevels", inPlace := ["math/bits.Sub64", "math/bits.Add64"], unfollowed := true, recurses := true, named := ["stepladder/sha.firstWords", "stepladder/sha.roundNumbers"], apart := false, laid := [("stepladder/sha.firstWords", laid_stepladder_sha_firstWords), ("stepladder/sha.roundNumbers", laid_stepladder_sha_roundNumbers)] }
def HeadLevelsSaid : Prop := headLevelsRow.holds Tryd.pinned (OpenSpec.ofChange headLevelsSpec)

/-- ITS FALSE NEIGHBOUR: 'it returns false'. Refute it at one input. -/
def headLevelsWrong : ChangeSpec := { name := "headLevels", fn := fun _ => fun
  | [d] => { results := [.lit (.bool false)], args := [d] }
  | _ => none }
def HeadLevelsWrongFalsely : Prop := headLevelsRow.holds Tryd.pinned (OpenSpec.ofChange headLevelsWrong)

/-- 'stepladderlaw08.HeadCut': WHATEVER THE INPUT: true; the input reads as it did. -/
def headCutSpec : ChangeSpec := { name := "headCut", fn := fun _ => fun
  | [d1, d2, d3] => { results := [.lit (.bool true)], args := [d1, d2, d3] }
  | _ => none }
def headCutRow : OpenClaim := { program := "ytmpjgfecnnefeaadoor", sum := "17d74f64e3a11710ee63001b0257f64d06429e6a6f06a80ec52aff2c2dc10ec7", func := "stepladder/stepladderlaw08.HeadCut", spec := "headCut", inPlace := ["math/bits.Sub64", "math/bits.Add64"], unfollowed := true, recurses := true, named := ["stepladder/sha.firstWords", "stepladder/sha.roundNumbers"], apart := false, laid := [("stepladder/sha.firstWords", laid_stepladder_sha_firstWords), ("stepladder/sha.roundNumbers", laid_stepladder_sha_roundNumbers)] }
def HeadCutSaid : Prop := headCutRow.holds Tryd.pinned (OpenSpec.ofChange headCutSpec)

/-- ITS FALSE NEIGHBOUR: 'it returns false'. Refute it at one input. -/
def headCutWrong : ChangeSpec := { name := "headCut", fn := fun _ => fun
  | [d1, d2, d3] => { results := [.lit (.bool false)], args := [d1, d2, d3] }
  | _ => none }
def HeadCutWrongFalsely : Prop := headCutRow.holds Tryd.pinned (OpenSpec.ofChange headCutWrong)

/- THE SECOND FORM. 'bulk': how many values and letters a reading holds, each counted each time it is reached (what is shared counts as often as it is met; a slice's spare places count too). A statement '..UptoSaid' is the law's where the arguments, and the package variables that the reading takes, are together of bulk at most 1048576: NARROWER than '..Said'. Prove '..Said' where nothing that the law and all that it calls make is longer than what came in: it says more and counts as full. Else prove '..UptoSaid'. A law counts once. -/
mutual
def uptoBulk {H : Type} : DataW H → Nat
  | .lit (.string bytes) => bytes.length + 1
  | .lit _ => 1
  | .nil => 1
  | .ptr d => uptoBulk d + 1
  | .slice elems spare => uptoBulkAll elems + uptoBulkAll spare + 1
  | .agg parts => uptoBulkAll parts + 1
  | .iface _ d => uptoBulk d + 1
  | .map entries => uptoBulkEntries entries + 1
  | .held _ => 1
def uptoBulkAll {H : Type} : List (DataW H) → Nat
  | [] => 0
  | d :: r => uptoBulk d + uptoBulkAll r
def uptoBulkEntries {H : Type} : List (Lit × DataW H) → Nat
  | [] => 0
  | x :: r => uptoBulkEntry x + uptoBulkEntries r
def uptoBulkEntry {H : Type} : Lit × DataW H → Nat
  | (.string bytes, d) => bytes.length + uptoBulk d + 1
  | (_, d) => uptoBulk d + 1
 end
def uptoSmall : (H : Type) → List (DataW H) → Bool := fun _ ds => decide (uptoBulkAll ds ≤ 1048576)
def OpenSpec.upto (s : _root_.Go.ChangeSpec) : _root_.Go.OpenSpec := { _root_.Go.OpenSpec.ofChange s with cond := some uptoSmall }

/-- 'stepladderlaw08.HeadTells', WHERE WHAT IT READS IS OF BULK AT MOST 1048576: true; the input reads as it did. -/
def headTellsUptoRow : OpenClaim := { program := "ytmpjgfecnnefeaadoor", sum := "17d74f64e3a11710ee63001b0257f64d06429e6a6f06a80ec52aff2c2dc10ec7", func := "stepladder/stepladderlaw08.HeadTells", spec := "headTells", inPlace := ["math/bits.Sub64", "math/bits.Add64"], unfollowed := true, recurses := true, named := ["stepladder/sha.firstWords", "stepladder/sha.roundNumbers"], apart := false, laid := [("stepladder/sha.firstWords", laid_stepladder_sha_firstWords), ("stepladder/sha.roundNumbers", laid_stepladder_sha_roundNumbers)], narrowed := true }
def HeadTellsUptoSaid : Prop := headTellsUptoRow.holds Tryd.pinned (OpenSpec.upto headTellsSpec)

/-- 'stepladderlaw08.HeadBack', WHERE WHAT IT READS IS OF BULK AT MOST 1048576: true; the input reads as it did. -/
def headBackUptoRow : OpenClaim := { program := "ytmpjgfecnnefeaadoor", sum := "17d74f64e3a11710ee63001b0257f64d06429e6a6f06a80ec52aff2c2dc10ec7", func := "stepladder/stepladderlaw08.HeadBack", spec := "headBack", inPlace := ["math/bits.Sub64", "math/bits.Add64"], unfollowed := true, recurses := true, named := ["stepladder/sha.firstWords", "stepladder/sha.roundNumbers"], apart := false, laid := [("stepladder/sha.firstWords", laid_stepladder_sha_firstWords), ("stepladder/sha.roundNumbers", laid_stepladder_sha_roundNumbers)], narrowed := true }
def HeadBackUptoSaid : Prop := headBackUptoRow.holds Tryd.pinned (OpenSpec.upto headBackSpec)

/-- 'stepladderlaw08.HeadSums', WHERE WHAT IT READS IS OF BULK AT MOST 1048576: true; the input reads as it did. -/
def headSumsUptoRow : OpenClaim := { program := "ytmpjgfecnnefeaadoor", sum := "17d74f64e3a11710ee63001b0257f64d06429e6a6f06a80ec52aff2c2dc10ec7", func := "stepladder/stepladderlaw08.HeadSums", spec := "headSums", inPlace := ["math/bits.Sub64", "math/bits.Add64"], unfollowed := true, recurses := true, named := ["stepladder/sha.firstWords", "stepladder/sha.roundNumbers"], apart := false, laid := [("stepladder/sha.firstWords", laid_stepladder_sha_firstWords), ("stepladder/sha.roundNumbers", laid_stepladder_sha_roundNumbers)], narrowed := true }
def HeadSumsUptoSaid : Prop := headSumsUptoRow.holds Tryd.pinned (OpenSpec.upto headSumsSpec)

/-- 'stepladderlaw08.HeadMines', WHERE WHAT IT READS IS OF BULK AT MOST 1048576: true; the input reads as it did. -/
def headMinesUptoRow : OpenClaim := { program := "ytmpjgfecnnefeaadoor", sum := "17d74f64e3a11710ee63001b0257f64d06429e6a6f06a80ec52aff2c2dc10ec7", func := "stepladder/stepladderlaw08.HeadMines", spec := "headMines", inPlace := ["math/bits.Sub64", "math/bits.Add64"], unfollowed := true, recurses := true, named := ["stepladder/sha.firstWords", "stepladder/sha.roundNumbers"], apart := false, laid := [("stepladder/sha.firstWords", laid_stepladder_sha_firstWords), ("stepladder/sha.roundNumbers", laid_stepladder_sha_roundNumbers)], narrowed := true }
def HeadMinesUptoSaid : Prop := headMinesUptoRow.holds Tryd.pinned (OpenSpec.upto headMinesSpec)

/-- 'stepladderlaw08.HeadLevels', WHERE WHAT IT READS IS OF BULK AT MOST 1048576: true; the input reads as it did. -/
def headLevelsUptoRow : OpenClaim := { program := "ytmpjgfecnnefeaadoor", sum := "17d74f64e3a11710ee63001b0257f64d06429e6a6f06a80ec52aff2c2dc10ec7", func := "stepladder/stepladderlaw08.HeadLevels", spec := "headLevels", inPlace := ["math/bits.Sub64", "math/bits.Add64"], unfollowed := true, recurses := true, named := ["stepladder/sha.firstWords", "stepladder/sha.roundNumbers"], apart := false, laid := [("stepladder/sha.firstWords", laid_stepladder_sha_firstWords), ("stepladder/sha.roundNumbers", laid_stepladder_sha_roundNumbers)], narrowed := true }
def HeadLevelsUptoSaid : Prop := headLevelsUptoRow.holds Tryd.pinned (OpenSpec.upto headLevelsSpec)

/-- 'stepladderlaw08.HeadCut', WHERE WHAT IT READS IS OF BULK AT MOST 1048576: true; the input reads as it did. -/
def headCutUptoRow : OpenClaim := { program := "ytmpjgfecnnefeaadoor", sum := "17d74f64e3a11710ee63001b0257f64d06429e6a6f06a80ec52aff2c2dc10ec7", func := "stepladder/stepladderlaw08.HeadCut", spec := "headCut", inPlace := ["math/bits.Sub64", "math/bits.Add64"], unfollowed := true, recurses := true, named := ["stepladder/sha.firstWords", "stepladder/sha.roundNumbers"], apart := false, laid := [("stepladder/sha.firstWords", laid_stepladder_sha_firstWords), ("stepladder/sha.roundNumbers", laid_stepladder_sha_roundNumbers)], narrowed := true }
def HeadCutUptoSaid : Prop := headCutUptoRow.holds Tryd.pinned (OpenSpec.upto headCutSpec)

end Rows
end Go.Proofs.YtmpjgfecnnefeaaDoor
