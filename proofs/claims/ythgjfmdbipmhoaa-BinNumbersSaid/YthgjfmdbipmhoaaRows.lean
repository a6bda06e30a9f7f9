/-
  No cell of these rows narrows 'for every input' (looked for: loops, veiled, ifaces, maps, wideKeys, modest, calm, conditions, laid).
  DERIVED. THE GIVEN ROWS OF THIS SEAT. 5 by the template 'for every input the law returns true; each argument reads behind the call as it read before'; 0 by the template 'total and deterministic' (their statements: YthgjfmdbipmhoaaTotals.lean).
  GIVEN WITH THE SEED: the statements are not yours to turn. If you find one false, say at which input.
  Laid BY PROGRAM, IN A SANDBOX (cutbox-rows.mjs): the forced cells as the released guide's own fill.sh prints them over the translation 8d40e9ca7537cfaf… (all of the seat's roots in one cut). By AI agents, Wed Nov 11 2026. No macro, syntax, notation, axiom, sorry.
-/
import Derived.Test.YthgjfmdbipmhoaaChecked
import GoSem.Claim
import GoSem.ClaimJoined
import GoSem.ClaimMapViews
import Derived.JoinedTies
import Derived.KernelRfl
namespace Go.Proofs.Ythgjfmdbipmhoaa
/- THE CELL 'sum', in the pinned program and in every row, IS THE sha256 OF THE DUMP (.gsa) THAT YthgjfmdbipmhoaaProg.lean LOADS. Nothing in Lean hashes anything: it is a label: what it is worth is what the hold of that sum in a sandbox is worth. -/
noncomputable def Try.pinned : Pinned := { name := "ythgjfmdbipmhoaa", sum := "8d40e9ca7537cfaf2452a795a82c61bceb74aa2cb0c17b8bcadda05ac79785a5", checked := Try.checked }
namespace Rows
def none {H : Type} : Left H := { results := [], args := [] }

/-- 'stepladderlaw04.BinNumbers': WHATEVER THE INPUT: true; the input reads as it did. -/
def binNumbersSpec : ChangeSpec := { name := "binNumbers", fn := fun _ => fun
  | [d1, d2, d3, d4] => { results := [.lit (.bool true)], args := [d1, d2, d3, d4] }
  | _ => none }
def binNumbersRow : OpenClaim := { program := "ythgjfmdbipmhoaa", sum := "8d40e9ca7537cfaf2452a795a82c61bceb74aa2cb0c17b8bcadda05ac79785a5", func := "stepladder/stepladderlaw04.BinNumbers", spec := "binNumbers", unfollowed := true, recurses := true, apart := false }
def BinNumbersSaid : Prop := binNumbersRow.holds Try.pinned (OpenSpec.ofChange binNumbersSpec)

/-- ITS FALSE NEIGHBOUR: 'it returns false'. Refute it at one input. -/
def binNumbersWrong : ChangeSpec := { name := "binNumbers", fn := fun _ => fun
  | [d1, d2, d3, d4] => { results := [.lit (.bool false)], args := [d1, d2, d3, d4] }
  | _ => none }
def BinNumbersWrongFalsely : Prop := binNumbersRow.holds Try.pinned (OpenSpec.ofChange binNumbersWrong)

/-- 'stepladderlaw04.BinRows': WHATEVER THE INPUT: true; the input reads as it did. -/
def binRowsSpec : ChangeSpec := { name := "binRows", fn := fun _ => fun
  | [d1, d2, d3] => { results := [.lit (.bool true)], args := [d1, d2, d3] }
  | _ => none }
def binRowsRow : OpenClaim := { program := "ythgjfmdbipmhoaa", sum := "8d40e9ca7537cfaf2452a795a82c61bceb74aa2cb0c17b8bcadda05ac79785a5", func := "stepladder/stepladderlaw04.BinRows", spec := "binRows", unfollowed := true, recurses := true, apart := false }
def BinRowsSaid : Prop := binRowsRow.holds Try.pinned (OpenSpec.ofChange binRowsSpec)

/-- ITS FALSE NEIGHBOUR: 'it returns false'. Refute it at one input. -/
def binRowsWrong : ChangeSpec := { name := "binRows", fn := fun _ => fun
  | [d1, d2, d3] => { results := [.lit (.bool false)], args := [d1, d2, d3] }
  | _ => none }
def BinRowsWrongFalsely : Prop := binRowsRow.holds Try.pinned (OpenSpec.ofChange binRowsWrong)

/-- 'stepladderlaw04.BinCut': WHATEVER THE INPUT: true; the input reads as it did. -/
def binCutSpec : ChangeSpec := { name := "binCut", fn := fun _ => fun
  | [d1, d2, d3, d4] => { results := [.lit (.bool true)], args := [d1, d2, d3, d4] }
  | _ => none }
def binCutRow : OpenClaim := { program := "ythgjfmdbipmhoaa", sum := "8d40e9ca7537cfaf2452a795a82c61bceb74aa2cb0c17b8bcadda05ac79785a5", func := "stepladder/stepladderlaw04.BinCut", spec := "binCut", unfollowed := true, recurses := true, apart := false }
def BinCutSaid : Prop := binCutRow.holds Try.pinned (OpenSpec.ofChange binCutSpec)

/-- ITS FALSE NEIGHBOUR: 'it returns false'. Refute it at one input. -/
def binCutWrong : ChangeSpec := { name := "binCut", fn := fun _ => fun
  | [d1, d2, d3, d4] => { results := [.lit (.bool false)], args := [d1, d2, d3, d4] }
  | _ => none }
def BinCutWrongFalsely : Prop := binCutRow.holds Try.pinned (OpenSpec.ofChange binCutWrong)

/-- 'stepladderlaw04.BinApart': WHATEVER THE INPUT: true; the input reads as it did. -/
def binApartSpec : ChangeSpec := { name := "binApart", fn := fun _ => fun
  | [d1, d2, d3, d4, d5] => { results := [.lit (.bool true)], args := [d1, d2, d3, d4, d5] }
  | _ => none }
def binApartRow : OpenClaim := { program := "ythgjfmdbipmhoaa", sum := "8d40e9ca7537cfaf2452a795a82c61bceb74aa2cb0c17b8bcadda05ac79785a5", func := "stepladder/stepladderlaw04.BinApart", spec := "binApart", unfollowed := true, recurses := true, apart := false }
def BinApartSaid : Prop := binApartRow.holds Try.pinned (OpenSpec.ofChange binApartSpec)

/-- ITS FALSE NEIGHBOUR: 'it returns false'. Refute it at one input. -/
def binApartWrong : ChangeSpec := { name := "binApart", fn := fun _ => fun
  | [d1, d2, d3, d4, d5] => { results := [.lit (.bool false)], args := [d1, d2, d3, d4, d5] }
  | _ => none }
def BinApartWrongFalsely : Prop := binApartRow.holds Try.pinned (OpenSpec.ofChange binApartWrong)

/-- 'stepladderlaw04.BinSize': WHATEVER THE INPUT: true; the input reads as it did. -/
def binSizeSpec : ChangeSpec := { name := "binSize", fn := fun _ => fun
  | [d1, d2] => { results := [.lit (.bool true)], args := [d1, d2] }
  | _ => none }
def binSizeRow : OpenClaim := { program := "ythgjfmdbipmhoaa", sum := "8d40e9ca7537cfaf2452a795a82c61bceb74aa2cb0c17b8bcadda05ac79785a5", func := "stepladder/stepladderlaw04.BinSize", spec := "binSize", unfollowed := true, recurses := true, apart := false }
def BinSizeSaid : Prop := binSizeRow.holds Try.pinned (OpenSpec.ofChange binSizeSpec)

/-- ITS FALSE NEIGHBOUR: 'it returns false'. Refute it at one input. -/
def binSizeWrong : ChangeSpec := { name := "binSize", fn := fun _ => fun
  | [d1, d2] => { results := [.lit (.bool false)], args := [d1, d2] }
  | _ => none }
def BinSizeWrongFalsely : Prop := binSizeRow.holds Try.pinned (OpenSpec.ofChange binSizeWrong)

/- THE SECOND FORM. 'bulk': how many values and letters a reading holds, each counted each time it is reached (what is shared counts as often as it is met; a slice's spare places count too). A statement '..UptoSaid' is the law's where the arguments, and the package variables that the reading takes, are together of bulk at most 1048576: NARROWER than '..Said'. Prove '..Said' where nothing that the law and all that it calls make is longer than what came in: it says more and counts as full. Else prove '..UptoSaid'. A law counts once. -/
mutual
def uptoBulk {H : Type} : DataW H → Nat
  | .lit (.string bytes) => bytes.length + 1
  | .lit _ => 1
  | .nil => 1
  | .ptr d => uptoBulk d + 1
  | .slice elems spare => uptoBulkAll elems + uptoBulkAll spare + 1
  | .agg parts => uptoBulkAll parts + 1
  | .iface _ d => uptoBulk d + 1
  | .map entries => uptoBulkEntries entries + 1
  | .held _ => 1
def uptoBulkAll {H : Type} : List (DataW H) → Nat
  | [] => 0
  | d :: r => uptoBulk d + uptoBulkAll r
def uptoBulkEntries {H : Type} : List (Lit × DataW H) → Nat
  | [] => 0
  | x :: r => uptoBulkEntry x + uptoBulkEntries r
def uptoBulkEntry {H : Type} : Lit × DataW H → Nat
  | (.string bytes, d) => bytes.length + uptoBulk d + 1
  | (_, d) => uptoBulk d + 1
 end
def uptoSmall : (H : Type) → List (DataW H) → Bool := fun _ ds => decide (uptoBulkAll ds ≤ 1048576)
def OpenSpec.upto (s : _root_.Go.ChangeSpec) : _root_.Go.OpenSpec := { _root_.Go.OpenSpec.ofChange s with cond := some uptoSmall }

/-- 'stepladderlaw04.BinNumbers', WHERE WHAT IT READS IS OF BULK AT MOST 1048576: true; the input reads as it did. -/
def binNumbersUptoRow : OpenClaim := { program := "ythgjfmdbipmhoaa", sum := "8d40e9ca7537cfaf2452a795a82c61bceb74aa2cb0c17b8bcadda05ac79785a5", func := "stepladder/stepladderlaw04.BinNumbers", spec := "binNumbers", unfollowed := true, recurses := true, apart := false, narrowed := true }
def BinNumbersUptoSaid : Prop := binNumbersUptoRow.holds Try.pinned (OpenSpec.upto binNumbersSpec)

/-- 'stepladderlaw04.BinRows', WHERE WHAT IT READS IS OF BULK AT MOST 1048576: true; the input reads as it did. -/
def binRowsUptoRow : OpenClaim := { program := "ythgjfmdbipmhoaa", sum := "8d40e9ca7537cfaf2452a795a82c61bceb74aa2cb0c17b8bcadda05ac79785a5", func := "stepladder/stepladderlaw04.BinRows", spec := "binRows", unfollowed := true, recurses := true, apart := false, narrowed := true }
def BinRowsUptoSaid : Prop := binRowsUptoRow.holds Try.pinned (OpenSpec.upto binRowsSpec)

/-- 'stepladderlaw04.BinCut', WHERE WHAT IT READS IS OF BULK AT MOST 1048576: true; the input reads as it did. -/
def binCutUptoRow : OpenClaim := { program := "ythgjfmdbipmhoaa", sum := "8d40e9ca7537cfaf2452a795a82c61bceb74aa2cb0c17b8bcadda05ac79785a5", func := "stepladder/stepladderlaw04.BinCut", spec := "binCut", unfollowed := true, recurses := true, apart := false, narrowed := true }
def BinCutUptoSaid : Prop := binCutUptoRow.holds Try.pinned (OpenSpec.upto binCutSpec)

/-- 'stepladderlaw04.BinApart', WHERE WHAT IT READS IS OF BULK AT MOST 1048576: true; the input reads as it did. -/
def binApartUptoRow : OpenClaim := { program := "ythgjfmdbipmhoaa", sum := "8d40e9ca7537cfaf2452a795a82c61bceb74aa2cb0c17b8bcadda05ac79785a5", func := "stepladder/stepladderlaw04.BinApart", spec := "binApart", unfollowed := true, recurses := true, apart := false, narrowed := true }
def BinApartUptoSaid : Prop := binApartUptoRow.holds Try.pinned (OpenSpec.upto binApartSpec)

/-- 'stepladderlaw04.BinSize', WHERE WHAT IT READS IS OF BULK AT MOST 1048576: true; the input reads as it did. -/
def binSizeUptoRow : OpenClaim := { program := "ythgjfmdbipmhoaa", sum := "8d40e9ca7537cfaf2452a795a82c61bceb74aa2cb0c17b8bcadda05ac79785a5", func := "stepladder/stepladderlaw04.BinSize", spec := "binSize", unfollowed := true, recurses := true, apart := false, narrowed := true }
def BinSizeUptoSaid : Prop := binSizeUptoRow.holds Try.pinned (OpenSpec.upto binSizeSpec)

end Rows
end Go.Proofs.Ythgjfmdbipmhoaa
