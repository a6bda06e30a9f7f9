/- What the rows of this seat share: the two tables out of what is laid, an id opened, the world of the witness. -/
import Derived.Test.YtlccldnjgaldoaaDoorCards
import Derived.Test.YtlccldnjgaldoaaDoorTie
import Derived.Test.YtlccldnjgaldoaaDoorBytesIn
import Derived.WalkKit
import Derived.ProofKit
import Derived.OpenShut
import Derived.ChangeOld
import Derived.Below
import Derived.Deep.DeepHandedRow
import Derived.Lib.LaidTab
namespace Go.Proofs.YtlccldnjgaldoaaDoor
open Go.ChangeShapes Go.WideShapes Go.ChangeAt Go.RowKit

theorem own : ownKnob Tryd.prog.godebug = none := by kernel_rfl
theorem laidOut : laidOutB Tryd.prog = true := by kernel_rfl
theorem gFirst : Tryd.prog.globalNamed "stepladder/sha.firstWords" = some 0 := by kernel_rfl
theorem gFirstType : (Tryd.prog.globals[0]?).map (·.type) = some 40 := by kernel_rfl
theorem gRound : Tryd.prog.globalNamed "stepladder/sha.roundNumbers" = some 1 := by kernel_rfl
theorem gRoundType : (Tryd.prog.globals[1]?).map (·.type) = some 48 := by kernel_rfl
theorem cells40 : Tryd.prog.cellsOf 40 = 8 := by kernel_rfl
theorem cells48 : Tryd.prog.cellsOf 48 = 64 := by kernel_rfl
theorem cells39 : Tryd.prog.cellsOf 39 = 1 := by kernel_rfl
theorem cells26 : Tryd.prog.cellsOf 26 = 32 := by kernel_rfl

def laidBoth : List (String × DataW Unit) := [("stepladder/sha.firstWords", Rows.laid_stepladder_sha_firstWords), ("stepladder/sha.roundNumbers", Rows.laid_stepladder_sha_roundNumbers)]
theorem tables_of_laid {W : World} (h : laidMetH Tryd.prog laidBoth W) : Tables W := by
  have h1 : Lib.TabIs Tryd.prog W "stepladder/sha.firstWords" .u32 [1779033703, 3144134277, 1013904242, 2773480762, 1359893119, 2600822924, 528734635, 1541459225] :=
    Lib.tabIs_of_head (rest := [("stepladder/sha.roundNumbers", Rows.laid_stepladder_sha_roundNumbers)]) gFirst gFirstType Tryd.underlying40 Tryd.underlying39 cells39 cells40 h
  have h2 : Lib.TabIs Tryd.prog W "stepladder/sha.roundNumbers" .u32 roundNs :=
    Lib.tabIs_of_head (rest := []) gRound gRoundType Tryd.underlying48 Tryd.underlying39 cells39 cells48 (h.filter (fun x => x.1 == "stepladder/sha.roundNumbers"))
  refine ⟨fun i hi => h1.cell gFirst i hi, fun i hi => h2.cell gRound i hi, ?_⟩
  have := h2.cell gRound 0 (by decide)
  rcases Nat.lt_or_ge 1 W.heap.size with hl | hl
  · exact hl
  · simp [World.cell?, Array.getElem?_eq_none hl] at this

theorem open_id {H : Type} {enc : TypeId × Value → H} {W : World} {base : Nat} {v : Value} {d : DataW H} {p : List MemPlace} (hok : Value.okWide Tryd.prog W .any base 26 v)
    (h : DataW.Trod enc Tryd.prog W 0 (fun _ => true) true 26 v d p) : ∃ xs : List Int, v = .agg (arrB 32 xs) ∧ xs.length = 32 ∧ ∀ x ∈ xs, 0 ≤ x ∧ x ≤ 255 := by
  obtain ⟨cs, rfl, hsz, _⟩ : ∃ cs, v = .agg cs ∧ cs.size = Tryd.prog.cellsOf 26 ∧ Row.okWide Tryd.prog W .any base 26 cs := by
    simpa [Value.okWide, Tryd.underlying26] using hok
  rw [cells26] at hsz
  obtain ⟨fuel, hf⟩ := h
  obtain ⟨ys, m, _, _, _, hl, hall⟩ := DataW.trod_array Tryd.underlying26 hf
  have hc : ∀ i, i < 32 → ∃ n : Int, cs[i]? = some (.int .u8 n) ∧ 0 ≤ n ∧ n ≤ 255 := by
    intro i hi
    have h1 := hall i hi
    rw [List.getElem?_eq_getElem (by omega : i < ys.length)] at h1
    obtain ⟨n, e, _, wf⟩ := DataW.trod_int Tryd.underlying5 h1
    refine ⟨n, ?_, ?_⟩
    · rw [cells5, Nat.mul_one] at e
      have hi' : i < cs.toList.length := by simp [hsz, hi]
      simp only [Value.cells, List.drop_eq_getElem_cons hi', List.take_succ_cons, List.take_zero, List.cons.injEq, and_true] at e
      rw [Array.getElem?_eq_getElem (by omega)]
      simpa using e
    · have := bounds_u8 wf
      omega
  refine ⟨cs.toList.map intOf, ?_, by simp [hsz], ?_⟩
  · congr 1
    apply arrB_ext
    · simp [hsz]
    · exact hsz
    · intro i hi
      obtain ⟨n, e, _⟩ := hc i hi
      have e' : cs.toList[i]? = some (.int .u8 n) := by simpa using e
      simp [e, List.getD, List.getElem?_map, e', intOf]
  · intro x hx
    obtain ⟨u, hu, rfl⟩ := List.mem_map.1 hx
    obtain ⟨i, hi, rfl⟩ := List.getElem_of_mem hu
    obtain ⟨n, e, hn⟩ := hc i (by simp at hi; omega)
    have e' : cs.toList[i]? = some (.int .u8 n) := by simpa using e
    rw [List.getElem?_eq_getElem hi] at e'
    rw [Option.some.inj e']
    exact hn

/-- The id of zeros, as a value and as it reads. -/
def zeroId : Value := .agg (arrB 32 [])
def zeroD {H : Type} : DataW H := .agg (List.replicate 32 (.lit (.int .u8 0)))
/-- The same block with other cells. -/
def withCells (cs : Array Value) : Obj → Obj
  | .cells _ t frozen => .cells cs t frozen
  | o => o
/-- A WORLD FOR THE WITNESS: the settled one, the two tables holding what their initialisers lay. -/
noncomputable def laidWorld (os : Os) : World :=
  { World.holding Tryd.prog os ⟨#[], #[], []⟩ with heap := ((World.holding Tryd.prog os ⟨#[], #[], []⟩).heap.modify 0 (withCells firstW.cells)).modify 1 (withCells (roundNs.map u32v).toArray) }
end Go.Proofs.YtlccldnjgaldoaaDoor
