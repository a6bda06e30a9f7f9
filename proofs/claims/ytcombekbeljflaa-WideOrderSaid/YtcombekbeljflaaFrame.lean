/- What the rows of this seat share: a number opened, the world of the witness. -/
import Derived.Test.YtcombekbeljflaaRows
import Derived.Test.YtcombekbeljflaaWalk4
import Derived.WalkKit
import Derived.ProofKit
import Derived.OpenShut
import Derived.ChangeOld
import Derived.Below
import Derived.Deep.DeepHandedRow
import Derived.LaidLaws
namespace Go.Proofs.Ytcombekbeljflaa
open Go.ChangeShapes Go.WideShapes Go.ChangeAt Go.RowKit

theorem own : ownKnob Try.prog.godebug = none := by kernel_rfl
theorem laidOut : laidOutB Try.prog = true := by kernel_rfl
theorem cellsWide : Try.prog.cellsOf 24 = 4 := by kernel_rfl

theorem open_wide {H : Type} {enc : TypeId × Value → H} {W : World} {base : Nat} {v : Value} {d : DataW H} {p : List MemPlace} (hok : Value.okWide Try.prog W .any base 24 v)
    (h : DataW.Trod enc Try.prog W 0 (fun _ => true) true 24 v d p) : ∃ n : Nat, v = .agg (wcs n) ∧ n < Big := by
  obtain ⟨cs, rfl, hsz, _⟩ : ∃ cs, v = .agg cs ∧ cs.size = Try.prog.cellsOf 24 ∧ Row.okWide Try.prog W .any base 24 cs := by
    simpa [Value.okWide, Try.underlying24] using hok
  rw [cellsWide] at hsz
  obtain ⟨fuel, hf⟩ := h
  obtain ⟨ys, m, _, _, _, hl, hall⟩ := DataW.trod_array Try.underlying24 hf
  have hc : ∀ i, i < 4 → ∃ n : Int, cs[i]? = some (.int .u64 n) ∧ 0 ≤ n ∧ n < 18446744073709551616 := by
    intro i hi
    have h1 := hall i hi
    rw [List.getElem?_eq_getElem (by omega : i < ys.length)] at h1
    obtain ⟨n, e, _, wf⟩ := DataW.trod_int Try.underlying22 h1
    refine ⟨n, ?_, ?_⟩
    · rw [cellsU64, Nat.mul_one] at e
      have hi' : i < cs.toList.length := by simp [hsz, hi]
      simp only [Value.cells, List.drop_eq_getElem_cons hi', List.take_succ_cons, List.take_zero, List.cons.injEq, and_true] at e
      rw [Array.getElem?_eq_getElem (by omega)]
      simpa using e
    · have := bounds_u64 wf
      omega
  obtain ⟨a, e0, a0, a1⟩ := hc 0 (by omega)
  obtain ⟨b, e1, b0, b1⟩ := hc 1 (by omega)
  obtain ⟨c, e2, c0, c1⟩ := hc 2 (by omega)
  obtain ⟨d, e3, d0, d1⟩ := hc 3 (by omega)
  have hcs : cs = arrW 4 [a, b, c, d] := by
    apply arrW_ext
    · simp
    · exact hsz
    · intro i hi
      rcases i with _ | _ | _ | _ | i
      · exact e0
      · exact e1
      · exact e2
      · exact e3
      · omega
  obtain ⟨n, hn, hw⟩ := wl_of [a, b, c, d] rfl (by
    intro k
    rcases k with _ | _ | _ | _ | k
    · exact ⟨a0, a1⟩
    · exact ⟨b0, b1⟩
    · exact ⟨c0, c1⟩
    · exact ⟨d0, d1⟩
    · simp)
  exact ⟨n, by rw [hcs, hw]; rfl, hn⟩
/-- The number 0, as a value and as it reads. -/
def zeroW : Value := .agg #[.int .u64 0, .int .u64 0, .int .u64 0, .int .u64 0]
def zeroD {H : Type} : DataW H := .agg (List.replicate 4 (.lit (.int .u64 0)))
/-- A world for the witness: the settled one. -/
noncomputable def heldWorld (os : Os) : World := World.holding Try.prog os ⟨#[], #[], []⟩
end Go.Proofs.Ytcombekbeljflaa
