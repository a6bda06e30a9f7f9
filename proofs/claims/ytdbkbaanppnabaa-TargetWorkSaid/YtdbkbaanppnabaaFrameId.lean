/- An id opened. -/
import Derived.Test.YtdbkbaanppnabaaFrame
import Derived.Test.YtdbkbaanppnabaaIds
namespace Go.Proofs.Ytdbkbaanppnabaa
open Go.ChangeShapes Go.WideShapes Go.ChangeAt Go.RowKit

theorem cellsId : Try.prog.cellsOf 27 = 32 := by kernel_rfl
theorem cellsByte : Try.prog.cellsOf 5 = 1 := by kernel_rfl
theorem open_idF {H : Type} {enc : TypeId × Value → H} {W : World} {base : Nat} {v : Value} {d : DataW H} {p : List MemPlace} (hok : Value.okWide Try.prog W .any base 27 v)
    (h : DataW.Trod enc Try.prog W 0 (fun _ => true) true 27 v d p) : ∃ f : Nat → Nat, v = .agg (idF (fun i => (f i : Int))) ∧ ∀ i, f i < 256 := by
  obtain ⟨cs, rfl, hsz, _⟩ : ∃ cs, v = .agg cs ∧ cs.size = Try.prog.cellsOf 27 ∧ Row.okWide Try.prog W .any base 27 cs := by
    simpa [Value.okWide, Try.underlying27] using hok
  rw [cellsId] at hsz
  obtain ⟨fuel, hf⟩ := h
  obtain ⟨ys, m, _, _, _, hl, hall⟩ := DataW.trod_array Try.underlying27 hf
  have hc : ∀ i, i < 32 → ∃ n : Int, cs[i]? = some (.int .u8 n) ∧ 0 ≤ n ∧ n ≤ 255 := by
    intro i hi
    have h1 := hall i hi
    rw [List.getElem?_eq_getElem (by omega : i < ys.length)] at h1
    obtain ⟨n, e, _, wf⟩ := DataW.trod_int Try.underlying5 h1
    refine ⟨n, ?_, ?_⟩
    · rw [cellsByte, Nat.mul_one] at e
      have hi' : i < cs.toList.length := by simp [hsz, hi]
      simp only [Value.cells, List.drop_eq_getElem_cons hi', List.take_succ_cons, List.take_zero, List.cons.injEq, and_true] at e
      rw [Array.getElem?_eq_getElem (by omega)]
      simpa using e
    · have := bounds_u8 wf
      omega
  refine ⟨fun i => if i < 32 then (intOf (cs.getD i (.int .u8 0))).toNat else 0, ?_, fun i => ?_⟩
  · congr 1
    unfold idF
    apply arrB_ext
    · rw [listF_len]; omega
    · exact hsz
    · intro i hi
      obtain ⟨n, e, h0, _⟩ := hc i hi
      rw [listF_get _ i hi, e]
      have : cs.getD i (.int .u8 0) = .int .u8 n := by
        rw [Array.getD_eq_getD_getElem?, e]
        rfl
      simp only [hi, if_true, this, intOf]
      congr 2
      omega
  · show (if i < 32 then _ else 0) < 256
    split
    · rename_i hi
      obtain ⟨n, e, h0, h1⟩ := hc i hi
      have : cs.getD i (.int .u8 0) = .int .u8 n := by
        rw [Array.getD_eq_getD_getElem?, e]
        rfl
      rw [this]
      simp only [intOf]
      omega
    · omega
/-- The id of noughts, as a value and as it reads. -/
def zeroI : Value := .agg (List.replicate 32 (.int .u8 0)).toArray
def zeroID {H : Type} : DataW H := .agg (List.replicate 32 (.lit (.int .u8 0)))
end Go.Proofs.Ytdbkbaanppnabaa
