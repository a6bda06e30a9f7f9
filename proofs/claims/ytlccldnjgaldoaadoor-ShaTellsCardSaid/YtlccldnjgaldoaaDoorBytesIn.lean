/- Bytes that come in, and bytes as a string. -/
import Derived.Test.YtlccldnjgaldoaaDoorIdEq
import Derived.WalkKit
import Derived.ProofKit
import Derived.Handy
import Derived.Laws.BytesArg
import Derived.OpenShut
import Derived.ChangeKeysEq
import Derived.Lib.SlBytesConst
import Derived.Deep.MidRow
import Derived.Laws.CopyOwn
import Derived.Laws.MakeOwn
import Derived.Deep.WholeRow
import Derived.Deep.Cut
import Derived.Deep.QuietTactic
import Derived.BigQuiet
import Derived.StillTailTactics
import Derived.Lib.Hide
namespace Go.Proofs.YtlccldnjgaldoaaDoor
open Go.RowKit










open Go.ChangeShapes Go.WideShapes Go.ChangeAt
theorem conv_bytes (A : Option Addr) (n c B : Nat) (xs : List Int) (w : World) (hl : xs.length = n) (h : Bytes w B A xs) : (convert 22 9 (.slice A n c)).run Tryd.prog w = .ok (.string (strOfNums xs)) w := by
  cases A with
  | none =>
    have hn : n = 0 := by
      rcases Nat.eq_zero_or_pos n with h0 | h0
      · exact h0
      · obtain ⟨ad, e, _⟩ := h (by omega)
        cases e
    obtain rfl : xs = [] := List.eq_nil_of_length_eq_zero (by omega)
    exact run_convert_bytes_nil (P := Tryd.prog) w 22 5 Tryd.underlying22 Tryd.underlying5 n c 9 Tryd.underlying9
  | some ad =>
    have hc : (loadCells ad n).run Tryd.prog w = .ok (xs.map (Value.int .u8)).toArray w := by
      have := run_loadCells_list (P := Tryd.prog) w ad (xs.map (Value.int .u8)) (fun j v hj => by
        have hp : 0 < xs.length := by
          rcases Nat.eq_zero_or_pos xs.length with h0 | h0
          · obtain rfl := List.eq_nil_of_length_eq_zero h0
            simp at hj
          · exact h0
        obtain ⟨ad', e, _, hcell⟩ := h hp
        obtain rfl := Option.some.inj e
        exact hcell j v hj)
      simpa [hl] using this
    rw [run_convert_bytes_string w 22 9 5 _ n c Tryd.underlying22 Tryd.underlying5 Tryd.underlying9, run_bytesToString w _ n c xs hc, foldl_push_bytes]
    simp [strOfNums, ByteArray.empty, ByteArray.emptyWithCapacity]
    rfl
theorem open_bytes {H : Type} {enc : TypeId × Value → H} {W : World} {base : Nat} {v : Value} {d : DataW H} {p : List MemPlace} (hok : Value.okWide Tryd.prog W .any base 22 v)
    (h : DataW.Trod enc Tryd.prog W 0 (fun _ => true) true 22 v d p) : ∃ (a : Option Addr) (n c : Nat) (xs : List Int), v = .slice a n c ∧ xs.length = n ∧ Bytes W W.heap.size a xs ∧ (∀ x ∈ xs, 0 ≤ x ∧ x ≤ 255) ∧ n ≤ maxLen := by
  obtain ⟨a0, len, cap, rfl⟩ := okWide_slice Tryd.underlying22 hok
  obtain ⟨fuel, hf⟩ := h
  rcases open_ints Tryd.underlying22 Tryd.underlying5 cells5 hf with ⟨hcs, _⟩ | ⟨a, len', cap', zs, hcs, _, hl, hm, hz, _, hcell, hwz⟩
  · simp [Value.cells] at hcs
    obtain ⟨rfl, rfl, rfl⟩ := hcs
    exact ⟨none, 0, 0, [], rfl, rfl, Bytes.nil _ _ _, by simp, by simp⟩
  · simp [Value.cells] at hcs
    obtain ⟨rfl, rfl, rfl⟩ := hcs
    have hz' : zs.length = cap := by simpa using hz
    refine ⟨some a, len, cap, zs.take len, rfl, by simp; omega, ?_, ?_, by omega⟩
    · intro hp
      have hlt : a.block < W.heap.size := by
        have h0 := hcell 0 (by simp at hp; omega)
        rcases Nat.lt_or_ge a.block W.heap.size with hl' | hl'
        · exact hl'
        · have hb : (a.add 0).block = a.block := block_of_add a 0
          simp [World.cell?, hb, Array.getElem?_eq_none hl'] at h0
      refine ⟨a, rfl, hlt, fun j v hv => ?_⟩
      have hj : j < len := by
        rcases Nat.lt_or_ge j len with h' | h'
        · exact h'
        · rw [List.getElem?_eq_none (by simp; omega)] at hv
          cases hv
      rw [hcell j (by omega)]
      simp only [List.getElem?_map, List.getElem?_take_of_lt hj, List.getElem?_eq_getElem (by omega : j < zs.length), Option.map_some] at hv
      rw [← hv]
      simp [u8v, List.getD, List.getElem?_eq_getElem (by omega : j < zs.length)]
    · intro x hx
      have := bounds_u8 (hwz x (List.mem_of_mem_take hx))
      omega
end Go.Proofs.YtlccldnjgaldoaaDoor
