/- What the rows of a seat with bytes share: bytes and lists of bytes opened, the world of the witness. -/
import Derived.Test.YthgjfmdbipmhoaaRows
import Derived.Test.YthgjfmdbipmhoaaBy
import Derived.WalkKit
import Derived.ProofKit
import Derived.OpenShut
import Derived.ChangeOld
import Derived.Below
import Derived.Deep.DeepHandedRow
import Derived.Deep.Matrix
import Derived.LaidLaws
namespace Go.Proofs.Ythgjfmdbipmhoaa
open Go.ChangeShapes Go.WideShapes Go.ChangeAt Go.RowKit Go.Deep

theorem own : ownKnob Try.prog.godebug = none := by kernel_rfl
theorem laidOut : laidOutB Try.prog = true := by kernel_rfl
theorem cellsBs : Try.prog.cellsOf 23 = 1 := by kernel_rfl
theorem open_bytes {H : Type} {enc : TypeId × Value → H} {W : World} {base : Nat} {v : Value} {d : DataW H} {p : List MemPlace} (hok : Value.okWide Try.prog W .any base 23 v)
    (h : DataW.Trod enc Try.prog W 0 (fun _ => true) true 23 v d p) : ∃ (a : Option Addr) (n c : Nat) (xs : List Int), v = .slice a n c ∧ xs.length = n ∧ n ≤ c ∧ c ≤ maxLen ∧ (∀ x ∈ xs, 0 ≤ x ∧ x ≤ 255) ∧ Bytes W W.heap.size a xs := by
  obtain ⟨a0, len, cap, rfl⟩ := okWide_slice Try.underlying23 hok
  obtain ⟨fuel, hf⟩ := h
  rcases open_ints Try.underlying23 Try.underlying5 cellsB hf with ⟨hcs, _⟩ | ⟨a, len', cap', zs, hcs, _, hl, hm, hz, _, hcell, hwz⟩
  · simp [Value.cells] at hcs
    obtain ⟨rfl, rfl, rfl⟩ := hcs
    exact ⟨none, 0, 0, [], rfl, rfl, Nat.le_refl _, Nat.zero_le _, by simp, Bytes.nil _ _ _⟩
  · simp [Value.cells] at hcs
    obtain ⟨rfl, rfl, rfl⟩ := hcs
    have hz' : zs.length = cap := by simpa using hz
    refine ⟨some a, len, cap, zs.take len, rfl, by simp; omega, by omega, by omega, ?_, ?_⟩
    · intro x hx
      have := bounds_u8 (hwz x (List.mem_of_mem_take hx))
      omega
    · intro hp
      have hlt : a.block < W.heap.size := by
        have h0 := hcell 0 (by simp at hp; omega)
        rcases Nat.lt_or_ge a.block W.heap.size with hl' | hl'
        · exact hl'
        · have hb : (a.add 0).block = a.block := block_of_add a 0
          simp [World.cell?, hb, Array.getElem?_eq_none hl'] at h0
      refine ⟨a, rfl, hlt, fun j v hv => ?_⟩
      have hj : j < len := by
        rcases Nat.lt_or_ge j len with h' | h'
        · exact h'
        · rw [List.getElem?_eq_none (by simp; omega)] at hv
          cases hv
      rw [hcell j (by omega)]
      simp only [List.getElem?_map, List.getElem?_take_of_lt hj, List.getElem?_eq_getElem (by omega : j < zs.length), Option.map_some] at hv
      rw [← hv]
      simp [u8v, List.getD, List.getElem?_eq_getElem (by omega : j < zs.length)]
theorem lt_of_cell {W : World} {a : Addr} {v : Value} (h : W.cell? a = some v) : a.block < W.heap.size := by
  rcases Nat.lt_or_ge a.block W.heap.size with hl | hl
  · exact hl
  · simp [World.cell?, Array.getElem?_eq_none hl] at h
theorem open_rows {H : Type} {enc : TypeId × Value → H} {W : World} {base : Nat} {v : Value} {d : DataW H} {p : List MemPlace} (hok : Value.okWide Try.prog W .any base 29 v)
    (h : DataW.Trod enc Try.prog W 0 (fun _ => true) true 29 v d p) : ∃ (a : Option Addr) (n c : Nat) (xss : List (List Int)), v = .slice a n c ∧ xss.length = n ∧ n ≤ maxLen ∧ Parts W W.heap.size a xss ∧ ∀ xs ∈ xss, xs.length ≤ maxLen := by
  obtain ⟨a0, len, cap, rfl⟩ := okWide_slice Try.underlying29 hok
  obtain ⟨fuel, hf⟩ := h
  rcases open_int_rows Try.underlying29 Try.underlying23 Try.underlying5 cellsBs cellsB hf with ⟨hcs, _⟩ | ⟨a, len', cap', A, L, C, Z, hcs, _, hl, hm, _, hall⟩
  · simp [Value.cells] at hcs
    obtain ⟨rfl, rfl, rfl⟩ := hcs
    exact ⟨none, 0, 0, [], rfl, rfl, Nat.zero_le _, Parts.nil _ _ _, by simp⟩
  · simp [Value.cells] at hcs
    obtain ⟨rfl, rfl, rfl⟩ := hcs
    refine ⟨some a, len, cap, (List.range len).map fun r => (Z r).take (L r), rfl, by simp, by omega, ?_, ?_⟩
    · intro k xs hk
      have hkl : k < len := by
        rcases Nat.lt_or_ge k len with h' | h'
        · exact h'
        · rw [List.getElem?_eq_none (by simp; omega)] at hk
          cases hk
      obtain ⟨hc, hLC, hCm, hZ, hwf, hnil, hcell⟩ := hall k (by omega)
      have e : xs = (Z k).take (L k) := by simpa [hkl] using hk.symm
      have hxl : xs.length = L k := by rw [e, List.length_take]; omega
      obtain ⟨b, o, spot⟩ := a
      have hspot : spot = none := by
        have := World.cell?_spot (hall 0 (by omega)).1
        simpa [Addr.add] using this
      subst hspot
      have hadd : (⟨b, o, none⟩ : Addr).add k = ⟨b, o + k, none⟩ := Addr.add_mid b o k
      rw [hadd] at hc
      refine ⟨b, o, A k, C k, rfl, lt_of_cell hc, by rw [hxl]; exact hc, ?_, ?_⟩
      · intro hp
        cases hA : A k with
        | none => have := hnil hA; omega
        | some a' =>
          obtain ⟨_, hcl⟩ := hcell a' hA
          have hlt : a'.block < W.heap.size := by
            have := lt_of_cell (hcl 0 (by omega))
            rwa [block_of_add] at this
          refine ⟨a', rfl, hlt, fun j u hu => ?_⟩
          have hj : j < xs.length := by
            rcases Nat.lt_or_ge j xs.length with h' | h'
            · exact h'
            · rw [List.getElem?_eq_none (by simp; omega)] at hu
              cases hu
          rw [hcl j (by omega)]
          rw [e] at hu
          simp only [List.getElem?_map, List.getElem?_take_of_lt (by omega : j < L k), List.getElem?_eq_getElem (by omega : j < (Z k).length), Option.map_some] at hu
          rw [← hu]
          simp [u8v, List.getD, List.getElem?_eq_getElem (by omega : j < (Z k).length)]
      · intro x hx
        rw [e] at hx
        have := bounds_u8 (hwf x (List.mem_of_mem_take hx))
        omega
    · intro xs hm
      obtain ⟨j, hj, rfl⟩ := List.getElem_of_mem hm
      have hjl : j < len := by simpa using hj
      obtain ⟨_, hLC, hCm, _⟩ := hall j (by omega)
      simp only [List.getElem_map, List.getElem_range, List.length_take]
      omega
/-- A world for the witness: the settled one. -/
noncomputable def heldWorld (os : Os) : World := World.holding Try.prog os ⟨#[], #[], []⟩
end Go.Proofs.Ythgjfmdbipmhoaa
