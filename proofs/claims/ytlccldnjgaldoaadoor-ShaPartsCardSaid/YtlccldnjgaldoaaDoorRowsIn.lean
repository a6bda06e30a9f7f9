/- A slice of slices of bytes that comes in. -/
import Derived.Test.YtlccldnjgaldoaaDoorWalk9
import Derived.Deep.Matrix
import Derived.OpenShut
namespace Go.Proofs.YtlccldnjgaldoaaDoor
open Go.RowKit Go.ChangeShapes Go.WideShapes Go.ChangeAt Go.Deep
theorem cells22 : Tryd.prog.cellsOf 22 = 1 := by kernel_rfl
theorem lt_of_cell {W : World} {a : Addr} {v : Value} (h : W.cell? a = some v) : a.block < W.heap.size := by
  rcases Nat.lt_or_ge a.block W.heap.size with hl | hl
  · exact hl
  · simp [World.cell?, Array.getElem?_eq_none hl] at h
theorem open_rows {H : Type} {enc : TypeId × Value → H} {W : World} {base : Nat} {v : Value} {d : DataW H} {p : List MemPlace} (hok : Value.okWide Tryd.prog W .any base 29 v)
    (h : DataW.Trod enc Tryd.prog W 0 (fun _ => true) true 29 v d p) : ∃ (a : Option Addr) (n c : Nat) (xss : List (List Int)), v = .slice a n c ∧ xss.length = n ∧ Parts W W.heap.size a xss ∧ n ≤ maxLen ∧ ∀ (j : Nat) xs, xss[j]? = some xs → xs.length ≤ maxLen := by
  obtain ⟨a0, len, cap, rfl⟩ := okWide_slice Tryd.underlying29 hok
  obtain ⟨fuel, hf⟩ := h
  rcases open_int_rows Tryd.underlying29 Tryd.underlying22 Tryd.underlying5 cells22 cells5 hf with ⟨hcs, _⟩ | ⟨a, len', cap', A, L, C, Z, hcs, _, hl, hm, _, hall⟩
  · simp [Value.cells] at hcs
    obtain ⟨rfl, rfl, rfl⟩ := hcs
    exact ⟨none, 0, 0, [], rfl, rfl, fun k xs hk => by simp at hk, by simp, fun j xs hj => by simp at hj⟩
  · simp [Value.cells] at hcs
    obtain ⟨rfl, rfl, rfl⟩ := hcs
    refine ⟨some a, len, cap, (List.range len).map fun r => (Z r).take (L r), rfl, by simp, ?_, by omega, ?_⟩
    · intro k xs hk
      have hkl : k < len := by
        rcases Nat.lt_or_ge k len with h' | h'
        · exact h'
        · rw [List.getElem?_eq_none (by simp; omega)] at hk
          cases hk
      obtain ⟨hc, hLC, hCm, hZ, hwf, hnil, hcell⟩ := hall k (by omega)
      have e : xs = (Z k).take (L k) := by simpa [hkl] using hk.symm
      have hxl : xs.length = L k := by rw [e, List.length_take]; omega
      obtain ⟨b, o, spot⟩ := a
      have hspot : spot = none := by
        have := World.cell?_spot (hall 0 (by omega)).1
        simpa [Addr.add] using this
      subst hspot
      have hadd : (⟨b, o, none⟩ : Addr).add k = ⟨b, o + k, none⟩ := Addr.add_mid b o k
      rw [hadd] at hc
      refine ⟨b, o, A k, C k, rfl, lt_of_cell hc, by rw [hxl]; exact hc, ?_, ?_⟩
      · intro hp
        cases hA : A k with
        | none => have := hnil hA; omega
        | some a' =>
          obtain ⟨_, hcl⟩ := hcell a' hA
          have hlt : a'.block < W.heap.size := by
            have := lt_of_cell (hcl 0 (by omega))
            rwa [block_of_add] at this
          refine ⟨a', rfl, hlt, fun j u hu => ?_⟩
          have hj : j < xs.length := by
            rcases Nat.lt_or_ge j xs.length with h' | h'
            · exact h'
            · rw [List.getElem?_eq_none (by simp; omega)] at hu
              cases hu
          rw [hcl j (by omega)]
          rw [e] at hu
          simp only [List.getElem?_map, List.getElem?_take_of_lt (by omega : j < L k), List.getElem?_eq_getElem (by omega : j < (Z k).length), Option.map_some] at hu
          rw [← hu]
          simp [u8v, List.getD, List.getElem?_eq_getElem (by omega : j < (Z k).length)]
      · intro x hx
        rw [e] at hx
        have := bounds_u8 (hwf x (List.mem_of_mem_take hx))
        omega
    · intro j xs hj
      have hjl : j < len := by
        rcases Nat.lt_or_ge j len with h' | h'
        · exact h'
        · rw [List.getElem?_eq_none (by simp; omega)] at hj
          cases hj
      obtain ⟨_, hLC, hCm, _⟩ := hall j (by omega)
      have e : xs = (Z j).take (L j) := by simpa [hjl] using hj.symm
      rw [e, List.length_take]
      omega
end Go.Proofs.YtlccldnjgaldoaaDoor
