/- What the laws ask of Rows, Split and Cut, told for all inputs at once. -/
import Derived.Test.YthgjfmdbipmhoaaBA
namespace Go.Proofs.Ythgjfmdbipmhoaa
open Go.RowKit

def rowsD (l : List (List Int)) : List Int := if l.length ≤ 255 then rowsL l else []
def splitD (b : List Int) : List (List Int) := (splitL b).getD []
theorem rowsU (A : Option Addr) (n c : Nat) (xss : List (List Int)) (w : World) (hl : xss.length = n) (hn : n ≤ maxLen) (hx : Parts w w.heap.size A xss) (hs : ∀ x ∈ xss, x.length ≤ 65535) :
    Calls Try.prog 12 #[.slice A n c] w fun e w' => (∃ A' c', e = .returned (.tuple #[.slice A' (rowsD xss).length c', .bool (decide (n ≤ 255))]) ∧ OwnB w' w.heap.size (.slice A' (rowsD xss).length c') (rowsD xss)) ∧ Below w.heap.size w w' := by
  by_cases h : n ≤ 255
  · refine (rows_some A n c xss w hl h hx hs).mono ?_
    rintro e w' ⟨⟨v, rfl, hv⟩, hb⟩
    have e1 : rowsD xss = rowsL xss := by unfold rowsD; rw [if_pos (by omega)]
    obtain ⟨A', c', rfl⟩ := hv.form
    rw [e1]
    exact ⟨⟨A', c', by simp [h], hv⟩, hb⟩
  · refine (rows_none A n c w (by omega) hn).mono ?_
    rintro e w' ⟨rfl, rfl⟩
    have e1 : rowsD xss = [] := by unfold rowsD; rw [if_neg (by omega)]
    rw [e1]
    exact ⟨⟨none, 0, by simp [h], OwnB.nil _ _⟩, Below.refl _ _⟩
theorem splitU (A : Option Addr) (n c : Nat) (xs : List Int) (w : World) (hl : xs.length = n) (hc : n ≤ c) (hn : c ≤ maxLen) (hB : isB xs) (hx : Bytes w w.heap.size A xs) :
    Calls Try.prog 13 #[.slice A n c] w fun e w' => (∃ A' c', e = .returned (.tuple #[.slice A' (splitD xs).length c', .bool (splitL xs).isSome]) ∧ Parts w' w'.heap.size A' (splitD xs)) ∧ Below w.heap.size w w' := by
  refine (split_any A n c xs w hl hc hn hB hx).mono ?_
  rintro e w' ⟨⟨v, b, rfl, hr⟩, hb⟩
  refine ⟨?_, hb⟩
  unfold splitD
  cases hs : splitL xs with
  | none =>
    rw [hs] at hr
    obtain ⟨rfl, rfl⟩ := hr
    exact ⟨none, 0, rfl, Parts.nil _ _ _⟩
  | some l =>
    rw [hs] at hr
    obtain ⟨⟨A', c', rfl, hp⟩, rfl⟩ := hr
    exact ⟨A', c', rfl, hp⟩
def cutX (b : List Int) (i : Int) : List Int := ((cutI b i).map (·.1)).getD []
def cutTo (b : List Int) (i : Int) : Nat := ((cutI b i).map (·.2)).getD 0
theorem cutU (A : Option Addr) (n c : Nat) (i : Int) (xs : List Int) (w : World) (hl : xs.length = n) (hc : n ≤ c) (hn : c ≤ maxLen) (hB : isB xs) (hx : Bytes w w.heap.size A xs) :
    Calls Try.prog 16 #[.slice A n c, .int .i64 i] w fun e w' => (∃ A' c', e = .returned (.tuple #[.slice A' (cutX xs i).length c', .int .i64 (cutTo xs i : Nat), .bool (cutI xs i).isSome]) ∧ OwnB w' w.heap.size (.slice A' (cutX xs i).length c') (cutX xs i)) ∧ Below w.heap.size w w' := by
  cases h : cutI xs i with
  | none =>
    refine (cut_none A n c i xs w hl hc hn hB hx h).mono ?_
    rintro e w' ⟨rfl, rfl⟩
    unfold cutX cutTo
    rw [h]
    exact ⟨⟨none, 0, rfl, OwnB.nil _ _⟩, Below.refl _ _⟩
  | some p =>
    obtain ⟨x, to⟩ := p
    have h0 : 0 ≤ i := by
      unfold cutI at h
      split at h
      · assumption
      · cases h
    obtain ⟨j, rfl⟩ := Int.eq_ofNat_of_zero_le h0
    have h' := h
    rw [cutI_nat] at h
    refine (cut_some A n c j to xs x w hl hc hn hB hx h).mono ?_
    rintro e w' ⟨⟨v, rfl, hv⟩, hb⟩
    obtain ⟨A', c', rfl⟩ := hv.form
    unfold cutX cutTo
    rw [h']
    exact ⟨⟨A', c', rfl, hv⟩, hb⟩
end Go.Proofs.Ythgjfmdbipmhoaa
