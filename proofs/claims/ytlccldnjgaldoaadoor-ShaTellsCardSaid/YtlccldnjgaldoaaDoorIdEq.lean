/- Ids that are held against one another. -/
import Derived.Test.YtlccldnjgaldoaaDoorWalk8
import Derived.WalkKit
import Derived.ProofKit
import Derived.Handy
import Derived.ChangeKeysEq
import Derived.Lib.SlBytesConst
import Derived.Deep.MidRow
import Derived.Laws.CopyOwn
import Derived.Laws.MakeOwn
import Derived.Deep.WholeRow
import Derived.Deep.Cut
import Derived.Deep.QuietTactic
import Derived.BigQuiet
import Derived.StillTailTactics
import Derived.Lib.Hide
namespace Go.Proofs.YtlccldnjgaldoaaDoor
open Go.RowKit








theorem cells5 : Tryd.prog.cellsOf 5 = 1 := by kernel_rfl
theorem plain5 : Tryd.prog.plainKey 5 = true := by kernel_rfl
theorem run_items (d : Nat) (xs ys : List Int) (hx : xs.length = 32) (hy : ys.length = 32) (w : World) : ∀ is : List Nat, (∀ i ∈ is, i < 32) →
    (Op.eqItems (d + 1) 5 1 (arrB 32 xs) (arrB 32 ys) is).run Tryd.prog w = .ok (decide (∀ i ∈ is, xs.getD i 0 = ys.getD i 0)) w
  | [], _ => by simp [Op.eqItems]
  | i :: is, h => by
    have hi := h i (by simp)
    have p1 := run_part_plain (P := Tryd.prog) w plain5 (arrB_get 32 xs (i * 1) (by omega) (by omega))
    have p2 := run_part_plain (P := Tryd.prog) w plain5 (arrB_get 32 ys (i * 1) (by omega) (by omega))
    have p3 := run_equalIn_int (P := Tryd.prog) w d 5 .u8 .u8 (xs.getD (i * 1) 0) (ys.getD (i * 1) 0) Tryd.underlying5
    have ih := run_items d xs ys hx hy w is (fun j hj => h j (by simp [hj]))
    rw [Nat.mul_one] at p1 p2 p3
    simp only [Op.eqItems, Sem.run_bind, Nat.mul_one, p1, p2, p3, Result.andThen_ok]
    by_cases e : xs.getD i 0 = ys.getD i 0
    · have e' : (xs.getD i 0 == ys.getD i 0) = true := by simpa using e
      rw [e']
      simp only [Bool.not_true, Bool.false_eq_true, if_false, ih, List.forall_mem_cons, e, true_and]
    · have e' : (xs.getD i 0 == ys.getD i 0) = false := by simpa using e
      rw [e']
      simp only [Bool.not_false, if_true, Sem.run_pure, List.forall_mem_cons, e, false_and, decide_false]
def eqL (xs ys : List Int) : Bool := decide (xs = ys)
theorem list_eq_iff (xs ys : List Int) (hx : xs.length = 32) (hy : ys.length = 32) : (∀ i ∈ List.range 32, xs.getD i 0 = ys.getD i 0) ↔ xs = ys := by
  constructor
  · intro h
    apply List.ext_getElem (by omega)
    intro i h1 h2
    have := h i (by simp; omega)
    simpa [List.getD, List.getElem?_eq_getElem h1, List.getElem?_eq_getElem h2] using this
  · rintro rfl i _
    rfl
theorem run_equal_id (xs ys : List Int) (hx : xs.length = 32) (hy : ys.length = 32) (w : World) : (Op.equal 26 (.agg (arrB 32 xs)) (.agg (arrB 32 ys))).run Tryd.prog w = .ok (eqL xs ys) w := by
  unfold Op.equal
  cases hq : Tryd.prog.info? 5 with
  | none => have := info5; rw [hq] at this; cases this
  | some i =>
    have h := run_equalIn_array (P := Tryd.prog) w 9999 (arrB 32 xs) (arrB 32 ys) Tryd.underlying26 hq
    rw [cells5, run_items 9998 xs ys hx hy w (List.range 32) (by simp)] at h
    have e : decide (∀ i ∈ List.range 32, xs.getD i 0 = ys.getD i 0) = eqL xs ys := decide_eq_decide.2 (list_eq_iff xs ys hx hy)
    rw [e] at h
    exact h
theorem run_eql_id (xs ys : List Int) (hx : xs.length = 32) (hy : ys.length = 32) (w : World) : (binOp .eql 26 (.agg (arrB 32 xs)) (.agg (arrB 32 ys))).run Tryd.prog w = .ok (.bool (eqL xs ys)) w := by
  simp only [binOp]
  simp [run_equal_id xs ys hx hy w]
theorem run_neq_id (xs ys : List Int) (hx : xs.length = 32) (hy : ys.length = 32) (w : World) : (binOp .neq 26 (.agg (arrB 32 xs)) (.agg (arrB 32 ys))).run Tryd.prog w = .ok (.bool (!eqL xs ys)) w := by
  simp only [binOp]
  simp [run_equal_id xs ys hx hy w]

theorem less_three : ∀ (n : Nat) (xs ys : List Int), xs.length = n → ys.length = n → (lessL xs ys = true ∧ lessL ys xs = false ∧ eqL xs ys = false) ∨ (lessL xs ys = false ∧ lessL ys xs = true ∧ eqL xs ys = false) ∨ (lessL xs ys = false ∧ lessL ys xs = false ∧ eqL xs ys = true)
  | 0, [], [], _, _ => by simp [lessL, eqL]
  | n + 1, x :: xs, y :: ys, h1, h2 => by
    have ih := less_three n xs ys (by simpa using h1) (by simpa using h2)
    simp only [lessL, eqL, List.cons.injEq] at ih ⊢
    rcases Int.lt_trichotomy x y with h | h | h
    · left; simp [show ¬ x = y by omega, show ¬ y = x by omega, h]; omega
    · subst h; simpa using ih
    · right; left; simp [show ¬ x = y by omega, show ¬ y = x by omega, h]; omega
theorem less_trans : ∀ (n : Nat) (xs ys zs : List Int), xs.length = n → ys.length = n → zs.length = n → lessL xs ys = true → lessL ys zs = true → lessL xs zs = true
  | 0, [], [], [], _, _, _ => by simp [lessL]
  | n + 1, x :: xs, y :: ys, z :: zs, h1, h2, h3 => by
    have ih := less_trans n xs ys zs (by simpa using h1) (by simpa using h2) (by simpa using h3)
    simp only [lessL]
    intro a b
    by_cases e1 : x = y
    · subst e1
      by_cases e2 : x = z
      · subst e2; simp at a b ⊢; exact ih a b
      · simp [e2] at b ⊢; exact b
    · by_cases e2 : y = z
      · subst e2; simp [e1] at a ⊢; exact a
      · simp [e1] at a
        simp [e2] at b
        simp [show ¬ x = z by omega]; omega
end Go.Proofs.YtlccldnjgaldoaaDoor
