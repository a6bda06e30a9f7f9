/- Up and Down at any number of bits, of the program and of the reference; ids compared as arrays. -/
import Derived.Test.YtcombekbeljflaaOf32
import Derived.Test.YtcombekbeljflaaRef4
import Derived.Test.YtcombekbeljflaaRef5
import Derived.ChangeKeysEq
namespace Go.Proofs.Ytcombekbeljflaa
open Go.RowKit

def upV (a : Nat) (n : Int) : Nat := if 256 ≤ n then 0 else aUp a n.toNat
def downV (a : Nat) (n : Int) : Nat := if 256 ≤ n then 0 else aDown a n.toNat
theorem upV_lt (a : Nat) (n : Int) (h : a < Big) : upV a n < Big := by
  unfold upV
  split
  · exact Big_pos
  · exact aUp_lt _ _ h
theorem downV_lt (a : Nat) (n : Int) (h : a < Big) : downV a n < Big := by
  unfold downV
  split
  · exact Big_pos
  · exact aDown_lt _ _ h
theorem up_v (a : Nat) (n : Int) (w : World) (ha : a < Big) (hn : n ≤ 9223372036854775807) :
    Calls Try.prog 15 #[.agg (wcs a), .int .i64 n] w fun e w' => e = .returned (.agg (wcs (upV a n))) ∧ Below w.heap.size w w' := by
  unfold upV
  by_cases h0 : n < 0
  · rw [if_neg (by omega), show n.toNat = 0 by omega, aUp_zero a ha]
    exact up_below a n w h0
  · obtain ⟨k, rfl⟩ := Int.eq_ofNat_of_zero_le (show 0 ≤ n by omega)
    have h := up_any a k w ha (by omega)
    by_cases h1 : 256 ≤ (k : Int)
    · rw [if_pos h1]
      have e : a * 2 ^ k % Big = 0 := by
        rw [Big_eq, show k = 256 + (k - 256) by omega, Nat.pow_add, ← Nat.mul_assoc, Nat.mul_comm (a * 2 ^ 256), ← Nat.mul_assoc]
        exact Nat.mul_mod_left _ _
      rw [e] at h
      exact h
    · rw [if_neg h1]
      exact h
theorem down_v (a : Nat) (n : Int) (w : World) (ha : a < Big) (hn : n ≤ 9223372036854775807) :
    Calls Try.prog 17 #[.agg (wcs a), .int .i64 n] w fun e w' => e = .returned (.agg (wcs (downV a n))) ∧ Below w.heap.size w w' := by
  unfold downV
  by_cases h0 : n < 0
  · rw [if_neg (by omega), show n.toNat = 0 by omega, aDown_zero a ha]
    exact down_below a n w h0
  · obtain ⟨k, rfl⟩ := Int.eq_ofNat_of_zero_le (show 0 ≤ n by omega)
    have h := down_any a k w ha (by omega)
    by_cases h1 : 256 ≤ (k : Int)
    · rw [if_pos h1]
      have e : a / 2 ^ k = 0 := by
        apply Nat.div_eq_of_lt
        rw [Big_eq] at ha
        exact Nat.lt_of_lt_of_le ha (Nat.pow_le_pow_right (by omega) (by omega))
      rw [e] at h
      exact h
    · rw [if_neg h1]
      exact h
theorem rup_v (a : Nat) (n : Int) (w : World) (ha : a < Big) :
    Calls Try.prog 16 #[.agg (wcs a), .int .i64 n] w fun e w' => e = .returned (.agg (wcs (upV a n))) ∧ Below w.heap.size w w' := by
  unfold upV
  by_cases h1 : 256 ≤ n
  · rw [if_pos h1]; exact rup_far a n w h1
  · rw [if_neg h1]; exact rup_any a n w ha (by omega)
theorem rdown_v (a : Nat) (n : Int) (w : World) (ha : a < Big) :
    Calls Try.prog 18 #[.agg (wcs a), .int .i64 n] w fun e w' => e = .returned (.agg (wcs (downV a n))) ∧ Below w.heap.size w w' := by
  unfold downV
  by_cases h1 : 256 ≤ n
  · rw [if_pos h1]; exact rdown_far a n w h1
  · rw [if_neg h1]; exact rdown_any a n w ha (by omega)
theorem of32_b (b : Nat) (w : World) :
    Calls Try.prog 21 #[.agg (idF (bytesOf b))] w fun e w' => e = .returned (.agg (wcs (numOf (byteAt b)))) ∧ Below w.heap.size w w' := of32_any (byteAt b) (byteAt_lt b) w
theorem rof32_b (b : Nat) (w : World) :
    Calls Try.prog 22 #[.agg (idF (bytesOf b))] w fun e w' => e = .returned (.agg (wcs (numOf (byteAt b)))) ∧ Below w.heap.size w w' := rof32_any (byteAt b) (byteAt_lt b) w
theorem numOf_b (b : Nat) : numOf (byteAt b) < Big := numOf_lt _ (byteAt_lt b)

theorem cellsU8 : Try.prog.cellsOf 5 = 1 := by kernel_rfl
theorem plainU8 : Try.prog.plainKey 5 = true := by kernel_rfl
theorem run_itemsB (d : Nat) (f : Nat → Int) (w : World) : ∀ is : List Nat, (∀ i ∈ is, i < 32) →
    (Op.eqItems (d + 1) 5 1 (idF f) (idF f) is).run Try.prog w = .ok true w
  | [], _ => by simp [Op.eqItems]
  | i :: is, h => by
    have hi := h i (by simp)
    have p1 := run_part_plain (P := Try.prog) w plainU8 (idF_get f i hi)
    have p3 := run_equalIn_int (P := Try.prog) w d 5 .u8 .u8 (f i) (f i) Try.underlying5
    have ih := run_itemsB d f w is (fun j hj => h j (by simp [hj]))
    have e' : (f i == f i) = true := by simp
    rw [e'] at p3
    simp only [Op.eqItems, Sem.run_bind, Nat.mul_one, p1, p3, Result.andThen_ok]
    simp only [Bool.not_true, Bool.false_eq_true, if_false, ih]
theorem eql_id_same (f : Nat → Int) (w : World) : (binOp .eql 30 (.agg (idF f)) (.agg (idF f))).run Try.prog w = .ok (.bool true) w := by
  have hx : (Op.equal 30 (.agg (idF f)) (.agg (idF f))).run Try.prog w = .ok true w := by
    unfold Op.equal
    cases hq : Try.prog.info? 5 with
    | none =>
      have : (Try.prog.info? 5).isSome = true := by kernel_rfl
      rw [hq] at this
      cases this
    | some i =>
      have h := run_equalIn_array (P := Try.prog) w 9999 (idF f) (idF f) Try.underlying30 hq
      rw [cellsU8, run_itemsB 9998 f w (List.range 32) (by simp)] at h
      exact h
  simp only [binOp]
  simp [hx]
theorem eql_same (n : Nat) (h : n < Big) (u : World) : (binOp .eql 24 (.agg (wcs n)) (.agg (wcs n))).run Try.prog u = .ok (.bool true) u := by
  have h9 := eql_wide n n h h u
  rwa [show eqN n n = true by simp [eqN]] at h9
theorem neq_same (n : Nat) (h : n < Big) (u : World) : (binOp .neq 24 (.agg (wcs n)) (.agg (wcs n))).run Try.prog u = .ok (.bool false) u := by
  have h9 := neq_wide n n h h u
  rwa [show (!eqN n n) = false by simp [eqN]] at h9
end Go.Proofs.Ytcombekbeljflaa
