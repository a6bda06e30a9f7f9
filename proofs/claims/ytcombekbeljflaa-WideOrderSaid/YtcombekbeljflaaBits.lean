/- Words of numbers, bit by bit: what Up, Down and the single bits come to. -/
import Derived.Test.YtcombekbeljflaaNum
import Derived.Test.YtcombekbeljflaaWalk3
import Derived.Laws.Bits64b
namespace Go.Proofs.Ytcombekbeljflaa
open Go

/-- word j of a number -/
def W (m j : Nat) : Nat := m / 2 ^ (64 * j) % 2 ^ 64
theorem W_bit (m j i : Nat) : (W m j).testBit i = (decide (i < 64) && m.testBit (64 * j + i)) := by
  unfold W
  rw [Nat.testBit_mod_two_pow, Nat.testBit_div_two_pow, Nat.add_comm]
theorem W_lt (m j : Nat) : W m j < 18446744073709551616 := by
  unfold W
  exact Nat.mod_lt _ (by decide)
theorem wl_W (m : Nat) : wl m = [(W m 0 : Int), (W m 1 : Int), (W m 2 : Int), (W m 3 : Int)] := by
  unfold wl W
  rw [show 2 ^ (64 * 0) = 1 from rfl, show 2 ^ (64 * 1) = 18446744073709551616 from rfl, show 2 ^ (64 * 2) = 340282366920938463463374607431768211456 from rfl, show 2 ^ (64 * 3) = 6277101735386680763835789423207666416102355444464034512896 from rfl, Nat.div_one]
theorem W_high (m j : Nat) (h : m < Big) (hj : 4 ≤ j) : W m j = 0 := by
  unfold W
  rw [Nat.div_eq_of_lt, Nat.zero_mod]
  rw [Big_eq] at h
  exact Nat.lt_of_lt_of_le h (Nat.pow_le_pow_right (by omega) (by omega))
theorem wl_get (m k : Nat) (hk : k < 4) : (wl m).getD k 0 = (W m k : Int) := by
  rw [wl_W]
  rcases k with _ | _ | _ | _ | k
  all_goals first | rfl | omega
theorem partZ_nat (m k : Nat) (h : m < Big) : partZ (wl m) (k : Int) = (W m k : Int) := by
  unfold partZ
  by_cases hk : k < 4
  · rw [if_pos (by omega), Int.toNat_natCast, wl_get m k hk]
  · rw [if_neg (by omega), W_high m k h (by omega)]
    rfl
theorem partZ_neg (xs : List Int) (i : Int) (h : i < 0) : partZ xs i = 0 := by
  unfold partZ
  rw [if_neg (by omega)]
theorem shlW (a r : Nat) : IntKind.u64.wrap ((a : Int) * 2 ^ r) = ((a * 2 ^ r % 2 ^ 64 : Nat) : Int) := by
  rw [IntKind.wrap_u64, show (2 : Nat) ^ 64 = 18446744073709551616 from rfl]
  simp
theorem shrW (a r : Nat) : (a : Int) / 2 ^ r = ((a / 2 ^ r : Nat) : Int) := by simp
theorem orW (a b : Nat) (ha : a < 18446744073709551616) (hb : b < 18446744073709551616) : bits .or .u64 (a : Int) (b : Int) = ((a ||| b : Nat) : Int) := bits_or_u64_nat a b ha hb
theorem upW_eq (m n k : Nat) (h : m < Big) : upW (wl m) ((n : Int) / 64) ((n : Int) % 64) k = (W (m * 2 ^ n) k : Int) := by
  have hr : ((n : Int) % 64).toNat = n % 64 := by omega
  have hr' : (64 - (n : Int) % 64).toNat = 64 - n % 64 := by omega
  have hn : n = 64 * (n / 64) + n % 64 := by omega
  have hr1 : n % 64 < 64 := by omega
  have hq : (n : Int) / 64 = ((n / 64 : Nat) : Int) := by omega
  unfold upW
  rw [hr, hr', hq]
  generalize n / 64 = p at *
  generalize n % 64 = r at *
  subst hn
  clear hr hr' hq
  have key : ∃ a b : Nat, partZ (wl m) ((k : Int) - p) = (a : Int) ∧ partZ (wl m) ((k : Int) - p - 1) = (b : Int) ∧ a < 18446744073709551616 ∧ b < 18446744073709551616 ∧ (∀ i, a.testBit i = (decide (i < 64) && (decide (p ≤ k) && m.testBit (64 * (k - p) + i)))) ∧ (∀ i, b.testBit i = (decide (i < 64) && (decide (p + 1 ≤ k) && m.testBit (64 * (k - p - 1) + i)))) := by
    refine ⟨if p ≤ k then W m (k - p) else 0, if p + 1 ≤ k then W m (k - p - 1) else 0, ?_, ?_, ?_, ?_, ?_, ?_⟩
    · by_cases c : p ≤ k
      · rw [if_pos c, show (k : Int) - p = ((k - p : Nat) : Int) by omega, partZ_nat m _ h]
      · rw [if_neg c, partZ_neg _ _ (by omega)]; rfl
    · by_cases c : p + 1 ≤ k
      · rw [if_pos c, show (k : Int) - p - 1 = ((k - p - 1 : Nat) : Int) by omega, partZ_nat m _ h]
      · rw [if_neg c, partZ_neg _ _ (by omega)]; rfl
    · split
      · exact W_lt _ _
      · decide
    · split
      · exact W_lt _ _
      · decide
    · intro i
      by_cases c : p ≤ k
      · rw [if_pos c, W_bit]; simp [c]
      · rw [if_neg c]; simp [c]
    · intro i
      by_cases c : p + 1 ≤ k
      · rw [if_pos c, W_bit]; simp [c]
      · rw [if_neg c]; simp [c]
  obtain ⟨a, b, ea, eb, la, lb, ta, tb⟩ := key
  have l1 : a * 2 ^ r % 2 ^ 64 < 18446744073709551616 := Nat.mod_lt _ (by decide)
  have l2 : b / 2 ^ (64 - r) < 18446744073709551616 := Nat.lt_of_le_of_lt (Nat.div_le_self _ _) lb
  rw [ea, eb, shlW, shrW, orW _ _ l1 l2]
  congr 1
  apply Nat.eq_of_testBit_eq
  intro i
  rw [Nat.testBit_or, Nat.testBit_mod_two_pow, Nat.testBit_mul_two_pow, Nat.testBit_div_two_pow, ta, tb, W_bit, Nat.testBit_mul_two_pow]
  by_cases hi : i < 64
  · by_cases hir : r ≤ i
    · by_cases hpk : p ≤ k
      · have e1 : 64 * (k - p) + (i - r) = 64 * k + i - (64 * p + r) := by omega
        rw [e1]
        simp only [hi, hir, hpk, ge_iff_le, decide_true, Bool.true_and, show i - r < 64 by omega, show 64 * p + r ≤ 64 * k + i by omega, show ¬ (i + (64 - r) < 64) by omega, decide_false, Bool.false_and, Bool.or_false]
      · simp only [hi, hpk, show ¬ (64 * p + r ≤ 64 * k + i) by omega, show ¬ (p + 1 ≤ k) by omega, ge_iff_le, decide_false, Bool.false_and, Bool.and_false, Bool.or_false]
    · by_cases hpk : p + 1 ≤ k
      · have e1 : 64 * (k - p - 1) + (i + (64 - r)) = 64 * k + i - (64 * p + r) := by omega
        rw [e1]
        simp only [hi, hir, hpk, ge_iff_le, decide_true, Bool.true_and, show i + (64 - r) < 64 by omega, show 64 * p + r ≤ 64 * k + i by omega, decide_false, Bool.false_and, Bool.false_or]
      · simp only [hi, hir, hpk, show ¬ (64 * p + r ≤ 64 * k + i) by omega, ge_iff_le, decide_false, Bool.false_and, Bool.and_false, Bool.or_false]
  · simp only [hi, decide_false, Bool.false_and, Bool.false_or, show ¬ (i + (64 - r) < 64) by omega]
theorem W_mod (m k : Nat) (hk : k < 4) : W (m % Big) k = W m k := by
  apply Nat.eq_of_testBit_eq
  intro i
  rw [W_bit, W_bit, Big_eq, Nat.testBit_mod_two_pow]
  by_cases hi : i < 64
  · simp [hi, show 64 * k + i < 256 by omega]
  · simp [hi]
theorem up_words (m n : Nat) (h : m < Big) : upL (wl m) ((n : Int) / 64) ((n : Int) % 64) 4 = wl (m * 2 ^ n % Big) := by
  rw [wl_W (m * 2 ^ n % Big)]
  simp only [upL, List.nil_append, List.cons_append, upW_eq m n _ h, W_mod _ 0 (by omega), W_mod _ 1 (by omega), W_mod _ 2 (by omega), W_mod _ 3 (by omega)]
theorem downW_eq (m n k : Nat) (h : m < Big) : downW (wl m) ((n : Int) / 64) ((n : Int) % 64) k = (W (m / 2 ^ n) k : Int) := by
  have hr : ((n : Int) % 64).toNat = n % 64 := by omega
  have hr' : (64 - (n : Int) % 64).toNat = 64 - n % 64 := by omega
  have hn : n = 64 * (n / 64) + n % 64 := by omega
  have hr1 : n % 64 < 64 := by omega
  have hq : (n : Int) / 64 = ((n / 64 : Nat) : Int) := by omega
  unfold downW
  rw [hr, hr', hq]
  generalize n / 64 = p at *
  generalize n % 64 = r at *
  subst hn
  clear hr hr' hq
  rw [show (k : Int) + p = ((k + p : Nat) : Int) by omega, show ((k + p : Nat) : Int) + 1 = ((k + p + 1 : Nat) : Int) by omega, partZ_nat m _ h, partZ_nat m _ h]
  have la := W_lt m (k + p)
  have l1 : W m (k + p + 1) * 2 ^ (64 - r) % 2 ^ 64 < 18446744073709551616 := Nat.mod_lt _ (by decide)
  have l2 : W m (k + p) / 2 ^ r < 18446744073709551616 := Nat.lt_of_le_of_lt (Nat.div_le_self _ _) la
  rw [shlW, shrW, orW _ _ l2 l1]
  congr 1
  apply Nat.eq_of_testBit_eq
  intro i
  rw [Nat.testBit_or, Nat.testBit_mod_two_pow, Nat.testBit_mul_two_pow, Nat.testBit_div_two_pow, W_bit, W_bit, W_bit, Nat.testBit_div_two_pow]
  by_cases hi : i < 64
  · by_cases hir : i + r < 64
    · have e1 : 64 * (k + p) + (i + r) = 64 * k + i + (64 * p + r) := by omega
      rw [e1]
      simp only [hi, hir, ge_iff_le, decide_true, Bool.true_and, show ¬ (64 - r ≤ i) by omega, decide_false, Bool.false_and, Bool.or_false]
    · have e1 : 64 * (k + p + 1) + (i - (64 - r)) = 64 * k + i + (64 * p + r) := by omega
      rw [e1]
      simp only [hi, hir, ge_iff_le, decide_true, Bool.true_and, show 64 - r ≤ i by omega, show i - (64 - r) < 64 by omega, decide_false, Bool.false_and, Bool.false_or]
  · simp only [hi, decide_false, Bool.false_and, Bool.or_false, show ¬ (i + r < 64) by omega]
theorem down_words (m n : Nat) (h : m < Big) : downL (wl m) ((n : Int) / 64) ((n : Int) % 64) 4 = wl (m / 2 ^ n) := by
  rw [wl_W (m / 2 ^ n)]
  simp only [downL, List.nil_append, List.cons_append, downW_eq m n _ h]
/-- a single bit -/
theorem bit_word (m i : Nat) (hi : i < 256) : bits .and .u64 ((wl m).getD ((i : Int) / 64).toNat 0 / 2 ^ ((i : Int) % 64).toNat) 1 = ((m / 2 ^ i % 2 : Nat) : Int) := by
  have e1 : ((i : Int) / 64).toNat = i / 64 := by omega
  have e2 : ((i : Int) % 64).toNat = i % 64 := by omega
  rw [e1, e2, wl_get m _ (by omega), shrW]
  have l2 : W m (i / 64) / 2 ^ (i % 64) < 18446744073709551616 := Nat.lt_of_le_of_lt (Nat.div_le_self _ _) (W_lt _ _)
  rw [show (1 : Int) = ((1 : Nat) : Int) from rfl, bits_and_u64_nat _ _ l2 (by decide), Nat.and_one_is_mod]
  congr 1
  have t0 := Nat.mod_two_eq_one_iff_testBit_zero (x := W m (i / 64) / 2 ^ (i % 64))
  have t1 := Nat.mod_two_eq_one_iff_testBit_zero (x := m / 2 ^ i)
  rw [Nat.testBit_div_two_pow, W_bit, show 64 * (i / 64) + (0 + i % 64) = i by omega] at t0
  rw [Nat.testBit_div_two_pow, Nat.zero_add] at t1
  simp only [Nat.zero_add, show i % 64 < 64 by omega, decide_true, Bool.true_and] at t0
  have m0 : W m (i / 64) / 2 ^ (i % 64) % 2 < 2 := Nat.mod_lt _ (by omega)
  have m1 : m / 2 ^ i % 2 < 2 := Nat.mod_lt _ (by omega)
  cases hb : m.testBit i
  · simp only [hb, Bool.false_eq_true, iff_false] at t0 t1; omega
  · simp only [hb, iff_true] at t0 t1; omega
end Go.Proofs.Ytcombekbeljflaa
