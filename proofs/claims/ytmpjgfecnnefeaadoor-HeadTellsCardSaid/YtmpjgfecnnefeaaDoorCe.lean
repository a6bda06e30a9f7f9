/- Part of a proof. -/
import Derived.Test.YtmpjgfecnnefeaaDoorCd
import Derived.Laws.Bits64b
import Derived.ChangeKeysEq
import Derived.Deep.RegionHeld3
import Derived.Deep.DrawnRows
import Derived.Deep.RegionLaw
import Derived.Deep.DeepCutAuto
import Derived.BigRegion
import Derived.RegionTactic
namespace Go.Proofs.YtmpjgfecnnefeaaDoor
set_option maxRecDepth 8000
open Go

/-- word j of a number -/
def W (m j : Nat) : Nat := m / 2 ^ (64 * j) % 2 ^ 64
theorem W_bit (m j i : Nat) : (W m j).testBit i = (decide (i < 64) && m.testBit (64 * j + i)) := by
  unfold W
  rw [Nat.testBit_mod_two_pow, Nat.testBit_div_two_pow, Nat.add_comm]
theorem W_lt (m j : Nat) : W m j < 18446744073709551616 := by
  unfold W
  exact Nat.mod_lt _ (by decide)
theorem wl_W (m : Nat) : wl m = [(W m 0 : Int), (W m 1 : Int), (W m 2 : Int), (W m 3 : Int)] := by
  unfold wl W
  rw [show 2 ^ (64 * 0) = 1 from rfl, show 2 ^ (64 * 1) = 18446744073709551616 from rfl, show 2 ^ (64 * 2) = 340282366920938463463374607431768211456 from rfl, show 2 ^ (64 * 3) = 6277101735386680763835789423207666416102355444464034512896 from rfl, Nat.div_one]
theorem W_high (m j : Nat) (h : m < Big) (hj : 4 ≤ j) : W m j = 0 := by
  unfold W
  rw [Nat.div_eq_of_lt, Nat.zero_mod]
  rw [Big_eq] at h
  exact Nat.lt_of_lt_of_le h (Nat.pow_le_pow_right (by omega) (by omega))
theorem wl_get (m k : Nat) (hk : k < 4) : (wl m).getD k 0 = (W m k : Int) := by
  rw [wl_W]
  rcases k with _ | _ | _ | _ | k
  all_goals first | rfl | omega
theorem partZ_nat (m k : Nat) (h : m < Big) : partZ (wl m) (k : Int) = (W m k : Int) := by
  unfold partZ
  by_cases hk : k < 4
  · rw [if_pos (by omega), Int.toNat_natCast, wl_get m k hk]
  · rw [if_neg (by omega), W_high m k h (by omega)]
    rfl
theorem partZ_neg (xs : List Int) (i : Int) (h : i < 0) : partZ xs i = 0 := by
  unfold partZ
  rw [if_neg (by omega)]
theorem shlW (a r : Nat) : IntKind.u64.wrap ((a : Int) * 2 ^ r) = ((a * 2 ^ r % 2 ^ 64 : Nat) : Int) := by
  rw [IntKind.wrap_u64, show (2 : Nat) ^ 64 = 18446744073709551616 from rfl]
  simp
theorem shrW (a r : Nat) : (a : Int) / 2 ^ r = ((a / 2 ^ r : Nat) : Int) := by simp
theorem orW (a b : Nat) (ha : a < 18446744073709551616) (hb : b < 18446744073709551616) : bits .or .u64 (a : Int) (b : Int) = ((a ||| b : Nat) : Int) := bits_or_u64_nat a b ha hb
theorem upW_eq (m n k : Nat) (h : m < Big) : upW (wl m) ((n : Int) / 64) ((n : Int) % 64) k = (W (m * 2 ^ n) k : Int) := by
  have hr : ((n : Int) % 64).toNat = n % 64 := by omega
  have hr' : (64 - (n : Int) % 64).toNat = 64 - n % 64 := by omega
  have hn : n = 64 * (n / 64) + n % 64 := by omega
  have hr1 : n % 64 < 64 := by omega
  have hq : (n : Int) / 64 = ((n / 64 : Nat) : Int) := by omega
  unfold upW
  rw [hr, hr', hq]
  generalize n / 64 = p at *
  generalize n % 64 = r at *
  subst hn
  clear hr hr' hq
  have key : ∃ a b : Nat, partZ (wl m) ((k : Int) - p) = (a : Int) ∧ partZ (wl m) ((k : Int) - p - 1) = (b : Int) ∧ a < 18446744073709551616 ∧ b < 18446744073709551616 ∧ (∀ i, a.testBit i = (decide (i < 64) && (decide (p ≤ k) && m.testBit (64 * (k - p) + i)))) ∧ (∀ i, b.testBit i = (decide (i < 64) && (decide (p + 1 ≤ k) && m.testBit (64 * (k - p - 1) + i)))) := by
    refine ⟨if p ≤ k then W m (k - p) else 0, if p + 1 ≤ k then W m (k - p - 1) else 0, ?_, ?_, ?_, ?_, ?_, ?_⟩
    · by_cases c : p ≤ k
      · rw [if_pos c, show (k : Int) - p = ((k - p : Nat) : Int) by omega, partZ_nat m _ h]
      · rw [if_neg c, partZ_neg _ _ (by omega)]; rfl
    · by_cases c : p + 1 ≤ k
      · rw [if_pos c, show (k : Int) - p - 1 = ((k - p - 1 : Nat) : Int) by omega, partZ_nat m _ h]
      · rw [if_neg c, partZ_neg _ _ (by omega)]; rfl
    · split
      · exact W_lt _ _
      · decide
    · split
      · exact W_lt _ _
      · decide
    · intro i
      by_cases c : p ≤ k
      · rw [if_pos c, W_bit]; simp [c]
      · rw [if_neg c]; simp [c]
    · intro i
      by_cases c : p + 1 ≤ k
      · rw [if_pos c, W_bit]; simp [c]
      · rw [if_neg c]; simp [c]
  obtain ⟨a, b, ea, eb, la, lb, ta, tb⟩ := key
  have l1 : a * 2 ^ r % 2 ^ 64 < 18446744073709551616 := Nat.mod_lt _ (by decide)
  have l2 : b / 2 ^ (64 - r) < 18446744073709551616 := Nat.lt_of_le_of_lt (Nat.div_le_self _ _) lb
  rw [ea, eb, shlW, shrW, orW _ _ l1 l2]
  congr 1
  apply Nat.eq_of_testBit_eq
  intro i
  rw [Nat.testBit_or, Nat.testBit_mod_two_pow, Nat.testBit_mul_two_pow, Nat.testBit_div_two_pow, ta, tb, W_bit, Nat.testBit_mul_two_pow]
  by_cases hi : i < 64
  · by_cases hir : r ≤ i
    · by_cases hpk : p ≤ k
      · have e1 : 64 * (k - p) + (i - r) = 64 * k + i - (64 * p + r) := by omega
        rw [e1]
        simp only [hi, hir, hpk, ge_iff_le, decide_true, Bool.true_and, show i - r < 64 by omega, show 64 * p + r ≤ 64 * k + i by omega, show ¬ (i + (64 - r) < 64) by omega, decide_false, Bool.false_and, Bool.or_false]
      · simp only [hi, hpk, show ¬ (64 * p + r ≤ 64 * k + i) by omega, show ¬ (p + 1 ≤ k) by omega, ge_iff_le, decide_false, Bool.false_and, Bool.and_false, Bool.or_false]
    · by_cases hpk : p + 1 ≤ k
      · have e1 : 64 * (k - p - 1) + (i + (64 - r)) = 64 * k + i - (64 * p + r) := by omega
        rw [e1]
        simp only [hi, hir, hpk, ge_iff_le, decide_true, Bool.true_and, show i + (64 - r) < 64 by omega, show 64 * p + r ≤ 64 * k + i by omega, decide_false, Bool.false_and, Bool.false_or]
      · simp only [hi, hir, hpk, show ¬ (64 * p + r ≤ 64 * k + i) by omega, ge_iff_le, decide_false, Bool.false_and, Bool.and_false, Bool.or_false]
  · simp only [hi, decide_false, Bool.false_and, Bool.false_or, show ¬ (i + (64 - r) < 64) by omega]
theorem W_mod (m k : Nat) (hk : k < 4) : W (m % Big) k = W m k := by
  apply Nat.eq_of_testBit_eq
  intro i
  rw [W_bit, W_bit, Big_eq, Nat.testBit_mod_two_pow]
  by_cases hi : i < 64
  · simp [hi, show 64 * k + i < 256 by omega]
  · simp [hi]
theorem up_words (m n : Nat) (h : m < Big) : upL (wl m) ((n : Int) / 64) ((n : Int) % 64) 4 = wl (m * 2 ^ n % Big) := by
  rw [wl_W (m * 2 ^ n % Big)]
  simp only [upL, List.nil_append, List.cons_append, upW_eq m n _ h, W_mod _ 0 (by omega), W_mod _ 1 (by omega), W_mod _ 2 (by omega), W_mod _ 3 (by omega)]
theorem downW_eq (m n k : Nat) (h : m < Big) : downW (wl m) ((n : Int) / 64) ((n : Int) % 64) k = (W (m / 2 ^ n) k : Int) := by
  have hr : ((n : Int) % 64).toNat = n % 64 := by omega
  have hr' : (64 - (n : Int) % 64).toNat = 64 - n % 64 := by omega
  have hn : n = 64 * (n / 64) + n % 64 := by omega
  have hr1 : n % 64 < 64 := by omega
  have hq : (n : Int) / 64 = ((n / 64 : Nat) : Int) := by omega
  unfold downW
  rw [hr, hr', hq]
  generalize n / 64 = p at *
  generalize n % 64 = r at *
  subst hn
  clear hr hr' hq
  rw [show (k : Int) + p = ((k + p : Nat) : Int) by omega, show ((k + p : Nat) : Int) + 1 = ((k + p + 1 : Nat) : Int) by omega, partZ_nat m _ h, partZ_nat m _ h]
  have la := W_lt m (k + p)
  have l1 : W m (k + p + 1) * 2 ^ (64 - r) % 2 ^ 64 < 18446744073709551616 := Nat.mod_lt _ (by decide)
  have l2 : W m (k + p) / 2 ^ r < 18446744073709551616 := Nat.lt_of_le_of_lt (Nat.div_le_self _ _) la
  rw [shlW, shrW, orW _ _ l2 l1]
  congr 1
  apply Nat.eq_of_testBit_eq
  intro i
  rw [Nat.testBit_or, Nat.testBit_mod_two_pow, Nat.testBit_mul_two_pow, Nat.testBit_div_two_pow, W_bit, W_bit, W_bit, Nat.testBit_div_two_pow]
  by_cases hi : i < 64
  · by_cases hir : i + r < 64
    · have e1 : 64 * (k + p) + (i + r) = 64 * k + i + (64 * p + r) := by omega
      rw [e1]
      simp only [hi, hir, ge_iff_le, decide_true, Bool.true_and, show ¬ (64 - r ≤ i) by omega, decide_false, Bool.false_and, Bool.or_false]
    · have e1 : 64 * (k + p + 1) + (i - (64 - r)) = 64 * k + i + (64 * p + r) := by omega
      rw [e1]
      simp only [hi, hir, ge_iff_le, decide_true, Bool.true_and, show 64 - r ≤ i by omega, show i - (64 - r) < 64 by omega, decide_false, Bool.false_and, Bool.false_or]
  · simp only [hi, decide_false, Bool.false_and, Bool.or_false, show ¬ (i + r < 64) by omega]
theorem down_words (m n : Nat) (h : m < Big) : downL (wl m) ((n : Int) / 64) ((n : Int) % 64) 4 = wl (m / 2 ^ n) := by
  rw [wl_W (m / 2 ^ n)]
  simp only [downL, List.nil_append, List.cons_append, downW_eq m n _ h]
/-- a single bit -/
theorem bit_word (m i : Nat) (hi : i < 256) : bits .and .u64 ((wl m).getD ((i : Int) / 64).toNat 0 / 2 ^ ((i : Int) % 64).toNat) 1 = ((m / 2 ^ i % 2 : Nat) : Int) := by
  have e1 : ((i : Int) / 64).toNat = i / 64 := by omega
  have e2 : ((i : Int) % 64).toNat = i % 64 := by omega
  rw [e1, e2, wl_get m _ (by omega), shrW]
  have l2 : W m (i / 64) / 2 ^ (i % 64) < 18446744073709551616 := Nat.lt_of_le_of_lt (Nat.div_le_self _ _) (W_lt _ _)
  rw [show (1 : Int) = ((1 : Nat) : Int) from rfl, bits_and_u64_nat _ _ l2 (by decide), Nat.and_one_is_mod]
  congr 1
  have t0 := Nat.mod_two_eq_one_iff_testBit_zero (x := W m (i / 64) / 2 ^ (i % 64))
  have t1 := Nat.mod_two_eq_one_iff_testBit_zero (x := m / 2 ^ i)
  rw [Nat.testBit_div_two_pow, W_bit, show 64 * (i / 64) + (0 + i % 64) = i by omega] at t0
  rw [Nat.testBit_div_two_pow, Nat.zero_add] at t1
  simp only [Nat.zero_add, show i % 64 < 64 by omega, decide_true, Bool.true_and] at t0
  have m0 : W m (i / 64) / 2 ^ (i % 64) % 2 < 2 := Nat.mod_lt _ (by omega)
  have m1 : m / 2 ^ i % 2 < 2 := Nat.mod_lt _ (by omega)
  cases hb : m.testBit i
  · simp only [hb, Bool.false_eq_true, iff_false] at t0 t1; omega
  · simp only [hb, iff_true] at t0 t1; omega
end Go.Proofs.YtmpjgfecnnefeaaDoor

namespace Go.Proofs.YtmpjgfecnnefeaaDoor
set_option maxRecDepth 8000
open Go.RowKit

/-- the cells of a number -/
def wcs (n : Nat) : Array Value := arrW 4 (wl n)
theorem wc_size (n : Nat) : (wcs n).size = 4 := arrW_size 4 _ (by simp [wl_len])
theorem wc_one (n : Nat) : (wcs n).all (·.oneCell') = true := arrW_one 4 _
theorem wc_info (n : Nat) : (Tryd.prog.info? 26).map (·.size) = some (wcs n).size := infoW _ (wc_size n)
theorem wc_get (n k : Nat) (hk : k < 4) : (wcs n)[k]? = some (.int .u64 (W n k)) := by
  unfold wcs
  rw [arrW_get 4 _ k (by simp [wl_len]) hk, wl_get n k hk]
theorem wc_cells (n : Nat) : wcs n = #[.int .u64 (W n 0), .int .u64 (W n 1), .int .u64 (W n 2), .int .u64 (W n 3)] := by
  unfold wcs
  rw [wl_W]
  rfl
theorem wc_small (n : Nat) (h : n < 18446744073709551616) : wcs n = arrW 4 [(n : Int), 0, 0, 0] := by
  unfold wcs
  have := wl_mk4 n 0 0 0 h (by decide) (by decide) (by decide)
  rw [show mk4 n 0 0 0 = n by unfold mk4; omega] at this
  rw [this]
  rfl
theorem add_any (m n : Nat) (w : World) (hm : m < Big) (hn : n < Big) :
    Calls Tryd.prog 51 #[.agg (wcs m), .agg (wcs n)] w fun e w' => e = .returned (.tuple #[.agg (wcs ((m + n) % Big)), .bool (decide (m + n < Big))]) ∧ Below w.heap.size w w' := by
  have h := add_words m n hm hn
  refine (addw_any (wl m) (wl n) w (wl_len m) (wl_len n) (wl_words m) (wl_words n)).mono ?_
  rintro e w' ⟨rfl, hb⟩
  exact ⟨by rw [h.1, h.2]; rfl, hb⟩
theorem sub_any (m n : Nat) (w : World) (hm : m < Big) (hn : n < Big) :
    Calls Tryd.prog 52 #[.agg (wcs m), .agg (wcs n)] w fun e w' => e = .returned (.tuple #[.agg (wcs ((m + (Big - n)) % Big)), .bool (decide (n ≤ m))]) ∧ Below w.heap.size w w' := by
  have h := sub_words m n hm hn
  refine (subw_any (wl m) (wl n) w (wl_len m) (wl_len n) (wl_words m) (wl_words n)).mono ?_
  rintro e w' ⟨rfl, hb⟩
  exact ⟨by rw [h.1, h.2]; rfl, hb⟩
theorem up_any (m n : Nat) (w : World) (hm : m < Big) (hn : n ≤ 9223372036854775807) :
    Calls Tryd.prog 50 #[.agg (wcs m), .int .i64 n] w fun e w' => e = .returned (.agg (wcs (m * 2 ^ n % Big))) ∧ Below w.heap.size w w' := by
  have h := up_words m n hm
  have e : wcs m = arrW 4 [(W m 0 : Int), (W m 1 : Int), (W m 2 : Int), (W m 3 : Int)] := by unfold wcs; rw [wl_W]
  rw [e]
  rw [wl_W] at h
  refine (upw_any _ _ _ _ n w (by omega) (by omega)).mono ?_
  rintro e w' ⟨rfl, hb⟩
  exact ⟨by rw [h]; rfl, hb⟩
theorem down_any (m n : Nat) (w : World) (hm : m < Big) (hn : n ≤ 9223372036854775807) :
    Calls Tryd.prog 56 #[.agg (wcs m), .int .i64 n] w fun e w' => e = .returned (.agg (wcs (m / 2 ^ n))) ∧ Below w.heap.size w w' := by
  have h := down_words m n hm
  have e : wcs m = arrW 4 [(W m 0 : Int), (W m 1 : Int), (W m 2 : Int), (W m 3 : Int)] := by unfold wcs; rw [wl_W]
  rw [e]
  rw [wl_W] at h
  refine (downw_any _ _ _ _ n w (by omega) (by omega)).mono ?_
  rintro e w' ⟨rfl, hb⟩
  exact ⟨by rw [h]; rfl, hb⟩
theorem up_below (m : Nat) (n : Int) (w : World) (hn : n < 0) :
    Calls Tryd.prog 50 #[.agg (wcs m), .int .i64 n] w fun e w' => e = .returned (.agg (wcs m)) ∧ Below w.heap.size w w' := by
  have e : wcs m = arrW 4 [(W m 0 : Int), (W m 1 : Int), (W m 2 : Int), (W m 3 : Int)] := by unfold wcs; rw [wl_W]
  rw [e]
  exact up_neg _ _ _ _ n w hn
/-- a single bit of a number -/
def bitN (m i : Nat) : Nat := m / 2 ^ i % 2
theorem bit_n (m i : Nat) (w : World) (hi : i < 256) :
    Calls Tryd.prog 74 #[.agg (wcs m), .int .i64 i] w fun e w' => e = .returned (.int .u64 (bitN m i)) ∧ w' = w.alloc (.cells (wcs m) 26) := by
  have h := bit_word m i hi
  refine (bit_any (wl m) i w (wl_len m) (by omega) (by omega)).mono ?_
  rintro e w' ⟨rfl, hb⟩
  exact ⟨by rw [h]; rfl, hb⟩
theorem of_n (n : Nat) (w : World) (h : n < 18446744073709551616) :
    Calls Tryd.prog 27 #[.int .u64 n] w fun e w' => e = .returned (.agg (wcs n)) ∧ Below w.heap.size w w' := by
  rw [wc_small n h]
  exact of_any n w
theorem cellsU64 : Tryd.prog.cellsOf 24 = 1 := by kernel_rfl
theorem plainU64 : Tryd.prog.plainKey 24 = true := by kernel_rfl
theorem run_itemsW (d : Nat) (m n : Nat) (w : World) : ∀ is : List Nat, (∀ i ∈ is, i < 4) →
    (Op.eqItems (d + 1) 24 1 (wcs m) (wcs n) is).run Tryd.prog w = .ok (decide (∀ i ∈ is, W m i = W n i)) w
  | [], _ => by simp [Op.eqItems]
  | i :: is, h => by
    have hi := h i (by simp)
    have p1 := run_part_plain (P := Tryd.prog) w plainU64 (wc_get m i hi)
    have p2 := run_part_plain (P := Tryd.prog) w plainU64 (wc_get n i hi)
    have p3 := run_equalIn_int (P := Tryd.prog) w d 24 .u64 .u64 (W m i) (W n i) Tryd.underlying24
    have ih := run_itemsW d m n w is (fun j hj => h j (by simp [hj]))
    simp only [Op.eqItems, Sem.run_bind, Nat.mul_one, p1, p2, p3, Result.andThen_ok]
    by_cases e : W m i = W n i
    · have e' : ((W m i : Int) == (W n i : Int)) = true := by simp [e]
      rw [e']
      simp only [Bool.not_true, Bool.false_eq_true, if_false, ih, List.forall_mem_cons, e, true_and]
    · have e' : ((W m i : Int) == (W n i : Int)) = false := by simp; omega
      rw [e']
      simp only [Bool.not_false, if_true, Sem.run_pure, List.forall_mem_cons, e, false_and, decide_false]
def eqN (m n : Nat) : Bool := decide (m = n)
theorem words_eq_iff (m n : Nat) (hm : m < Big) (hn : n < Big) : (∀ i ∈ List.range 4, W m i = W n i) ↔ m = n := by
  constructor
  · intro h
    apply wl_inj hm hn
    rw [wl_W, wl_W, h 0 (by simp), h 1 (by simp), h 2 (by simp), h 3 (by simp)]
  · rintro rfl i _
    rfl
theorem run_equal_wide (m n : Nat) (hm : m < Big) (hn : n < Big) (w : World) : (Op.equal 26 (.agg (wcs m)) (.agg (wcs n))).run Tryd.prog w = .ok (eqN m n) w := by
  unfold Op.equal
  cases hq : Tryd.prog.info? 24 with
  | none =>
    have : (Tryd.prog.info? 24).isSome = true := by kernel_rfl
    rw [hq] at this
    cases this
  | some i =>
    have h := run_equalIn_array (P := Tryd.prog) w 9999 (wcs m) (wcs n) Tryd.underlying26 hq
    rw [cellsU64, run_itemsW 9998 m n w (List.range 4) (by simp)] at h
    have e : decide (∀ i ∈ List.range 4, W m i = W n i) = eqN m n := decide_eq_decide.2 (words_eq_iff m n hm hn)
    rw [e] at h
    exact h
theorem eql_wide (m n : Nat) (hm : m < Big) (hn : n < Big) (w : World) : (binOp .eql 26 (.agg (wcs m)) (.agg (wcs n))).run Tryd.prog w = .ok (.bool (eqN m n)) w := by
  simp only [binOp]
  simp [run_equal_wide m n hm hn w]
theorem Big_pos : 0 < Big := by decide
theorem eql_zero (m : Nat) (hm : m < Big) (w : World) : (binOp .eql 26 (.agg (wcs m)) (.agg #[.int .u64 0, .int .u64 0, .int .u64 0, .int .u64 0])).run Tryd.prog w = .ok (.bool (eqN m 0)) w := eql_wide m 0 hm Big_pos w
/-- -1, 0 or 1 -/
def cmpI (m n : Nat) : Int := if m < n then -1 else if m = n then 0 else 1
set_option maxHeartbeats 4000000 in
theorem cmp_any (m n : Nat) (w : World) (hm : m < Big) (hn : n < Big) :
    Calls Tryd.prog 55 #[.agg (wcs m), .agg (wcs n)] w fun e w' => e = .returned (.int .i64 (cmpI m n)) ∧ Below w.heap.size w w' := by
  have HM := Lib.hid hm
  have HN := Lib.hid hn
  have heq := eql_wide m n hm hn
  clear hm hn
  have R0 : Hid (((w.alloc (.cells (wcs m) 26)).alloc (.cells (wcs n) 26)).heap[w.heap.size]? = some (.cells (wcs m) 26 (0, 0))) := (Row.new w 26 _).alloc _
  have R1 : Hid (((w.alloc (.cells (wcs m) 26)).alloc (.cells (wcs n) 26)).heap[w.heap.size + 1]? = some (.cells (wcs n) 26 (0, 0))) := Row.newAt (by simp) 26 _
  have hbl : Hid (Below w.heap.size w ((w.alloc (.cells (wcs m) 26)).alloc (.cells (wcs n) 26))) := by show Below _ _ _; go_grown
  cases hc : eqN m n
  · rw [hc] at heq
    have hne0 : m ≠ n := by simpa [eqN] using hc
    have hne := Lib.hid hne0
    clear hc hne0
    go_enter Tryd.func55, Tryd.ntmps55
    go_wp2_with (first
      | ((with_reducible refine wpList_load_row (o := ⟨some 7, _, _, _, _, _⟩) ?_ 26 (.tmp 2) ?_ w.heap.size ?_ 26 (wcs m) (0, 0) _ R0.out Tryd.underlying26 ?_ (wc_info _) ?_); (rfl); (rfl); (rfl); (rfl))
      | ((with_reducible refine wpList_load_row (o := ⟨some 8, _, _, _, _, _⟩) ?_ 26 (.tmp 3) ?_ (w.heap.size + 1) ?_ 26 (wcs n) (0, 0) _ R1.out Tryd.underlying26 ?_ (wc_info _) ?_); (rfl); (rfl); (rfl); (rfl))
      | ((with_reducible refine wpList_load_row (o := ⟨some 11, _, _, _, _, _⟩) ?_ 26 (.tmp 2) ?_ w.heap.size ?_ 26 (wcs m) (0, 0) _ R0.out Tryd.underlying26 ?_ (wc_info _) ?_); (rfl); (rfl); (rfl); (rfl))
      | ((with_reducible refine wpList_load_row (o := ⟨some 12, _, _, _, _, _⟩) ?_ 26 (.tmp 3) ?_ (w.heap.size + 1) ?_ 26 (wcs n) (0, 0) _ R1.out Tryd.underlying26 ?_ (wc_info _) ?_); (rfl); (rfl); (rfl); (rfl)))
    refine (sub_any m n _ HM.out HN.out).mono ?_
    rintro e w1 ⟨rfl, hb⟩
    have b1 := Lib.hid (hbl.out.trans (hb.mono hbl.out.size))
    clear hb hbl R0 R1 heq
    have hw1 : Hid (w.heap.size ≤ w1.heap.size) := b1.out.size
    by_cases hle : n ≤ m
    · have hle' : decide (n ≤ m) = true := by simpa using hle
      have hres : Hid (cmpI m n = 1) := by show _ = _; unfold cmpI; rw [if_neg (by omega), if_neg hne.out]
      rw [hle']
      clear hle hle'
      have hsz := wc_size ((m + (Big - n)) % Big)
      have hon := wc_one ((m + (Big - n)) % Big)
      have hin := wc_info ((m + (Big - n)) % Big)
      generalize wcs ((m + (Big - n)) % Big) = cs at *
      have HSZ := Lib.hid hsz
      have HON := Lib.hid hon
      have HIN := Lib.hid hin
      clear hsz hon hin
      go_wp2_with ((with_reducible refine wpList_store_row (o := ⟨none, .store 26 _ _, _, _, _, _⟩) ?_ 26 (.tmp 5) (.tmp 14) ?_ w1.heap.size cs ?_ ?_ 26 _ (heap_alloc_last w1 _) HIN.out ?_ HON.out ?_); (rfl); (rfl); (rfl); (rfl); (rw [HSZ.out]; rfl); rw [World.setRow_alloc_new])
      go_ret
      exact ⟨by rw [hres.out]; rfl, b1.out.alloc hw1.out _⟩
    · have hle' : decide (n ≤ m) = false := by simpa using hle
      have hres : Hid (cmpI m n = -1) := by show _ = _; unfold cmpI; rw [if_pos (by omega)]
      rw [hle']
      clear hle hle'
      have hsz := wc_size ((m + (Big - n)) % Big)
      have hon := wc_one ((m + (Big - n)) % Big)
      have hin := wc_info ((m + (Big - n)) % Big)
      generalize wcs ((m + (Big - n)) % Big) = cs at *
      have HSZ := Lib.hid hsz
      have HON := Lib.hid hon
      have HIN := Lib.hid hin
      clear hsz hon hin
      go_wp2_with ((with_reducible refine wpList_store_row (o := ⟨none, .store 26 _ _, _, _, _, _⟩) ?_ 26 (.tmp 5) (.tmp 14) ?_ w1.heap.size cs ?_ ?_ 26 _ (heap_alloc_last w1 _) HIN.out ?_ HON.out ?_); (rfl); (rfl); (rfl); (rfl); (rw [HSZ.out]; rfl); rw [World.setRow_alloc_new])
      go_ret
      exact ⟨by rw [hres.out]; rfl, b1.out.alloc hw1.out _⟩
  · rw [hc] at heq
    have hne0 : m = n := by simpa [eqN] using hc
    have hne := Lib.hid hne0
    clear hc hne0
    have hres : Hid (cmpI m n = 0) := by show _ = _; unfold cmpI; rw [if_neg (by have := hne.out; omega), if_pos hne.out]
    go_enter Tryd.func55, Tryd.ntmps55
    go_wp2_with (first
      | ((with_reducible refine wpList_load_row (o := ⟨some 7, _, _, _, _, _⟩) ?_ 26 (.tmp 2) ?_ w.heap.size ?_ 26 (wcs m) (0, 0) _ R0.out Tryd.underlying26 ?_ (wc_info _) ?_); (rfl); (rfl); (rfl); (rfl))
      | ((with_reducible refine wpList_load_row (o := ⟨some 8, _, _, _, _, _⟩) ?_ 26 (.tmp 3) ?_ (w.heap.size + 1) ?_ 26 (wcs n) (0, 0) _ R1.out Tryd.underlying26 ?_ (wc_info _) ?_); (rfl); (rfl); (rfl); (rfl)))
    go_ret
    exact ⟨by rw [hres.out]; rfl, hbl.out⟩
end Go.Proofs.YtmpjgfecnnefeaaDoor

namespace Go.Proofs.YtmpjgfecnnefeaaDoor
set_option maxRecDepth 8000
open Go.RowKit
attribute [local go_sem ↓] Go.wp_at_zero Go.wp_at_succ

/-- the first k bits of a number -/
def topN (a k : Nat) : Nat := a / 2 ^ (256 - k)
theorem top_zero (a : Nat) (h : a < Big) : topN a 0 = 0 := by
  unfold topN
  rw [Big_eq] at h
  exact Nat.div_eq_of_lt h
theorem top_all (a : Nat) : topN a 256 = a := by
  unfold topN
  simp
theorem top_step (a k : Nat) (h : k < 256) : topN a (k + 1) = 2 * topN a k + bitN a (255 - k) := by
  unfold topN bitN
  have e : 256 - k = (256 - (k + 1)) + 1 := by omega
  rw [e, Nat.pow_succ, ← Nat.div_div_eq_div_mul, show 255 - k = 256 - (k + 1) by omega]
  omega
theorem top_lt (a k : Nat) (h : a < Big) (hk : k ≤ 256) : topN a k < 2 ^ k := by
  unfold topN
  rw [Big_eq] at h
  rw [Nat.div_lt_iff_lt_mul (Nat.two_pow_pos _), ← Nat.pow_add, show k + (256 - k) = 256 by omega]
  exact h
theorem bitN_lt (a i : Nat) : bitN a i < 2 := Nat.mod_lt _ (by omega)
/-- the last bit of an even number set -/
theorem or_even (v b : Nat) (hv : v < 18446744073709551616) (h2 : v % 2 = 0) (hb : b < 2) : bits .or .u64 (v : Int) (b : Int) = ((v + b : Nat) : Int) := by
  rw [bits_or_u64_nat v b hv (by omega)]
  congr 1
  have h := Nat.shiftLeft_add_eq_or_of_lt (a := v / 2) (b := b) (i := 1) (by omega)
  rw [Nat.shiftLeft_eq] at h
  rw [show v / 2 * 2 ^ 1 = v by omega] at h
  exact h.symm
theorem W0 (m : Nat) : W m 0 = m % 18446744073709551616 := by
  unfold W
  simp
/-- the first word of an even number gets a bit -/
theorem wc_set_bit (v b : Nat) (hv : v < Big) (h2 : v % 2 = 0) (hb : b < 2) : (wcs v).setIfInBounds 0 (.int .u64 (bits .or .u64 (W v 0) b)) = wcs (v + b) := by
  obtain ⟨x, y, z, u, rfl, hx, hy, hz, hu⟩ := split4 v hv
  have e : mk4 x y z u + b = mk4 (x + b) y z u := by unfold mk4; omega
  have hx2 : x % 2 = 0 := by unfold mk4 at h2; omega
  have ew : W (mk4 x y z u) 0 = x := by rw [W0]; unfold mk4; omega
  rw [e, ew, or_even x b hx hx2 hb]
  unfold wcs
  rw [wl_mk4 x y z u hx hy hz hu, wl_mk4 (x + b) y z u (by omega) hy hz hu]
  rfl
theorem div_round (a b k : Nat) (hb : 0 < b) (hB : b < Big) (l v : Nat) (hl : l = topN a k % b) (hv : v = 2 * l + bitN a (255 - k)) (hk : k < 256) :
    (b ≤ v → topN a (k + 1) / b = 2 * (topN a k / b) + 1 ∧ topN a (k + 1) % b = v - b) ∧ (v < b → topN a (k + 1) / b = 2 * (topN a k / b) ∧ topN a (k + 1) % b = v) := by
  have ht := top_step a k hk
  have hlb : l < b := hl ▸ Nat.mod_lt _ hb
  have hbit := bitN_lt a (255 - k)
  have e : topN a (k + 1) = b * (2 * (topN a k / b)) + v := by
    rw [ht, hv, hl]
    have := Nat.div_add_mod (topN a k) b
    generalize topN a k / b = q at *
    rw [show b * (2 * q) = 2 * (b * q) by rw [Nat.mul_left_comm]]
    omega
  constructor
  · intro h
    have e2 : topN a (k + 1) = (v - b) + b * (2 * (topN a k / b) + 1) := by
      rw [e, Nat.mul_add, Nat.mul_one]; omega
    have hlt : v - b < b := by omega
    rw [e2, Nat.add_mul_div_left _ _ hb, Nat.add_mul_mod_self_left, Nat.div_eq_of_lt hlt, Nat.mod_eq_of_lt hlt]
    exact ⟨by omega, rfl⟩
  · intro h
    rw [e, Nat.mul_add_div hb, Nat.mul_add_mod, Nat.div_eq_of_lt h, Nat.mod_eq_of_lt h]
    exact ⟨by omega, rfl⟩
/-- what lies in memory at the head of a round -/
structure DivAt (w u : World) (g a b q l : Nat) : Prop where
  a : u.heap[g]? = some (.cells (wcs a) 26 (0, 0))
  b : u.heap[g + 1]? = some (.cells (wcs b) 26 (0, 0))
  r : u.heap[g + 1 + 1]? = some (.cells (wcs 0) 26 (0, 0))
  s : u.heap[g + 1 + 1 + 1]? = some (.cells (wcs 0) 26 (0, 0))
  q : u.heap[g + 1 + 1 + 1 + 1]? = some (.cells (wcs q) 26 (0, 0))
  l : u.heap[g + 1 + 1 + 1 + 1 + 1]? = some (.cells (wcs l) 26 (0, 0))
  lt : g + 1 + 1 + 1 + 1 + 1 < u.heap.size
  bel : Below g w u
theorem DivAt.below {w u v : World} {g a b q l : Nat} (h : DivAt w u g a b q l) (hb : Below u.heap.size u v) : DivAt w v g a b q l := by
  have := h.lt
  exact ⟨(hb.block _ (by omega)).trans h.a, (hb.block _ (by omega)).trans h.b, (hb.block _ (by omega)).trans h.r, (hb.block _ (by omega)).trans h.s, (hb.block _ (by omega)).trans h.q, (hb.block _ (by omega)).trans h.l, Nat.lt_of_lt_of_le h.lt hb.size, h.bel.trans (hb.mono (by omega))⟩
theorem DivAt.setL {w u : World} {g a b q l l' : Nat} (h : DivAt w u g a b q l) : DivAt w (u.setRow (g + 1 + 1 + 1 + 1 + 1) (wcs l')) g a b q l' := by
  have := h.lt
  exact ⟨(setRow_other _ _ _ _ (by omega)).trans h.a, (setRow_other _ _ _ _ (by omega)).trans h.b, (setRow_other _ _ _ _ (by omega)).trans h.r, (setRow_other _ _ _ _ (by omega)).trans h.s, (setRow_other _ _ _ _ (by omega)).trans h.q, setRow_heap _ _ (wcs l) _ _ _ h.l, by rw [size_setRow]; exact h.lt, below_setRow h.bel (by omega) _⟩
theorem DivAt.setQ {w u : World} {g a b q l q' : Nat} (h : DivAt w u g a b q l) : DivAt w (u.setRow (g + 1 + 1 + 1 + 1) (wcs q')) g a b q' l := by
  have := h.lt
  exact ⟨(setRow_other _ _ _ _ (by omega)).trans h.a, (setRow_other _ _ _ _ (by omega)).trans h.b, (setRow_other _ _ _ _ (by omega)).trans h.r, (setRow_other _ _ _ _ (by omega)).trans h.s, setRow_heap _ _ (wcs q) _ _ _ h.q, (setRow_other _ _ _ _ (by omega)).trans h.l, by rw [size_setRow]; exact h.lt, below_setRow h.bel (by omega) _⟩
theorem DivAt.drew {w u : World} {g a b q l : Nat} (h : DivAt w u g a b q l) : DivAt w u.drew g a b q l := ⟨h.a, h.b, h.r, h.s, h.q, h.l, h.lt, h.bel.drew⟩
theorem DivAt.alloc {w u : World} {g a b q l : Nat} (h : DivAt w u g a b q l) (o : Obj) : DivAt w (u.alloc o) g a b q l := h.below ((Below.refl _ _).alloc (Nat.le_refl _) _)
/-- the first word of what is left gets its bit -/
theorem DivAt.bitL {w u : World} {g a b q l c : Nat} (h : DivAt w u g a b q l) (hl : l < Big) (h2 : l % 2 = 0) (hc : c < 2) : DivAt w (u.setCell ⟨g + 1 + 1 + 1 + 1 + 1, 0, none⟩ (.int .u64 (bits .or .u64 (W l 0) c))) g a b q (l + c) := by
  have := h.lt
  have ra : Row u g 26 (wcs a) := h.a
  have rb : Row u (g + 1) 26 (wcs b) := h.b
  have rr : Row u (g + 1 + 1) 26 (wcs 0) := h.r
  have rs : Row u (g + 1 + 1 + 1) 26 (wcs 0) := h.s
  have rq : Row u (g + 1 + 1 + 1 + 1) 26 (wcs q) := h.q
  have rl : Row u (g + 1 + 1 + 1 + 1 + 1) 26 (wcs l) := h.l
  exact ⟨ra.farAt (by omega) _, rb.farAt (by omega) _, rr.farAt (by omega) _, rs.farAt (by omega) _, rq.farAt (by omega) _, by rw [← wc_set_bit l c hl h2 hc]; exact rl.put 0 _, by simpa using h.lt, h.bel.setCell (by simp; omega) _⟩
theorem DivAt.bitQ {w u : World} {g a b q l c : Nat} (h : DivAt w u g a b q l) (hl : q < Big) (h2 : q % 2 = 0) (hc : c < 2) : DivAt w (u.setCell ⟨g + 1 + 1 + 1 + 1, 0, none⟩ (.int .u64 (bits .or .u64 (W q 0) c))) g a b (q + c) l := by
  have := h.lt
  have ra : Row u g 26 (wcs a) := h.a
  have rb : Row u (g + 1) 26 (wcs b) := h.b
  have rr : Row u (g + 1 + 1) 26 (wcs 0) := h.r
  have rs : Row u (g + 1 + 1 + 1) 26 (wcs 0) := h.s
  have rq : Row u (g + 1 + 1 + 1 + 1) 26 (wcs q) := h.q
  have rl : Row u (g + 1 + 1 + 1 + 1 + 1) 26 (wcs l) := h.l
  exact ⟨ra.farAt (by omega) _, rb.farAt (by omega) _, rr.farAt (by omega) _, rs.farAt (by omega) _, by rw [← wc_set_bit q c hl h2 hc]; exact rq.put 0 _, rl.farAt (by omega) _, by simpa using h.lt, h.bel.setCell (by simp; omega) _⟩
end Go.Proofs.YtmpjgfecnnefeaaDoor

namespace Go.Proofs.YtmpjgfecnnefeaaDoor
set_option maxRecDepth 8000
open Go.RowKit
attribute [local go_sem ↓] Go.wp_at_zero Go.wp_at_succ

theorem up_one (m : Nat) (w : World) (hm : m < Big) :
    Calls Tryd.prog 50 #[.agg (wcs m), .int .i64 1] w fun e w' => e = .returned (.agg (wcs (2 * m % Big))) ∧ Below w.heap.size w w' := by
  have h := up_any m 1 w hm (by decide)
  rw [show m * 2 ^ 1 = 2 * m by omega] at h
  exact h
theorem bit_top (m : Nat) (w : World) :
    Calls Tryd.prog 74 #[.agg (wcs m), .int .i64 255] w fun e w' => e = .returned (.int .u64 (bitN m 255)) ∧ w' = w.alloc (.cells (wcs m) 26) := bit_n m 255 w (by decide)
theorem bit_at (m k : Nat) (w : World) (hk : k < 256) :
    Calls Tryd.prog 74 #[.agg #[.int .u64 (W m 0), .int .u64 (W m 1), .int .u64 (W m 2), .int .u64 (W m 3)], .int .i64 (255 - (k : Int))] w fun e w' => e = .returned (.int .u64 (bitN m (255 - k))) ∧ w' = w.alloc (.cells #[.int .u64 (W m 0), .int .u64 (W m 1), .int .u64 (W m 2), .int .u64 (W m 3)] 26) := by
  have h := bit_n m (255 - k) w (by omega)
  rw [wc_cells, show ((255 - k : Nat) : Int) = 255 - (k : Int) by omega] at h
  exact h

theorem div_cases (a b k l c l1 : Nat) (hlb : l < b) (hb : b < Big) (hc : bitN l 255 = c) (hl1 : 2 * l % Big = l1) : l1 + bitN a (255 - k) < Big ∧
    ((c = 1 ∧ ¬ b ≤ l1 + bitN a (255 - k) ∧ b ≤ 2 * l + bitN a (255 - k) ∧ (l1 + bitN a (255 - k) + (Big - b)) % Big = 2 * l + bitN a (255 - k) - b) ∨
     (c = 0 ∧ b ≤ l1 + bitN a (255 - k) ∧ b ≤ 2 * l + bitN a (255 - k) ∧ (l1 + bitN a (255 - k) + (Big - b)) % Big = 2 * l + bitN a (255 - k) - b) ∨
     (c = 0 ∧ ¬ b ≤ l1 + bitN a (255 - k) ∧ 2 * l + bitN a (255 - k) < b ∧ l1 + bitN a (255 - k) = 2 * l + bitN a (255 - k))) := by
  have he := bitN_lt a (255 - k)
  generalize bitN a (255 - k) = e at *
  unfold bitN at hc
  rw [show 2 ^ 255 = 57896044618658097711785492504343953926634992332820282019728792003956564819968 from rfl] at hc
  unfold Big at *
  by_cases h : l < 57896044618658097711785492504343953926634992332820282019728792003956564819968
  · have hc0 : c = 0 := by omega
    by_cases h2 : b ≤ l1 + e
    · exact ⟨by omega, .inr (.inl ⟨hc0, h2, by omega, by omega⟩)⟩
    · exact ⟨by omega, .inr (.inr ⟨hc0, h2, by omega, by omega⟩)⟩
  · exact ⟨by omega, .inl ⟨by omega, by omega, by omega, by omega⟩⟩
theorem put_none (a : Act) (v : Value) : a.put none v = a := rfl
set_option maxHeartbeats 8000000 in
set_option maxRecDepth 100000 in
theorem div_yes (a b : Nat) (w : World) (ha : a < Big) (hb : b < Big) (hb0 : 0 < b) :
    Calls Tryd.prog 53 #[.agg (wcs a), .agg (wcs b)] w fun e w' => e = .returned (.tuple #[.agg (wcs (a / b)), .agg (wcs (a % b)), .bool true]) ∧ Below w.heap.size w w' := by
  have HA := Lib.hid ha
  have HB := Lib.hid hb
  have HB0 := Lib.hid hb0
  have heq := eql_zero b hb
  have hz : eqN b 0 = false := by simp [eqN]; omega
  rw [hz] at heq
  clear ha hb hb0 hz
  have R1 : Hid (((((w.alloc (.cells (wcs a) 26)).alloc (.cells (wcs b) 26)).alloc (.cells (wcs 0) 26)).alloc (.cells (wcs 0) 26)).heap[w.heap.size + 1]? = some (.cells (wcs b) 26 (0, 0))) := ((Row.newAt (by simp) 26 _).alloc _).alloc _
  go_enter Tryd.func53, Tryd.ntmps53
  go_wp2_with ((with_reducible refine wpList_load_row (o := ⟨some 13, _, _, _, _, _⟩) ?_ 26 (.tmp 3) ?_ (w.heap.size + 1) ?_ 26 (wcs b) (0, 0) _ ?_ Tryd.underlying26 ?_ (wc_info _) ?_); (rfl); (rfl); (rfl); (exact R1.out); (rfl))
  clear heq R1
  go_loopw [18] (fun i u => ∃ k : Nat, k ≤ 256 ∧ i = .int .i64 k ∧ Hid (DivAt w u w.heap.size a b (topN a k / b) (topN a k % b))) (fun i _ => 256 - (intOf i).toNat)
  case atStart =>
    refine ⟨0, by omega, rfl, ?_⟩
    show DivAt _ _ _ _ _ _ _
    rw [top_zero a HA.out, Nat.zero_div, Nat.zero_mod]
    exact ⟨((((((Row.new w 26 _).alloc _).alloc _).alloc _).alloc _).alloc _), (((((Row.newAt (by simp) 26 _).alloc _).alloc _).alloc _).alloc _), ((((Row.newAt (by simp) 26 _).alloc _).alloc _).alloc _), (((Row.newAt (by simp) 26 _).alloc _).alloc _), ((Row.newAt (by simp) 26 _).alloc _), (Row.newAt (by simp) 26 _), by simp, by go_grown⟩
  case round =>
    obtain ⟨k, hk, rfl, K0⟩ := hrel
    by_cases hlt : k < 256
    · have hk0 : (0 : Int) ≤ (k : Int) := by omega
      have hlti : (k : Int) < 256 := by omega
      have HD := Lib.hid (div_round a b k HB0.out HB.out _ _ rfl rfl hlt)
      have HLB := Lib.hid (Nat.mod_lt (topN a k) HB0.out)
      have HQ := Lib.hid (Nat.lt_of_le_of_lt (Nat.div_le_self (topN a k) b) (top_lt a k HA.out hk))
      generalize topN a k / b = q at *
      generalize topN a k % b = l at *
      go_wp2_with ((with_reducible refine wpList_load_row (o := ⟨some 21, _, _, _, _, _⟩) ?_ 26 (.tmp 8) ?_ (w.heap.size + 1 + 1 + 1 + 1 + 1) ?_ 26 (wcs l) (0, 0) _ K0.out.l Tryd.underlying26 ?_ (wc_info _) ?_); (rfl); (rfl); (rfl); (rfl))
      refine (bit_top l wr).mono ?_
      rintro e w1 ⟨rfl, rfl⟩
      have K1 := Lib.hid (K0.out.alloc (.cells (wcs l) 26))
      clear K0
      generalize wr.alloc (.cells (wcs l) 26) = w1 at *
      generalize hlost : bitN l 255 = c at *
      have HC := Lib.hid hlost
      clear hlost
      go_wp2_with ((with_reducible refine wpList_load_row (o := ⟨some 24, _, _, _, _, _⟩) ?_ 26 (.tmp 8) ?_ (w.heap.size + 1 + 1 + 1 + 1 + 1) ?_ 26 (wcs l) (0, 0) _ K1.out.l Tryd.underlying26 ?_ (wc_info _) ?_); (rfl); (rfl); (rfl); (rfl))
      refine (up_one l w1 (by have := HLB.out; have := HB.out; omega)).mono ?_
      rintro e w2 ⟨rfl, hbel⟩
      have K2 := Lib.hid (K1.out.below hbel)
      clear K1 hbel
      have hl1 : Hid (2 * l % Big < Big) := Nat.mod_lt _ Big_pos
      have hl2 : Hid (2 * l % Big % 2 = 0) := by show _ = _; unfold Big; omega
      generalize hl' : 2 * l % Big = l1 at *
      have HL1 := Lib.hid hl'
      clear hl'
      have K3 : Hid (DivAt w (w2.setRow (w.heap.size + 1 + 1 + 1 + 1 + 1) (wcs l1)) w.heap.size a b q l1) := K2.out.setL
      have KL : Hid (w2.heap[w.heap.size + 1 + 1 + 1 + 1 + 1]? = some (.cells (wcs l) 26 (0, 0))) := K2.out.l
      clear K2
      go_upto_region 9 with ((with_reducible refine wpList_store_row (o := ⟨none, .store 26 _ _, _, _, _, _⟩) ?_ 26 (.tmp 8) (.tmp 25) ?_ (w.heap.size + 1 + 1 + 1 + 1 + 1) (wcs l1) ?_ ?_ 26 (wcs l) KL.out (wc_info l1) (by rw [wc_size, wc_size]) (wc_one l1) ?_); (rfl); (rfl); (rfl); (rfl))
      clear KL
      generalize w2.setRow (w.heap.size + 1 + 1 + 1 + 1 + 1) (wcs l1) = w3 at *
      have ra : Row w3 w.heap.size 26 (wcs a) := K3.out.a
      have rl : Row w3 (w.heap.size + 1 + 1 + 1 + 1 + 1) 26 (wcs l1) := K3.out.l
      have c0 : w3.cell? ⟨w.heap.size, 0, none⟩ = some (.int .u64 (W a 0)) := (ra.cell 0).trans (wc_get a 0 (by decide))
      have c1 : w3.cell? ⟨w.heap.size, 1, none⟩ = some (.int .u64 (W a 1)) := (ra.cell 1).trans (wc_get a 1 (by decide))
      have c2 : w3.cell? ⟨w.heap.size, 2, none⟩ = some (.int .u64 (W a 2)) := (ra.cell 2).trans (wc_get a 2 (by decide))
      have c3 : w3.cell? ⟨w.heap.size, 3, none⟩ = some (.int .u64 (W a 3)) := (ra.cell 3).trans (wc_get a 3 (by decide))
      have d0 : w3.cell? ⟨w.heap.size + 1 + 1 + 1 + 1 + 1, 0, none⟩ = some (.int .u64 (W l1 0)) := (rl.cell 0).trans (wc_get l1 0 (by decide))
      have f0 : w3.frozen? ⟨w.heap.size + 1 + 1 + 1 + 1 + 1, 0, none⟩ = false := rl.frozen 0
      have s5 : w.heap.size + 1 + 1 + 1 + 1 + 1 < w3.heap.size := K3.out.lt
      have s4 : w.heap.size + 1 + 1 + 1 + 1 < w3.heap.size := by omega
      have s0 : w.heap.size < w3.heap.size := by omega
      have dw : IntKind.i64.wrap (255 - (k : Int)) = 255 - (k : Int) := by rw [IntWalk.i64_in _ (by omega)]
      clear ra rl
      rw [put_none]
      go_cut [] (fun wx => Hid (DivAt w wx w.heap.size a b q (l1 + bitN a (255 - k))))
      case first =>
        go_region_law (first | (go_simp; go_at_call 74; refine (bit_at a k _ hlt).mono ?_; rintro e w' ⟨rfl, rfl⟩))
        all_goals (go_wp2_with fail; go_meet; exact ((K3.out.bitL hl1.out hl2.out (bitN_lt _ _)).alloc _).drew)
      case rest =>
        have K4 := hcut
        clear hcut c0 c1 c2 c3 d0 f0 s5 s4 s0 dw K3
        have HDC := Lib.hid (div_cases a b k l c l1 HLB.out HB.out HC.out HL1.out)
        clear HC HL1 hl1 hl2
        generalize bitN a (255 - k) = e at *
        generalize hv : l1 + e = v at *
        have HV := Lib.hid hv
        clear hv
        have hv1 : Hid (v < Big) := HDC.out.1
        have hq1 : Hid (2 * q < Big) := by
          show _ < _
          have h := HQ.out
          rw [Big_eq]
          have : 2 ^ (k + 1) ≤ 2 ^ 256 := Nat.pow_le_pow_right (by omega) (by omega)
          rw [Nat.pow_succ] at this
          omega
        go_wp2_with ((with_reducible refine wpList_load_row (o := ⟨some 34, _, _, _, _, _⟩) ?_ 26 (.tmp 7) ?_ (w.heap.size + 1 + 1 + 1 + 1) ?_ 26 (wcs q) (0, 0) _ K4.out.q Tryd.underlying26 ?_ (wc_info _) ?_); (rfl); (rfl); (rfl); (rfl))
        refine (up_one q wc (by have := hq1.out; omega)).mono ?_
        rintro e' w5 ⟨rfl, hbel⟩
        rw [Nat.mod_eq_of_lt hq1.out]
        have K5 := Lib.hid (K4.out.below hbel)
        have K6 : Hid (DivAt w (w5.setRow (w.heap.size + 1 + 1 + 1 + 1) (wcs (2 * q))) w.heap.size a b (2 * q) v) := K5.out.setQ
        have KQ : Hid (w5.heap[w.heap.size + 1 + 1 + 1 + 1]? = some (.cells (wcs q) 26 (0, 0))) := K5.out.q
        clear hbel K5 K4
        go_wp2_with (first
          | ((with_reducible refine wpList_store_row (o := ⟨none, .store 26 _ _, _, _, _, _⟩) ?_ 26 (.tmp 7) (.tmp 35) ?_ (w.heap.size + 1 + 1 + 1 + 1) (wcs (2 * q)) ?_ ?_ 26 (wcs q) KQ.out (wc_info _) (by rw [wc_size, wc_size]) (wc_one _) ?_); (rfl); (rfl); (rfl); (rfl))
          | ((with_reducible refine wpList_load_row (o := ⟨some 37, _, _, _, _, _⟩) ?_ 26 (.tmp 8) ?_ (w.heap.size + 1 + 1 + 1 + 1 + 1) ?_ 26 (wcs v) (0, 0) _ K6.out.l Tryd.underlying26 ?_ (wc_info _) ?_); (rfl); (rfl); (rfl); (rfl))
          | ((with_reducible refine wpList_load_row (o := ⟨some 38, _, _, _, _, _⟩) ?_ 26 (.tmp 3) ?_ (w.heap.size + 1) ?_ 26 (wcs b) (0, 0) _ K6.out.b Tryd.underlying26 ?_ (wc_info _) ?_); (rfl); (rfl); (rfl); (rfl)))
        clear KQ
        generalize w5.setRow (w.heap.size + 1 + 1 + 1 + 1) (wcs (2 * q)) = w6 at *
        refine (sub_any v b w6 hv1.out HB.out).mono ?_
        rintro e' w7 ⟨rfl, hbel⟩
        have K7 := Lib.hid (K6.out.below hbel)
        clear hbel K6 HLB HQ HV
        rcases HDC.out.2 with ⟨hc, hle, hbv, hmod⟩ | ⟨hc, hle, hbv, hmod⟩ | ⟨hc, hle, hbv, hmod⟩
        · have hcb : ((c : Int) == 1) = true := by rw [hc]; rfl
          have hle' : decide (b ≤ v) = false := by simpa using hle
          have hnew : Hid (topN a (k + 1) / b = 2 * q + 1 ∧ topN a (k + 1) % b = (v + (Big - b)) % Big) := by
            show _ ∧ _
            rw [hmod]
            exact HD.out.1 hbv
          rw [hcb, hle']
          clear hcb hle' hmod hbv hle hc HD HDC
          have hsz := Lib.hid (wc_size ((v + (Big - b)) % Big))
          have hon := Lib.hid (wc_one ((v + (Big - b)) % Big))
          have hin := Lib.hid (wc_info ((v + (Big - b)) % Big))
          have K8 : Hid (DivAt w ((w7.alloc (.cells (wcs ((v + (Big - b)) % Big)) 26)).setRow (w.heap.size + 1 + 1 + 1 + 1 + 1) (wcs ((v + (Big - b)) % Big))) w.heap.size a b (2 * q) ((v + (Big - b)) % Big)) := (K7.out.alloc _).setL
          have KL : Hid ((w7.alloc (.cells (wcs ((v + (Big - b)) % Big)) 26)).heap[w.heap.size + 1 + 1 + 1 + 1 + 1]? = some (.cells (wcs v) 26 (0, 0))) := (K7.out.alloc _).l
          clear K7
          generalize (v + (Big - b)) % Big = r at *
          go_upto_region 14 with (first
            | ((with_reducible refine wpList_store_row (o := ⟨none, .store 26 (.tmp 11) _, _, _, _, _⟩) ?_ 26 (.tmp 11) (.tmp 40) ?_ w7.heap.size (wcs r) ?_ ?_ 26 _ (heap_alloc_last w7 _) hin.out ?_ hon.out ?_); (rfl); (rfl); (rfl); (rfl); (rw [hsz.out]; rfl); rw [World.setRow_alloc_new])
            | ((with_reducible refine wpList_load_row (o := ⟨some 46, _, _, _, _, _⟩) ?_ 26 (.tmp 11) ?_ w7.heap.size ?_ 26 (wcs r) (0, 0) _ (heap_alloc_last w7 _) Tryd.underlying26 ?_ (wc_info _) ?_); (rfl); (rfl); (rfl); (rfl))
            | ((with_reducible refine wpList_store_row (o := ⟨none, .store 26 (.tmp 8) _, _, _, _, _⟩) ?_ 26 (.tmp 8) (.tmp 46) ?_ (w.heap.size + 1 + 1 + 1 + 1 + 1) (wcs r) ?_ ?_ 26 (wcs v) KL.out hin.out (by rw [wc_size, wc_size]) hon.out ?_); (rfl); (rfl); (rfl); (rfl)))
          clear KL hsz hon hin
          generalize (w7.alloc (.cells (wcs r) 26)).setRow (w.heap.size + 1 + 1 + 1 + 1 + 1) (wcs r) = w8 at *
          try rw [put_none]
          have rq : Row w8 (w.heap.size + 1 + 1 + 1 + 1) 26 (wcs (2 * q)) := K8.out.q
          have d0 : w8.cell? ⟨w.heap.size + 1 + 1 + 1 + 1, 0, none⟩ = some (.int .u64 (W (2 * q) 0)) := (rq.cell 0).trans (wc_get (2 * q) 0 (by decide))
          have f0 : w8.frozen? ⟨w.heap.size + 1 + 1 + 1 + 1, 0, none⟩ = false := rq.frozen 0
          clear rq
          have K9 := Lib.hid (K8.out.bitQ (c := 1) hq1.out (by omega) (by omega))
          clear K8
          go_wp2
          go_roundw
          case rel =>
            refine ⟨k + 1, by omega, by go_num, ?_⟩
            show DivAt _ _ _ _ _ _ _
            rw [hnew.out.1, hnew.out.2]
            exact K9.out
          case measure => simp [intOf]; omega
        · have hcb : ((c : Int) == 1) = false := by rw [hc]; rfl
          have hle' : decide (b ≤ v) = true := by simpa using hle
          have hnew : Hid (topN a (k + 1) / b = 2 * q + 1 ∧ topN a (k + 1) % b = (v + (Big - b)) % Big) := by
            show _ ∧ _
            rw [hmod]
            exact HD.out.1 hbv
          rw [hcb, hle']
          clear hcb hle' hmod hbv hle hc HD HDC
          have hsz := Lib.hid (wc_size ((v + (Big - b)) % Big))
          have hon := Lib.hid (wc_one ((v + (Big - b)) % Big))
          have hin := Lib.hid (wc_info ((v + (Big - b)) % Big))
          have K8 : Hid (DivAt w ((w7.alloc (.cells (wcs ((v + (Big - b)) % Big)) 26)).setRow (w.heap.size + 1 + 1 + 1 + 1 + 1) (wcs ((v + (Big - b)) % Big))) w.heap.size a b (2 * q) ((v + (Big - b)) % Big)) := (K7.out.alloc _).setL
          have KL : Hid ((w7.alloc (.cells (wcs ((v + (Big - b)) % Big)) 26)).heap[w.heap.size + 1 + 1 + 1 + 1 + 1]? = some (.cells (wcs v) 26 (0, 0))) := (K7.out.alloc _).l
          clear K7
          generalize (v + (Big - b)) % Big = r at *
          go_upto_region 14 with (first
            | ((with_reducible refine wpList_store_row (o := ⟨none, .store 26 (.tmp 11) _, _, _, _, _⟩) ?_ 26 (.tmp 11) (.tmp 40) ?_ w7.heap.size (wcs r) ?_ ?_ 26 _ (heap_alloc_last w7 _) hin.out ?_ hon.out ?_); (rfl); (rfl); (rfl); (rfl); (rw [hsz.out]; rfl); rw [World.setRow_alloc_new])
            | ((with_reducible refine wpList_load_row (o := ⟨some 46, _, _, _, _, _⟩) ?_ 26 (.tmp 11) ?_ w7.heap.size ?_ 26 (wcs r) (0, 0) _ (heap_alloc_last w7 _) Tryd.underlying26 ?_ (wc_info _) ?_); (rfl); (rfl); (rfl); (rfl))
            | ((with_reducible refine wpList_store_row (o := ⟨none, .store 26 (.tmp 8) _, _, _, _, _⟩) ?_ 26 (.tmp 8) (.tmp 46) ?_ (w.heap.size + 1 + 1 + 1 + 1 + 1) (wcs r) ?_ ?_ 26 (wcs v) KL.out hin.out (by rw [wc_size, wc_size]) hon.out ?_); (rfl); (rfl); (rfl); (rfl)))
          clear KL hsz hon hin
          generalize (w7.alloc (.cells (wcs r) 26)).setRow (w.heap.size + 1 + 1 + 1 + 1 + 1) (wcs r) = w8 at *
          try rw [put_none]
          have rq : Row w8 (w.heap.size + 1 + 1 + 1 + 1) 26 (wcs (2 * q)) := K8.out.q
          have d0 : w8.cell? ⟨w.heap.size + 1 + 1 + 1 + 1, 0, none⟩ = some (.int .u64 (W (2 * q) 0)) := (rq.cell 0).trans (wc_get (2 * q) 0 (by decide))
          have f0 : w8.frozen? ⟨w.heap.size + 1 + 1 + 1 + 1, 0, none⟩ = false := rq.frozen 0
          clear rq
          have K9 := Lib.hid (K8.out.bitQ (c := 1) hq1.out (by omega) (by omega))
          clear K8
          go_wp2
          go_roundw
          case rel =>
            refine ⟨k + 1, by omega, by go_num, ?_⟩
            show DivAt _ _ _ _ _ _ _
            rw [hnew.out.1, hnew.out.2]
            exact K9.out
          case measure => simp [intOf]; omega
        · have hcb : ((c : Int) == 1) = false := by rw [hc]; rfl
          have hle' : decide (b ≤ v) = false := by simpa using hle
          have hnew : Hid (topN a (k + 1) / b = 2 * q ∧ topN a (k + 1) % b = v) := by
            show _ ∧ _
            rw [hmod]
            exact HD.out.2 hbv
          rw [hcb, hle']
          clear hcb hle' hmod hbv hle hc HD HDC
          have hsz := Lib.hid (wc_size ((v + (Big - b)) % Big))
          have hon := Lib.hid (wc_one ((v + (Big - b)) % Big))
          have hin := Lib.hid (wc_info ((v + (Big - b)) % Big))
          have K8 := Lib.hid (K7.out.alloc (.cells (wcs ((v + (Big - b)) % Big)) 26))
          clear K7
          generalize (v + (Big - b)) % Big = r at *
          go_wp2_with ((with_reducible refine wpList_store_row (o := ⟨none, .store 26 (.tmp 11) _, _, _, _, _⟩) ?_ 26 (.tmp 11) (.tmp 40) ?_ w7.heap.size (wcs r) ?_ ?_ 26 _ (heap_alloc_last w7 _) hin.out ?_ hon.out ?_); (rfl); (rfl); (rfl); (rfl); (rw [hsz.out]; rfl); rw [World.setRow_alloc_new])
          go_roundw
          case rel =>
            refine ⟨k + 1, by omega, by go_num, ?_⟩
            show DivAt _ _ _ _ _ _ _
            rw [hnew.out.1, hnew.out.2]
            exact K8.out
          case measure => simp [intOf]; omega
    · obtain rfl : k = 256 := by omega
      have K : Hid (DivAt w wr w.heap.size a b (a / b) (a % b)) := by
        show DivAt _ _ _ _ _ _ _
        have h := K0.out
        rw [top_all] at h
        exact h
      clear K0
      have hbel := K.out.bel
      have eq1 := Lib.hid (wc_cells (a / b))
      have eq2 := Lib.hid (wc_cells (a % b))
      have rr : Row wr (w.heap.size + 1 + 1) 26 (wcs 0) := K.out.r
      have rs : Row wr (w.heap.size + 1 + 1 + 1) 26 (wcs 0) := K.out.s
      have rq : Row wr (w.heap.size + 1 + 1 + 1 + 1) 26 (wcs (a / b)) := K.out.q
      have rl : Row wr (w.heap.size + 1 + 1 + 1 + 1 + 1) 26 (wcs (a % b)) := K.out.l
      have q0 := (rq.cell 0).trans (wc_get (a / b) 0 (by decide))
      have l0 := (rl.cell 0).trans (wc_get (a % b) 0 (by decide))
      have r0 : wr.cell? ⟨w.heap.size + 1 + 1, 0, none⟩ = some (.int .u64 0) := (rr.cell 0).trans rfl
      have s0 : wr.cell? ⟨w.heap.size + 1 + 1 + 1, 0, none⟩ = some (.int .u64 0) := (rs.cell 0).trans rfl
      have fr0 := rr.frozen 0
      have fs0 := rs.frozen 0
      have q1 := (rq.cell 1).trans (wc_get (a / b) 1 (by decide))
      have l1 := (rl.cell 1).trans (wc_get (a % b) 1 (by decide))
      have r1 : wr.cell? ⟨w.heap.size + 1 + 1, 1, none⟩ = some (.int .u64 0) := (rr.cell 1).trans rfl
      have s1 : wr.cell? ⟨w.heap.size + 1 + 1 + 1, 1, none⟩ = some (.int .u64 0) := (rs.cell 1).trans rfl
      have fr1 := rr.frozen 1
      have fs1 := rs.frozen 1
      have q2 := (rq.cell 2).trans (wc_get (a / b) 2 (by decide))
      have l2 := (rl.cell 2).trans (wc_get (a % b) 2 (by decide))
      have r2 : wr.cell? ⟨w.heap.size + 1 + 1, 2, none⟩ = some (.int .u64 0) := (rr.cell 2).trans rfl
      have s2 : wr.cell? ⟨w.heap.size + 1 + 1 + 1, 2, none⟩ = some (.int .u64 0) := (rs.cell 2).trans rfl
      have fr2 := rr.frozen 2
      have fs2 := rs.frozen 2
      have q3 := (rq.cell 3).trans (wc_get (a / b) 3 (by decide))
      have l3 := (rl.cell 3).trans (wc_get (a % b) 3 (by decide))
      have r3 : wr.cell? ⟨w.heap.size + 1 + 1, 3, none⟩ = some (.int .u64 0) := (rr.cell 3).trans rfl
      have s3 : wr.cell? ⟨w.heap.size + 1 + 1 + 1, 3, none⟩ = some (.int .u64 0) := (rs.cell 3).trans rfl
      have fr3 := rr.frozen 3
      have fs3 := rs.frozen 3
      have RR := Lib.hid rr
      have RS := Lib.hid rs
      clear rr rs rq rl K
      generalize W (a / b) 0 = x0 at *
      generalize W (a / b) 1 = x1 at *
      generalize W (a / b) 2 = x2 at *
      generalize W (a / b) 3 = x3 at *
      generalize W (a % b) 0 = y0 at *
      generalize W (a % b) 1 = y1 at *
      generalize W (a % b) 2 = y2 at *
      generalize W (a % b) 3 = y3 at *
      go_wp2_with fail
      go_region
      have F1 := Lib.hid ((((((((RR.out.put 0 (.int .u64 x0)).put 1 (.int .u64 x1)).put 2 (.int .u64 x2)).put 3 (.int .u64 x3)).farAt (g' := w.heap.size + 1 + 1 + 1) (i := 0) (by omega) (.int .u64 y0)).farAt (g' := w.heap.size + 1 + 1 + 1) (i := 1) (by omega) (.int .u64 y1)).farAt (g' := w.heap.size + 1 + 1 + 1) (i := 2) (by omega) (.int .u64 y2)).farAt (g' := w.heap.size + 1 + 1 + 1) (i := 3) (by omega) (.int .u64 y3)).drew
      have F2 := Lib.hid ((((((((RS.out.farAt (g' := w.heap.size + 1 + 1) (i := 0) (by omega) (.int .u64 x0)).farAt (g' := w.heap.size + 1 + 1) (i := 1) (by omega) (.int .u64 x1)).farAt (g' := w.heap.size + 1 + 1) (i := 2) (by omega) (.int .u64 x2)).farAt (g' := w.heap.size + 1 + 1) (i := 3) (by omega) (.int .u64 x3)).put 0 (.int .u64 y0)).put 1 (.int .u64 y1)).put 2 (.int .u64 y2)).put 3 (.int .u64 y3)).drew
      clear q0 q1 q2 q3 l0 l1 l2 l3 r0 r1 r2 r3 s0 s1 s2 s3 fr0 fr1 fr2 fr3 fs0 fs1 fs2 fs3
      go_wp2_with ((with_reducible refine bodyPost_ret (v := .tuple #[.agg #[.int .u64 x0, .int .u64 x1, .int .u64 x2, .int .u64 x3], .agg #[.int .u64 y0, .int .u64 y1, .int .u64 y2, .int .u64 y3], .bool true]) ?_ ?_ ?_); (exact results_rows_slot (p := 4) (p' := 5) (q := 6) (ty := 26) Tryd.results53 _ _ (w.heap.size + 1 + 1) (w.heap.size + 1 + 1 + 1) 26 #[.int .u64 x0, .int .u64 x1, .int .u64 x2, .int .u64 x3] #[.int .u64 y0, .int .u64 y1, .int .u64 y2, .int .u64 y3] (0, 0) _ rfl rfl _ rfl F1.out F2.out Tryd.underlying26 rfl (infoW _ rfl) (infoW _ rfl)); (rfl))
      refine ⟨by rw [eq1.out, eq2.out], ?_⟩
      refine Below.drew ?_
      repeat (refine Below.setCell ?_ (by simp; omega) _)
      exact hbel
end Go.Proofs.YtmpjgfecnnefeaaDoor

namespace Go.Proofs.YtmpjgfecnnefeaaDoor
set_option maxRecDepth 8000
open Go.RowKit

/-- w has grown to u, and each block of the list holds its number. -/
structure Env (w u : World) (l : List (Nat × Nat)) : Prop where
  bel : Below w.heap.size w u
  box : ∀ g n, (g, n) ∈ l → u.heap[g]? = some (.cells (wcs n) 26 (0, 0))
theorem Env.lt {w u : World} {l : List (Nat × Nat)} (h : Env w u l) {g n : Nat} (hm : (g, n) ∈ l) : g < u.heap.size := by
  have r : Row u g 26 (wcs n) := h.box g n hm
  exact r.lt
theorem Env.below {w u v : World} {l : List (Nat × Nat)} (h : Env w u l) (hb : Below u.heap.size u v) : Env w v l :=
  ⟨h.bel.trans (hb.mono h.bel.size), fun g n hm => (hb.block g (h.lt hm)).trans (h.box g n hm)⟩
theorem Env.drew {w u : World} {l : List (Nat × Nat)} (h : Env w u l) : Env w u.drew l := ⟨h.bel.drew, h.box⟩
theorem Env.new {w u : World} {l : List (Nat × Nat)} (h : Env w u l) (n : Nat) : Env w (u.alloc (.cells (wcs n) 26)) ((u.heap.size, n) :: l) := by
  refine ⟨h.bel.alloc h.bel.size _, fun g m hm => ?_⟩
  rcases List.mem_cons.1 hm with e | e
  · cases e
    exact Row.new u 26 _
  · have r : Row u g 26 (wcs m) := h.box g m e
    exact r.alloc _
theorem Env.two {w u : World} {l : List (Nat × Nat)} (h : Env w u l) {g n g' n' : Nat} (h1 : (g, n) ∈ l) (h2 : (g', n') ∈ l) : Env w u [(g, n), (g', n')] := by
  refine ⟨h.bel, fun x y hm => ?_⟩
  rcases List.mem_cons.1 hm with e | hm
  · cases e; exact h.box _ _ h1
  · rcases List.mem_cons.1 hm with e | hm
    · cases e; exact h.box _ _ h2
    · cases hm
theorem Env.start (w : World) : Env w w [] := ⟨Below.refl _ _, fun _ _ h => by cases h⟩
theorem Env.cell {w u : World} {l : List (Nat × Nat)} (h : Env w u l) {g n : Nat} (hm : (g, n) ∈ l) (i : Nat) (hi : i < 4) : u.cell? ⟨g, i, none⟩ = some (.int .u64 (W n i)) := by
  have r : Row u g 26 (wcs n) := h.box g n hm
  exact (r.cell i).trans (wc_get n i hi)
/-- The same, each block below a bound. -/
structure EnvB (w u : World) (l : List (Nat × Nat)) (G : Nat) : Prop where
  env : Env w u l
  lt : ∀ g n, (g, n) ∈ l → g < G
  le : w.heap.size ≤ G
theorem EnvB.start {w u : World} {l : List (Nat × Nat)} (h : Env w u l) : EnvB w u l u.heap.size := ⟨h, fun _ _ hm => h.lt hm, h.bel.size⟩
theorem EnvB.below {w u v : World} {l : List (Nat × Nat)} {G : Nat} (h : EnvB w u l G) (hb : Below u.heap.size u v) : EnvB w v l G := ⟨h.env.below hb, h.lt, h.le⟩
theorem EnvB.drew {w u : World} {l : List (Nat × Nat)} {G : Nat} (h : EnvB w u l G) : EnvB w u.drew l G := ⟨h.env.drew, h.lt, h.le⟩
theorem EnvB.alloc {w u : World} {l : List (Nat × Nat)} {G : Nat} (h : EnvB w u l G) (o : Obj) : EnvB w (u.alloc o) l G := h.below ((Below.refl _ _).alloc (Nat.le_refl _) _)
theorem EnvB.cells {w u : World} {l : List (Nat × Nat)} {G : Nat} (h : EnvB w u l G) {g n : Nat} (hm : (g, n) ∈ l) :
    u.cell? ⟨g, 0, none⟩ = some (.int .u64 (W n 0)) ∧ u.cell? ⟨g, 1, none⟩ = some (.int .u64 (W n 1)) ∧ u.cell? ⟨g, 2, none⟩ = some (.int .u64 (W n 2)) ∧ u.cell? ⟨g, 3, none⟩ = some (.int .u64 (W n 3)) :=
  ⟨h.env.cell hm 0 (by decide), h.env.cell hm 1 (by decide), h.env.cell hm 2 (by decide), h.env.cell hm 3 (by decide)⟩
theorem Env.cons {w u : World} {l : List (Nat × Nat)} (h : Env w u l) {g n : Nat} (r : Row u g 26 (wcs n)) : Env w u ((g, n) :: l) := by
  refine ⟨h.bel, fun x y hm => ?_⟩
  rcases List.mem_cons.1 hm with e | e
  · cases e; exact r
  · exact h.box _ _ e
end Go.Proofs.YtmpjgfecnnefeaaDoor

namespace Go.Proofs.YtmpjgfecnnefeaaDoor
set_option maxRecDepth 8000
open Go.RowKit

/-- byte i of a number, the highest one first -/
def byteAt (a i : Nat) : Nat := a / 2 ^ (8 * (31 - i)) % 256
theorem byteAt_lt (a i : Nat) : byteAt a i < 256 := Nat.mod_lt _ (by omega)
/-- 32 numbers, told by their places -/
def listF (f : Nat → Int) : List Int := (List.range 32).map f
theorem listF_len (f : Nat → Int) : (listF f).length = 32 := by simp [listF]
theorem listF_get (f : Nat → Int) (i : Nat) (h : i < 32) : (listF f).getD i 0 = f i := by
  unfold listF
  simp [List.getD, h]
def idF (f : Nat → Int) : Array Value := arrB 32 (listF f)
theorem idF_size (f : Nat → Int) : (idF f).size = 32 := arrB_size 32 _ (by rw [listF_len]; omega)
theorem idF_one (f : Nat → Int) : (idF f).all (·.oneCell') = true := arrB_one 32 _
theorem idF_get (f : Nat → Int) (i : Nat) (h : i < 32) : (idF f)[i]? = some (.int .u8 (f i)) := by
  unfold idF
  rw [arrB_get 32 _ i (by rw [listF_len]; omega) h, listF_get f i h]
theorem idF_put (f g : Nat → Int) (j : Nat) (v : Int) (hj : j < 32) (hg : g j = v) (hf : ∀ i, i < 32 → i ≠ j → g i = f i) : (idF f).setIfInBounds j (.int .u8 v) = idF g := by
  unfold idF
  apply arrB_ext
  · rw [listF_len]; omega
  · rw [Array.size_setIfInBounds]; exact idF_size f
  · intro i hi
    rw [Array.getElem?_setIfInBounds, listF_get g i hi]
    by_cases e : j = i
    · subst e
      rw [if_pos rfl, if_pos (by rw [arrB_size 32 _ (by rw [listF_len]; omega)]; exact hj), hg]
    · rw [if_neg e, hf i hi (fun h => e h.symm)]
      exact idF_get f i hi
theorem idF_zero : arrB 32 [] = idF (fun _ => 0) := by
  unfold idF
  apply arrB_ext
  · rw [listF_len]; omega
  · rw [arrB_size 32 [] (by simp)]
  · intro i hi
    rw [listF_get _ i hi, arrB_get 32 [] i (by simp) hi]
    rfl
theorem idF_congr (f g : Nat → Int) (h : ∀ i, i < 32 → f i = g i) : idF f = idF g := by
  unfold idF
  congr 1
  unfold listF
  apply List.map_congr_left
  intro i hi
  exact h i (by simpa using hi)
/-- the bytes of a number -/
def bytesOf (a : Nat) : Nat → Int := fun i => (byteAt a i : Int)
theorem byte_word (a k : Nat) (hk : k < 32) : W a (3 - k / 8) / 2 ^ (8 * (7 - k % 8)) % 256 = byteAt a k := by
  unfold byteAt
  rw [show (256 : Nat) = 2 ^ 8 from rfl]
  apply Nat.eq_of_testBit_eq
  intro i
  rw [Nat.testBit_mod_two_pow, Nat.testBit_mod_two_pow, Nat.testBit_div_two_pow, Nat.testBit_div_two_pow, W_bit]
  by_cases hi : i < 8
  · rw [show 64 * (3 - k / 8) + (i + 8 * (7 - k % 8)) = i + 8 * (31 - k) by omega]
    simp only [show i + 8 * (7 - k % 8) < 64 by omega, decide_true, Bool.true_and]
  · simp only [hi, decide_false, Bool.false_and]
theorem infoId (cs : Array Value) (h : cs.size = 32) : (Tryd.prog.info? 23).map (·.size) = some cs.size := by rw [h]; kernel_rfl
end Go.Proofs.YtmpjgfecnnefeaaDoor

namespace Go.Proofs.YtmpjgfecnnefeaaDoor
set_option maxRecDepth 8000
open Go.RowKit

/-- word p of the first k bytes -/
def wordAcc (f : Nat → Nat) (p : Nat) : Nat → Nat
  | 0 => 0
  | k + 1 => if 3 - k / 8 = p then 256 * wordAcc f p k + f k else wordAcc f p k
theorem wordAcc_before (f : Nat → Nat) (p k : Nat) (hp : p < 4) (hk : k ≤ 8 * (3 - p)) : wordAcc f p k = 0 := by
  induction k with
  | zero => rfl
  | succ k ih => rw [wordAcc, if_neg (by omega), ih (by omega)]
theorem wordAcc_lt (f : Nat → Nat) (hf : ∀ i, f i < 256) (p j : Nat) (hp : p < 4) (hj : j ≤ 8) : wordAcc f p (8 * (3 - p) + j) < 256 ^ j := by
  induction j with
  | zero => rw [Nat.add_zero, wordAcc_before f p _ hp (by omega)]; decide
  | succ j ih =>
    have := ih (by omega)
    have := hf (8 * (3 - p) + j)
    rw [← Nat.add_assoc, wordAcc, if_pos (by omega), Nat.pow_succ]
    omega
theorem wordAcc_after (f : Nat → Nat) (p j : Nat) (hp : p < 4) (hj : 8 * (3 - p) + 8 + j ≤ 32) : wordAcc f p (8 * (3 - p) + 8 + j) = wordAcc f p (8 * (3 - p) + 8) := by
  induction j with
  | zero => rfl
  | succ j ih => rw [← Nat.add_assoc, wordAcc, if_neg (by omega), ih (by omega)]
theorem wordAcc_word (f : Nat → Nat) (hf : ∀ i, f i < 256) (p k : Nat) (hp : p < 4) (hk : k ≤ 32) : wordAcc f p k < 18446744073709551616 := by
  by_cases h1 : k ≤ 8 * (3 - p)
  · rw [wordAcc_before f p k hp h1]; decide
  · by_cases h2 : k ≤ 8 * (3 - p) + 8
    · have h := wordAcc_lt f hf p (k - 8 * (3 - p)) hp (by omega)
      rw [show 8 * (3 - p) + (k - 8 * (3 - p)) = k by omega] at h
      have : 256 ^ (k - 8 * (3 - p)) ≤ 256 ^ 8 := Nat.pow_le_pow_right (by omega) (by omega)
      exact Nat.lt_of_lt_of_le h this
    · have h := wordAcc_after f p (k - (8 * (3 - p) + 8)) hp (by omega)
      rw [show 8 * (3 - p) + 8 + (k - (8 * (3 - p) + 8)) = k by omega] at h
      rw [h]
      exact wordAcc_lt f hf p 8 hp (by omega)
theorem wordAcc_small (f : Nat → Nat) (hf : ∀ i, f i < 256) (k : Nat) (hk : k < 32) : wordAcc f (3 - k / 8) k < 72057594037927936 := by
  have h := wordAcc_lt f hf (3 - k / 8) (k % 8) (by omega) (by omega)
  rw [show 8 * (3 - (3 - k / 8)) + k % 8 = k by omega] at h
  have : 256 ^ (k % 8) ≤ 256 ^ 7 := Nat.pow_le_pow_right (by omega) (by omega)
  exact Nat.lt_of_lt_of_le h this
/-- the four words of the first k bytes -/
def accL (f : Nat → Nat) (k : Nat) : List Int := [(wordAcc f 0 k : Int), (wordAcc f 1 k : Int), (wordAcc f 2 k : Int), (wordAcc f 3 k : Int)]
/-- the number of 32 bytes -/
def numOf (f : Nat → Nat) : Nat := mk4 (wordAcc f 0 32) (wordAcc f 1 32) (wordAcc f 2 32) (wordAcc f 3 32)
theorem numOf_lt (f : Nat → Nat) (hf : ∀ i, f i < 256) : numOf f < Big := mk4_lt _ _ _ _ (wordAcc_word f hf 0 32 (by omega) (by omega)) (wordAcc_word f hf 1 32 (by omega) (by omega)) (wordAcc_word f hf 2 32 (by omega) (by omega)) (wordAcc_word f hf 3 32 (by omega) (by omega))
theorem accL_all (f : Nat → Nat) (hf : ∀ i, f i < 256) : arrW 4 (accL f 32) = wcs (numOf f) := by
  unfold wcs numOf
  rw [wl_mk4 _ _ _ _ (wordAcc_word f hf 0 32 (by omega) (by omega)) (wordAcc_word f hf 1 32 (by omega) (by omega)) (wordAcc_word f hf 2 32 (by omega) (by omega)) (wordAcc_word f hf 3 32 (by omega) (by omega))]
  rfl
theorem accL_get (f : Nat → Nat) (k p : Nat) (hp : p < 4) : (arrW 4 (accL f k))[p]? = some (.int .u64 (wordAcc f p k)) := by
  rcases p with _ | _ | _ | _ | p
  all_goals first | rfl | omega
theorem accL_put (f : Nat → Nat) (k : Nat) (hk : k < 32) : (arrW 4 (accL f k)).setIfInBounds (3 - k / 8) (.int .u64 ((256 * wordAcc f (3 - k / 8) k + f k : Nat) : Int)) = arrW 4 (accL f (k + 1)) := by
  have key : ∀ p, p < 4 → wordAcc f p (k + 1) = if 3 - k / 8 = p then 256 * wordAcc f p k + f k else wordAcc f p k := fun p _ => rfl
  have hq : k / 8 = 0 ∨ k / 8 = 1 ∨ k / 8 = 2 ∨ k / 8 = 3 := by omega
  unfold accL
  rw [key 0 (by omega), key 1 (by omega), key 2 (by omega), key 3 (by omega)]
  rcases hq with h | h | h | h <;> rw [h] <;> rfl
theorem or_byte (x b : Nat) (hx : x < 72057594037927936) (hb : b < 256) : bits .or .u64 ((x : Int) * 256) (b : Int) = ((256 * x + b : Nat) : Int) := by
  have c1 : ((x : Int) * 256) = ((x * 256 : Nat) : Int) := by simp
  rw [c1, bits_or_u64_nat (x * 256) b (by omega) (by omega)]
  congr 1
  have h := Nat.shiftLeft_add_eq_or_of_lt (a := x) (b := b) (i := 8) (by omega)
  rw [Nat.shiftLeft_eq, show (2 : Nat) ^ 8 = 256 from rfl] at h
  rw [← h]
  omega
set_option maxHeartbeats 4000000 in
theorem of32_any (f : Nat → Nat) (hf : ∀ i, f i < 256) (w : World) :
    Calls Tryd.prog 37 #[.agg (idF (fun i => (f i : Int)))] w fun e w' => e = .returned (.agg (wcs (numOf f))) ∧ Below w.heap.size w w' := by
  have HF := Lib.hid hf
  clear hf
  go_enter Tryd.func37, Tryd.ntmps37
  go_wp2_with fail
  go_loopw [6] (fun i u => ∃ k : Nat, k ≤ 32 ∧ i = .int .i64 k ∧ Below w.heap.size w u ∧ Hid (Row u w.heap.size 23 (idF (fun i => (f i : Int))) ∧ Row u (w.heap.size + 1) 26 (arrW 4 []) ∧ Row u (w.heap.size + 1 + 1) 26 (arrW 4 (accL f k)))) (fun i _ => 32 - (intOf i).toNat)
  case atStart => exact ⟨0, by omega, rfl, by go_grown, ((Row.new w 23 _).alloc _).alloc _, (Row.newAt (by simp) 26 _).alloc _, Row.newAt (by simp) 26 _⟩
  case round =>
    obtain ⟨k, hk, rfl, hbl, hrows⟩ := hrel
    obtain ⟨r0, r1, r2⟩ := hrows.out
    by_cases hlt : k < 32
    · have hk0 : (0 : Int) ≤ (k : Int) := by omega
      have hk4 : (k : Int) < 32 := by omega
      have e0 : wr.cell? ⟨w.heap.size, k, none⟩ = some (.int .u8 (f k : Int)) := (r0.cell k).trans (idF_get _ k hlt)
      have e2 : wr.cell? ⟨w.heap.size + 1 + 1, 3 - k / 8, none⟩ = some (.int .u64 (wordAcc f (3 - k / 8) k)) := (r2.cell _).trans (accL_get f k _ (by omega))
      have f2 : wr.frozen? ⟨w.heap.size + 1 + 1, 3 - k / 8, none⟩ = false := r2.frozen _
      have R0 := Lib.hid r0
      have R1 := Lib.hid r1
      have R2 := Lib.hid r2
      have hput := Lib.hid (accL_put f k hlt)
      have hor := Lib.hid (or_byte _ _ (wordAcc_small f HF.out k hlt) (HF.out k))
      have hsm := wordAcc_small f HF.out k hlt
      have hfk := HF.out k
      clear r0 r1 r2 hrows
      generalize wordAcc f (3 - k / 8) k = x at *
      generalize f k = b at *
      have q0 : 0 ≤ 3 - (k : Int) / 8 := by omega
      have q1 : 3 - (k : Int) / 8 < 4 := by omega
      have q2 : (3 - (k : Int) / 8).toNat = 3 - k / 8 := by omega
      have hx0 : (0 : Int) ≤ (x : Int) := by omega
      have hx1 : (x : Int) < 72057594037927936 := by omega
      have hb0 : (0 : Int) ≤ (b : Int) := by omega
      have hb1 : (b : Int) < 256 := by omega
      have wx : IntKind.u64.wrap ((x : Int) * 256) = (x : Int) * 256 := by rw [IntKind.wrap_u64]; omega
      have wb : IntKind.u64.wrap (b : Int) = (b : Int) := by rw [IntKind.wrap_u64]; omega
      go_wp2_with (go_at_call 57; refine (ofbyte_any _ _ (by omega) (by omega)).mono ?_; rintro e w' ⟨rfl, rfl⟩)
      go_region
      clear wx wb q2
      go_wp2
      go_roundw
      case rel =>
        refine ⟨k + 1, by omega, by go_num, (hbl.setCell (by simp; omega) _).drew, R0.out.farAt (by omega) _, R1.out.farAt (by omega) _, ?_⟩
        rw [← hput.out, ← hor.out]
        exact R2.out.put (3 - k / 8) _
      case measure => simp [intOf]; omega
    · obtain rfl : k = 32 := by omega
      rw [accL_all f HF.out] at r2
      have hsz := Lib.hid (wc_size (numOf f))
      have hz0 := Lib.hid (arrW_size 4 [] (by simp))
      have ho := Lib.hid (wc_one (numOf f))
      have R1 : Hid (wr.heap[w.heap.size + 1]? = some (.cells (arrW 4 []) 26 (0, 0))) := r1
      have R2 : Hid (wr.heap[w.heap.size + 1 + 1]? = some (.cells (wcs (numOf f)) 26 (0, 0))) := r2
      clear r0 r1 r2 hrows
      generalize hE : wcs (numOf f) = cs at *
      have HE := Lib.hid hE
      clear hE
      generalize arrW 4 [] = zs at *
      go_wp2_with (first
        | ((with_reducible refine wpList_load_row (o := ⟨some 23, _, _, _, _, _⟩) ?_ 26 (.tmp 3) ?_ (w.heap.size + 1 + 1) ?_ 26 cs (0, 0) _ R2.out Tryd.underlying26 ?_ (infoW cs hsz.out) ?_); (rfl); (rfl); (rfl); (rfl))
        | ((with_reducible refine wpList_store_row (o := ⟨none, .store 26 _ _, _, _, _, _⟩) ?_ 26 (.tmp 2) (.tmp 23) ?_ (w.heap.size + 1) cs ?_ ?_ 26 zs R1.out (infoW cs hsz.out) (by rw [hz0.out, hsz.out]) ho.out ?_); (rfl); (rfl); (rfl); (rfl))
        | ((with_reducible refine bodyPost_ret (v := .agg cs) ?_ ?_ ?_); (exact results_cell_row (p := 2) (ty := 26) Tryd.results37 _ _ (w.heap.size + 1) 26 cs (0, 0) _ rfl (setRow_heap _ _ zs cs 26 (0, 0) R1.out) Tryd.underlying26 rfl (infoW cs hsz.out)); (rfl)))
      exact ⟨by rw [HE.out], below_setRow hbl (by omega) _⟩
end Go.Proofs.YtmpjgfecnnefeaaDoor

namespace Go.Proofs.YtmpjgfecnnefeaaDoor
set_option maxRecDepth 8000
open Go.RowKit

theorem DivAt.far {w u : World} {g a b q l x i : Nat} (h : DivAt w u g a b q l) (hx : g + 1 + 1 + 1 + 1 + 1 < x) (v : Value) : DivAt w (u.setCell ⟨x, i, none⟩ v) g a b q l := by
  have := h.lt
  have ra : Row u g 26 (wcs a) := h.a
  have rb : Row u (g + 1) 26 (wcs b) := h.b
  have rr : Row u (g + 1 + 1) 26 (wcs 0) := h.r
  have rs : Row u (g + 1 + 1 + 1) 26 (wcs 0) := h.s
  have rq : Row u (g + 1 + 1 + 1 + 1) 26 (wcs q) := h.q
  have rl : Row u (g + 1 + 1 + 1 + 1 + 1) 26 (wcs l) := h.l
  exact ⟨ra.farAt (by omega) _, rb.farAt (by omega) _, rr.farAt (by omega) _, rs.farAt (by omega) _, rq.farAt (by omega) _, rl.farAt (by omega) _, by simpa using h.lt, h.bel.setCell (by simp; omega) _⟩
/-- what lies in memory, with the number x in its own block beside -/
structure DivX (w u : World) (g a b q l x v : Nat) : Prop where
  at' : DivAt w u g a b q l
  box : u.heap[x]? = some (.cells (wcs v) 26 (0, 0))
  gt : g + 1 + 1 + 1 + 1 + 1 < x
theorem DivX.below {w u u' : World} {g a b q l x v : Nat} (h : DivX w u g a b q l x v) (hb : Below u.heap.size u u') : DivX w u' g a b q l x v := by
  have r : Row u x 26 (wcs v) := h.box
  exact ⟨h.at'.below hb, r.below hb r.lt, h.gt⟩
theorem wc_set_one (v : Nat) (hv : v < Big) (h2 : v % 2 = 0) : (wcs v).setIfInBounds 0 (.int .u64 ((W v 0 : Int) + 1)) = wcs (v + 1) := by
  obtain ⟨x, y, z, u, rfl, hx, hy, hz, hu⟩ := split4 v hv
  have e : mk4 x y z u + 1 = mk4 (x + 1) y z u := by unfold mk4; omega
  have hx2 : x % 2 = 0 := by unfold mk4 at h2; omega
  have ew : W (mk4 x y z u) 0 = x := by rw [W0]; unfold mk4; omega
  rw [e, ew]
  unfold wcs
  rw [wl_mk4 x y z u hx hy hz hu, wl_mk4 (x + 1) y z u (by omega) hy hz hu]
  rfl
theorem DivX.one {w u : World} {g a b q l x v : Nat} (h : DivX w u g a b q l x v) (hv : v < Big) (h2 : v % 2 = 0) : DivX w (u.setCell ⟨x, 0, none⟩ (.int .u64 ((W v 0 : Int) + 1))) g a b q l x (v + 1) := by
  have r : Row u x 26 (wcs v) := h.box
  exact ⟨h.at'.far h.gt _, by rw [← wc_set_one v hv h2]; exact r.put 0 _, h.gt⟩
end Go.Proofs.YtmpjgfecnnefeaaDoor

namespace Go.Proofs.YtmpjgfecnnefeaaDoor
set_option maxRecDepth 8000
open Go.RowKit

def aUp (a k : Nat) : Nat := a * 2 ^ k % Big
theorem aUp_zero (a : Nat) (h : a < Big) : aUp a 0 = a := by unfold aUp; rw [Nat.pow_zero, Nat.mul_one, Nat.mod_eq_of_lt h]
end Go.Proofs.YtmpjgfecnnefeaaDoor

namespace Go.Proofs.YtmpjgfecnnefeaaDoor
set_option maxRecDepth 8000
open Go.RowKit

def upV (a : Nat) (n : Int) : Nat := if 256 ≤ n then 0 else aUp a n.toNat
theorem up_v (a : Nat) (n : Int) (w : World) (ha : a < Big) (hn : n ≤ 9223372036854775807) :
    Calls Tryd.prog 50 #[.agg (wcs a), .int .i64 n] w fun e w' => e = .returned (.agg (wcs (upV a n))) ∧ Below w.heap.size w w' := by
  unfold upV
  by_cases h0 : n < 0
  · rw [if_neg (by omega), show n.toNat = 0 by omega, aUp_zero a ha]
    exact up_below a n w h0
  · obtain ⟨k, rfl⟩ := Int.eq_ofNat_of_zero_le (show 0 ≤ n by omega)
    have h := up_any a k w ha (by omega)
    by_cases h1 : 256 ≤ (k : Int)
    · rw [if_pos h1]
      have e : a * 2 ^ k % Big = 0 := by
        rw [Big_eq, show k = 256 + (k - 256) by omega, Nat.pow_add, ← Nat.mul_assoc, Nat.mul_comm (a * 2 ^ 256), ← Nat.mul_assoc]
        exact Nat.mul_mod_left _ _
      rw [e] at h
      exact h
    · rw [if_neg h1]
      exact h
end Go.Proofs.YtmpjgfecnnefeaaDoor
