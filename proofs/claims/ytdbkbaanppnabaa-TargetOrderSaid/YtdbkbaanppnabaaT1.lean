/- The walks of compactOf and Target, of the program. -/
import Derived.Test.YtdbkbaanppnabaaQ
import Derived.Test.YtdbkbaanppnabaaBase
import Derived.Test.YtdbkbaanppnabaaT0
namespace Go.Proofs.Ytdbkbaanppnabaa
open Go.RowKit

theorem and32_nat (a b : Nat) (ha : a < 4294967296) (hb : b < 4294967296) : bits .and .u32 (a : Int) (b : Int) = ((a &&& b : Nat) : Int) := by
  have hx : a &&& b < 2 ^ 32 := Nat.and_lt_two_pow _ (by omega)
  have h1 : (BitVec.ofInt 32 (a : Int)).toNat = a := by
    rw [BitVec.ofInt_natCast, BitVec.toNat_ofNat]; exact Nat.mod_eq_of_lt (by omega)
  have h2 : (BitVec.ofInt 32 (b : Int)).toNat = b := by
    rw [BitVec.ofInt_natCast, BitVec.toNat_ofNat]; exact Nat.mod_eq_of_lt (by omega)
  show IntKind.u32.wrap ((BitVec.ofInt 32 (a : Int) &&& BitVec.ofInt 32 (b : Int)).toNat : Int) = _
  rw [BitVec.toNat_and, h1, h2]
  simp only [IntKind.wrap, IntKind.bits, IntKind.signed]
  simp
  omega
theorem or32_nat (a b : Nat) (ha : a < 4294967296) (hb : b < 4294967296) : bits .or .u32 (a : Int) (b : Int) = ((a ||| b : Nat) : Int) := by
  have hx : a ||| b < 2 ^ 32 := Nat.or_lt_two_pow (by omega) (by omega)
  have h1 : (BitVec.ofInt 32 (a : Int)).toNat = a := by
    rw [BitVec.ofInt_natCast, BitVec.toNat_ofNat]; exact Nat.mod_eq_of_lt (by omega)
  have h2 : (BitVec.ofInt 32 (b : Int)).toNat = b := by
    rw [BitVec.ofInt_natCast, BitVec.toNat_ofNat]; exact Nat.mod_eq_of_lt (by omega)
  show IntKind.u32.wrap ((BitVec.ofInt 32 (a : Int) ||| BitVec.ofInt 32 (b : Int)).toNat : Int) = _
  rw [BitVec.toNat_or, h1, h2]
  simp only [IntKind.wrap, IntKind.bits, IntKind.signed]
  simp
  omega
theorem low24 (b : Nat) (hb : b < 4294967296) : bits .and .u32 (b : Int) 16777215 = ((b % 16777216 : Nat) : Int) := by
  have h := and32_nat b 16777215 hb (by omega)
  rw [show (16777215 : Nat) = 2 ^ 24 - 1 by decide, Nat.and_two_pow_sub_one_eq_mod] at h
  exact h
theorem high8 (e m : Nat) (he : e ≤ 255) (hm : m < 16777216) : bits .or .u32 ((e : Int) * 16777216) (m : Int) = ((16777216 * e + m : Nat) : Int) := by
  have h := or32_nat (16777216 * e) m (by omega) (by omega)
  rw [show 16777216 * e = 2 ^ 24 * e by omega, ← Nat.two_pow_add_eq_or_of_lt (show m < 2 ^ 24 by omega)] at h
  have e1 : (e : Int) * 16777216 = ((2 ^ 24 * e : Nat) : Int) := by omega
  rw [e1, h]
theorem compactOf_any (e m : Nat) (w : World) (he : e ≤ 255) (hm : m < 16777216) :
    Calls Try.prog 27 #[.int .i64 e, .int .u32 m] w fun x w' => x = .returned (.int .u32 ((16777216 * e + m : Nat) : Int)) ∧ w' = w := by
  have h := high8 e m he hm
  go_enter Try.func27, Try.ntmps27
  go_wp2
  go_ret
  exact ⟨by simp, rfl⟩
theorem small_lt {n : Nat} (h : n < 18446744073709551616) : n < Big := by unfold Big; omega
set_option maxHeartbeats 4000000 in
theorem target_no (b E M : Nat) (w : World) (hE : (b : Int) / 16777216 = (E : Int)) (hM : bits .and .u32 (b : Int) 16777215 = (M : Int)) (hb : b < 4294967296) (h : ¬ (3 ≤ E ∧ E ≤ 32 ∧ 32768 ≤ M ∧ M ≤ 8388607)) :
    Calls Try.prog 10 #[.int .u32 b] w fun e w' => e = .returned (.tuple #[.agg (wcs 0), .bool false]) ∧ Below w.heap.size w w' := by
  go_enter Try.func10, Try.ntmps10
  by_cases h1 : (3 : Int) ≤ (E : Int)
  · by_cases h2 : (E : Int) ≤ 32
    · by_cases h3 : (32768 : Int) ≤ (M : Int)
      · have h4 : ¬ (M : Int) ≤ 8388607 := by omega
        go_wp2
        go_returns
        exact ⟨rfl, by go_grown⟩
      · go_wp2
        go_returns
        exact ⟨rfl, by go_grown⟩
    · go_wp2
      go_returns
      exact ⟨rfl, by go_grown⟩
  · go_wp2
    go_returns
    exact ⟨rfl, by go_grown⟩
set_option maxHeartbeats 4000000 in
theorem target_yes (b E M : Nat) (w : World) (hE : (b : Int) / 16777216 = (E : Int)) (hM : bits .and .u32 (b : Int) 16777215 = (M : Int)) (hb : b < 4294967296) (h1 : 3 ≤ E) (h2 : E ≤ 32) (h3 : 32768 ≤ M) (h4 : M ≤ 8388607) :
    Calls Try.prog 10 #[.int .u32 b] w fun e w' => e = .returned (.tuple #[.agg (wcs (M * 2 ^ (8 * (E - 3)) % Big)), .bool true]) ∧ Below w.heap.size w w' := by
  have HU : Hid (∀ u, Calls Try.prog 24 #[.agg (wcs M), .int .i64 (8 * ((E : Int) - 3))] u fun e w' => e = .returned (.agg (wcs (M * 2 ^ (8 * (E - 3)) % Big))) ∧ Below u.heap.size u w') := fun u => by
    have h9 := up_v M (8 * ((E : Int) - 3)) u (small_big (by omega)) (by omega)
    have e9 : upV M (8 * ((E : Int) - 3)) = M * 2 ^ (8 * (E - 3)) % Big := by
      unfold upV aUp
      rw [if_neg (by omega), show (8 * ((E : Int) - 3)).toNat = 8 * (E - 3) by omega]
    rw [e9] at h9
    exact h9
  generalize M * 2 ^ (8 * (E - 3)) % Big = N at *
  have z0 : Hid (Row (w.alloc (.cells #[.int .u64 0, .int .u64 0, .int .u64 0, .int .u64 0] 25)) w.heap.size 25 #[.int .u64 0, .int .u64 0, .int .u64 0, .int .u64 0]) := Row.new w 25 _
  have B0 : Hid (Below w.heap.size w (w.alloc (.cells #[.int .u64 0, .int .u64 0, .int .u64 0, .int .u64 0] 25))) := (Below.refl _ _).alloc (Nat.le_refl _) _
  go_enter Try.func10, Try.ntmps10
  go_wp2_with fail
  generalize w.alloc (.cells #[.int .u64 0, .int .u64 0, .int .u64 0, .int .u64 0] 25) = w0 at *
  refine (of_n M w0 (by omega)).mono ?_
  rintro e w1 ⟨rfl, hb1⟩
  have z1 := Lib.hid (z0.out.below hb1 z0.out.lt)
  have B1 := Lib.hid (B0.out.trans (hb1.mono B0.out.size))
  clear z0 B0 hb1
  go_wp2_with fail
  refine (HU.out w1).mono ?_
  rintro e w2 ⟨rfl, hb2⟩
  have z2 : Hid (w2.heap[w.heap.size]? = some (.cells #[.int .u64 0, .int .u64 0, .int .u64 0, .int .u64 0] 25 (0, 0))) := z1.out.below hb2 z1.out.lt
  have B2 := Lib.hid (B1.out.trans (hb2.mono B1.out.size))
  have hsz := Lib.hid (wc_size N)
  have ho := Lib.hid (wc_one N)
  clear z1 B1 hb2 HU
  generalize hc : wcs N = cs at *
  have HC := Lib.hid hc
  clear hc
  go_wp2_with (first
    | ((with_reducible refine wpList_store_row (o := ⟨none, .store 25 _ _, _, _, _, _⟩) ?_ 25 (.tmp 2) (.tmp 32) ?_ w.heap.size cs ?_ ?_ 25 _ z2.out (infoW cs hsz.out) ?_ ho.out ?_); (rfl); (rfl); (rfl); (rfl); (rw [hsz.out]; rfl))
    | ((with_reducible refine bodyPost_ret (v := .tuple #[.agg cs, .bool true]) ?_ ?_ ?_); (exact results_row_slot (p := 2) (q := 3) (ty := 25) Try.results10 _ _ w.heap.size 25 cs (0, 0) _ rfl _ rfl (setRow_heap _ _ _ cs 25 (0, 0) z2.out) Try.underlying25 rfl (infoW cs hsz.out)); (rfl)))
  exact ⟨by rw [HC.out], below_setRow B2.out (Nat.le_refl _) _⟩
theorem target_any (b : Nat) (w : World) (hb : b < 4294967296) :
    Calls Try.prog 10 #[.int .u32 b] w fun e w' => e = .returned (.tuple #[.agg (wcs (tv b)), .bool (isC b)]) ∧ Below w.heap.size w w' := by
  by_cases h : 3 ≤ b / 16777216 ∧ b / 16777216 ≤ 32 ∧ 32768 ≤ b % 16777216 ∧ b % 16777216 ≤ 8388607
  · have h9 := target_yes b (b / 16777216) (b % 16777216) w (by omega) (low24 b hb) hb h.1 h.2.1 h.2.2.1 h.2.2.2
    rw [Nat.mod_eq_of_lt (tv_lt b h)] at h9
    have e1 : isC b = true := decide_eq_true h
    have e2 : tv b = b % 16777216 * 2 ^ (8 * (b / 16777216 - 3)) := by unfold tv; rw [if_pos e1]
    rw [e1, e2]
    exact h9
  · have h9 := target_no b (b / 16777216) (b % 16777216) w (by omega) (low24 b hb) hb h
    have e1 : isC b = false := decide_eq_false h
    have e2 : tv b = 0 := by unfold tv; rw [e1]; rfl
    rw [e1, e2]
    exact h9
set_option maxHeartbeats 4000000 in
theorem rtarget_no (b E M : Nat) (w : World) (hE : (b : Int) / 16777216 = (E : Int)) (hM : (b : Int) % 16777216 = (M : Int)) (hb : b < 4294967296) (h : ¬ (3 ≤ E ∧ E ≤ 32 ∧ 32768 ≤ M ∧ M ≤ 8388607)) :
    Calls Try.prog 11 #[.int .u32 b] w fun e w' => e = .returned (.tuple #[.agg (wcs 0), .bool false]) ∧ Below w.heap.size w w' := by
  go_enter Try.func11, Try.ntmps11
  by_cases h1 : (3 : Int) ≤ (E : Int)
  · by_cases h2 : (E : Int) ≤ 32
    · by_cases h3 : (32768 : Int) ≤ (M : Int)
      · have h4 : ¬ (M : Int) ≤ 8388607 := by omega
        go_wp2
        go_returns
        exact ⟨rfl, by go_grown⟩
      · go_wp2
        go_returns
        exact ⟨rfl, by go_grown⟩
    · go_wp2
      go_returns
      exact ⟨rfl, by go_grown⟩
  · go_wp2
    go_returns
    exact ⟨rfl, by go_grown⟩
set_option maxHeartbeats 4000000 in
theorem rtarget_yes (b E M : Nat) (w : World) (hE : (b : Int) / 16777216 = (E : Int)) (hM : (b : Int) % 16777216 = (M : Int)) (hb : b < 4294967296) (h1 : 3 ≤ E) (h2 : E ≤ 32) (h3 : 32768 ≤ M) (h4 : M ≤ 8388607) :
    Calls Try.prog 11 #[.int .u32 b] w fun e w' => e = .returned (.tuple #[.agg (wcs (M * 2 ^ (8 * (E - 3)) % Big)), .bool true]) ∧ Below w.heap.size w w' := by
  have HU : Hid (∀ u, Calls Try.prog 25 #[.agg (wcs M), .int .i64 (8 * ((E : Int) - 3))] u fun e w' => e = .returned (.agg (wcs (M * 2 ^ (8 * (E - 3)) % Big))) ∧ Below u.heap.size u w') := fun u => by
    have h9 := rup_v M (8 * ((E : Int) - 3)) u (small_big (by omega)) 
    have e9 : upV M (8 * ((E : Int) - 3)) = M * 2 ^ (8 * (E - 3)) % Big := by
      unfold upV aUp
      rw [if_neg (by omega), show (8 * ((E : Int) - 3)).toNat = 8 * (E - 3) by omega]
    rw [e9] at h9
    exact h9
  generalize M * 2 ^ (8 * (E - 3)) % Big = N at *
  have z0 : Hid (Row (w.alloc (.cells #[.int .u64 0, .int .u64 0, .int .u64 0, .int .u64 0] 25)) w.heap.size 25 #[.int .u64 0, .int .u64 0, .int .u64 0, .int .u64 0]) := Row.new w 25 _
  have B0 : Hid (Below w.heap.size w (w.alloc (.cells #[.int .u64 0, .int .u64 0, .int .u64 0, .int .u64 0] 25))) := (Below.refl _ _).alloc (Nat.le_refl _) _
  go_enter Try.func11, Try.ntmps11
  go_wp2_with fail
  generalize w.alloc (.cells #[.int .u64 0, .int .u64 0, .int .u64 0, .int .u64 0] 25) = w0 at *
  refine (rof_n M w0 (by omega)).mono ?_
  rintro e w1 ⟨rfl, hb1⟩
  have z1 := Lib.hid (z0.out.below hb1 z0.out.lt)
  have B1 := Lib.hid (B0.out.trans (hb1.mono B0.out.size))
  clear z0 B0 hb1
  go_wp2_with fail
  refine (HU.out w1).mono ?_
  rintro e w2 ⟨rfl, hb2⟩
  have z2 : Hid (w2.heap[w.heap.size]? = some (.cells #[.int .u64 0, .int .u64 0, .int .u64 0, .int .u64 0] 25 (0, 0))) := z1.out.below hb2 z1.out.lt
  have B2 := Lib.hid (B1.out.trans (hb2.mono B1.out.size))
  have hsz := Lib.hid (wc_size N)
  have ho := Lib.hid (wc_one N)
  clear z1 B1 hb2 HU
  generalize hc : wcs N = cs at *
  have HC := Lib.hid hc
  clear hc
  go_wp2_with (first
    | ((with_reducible refine wpList_store_row (o := ⟨none, .store 25 _ _, _, _, _, _⟩) ?_ 25 (.tmp 2) (.tmp 32) ?_ w.heap.size cs ?_ ?_ 25 _ z2.out (infoW cs hsz.out) ?_ ho.out ?_); (rfl); (rfl); (rfl); (rfl); (rw [hsz.out]; rfl))
    | ((with_reducible refine bodyPost_ret (v := .tuple #[.agg cs, .bool true]) ?_ ?_ ?_); (exact results_row_slot (p := 2) (q := 3) (ty := 25) Try.results11 _ _ w.heap.size 25 cs (0, 0) _ rfl _ rfl (setRow_heap _ _ _ cs 25 (0, 0) z2.out) Try.underlying25 rfl (infoW cs hsz.out)); (rfl)))
  exact ⟨by rw [HC.out], below_setRow B2.out (Nat.le_refl _) _⟩
theorem rtarget_any (b : Nat) (w : World) (hb : b < 4294967296) :
    Calls Try.prog 11 #[.int .u32 b] w fun e w' => e = .returned (.tuple #[.agg (wcs (tv b)), .bool (isC b)]) ∧ Below w.heap.size w w' := by
  by_cases h : 3 ≤ b / 16777216 ∧ b / 16777216 ≤ 32 ∧ 32768 ≤ b % 16777216 ∧ b % 16777216 ≤ 8388607
  · have h9 := rtarget_yes b (b / 16777216) (b % 16777216) w (by omega) (by omega) hb h.1 h.2.1 h.2.2.1 h.2.2.2
    rw [Nat.mod_eq_of_lt (tv_lt b h)] at h9
    have e1 : isC b = true := decide_eq_true h
    have e2 : tv b = b % 16777216 * 2 ^ (8 * (b / 16777216 - 3)) := by unfold tv; rw [if_pos e1]
    rw [e1, e2]
    exact h9
  · have h9 := rtarget_no b (b / 16777216) (b % 16777216) w (by omega) (by omega) hb h
    have e1 : isC b = false := decide_eq_false h
    have e2 : tv b = 0 := by unfold tv; rw [e1]; rfl
    rw [e1, e2]
    exact h9
end Go.Proofs.Ytdbkbaanppnabaa
