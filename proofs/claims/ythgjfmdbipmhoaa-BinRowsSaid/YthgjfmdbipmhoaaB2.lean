/- The walk of Get. -/
import Derived.Test.YthgjfmdbipmhoaaB1
import Derived.Test.YthgjfmdbipmhoaaBy2
namespace Go.Proofs.Ythgjfmdbipmhoaa
open Go.RowKit

/-- what Get answers -/
def getV (xs : List Int) (i s : Int) : Option Nat := if 0 ≤ s ∧ s ≤ 8 ∧ 0 ≤ i ∧ i + s ≤ xs.length then some (getL ((xs.drop i.toNat).take s.toNat)) else none
theorem get_step (m x : Nat) (hm : m < 72057594037927936) (hx : x ≤ 255) : bits .or .u64 ((m : Int) * 256) (x : Int) = ((256 * m + x : Nat) : Int) := by
  rw [show (m : Int) * 256 = ((m * 256 : Nat) : Int) by omega, bits_or_u64_nat _ _ (by omega) (by omega)]
  congr 1
  have := Nat.shiftLeft_add_eq_or_of_lt (show x < 2 ^ 8 by omega) m
  rw [Nat.shiftLeft_eq, show (2 : Nat) ^ 8 = 256 from rfl] at this
  omega
set_option maxHeartbeats 1000000 in
theorem get_none (A : Option Addr) (n c : Nat) (i s : Int) (xs : List Int) (w : World) (hl : xs.length = n) (hn : n ≤ maxLen) (h : getV xs i s = none) :
    Calls Try.prog 10 #[.slice A n c, .int .i64 i, .int .i64 s] w fun e w' => e = .returned (.tuple #[.int .u64 0, .bool false]) ∧ w = w' := by
  unfold maxLen at hn
  unfold getV at h
  rw [hl] at h
  clear hl
  by_cases h0 : 0 ≤ s ∧ s ≤ 8
  · obtain ⟨s0, s8⟩ := h0
    have d0 : (decide (0 ≤ s ∧ s ≤ 8)) = true := by simp; omega
    by_cases h1 : i < 0
    · clear h
      go_enter Try.func10, Try.ntmps10
      go_wp2_with fail
      refine (maysize_any s w).mono ?_
      rintro e w1 ⟨rfl, rfl⟩
      rw [d0]
      go_wp2
      go_returns
      exact ⟨rfl, rfl⟩
    · have h2 : (n : Int) - s < i := by
        by_cases h2 : i + s ≤ n
        · rw [if_pos ⟨s0, s8, by omega, h2⟩] at h
          cases h
        · omega
      clear h
      go_enter Try.func10, Try.ntmps10
      go_wp2_with fail
      refine (maysize_any s w).mono ?_
      rintro e w1 ⟨rfl, rfl⟩
      rw [d0]
      go_wp2
      go_returns
      exact ⟨rfl, rfl⟩
  · have d0 : (decide (0 ≤ s ∧ s ≤ 8)) = false := by simpa using h0
    clear h h0
    go_enter Try.func10, Try.ntmps10
    go_wp2_with fail
    refine (maysize_any s w).mono ?_
    rintro e w1 ⟨rfl, rfl⟩
    rw [d0]
    go_wp2
    go_returns
    exact ⟨rfl, rfl⟩
set_option maxHeartbeats 1000000 in
theorem get_some (A : Option Addr) (n c i s : Nat) (xs : List Int) (w : World) (hl : xs.length = n) (hc : n ≤ c) (hn : c ≤ maxLen) (hB : isB xs) (hx : Bytes w w.heap.size A xs) (s8 : s ≤ 8) (his : i + s ≤ n) :
    Calls Try.prog 10 #[.slice A n c, .int .i64 i, .int .i64 s] w fun e w' => e = .returned (.tuple #[.int .u64 (getL ((xs.drop i).take s)), .bool true]) ∧ w = w' := by
  unfold maxLen at hn
  have d0 : (decide (0 ≤ (s : Int) ∧ (s : Int) ≤ 8)) = true := by simp; omega
  have k8 : (s : Int) ≤ 8 := by omega
  have n1 : ¬ ((n : Int) - (s : Int) < (i : Int)) := by omega
  have hcut := fun w => run_cut2 A n c i (i + s) w (by omega) (by omega)
  rw [show i + s - i = s by omega] at hcut
  have HY := Lib.hid (hx.cut i s c (by omega))
  have HB := Lib.hid (isB_take (isB_drop hB i) s)
  have hyl : ((xs.drop i).take s).length = s := by rw [List.length_take, List.length_drop]; omega
  generalize (xs.drop i).take s = ys at *
  have HCUT := Lib.hid hcut
  have HL := Lib.hid hyl
  clear hcut hl hx hB hyl
  generalize cutA A i c = A' at *
  go_enter Try.func10, Try.ntmps10
  go_wp2_with fail
  refine (maysize_any s w).mono ?_
  rintro e w1 ⟨rfl, rfl⟩
  rw [d0]
  go_wp2_with ((with_reducible refine wpList_cut2 (o := ⟨some 31, _, _, _, _, _⟩) ?_ (.tmp 26) (.tmp 27) (.tmp 30) ?_ ?_ ?_ ?_ (HCUT.out _) ?_); (rfl); (rfl); (rfl); (rfl); (rfl))
  go_loopw [8, 33] (fun v i u => ∃ j : Nat, j ≤ s ∧ i = .int .i64 j ∧ v = .int .u64 (getL (ys.take j)) ∧ u = w) (fun _ i _ => s - (intOf i).toNat)
  case atStart => exact ⟨0, by omega, rfl, rfl, rfl⟩
  case round =>
    obtain ⟨j, hj, rfl, rfl, rfl⟩ := hrel
    by_cases hlt : j < s
    · have hlt2 : (j : Int) < (s : Int) := by omega
      obtain ⟨ad, rfl, hcell⟩ := HY.out.cell j (by rw [HL.out]; exact hlt)
      have hx := HB.out _ (List.getElem_mem (by rw [HL.out]; exact hlt : j < ys.length))
      have hg : ys.getD j 0 = ys[j]'(by rw [HL.out]; exact hlt) := by rw [List.getD_eq_getElem?_getD, List.getElem?_eq_getElem (by rw [HL.out]; exact hlt)]; rfl
      have ht : Hid (getL (ys.take (j + 1)) = 256 * getL (ys.take j) + (ys.getD j 0).toNat) := by
        show _ = _
        rw [List.take_add_one, List.getElem?_eq_getElem (by rw [HL.out]; exact hlt), hg]
        exact getL_snoc _ _
      have hm : getL (ys.take j) < 72057594037927936 := by
        have h1 := getL_lt (ys.take j) (isB_take HB.out j)
        rw [List.length_take, HL.out] at h1
        have h2 : 256 ^ (min j s) ≤ 256 ^ 7 := Nat.pow_le_pow_right (by omega) (by omega)
        omega
      rw [← hg] at hx
      obtain ⟨x, hx2⟩ := Int.eq_ofNat_of_zero_le hx.1
      rw [hx2] at hx hcell ht
      have hst := Lib.hid (get_step (getL (ys.take j)) x hm (by omega))
      clear hg hx2
      generalize getL (ys.take j) = m at *
      go_wp2
      go_roundw
      case rel =>
        refine ⟨j + 1, by omega, by go_num, ?_, trivial⟩
        rw [hst.out, ht.out, Int.toNat_natCast]
      case measure => simp [intOf]; omega
    · obtain rfl : j = s := by omega
      have hT : ys.take j = ys := List.take_of_length_le (by rw [HL.out]; exact Nat.le_refl _)
      rw [hT]
      go_wp2
      go_returns
      exact ⟨rfl, rfl⟩
end Go.Proofs.Ythgjfmdbipmhoaa
