/- The walks of maySize, Put and Get. -/
import Derived.Test.YthgjfmdbipmhoaaB0
import Derived.Test.YthgjfmdbipmhoaaBy
import Derived.Laws.Bits64b
namespace Go.Proofs.Ythgjfmdbipmhoaa
open Go.RowKit

theorem maysize_any (s : Int) (w : World) :
    Calls Try.prog 17 #[.int .i64 s] w fun e w' => e = .returned (.bool (decide (0 ≤ s ∧ s ≤ 8))) ∧ w = w' := by
  by_cases h0 : 0 ≤ s
  · by_cases h1 : s ≤ 8
    · go_enter Try.func17, Try.ntmps17
      go_wp2
      go_ret
      exact ⟨by simp [h0, h1], rfl⟩
    · go_enter Try.func17, Try.ntmps17
      go_wp2
      go_ret
      exact ⟨by simp [h1], rfl⟩
  · go_enter Try.func17, Try.ntmps17
    go_wp2
    go_ret
    exact ⟨by simp; omega, rfl⟩
theorem putL_head (n i : Nat) : putL n (i + 1) = ((n / 256 ^ i % 256 : Nat) : Int) :: putL n i := by
  induction i generalizing n with
  | zero => simp [putL]
  | succ i ih =>
    show putL (n / 256) (i + 1) ++ [((n % 256 : Nat) : Int)] = _
    rw [ih, List.cons_append, Nat.div_div_eq_div_mul, Nat.pow_succ, Nat.mul_comm (256 ^ i) 256]
    rfl
theorem put_set (n k i : Nat) (h : i < k) : (arrB k (List.replicate (k - i) 0 ++ putL n i)).setIfInBounds (k - 1 - i) (.int .u8 ((n / 256 ^ i % 256 : Nat) : Int)) = arrB k (List.replicate (k - (i + 1)) 0 ++ putL n (i + 1)) := by
  have hl : ∀ j, j ≤ k → (List.replicate (k - j) (0 : Int) ++ putL n j).length = k := fun j hj => by rw [List.length_append, List.length_replicate, putL_len]; omega
  obtain ⟨d, rfl⟩ : ∃ d, k = d + 1 + i := ⟨k - 1 - i, by omega⟩
  rw [show d + 1 + i - i = d + 1 by omega, show d + 1 + i - 1 - i = d by omega, show d + 1 + i - (i + 1) = d by omega, putL_head, List.replicate_succ', List.append_assoc]
  have hl1 := hl i (by omega)
  have hl2 := hl (i + 1) (by omega)
  rw [show d + 1 + i - i = d + 1 by omega, List.replicate_succ', List.append_assoc] at hl1
  rw [show d + 1 + i - (i + 1) = d by omega, putL_head] at hl2
  apply arrB_ext
  · omega
  · rw [Array.size_setIfInBounds, arrB_size _ _ (by omega)]
  · intro t ht
    rw [Array.getElem?_setIfInBounds, arrB_size _ _ (by omega)]
    by_cases e : d = t
    · subst e
      rw [if_pos rfl, if_pos (by omega)]
      simp [List.getD]
    · rw [if_neg e, arrB_get _ _ _ (by omega) ht]
      congr 2
      by_cases hlt : t < d
      · simp [List.getD, List.getElem?_append_left, hlt]
      · obtain ⟨s, rfl⟩ : ∃ s, t = d + (s + 1) := ⟨t - d - 1, by omega⟩
        simp [List.getD, List.getElem?_append_right]
theorem own_of_row {w : World} {g B n : Nat} {xs : List Int} (h : Row w g 5 (arrB n xs)) (hl : xs.length = n) (hB : B ≤ g) (hn : n ≤ maxLen) : OwnB w B (.slice (some ⟨g, 0, none⟩) n n) xs := by
  subst hl
  refine ⟨by simp, .inr ⟨g, xs.length, arrB xs.length xs, rfl, hB, h, Nat.le_refl _, hn, by rw [arrB_size _ _ (Nat.le_refl _)]; omega, ?_⟩⟩
  rw [List.take_of_length_le (by rw [Array.length_toList, arrB_size _ _ (Nat.le_refl _)]; omega)]
  simp [arrB]
set_option maxHeartbeats 1000000 in
theorem put_any (n k : Nat) (w : World) (hn : n < 18446744073709551616) (hk : k ≤ 8) :
    Calls Try.prog 9 #[.int .u64 n, .int .i64 k] w fun e w' => (∃ v, e = .returned v ∧ OwnB w' w.heap.size v (putL n k)) ∧ Below w.heap.size w w' := by
  have k8 : (k : Int) ≤ 8 := by omega
  have d0 : (decide (0 ≤ (k : Int) ∧ (k : Int) ≤ 8)) = true := by simp; omega
  go_enter Try.func9, Try.ntmps9
  go_wp2_with fail
  refine (maysize_any (k : Int) w).mono ?_
  rintro e w1 ⟨rfl, rfl⟩
  rw [d0]
  go_wp2_with fail
  rw [make_bytes k (by omega)]
  go_wp2_with fail
  go_loopw [13] (fun i u => ∃ j : Nat, j ≤ k ∧ i = .int .i64 j ∧ Below w.heap.size w u ∧ Hid (Row u w.heap.size 5 (arrB k (List.replicate (k - j) 0 ++ putL n j)))) (fun i _ => k - (intOf i).toNat)
  case atStart =>
    refine ⟨0, by omega, rfl, by go_grown, ?_⟩
    have e : arrB k (List.replicate (k - 0) 0 ++ putL n 0) = arrB k [] := by simp [putL, arrB]
    rw [e]
    exact Row.new w 5 _
  case round =>
    obtain ⟨j, hj, rfl, hbl, hrows⟩ := hrel
    have r0 := hrows.out
    by_cases hlt : j < k
    · have hlt2 : (j : Int) < (k : Int) := by omega
      have hj8 : (j : Int) < 8 := by omega
      have hj0 : (0 : Int) ≤ (j : Int) := by omega
      have hset := put_set n k j hlt
      have e0 := (r0.cell (k - 1 - j)).trans (arrB_get k _ (k - 1 - j) (by rw [List.length_append, List.length_replicate, putL_len]; omega) (by omega))
      have f0 := r0.frozen (k - 1 - j)
      have hv : Hid ((n : Int) / 2 ^ (8 * j) % 256 = ((n / 256 ^ j % 256 : Nat) : Int)) := by
        show _ = _
        rw [show (256 : Nat) = 2 ^ 8 from rfl, ← Nat.pow_mul]
        simp
      have HS := Lib.hid hset
      have R0 := Lib.hid r0
      clear hset r0 hrows
      generalize (List.replicate (k - j) 0 ++ putL n j).getD (k - 1 - j) 0 = z at *
      generalize arrB k (List.replicate (k - j) 0 ++ putL n j) = cs at *
      go_wp2_with fail
      go_roundw
      case rel =>
        refine ⟨j + 1, by omega, by go_num, hbl.setCell (by simp) _, ?_⟩
        rw [← HS.out, ← hv.out]
        exact R0.out.put _ _
      case measure => simp [intOf]; omega
    · obtain rfl : j = k := by omega
      have r1 : Row wr w.heap.size 5 (arrB j (putL n j)) := by simpa using r0
      go_wp2
      go_ret
      exact ⟨⟨_, rfl, own_of_row r1 (putL_len _ _) (Nat.le_refl _) (by unfold maxLen; omega)⟩, hbl⟩
end Go.Proofs.Ythgjfmdbipmhoaa
