/- The walk of the law ShaPads. -/
import Derived.Test.YtlccldnjgaldoaaDoorBytesIn
import Derived.WalkKit
import Derived.ProofKit
import Derived.Handy
import Derived.Laws.BytesArg
import Derived.OpenShut
import Derived.ChangeKeysEq
import Derived.Lib.SlBytesConst
import Derived.Deep.MidRow
import Derived.Laws.CopyOwn
import Derived.Laws.MakeOwn
import Derived.Deep.WholeRow
import Derived.Deep.Cut
import Derived.Deep.QuietTactic
import Derived.BigQuiet
import Derived.StillTailTactics
import Derived.Lib.Hide
namespace Go.Proofs.YtlccldnjgaldoaaDoor
open Go.RowKit











theorem getD_append (a b : List Int) (i : Nat) : (a ++ b).getD i 0 = if i < a.length then a.getD i 0 else b.getD (i - a.length) 0 := by
  by_cases h : i < a.length
  · rw [if_pos h]; simp [List.getD, List.getElem?_append_left h]
  · rw [if_neg h]; simp [List.getD, List.getElem?_append_right (by omega : a.length ≤ i)]
theorem getD_zeros (n i : Nat) : (List.replicate n (0 : Int)).getD i 0 = 0 := by
  simp only [List.getD, List.getElem?_replicate]
  split <;> rfl
theorem padL_first (xs : List Int) (m i : Nat) (h : i < xs.length) : (padL xs m).getD i 0 = xs.getD i 0 := by
  unfold padL
  rw [getD_append, if_pos (by simp; omega), getD_append, if_pos (by simp; omega), getD_append, if_pos h]
theorem padL_mark (xs : List Int) (m : Nat) : (padL xs m).getD xs.length 0 = 128 := by
  unfold padL
  rw [getD_append, if_pos (by simp), getD_append, if_pos (by simp), getD_append, if_neg (by omega)]
  simp
theorem padL_end (xs : List Int) (m i : Nat) (h : xs.length + 9 ≤ m) (hi : i < 8) : (padL xs m).getD (m - 8 + i) 0 = (lenL xs.length).getD i 0 := by
  unfold padL
  rw [getD_append, if_neg (by simp; omega)]
  congr 1
  simp
  omega
theorem padL_mid (xs : List Int) (m i : Nat) (h0 : xs.length < i) (h : i < m - 8) : (padL xs m).getD i 0 = 0 := by
  unfold padL
  rw [getD_append, if_pos (by simp; omega), getD_append, if_neg (by simp; omega)]
  exact getD_zeros _ _
theorem lenL_zero (n : Nat) (h : n ≤ 400) (i : Nat) (hi : i < 6) : (lenL n).getD i 0 = 0 := by
  rcases i with _ | _ | _ | _ | _ | _ | i
  all_goals first | omega | (simp only [lenL, List.getD_cons_zero, List.getD_cons_succ]; omega)
theorem padL_zero (xs : List Int) (m i : Nat) (hm : xs.length + 9 ≤ m) (hn : xs.length ≤ 400) (h0 : xs.length < i) (h : i < m - 2) : (padL xs m).getD i 0 = 0 := by
  by_cases h8 : i < m - 8
  · exact padL_mid xs m i h0 h8
  · have e := padL_end xs m (i - (m - 8)) hm (by omega)
    rw [show m - 8 + (i - (m - 8)) = i by omega, lenL_zero _ hn _ (by omega)] at e
    exact e
set_option maxHeartbeats 4000000 in
theorem law_pads (A : Option Addr) (n c : Nat) (xs : List Int) (w : World) (hl : xs.length = n) (hx : Bytes w w.heap.size A xs) (hmx : n ≤ maxLen) (ht : Tables w) :
    Calls Tryd.prog 5 #[.slice A n c] w fun e w' => e = .returned (.bool true) ∧ Below w.heap.size w w' := by
  unfold maxLen at hmx
  have HL := Lib.hid hl
  have HX := Lib.hid hx
  clear hl hx
  go_enter Tryd.func5, Tryd.ntmps5
  go_wp2_with fail
  refine (awake_any w ht).mono ?_
  rintro e w1 ⟨rfl, hb⟩
  have X1 := Lib.hid (HX.out.below hb)
  have s1 := hb.size
  have b1 := Lib.hid hb
  clear hb HX ht
  by_cases h4 : 400 < n
  · go_wp2
    go_ret
    exact ⟨rfl, b1.out⟩
  have h4' : n ≤ 400 := by omega
  clear h4
  have t0 : decide ((400 : Int) < (n : Int)) = false := by simp; omega
  go_wp2_with fail
  refine (pad_any A n c xs w1 HL.out (by omega) (fun h => by obtain ⟨ad, e, hlt, hc⟩ := X1.out h; exact ⟨ad, e, by omega, hc⟩)).mono ?_
  rintro e w2 ⟨rfl, r2, hb⟩
  have hmm : (n + 72) / 64 * 64 % 64 = 0 := by omega
  obtain ⟨m, hm⟩ : ∃ m : Nat, (n + 72) / 64 * 64 = m := ⟨_, rfl⟩
  have m1 : n + 9 ≤ m := by omega
  have m2 : m < n + 73 := by omega
  rw [hm] at r2 hmm ⊢
  clear hm
  have HMM := Lib.hid hmm
  clear hmm
  have X2 := Lib.hid (X1.out.below (hb.mono s1))
  have b2 := Lib.hid (b1.out.trans (hb.mono s1))
  have hp := Lib.hid (padL_len xs m (by rw [HL.out]; omega))
  have e1 : w2.cell? ⟨w1.heap.size, n, none⟩ = some (.int .u8 128) := by
    rw [r2.cell n, arrB_get m _ n (by rw [hp.out]; omega) (by omega)]
    have := padL_mark xs m
    rw [HL.out] at this
    rw [this]
  have cv1 : ∀ k, (convert 22 9 (.slice A n c)).run Tryd.prog (w2.drewN k) = .ok (.string (strOfNums xs)) (w2.drewN k) := fun k => conv_bytes A n c _ xs _ HL.out (fun h => X2.out h)
  have cv2 : ∀ k, (convert 22 9 (.slice (some ⟨w1.heap.size, 0, none⟩) n m)).run Tryd.prog (w2.drewN k) = .ok (.string (strOfNums xs)) (w2.drewN k) := fun k => run_convert_bytes_arg (P := Tryd.prog) _ 22 5 Tryd.underlying22 Tryd.underlying5 w1.heap.size 0 n m xs HL.out (fun i hi => by
    rw [Nat.zero_add]
    refine ((Row.drewN r2 k).cell i).trans ?_
    rw [arrB_get m _ i (by rw [hp.out]; omega) (by omega), padL_first xs m i (by rw [HL.out]; exact hi)]) 9 Tryd.underlying9
  have R2 := Lib.hid r2
  clear r2 hb b1 X1
  have t1 : decide ((m : Int) < (n : Int) + 9) = false := by simp; omega
  have t2 : decide ((n : Int) + 9 + 64 ≤ (m : Int)) = false := by simp; omega
  have t3 : (((m : Int) % 64) != 0) = false := by have := HMM.out; simp; omega
  have q1 : IntKind.i64.wrap ((n : Int) + 9) = (n : Int) + 9 := IntWalk.i64_in _ (by omega)
  have q2 : IntKind.i64.wrap ((n : Int) + 9 + 64) = (n : Int) + 9 + 64 := IntWalk.i64_in _ (by omega)
  have q3 : IntKind.i64.wrap ((m : Int) % 64) = (m : Int) % 64 := IntWalk.i64_in _ (by omega)
  have q4 : (n : Int) ≤ (m : Int) := by omega
  have q5 : (n : Int) < (m : Int) := by omega
  go_wp2_with fail
  go_quiet (fail)
  clear q1 q2 q3 t1 t2 t3 cv1 cv2 e1
  have R3 : Hid (Row (w2.drewN nq) w1.heap.size 5 (arrB m (padL xs m))) := R2
  have b3 := Lib.hid (below_drewN b2.out nq)
  clear R2 b2 X2
  generalize w2.drewN nq = w3 at *
  have hz : Hid (∀ i, n < i → i < m - 2 → w3.cell? ⟨w1.heap.size, i, none⟩ = some (.int .u8 0)) := by
    intro i h1 h2
    rw [R3.out.cell i, arrB_get m _ i (by rw [hp.out]; omega) (by omega), padL_zero xs m i (by rw [HL.out]; omega) (by rw [HL.out]; omega) (by rw [HL.out]; omega) h2]
  have c6 : w3.cell? ⟨w1.heap.size, m - 2, none⟩ = some (.int .u8 (8 * (n : Int) / 256 % 256)) := by
    rw [R3.out.cell (m - 2), arrB_get m _ (m - 2) (by rw [hp.out]; omega) (by omega)]
    have := padL_end xs m 6 (by rw [HL.out]; omega) (by omega)
    rw [show m - 8 + 6 = m - 2 by omega, HL.out] at this
    rw [this]
    rfl
  have c7 : w3.cell? ⟨w1.heap.size, m - 1, none⟩ = some (.int .u8 (8 * (n : Int) % 256)) := by
    rw [R3.out.cell (m - 1), arrB_get m _ (m - 1) (by rw [hp.out]; omega) (by omega)]
    have := padL_end xs m 7 (by rw [HL.out]; omega) (by omega)
    rw [show m - 8 + 7 = m - 1 by omega, HL.out] at this
    rw [this]
    rfl
  have C6 := Lib.hid c6
  have C7 := Lib.hid c7
  clear c6 c7
  go_wp2_with fail
  go_loop [6] (fun i => ∃ k : Nat, n + 1 ≤ k ∧ k ≤ m - 2 ∧ i = .int .i64 k) (fun i => m - (intOf i).toNat)
  case atStart => exact ⟨n + 1, by omega, by omega, by go_num⟩
  case round =>
    obtain ⟨k, hk1, hk2, rfl⟩ := hrel
    by_cases hlt : k < m - 2
    · have ck : w3.cell? ⟨w1.heap.size, k, none⟩ = some (.int .u8 0) := hz.out k (by omega) hlt
      have l1 : (k : Int) < (m : Int) - 2 := by omega
      have l2 : (k : Int) < (m : Int) := by omega
      go_wp2
      go_round
      case rel => exact ⟨k + 1, by omega, by omega, by go_num⟩
      case measure => simp [intOf]; omega
    · have l1 : ¬ (k : Int) < (m : Int) - 2 := by omega
      obtain ⟨j, rfl⟩ : ∃ j, m = j + 2 := ⟨m - 2, by omega⟩
      have d6 : w3.cell? ⟨w1.heap.size, j, none⟩ = some (.int .u8 (8 * (n : Int) / 256 % 256)) := C6.out
      have d7 : w3.cell? ⟨w1.heap.size, j + 1, none⟩ = some (.int .u8 (8 * (n : Int) % 256)) := C7.out
      generalize ha : 8 * (n : Int) / 256 % 256 = a at *
      generalize hb : 8 * (n : Int) % 256 = b at *
      have hab : ((256 * a + b) == 8 * (n : Int)) = true := by simp; omega
      have a0 : 0 ≤ a ∧ a ≤ 255 := by omega
      have b0 : 0 ≤ b ∧ b ≤ 255 := by omega
      clear ha hb
      obtain ⟨a1, a2⟩ := a0
      obtain ⟨b1, b2⟩ := b0
      have s1 : IntKind.i64.wrap ((j : Int) + 2 - 2) = (j : Int) := by rw [IntWalk.i64_in _ (by omega)]; omega
      have s2 : IntKind.i64.wrap ((j : Int) + 2 - 1) = (j : Int) + 1 := by rw [IntWalk.i64_in _ (by omega)]; omega
      have s3 : IntKind.i64.wrap (j : Int) = (j : Int) := by rw [IntWalk.i64_in _ (by omega)]
      have s4 : IntKind.i64.wrap a = a := by rw [IntWalk.i64_in _ (by omega)]
      have s5 : IntKind.i64.wrap b = b := by rw [IntWalk.i64_in _ (by omega)]
      have s6 : IntKind.i64.wrap (256 * a) = 256 * a := by rw [IntWalk.i64_in _ (by omega)]
      have s7 : IntKind.i64.wrap (256 * a + b) = 256 * a + b := by rw [IntWalk.i64_in _ (by omega)]
      have s8 : IntKind.i64.wrap (8 * (n : Int)) = 8 * (n : Int) := by rw [IntWalk.i64_in _ (by omega)]
      have s9 : ((j : Int) + 1).toNat = j + 1 := by omega
      have sa : (j : Int) < (j : Int) + 2 := by omega
      have sb : (j : Int) + 1 < (j : Int) + 2 := by omega
      have sc : 0 ≤ (j : Int) + 1 := by omega
      have sd : j < j + 2 := by omega
      have se : j + 1 < j + 2 := by omega
      go_wp2_with fail
      go_quiet (fail)
      clear s1 s2 s3 s4 s5 s6 s7 s8 s9
      go_wp2
      go_ret
      exact ⟨rfl, below_drewN b3.out _⟩
end Go.Proofs.YtlccldnjgaldoaaDoor
