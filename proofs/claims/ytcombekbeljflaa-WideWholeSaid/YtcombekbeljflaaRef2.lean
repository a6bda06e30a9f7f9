/- The reference's Cmp. -/
import Derived.Test.YtcombekbeljflaaWalk4
namespace Go.Proofs.Ytcombekbeljflaa
open Go.RowKit

/-- the words of a number from word k on -/
def highW (m k : Nat) : Nat := m / 2 ^ (64 * k)
theorem high_all (m : Nat) (h : m < Big) : highW m 4 = 0 := by
  unfold highW
  rw [Big_eq] at h
  exact Nat.div_eq_of_lt h
theorem high_zero (m : Nat) : highW m 0 = m := by unfold highW; simp
theorem high_step (m k : Nat) : highW m k = 18446744073709551616 * highW m (k + 1) + W m k := by
  unfold highW W
  rw [show 64 * (k + 1) = 64 * k + 64 by omega, Nat.pow_add, ← Nat.div_div_eq_div_mul, show (2 : Nat) ^ 64 = 18446744073709551616 from rfl]
  omega
theorem cmp_high (m n k : Nat) (h : highW m (k + 1) = highW n (k + 1)) :
    (W m k < W n k → m < n) ∧ (W n k < W m k → n < m) ∧ (W m k = W n k → highW m k = highW n k) := by
  have hm := high_step m k
  have hn := high_step n k
  have key : ∀ x y : Nat, highW x k < highW y k → x < y := by
    intro x y hlt
    unfold highW at hlt
    rcases Nat.lt_or_ge x y with c | c
    · exact c
    · exact absurd hlt (Nat.not_lt.2 (Nat.div_le_div_right c))
  exact ⟨fun c => key m n (by omega), fun c => key n m (by omega), fun c => by omega⟩
set_option maxHeartbeats 4000000 in
theorem rcmp_any (m n : Nat) (w : World) (hm : m < Big) (hn : n < Big) :
    Calls Try.prog 24 #[.agg (wcs m), .agg (wcs n)] w fun e w' => e = .returned (.int .i64 (cmpI m n)) ∧ Below w.heap.size w w' := by
  have h4 : Hid (highW m 4 = highW n 4) := by show _ = _; rw [high_all m hm, high_all n hn]
  clear hm hn
  go_enter Try.func24, Try.ntmps24
  go_wp2_with fail
  go_loopw [5] (fun i u => ∃ k : Nat, k ≤ 4 ∧ i = .int .i64 ((k : Int) - 1) ∧ Below w.heap.size w u ∧ Hid (Row u w.heap.size 24 (wcs m) ∧ Row u (w.heap.size + 1) 24 (wcs n) ∧ highW m k = highW n k)) (fun i _ => (intOf i + 1).toNat)
  case atStart => exact ⟨4, by omega, rfl, by go_grown, (Row.new w 24 _).alloc _, Row.newAt (by simp) 24 _, h4.out⟩
  case round =>
    clear h4
    obtain ⟨k, hk, rfl, hbl, hrows⟩ := hrel
    obtain ⟨r0, r1, hq⟩ := hrows.out
    rcases k with _ | k
    · have hres : Hid (cmpI m n = 0) := by
        show _ = _
        rw [high_zero, high_zero] at hq
        unfold cmpI
        rw [if_neg (by omega), if_pos hq]
      clear r0 r1 hq hrows
      have hz : (((0 : Nat) : Int) - 1) = -1 := by omega
      rw [hz]
      clear hz
      go_wp2
      go_ret
      exact ⟨by rw [hres.out]; rfl, hbl⟩
    · have e0 : wr.cell? ⟨w.heap.size, k, none⟩ = some (.int .u64 (W m k)) := (r0.cell k).trans (wc_get m k (by omega))
      have e1 : wr.cell? ⟨w.heap.size + 1, k, none⟩ = some (.int .u64 (W n k)) := (r1.cell k).trans (wc_get n k (by omega))
      have hs := Lib.hid (cmp_high m n k hq)
      have R0 := Lib.hid r0
      have R1 := Lib.hid r1
      clear r0 r1 hq hrows
      have hz : (((k + 1 : Nat) : Int) - 1) = (k : Int) := by omega
      rw [hz]
      clear hz
      have hk0 : (0 : Int) ≤ (k : Int) := by omega
      have hk4 : (k : Int) < 4 := by omega
      generalize W m k = x at *
      generalize W n k = y at *
      by_cases c1 : x < y
      · have c1' : decide ((x : Int) < (y : Int)) = true := by simpa using c1
        have c1'' : decide (x < y) = true := by simpa using c1
        have hres : Hid (cmpI m n = -1) := by
          show _ = _
          unfold cmpI
          rw [if_pos (hs.out.1 c1)]
        clear hs
        go_wp2_with fail
        go_quiet (fail)
        go_wp2
        go_ret
        exact ⟨by rw [hres.out]; rfl, below_drewN hbl _⟩
      · have c1' : decide ((x : Int) < (y : Int)) = false := by simpa using c1
        have c1'' : decide (x < y) = false := by simpa using c1
        by_cases c2 : y < x
        · have c2' : decide ((y : Int) < (x : Int)) = true := by simpa using c2
          have c2'' : decide (y < x) = true := by simpa using c2
          have hres : Hid (cmpI m n = 1) := by
            show _ = _
            have := hs.out.2.1 c2
            unfold cmpI
            rw [if_neg (by omega), if_neg (by omega)]
          clear hs
          go_wp2_with fail
          go_quiet (fail)
          go_wp2_with fail
          go_quiet (fail)
          go_wp2
          go_ret
          exact ⟨by rw [hres.out]; rfl, below_drewN (below_drewN hbl _) _⟩
        · have c2' : decide ((y : Int) < (x : Int)) = false := by simpa using c2
          have c2'' : decide (y < x) = false := by simpa using c2
          have hnext := Lib.hid (hs.out.2.2 (by omega))
          clear hs
          go_wp2_with fail
          go_quiet (fail)
          go_wp2_with fail
          go_quiet (fail)
          go_wp2
          go_roundw
          case rel => exact ⟨k, by omega, by go_num, below_drewN hbl _, R0.out.drewN _, R1.out.drewN _, hnext.out⟩
          case measure => simp [intOf]
end Go.Proofs.Ytcombekbeljflaa
