/- The walk of the law ShaTells. -/
import Derived.Test.YtlccldnjgaldoaaDoorLawZero
import Derived.Test.YtlccldnjgaldoaaDoorRef5
import Derived.WalkKit
import Derived.ProofKit
import Derived.Handy
import Derived.Deep.RegionHeld
import Derived.Laws.BytesArg
import Derived.OpenShut
import Derived.ChangeKeysEq
import Derived.Lib.SlBytesConst
import Derived.Deep.MidRow
import Derived.Laws.CopyOwn
import Derived.Laws.MakeOwn
import Derived.Deep.WholeRow
import Derived.Deep.Cut
import Derived.Deep.QuietTactic
import Derived.BigQuiet
import Derived.StillTailTactics
import Derived.Lib.Hide
namespace Go.Proofs.YtlccldnjgaldoaaDoor
open Go.RowKit













set_option maxHeartbeats 8000000 in
theorem law_tells (A : Option Addr) (n c : Nat) (xs : List Int) (w : World) (hl : xs.length = n) (hx : Bytes w w.heap.size A xs) (hr : ∀ x ∈ xs, 0 ≤ x ∧ x ≤ 255) (hmx : n ≤ maxLen) (ht : Tables w) :
    Calls Tryd.prog 3 #[.slice A n c] w fun e w' => e = .returned (.bool true) ∧ Below w.heap.size w w' := by
  unfold maxLen at hmx
  have HL := Lib.hid hl
  have HR := Lib.hid hr
  have S0 : Two w A A xs xs w := ⟨Below.refl _ _, hx, hx, ht⟩
  clear hl hx hr
  go_enter Tryd.func3, Tryd.ntmps3
  go_wp2_with fail
  refine (awake_any w ht).mono ?_
  rintro e w1 ⟨rfl, hb⟩
  have S1 := S0.below hb
  clear hb S0 ht
  by_cases h4 : 400 < n
  · go_wp2
    go_ret
    exact ⟨rfl, S1.b⟩
  have h4' : n ≤ 400 := by omega
  clear h4
  have t0 : decide ((400 : Int) < (n : Int)) = false := by simp; omega
  go_wp2_with fail
  have S2 : Two w A A xs xs w1.drew := S1.below (Below.refl _ _).drew
  obtain ⟨m, hm⟩ : ∃ m : Nat, (n + 72) / 64 * 64 = m := ⟨_, rfl⟩
  have pl := Lib.hid (padL_len xs m (by rw [HL.out]; omega))
  have HM := Lib.hid hm
  have hm0 : 0 < m := by omega
  clear hm
  have heq : ∀ u : World, (binOp .eql 26 (.agg (arrB 32 (sumL xs))) (.agg (arrB 32 (sumL xs)))).run Tryd.prog u = .ok (.bool true) u := fun u => by
    have h := run_eql_id (sumL xs) (sumL xs) (sumL_len xs) (sumL_len xs) u
    rwa [show eqL (sumL xs) (sumL xs) = true by simp [eqL]] at h
  generalize hS : arrB 32 (sumL xs) = sm at *
  have HS := Lib.hid hS
  clear hS
  generalize hPx : strOfNums (padL xs m) = px at *
  have HPx := Lib.hid hPx
  clear hPx
  have cPad : Hid (∀ u : World, Two w A A xs xs u → Calls Tryd.prog 11 #[.slice A n c] u fun e u' => ∃ v, e = .returned v ∧ ∃ g cap, v = .slice (some ⟨g, 0, none⟩) m cap ∧ (convert 22 9 (.slice (some ⟨g, 0, none⟩) m cap)).run Tryd.prog u' = .ok (.string px) u' ∧ Below u.heap.size u u') := fun u h => by
    refine (rpad_any A n c xs u HL.out (by omega) h.bytes).mono ?_
    rintro e u' ⟨v, rfl, hown, hb⟩
    rw [HM.out] at hown
    obtain ⟨g, cap, rfl⟩ := own_len hown hm0
    exact ⟨_, rfl, g, cap, rfl, (conv_bytes _ m cap _ (padL xs m) u' pl.out (own_bytes hown)).trans (by rw [HPx.out]), hb⟩
  first
  | (go_region_held (fun u => Two w A A xs xs u) (assumption)
    (first
      | ((go_at_call 10; with_reducible refine (pad_m A n c m xs _ HL.out (by omega) HM.out (Two.bytes (by assumption))).mono ?_); rintro e w3 ⟨rfl, r3, hb⟩; have S3 : Two w A A xs xs w3 := Two.below (by assumption) hb; have cv3 : (convert 22 9 (Value.slice (some ⟨w1.heap.size, 0, none⟩) m m)).run Tryd.prog w3 = Result.ok (Value.string px) w3 := (conv_row w1.heap.size m (padL xs m) w3 r3 pl.out).trans (by rw [HPx.out]); have R3 := Lib.hid r3; clear hb r3)
      | ((go_at_call 11; with_reducible refine (cPad.out _ (by assumption)).mono ?_); rintro e w4 ⟨v4, rfl, g4, cap4, rfl, cv4, hb⟩; have S4 : Two w A A xs xs w4 := Two.below (by assumption) hb; have cv5 : (convert 22 9 (Value.slice (some ⟨w1.heap.size, 0, none⟩) m m)).run Tryd.prog w4 = Result.ok (Value.string px) w4 := (conv_row w1.heap.size m (padL xs m) w4 (R3.out.below hb R3.out.lt) pl.out).trans (by rw [HPx.out]); clear hb R3)
      | ((go_at_call 12; with_reducible refine (sum_any A n c xs _ HL.out (by omega) (Two.bytes (by assumption)) HR.out (Two.t (by assumption))).mono ?_); rintro e w5 ⟨rfl, hb⟩; have S5 : Two w A A xs xs w5 := Two.below (by assumption) hb; rw [HS.out]; clear hb)
      | ((go_at_call 13; with_reducible refine (rsum_any A n c xs _ HL.out (by omega) (Two.bytes (by assumption)) HR.out).mono ?_); rintro e w6 ⟨rfl, hb⟩; have S6 : Two w A A xs xs w6 := Two.below (by assumption) hb; rw [HS.out]; clear hb)))
  | fail
  all_goals
    go_wp2
    go_ret
    exact ⟨rfl, Two.b (by assumption)⟩
end Go.Proofs.YtlccldnjgaldoaaDoor
