/- The walks of Less, of the program and of the reference. -/
import Derived.Test.YtlccldnjgaldoaaDoorWalk7
import Derived.WalkKit
import Derived.ProofKit
import Derived.Handy
import Derived.Lib.SlBytesConst
import Derived.Deep.MidRow
import Derived.Laws.CopyOwn
import Derived.Laws.MakeOwn
import Derived.Deep.WholeRow
import Derived.Deep.Cut
import Derived.Deep.QuietTactic
import Derived.BigQuiet
import Derived.StillTailTactics
import Derived.Lib.Hide
namespace Go.Proofs.YtlccldnjgaldoaaDoor
open Go.RowKit







def lessL : List Int → List Int → Bool
  | x :: xs, y :: ys => if x = y then lessL xs ys else decide (x < y)
  | _, _ => false
theorem drop_at (l : List Int) (k : Nat) (h : k < l.length) : l.drop k = l.getD k 0 :: l.drop (k + 1) := by
  rw [List.drop_eq_getElem_cons h]
  simp [List.getD, List.getElem?_eq_getElem h]
theorem lessL_at (xs ys : List Int) (k : Nat) (hx : k < xs.length) (hy : k < ys.length) :
    (xs.getD k 0 = ys.getD k 0 → lessL (xs.drop k) (ys.drop k) = lessL (xs.drop (k + 1)) (ys.drop (k + 1))) ∧
    (xs.getD k 0 ≠ ys.getD k 0 → lessL (xs.drop k) (ys.drop k) = decide (xs.getD k 0 < ys.getD k 0)) := by
  rw [drop_at xs k hx, drop_at ys k hy]
  exact ⟨fun h => by simp only [lessL]; rw [if_pos h], fun h => by simp only [lessL]; rw [if_neg h]⟩

set_option maxHeartbeats 4000000 in
theorem less_any (xs ys : List Int) (w : World) (hx : xs.length = 32) (hy : ys.length = 32) :
    Calls Tryd.prog 15 #[.agg (arrB 32 xs), .agg (arrB 32 ys)] w fun e w' => e = .returned (.bool (lessL xs ys)) ∧ Below w.heap.size w w' := by
  have HX := Lib.hid hx
  have HY := Lib.hid hy
  clear hx hy
  go_enter Tryd.func15, Tryd.ntmps15
  go_wp2_with fail
  go_loopw [6] (fun i u => ∃ k : Nat, k ≤ 32 ∧ i = .int .i64 k ∧ Below w.heap.size w u ∧ Hid (Row u w.heap.size 26 (arrB 32 xs) ∧ Row u (w.heap.size + 1) 26 (arrB 32 ys) ∧ lessL xs ys = lessL (xs.drop k) (ys.drop k))) (fun i _ => 32 - (intOf i).toNat)
  case atStart => exact ⟨0, by omega, rfl, by go_grown, (Row.new w 26 _).alloc _, Row.newAt (by simp) 26 _, rfl⟩
  case round =>
    obtain ⟨k, hk, rfl, hbl, hrows⟩ := hrel
    obtain ⟨r0, r1, hq⟩ := hrows.out
    by_cases hlt : k < 32
    · have e0 : wr.cell? ⟨w.heap.size, k, none⟩ = some (.int .u8 (xs.getD k 0)) := (r0.cell k).trans (arrB_get 32 _ k (by rw [HX.out]; omega) hlt)
      have e1 : wr.cell? ⟨w.heap.size + 1, k, none⟩ = some (.int .u8 (ys.getD k 0)) := (r1.cell k).trans (arrB_get 32 _ k (by rw [HY.out]; omega) hlt)
      have hs := Lib.hid (lessL_at xs ys k (by rw [HX.out]; exact hlt) (by rw [HY.out]; exact hlt))
      have R0 := Lib.hid r0
      have R1 := Lib.hid r1
      have HQ := Lib.hid hq
      clear r0 r1 hq hrows
      generalize xs.getD k 0 = x at *
      generalize ys.getD k 0 = y at *
      have hl2 : (k : Int) < 32 := by omega
      by_cases hxy : x = y
      · subst hxy
        have hne : (x != x) = false := by simp
        have hs1 := Lib.hid (HQ.out.trans (hs.out.1 rfl))
        clear hs HQ
        go_wp2_with fail
        go_quiet (fail)
        go_wp2
        go_roundw
        case rel => exact ⟨k + 1, by omega, by go_num, below_drewN hbl _, R0.out.drewN _, R1.out.drewN _, hs1.out⟩
        case measure => simp [intOf]; omega
      · have hne : (x != y) = true := by simpa using hxy
        have hfin := Lib.hid (HQ.out.trans (hs.out.2 hxy))
        clear hxy
        go_wp2_with fail
        go_quiet (fail)
        go_wp2_with fail
        go_quiet (fail)
        go_wp2
        go_ret
        exact ⟨by rw [hfin.out]; rfl, below_drewN (below_drewN hbl _) _⟩
    · obtain rfl : k = 32 := by omega
      have hfin : Hid (lessL xs ys = false) := by
        show _ = _
        rw [hq, List.drop_eq_nil_of_le (by rw [HX.out]; exact Nat.le_refl _)]
        rfl
      clear r0 r1 hq hrows
      go_wp2
      go_ret
      exact ⟨by rw [hfin.out]; rfl, hbl⟩

set_option maxHeartbeats 4000000 in
theorem rless_any (xs ys : List Int) (w : World) (hx : xs.length = 32) (hy : ys.length = 32) :
    Calls Tryd.prog 16 #[.agg (arrB 32 xs), .agg (arrB 32 ys)] w fun e w' => e = .returned (.bool (lessL xs ys)) ∧ Below w.heap.size w w' := by
  have HX := Lib.hid hx
  have HY := Lib.hid hy
  clear hx hy
  go_enter Tryd.func16, Tryd.ntmps16
  go_wp2_with fail
  go_loopw [5] (fun i u => ∃ k : Nat, k ≤ 32 ∧ i = .int .i64 k ∧ Below w.heap.size w u ∧ Hid (Row u w.heap.size 26 (arrB 32 xs) ∧ Row u (w.heap.size + 1) 26 (arrB 32 ys) ∧ lessL xs ys = lessL (xs.drop k) (ys.drop k))) (fun i _ => 32 - (intOf i).toNat)
  case atStart => exact ⟨0, by omega, rfl, by go_grown, (Row.new w 26 _).alloc _, Row.newAt (by simp) 26 _, rfl⟩
  case round =>
    obtain ⟨k, hk, rfl, hbl, hrows⟩ := hrel
    obtain ⟨r0, r1, hq⟩ := hrows.out
    by_cases hlt : k < 32
    · have e0 : wr.cell? ⟨w.heap.size, k, none⟩ = some (.int .u8 (xs.getD k 0)) := (r0.cell k).trans (arrB_get 32 _ k (by rw [HX.out]; omega) hlt)
      have e1 : wr.cell? ⟨w.heap.size + 1, k, none⟩ = some (.int .u8 (ys.getD k 0)) := (r1.cell k).trans (arrB_get 32 _ k (by rw [HY.out]; omega) hlt)
      have hs := Lib.hid (lessL_at xs ys k (by rw [HX.out]; exact hlt) (by rw [HY.out]; exact hlt))
      have R0 := Lib.hid r0
      have R1 := Lib.hid r1
      have HQ := Lib.hid hq
      clear r0 r1 hq hrows
      generalize xs.getD k 0 = x at *
      generalize ys.getD k 0 = y at *
      have hl2 : (k : Int) < 32 := by omega
      by_cases hxy : x = y
      · subst hxy
        have hne : (x != x) = false := by simp
        have hs1 := Lib.hid (HQ.out.trans (hs.out.1 rfl))
        clear hs HQ
        go_wp2_with fail
        go_quiet (fail)
        go_wp2
        go_roundw
        case rel => exact ⟨k + 1, by omega, by go_num, below_drewN hbl _, R0.out.drewN _, R1.out.drewN _, hs1.out⟩
        case measure => simp [intOf]; omega
      · have hne : (x != y) = true := by simpa using hxy
        have hfin := Lib.hid (HQ.out.trans (hs.out.2 hxy))
        clear hxy
        go_wp2_with fail
        go_quiet (fail)
        go_wp2_with fail
        go_quiet (fail)
        go_wp2
        go_ret
        exact ⟨by rw [hfin.out]; rfl, below_drewN (below_drewN hbl _) _⟩
    · obtain rfl : k = 32 := by omega
      have hfin : Hid (lessL xs ys = false) := by
        show _ = _
        rw [hq, List.drop_eq_nil_of_le (by rw [HX.out]; exact Nat.le_refl _)]
        rfl
      clear r0 r1 hq hrows
      go_wp2
      go_ret
      exact ⟨by rw [hfin.out]; rfl, hbl⟩
end Go.Proofs.YtlccldnjgaldoaaDoor
