/- The walks of Add and Sub, word by word. -/
import Derived.Test.YtcombekbeljflaaWalk1
import Derived.Deep.RegionHeld3
import Derived.Deep.DrawnRows
import Derived.RegionTactic
namespace Go.Proofs.Ytcombekbeljflaa
open Go.RowKit
attribute [local go_sem ↓] Go.wp_at_zero Go.wp_at_succ

/-- the carry ahead of word k -/
def addC (xs ys : List Int) : Nat → Int
  | 0 => 0
  | k + 1 => adk (xs.getD k 0) (ys.getD k 0) (addC xs ys k)
/-- the first k words of a sum -/
def addL (xs ys : List Int) : Nat → List Int
  | 0 => []
  | k + 1 => addL xs ys k ++ [adc (xs.getD k 0) (ys.getD k 0) (addC xs ys k)]
theorem addL_len (xs ys : List Int) (k : Nat) : (addL xs ys k).length = k := by
  induction k with
  | zero => rfl
  | succ k ih => simp [addL, ih]
/-- the borrow ahead of word k -/
def subC (xs ys : List Int) : Nat → Int
  | 0 => 0
  | k + 1 => sbk (xs.getD k 0) (ys.getD k 0) (subC xs ys k)
/-- the first k words of a difference -/
def subL (xs ys : List Int) : Nat → List Int
  | 0 => []
  | k + 1 => subL xs ys k ++ [sbc (xs.getD k 0) (ys.getD k 0) (subC xs ys k)]
theorem subL_len (xs ys : List Int) (k : Nat) : (subL xs ys k).length = k := by
  induction k with
  | zero => rfl
  | succ k ih => simp [subL, ih]
/-- every word of a list is one of 64 bits -/
def Words (xs : List Int) : Prop := ∀ k, 0 ≤ xs.getD k 0 ∧ xs.getD k 0 < 18446744073709551616
theorem addC_bit (xs ys : List Int) (hx : Words xs) (hy : Words ys) (k : Nat) : 0 ≤ addC xs ys k ∧ addC xs ys k ≤ 1 := by
  induction k with
  | zero => simp [addC]
  | succ k ih =>
    have := hx k
    have := hy k
    simp only [addC, adk]
    omega
theorem subC_bit (xs ys : List Int) (k : Nat) : 0 ≤ subC xs ys k ∧ subC xs ys k ≤ 1 := by
  cases k with
  | zero => simp [subC]
  | succ k =>
    simp only [subC, sbk]
    split <;> omega
theorem infoW (cs : Array Value) (h : cs.size = 4) : (Try.prog.info? 24).map (·.size) = some cs.size := by rw [h]; kernel_rfl

set_option maxHeartbeats 4000000 in
theorem addw_any (xs ys : List Int) (w : World) (hx : xs.length = 4) (hy : ys.length = 4) (bx : Words xs) (bY : Words ys) :
    Calls Try.prog 11 #[.agg (arrW 4 xs), .agg (arrW 4 ys)] w fun e w' => e = .returned (.tuple #[.agg (arrW 4 (addL xs ys 4)), .bool (addC xs ys 4 == 0)]) ∧ Below w.heap.size w w' := by
  have HX := Lib.hid hx
  have HY := Lib.hid hy
  clear hx hy
  go_enter Try.func11, Try.ntmps11
  go_wp2_with fail
  go_loopw [7, 9] (fun c i u => ∃ k : Nat, k ≤ 4 ∧ i = .int .i64 k ∧ c = .int .u64 (addC xs ys k) ∧ Below w.heap.size w u ∧ Hid (Row u w.heap.size 24 (arrW 4 xs) ∧ Row u (w.heap.size + 1) 24 (arrW 4 ys) ∧ Row u (w.heap.size + 1 + 1) 24 (arrW 4 []) ∧ Row u (w.heap.size + 1 + 1 + 1) 24 (arrW 4 (addL xs ys k)))) (fun _ i _ => 4 - (intOf i).toNat)
  case atStart => exact ⟨0, by omega, rfl, rfl, by go_grown, (((Row.new w 24 _).alloc _).alloc _).alloc _, ((Row.newAt (by simp) 24 _).alloc _).alloc _, (Row.newAt (by simp) 24 _).alloc _, Row.newAt (by simp) 24 _⟩
  case round =>
    obtain ⟨k, hk, rfl, rfl, hbl, hrows⟩ := hrel
    obtain ⟨r0, r1, r2, r3⟩ := hrows.out
    by_cases hlt : k < 4
    · have e0 : wr.cell? ⟨w.heap.size, k, none⟩ = some (.int .u64 (xs.getD k 0)) := (r0.cell k).trans (arrW_get 4 _ k (by rw [HX.out]; omega) hlt)
      have e1 : wr.cell? ⟨w.heap.size + 1, k, none⟩ = some (.int .u64 (ys.getD k 0)) := (r1.cell k).trans (arrW_get 4 _ k (by rw [HY.out]; omega) hlt)
      have e3 := (r3.cell k).trans (arrW_get 4 _ k (by rw [addL_len]; omega) hlt)
      have f3 := r3.frozen k
      have R0 := Lib.hid r0
      have R1 := Lib.hid r1
      have R2 := Lib.hid r2
      have R3 := Lib.hid r3
      have hc := addC_bit xs ys bx bY k
      have hcall := add64 (xs.getD k 0) (ys.getD k 0) (addC xs ys k) (bx k).1 (bY k).1 hc.1 hc.2
      have hput := Lib.hid (arrW_put_at 4 (addL xs ys k) (adc (xs.getD k 0) (ys.getD k 0) (addC xs ys k)) k (addL_len _ _ _) hlt)
      have hL : Hid (addL xs ys (k + 1) = addL xs ys k ++ [adc (xs.getD k 0) (ys.getD k 0) (addC xs ys k)]) := rfl
      have hC : Hid (addC xs ys (k + 1) = adk (xs.getD k 0) (ys.getD k 0) (addC xs ys k)) := rfl
      clear r0 r1 r2 r3 hrows hc
      have hk0 : (0 : Int) ≤ (k : Int) := by omega
      have hk4 : (k : Int) < 4 := by omega
      generalize xs.getD k 0 = x at *
      generalize ys.getD k 0 = y at *
      generalize addC xs ys k = c at *
      generalize adc x y c = s at *
      generalize adk x y c = d at *
      generalize (addL xs ys k).getD k 0 = z at *
      have e0' : (wr.setCell ⟨w.heap.size + 1 + 1 + 1, k, none⟩ (.int .u64 s)).cell? ⟨w.heap.size, k, none⟩ = some (.int .u64 x) := ((R0.out.farAt (by omega) _).cell k).trans ((R0.out.cell k).symm.trans e0)
      have e1' : (wr.setCell ⟨w.heap.size + 1 + 1 + 1, k, none⟩ (.int .u64 s)).cell? ⟨w.heap.size + 1, k, none⟩ = some (.int .u64 y) := ((R1.out.farAt (by omega) _).cell k).trans ((R1.out.cell k).symm.trans e1)
      go_wp2_with fail
      go_region_held3 (fun u => u.cell? ⟨w.heap.size, k, none⟩ = some (.int .u64 x) ∧ u.cell? ⟨w.heap.size + 1, k, none⟩ = some (.int .u64 y)) (first | exact ⟨e0, e1⟩ | exact ⟨e0', e1'⟩) (fail)
      clear e0' e1' hcall
      go_wp2
      go_roundw
      case rel =>
        refine ⟨k + 1, by omega, by go_num, ?_, (hbl.setCell (by simp; omega) _).drew, R0.out.farAt (by omega) _, R1.out.farAt (by omega) _, R2.out.farAt (by omega) _, ?_⟩
        · rw [hC.out]
        · rw [hL.out, ← hput.out]
          exact R3.out.put k _
      case measure => simp [intOf]; omega
    · obtain rfl : k = 4 := by omega
      have hsz := Lib.hid (arrW_size 4 (addL xs ys 4) (by rw [addL_len]; omega))
      have hz0 := Lib.hid (arrW_size 4 [] (by simp))
      have ho := Lib.hid (arrW_one 4 (addL xs ys 4))
      have R2 : Hid (wr.heap[w.heap.size + 1 + 1]? = some (.cells (arrW 4 []) 24 (0, 0))) := r2
      have R3 : Hid (wr.heap[w.heap.size + 1 + 1 + 1]? = some (.cells (arrW 4 (addL xs ys 4)) 24 (0, 0))) := r3
      clear r0 r1 r2 r3 hrows
      generalize hE : arrW 4 (addL xs ys 4) = cs at *
      have HE := Lib.hid hE
      clear hE
      generalize arrW 4 [] = zs at *
      generalize hC : addC xs ys 4 = c at *
      have HC := Lib.hid hC
      clear hC
      go_wp2_with (first
        | ((with_reducible refine wpList_load_row (o := ⟨some 26, _, _, _, _, _⟩) ?_ 24 (.tmp 6) ?_ (w.heap.size + 1 + 1 + 1) ?_ 24 cs (0, 0) _ R3.out Try.underlying24 ?_ (infoW cs hsz.out) ?_); (rfl); (rfl); (rfl); (rfl))
        | ((with_reducible refine wpList_store_row (o := ⟨none, .store 24 _ _, _, _, _, _⟩) ?_ 24 (.tmp 4) (.tmp 26) ?_ (w.heap.size + 1 + 1) cs ?_ ?_ 24 zs R2.out (infoW cs hsz.out) (by rw [hz0.out, hsz.out]) ho.out ?_); (rfl); (rfl); (rfl); (rfl))
        | ((with_reducible refine bodyPost_ret (v := .tuple #[.agg cs, .bool (c == 0)]) ?_ ?_ ?_); (exact results_row_slot (p := 4) (q := 5) (ty := 24) Try.results11 _ _ (w.heap.size + 1 + 1) 24 cs (0, 0) _ rfl _ rfl (setRow_heap _ _ zs cs 24 (0, 0) R2.out) Try.underlying24 rfl (infoW cs hsz.out)); (rfl)))
      exact ⟨by rw [HE.out, HC.out], below_setRow hbl (by omega) _⟩
set_option maxHeartbeats 4000000 in
theorem subw_any (xs ys : List Int) (w : World) (hx : xs.length = 4) (hy : ys.length = 4) (bx : Words xs) (bY : Words ys) :
    Calls Try.prog 13 #[.agg (arrW 4 xs), .agg (arrW 4 ys)] w fun e w' => e = .returned (.tuple #[.agg (arrW 4 (subL xs ys 4)), .bool (subC xs ys 4 == 0)]) ∧ Below w.heap.size w w' := by
  have HX := Lib.hid hx
  have HY := Lib.hid hy
  clear hx hy
  go_enter Try.func13, Try.ntmps13
  go_wp2_with fail
  go_loopw [7, 9] (fun c i u => ∃ k : Nat, k ≤ 4 ∧ i = .int .i64 k ∧ c = .int .u64 (subC xs ys k) ∧ Below w.heap.size w u ∧ Hid (Row u w.heap.size 24 (arrW 4 xs) ∧ Row u (w.heap.size + 1) 24 (arrW 4 ys) ∧ Row u (w.heap.size + 1 + 1) 24 (arrW 4 []) ∧ Row u (w.heap.size + 1 + 1 + 1) 24 (arrW 4 (subL xs ys k)))) (fun _ i _ => 4 - (intOf i).toNat)
  case atStart => exact ⟨0, by omega, rfl, rfl, by go_grown, (((Row.new w 24 _).alloc _).alloc _).alloc _, ((Row.newAt (by simp) 24 _).alloc _).alloc _, (Row.newAt (by simp) 24 _).alloc _, Row.newAt (by simp) 24 _⟩
  case round =>
    obtain ⟨k, hk, rfl, rfl, hbl, hrows⟩ := hrel
    obtain ⟨r0, r1, r2, r3⟩ := hrows.out
    by_cases hlt : k < 4
    · have e0 : wr.cell? ⟨w.heap.size, k, none⟩ = some (.int .u64 (xs.getD k 0)) := (r0.cell k).trans (arrW_get 4 _ k (by rw [HX.out]; omega) hlt)
      have e1 : wr.cell? ⟨w.heap.size + 1, k, none⟩ = some (.int .u64 (ys.getD k 0)) := (r1.cell k).trans (arrW_get 4 _ k (by rw [HY.out]; omega) hlt)
      have e3 := (r3.cell k).trans (arrW_get 4 _ k (by rw [subL_len]; omega) hlt)
      have f3 := r3.frozen k
      have R0 := Lib.hid r0
      have R1 := Lib.hid r1
      have R2 := Lib.hid r2
      have R3 := Lib.hid r3
      have hc := subC_bit xs ys k
      have hcall := sub64 (xs.getD k 0) (ys.getD k 0) (subC xs ys k) (bx k).1 (bY k).1 (bY k).2 hc.1 hc.2
      have hput := Lib.hid (arrW_put_at 4 (subL xs ys k) (sbc (xs.getD k 0) (ys.getD k 0) (subC xs ys k)) k (subL_len _ _ _) hlt)
      have hL : Hid (subL xs ys (k + 1) = subL xs ys k ++ [sbc (xs.getD k 0) (ys.getD k 0) (subC xs ys k)]) := rfl
      have hC : Hid (subC xs ys (k + 1) = sbk (xs.getD k 0) (ys.getD k 0) (subC xs ys k)) := rfl
      clear r0 r1 r2 r3 hrows hc
      have hk0 : (0 : Int) ≤ (k : Int) := by omega
      have hk4 : (k : Int) < 4 := by omega
      generalize xs.getD k 0 = x at *
      generalize ys.getD k 0 = y at *
      generalize subC xs ys k = c at *
      generalize sbc x y c = s at *
      generalize sbk x y c = d at *
      generalize (subL xs ys k).getD k 0 = z at *
      have e0' : (wr.setCell ⟨w.heap.size + 1 + 1 + 1, k, none⟩ (.int .u64 s)).cell? ⟨w.heap.size, k, none⟩ = some (.int .u64 x) := ((R0.out.farAt (by omega) _).cell k).trans ((R0.out.cell k).symm.trans e0)
      have e1' : (wr.setCell ⟨w.heap.size + 1 + 1 + 1, k, none⟩ (.int .u64 s)).cell? ⟨w.heap.size + 1, k, none⟩ = some (.int .u64 y) := ((R1.out.farAt (by omega) _).cell k).trans ((R1.out.cell k).symm.trans e1)
      go_wp2_with fail
      go_region_held3 (fun u => u.cell? ⟨w.heap.size, k, none⟩ = some (.int .u64 x) ∧ u.cell? ⟨w.heap.size + 1, k, none⟩ = some (.int .u64 y)) (first | exact ⟨e0, e1⟩ | exact ⟨e0', e1'⟩) (fail)
      clear e0' e1' hcall
      go_wp2
      go_roundw
      case rel =>
        refine ⟨k + 1, by omega, by go_num, ?_, (hbl.setCell (by simp; omega) _).drew, R0.out.farAt (by omega) _, R1.out.farAt (by omega) _, R2.out.farAt (by omega) _, ?_⟩
        · rw [hC.out]
        · rw [hL.out, ← hput.out]
          exact R3.out.put k _
      case measure => simp [intOf]; omega
    · obtain rfl : k = 4 := by omega
      have hsz := Lib.hid (arrW_size 4 (subL xs ys 4) (by rw [subL_len]; omega))
      have hz0 := Lib.hid (arrW_size 4 [] (by simp))
      have ho := Lib.hid (arrW_one 4 (subL xs ys 4))
      have R2 : Hid (wr.heap[w.heap.size + 1 + 1]? = some (.cells (arrW 4 []) 24 (0, 0))) := r2
      have R3 : Hid (wr.heap[w.heap.size + 1 + 1 + 1]? = some (.cells (arrW 4 (subL xs ys 4)) 24 (0, 0))) := r3
      clear r0 r1 r2 r3 hrows
      generalize hE : arrW 4 (subL xs ys 4) = cs at *
      have HE := Lib.hid hE
      clear hE
      generalize arrW 4 [] = zs at *
      generalize hC : subC xs ys 4 = c at *
      have HC := Lib.hid hC
      clear hC
      go_wp2_with (first
        | ((with_reducible refine wpList_load_row (o := ⟨some 26, _, _, _, _, _⟩) ?_ 24 (.tmp 6) ?_ (w.heap.size + 1 + 1 + 1) ?_ 24 cs (0, 0) _ R3.out Try.underlying24 ?_ (infoW cs hsz.out) ?_); (rfl); (rfl); (rfl); (rfl))
        | ((with_reducible refine wpList_store_row (o := ⟨none, .store 24 _ _, _, _, _, _⟩) ?_ 24 (.tmp 4) (.tmp 26) ?_ (w.heap.size + 1 + 1) cs ?_ ?_ 24 zs R2.out (infoW cs hsz.out) (by rw [hz0.out, hsz.out]) ho.out ?_); (rfl); (rfl); (rfl); (rfl))
        | ((with_reducible refine bodyPost_ret (v := .tuple #[.agg cs, .bool (c == 0)]) ?_ ?_ ?_); (exact results_row_slot (p := 4) (q := 5) (ty := 24) Try.results13 _ _ (w.heap.size + 1 + 1) 24 cs (0, 0) _ rfl _ rfl (setRow_heap _ _ zs cs 24 (0, 0) R2.out) Try.underlying24 rfl (infoW cs hsz.out)); (rfl)))
      exact ⟨by rw [HE.out, HC.out], below_setRow hbl (by omega) _⟩
end Go.Proofs.Ytcombekbeljflaa
