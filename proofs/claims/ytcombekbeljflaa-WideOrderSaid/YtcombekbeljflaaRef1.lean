/- The reference's Add, Cmp and half. -/
import Derived.Test.YtcombekbeljflaaWalk4
namespace Go.Proofs.Ytcombekbeljflaa
open Go.RowKit

theorem adc_two (a b c : Int) (ha : 0 ≤ a ∧ a < 18446744073709551616) (hb : 0 ≤ b ∧ b < 18446744073709551616) (hc : 0 ≤ c ∧ c ≤ 1) :
    ((a + b) % 18446744073709551616 + c) % 18446744073709551616 = adc a b c ∧
    (((a + b) % 18446744073709551616 < a ∨ ((a + b) % 18446744073709551616 + c) % 18446744073709551616 < (a + b) % 18446744073709551616) → adk a b c = 1) ∧
    ((a ≤ (a + b) % 18446744073709551616 ∧ (a + b) % 18446744073709551616 ≤ ((a + b) % 18446744073709551616 + c) % 18446744073709551616) → adk a b c = 0) := by
  unfold adc adk
  exact ⟨by omega, by omega, by omega⟩
set_option maxHeartbeats 4000000 in
theorem raddw_any (xs ys : List Int) (w : World) (hx : xs.length = 4) (hy : ys.length = 4) (bx : Words xs) (bY : Words ys) :
    Calls Try.prog 12 #[.agg (arrW 4 xs), .agg (arrW 4 ys)] w fun e w' => e = .returned (.tuple #[.agg (arrW 4 (addL xs ys 4)), .bool (addC xs ys 4 == 0)]) ∧ Below w.heap.size w w' := by
  have HX := Lib.hid hx
  have HY := Lib.hid hy
  clear hx hy
  go_enter Try.func12, Try.ntmps12
  go_wp2_with fail
  go_loopw [7, 8] (fun c i u => ∃ k : Nat, k ≤ 4 ∧ i = .int .i64 k ∧ c = .int .u64 (addC xs ys k) ∧ Below w.heap.size w u ∧ Hid (Row u w.heap.size 24 (arrW 4 xs) ∧ Row u (w.heap.size + 1) 24 (arrW 4 ys) ∧ Row u (w.heap.size + 1 + 1) 24 (arrW 4 []) ∧ Row u (w.heap.size + 1 + 1 + 1) 24 (arrW 4 (addL xs ys k)))) (fun _ i _ => 4 - (intOf i).toNat)
  case atStart => exact ⟨0, by omega, rfl, rfl, by go_grown, (((Row.new w 24 _).alloc _).alloc _).alloc _, ((Row.newAt (by simp) 24 _).alloc _).alloc _, (Row.newAt (by simp) 24 _).alloc _, Row.newAt (by simp) 24 _⟩
  case round =>
    obtain ⟨k, hk, rfl, rfl, hbl, hrows⟩ := hrel
    obtain ⟨r0, r1, r2, r3⟩ := hrows.out
    by_cases hlt : k < 4
    · have e0 : wr.cell? ⟨w.heap.size, k, none⟩ = some (.int .u64 (xs.getD k 0)) := (r0.cell k).trans (arrW_get 4 _ k (by rw [HX.out]; omega) hlt)
      have e1 : wr.cell? ⟨w.heap.size + 1, k, none⟩ = some (.int .u64 (ys.getD k 0)) := (r1.cell k).trans (arrW_get 4 _ k (by rw [HY.out]; omega) hlt)
      have e3 := (r3.cell k).trans (arrW_get 4 _ k (by rw [addL_len]; omega) hlt)
      have f3 := r3.frozen k
      have R0 := Lib.hid r0
      have R1 := Lib.hid r1
      have R2 := Lib.hid r2
      have R3 := Lib.hid r3
      have hc := addC_bit xs ys bx bY k
      have hput := Lib.hid (arrW_put_at 4 (addL xs ys k) (adc (xs.getD k 0) (ys.getD k 0) (addC xs ys k)) k (addL_len _ _ _) hlt)
      have hL : Hid (addL xs ys (k + 1) = addL xs ys k ++ [adc (xs.getD k 0) (ys.getD k 0) (addC xs ys k)]) := rfl
      have hC : Hid (addC xs ys (k + 1) = adk (xs.getD k 0) (ys.getD k 0) (addC xs ys k)) := rfl
      have hA := Lib.hid (adc_two _ _ _ (bx k) (bY k) hc)
      clear r0 r1 r2 r3 hrows hc
      have hk0 : (0 : Int) ≤ (k : Int) := by omega
      have hk4 : (k : Int) < 4 := by omega
      generalize xs.getD k 0 = x at *
      generalize ys.getD k 0 = y at *
      generalize addC xs ys k = c at *
      generalize hs : (x + y) % 18446744073709551616 = s at *
      have HS := Lib.hid hs
      generalize ht : (s + c) % 18446744073709551616 = t at *
      have HT := Lib.hid ht
      clear hs ht
      generalize (addL xs ys k).getD k 0 = z at *
      have w1 : IntKind.u64.wrap (x + y) = s := by rw [IntKind.wrap_u64]; exact HS.out
      have w2 : IntKind.u64.wrap (s + c) = t := by rw [IntKind.wrap_u64]; exact HT.out
      go_wp2_with fail
      go_quiet (fail)
      have R0' : Hid (Row (wr.drewN nq) w.heap.size 24 (arrW 4 xs)) := R0
      have R1' : Hid (Row (wr.drewN nq) (w.heap.size + 1) 24 (arrW 4 ys)) := R1
      have R2' : Hid (Row (wr.drewN nq) (w.heap.size + 1 + 1) 24 (arrW 4 [])) := R2
      have R3' : Hid (Row (wr.drewN nq) (w.heap.size + 1 + 1 + 1) 24 (arrW 4 (addL xs ys k))) := R3
      have hbl' := below_drewN hbl nq
      have e0' : (wr.drewN nq).cell? _ = _ := e0
      have e3' : (wr.drewN nq).cell? _ = _ := e3
      have f3' : (wr.drewN nq).frozen? _ = _ := f3
      clear R0 R1 R2 R3 hbl e0 e1 e3 f3
      generalize wr.drewN nq = w2' at *
      by_cases c1 : s < x
      · have hone := Lib.hid (hA.out.2.1 (.inl c1))
        have c1' : decide (s < x) = true := by simpa using c1
        go_wp2
        go_roundw
        case rel =>
          refine ⟨k + 1, by omega, by go_num, ?_, hbl'.setCell (by simp; omega) _, R0'.out.farAt (by omega) _, R1'.out.farAt (by omega) _, R2'.out.farAt (by omega) _, ?_⟩
          · rw [hC.out, hone.out]
          · rw [hL.out, ← hput.out, ← hA.out.1]
            exact R3'.out.put k _
        case measure => simp [intOf]; omega
      · have c1' : decide (s < x) = false := by simpa using c1
        by_cases c2 : t < s
        · have hone := Lib.hid (hA.out.2.1 (.inr c2))
          have c2' : decide (t < s) = true := by simpa using c2
          go_wp2
          go_roundw
          case rel =>
            refine ⟨k + 1, by omega, by go_num, ?_, hbl'.setCell (by simp; omega) _, R0'.out.farAt (by omega) _, R1'.out.farAt (by omega) _, R2'.out.farAt (by omega) _, ?_⟩
            · rw [hC.out, hone.out]
            · rw [hL.out, ← hput.out, ← hA.out.1]
              exact R3'.out.put k _
          case measure => simp [intOf]; omega
        · have hone := Lib.hid (hA.out.2.2 ⟨by omega, by omega⟩)
          have c2' : decide (t < s) = false := by simpa using c2
          go_wp2
          go_roundw
          case rel =>
            refine ⟨k + 1, by omega, by go_num, ?_, hbl'.setCell (by simp; omega) _, R0'.out.farAt (by omega) _, R1'.out.farAt (by omega) _, R2'.out.farAt (by omega) _, ?_⟩
            · rw [hC.out, hone.out]
            · rw [hL.out, ← hput.out, ← hA.out.1]
              exact R3'.out.put k _
          case measure => simp [intOf]; omega
    · obtain rfl : k = 4 := by omega
      have hsz := Lib.hid (arrW_size 4 (addL xs ys 4) (by rw [addL_len]; omega))
      have hz0 := Lib.hid (arrW_size 4 [] (by simp))
      have ho := Lib.hid (arrW_one 4 (addL xs ys 4))
      have R2 : Hid (wr.heap[w.heap.size + 1 + 1]? = some (.cells (arrW 4 []) 24 (0, 0))) := r2
      have R3 : Hid (wr.heap[w.heap.size + 1 + 1 + 1]? = some (.cells (arrW 4 (addL xs ys 4)) 24 (0, 0))) := r3
      clear r0 r1 r2 r3 hrows
      generalize hE : arrW 4 (addL xs ys 4) = cs at *
      have HE := Lib.hid hE
      clear hE
      generalize arrW 4 [] = zs at *
      generalize hC : addC xs ys 4 = c at *
      have HC := Lib.hid hC
      clear hC
      go_wp2_with (first
        | ((with_reducible refine wpList_load_row (o := ⟨some 38, _, _, _, _, _⟩) ?_ 24 (.tmp 6) ?_ (w.heap.size + 1 + 1 + 1) ?_ 24 cs (0, 0) _ R3.out Try.underlying24 ?_ (infoW cs hsz.out) ?_); (rfl); (rfl); (rfl); (rfl))
        | ((with_reducible refine wpList_store_row (o := ⟨none, .store 24 _ _, _, _, _, _⟩) ?_ 24 (.tmp 4) (.tmp 38) ?_ (w.heap.size + 1 + 1) cs ?_ ?_ 24 zs R2.out (infoW cs hsz.out) (by rw [hz0.out, hsz.out]) ho.out ?_); (rfl); (rfl); (rfl); (rfl))
        | ((with_reducible refine bodyPost_ret (v := .tuple #[.agg cs, .bool (c == 0)]) ?_ ?_ ?_); (exact results_row_slot (p := 4) (q := 5) (ty := 24) Try.results12 _ _ (w.heap.size + 1 + 1) 24 cs (0, 0) _ rfl _ rfl (setRow_heap _ _ zs cs 24 (0, 0) R2.out) Try.underlying24 rfl (infoW cs hsz.out)); (rfl)))
      exact ⟨by rw [HE.out, HC.out], below_setRow hbl (by omega) _⟩
theorem radd_any (m n : Nat) (w : World) (hm : m < Big) (hn : n < Big) :
    Calls Try.prog 12 #[.agg (wcs m), .agg (wcs n)] w fun e w' => e = .returned (.tuple #[.agg (wcs ((m + n) % Big)), .bool (decide (m + n < Big))]) ∧ Below w.heap.size w w' := by
  have h := add_words m n hm hn
  refine (raddw_any (wl m) (wl n) w (wl_len m) (wl_len n) (wl_words m) (wl_words n)).mono ?_
  rintro e w' ⟨rfl, hb⟩
  exact ⟨by rw [h.1, h.2]; rfl, hb⟩
end Go.Proofs.Ytcombekbeljflaa
