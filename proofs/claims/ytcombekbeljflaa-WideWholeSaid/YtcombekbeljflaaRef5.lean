/- The reference's half, Up and Down. -/
import Derived.Test.YtcombekbeljflaaRef1
import Derived.Test.YtcombekbeljflaaRef2
namespace Go.Proofs.Ytcombekbeljflaa
open Go.RowKit

theorem half_word (a j : Nat) : W (a / 2) j = W a j / 2 + W a (j + 1) % 2 * 9223372036854775808 := by
  have h1 := high_step a j
  have h2 := high_step a (j + 1)
  have e : a / 2 / 2 ^ (64 * j) = highW a j / 2 := by
    unfold highW
    rw [Nat.div_div_eq_div_mul, Nat.div_div_eq_div_mul, Nat.mul_comm]
  have hw : W (a / 2) j = highW a j / 2 % 18446744073709551616 := by
    unfold W
    rw [e]
  rw [hw]
  have l1 := W_lt a j
  have l2 := W_lt a (j + 1)
  omega
/-- what goes over from word k to the one below -/
def topBit (a k : Nat) : Nat := W a k % 2 * 9223372036854775808
theorem topBit_le (a k : Nat) : topBit a k ≤ 9223372036854775808 := by unfold topBit; omega
theorem topBit_eq (a k : Nat) : ((topBit a k : Nat) : Int) = (W a k : Int) % 2 * 9223372036854775808 := by unfold topBit; omega
theorem half_word' (a j : Nat) : W (a / 2) j = W a j / 2 + topBit a (j + 1) := half_word a j
/-- the words of half of a number from word k on, 0 below -/
def halfL (a k : Nat) : List Int := [if k ≤ 0 then (W (a / 2) 0 : Int) else 0, if k ≤ 1 then (W (a / 2) 1 : Int) else 0, if k ≤ 2 then (W (a / 2) 2 : Int) else 0, if k ≤ 3 then (W (a / 2) 3 : Int) else 0]
theorem halfL_top (a : Nat) : arrW 4 (halfL a 4) = arrW 4 [] := rfl
theorem halfL_all (a : Nat) : arrW 4 (halfL a 0) = wcs (a / 2) := by
  unfold wcs
  rw [wl_W]
  rfl
theorem halfL_get (a k j : Nat) (hj : j < 4) : ∃ z : Int, (arrW 4 (halfL a k))[j]? = some (.int .u64 z) := by
  rcases j with _ | _ | _ | _ | j
  · exact ⟨_, rfl⟩
  · exact ⟨_, rfl⟩
  · exact ⟨_, rfl⟩
  · exact ⟨_, rfl⟩
  · omega
theorem halfL_put (a k : Nat) (hk : k < 4) : (arrW 4 (halfL a (k + 1))).setIfInBounds k (.int .u64 (W (a / 2) k)) = arrW 4 (halfL a k) := by
  rcases k with _ | _ | _ | _ | k
  all_goals first | rfl | omega
set_option maxHeartbeats 4000000 in
theorem rhalf_any (a : Nat) (w : World) (ha : a < Big) :
    Calls Try.prog 32 #[.agg (wcs a)] w fun e w' => e = .returned (.agg (wcs (a / 2))) ∧ Below w.heap.size w w' := by
  have h4 : Hid (W a 4 = 0) := W_high a 4 ha (by omega)
  clear ha
  go_enter Try.func32, Try.ntmps32
  go_wp2_with fail
  go_loopw [4, 5] (fun h i u => ∃ k : Nat, k ≤ 4 ∧ i = .int .i64 ((k : Int) - 1) ∧ h = .int .u64 ((topBit a k : Nat) : Int) ∧ Below w.heap.size w u ∧ Hid (Row u w.heap.size 24 (wcs a) ∧ Row u (w.heap.size + 1) 24 (arrW 4 []) ∧ Row u (w.heap.size + 1 + 1) 24 (arrW 4 (halfL a k)))) (fun _ i _ => (intOf i + 1).toNat)
  case atStart => exact ⟨4, by omega, rfl, by unfold topBit; rw [h4.out]; rfl, by go_grown, ((Row.new w 24 _).alloc _).alloc _, (Row.newAt (by simp) 24 _).alloc _, Row.newAt (by simp) 24 _⟩
  case round =>
    clear h4
    obtain ⟨k, hk, rfl, rfl, hbl, hrows⟩ := hrel
    obtain ⟨r0, r1, r2⟩ := hrows.out
    rcases k with _ | k
    · rw [halfL_all a] at r2
      have hsz := Lib.hid (wc_size (a / 2))
      have hz0 := Lib.hid (arrW_size 4 [] (by simp))
      have ho := Lib.hid (wc_one (a / 2))
      have R1 : Hid (wr.heap[w.heap.size + 1]? = some (.cells (arrW 4 []) 24 (0, 0))) := r1
      have R2 : Hid (wr.heap[w.heap.size + 1 + 1]? = some (.cells (wcs (a / 2)) 24 (0, 0))) := r2
      clear r0 r1 r2 hrows
      generalize hE : wcs (a / 2) = cs at *
      have HE := Lib.hid hE
      clear hE
      generalize arrW 4 [] = zs at *
      have hz : (((0 : Nat) : Int) - 1) = -1 := by omega
      rw [hz]
      clear hz
      go_wp2_with (first
        | ((with_reducible refine wpList_load_row (o := ⟨some 23, _, _, _, _, _⟩) ?_ 24 (.tmp 3) ?_ (w.heap.size + 1 + 1) ?_ 24 cs (0, 0) _ R2.out Try.underlying24 ?_ (infoW cs hsz.out) ?_); (rfl); (rfl); (rfl); (rfl))
        | ((with_reducible refine wpList_store_row (o := ⟨none, .store 24 _ _, _, _, _, _⟩) ?_ 24 (.tmp 2) (.tmp 23) ?_ (w.heap.size + 1) cs ?_ ?_ 24 zs R1.out (infoW cs hsz.out) (by rw [hz0.out, hsz.out]) ho.out ?_); (rfl); (rfl); (rfl); (rfl))
        | ((with_reducible refine bodyPost_ret (v := .agg cs) ?_ ?_ ?_); (exact results_cell_row (p := 2) (ty := 24) Try.results32 _ _ (w.heap.size + 1) 24 cs (0, 0) _ rfl (setRow_heap _ _ zs cs 24 (0, 0) R1.out) Try.underlying24 rfl (infoW cs hsz.out)); (rfl)))
      exact ⟨by rw [HE.out], below_setRow hbl (by omega) _⟩
    · have e0 : wr.cell? ⟨w.heap.size, k, none⟩ = some (.int .u64 (W a k)) := (r0.cell k).trans (wc_get a k (by omega))
      obtain ⟨z, hz9⟩ := halfL_get a (k + 1) k (by omega)
      have e2 := (r2.cell k).trans hz9
      have f2 := r2.frozen k
      have R0 := Lib.hid r0
      have R1 := Lib.hid r1
      have R2 := Lib.hid r2
      have hput := Lib.hid (halfL_put a k (by omega))
      have hhw := Lib.hid (half_word' a k)
      have hW := W_lt a k
      clear r0 r1 r2 hrows hz9
      have hz : (((k + 1 : Nat) : Int) - 1) = (k : Int) := by omega
      rw [hz]
      clear hz
      have hk0 : (0 : Int) ≤ (k : Int) := by omega
      have hk4 : (k : Int) < 4 := by omega
      have hE : Hid ((.int .u64 ((topBit a k : Nat) : Int) : Value) = .int .u64 ((W a k : Int) % 2 * 9223372036854775808)) := congrArg (Value.int .u64) (topBit_eq a k)
      have hm := topBit_le a (k + 1)
      generalize topBit a (k + 1) = hi at *
      rw [hhw.out] at hput
      clear hhw
      generalize W a k = x at *
      have w1 : IntKind.u64.wrap ((x : Int) / 2 + (hi : Int)) = (x : Int) / 2 + (hi : Int) := by rw [IntKind.wrap_u64]; omega
      have w2 : IntKind.u64.wrap ((x : Int) % 2 * 9223372036854775808) = (x : Int) % 2 * 9223372036854775808 := by rw [IntKind.wrap_u64]; omega
      have w3 : IntKind.u64.wrap ((x : Int) / 2) = (x : Int) / 2 := by rw [IntKind.wrap_u64]; omega
      have d2 : (wr.setCell ⟨w.heap.size + 1 + 1, k, none⟩ (.int .u64 ((x : Int) / 2 + (hi : Int)))).cell? ⟨w.heap.size, k, none⟩ = some (.int .u64 x) := ((R0.out.farAt (by omega) _).cell k).trans ((R0.out.cell k).symm.trans e0)
      have hx0 : (0 : Int) ≤ (x : Int) := by omega
      clear hm hW
      go_wp2
      go_roundw
      case rel =>
        refine ⟨k, by omega, by go_num, ?_, hbl.setCell (by simp; omega) _, R0.out.farAt (by omega) _, R1.out.farAt (by omega) _, ?_⟩
        · exact hE.out.symm
        · rw [← hput.out, show ((x / 2 + hi : Nat) : Int) = (x : Int) / 2 + (hi : Int) by omega]
          exact R2.out.put k _
      case measure => simp [intOf]
def aUp (a k : Nat) : Nat := a * 2 ^ k % Big
theorem aUp_zero (a : Nat) (h : a < Big) : aUp a 0 = a := by unfold aUp; rw [Nat.pow_zero, Nat.mul_one, Nat.mod_eq_of_lt h]
theorem aUp_lt (a k : Nat) (_ : a < Big) : aUp a k < Big := Nat.mod_lt _ Big_pos
theorem aUp_step (a k : Nat) : (aUp a k + aUp a k) % Big = aUp a (k + 1) := by
  unfold aUp
  rw [← Nat.add_mod, Nat.pow_succ, ← Nat.mul_assoc]
  congr 1
  omega
def aDown (a k : Nat) : Nat := a / 2 ^ k
theorem aDown_zero (a : Nat) (_ : a < Big) : aDown a 0 = a := by unfold aDown; rw [Nat.pow_zero, Nat.div_one]
theorem aDown_lt (a k : Nat) (h : a < Big) : aDown a k < Big := Nat.lt_of_le_of_lt (Nat.div_le_self _ _) h
theorem aDown_step (a k : Nat) : aDown a k / 2 = aDown a (k + 1) := by
  unfold aDown
  rw [Nat.div_div_eq_div_mul, ← Nat.pow_succ]
set_option maxHeartbeats 4000000 in
theorem rup_any (a : Nat) (n : Int) (w : World) (ha : a < Big) (hn : n < 256) :
    Calls Try.prog 16 #[.agg (wcs a), .int .i64 n] w fun e w' => e = .returned (.agg (wcs (aUp a n.toNat))) ∧ Below w.heap.size w w' := by
  have HA := Lib.hid ha
  have hn' : ¬ (256 ≤ n) := by omega
  clear ha
  go_enter Try.func16, Try.ntmps16
  go_wp2_with fail
  go_loopw [5] (fun i u => ∃ k : Nat, k ≤ n.toNat ∧ i = .int .i64 k ∧ Below w.heap.size w u ∧ Hid (Row u w.heap.size 24 (wcs (aUp a k)) ∧ Row u (w.heap.size + 1) 24 (wcs 0))) (fun i _ => n.toNat - (intOf i).toNat)
  case atStart =>
    refine ⟨0, by omega, rfl, by go_grown, ?_, Row.newAt (by simp) 24 _⟩
    rw [aUp_zero a HA.out]
    exact (Row.new w 24 _).alloc _
  case round =>
    obtain ⟨k, hk, rfl, hbl, hrows⟩ := hrel
    obtain ⟨r0, r1⟩ := hrows.out
    have hlt := Lib.hid r1.lt
    have HK := Lib.hid (aUp_lt a k HA.out)
    have HS := Lib.hid (aUp_step a k)
    by_cases hkn : (k : Int) < n
    · have hkn' : k < n.toNat := by omega
      have R0 : Hid (wr.heap[w.heap.size]? = some (.cells (wcs (aUp a k)) 24 (0, 0))) := r0
      have R1 := Lib.hid r1
      clear r0 r1 hrows
      generalize aUp a k = x at *
      go_wp2_with (first
        | ((with_reducible refine wpList_load_row (o := ⟨some 17, _, _, _, _, _⟩) ?_ 24 (.tmp 2) ?_ w.heap.size ?_ 24 (wcs x) (0, 0) _ R0.out Try.underlying24 ?_ (wc_info _) ?_); (rfl); (rfl); (rfl); (rfl))
        | ((with_reducible refine wpList_load_row (o := ⟨some 18, _, _, _, _, _⟩) ?_ 24 (.tmp 2) ?_ w.heap.size ?_ 24 (wcs x) (0, 0) _ R0.out Try.underlying24 ?_ (wc_info _) ?_); (rfl); (rfl); (rfl); (rfl)))
      refine (radd_any x x wr HK.out HK.out).mono ?_
      rintro e w2 ⟨rfl, hb⟩
      rw [HS.out]
      have R2 : Hid (Row (w2.alloc (.cells (wcs (aUp a (k + 1))) 24)) w.heap.size 24 (wcs x)) := Row.alloc (Row.below R0.out hb (by have := hlt.out; omega)) _
      have R3 : Hid (Row (w2.alloc (.cells (wcs (aUp a (k + 1))) 24)) (w.heap.size + 1) 24 (wcs 0)) := Row.alloc (R1.out.below hb hlt.out) _
      have hs := hb.size
      have hl9 := hlt.out
      have b2 : Hid (Below w.heap.size w (w2.alloc (.cells (wcs (aUp a (k + 1))) 24))) := (hbl.trans (hb.mono hbl.size)).alloc (by have := hbl.size; omega) _
      clear hb R0 R1
      generalize hy : aUp a (k + 1) = y at *
      have HY := Lib.hid hy
      clear hy
      have R2' : Hid ((w2.alloc (.cells (wcs y) 24)).heap[w.heap.size]? = some (.cells (wcs x) 24 (0, 0))) := R2
      go_wp2_with (first
        | ((with_reducible refine wpList_store_row (o := ⟨none, .store 24 (.tmp 6) _, _, _, _, _⟩) ?_ 24 (.tmp 6) (.tmp 20) ?_ w2.heap.size (wcs (y)) ?_ ?_ 24 _ (heap_alloc_last w2 _) (wc_info _) ?_ (wc_one _) ?_); (rfl); (rfl); (rfl); (rfl); (rw [wc_size]; rfl); rw [World.setRow_alloc_new])
        | ((with_reducible refine wpList_load_row (o := ⟨some 22, _, _, _, _, _⟩) ?_ 24 (.tmp 6) ?_ w2.heap.size ?_ 24 (wcs y) (0, 0) _ (heap_alloc_last w2 _) Try.underlying24 ?_ (wc_info _) ?_); (rfl); (rfl); (rfl); (rfl))
        | ((with_reducible refine wpList_store_row (o := ⟨none, .store 24 (.tmp 2) _, _, _, _, _⟩) ?_ 24 (.tmp 2) (.tmp 22) ?_ w.heap.size (wcs y) ?_ ?_ 24 (wcs x) R2'.out (wc_info _) (by rw [wc_size, wc_size]) (wc_one _) ?_); (rfl); (rfl); (rfl); (rfl)))
      go_roundw
      case rel =>
        refine ⟨k + 1, by omega, by go_num, below_setRow b2.out (by omega) _, ?_, R3.out.setRowFar (by omega)⟩
        rw [HY.out]
        exact R2.out.setRow
      case measure => simp [intOf]; omega
    · have hkn' : k = n.toNat ∨ n < 0 := by omega
      have hkk : Hid (k = n.toNat) := by show _ = _; omega
      clear hkn'
      rw [hkk.out] at r0
      have R0 : Hid (wr.heap[w.heap.size]? = some (.cells (wcs (aUp a n.toNat)) 24 (0, 0))) := r0
      have R1 : Hid (wr.heap[w.heap.size + 1]? = some (.cells (wcs 0) 24 (0, 0))) := r1
      clear r0 r1 hrows HS HK
      generalize hE : wcs (aUp a n.toNat) = cs at *
      have HE := Lib.hid hE
      have hsz : Hid (cs.size = 4) := by show _ = _; rw [← hE]; exact wc_size _
      have ho : Hid (cs.all (·.oneCell') = true) := by show _ = _; rw [← hE]; exact wc_one _
      clear hE
      go_wp2_with (first
        | ((with_reducible refine wpList_load_row (o := ⟨some 23, _, _, _, _, _⟩) ?_ 24 (.tmp 2) ?_ w.heap.size ?_ 24 cs (0, 0) _ R0.out Try.underlying24 ?_ (infoW cs hsz.out) ?_); (rfl); (rfl); (rfl); (rfl))
        | ((with_reducible refine wpList_store_row (o := ⟨none, .store 24 (.tmp 4) _, _, _, _, _⟩) ?_ 24 (.tmp 4) (.tmp 23) ?_ (w.heap.size + 1) cs ?_ ?_ 24 (wcs 0) R1.out (infoW cs hsz.out) (by rw [hsz.out, wc_size]) ho.out ?_); (rfl); (rfl); (rfl); (rfl))
        | ((with_reducible refine bodyPost_ret (v := .agg cs) ?_ ?_ ?_); (exact results_cell_row (p := 4) (ty := 24) Try.results16 _ _ (w.heap.size + 1) 24 cs (0, 0) _ rfl (setRow_heap _ _ (wcs 0) cs 24 (0, 0) R1.out) Try.underlying24 rfl (infoW cs hsz.out)); (rfl)))
      exact ⟨by rw [HE.out], below_setRow hbl (by omega) _⟩
theorem rup_far (a : Nat) (n : Int) (w : World) (hn : 256 ≤ n) :
    Calls Try.prog 16 #[.agg (wcs a), .int .i64 n] w fun e w' => e = .returned (.agg (wcs 0)) ∧ Below w.heap.size w w' := by
  generalize hA : wcs a = ca
  clear hA
  go_enter Try.func16, Try.ntmps16
  go_wp2
  go_returns
  exact ⟨rfl, by go_grown⟩
set_option maxHeartbeats 4000000 in
theorem rdown_any (a : Nat) (n : Int) (w : World) (ha : a < Big) (hn : n < 256) :
    Calls Try.prog 18 #[.agg (wcs a), .int .i64 n] w fun e w' => e = .returned (.agg (wcs (aDown a n.toNat))) ∧ Below w.heap.size w w' := by
  have HA := Lib.hid ha
  have hn' : ¬ (256 ≤ n) := by omega
  clear ha
  go_enter Try.func18, Try.ntmps18
  go_wp2_with fail
  go_loopw [5] (fun i u => ∃ k : Nat, k ≤ n.toNat ∧ i = .int .i64 k ∧ Below w.heap.size w u ∧ Hid (Row u w.heap.size 24 (wcs (aDown a k)) ∧ Row u (w.heap.size + 1) 24 (wcs 0))) (fun i _ => n.toNat - (intOf i).toNat)
  case atStart =>
    refine ⟨0, by omega, rfl, by go_grown, ?_, Row.newAt (by simp) 24 _⟩
    rw [aDown_zero a HA.out]
    exact (Row.new w 24 _).alloc _
  case round =>
    obtain ⟨k, hk, rfl, hbl, hrows⟩ := hrel
    obtain ⟨r0, r1⟩ := hrows.out
    have hlt := Lib.hid r1.lt
    have HK := Lib.hid (aDown_lt a k HA.out)
    have HS := Lib.hid (aDown_step a k)
    by_cases hkn : (k : Int) < n
    · have hkn' : k < n.toNat := by omega
      have R0 : Hid (wr.heap[w.heap.size]? = some (.cells (wcs (aDown a k)) 24 (0, 0))) := r0
      have R1 := Lib.hid r1
      clear r0 r1 hrows
      generalize aDown a k = x at *
      go_wp2_with ((with_reducible refine wpList_load_row (o := ⟨some 14, _, _, _, _, _⟩) ?_ 24 (.tmp 2) ?_ w.heap.size ?_ 24 (wcs x) (0, 0) _ R0.out Try.underlying24 ?_ (wc_info _) ?_); (rfl); (rfl); (rfl); (rfl))
      refine (rhalf_any x wr HK.out).mono ?_
      rintro e w2 ⟨rfl, hb⟩
      rw [HS.out]
      have hl9 := hlt.out
      have R2 : Hid (Row w2 w.heap.size 24 (wcs x)) := Row.below R0.out hb (by omega)
      have R3 : Hid (Row w2 (w.heap.size + 1) 24 (wcs 0)) := R1.out.below hb hlt.out
      have b2 : Hid (Below w.heap.size w w2) := hbl.trans (hb.mono hbl.size)
      clear hb R0 R1
      generalize hy : aDown a (k + 1) = y at *
      have HY := Lib.hid hy
      clear hy
      have R2' : Hid (w2.heap[w.heap.size]? = some (.cells (wcs x) 24 (0, 0))) := R2
      go_wp2_with ((with_reducible refine wpList_store_row (o := ⟨none, .store 24 (.tmp 2) _, _, _, _, _⟩) ?_ 24 (.tmp 2) (.tmp 15) ?_ w.heap.size (wcs y) ?_ ?_ 24 (wcs x) R2'.out (wc_info _) (by rw [wc_size, wc_size]) (wc_one _) ?_); (rfl); (rfl); (rfl); (rfl))
      go_roundw
      case rel =>
        refine ⟨k + 1, by omega, by go_num, below_setRow b2.out (by omega) _, ?_, R3.out.setRowFar (by omega)⟩
        rw [HY.out]
        exact R2.out.setRow
      case measure => simp [intOf]; omega
    · have hkn' : k = n.toNat ∨ n < 0 := by omega
      have hkk : Hid (k = n.toNat) := by show _ = _; omega
      clear hkn'
      rw [hkk.out] at r0
      have R0 : Hid (wr.heap[w.heap.size]? = some (.cells (wcs (aDown a n.toNat)) 24 (0, 0))) := r0
      have R1 : Hid (wr.heap[w.heap.size + 1]? = some (.cells (wcs 0) 24 (0, 0))) := r1
      clear r0 r1 hrows HS HK
      generalize hE : wcs (aDown a n.toNat) = cs at *
      have HE := Lib.hid hE
      have hsz : Hid (cs.size = 4) := by show _ = _; rw [← hE]; exact wc_size _
      have ho : Hid (cs.all (·.oneCell') = true) := by show _ = _; rw [← hE]; exact wc_one _
      clear hE
      go_wp2_with (first
        | ((with_reducible refine wpList_load_row (o := ⟨some 16, _, _, _, _, _⟩) ?_ 24 (.tmp 2) ?_ w.heap.size ?_ 24 cs (0, 0) _ R0.out Try.underlying24 ?_ (infoW cs hsz.out) ?_); (rfl); (rfl); (rfl); (rfl))
        | ((with_reducible refine wpList_store_row (o := ⟨none, .store 24 (.tmp 4) _, _, _, _, _⟩) ?_ 24 (.tmp 4) (.tmp 16) ?_ (w.heap.size + 1) cs ?_ ?_ 24 (wcs 0) R1.out (infoW cs hsz.out) (by rw [hsz.out, wc_size]) ho.out ?_); (rfl); (rfl); (rfl); (rfl))
        | ((with_reducible refine bodyPost_ret (v := .agg cs) ?_ ?_ ?_); (exact results_cell_row (p := 4) (ty := 24) Try.results18 _ _ (w.heap.size + 1) 24 cs (0, 0) _ rfl (setRow_heap _ _ (wcs 0) cs 24 (0, 0) R1.out) Try.underlying24 rfl (infoW cs hsz.out)); (rfl)))
      exact ⟨by rw [HE.out], below_setRow hbl (by omega) _⟩
theorem rdown_far (a : Nat) (n : Int) (w : World) (hn : 256 ≤ n) :
    Calls Try.prog 18 #[.agg (wcs a), .int .i64 n] w fun e w' => e = .returned (.agg (wcs 0)) ∧ Below w.heap.size w w' := by
  generalize hA : wcs a = ca
  clear hA
  go_enter Try.func18, Try.ntmps18
  go_wp2
  go_returns
  exact ⟨rfl, by go_grown⟩
end Go.Proofs.Ytcombekbeljflaa
