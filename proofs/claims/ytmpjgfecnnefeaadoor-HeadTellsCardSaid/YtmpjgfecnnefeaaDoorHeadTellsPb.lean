/- Part of a proof. -/
import Derived.Test.YtmpjgfecnnefeaaDoorHeadTellsPa
import Derived.BigRegion
import Derived.ChangeKeysEq
namespace Go.Proofs.YtmpjgfecnnefeaaDoor
set_option maxRecDepth 8000
open Go.RowKit

theorem DivAt.setA {w u : World} {g a b q l a' : Nat} (h : DivAt w u g a b q l) : DivAt w (u.setRow g (wcs a')) g a' b q l := by
  have := h.lt
  exact ⟨setRow_heap _ _ (wcs a) _ _ _ h.a, (setRow_other _ _ _ _ (by omega)).trans h.b, (setRow_other _ _ _ _ (by omega)).trans h.r, (setRow_other _ _ _ _ (by omega)).trans h.s, (setRow_other _ _ _ _ (by omega)).trans h.q, (setRow_other _ _ _ _ (by omega)).trans h.l, by rw [size_setRow]; exact h.lt, below_setRow h.bel (by omega) _⟩
theorem DivX.setA {w u : World} {g a b q l x v a' : Nat} (h : DivX w u g a b q l x v) : DivX w (u.setRow g (wcs a')) g a' b q l x v := ⟨h.at'.setA, (setRow_other _ _ _ _ (by have := h.gt; omega)).trans h.box, h.gt⟩
theorem DivX.setQ {w u : World} {g a b q l x v q' : Nat} (h : DivX w u g a b q l x v) : DivX w (u.setRow (g + 1 + 1 + 1 + 1) (wcs q')) g a b q' l x v := ⟨h.at'.setQ, (setRow_other _ _ _ _ (by have := h.gt; omega)).trans h.box, h.gt⟩
theorem DivX.setL {w u : World} {g a b q l x v l' : Nat} (h : DivX w u g a b q l x v) : DivX w (u.setRow (g + 1 + 1 + 1 + 1 + 1) (wcs l')) g a b q l' x v := ⟨h.at'.setL, (setRow_other _ _ _ _ (by have := h.gt; omega)).trans h.box, h.gt⟩
theorem W0_even (v : Nat) (h2 : v % 2 = 0) : W v 0 ≤ 18446744073709551614 := by rw [W0]; omega
theorem DivAt.oneQ {w u : World} {g a b q l : Nat} (h : DivAt w u g a b q l) (hl : q < Big) (h2 : q % 2 = 0) : DivAt w (u.setCell ⟨g + 1 + 1 + 1 + 1, 0, none⟩ (.int .u64 ((W q 0 : Int) + 1))) g a b (q + 1) l := by
  have := h.lt
  have ra : Row u g 26 (wcs a) := h.a
  have rb : Row u (g + 1) 26 (wcs b) := h.b
  have rr : Row u (g + 1 + 1) 26 (wcs 0) := h.r
  have rs : Row u (g + 1 + 1 + 1) 26 (wcs 0) := h.s
  have rq : Row u (g + 1 + 1 + 1 + 1) 26 (wcs q) := h.q
  have rl : Row u (g + 1 + 1 + 1 + 1 + 1) 26 (wcs l) := h.l
  exact ⟨ra.farAt (by omega) _, rb.farAt (by omega) _, rr.farAt (by omega) _, rs.farAt (by omega) _, by rw [← wc_set_one q hl h2]; exact rq.put 0 _, rl.farAt (by omega) _, by simpa using h.lt, h.bel.setCell (by simp; omega) _⟩
/-- the bits of a moved up by k: the highest one, and what is left -/
def aK (a k : Nat) : Nat := a * 2 ^ k % Big
theorem aK_zero (a : Nat) (h : a < Big) : aK a 0 = a := by unfold aK; rw [Nat.pow_zero, Nat.mul_one, Nat.mod_eq_of_lt h]
theorem aK_lt (a k : Nat) : aK a k < Big := Nat.mod_lt _ Big_pos
theorem aK_step (a k : Nat) : (aK a k + aK a k) % Big = aK a (k + 1) := by
  unfold aK
  rw [← Nat.add_mod, Nat.pow_succ, ← Nat.mul_assoc]
  congr 1
  omega
theorem aK_top (a k : Nat) (hk : k < 256) : (9223372036854775808 ≤ W (aK a k) 3) ↔ bitN a (255 - k) = 1 := by
  have h1 : W (aK a k) 3 = W (a * 2 ^ k) 3 := W_mod _ 3 (by omega)
  have hb : bitN a (255 - k) = 1 ↔ a.testBit (255 - k) = true := by
    unfold bitN
    have t1 := Nat.mod_two_eq_one_iff_testBit_zero (x := a / 2 ^ (255 - k))
    rw [Nat.testBit_div_two_pow, Nat.zero_add] at t1
    exact t1
  have ht : (W (a * 2 ^ k) 3).testBit 63 = a.testBit (255 - k) := by
    rw [W_bit, Nat.testBit_mul_two_pow]
    simp only [show (63 : Nat) < 64 by omega, decide_true, Bool.true_and, show 64 * 3 + 63 = 255 by omega, ge_iff_le, show k ≤ 255 by omega]
  rw [hb, ← ht, h1]
  have hl := W_lt (a * 2 ^ k) 3
  generalize W (a * 2 ^ k) 3 = x at *
  have t2 := Nat.mod_two_eq_one_iff_testBit_zero (x := x / 2 ^ 63)
  rw [Nat.testBit_div_two_pow, Nat.zero_add] at t2
  rw [← t2, show (2 : Nat) ^ 63 = 9223372036854775808 from rfl]
  omega
set_option maxHeartbeats 16000000 in
set_option maxRecDepth 100000 in
theorem rdiv_yes (a b : Nat) (w : World) (ha : a < Big) (hb : b < Big) (hb0 : 0 < b) :
    Calls Tryd.prog 67 #[.agg (wcs a), .agg (wcs b)] w fun e w' => e = .returned (.tuple #[.agg (wcs (a / b)), .agg (wcs (a % b)), .bool true]) ∧ Below w.heap.size w w' := by
  have HA := Lib.hid ha
  have HB := Lib.hid hb
  have HB0 := Lib.hid hb0
  have heq := eql_zero b hb
  have hz : eqN b 0 = false := by simp [eqN]; omega
  rw [hz] at heq
  clear ha hb hb0 hz
  have R1 : Hid (((((w.alloc (.cells (wcs a) 26)).alloc (.cells (wcs b) 26)).alloc (.cells (wcs 0) 26)).alloc (.cells (wcs 0) 26)).heap[w.heap.size + 1]? = some (.cells (wcs b) 26 (0, 0))) := ((Row.newAt (by simp) 26 _).alloc _).alloc _
  go_enter Tryd.func67, Tryd.ntmps67
  go_wp2_with ((with_reducible refine wpList_load_row (o := ⟨some 12, _, _, _, _, _⟩) ?_ 26 (.tmp 3) ?_ (w.heap.size + 1) ?_ 26 (wcs b) (0, 0) _ ?_ Tryd.underlying26 ?_ (wc_info _) ?_); (rfl); (rfl); (rfl); (exact R1.out); (rfl))
  clear heq R1
  go_loopw [9] (fun i u => ∃ k : Nat, k ≤ 256 ∧ i = .int .i64 k ∧ Hid (DivAt w u w.heap.size (aK a k) b (topN a k / b) (topN a k % b))) (fun i _ => 256 - (intOf i).toNat)
  case atStart =>
    refine ⟨0, by omega, rfl, ?_⟩
    show DivAt _ _ _ _ _ _ _
    rw [top_zero a HA.out, Nat.zero_div, Nat.zero_mod, aK_zero a HA.out]
    exact ⟨((((((Row.new w 26 _).alloc _).alloc _).alloc _).alloc _).alloc _), (((((Row.newAt (by simp) 26 _).alloc _).alloc _).alloc _).alloc _), ((((Row.newAt (by simp) 26 _).alloc _).alloc _).alloc _), (((Row.newAt (by simp) 26 _).alloc _).alloc _), ((Row.newAt (by simp) 26 _).alloc _), (Row.newAt (by simp) 26 _), by simp, by go_grown⟩
  case round =>
    obtain ⟨k, hk, rfl, K0⟩ := hrel
    by_cases hlt : k < 256
    · have hk0 : (0 : Int) ≤ (k : Int) := by omega
      have hlti : (k : Int) < 256 := by omega
      have HD := Lib.hid (div_round a b k HB0.out HB.out _ _ rfl rfl hlt)
      have HLB := Lib.hid (Nat.mod_lt (topN a k) HB0.out)
      have HQ := Lib.hid (Nat.lt_of_le_of_lt (Nat.div_le_self (topN a k) b) (top_lt a k HA.out hk))
      have HAK := Lib.hid (aK_lt a k)
      have HAS := Lib.hid (aK_step a k)
      have HAT := Lib.hid (aK_top a k hlt)
      generalize topN a k / b = q at *
      generalize topN a k % b = l at *
      generalize aK a k = A at *
      have HL : Hid (l < Big) := Nat.lt_trans HLB.out HB.out
      go_wp2_with (first
        | ((with_reducible refine wpList_load_row (o := ⟨some 22, _, _, _, _, _⟩) ?_ 26 (.tmp 8) ?_ (w.heap.size + 1 + 1 + 1 + 1 + 1) ?_ 26 (wcs (l)) (0, 0) _ K0.out.l Tryd.underlying26 ?_ (wc_info _) ?_); (rfl); (rfl); (rfl); (rfl))
        | ((with_reducible refine wpList_load_row (o := ⟨some 23, _, _, _, _, _⟩) ?_ 26 (.tmp 8) ?_ (w.heap.size + 1 + 1 + 1 + 1 + 1) ?_ 26 (wcs (l)) (0, 0) _ K0.out.l Tryd.underlying26 ?_ (wc_info _) ?_); (rfl); (rfl); (rfl); (rfl)))
      refine (radd_any l l wr HL.out HL.out).mono ?_
      rintro e w1 ⟨rfl, hbel⟩
      rw [show l + l = 2 * l by omega]
      have K1 := Lib.hid (K0.out.below hbel)
      have hs1 := hbel.size
      have hl1 : Hid (2 * l % Big < Big) := Nat.mod_lt _ Big_pos
      have hl2 : Hid (2 * l % Big % 2 = 0) := by show _ = _; unfold Big; omega
      obtain ⟨c, hc⟩ : ∃ c, bitN l 255 = c := ⟨_, rfl⟩
      have HDC := Lib.hid (div_cases a b k l c (2 * l % Big) HLB.out HB.out hc rfl)
      have HCS : Hid (decide (2 * l < Big) = (c == 0)) := by
        show _ = _
        have hl := HL.out
        rw [Bool.eq_iff_iff]
        simp only [decide_eq_true_eq, beq_iff_eq]
        rw [← hc]
        unfold bitN
        rw [show 2 ^ 255 = 57896044618658097711785492504343953926634992332820282019728792003956564819968 from rfl]
        unfold Big at *
        omega
      rw [HCS.out]
      clear hc HCS
      generalize 2 * l % Big = l1 at *
      have KX : Hid (DivX w (w1.alloc (.cells (wcs l1) 26)) w.heap.size A b q l w1.heap.size l1) := ⟨K1.out.alloc _, Row.new w1 26 _, by have := K1.out.lt; omega⟩
      clear K1 hbel K0
      go_upto_region 9 with (first
        | ((with_reducible refine wpList_store_row (o := ⟨none, .store 26 (.tmp 10) _, _, _, _, _⟩) ?_ 26 (.tmp 10) (.tmp 25) ?_ w1.heap.size (wcs l1) ?_ ?_ 26 _ (heap_alloc_last w1 _) (wc_info _) ?_ (wc_one _) ?_); (rfl); (rfl); (rfl); (rfl); (rw [wc_size]; rfl); rw [World.setRow_alloc_new]))
      generalize w1.heap.size = gx at *
      clear hs1
      generalize w1.alloc (.cells (wcs l1) 26) = w2 at *
      try rw [put_none]
      have ra : Row w2 w.heap.size 26 (wcs A) := KX.out.at'.a
      have rx : Row w2 gx 26 (wcs l1) := KX.out.box
      have c3 : w2.cell? ⟨w.heap.size, 3, none⟩ = some (.int .u64 (W A 3)) := (ra.cell 3).trans (wc_get A 3 (by decide))
      have x0 : w2.cell? ⟨gx, 0, none⟩ = some (.int .u64 (W l1 0)) := (rx.cell 0).trans (wc_get l1 0 (by decide))
      have xf : w2.frozen? ⟨gx, 0, none⟩ = false := rx.frozen 0
      have hev := W0_even l1 hl2.out
      clear ra rx
      go_upto_if 29 with fail
      go_cut [] (fun wx => Hid (DivX w wx w.heap.size A b q l gx (l1 + bitN a (255 - k))))
      case first =>
        have hbit := bitN_lt a (255 - k)
        have KX1 := Lib.hid (KX.out.one hl1.out hl2.out)
        generalize W l1 0 = wl0 at *
        have hw1 : IntKind.u64.wrap ((wl0 : Int) + 1) = (wl0 : Int) + 1 := by rw [IntKind.wrap_u64]; omega
        have hT : Hid (decide ((9223372036854775808 : Int) ≤ (W A 3 : Int)) = (bitN a (255 - k) == 1)) := by
          show _ = _
          rw [Bool.eq_iff_iff]
          simp only [decide_eq_true_eq, beq_iff_eq]
          rw [← HAT.out]
          omega
        rw [hT.out]
        clear hT
        have hbc : bitN a (255 - k) = 0 ∨ bitN a (255 - k) = 1 := by omega
        clear hbit
        rcases hbc with hb0' | hb1'
        · rw [hb0']
          rw [show ((0 : Nat) == 1) = false from rfl]
          have HB0' := Lib.hid hb0'
          clear hb0'
          go_wp2
          go_meet
          show DivX _ _ _ _ _ _ _ _ _
          first | exact KX.out | (rw [HB0'.out, Nat.add_zero]; exact KX.out)
        · rw [hb1']
          rw [show ((1 : Nat) == 1) = true from rfl]
          have HB1' := Lib.hid hb1'
          clear hb1'
          go_wp2
          go_meet
          show DivX _ _ _ _ _ _ _ _ _
          first | exact KX1.out | (rw [HB1'.out]; exact KX1.out)
      case rest =>
        have K3 := hcut
        clear hcut c3 x0 xf hev KX hl1 hl2 HAT
        generalize bitN a (255 - k) = e at *
        generalize hv : l1 + e = v at *
        have HV := Lib.hid hv
        clear hv
        have hv1 : Hid (v < Big) := HDC.out.1
        have hq1 : Hid (2 * q < Big) := by
          show _ < _
          have h := HQ.out
          rw [Big_eq]
          have : 2 ^ (k + 1) ≤ 2 ^ 256 := Nat.pow_le_pow_right (by omega) (by omega)
          rw [Nat.pow_succ] at this
          omega
        go_wp2_with (first
        | ((with_reducible refine wpList_load_row (o := ⟨some 35, _, _, _, _, _⟩) ?_ 26 (.tmp 2) ?_ (w.heap.size) ?_ 26 (wcs (A)) (0, 0) _ K3.out.at'.a Tryd.underlying26 ?_ (wc_info _) ?_); (rfl); (rfl); (rfl); (rfl))
        | ((with_reducible refine wpList_load_row (o := ⟨some 36, _, _, _, _, _⟩) ?_ 26 (.tmp 2) ?_ (w.heap.size) ?_ 26 (wcs (A)) (0, 0) _ K3.out.at'.a Tryd.underlying26 ?_ (wc_info _) ?_); (rfl); (rfl); (rfl); (rfl)))
        refine (radd_any A A wc HAK.out HAK.out).mono ?_
        rintro e' w4 ⟨rfl, hbel⟩
        rw [HAS.out]
        have K4 := Lib.hid (K3.out.below hbel)
        have K5 : Hid (DivX w (w4.setRow w.heap.size (wcs (aK a (k + 1)))) w.heap.size (aK a (k + 1)) b q l gx v) := K4.out.setA
        have KA : Hid (w4.heap[w.heap.size]? = some (.cells (wcs A) 26 (0, 0))) := K4.out.at'.a
        clear hbel K3 K4
        go_wp2_with (first
        | ((with_reducible refine wpList_store_row (o := ⟨none, .store 26 (.tmp 2) _, _, _, _, _⟩) ?_ 26 (.tmp 2) (.tmp 38) ?_ (w.heap.size) (wcs (aK a (k + 1))) ?_ ?_ 26 (wcs (A)) KA.out (wc_info _) (by rw [wc_size, wc_size]) (wc_one _) ?_); (rfl); (rfl); (rfl); (rfl))
        | ((with_reducible refine wpList_load_row (o := ⟨some 41, _, _, _, _, _⟩) ?_ 26 (.tmp 7) ?_ (w.heap.size + 1 + 1 + 1 + 1) ?_ 26 (wcs (q)) (0, 0) _ K5.out.at'.q Tryd.underlying26 ?_ (wc_info _) ?_); (rfl); (rfl); (rfl); (rfl))
        | ((with_reducible refine wpList_load_row (o := ⟨some 42, _, _, _, _, _⟩) ?_ 26 (.tmp 7) ?_ (w.heap.size + 1 + 1 + 1 + 1) ?_ 26 (wcs (q)) (0, 0) _ K5.out.at'.q Tryd.underlying26 ?_ (wc_info _) ?_); (rfl); (rfl); (rfl); (rfl)))
        clear KA
        generalize w4.setRow w.heap.size (wcs (aK a (k + 1))) = w5 at *
        refine (radd_any q q w5 (by have := hq1.out; omega) (by have := hq1.out; omega)).mono ?_
        rintro e' w6 ⟨rfl, hbel⟩
        rw [show q + q = 2 * q by omega, Nat.mod_eq_of_lt hq1.out]
        have K6 := Lib.hid (K5.out.below hbel)
        have K7a : Hid (DivX w (w6.setRow (w.heap.size + 1 + 1 + 1 + 1) (wcs (2 * q))) w.heap.size (aK a (k + 1)) b (2 * q) l gx v) := K6.out.setQ
        have KQ : Hid (w6.heap[w.heap.size + 1 + 1 + 1 + 1]? = some (.cells (wcs q) 26 (0, 0))) := K6.out.at'.q
        clear hbel K5 K6
        have K7 : Hid (DivX w ((w6.setRow (w.heap.size + 1 + 1 + 1 + 1) (wcs (2 * q))).setRow (w.heap.size + 1 + 1 + 1 + 1 + 1) (wcs v)) w.heap.size (aK a (k + 1)) b (2 * q) v gx v) := K7a.out.setL
        go_upto_region 14 with (first
        | ((with_reducible refine wpList_store_row (o := ⟨none, .store 26 (.tmp 7) _, _, _, _, _⟩) ?_ 26 (.tmp 7) (.tmp 44) ?_ (w.heap.size + 1 + 1 + 1 + 1) (wcs (2 * q)) ?_ ?_ 26 (wcs (q)) KQ.out (wc_info _) (by rw [wc_size, wc_size]) (wc_one _) ?_); (rfl); (rfl); (rfl); (rfl))
        | ((with_reducible refine wpList_load_row (o := ⟨some 46, _, _, _, _, _⟩) ?_ 26 (.tmp 10) ?_ (gx) ?_ 26 (wcs (v)) (0, 0) _ K7a.out.box Tryd.underlying26 ?_ (wc_info _) ?_); (rfl); (rfl); (rfl); (rfl))
        | ((with_reducible refine wpList_store_row (o := ⟨none, .store 26 (.tmp 8) _, _, _, _, _⟩) ?_ 26 (.tmp 8) (.tmp 46) ?_ (w.heap.size + 1 + 1 + 1 + 1 + 1) (wcs (v)) ?_ ?_ 26 (wcs (l)) K7a.out.at'.l (wc_info _) (by rw [wc_size, wc_size]) (wc_one _) ?_); (rfl); (rfl); (rfl); (rfl)))
        clear KQ K7a
        generalize (w6.setRow (w.heap.size + 1 + 1 + 1 + 1) (wcs (2 * q))).setRow (w.heap.size + 1 + 1 + 1 + 1 + 1) (wcs v) = w7 at *
        try rw [put_none]
        have K7d := Lib.hid K7.out.at'
        clear K7 HLB HQ HV HAK HAS
        have hcm : Hid (decide (0 ≤ cmpI v b) = decide (b ≤ v)) := by
          show _ = _
          rw [decide_eq_decide]; unfold cmpI; split
          · omega
          · split <;> omega
        rcases HDC.out.2 with ⟨hc, hle, hbv, hmod⟩ | ⟨hc, hle, hbv, hmod⟩ | ⟨hc, hle, hbv, hmod⟩
        · have hcb : (c == 0) = false := by rw [hc]; rfl
          have hnew : Hid (topN a (k + 1) / b = 2 * q + 1 ∧ topN a (k + 1) % b = (v + (Big - b)) % Big) := by
            show _ ∧ _
            rw [hmod]
            exact HD.out.1 hbv
          rw [hcb]
          clear hcb hmod hbv hle hc HD HDC hcm
          go_wp2_with (first
        | ((with_reducible refine wpList_load_row (o := ⟨some 56, _, _, _, _, _⟩) ?_ 26 (.tmp 8) ?_ (w.heap.size + 1 + 1 + 1 + 1 + 1) ?_ 26 (wcs (v)) (0, 0) _ K7d.out.l Tryd.underlying26 ?_ (wc_info _) ?_); (rfl); (rfl); (rfl); (rfl))
        | ((with_reducible refine wpList_load_row (o := ⟨some 57, _, _, _, _, _⟩) ?_ 26 (.tmp 3) ?_ (w.heap.size + 1) ?_ 26 (wcs (b)) (0, 0) _ K7d.out.b Tryd.underlying26 ?_ (wc_info _) ?_); (rfl); (rfl); (rfl); (rfl)))
          refine (rsub_any v b w7 hv1.out HB.out).mono ?_
          rintro e' w9 ⟨rfl, hbel⟩
          have K8 := Lib.hid (K7d.out.below hbel)
          clear hbel K7d
          have K9 : Hid (DivAt w (w9.setRow (w.heap.size + 1 + 1 + 1 + 1 + 1) (wcs ((v + (Big - b)) % Big))) w.heap.size (aK a (k + 1)) b (2 * q) ((v + (Big - b)) % Big)) := K8.out.setL
          have KL : Hid (w9.heap[w.heap.size + 1 + 1 + 1 + 1 + 1]? = some (.cells (wcs v) 26 (0, 0))) := K8.out.l
          clear K8
          generalize (v + (Big - b)) % Big = r at *
          go_upto_region 16 with (((with_reducible refine wpList_store_row (o := ⟨none, .store 26 (.tmp 8) _, _, _, _, _⟩) ?_ 26 (.tmp 8) (.tmp 59) ?_ (w.heap.size + 1 + 1 + 1 + 1 + 1) (wcs (r)) ?_ ?_ 26 (wcs (v)) KL.out (wc_info _) (by rw [wc_size, wc_size]) (wc_one _) ?_); (rfl); (rfl); (rfl); (rfl)))
          clear KL
          generalize w9.setRow (w.heap.size + 1 + 1 + 1 + 1 + 1) (wcs r) = w10 at *
          try rw [put_none]
          have rq : Row w10 (w.heap.size + 1 + 1 + 1 + 1) 26 (wcs (2 * q)) := K9.out.q
          have d0 : w10.cell? ⟨w.heap.size + 1 + 1 + 1 + 1, 0, none⟩ = some (.int .u64 (W (2 * q) 0)) := (rq.cell 0).trans (wc_get (2 * q) 0 (by decide))
          have f0 : w10.frozen? ⟨w.heap.size + 1 + 1 + 1 + 1, 0, none⟩ = false := rq.frozen 0
          have hev := W0_even (2 * q) (by omega)
          have K10 := Lib.hid (K9.out.oneQ hq1.out (by omega))
          clear rq K9
          generalize W (2 * q) 0 = wq at *
          have hw1 : IntKind.u64.wrap ((wq : Int) + 1) = (wq : Int) + 1 := by rw [IntKind.wrap_u64]; omega
          go_wp2
          go_roundw
          case rel =>
            refine ⟨k + 1, by omega, by go_num, ?_⟩
            show DivAt _ _ _ _ _ _ _
            rw [hnew.out.1, hnew.out.2]
            exact K10.out
          case measure => simp [intOf]; omega
        · have hcb : (c == 0) = true := by rw [hc]; rfl
          have hle' : decide (b ≤ v) = true := by simpa using hle
          have hnew : Hid (topN a (k + 1) / b = 2 * q + 1 ∧ topN a (k + 1) % b = (v + (Big - b)) % Big) := by
            show _ ∧ _
            rw [hmod]
            exact HD.out.1 hbv
          rw [hcb]
          have hc1 := hcm.out
          rw [hle'] at hc1
          have hc2 : 0 ≤ cmpI v b := by simpa using hc1
          clear hcb hle' hmod hbv hle hc HD HDC hcm
          go_wp2_with (first
        | ((with_reducible refine wpList_load_guarded (o := ⟨some 50, _, _, _, _, _⟩) ?_ 26 (.tmp 8) ?_ (w.heap.size + 1 + 1 + 1 + 1 + 1) ?_ 26 (wcs (v)) (0, 0) _ K7d.out.l Tryd.underlying26 ?_ (wc_info _) ?_); (rfl); (rfl); (rfl); (rfl))
        | ((with_reducible refine wpList_load_guarded (o := ⟨some 51, _, _, _, _, _⟩) ?_ 26 (.tmp 3) ?_ (w.heap.size + 1) ?_ 26 (wcs (b)) (0, 0) _ K7d.out.b Tryd.underlying26 ?_ (wc_info _) ?_); (rfl); (rfl); (rfl); (rfl)))
          refine (rcmp_any v b w7 hv1.out HB.out).mono ?_
          rintro e' w8 ⟨rfl, hbel⟩
          have K8' := Lib.hid (K7d.out.below hbel)
          clear hbel K7d
          go_wp2_with (first
        | ((with_reducible refine wpList_load_row (o := ⟨some 56, _, _, _, _, _⟩) ?_ 26 (.tmp 8) ?_ (w.heap.size + 1 + 1 + 1 + 1 + 1) ?_ 26 (wcs (v)) (0, 0) _ K8'.out.l Tryd.underlying26 ?_ (wc_info _) ?_); (rfl); (rfl); (rfl); (rfl))
        | ((with_reducible refine wpList_load_row (o := ⟨some 57, _, _, _, _, _⟩) ?_ 26 (.tmp 3) ?_ (w.heap.size + 1) ?_ 26 (wcs (b)) (0, 0) _ K8'.out.b Tryd.underlying26 ?_ (wc_info _) ?_); (rfl); (rfl); (rfl); (rfl)))
          refine (rsub_any v b w8 hv1.out HB.out).mono ?_
          rintro e' w9 ⟨rfl, hbel⟩
          have K8 := Lib.hid (K8'.out.below hbel)
          clear hbel K8' hc1 hc2
          have K9 : Hid (DivAt w (w9.setRow (w.heap.size + 1 + 1 + 1 + 1 + 1) (wcs ((v + (Big - b)) % Big))) w.heap.size (aK a (k + 1)) b (2 * q) ((v + (Big - b)) % Big)) := K8.out.setL
          have KL : Hid (w9.heap[w.heap.size + 1 + 1 + 1 + 1 + 1]? = some (.cells (wcs v) 26 (0, 0))) := K8.out.l
          clear K8
          generalize (v + (Big - b)) % Big = r at *
          go_upto_region 16 with (((with_reducible refine wpList_store_row (o := ⟨none, .store 26 (.tmp 8) _, _, _, _, _⟩) ?_ 26 (.tmp 8) (.tmp 59) ?_ (w.heap.size + 1 + 1 + 1 + 1 + 1) (wcs (r)) ?_ ?_ 26 (wcs (v)) KL.out (wc_info _) (by rw [wc_size, wc_size]) (wc_one _) ?_); (rfl); (rfl); (rfl); (rfl)))
          clear KL
          generalize w9.setRow (w.heap.size + 1 + 1 + 1 + 1 + 1) (wcs r) = w10 at *
          try rw [put_none]
          have rq : Row w10 (w.heap.size + 1 + 1 + 1 + 1) 26 (wcs (2 * q)) := K9.out.q
          have d0 : w10.cell? ⟨w.heap.size + 1 + 1 + 1 + 1, 0, none⟩ = some (.int .u64 (W (2 * q) 0)) := (rq.cell 0).trans (wc_get (2 * q) 0 (by decide))
          have f0 : w10.frozen? ⟨w.heap.size + 1 + 1 + 1 + 1, 0, none⟩ = false := rq.frozen 0
          have hev := W0_even (2 * q) (by omega)
          have K10 := Lib.hid (K9.out.oneQ hq1.out (by omega))
          clear rq K9
          generalize W (2 * q) 0 = wq at *
          have hw1 : IntKind.u64.wrap ((wq : Int) + 1) = (wq : Int) + 1 := by rw [IntKind.wrap_u64]; omega
          go_wp2
          go_roundw
          case rel =>
            refine ⟨k + 1, by omega, by go_num, ?_⟩
            show DivAt _ _ _ _ _ _ _
            rw [hnew.out.1, hnew.out.2]
            exact K10.out
          case measure => simp [intOf]; omega
        · have hcb : (c == 0) = true := by rw [hc]; rfl
          have hle' : decide (b ≤ v) = false := by simpa using hle
          have hnew : Hid (topN a (k + 1) / b = 2 * q ∧ topN a (k + 1) % b = v) := by
            show _ ∧ _
            rw [hmod]
            exact HD.out.2 hbv
          rw [hcb]
          have hc1 := hcm.out
          rw [hle'] at hc1
          have hc2 : ¬ 0 ≤ cmpI v b := by simpa using hc1
          clear hcb hle' hmod hbv hle hc HD HDC hcm
          go_wp2_with (first
        | ((with_reducible refine wpList_load_guarded (o := ⟨some 50, _, _, _, _, _⟩) ?_ 26 (.tmp 8) ?_ (w.heap.size + 1 + 1 + 1 + 1 + 1) ?_ 26 (wcs (v)) (0, 0) _ K7d.out.l Tryd.underlying26 ?_ (wc_info _) ?_); (rfl); (rfl); (rfl); (rfl))
        | ((with_reducible refine wpList_load_guarded (o := ⟨some 51, _, _, _, _, _⟩) ?_ 26 (.tmp 3) ?_ (w.heap.size + 1) ?_ 26 (wcs (b)) (0, 0) _ K7d.out.b Tryd.underlying26 ?_ (wc_info _) ?_); (rfl); (rfl); (rfl); (rfl)))
          refine (rcmp_any v b w7 hv1.out HB.out).mono ?_
          rintro e' w8 ⟨rfl, hbel⟩
          have K8 := Lib.hid (K7d.out.below hbel)
          clear hbel K7d
          go_wp2
          go_roundw
          case rel =>
            refine ⟨k + 1, by omega, by go_num, ?_⟩
            show DivAt _ _ _ _ _ _ _
            rw [hnew.out.1, hnew.out.2]
            exact K8.out
          case measure => simp [intOf]; omega
    · obtain rfl : k = 256 := by omega
      have K : Hid (DivAt w wr w.heap.size (aK a 256) b (a / b) (a % b)) := by
        show DivAt _ _ _ _ _ _ _
        have h := K0.out
        rw [top_all] at h
        exact h
      clear K0
      have hbel := K.out.bel
      have eq1 := Lib.hid (wc_cells (a / b))
      have eq2 := Lib.hid (wc_cells (a % b))
      have rr : Row wr (w.heap.size + 1 + 1) 26 (wcs 0) := K.out.r
      have rs : Row wr (w.heap.size + 1 + 1 + 1) 26 (wcs 0) := K.out.s
      have rq : Row wr (w.heap.size + 1 + 1 + 1 + 1) 26 (wcs (a / b)) := K.out.q
      have rl : Row wr (w.heap.size + 1 + 1 + 1 + 1 + 1) 26 (wcs (a % b)) := K.out.l
      have q0 := (rq.cell 0).trans (wc_get (a / b) 0 (by decide))
      have l0 := (rl.cell 0).trans (wc_get (a % b) 0 (by decide))
      have r0 : wr.cell? ⟨w.heap.size + 1 + 1, 0, none⟩ = some (.int .u64 0) := (rr.cell 0).trans rfl
      have s0 : wr.cell? ⟨w.heap.size + 1 + 1 + 1, 0, none⟩ = some (.int .u64 0) := (rs.cell 0).trans rfl
      have fr0 := rr.frozen 0
      have fs0 := rs.frozen 0
      have q1 := (rq.cell 1).trans (wc_get (a / b) 1 (by decide))
      have l1 := (rl.cell 1).trans (wc_get (a % b) 1 (by decide))
      have r1 : wr.cell? ⟨w.heap.size + 1 + 1, 1, none⟩ = some (.int .u64 0) := (rr.cell 1).trans rfl
      have s1 : wr.cell? ⟨w.heap.size + 1 + 1 + 1, 1, none⟩ = some (.int .u64 0) := (rs.cell 1).trans rfl
      have fr1 := rr.frozen 1
      have fs1 := rs.frozen 1
      have q2 := (rq.cell 2).trans (wc_get (a / b) 2 (by decide))
      have l2 := (rl.cell 2).trans (wc_get (a % b) 2 (by decide))
      have r2 : wr.cell? ⟨w.heap.size + 1 + 1, 2, none⟩ = some (.int .u64 0) := (rr.cell 2).trans rfl
      have s2 : wr.cell? ⟨w.heap.size + 1 + 1 + 1, 2, none⟩ = some (.int .u64 0) := (rs.cell 2).trans rfl
      have fr2 := rr.frozen 2
      have fs2 := rs.frozen 2
      have q3 := (rq.cell 3).trans (wc_get (a / b) 3 (by decide))
      have l3 := (rl.cell 3).trans (wc_get (a % b) 3 (by decide))
      have r3 : wr.cell? ⟨w.heap.size + 1 + 1, 3, none⟩ = some (.int .u64 0) := (rr.cell 3).trans rfl
      have s3 : wr.cell? ⟨w.heap.size + 1 + 1 + 1, 3, none⟩ = some (.int .u64 0) := (rs.cell 3).trans rfl
      have fr3 := rr.frozen 3
      have fs3 := rs.frozen 3
      have RR := Lib.hid rr
      have RS := Lib.hid rs
      clear rr rs rq rl K
      generalize W (a / b) 0 = x0 at *
      generalize W (a / b) 1 = x1 at *
      generalize W (a / b) 2 = x2 at *
      generalize W (a / b) 3 = x3 at *
      generalize W (a % b) 0 = y0 at *
      generalize W (a % b) 1 = y1 at *
      generalize W (a % b) 2 = y2 at *
      generalize W (a % b) 3 = y3 at *
      go_wp2_with fail
      go_region
      have F1 := Lib.hid ((((((((RR.out.put 0 (.int .u64 x0)).put 1 (.int .u64 x1)).put 2 (.int .u64 x2)).put 3 (.int .u64 x3)).farAt (g' := w.heap.size + 1 + 1 + 1) (i := 0) (by omega) (.int .u64 y0)).farAt (g' := w.heap.size + 1 + 1 + 1) (i := 1) (by omega) (.int .u64 y1)).farAt (g' := w.heap.size + 1 + 1 + 1) (i := 2) (by omega) (.int .u64 y2)).farAt (g' := w.heap.size + 1 + 1 + 1) (i := 3) (by omega) (.int .u64 y3)).drew
      have F2 := Lib.hid ((((((((RS.out.farAt (g' := w.heap.size + 1 + 1) (i := 0) (by omega) (.int .u64 x0)).farAt (g' := w.heap.size + 1 + 1) (i := 1) (by omega) (.int .u64 x1)).farAt (g' := w.heap.size + 1 + 1) (i := 2) (by omega) (.int .u64 x2)).farAt (g' := w.heap.size + 1 + 1) (i := 3) (by omega) (.int .u64 x3)).put 0 (.int .u64 y0)).put 1 (.int .u64 y1)).put 2 (.int .u64 y2)).put 3 (.int .u64 y3)).drew
      clear q0 q1 q2 q3 l0 l1 l2 l3 r0 r1 r2 r3 s0 s1 s2 s3 fr0 fr1 fr2 fr3 fs0 fs1 fs2 fs3
      go_wp2_with ((with_reducible refine bodyPost_ret (v := .tuple #[.agg #[.int .u64 x0, .int .u64 x1, .int .u64 x2, .int .u64 x3], .agg #[.int .u64 y0, .int .u64 y1, .int .u64 y2, .int .u64 y3], .bool true]) ?_ ?_ ?_); (exact results_rows_slot (p := 4) (p' := 5) (q := 6) (ty := 26) Tryd.results67 _ _ (w.heap.size + 1 + 1) (w.heap.size + 1 + 1 + 1) 26 #[.int .u64 x0, .int .u64 x1, .int .u64 x2, .int .u64 x3] #[.int .u64 y0, .int .u64 y1, .int .u64 y2, .int .u64 y3] (0, 0) _ rfl rfl _ rfl F1.out F2.out Tryd.underlying26 rfl (infoW _ rfl) (infoW _ rfl)); (rfl))
      refine ⟨by rw [eq1.out, eq2.out], ?_⟩
      refine Below.drew ?_
      repeat (refine Below.setCell ?_ (by simp; omega) _)
      exact hbel
end Go.Proofs.YtmpjgfecnnefeaaDoor

namespace Go.Proofs.YtmpjgfecnnefeaaDoor
set_option maxRecDepth 8000
open Go.RowKit

theorem half_word (a j : Nat) : W (a / 2) j = W a j / 2 + W a (j + 1) % 2 * 9223372036854775808 := by
  have h1 := high_step a j
  have h2 := high_step a (j + 1)
  have e : a / 2 / 2 ^ (64 * j) = highW a j / 2 := by
    unfold highW
    rw [Nat.div_div_eq_div_mul, Nat.div_div_eq_div_mul, Nat.mul_comm]
  have hw : W (a / 2) j = highW a j / 2 % 18446744073709551616 := by
    unfold W
    rw [e]
  rw [hw]
  have l1 := W_lt a j
  have l2 := W_lt a (j + 1)
  omega
/-- what goes over from word k to the one below -/
def topBit (a k : Nat) : Nat := W a k % 2 * 9223372036854775808
theorem topBit_le (a k : Nat) : topBit a k ≤ 9223372036854775808 := by unfold topBit; omega
theorem topBit_eq (a k : Nat) : ((topBit a k : Nat) : Int) = (W a k : Int) % 2 * 9223372036854775808 := by unfold topBit; omega
theorem half_word' (a j : Nat) : W (a / 2) j = W a j / 2 + topBit a (j + 1) := half_word a j
/-- the words of half of a number from word k on, 0 below -/
def halfL (a k : Nat) : List Int := [if k ≤ 0 then (W (a / 2) 0 : Int) else 0, if k ≤ 1 then (W (a / 2) 1 : Int) else 0, if k ≤ 2 then (W (a / 2) 2 : Int) else 0, if k ≤ 3 then (W (a / 2) 3 : Int) else 0]
theorem halfL_all (a : Nat) : arrW 4 (halfL a 0) = wcs (a / 2) := by
  unfold wcs
  rw [wl_W]
  rfl
theorem halfL_get (a k j : Nat) (hj : j < 4) : ∃ z : Int, (arrW 4 (halfL a k))[j]? = some (.int .u64 z) := by
  rcases j with _ | _ | _ | _ | j
  · exact ⟨_, rfl⟩
  · exact ⟨_, rfl⟩
  · exact ⟨_, rfl⟩
  · exact ⟨_, rfl⟩
  · omega
theorem halfL_put (a k : Nat) (hk : k < 4) : (arrW 4 (halfL a (k + 1))).setIfInBounds k (.int .u64 (W (a / 2) k)) = arrW 4 (halfL a k) := by
  rcases k with _ | _ | _ | _ | k
  all_goals first | rfl | omega
set_option maxHeartbeats 4000000 in
theorem rhalf_any (a : Nat) (w : World) (ha : a < Big) :
    Calls Tryd.prog 79 #[.agg (wcs a)] w fun e w' => e = .returned (.agg (wcs (a / 2))) ∧ Below w.heap.size w w' := by
  have h4 : Hid (W a 4 = 0) := W_high a 4 ha (by omega)
  clear ha
  go_enter Tryd.func79, Tryd.ntmps79
  go_wp2_with fail
  go_loopw [4, 5] (fun h i u => ∃ k : Nat, k ≤ 4 ∧ i = .int .i64 ((k : Int) - 1) ∧ h = .int .u64 ((topBit a k : Nat) : Int) ∧ Below w.heap.size w u ∧ Hid (Row u w.heap.size 26 (wcs a) ∧ Row u (w.heap.size + 1) 26 (arrW 4 []) ∧ Row u (w.heap.size + 1 + 1) 26 (arrW 4 (halfL a k)))) (fun _ i _ => (intOf i + 1).toNat)
  case atStart => exact ⟨4, by omega, rfl, by unfold topBit; rw [h4.out]; rfl, by go_grown, ((Row.new w 26 _).alloc _).alloc _, (Row.newAt (by simp) 26 _).alloc _, Row.newAt (by simp) 26 _⟩
  case round =>
    clear h4
    obtain ⟨k, hk, rfl, rfl, hbl, hrows⟩ := hrel
    obtain ⟨r0, r1, r2⟩ := hrows.out
    rcases k with _ | k
    · rw [halfL_all a] at r2
      have hsz := Lib.hid (wc_size (a / 2))
      have hz0 := Lib.hid (arrW_size 4 [] (by simp))
      have ho := Lib.hid (wc_one (a / 2))
      have R1 : Hid (wr.heap[w.heap.size + 1]? = some (.cells (arrW 4 []) 26 (0, 0))) := r1
      have R2 : Hid (wr.heap[w.heap.size + 1 + 1]? = some (.cells (wcs (a / 2)) 26 (0, 0))) := r2
      clear r0 r1 r2 hrows
      generalize hE : wcs (a / 2) = cs at *
      have HE := Lib.hid hE
      clear hE
      generalize arrW 4 [] = zs at *
      have hz : (((0 : Nat) : Int) - 1) = -1 := by omega
      rw [hz]
      clear hz
      go_wp2_with (first
        | ((with_reducible refine wpList_load_row (o := ⟨some 23, _, _, _, _, _⟩) ?_ 26 (.tmp 3) ?_ (w.heap.size + 1 + 1) ?_ 26 cs (0, 0) _ R2.out Tryd.underlying26 ?_ (infoW cs hsz.out) ?_); (rfl); (rfl); (rfl); (rfl))
        | ((with_reducible refine wpList_store_row (o := ⟨none, .store 26 _ _, _, _, _, _⟩) ?_ 26 (.tmp 2) (.tmp 23) ?_ (w.heap.size + 1) cs ?_ ?_ 26 zs R1.out (infoW cs hsz.out) (by rw [hz0.out, hsz.out]) ho.out ?_); (rfl); (rfl); (rfl); (rfl))
        | ((with_reducible refine bodyPost_ret (v := .agg cs) ?_ ?_ ?_); (exact results_cell_row (p := 2) (ty := 26) Tryd.results79 _ _ (w.heap.size + 1) 26 cs (0, 0) _ rfl (setRow_heap _ _ zs cs 26 (0, 0) R1.out) Tryd.underlying26 rfl (infoW cs hsz.out)); (rfl)))
      exact ⟨by rw [HE.out], below_setRow hbl (by omega) _⟩
    · have e0 : wr.cell? ⟨w.heap.size, k, none⟩ = some (.int .u64 (W a k)) := (r0.cell k).trans (wc_get a k (by omega))
      obtain ⟨z, hz9⟩ := halfL_get a (k + 1) k (by omega)
      have e2 := (r2.cell k).trans hz9
      have f2 := r2.frozen k
      have R0 := Lib.hid r0
      have R1 := Lib.hid r1
      have R2 := Lib.hid r2
      have hput := Lib.hid (halfL_put a k (by omega))
      have hhw := Lib.hid (half_word' a k)
      have hW := W_lt a k
      clear r0 r1 r2 hrows hz9
      have hz : (((k + 1 : Nat) : Int) - 1) = (k : Int) := by omega
      rw [hz]
      clear hz
      have hk0 : (0 : Int) ≤ (k : Int) := by omega
      have hk4 : (k : Int) < 4 := by omega
      have hE : Hid ((.int .u64 ((topBit a k : Nat) : Int) : Value) = .int .u64 ((W a k : Int) % 2 * 9223372036854775808)) := congrArg (Value.int .u64) (topBit_eq a k)
      have hm := topBit_le a (k + 1)
      generalize topBit a (k + 1) = hi at *
      rw [hhw.out] at hput
      clear hhw
      generalize W a k = x at *
      have w1 : IntKind.u64.wrap ((x : Int) / 2 + (hi : Int)) = (x : Int) / 2 + (hi : Int) := by rw [IntKind.wrap_u64]; omega
      have w2 : IntKind.u64.wrap ((x : Int) % 2 * 9223372036854775808) = (x : Int) % 2 * 9223372036854775808 := by rw [IntKind.wrap_u64]; omega
      have w3 : IntKind.u64.wrap ((x : Int) / 2) = (x : Int) / 2 := by rw [IntKind.wrap_u64]; omega
      have d2 : (wr.setCell ⟨w.heap.size + 1 + 1, k, none⟩ (.int .u64 ((x : Int) / 2 + (hi : Int)))).cell? ⟨w.heap.size, k, none⟩ = some (.int .u64 x) := ((R0.out.farAt (by omega) _).cell k).trans ((R0.out.cell k).symm.trans e0)
      have hx0 : (0 : Int) ≤ (x : Int) := by omega
      clear hm hW
      go_wp2
      go_roundw
      case rel =>
        refine ⟨k, by omega, by go_num, ?_, hbl.setCell (by simp; omega) _, R0.out.farAt (by omega) _, R1.out.farAt (by omega) _, ?_⟩
        · exact hE.out.symm
        · rw [← hput.out, show ((x / 2 + hi : Nat) : Int) = (x : Int) / 2 + (hi : Int) by omega]
          exact R2.out.put k _
      case measure => simp [intOf]
theorem aUp_lt (a k : Nat) (_ : a < Big) : aUp a k < Big := Nat.mod_lt _ Big_pos
theorem aUp_step (a k : Nat) : (aUp a k + aUp a k) % Big = aUp a (k + 1) := by
  unfold aUp
  rw [← Nat.add_mod, Nat.pow_succ, ← Nat.mul_assoc]
  congr 1
  omega
def aDown (a k : Nat) : Nat := a / 2 ^ k
theorem aDown_zero (a : Nat) (_ : a < Big) : aDown a 0 = a := by unfold aDown; rw [Nat.pow_zero, Nat.div_one]
theorem aDown_lt (a k : Nat) (h : a < Big) : aDown a k < Big := Nat.lt_of_le_of_lt (Nat.div_le_self _ _) h
theorem aDown_step (a k : Nat) : aDown a k / 2 = aDown a (k + 1) := by
  unfold aDown
  rw [Nat.div_div_eq_div_mul, ← Nat.pow_succ]
set_option maxHeartbeats 4000000 in
theorem rup_any (a : Nat) (n : Int) (w : World) (ha : a < Big) (hn : n < 256) :
    Calls Tryd.prog 62 #[.agg (wcs a), .int .i64 n] w fun e w' => e = .returned (.agg (wcs (aUp a n.toNat))) ∧ Below w.heap.size w w' := by
  have HA := Lib.hid ha
  have hn' : ¬ (256 ≤ n) := by omega
  clear ha
  go_enter Tryd.func62, Tryd.ntmps62
  go_wp2_with fail
  go_loopw [5] (fun i u => ∃ k : Nat, k ≤ n.toNat ∧ i = .int .i64 k ∧ Below w.heap.size w u ∧ Hid (Row u w.heap.size 26 (wcs (aUp a k)) ∧ Row u (w.heap.size + 1) 26 (wcs 0))) (fun i _ => n.toNat - (intOf i).toNat)
  case atStart =>
    refine ⟨0, by omega, rfl, by go_grown, ?_, Row.newAt (by simp) 26 _⟩
    rw [aUp_zero a HA.out]
    exact (Row.new w 26 _).alloc _
  case round =>
    obtain ⟨k, hk, rfl, hbl, hrows⟩ := hrel
    obtain ⟨r0, r1⟩ := hrows.out
    have hlt := Lib.hid r1.lt
    have HK := Lib.hid (aUp_lt a k HA.out)
    have HS := Lib.hid (aUp_step a k)
    by_cases hkn : (k : Int) < n
    · have hkn' : k < n.toNat := by omega
      have R0 : Hid (wr.heap[w.heap.size]? = some (.cells (wcs (aUp a k)) 26 (0, 0))) := r0
      have R1 := Lib.hid r1
      clear r0 r1 hrows
      generalize aUp a k = x at *
      go_wp2_with (first
        | ((with_reducible refine wpList_load_row (o := ⟨some 17, _, _, _, _, _⟩) ?_ 26 (.tmp 2) ?_ w.heap.size ?_ 26 (wcs x) (0, 0) _ R0.out Tryd.underlying26 ?_ (wc_info _) ?_); (rfl); (rfl); (rfl); (rfl))
        | ((with_reducible refine wpList_load_row (o := ⟨some 18, _, _, _, _, _⟩) ?_ 26 (.tmp 2) ?_ w.heap.size ?_ 26 (wcs x) (0, 0) _ R0.out Tryd.underlying26 ?_ (wc_info _) ?_); (rfl); (rfl); (rfl); (rfl)))
      refine (radd_any x x wr HK.out HK.out).mono ?_
      rintro e w2 ⟨rfl, hb⟩
      rw [HS.out]
      have R2 : Hid (Row (w2.alloc (.cells (wcs (aUp a (k + 1))) 26)) w.heap.size 26 (wcs x)) := Row.alloc (Row.below R0.out hb (by have := hlt.out; omega)) _
      have R3 : Hid (Row (w2.alloc (.cells (wcs (aUp a (k + 1))) 26)) (w.heap.size + 1) 26 (wcs 0)) := Row.alloc (R1.out.below hb hlt.out) _
      have hs := hb.size
      have hl9 := hlt.out
      have b2 : Hid (Below w.heap.size w (w2.alloc (.cells (wcs (aUp a (k + 1))) 26))) := (hbl.trans (hb.mono hbl.size)).alloc (by have := hbl.size; omega) _
      clear hb R0 R1
      generalize hy : aUp a (k + 1) = y at *
      have HY := Lib.hid hy
      clear hy
      have R2' : Hid ((w2.alloc (.cells (wcs y) 26)).heap[w.heap.size]? = some (.cells (wcs x) 26 (0, 0))) := R2
      go_wp2_with (first
        | ((with_reducible refine wpList_store_row (o := ⟨none, .store 26 (.tmp 6) _, _, _, _, _⟩) ?_ 26 (.tmp 6) (.tmp 20) ?_ w2.heap.size (wcs (y)) ?_ ?_ 26 _ (heap_alloc_last w2 _) (wc_info _) ?_ (wc_one _) ?_); (rfl); (rfl); (rfl); (rfl); (rw [wc_size]; rfl); rw [World.setRow_alloc_new])
        | ((with_reducible refine wpList_load_row (o := ⟨some 22, _, _, _, _, _⟩) ?_ 26 (.tmp 6) ?_ w2.heap.size ?_ 26 (wcs y) (0, 0) _ (heap_alloc_last w2 _) Tryd.underlying26 ?_ (wc_info _) ?_); (rfl); (rfl); (rfl); (rfl))
        | ((with_reducible refine wpList_store_row (o := ⟨none, .store 26 (.tmp 2) _, _, _, _, _⟩) ?_ 26 (.tmp 2) (.tmp 22) ?_ w.heap.size (wcs y) ?_ ?_ 26 (wcs x) R2'.out (wc_info _) (by rw [wc_size, wc_size]) (wc_one _) ?_); (rfl); (rfl); (rfl); (rfl)))
      go_roundw
      case rel =>
        refine ⟨k + 1, by omega, by go_num, below_setRow b2.out (by omega) _, ?_, R3.out.setRowFar (by omega)⟩
        rw [HY.out]
        exact R2.out.setRow
      case measure => simp [intOf]; omega
    · have hkn' : k = n.toNat ∨ n < 0 := by omega
      have hkk : Hid (k = n.toNat) := by show _ = _; omega
      clear hkn'
      rw [hkk.out] at r0
      have R0 : Hid (wr.heap[w.heap.size]? = some (.cells (wcs (aUp a n.toNat)) 26 (0, 0))) := r0
      have R1 : Hid (wr.heap[w.heap.size + 1]? = some (.cells (wcs 0) 26 (0, 0))) := r1
      clear r0 r1 hrows HS HK
      generalize hE : wcs (aUp a n.toNat) = cs at *
      have HE := Lib.hid hE
      have hsz : Hid (cs.size = 4) := by show _ = _; rw [← hE]; exact wc_size _
      have ho : Hid (cs.all (·.oneCell') = true) := by show _ = _; rw [← hE]; exact wc_one _
      clear hE
      go_wp2_with (first
        | ((with_reducible refine wpList_load_row (o := ⟨some 23, _, _, _, _, _⟩) ?_ 26 (.tmp 2) ?_ w.heap.size ?_ 26 cs (0, 0) _ R0.out Tryd.underlying26 ?_ (infoW cs hsz.out) ?_); (rfl); (rfl); (rfl); (rfl))
        | ((with_reducible refine wpList_store_row (o := ⟨none, .store 26 (.tmp 4) _, _, _, _, _⟩) ?_ 26 (.tmp 4) (.tmp 23) ?_ (w.heap.size + 1) cs ?_ ?_ 26 (wcs 0) R1.out (infoW cs hsz.out) (by rw [hsz.out, wc_size]) ho.out ?_); (rfl); (rfl); (rfl); (rfl))
        | ((with_reducible refine bodyPost_ret (v := .agg cs) ?_ ?_ ?_); (exact results_cell_row (p := 4) (ty := 26) Tryd.results62 _ _ (w.heap.size + 1) 26 cs (0, 0) _ rfl (setRow_heap _ _ (wcs 0) cs 26 (0, 0) R1.out) Tryd.underlying26 rfl (infoW cs hsz.out)); (rfl)))
      exact ⟨by rw [HE.out], below_setRow hbl (by omega) _⟩
theorem rup_far (a : Nat) (n : Int) (w : World) (hn : 256 ≤ n) :
    Calls Tryd.prog 62 #[.agg (wcs a), .int .i64 n] w fun e w' => e = .returned (.agg (wcs 0)) ∧ Below w.heap.size w w' := by
  generalize hA : wcs a = ca
  clear hA
  go_enter Tryd.func62, Tryd.ntmps62
  go_wp2
  go_returns
  exact ⟨rfl, by go_grown⟩
set_option maxHeartbeats 4000000 in
theorem rdown_any (a : Nat) (n : Int) (w : World) (ha : a < Big) (hn : n < 256) :
    Calls Tryd.prog 65 #[.agg (wcs a), .int .i64 n] w fun e w' => e = .returned (.agg (wcs (aDown a n.toNat))) ∧ Below w.heap.size w w' := by
  have HA := Lib.hid ha
  have hn' : ¬ (256 ≤ n) := by omega
  clear ha
  go_enter Tryd.func65, Tryd.ntmps65
  go_wp2_with fail
  go_loopw [5] (fun i u => ∃ k : Nat, k ≤ n.toNat ∧ i = .int .i64 k ∧ Below w.heap.size w u ∧ Hid (Row u w.heap.size 26 (wcs (aDown a k)) ∧ Row u (w.heap.size + 1) 26 (wcs 0))) (fun i _ => n.toNat - (intOf i).toNat)
  case atStart =>
    refine ⟨0, by omega, rfl, by go_grown, ?_, Row.newAt (by simp) 26 _⟩
    rw [aDown_zero a HA.out]
    exact (Row.new w 26 _).alloc _
  case round =>
    obtain ⟨k, hk, rfl, hbl, hrows⟩ := hrel
    obtain ⟨r0, r1⟩ := hrows.out
    have hlt := Lib.hid r1.lt
    have HK := Lib.hid (aDown_lt a k HA.out)
    have HS := Lib.hid (aDown_step a k)
    by_cases hkn : (k : Int) < n
    · have hkn' : k < n.toNat := by omega
      have R0 : Hid (wr.heap[w.heap.size]? = some (.cells (wcs (aDown a k)) 26 (0, 0))) := r0
      have R1 := Lib.hid r1
      clear r0 r1 hrows
      generalize aDown a k = x at *
      go_wp2_with ((with_reducible refine wpList_load_row (o := ⟨some 14, _, _, _, _, _⟩) ?_ 26 (.tmp 2) ?_ w.heap.size ?_ 26 (wcs x) (0, 0) _ R0.out Tryd.underlying26 ?_ (wc_info _) ?_); (rfl); (rfl); (rfl); (rfl))
      refine (rhalf_any x wr HK.out).mono ?_
      rintro e w2 ⟨rfl, hb⟩
      rw [HS.out]
      have hl9 := hlt.out
      have R2 : Hid (Row w2 w.heap.size 26 (wcs x)) := Row.below R0.out hb (by omega)
      have R3 : Hid (Row w2 (w.heap.size + 1) 26 (wcs 0)) := R1.out.below hb hlt.out
      have b2 : Hid (Below w.heap.size w w2) := hbl.trans (hb.mono hbl.size)
      clear hb R0 R1
      generalize hy : aDown a (k + 1) = y at *
      have HY := Lib.hid hy
      clear hy
      have R2' : Hid (w2.heap[w.heap.size]? = some (.cells (wcs x) 26 (0, 0))) := R2
      go_wp2_with ((with_reducible refine wpList_store_row (o := ⟨none, .store 26 (.tmp 2) _, _, _, _, _⟩) ?_ 26 (.tmp 2) (.tmp 15) ?_ w.heap.size (wcs y) ?_ ?_ 26 (wcs x) R2'.out (wc_info _) (by rw [wc_size, wc_size]) (wc_one _) ?_); (rfl); (rfl); (rfl); (rfl))
      go_roundw
      case rel =>
        refine ⟨k + 1, by omega, by go_num, below_setRow b2.out (by omega) _, ?_, R3.out.setRowFar (by omega)⟩
        rw [HY.out]
        exact R2.out.setRow
      case measure => simp [intOf]; omega
    · have hkn' : k = n.toNat ∨ n < 0 := by omega
      have hkk : Hid (k = n.toNat) := by show _ = _; omega
      clear hkn'
      rw [hkk.out] at r0
      have R0 : Hid (wr.heap[w.heap.size]? = some (.cells (wcs (aDown a n.toNat)) 26 (0, 0))) := r0
      have R1 : Hid (wr.heap[w.heap.size + 1]? = some (.cells (wcs 0) 26 (0, 0))) := r1
      clear r0 r1 hrows HS HK
      generalize hE : wcs (aDown a n.toNat) = cs at *
      have HE := Lib.hid hE
      have hsz : Hid (cs.size = 4) := by show _ = _; rw [← hE]; exact wc_size _
      have ho : Hid (cs.all (·.oneCell') = true) := by show _ = _; rw [← hE]; exact wc_one _
      clear hE
      go_wp2_with (first
        | ((with_reducible refine wpList_load_row (o := ⟨some 16, _, _, _, _, _⟩) ?_ 26 (.tmp 2) ?_ w.heap.size ?_ 26 cs (0, 0) _ R0.out Tryd.underlying26 ?_ (infoW cs hsz.out) ?_); (rfl); (rfl); (rfl); (rfl))
        | ((with_reducible refine wpList_store_row (o := ⟨none, .store 26 (.tmp 4) _, _, _, _, _⟩) ?_ 26 (.tmp 4) (.tmp 16) ?_ (w.heap.size + 1) cs ?_ ?_ 26 (wcs 0) R1.out (infoW cs hsz.out) (by rw [hsz.out, wc_size]) ho.out ?_); (rfl); (rfl); (rfl); (rfl))
        | ((with_reducible refine bodyPost_ret (v := .agg cs) ?_ ?_ ?_); (exact results_cell_row (p := 4) (ty := 26) Tryd.results65 _ _ (w.heap.size + 1) 26 cs (0, 0) _ rfl (setRow_heap _ _ (wcs 0) cs 26 (0, 0) R1.out) Tryd.underlying26 rfl (infoW cs hsz.out)); (rfl)))
      exact ⟨by rw [HE.out], below_setRow hbl (by omega) _⟩
theorem rdown_far (a : Nat) (n : Int) (w : World) (hn : 256 ≤ n) :
    Calls Tryd.prog 65 #[.agg (wcs a), .int .i64 n] w fun e w' => e = .returned (.agg (wcs 0)) ∧ Below w.heap.size w w' := by
  generalize hA : wcs a = ca
  clear hA
  go_enter Tryd.func65, Tryd.ntmps65
  go_wp2
  go_returns
  exact ⟨rfl, by go_grown⟩
end Go.Proofs.YtmpjgfecnnefeaaDoor

namespace Go.Proofs.YtmpjgfecnnefeaaDoor
set_option maxRecDepth 8000
open Go.RowKit

def downV (a : Nat) (n : Int) : Nat := if 256 ≤ n then 0 else aDown a n.toNat
theorem rup_v (a : Nat) (n : Int) (w : World) (ha : a < Big) :
    Calls Tryd.prog 62 #[.agg (wcs a), .int .i64 n] w fun e w' => e = .returned (.agg (wcs (upV a n))) ∧ Below w.heap.size w w' := by
  unfold upV
  by_cases h1 : 256 ≤ n
  · rw [if_pos h1]; exact rup_far a n w h1
  · rw [if_neg h1]; exact rup_any a n w ha (by omega)
theorem rdown_v (a : Nat) (n : Int) (w : World) (ha : a < Big) :
    Calls Tryd.prog 65 #[.agg (wcs a), .int .i64 n] w fun e w' => e = .returned (.agg (wcs (downV a n))) ∧ Below w.heap.size w w' := by
  unfold downV
  by_cases h1 : 256 ≤ n
  · rw [if_pos h1]; exact rdown_far a n w h1
  · rw [if_neg h1]; exact rdown_any a n w ha (by omega)
end Go.Proofs.YtmpjgfecnnefeaaDoor

namespace Go.Proofs.YtmpjgfecnnefeaaDoor
set_option maxRecDepth 8000

theorem wk_ref {t : Nat} (h : t + 1 < Big) : (if (Big - 1) % (t + 1) + 1 = t + 1 then ((Big - 1) / (t + 1) + 1) % Big else (Big - 1) / (t + 1)) = wkV t := by
  unfold wkV
  rw [if_pos h]
  have hB : Big = (Big - 1) + 1 := by have := Big_pos; omega
  have h1 := Nat.div_add_mod (Big - 1) (t + 1)
  have h2 := Nat.mod_lt (Big - 1) (show 0 < t + 1 by omega)
  generalize hq : (Big - 1) / (t + 1) = q at *
  generalize hr : (Big - 1) % (t + 1) = r at *
  by_cases hx : r + 1 = t + 1
  · rw [if_pos hx]
    have : Big / (t + 1) = q + 1 := by
      rw [show Big = (t + 1) * (q + 1) by rw [Nat.mul_add]; omega]
      exact Nat.mul_div_cancel_left _ (by omega)
    rw [this]
  · rw [if_neg hx]
    have : Big / (t + 1) = q := by
      rw [show Big = (t + 1) * q + (r + 1) by omega, Nat.mul_add_div (by omega)]
      rw [Nat.div_eq_of_lt (by omega)]
      rfl
    rw [this]
    by_cases ht : t = 0
    · subst ht; omega
    · have h3 : q < Big := by
        have : q * 1 ≤ (t + 1) * q := by rw [Nat.mul_comm (t + 1)]; exact Nat.mul_le_mul_left _ (by omega)
        omega
      rw [Nat.mod_eq_of_lt h3]
end Go.Proofs.YtmpjgfecnnefeaaDoor

namespace Go.Proofs.YtmpjgfecnnefeaaDoor
set_option maxRecDepth 8000
open Go.RowKit

set_option maxHeartbeats 4000000 in
theorem rtarget_no (b E M : Nat) (w : World) (hE : (b : Int) / 16777216 = (E : Int)) (hM : (b : Int) % 16777216 = (M : Int)) (hb : b < 4294967296) (h : ¬ (3 ≤ E ∧ E ≤ 32 ∧ 32768 ≤ M ∧ M ≤ 8388607)) :
    Calls Tryd.prog 44 #[.int .u32 b] w fun e w' => e = .returned (.tuple #[.agg (wcs 0), .bool false]) ∧ Below w.heap.size w w' := by
  go_enter Tryd.func44, Tryd.ntmps44
  by_cases h1 : (3 : Int) ≤ (E : Int)
  · by_cases h2 : (E : Int) ≤ 32
    · by_cases h3 : (32768 : Int) ≤ (M : Int)
      · have h4 : ¬ (M : Int) ≤ 8388607 := by omega
        go_wp2
        go_returns
        exact ⟨rfl, by go_grown⟩
      · go_wp2
        go_returns
        exact ⟨rfl, by go_grown⟩
    · go_wp2
      go_returns
      exact ⟨rfl, by go_grown⟩
  · go_wp2
    go_returns
    exact ⟨rfl, by go_grown⟩
set_option maxHeartbeats 4000000 in
theorem rtarget_yes (b E M : Nat) (w : World) (hE : (b : Int) / 16777216 = (E : Int)) (hM : (b : Int) % 16777216 = (M : Int)) (hb : b < 4294967296) (h1 : 3 ≤ E) (h2 : E ≤ 32) (h3 : 32768 ≤ M) (h4 : M ≤ 8388607) :
    Calls Tryd.prog 44 #[.int .u32 b] w fun e w' => e = .returned (.tuple #[.agg (wcs (M * 2 ^ (8 * (E - 3)) % Big)), .bool true]) ∧ Below w.heap.size w w' := by
  have HU : Hid (∀ u, Calls Tryd.prog 62 #[.agg (wcs M), .int .i64 (8 * ((E : Int) - 3))] u fun e w' => e = .returned (.agg (wcs (M * 2 ^ (8 * (E - 3)) % Big))) ∧ Below u.heap.size u w') := fun u => by
    have h9 := rup_v M (8 * ((E : Int) - 3)) u (small_big (by omega)) 
    have e9 : upV M (8 * ((E : Int) - 3)) = M * 2 ^ (8 * (E - 3)) % Big := by
      unfold upV aUp
      rw [if_neg (by omega), show (8 * ((E : Int) - 3)).toNat = 8 * (E - 3) by omega]
    rw [e9] at h9
    exact h9
  generalize M * 2 ^ (8 * (E - 3)) % Big = N at *
  have z0 : Hid (Row (w.alloc (.cells #[.int .u64 0, .int .u64 0, .int .u64 0, .int .u64 0] 26)) w.heap.size 26 #[.int .u64 0, .int .u64 0, .int .u64 0, .int .u64 0]) := Row.new w 26 _
  have B0 : Hid (Below w.heap.size w (w.alloc (.cells #[.int .u64 0, .int .u64 0, .int .u64 0, .int .u64 0] 26))) := (Below.refl _ _).alloc (Nat.le_refl _) _
  go_enter Tryd.func44, Tryd.ntmps44
  go_wp2_with fail
  generalize w.alloc (.cells #[.int .u64 0, .int .u64 0, .int .u64 0, .int .u64 0] 26) = w0 at *
  refine (rof_n M w0 (by omega)).mono ?_
  rintro e w1 ⟨rfl, hb1⟩
  have z1 := Lib.hid (z0.out.below hb1 z0.out.lt)
  have B1 := Lib.hid (B0.out.trans (hb1.mono B0.out.size))
  clear z0 B0 hb1
  go_wp2_with fail
  refine (HU.out w1).mono ?_
  rintro e w2 ⟨rfl, hb2⟩
  have z2 : Hid (w2.heap[w.heap.size]? = some (.cells #[.int .u64 0, .int .u64 0, .int .u64 0, .int .u64 0] 26 (0, 0))) := z1.out.below hb2 z1.out.lt
  have B2 := Lib.hid (B1.out.trans (hb2.mono B1.out.size))
  have hsz := Lib.hid (wc_size N)
  have ho := Lib.hid (wc_one N)
  clear z1 B1 hb2 HU
  generalize hc : wcs N = cs at *
  have HC := Lib.hid hc
  clear hc
  go_wp2_with (first
    | ((with_reducible refine wpList_store_row (o := ⟨none, .store 26 _ _, _, _, _, _⟩) ?_ 26 (.tmp 2) (.tmp 32) ?_ w.heap.size cs ?_ ?_ 26 _ z2.out (infoW cs hsz.out) ?_ ho.out ?_); (rfl); (rfl); (rfl); (rfl); (rw [hsz.out]; rfl))
    | ((with_reducible refine bodyPost_ret (v := .tuple #[.agg cs, .bool true]) ?_ ?_ ?_); (exact results_row_slot (p := 2) (q := 3) (ty := 26) Tryd.results44 _ _ w.heap.size 26 cs (0, 0) _ rfl _ rfl (setRow_heap _ _ _ cs 26 (0, 0) z2.out) Tryd.underlying26 rfl (infoW cs hsz.out)); (rfl)))
  exact ⟨by rw [HC.out], below_setRow B2.out (Nat.le_refl _) _⟩
theorem rtarget_any (b : Nat) (w : World) (hb : b < 4294967296) :
    Calls Tryd.prog 44 #[.int .u32 b] w fun e w' => e = .returned (.tuple #[.agg (wcs (tv b)), .bool (isC b)]) ∧ Below w.heap.size w w' := by
  by_cases h : 3 ≤ b / 16777216 ∧ b / 16777216 ≤ 32 ∧ 32768 ≤ b % 16777216 ∧ b % 16777216 ≤ 8388607
  · have h9 := rtarget_yes b (b / 16777216) (b % 16777216) w (by omega) (by omega) hb h.1 h.2.1 h.2.2.1 h.2.2.2
    rw [Nat.mod_eq_of_lt (tv_lt b h)] at h9
    have e1 : isC b = true := decide_eq_true h
    have e2 : tv b = b % 16777216 * 2 ^ (8 * (b / 16777216 - 3)) := by unfold tv; rw [if_pos e1]
    rw [e1, e2]
    exact h9
  · have h9 := rtarget_no b (b / 16777216) (b % 16777216) w (by omega) (by omega) hb h
    have e1 : isC b = false := decide_eq_false h
    have e2 : tv b = 0 := by unfold tv; rw [e1]; rfl
    rw [e1, e2]
    exact h9
end Go.Proofs.YtmpjgfecnnefeaaDoor

namespace Go.Proofs.YtmpjgfecnnefeaaDoor
set_option maxRecDepth 8000
open Go.RowKit

theorem eql_op {m n : Nat} (hm : m < Big) (hn : n < Big) {b : Bool} (hb : eqN m n = b) {a : Act} {dst : Option Tmp} {x y : Operand} {ty : TypeId} {pos : String} {after : Array Edge} {gd : Option (Nat × Bool)} (hx : a.eval x = .agg (wcs m)) (hy : a.eval y = .agg (wcs n)) (u : World) :
    (execOp a.eval ⟨dst, .binOp .eql 26 x y 26, ty, pos, after, gd⟩).run Tryd.prog u = .ok (.value (.bool b)) u := by
  have h : (Op.equalIn 10000 26 (.agg (wcs m)) (.agg (wcs n))).run Tryd.prog u = .ok (eqN m n) u := run_equal_wide m n hm hn u
  rw [hb] at h
  unfold execOp
  simp only [hx, hy]
  generalize wcs m = cm at *
  generalize wcs n = cn at *
  go_simp
end Go.Proofs.YtmpjgfecnnefeaaDoor

namespace Go.Proofs.YtmpjgfecnnefeaaDoor
set_option maxRecDepth 8000
open Go.RowKit

theorem radd_yes (m n s : Nat) (u : World) (hs : s = m + n) (h : s < Big) :
    Calls Tryd.prog 66 #[.agg (wcs m), .agg (wcs n)] u fun e w' => e = .returned (.tuple #[.agg (wcs s), .bool true]) ∧ Below u.heap.size u w' := by
  subst hs
  have h1 := radd_any m n u (by omega) (by omega)
  have e1 : decide (m + n < Big) = true := by simp only [h, decide_true]
  rw [Nat.mod_eq_of_lt h, e1] at h1
  exact h1
theorem radd_no (m n s : Nat) (u : World) (hm : m < Big) (hn : n < Big) (hs : s = m + n - Big) (h : Big ≤ m + n) :
    Calls Tryd.prog 66 #[.agg (wcs m), .agg (wcs n)] u fun e w' => e = .returned (.tuple #[.agg (wcs s), .bool false]) ∧ Below u.heap.size u w' := by
  rw [hs]
  have h1 := radd_any m n u hm hn
  have e1 : decide (m + n < Big) = false := by simp only [show ¬ m + n < Big by omega, decide_false]
  rw [e1, show (m + n) % Big = m + n - Big by rw [Nat.mod_eq_sub_mod h]; exact Nat.mod_eq_of_lt (by omega)] at h1
  exact h1
theorem wcs_all : wcs (Big - 1) = #[.int .u64 18446744073709551615, .int .u64 18446744073709551615, .int .u64 18446744073709551615, .int .u64 18446744073709551615] := by
  have h : ∀ i, i < 4 → W (Big - 1) i = 18446744073709551615 := by decide +kernel
  rw [wc_cells, h 0 (by decide), h 1 (by decide), h 2 (by decide), h 3 (by decide)]
  rfl
theorem build_all {dst : Option Tmp} {ty : TypeId} {pos : String} {after : Array Edge} {gd : Option (Nat × Bool)} {a : Act} (u : World) :
    (execOp a.eval ⟨dst, .build 26 #[(0, .const (.int .u64 18446744073709551615)), (1, .const (.int .u64 18446744073709551615)), (2, .const (.int .u64 18446744073709551615)), (3, .const (.int .u64 18446744073709551615))], ty, pos, after, gd⟩).run Tryd.prog u = .ok (.value (.agg (wcs (Big - 1)))) u := by
  rw [wcs_all]
  go_simp

set_option maxRecDepth 100000 in
set_option maxHeartbeats 4000000 in
theorem rwork_no (t : Nat) (w : World) (ht : t + 1 = Big) :
    Calls Tryd.prog 46 #[.agg (wcs t)] w fun e w' => e = .returned (.agg (wcs 1)) ∧ Below w.heap.size w w' := by
  have H1 := Lib.hid Big_gt
  have E1 : Hid (EnvX w ((w.alloc (.cells (wcs t) 26)).alloc (.cells #[.int .u64 0, .int .u64 0, .int .u64 0, .int .u64 0] 26)) [(w.heap.size + 1, wo 0), (w.heap.size, wo t)]) := (EnvX.start w).two (wo t) (wo 0)
  have hb1 : w.heap.size ≤ w.heap.size := Nat.le_refl _
  have hb2 : w.heap.size ≤ w.heap.size + 1 := Nat.le_succ _
  have n21 : Hid (w.heap.size + 1 ≠ w.heap.size) := by show _ ≠ _; omega
  go_enter Tryd.func46, Tryd.ntmps46
  go_upto_region 1 with (fail)
  generalize (w.alloc (.cells (wcs t) 26)).alloc (.cells #[.int .u64 0, .int .u64 0, .int .u64 0, .int .u64 0] 26) = w1 at *
  refine wp_region_Gx (w0 := w) [0] [1, 2] [(w.heap.size + 1, (wo (0))), (w.heap.size, (wo (t)))] rfl E1.out ?_
  have hone := @EnvC.one _ _ _ (E1.out)
  (refine wpG_val (v := .agg (wcs (Big - 1))) rfl rfl (fun u _ => build_all u) ?_ (E1.out); intro K hK; go_big_quiet_op; go_big_quiet_on)
  clear hone
  refine wpG_nil ?_
  (refine (gOp_new (wo (0)) rfl (new_wide _) ?_); intro g1 hbg1 hfg1; intro K' hK'; go_big_quiet_op; go_big_quiet_on)
  have ng1x0 : Hid (w.heap.size + 1 ≠ g1) := hfg1 (w.heap.size + 1, _) (List.Mem.head _)
  have ng1x1 : Hid (w.heap.size ≠ g1) := hfg1 (w.heap.size, _) (List.Mem.tail _ (List.Mem.head _))
  clear hfg1
  refine (gOp_store rfl (g1) (wcs (Big - 1)) rfl rfl hbg1 26 (wcs (0)) (List.Mem.head _) (wc_info _) ((wc_size _).trans (wc_size _).symm) (wc_one _) [(g1, (wo (Big - 1))), (w.heap.size + 1, (wo (0))), (w.heap.size, (wo (t)))] (List.forall_mem_cons.2 ⟨.inl rfl, (List.forall_mem_cons.2 ⟨.inr ⟨(List.Mem.tail _ (List.Mem.head _)), ng1x0.out⟩, (List.forall_mem_cons.2 ⟨.inr ⟨(List.Mem.tail _ (List.Mem.tail _ (List.Mem.head _))), ng1x1.out⟩, (fun _ h => by cases h)⟩)⟩)⟩) ?_)
  rintro u3 ⟨hl2, E2'⟩
  have E2 := Lib.hid E2'
  clear hl2 E2' E1
  go_upto_region 2 with (fail)
  refine wp_region_G (w0 := w) [0, 1, 2, 3, 4, 5] [(g1, (wo (Big - 1))), (w.heap.size + 1, (wo (0))), (w.heap.size, (wo (t)))] 3 (by kernel_rfl) (by kernel_rfl) rfl E2.out ?_
  have hone := @EnvC.one _ _ _ (E2.out.drew)
  (refine wpG_load rfl rfl (w.heap.size) rfl 26 _ _ (fun u hu => EnvC.box hu _ (wo (t)) (List.Mem.tail _ (List.Mem.tail _ (List.Mem.head _)))) Tryd.underlying26 rfl (wc_info _) ?_ (E2.out.drew); intro K hK; go_big_quiet_op; go_big_quiet_on)
  (refine wpG_call (f := 63) (args := #[.int .u64 (1 : Nat)]) (v := .agg (wcs (1))) rfl rfl rfl Tryd.func63 rfl rfl (fun u _ => rof_n 1 u (by decide)) ?_ (E2.out.drew); intro K hK; go_big_quiet_op; go_big_quiet_on)
  (refine wpG_call (f := 66) (args := #[.agg (wcs (t)), .agg (wcs (1))]) (v := .tuple #[.agg (wcs (0)), .bool (false)]) rfl rfl rfl Tryd.func66 rfl rfl (fun u _ => radd_no t 1 0 u (by omega) (by have := H1.out; omega) (by omega) (by omega)) ?_ (E2.out.drew); intro K hK; go_big_quiet_op; go_big_quiet_on)
  (refine wpG_op rfl rfl rfl ?_; intro K hK; go_big_quiet_op; go_big_quiet_on)
  (refine wpG_op rfl rfl rfl ?_; intro K hK; go_big_quiet_op; go_big_quiet_on)
  (refine wpG_op rfl rfl rfl ?_; intro K hK; go_big_quiet_op; go_big_quiet_on)
  clear hone
  refine wpG_nil ?_
  (refine anyG_one (i := 6) (by kernel_rfl) (gOp_new (wo (0)) rfl (new_wide _) ?_); intro g4 hbg4 hfg4; intro K' hK'; go_big_quiet_op; go_big_quiet_on)
  have ng4x0 : Hid (g1 ≠ g4) := hfg4 (g1, _) (List.Mem.head _)
  have ng4x1 : Hid (w.heap.size + 1 ≠ g4) := hfg4 (w.heap.size + 1, _) (List.Mem.tail _ (List.Mem.head _))
  have ng4x2 : Hid (w.heap.size ≠ g4) := hfg4 (w.heap.size, _) (List.Mem.tail _ (List.Mem.tail _ (List.Mem.head _)))
  clear hfg4
  refine anyG_one (i := 7) (by kernel_rfl) (gOp_store rfl (g4) (wcs (0)) rfl rfl hbg4 26 (wcs (0)) (List.Mem.head _) (wc_info _) ((wc_size _).trans (wc_size _).symm) (wc_one _) [(g4, (wo (0))), (g1, (wo (Big - 1))), (w.heap.size + 1, (wo (0))), (w.heap.size, (wo (t)))] (List.forall_mem_cons.2 ⟨.inl rfl, (List.forall_mem_cons.2 ⟨.inr ⟨(List.Mem.tail _ (List.Mem.head _)), ng4x0.out⟩, (List.forall_mem_cons.2 ⟨.inr ⟨(List.Mem.tail _ (List.Mem.tail _ (List.Mem.head _))), ng4x1.out⟩, (List.forall_mem_cons.2 ⟨.inr ⟨(List.Mem.tail _ (List.Mem.tail _ (List.Mem.tail _ (List.Mem.head _)))), ng4x2.out⟩, (fun _ h => by cases h)⟩)⟩)⟩)⟩) ?_)
  (refine anyG_one (i := 8) (by kernel_rfl) (gOp_pure rfl rfl ?_); intro K' hK'; go_big_quiet_op; go_big_quiet_on)
  refine anyG_done (by kernel_rfl) ?_
  rintro u6 ⟨hl2, E2'⟩
  have E5 := Lib.hid E2'
  clear hl2 E2' E2
  go_upto_region 4 with (fail)
  refine wp_region_Gx (w0 := w) [0] [1] [(g4, (wo (0))), (g1, (wo (Big - 1))), (w.heap.size + 1, (wo (0))), (w.heap.size, (wo (t)))] rfl E5.out ?_
  have hone := @EnvC.one _ _ _ (E5.out)
  (refine wpG_call (f := 63) (args := #[.int .u64 (1 : Nat)]) (v := .agg (wcs (1))) rfl rfl rfl Tryd.func63 rfl rfl (fun u _ => rof_n 1 u (by decide)) ?_ (E5.out); intro K hK; go_big_quiet_op; go_big_quiet_on)
  clear hone
  refine wpG_nil ?_
  refine (gOp_store rfl (w.heap.size + 1) (wcs (1)) rfl rfl hb2 26 (wcs (0)) (List.Mem.tail _ (List.Mem.tail _ (List.Mem.head _))) (wc_info _) ((wc_size _).trans (wc_size _).symm) (wc_one _) [(w.heap.size + 1, (wo (1))), (g4, (wo (0))), (g1, (wo (Big - 1))), (w.heap.size, (wo (t)))] (List.forall_mem_cons.2 ⟨.inl rfl, (List.forall_mem_cons.2 ⟨.inr ⟨(List.Mem.head _), (Ne.symm ng4x1.out)⟩, (List.forall_mem_cons.2 ⟨.inr ⟨(List.Mem.tail _ (List.Mem.head _)), (Ne.symm ng1x0.out)⟩, (List.forall_mem_cons.2 ⟨.inr ⟨(List.Mem.tail _ (List.Mem.tail _ (List.Mem.tail _ (List.Mem.head _)))), (Ne.symm n21.out)⟩, (fun _ h => by cases h)⟩)⟩)⟩)⟩) ?_)
  rintro u8 ⟨hl2, E2'⟩
  have E7 := Lib.hid E2'
  clear hl2 E2' E5
  go_wp2_with ((with_reducible refine bodyPost_ret (v := .agg (wcs (1))) ?_ ?_ ?_); (exact results_cell_row (p := 2) (ty := 26) Tryd.results46 _ _ (w.heap.size + 1) 26 (wcs (1)) (0, 0) _ rfl (E7.out.box _ (wo (1)) (List.Mem.head _)) Tryd.underlying26 rfl (wc_info _)); (rfl))
  exact E7.out.bel

set_option maxRecDepth 100000 in
set_option maxHeartbeats 4000000 in
theorem rwork_not (t : Nat) (w : World) (n q r m : Nat) (hn : Hid (n = t + 1)) (hnB : Hid (n < Big)) (hn0 : Hid (0 < n)) (hq : Hid ((Big - 1) / n = q)) (hr : Hid ((Big - 1) % n = r)) (hm : Hid (m = r + 1)) (hmB : Hid (m < Big)) (heq : Hid (eqN m n = false)) :
    Calls Tryd.prog 46 #[.agg (wcs t)] w fun e w' => e = .returned (.agg (wcs q)) ∧ Below w.heap.size w w' := by
  have H1 := Lib.hid Big_gt
  have E1 : Hid (EnvX w ((w.alloc (.cells (wcs t) 26)).alloc (.cells #[.int .u64 0, .int .u64 0, .int .u64 0, .int .u64 0] 26)) [(w.heap.size + 1, wo 0), (w.heap.size, wo t)]) := (EnvX.start w).two (wo t) (wo 0)
  have hb1 : w.heap.size ≤ w.heap.size := Nat.le_refl _
  have hb2 : w.heap.size ≤ w.heap.size + 1 := Nat.le_succ _
  have n21 : Hid (w.heap.size + 1 ≠ w.heap.size) := by show _ ≠ _; omega
  go_enter Tryd.func46, Tryd.ntmps46
  go_upto_region 1 with (fail)
  generalize (w.alloc (.cells (wcs t) 26)).alloc (.cells #[.int .u64 0, .int .u64 0, .int .u64 0, .int .u64 0] 26) = w1 at *
  refine wp_region_Gx (w0 := w) [0] [1, 2] [(w.heap.size + 1, (wo (0))), (w.heap.size, (wo (t)))] rfl E1.out ?_
  have hone := @EnvC.one _ _ _ (E1.out)
  (refine wpG_val (v := .agg (wcs (Big - 1))) rfl rfl (fun u _ => build_all u) ?_ (E1.out); intro K hK; go_big_quiet_op; go_big_quiet_on)
  clear hone
  refine wpG_nil ?_
  (refine (gOp_new (wo (0)) rfl (new_wide _) ?_); intro g1 hbg1 hfg1; intro K' hK'; go_big_quiet_op; go_big_quiet_on)
  have ng1x0 : Hid (w.heap.size + 1 ≠ g1) := hfg1 (w.heap.size + 1, _) (List.Mem.head _)
  have ng1x1 : Hid (w.heap.size ≠ g1) := hfg1 (w.heap.size, _) (List.Mem.tail _ (List.Mem.head _))
  clear hfg1
  refine (gOp_store rfl (g1) (wcs (Big - 1)) rfl rfl hbg1 26 (wcs (0)) (List.Mem.head _) (wc_info _) ((wc_size _).trans (wc_size _).symm) (wc_one _) [(g1, (wo (Big - 1))), (w.heap.size + 1, (wo (0))), (w.heap.size, (wo (t)))] (List.forall_mem_cons.2 ⟨.inl rfl, (List.forall_mem_cons.2 ⟨.inr ⟨(List.Mem.tail _ (List.Mem.head _)), ng1x0.out⟩, (List.forall_mem_cons.2 ⟨.inr ⟨(List.Mem.tail _ (List.Mem.tail _ (List.Mem.head _))), ng1x1.out⟩, (fun _ h => by cases h)⟩)⟩)⟩) ?_)
  rintro u3 ⟨hl2, E2'⟩
  have E2 := Lib.hid E2'
  clear hl2 E2' E1
  go_upto_region 2 with (fail)
  refine wp_region_G (w0 := w) [0, 1, 2, 3, 4, 5] [(g1, (wo (Big - 1))), (w.heap.size + 1, (wo (0))), (w.heap.size, (wo (t)))] 3 (by kernel_rfl) (by kernel_rfl) rfl E2.out ?_
  have hone := @EnvC.one _ _ _ (E2.out.drew)
  (refine wpG_load rfl rfl (w.heap.size) rfl 26 _ _ (fun u hu => EnvC.box hu _ (wo (t)) (List.Mem.tail _ (List.Mem.tail _ (List.Mem.head _)))) Tryd.underlying26 rfl (wc_info _) ?_ (E2.out.drew); intro K hK; go_big_quiet_op; go_big_quiet_on)
  (refine wpG_call (f := 63) (args := #[.int .u64 (1 : Nat)]) (v := .agg (wcs (1))) rfl rfl rfl Tryd.func63 rfl rfl (fun u _ => rof_n 1 u (by decide)) ?_ (E2.out.drew); intro K hK; go_big_quiet_op; go_big_quiet_on)
  (refine wpG_call (f := 66) (args := #[.agg (wcs (t)), .agg (wcs (1))]) (v := .tuple #[.agg (wcs (n)), .bool (true)]) rfl rfl rfl Tryd.func66 rfl rfl (fun u _ => radd_yes t 1 n u hn.out (by have := hnB.out; omega)) ?_ (E2.out.drew); intro K hK; go_big_quiet_op; go_big_quiet_on)
  (refine wpG_op rfl rfl rfl ?_; intro K hK; go_big_quiet_op; go_big_quiet_on)
  (refine wpG_op rfl rfl rfl ?_; intro K hK; go_big_quiet_op; go_big_quiet_on)
  (refine wpG_op rfl rfl rfl ?_; intro K hK; go_big_quiet_op; go_big_quiet_on)
  clear hone
  refine wpG_nil ?_
  (refine anyG_one (i := 6) (by kernel_rfl) (gOp_new (wo (0)) rfl (new_wide _) ?_); intro g4 hbg4 hfg4; intro K' hK'; go_big_quiet_op; go_big_quiet_on)
  have ng4x0 : Hid (g1 ≠ g4) := hfg4 (g1, _) (List.Mem.head _)
  have ng4x1 : Hid (w.heap.size + 1 ≠ g4) := hfg4 (w.heap.size + 1, _) (List.Mem.tail _ (List.Mem.head _))
  have ng4x2 : Hid (w.heap.size ≠ g4) := hfg4 (w.heap.size, _) (List.Mem.tail _ (List.Mem.tail _ (List.Mem.head _)))
  clear hfg4
  refine anyG_one (i := 7) (by kernel_rfl) (gOp_store rfl (g4) (wcs (n)) rfl rfl hbg4 26 (wcs (0)) (List.Mem.head _) (wc_info _) ((wc_size _).trans (wc_size _).symm) (wc_one _) [(g4, (wo (n))), (g1, (wo (Big - 1))), (w.heap.size + 1, (wo (0))), (w.heap.size, (wo (t)))] (List.forall_mem_cons.2 ⟨.inl rfl, (List.forall_mem_cons.2 ⟨.inr ⟨(List.Mem.tail _ (List.Mem.head _)), ng4x0.out⟩, (List.forall_mem_cons.2 ⟨.inr ⟨(List.Mem.tail _ (List.Mem.tail _ (List.Mem.head _))), ng4x1.out⟩, (List.forall_mem_cons.2 ⟨.inr ⟨(List.Mem.tail _ (List.Mem.tail _ (List.Mem.tail _ (List.Mem.head _)))), ng4x2.out⟩, (fun _ h => by cases h)⟩)⟩)⟩)⟩) ?_)
  (refine anyG_one (i := 8) (by kernel_rfl) (gOp_pure rfl rfl ?_); intro K' hK'; go_big_quiet_op; go_big_quiet_on)
  refine anyG_done (by kernel_rfl) ?_
  rintro u6 ⟨hl2, E2'⟩
  have E5 := Lib.hid E2'
  clear hl2 E2' E2
  go_upto_region 5 with (fail)
  refine wp_region_Gx (w0 := w) [0, 1, 2, 3, 4, 5, 6] [7, 8, 9, 10, 11] [(g4, (wo (n))), (g1, (wo (Big - 1))), (w.heap.size + 1, (wo (0))), (w.heap.size, (wo (t)))] rfl E5.out ?_
  have hone := @EnvC.one _ _ _ (E5.out)
  (refine wpG_load rfl rfl (g1) rfl 26 _ _ (fun u hu => EnvC.box hu _ (wo (Big - 1)) (List.Mem.tail _ (List.Mem.head _))) Tryd.underlying26 rfl (wc_info _) ?_ (E5.out); intro K hK; go_big_quiet_op; go_big_quiet_on)
  (refine wpG_load rfl rfl (g4) rfl 26 _ _ (fun u hu => EnvC.box hu _ (wo (n)) (List.Mem.head _)) Tryd.underlying26 rfl (wc_info _) ?_ (E5.out); intro K hK; go_big_quiet_op; go_big_quiet_on)
  (refine wpG_call (f := 67) (args := #[.agg (wcs (Big - 1)), .agg (wcs (n))]) (v := .tuple #[.agg (wcs (q)), .agg (wcs (r)), .bool (true)]) rfl rfl rfl Tryd.func67 rfl rfl (fun u _ => by have h := rdiv_yes (Big - 1) n u (Nat.sub_lt Big_pos Nat.one_pos) hnB.out hn0.out; rw [hq.out, hr.out] at h; exact h) ?_ (E5.out); intro K hK; go_big_quiet_op; go_big_quiet_on)
  (refine wpG_op rfl rfl rfl ?_; intro K hK; go_big_quiet_op; go_big_quiet_on)
  (refine wpG_op rfl rfl rfl ?_; intro K hK; go_big_quiet_op; go_big_quiet_on)
  (refine wpG_op rfl rfl rfl ?_; intro K hK; go_big_quiet_op; go_big_quiet_on)
  (refine wpG_op rfl rfl rfl ?_; intro K hK; go_big_quiet_op; go_big_quiet_on)
  clear hone
  refine wpG_nil ?_
  (refine (gOp_new (wo (0)) rfl (new_wide _) ?_); intro g7 hbg7 hfg7; intro K' hK'; go_big_quiet_op; go_big_quiet_on)
  have ng7x0 : Hid (g4 ≠ g7) := hfg7 (g4, _) (List.Mem.head _)
  have ng7x1 : Hid (g1 ≠ g7) := hfg7 (g1, _) (List.Mem.tail _ (List.Mem.head _))
  have ng7x2 : Hid (w.heap.size + 1 ≠ g7) := hfg7 (w.heap.size + 1, _) (List.Mem.tail _ (List.Mem.tail _ (List.Mem.head _)))
  have ng7x3 : Hid (w.heap.size ≠ g7) := hfg7 (w.heap.size, _) (List.Mem.tail _ (List.Mem.tail _ (List.Mem.tail _ (List.Mem.head _))))
  clear hfg7
  (refine (gOp_new (wo (0)) rfl (new_wide _) ?_); intro g8 hbg8 hfg8; intro K' hK'; go_big_quiet_op; go_big_quiet_on)
  have ng8x4 : Hid (g7 ≠ g8) := hfg8 (g7, _) (List.Mem.head _)
  have ng8x5 : Hid (g4 ≠ g8) := hfg8 (g4, _) (List.Mem.tail _ (List.Mem.head _))
  have ng8x6 : Hid (g1 ≠ g8) := hfg8 (g1, _) (List.Mem.tail _ (List.Mem.tail _ (List.Mem.head _)))
  have ng8x7 : Hid (w.heap.size + 1 ≠ g8) := hfg8 (w.heap.size + 1, _) (List.Mem.tail _ (List.Mem.tail _ (List.Mem.tail _ (List.Mem.head _))))
  have ng8x8 : Hid (w.heap.size ≠ g8) := hfg8 (w.heap.size, _) (List.Mem.tail _ (List.Mem.tail _ (List.Mem.tail _ (List.Mem.tail _ (List.Mem.head _)))))
  clear hfg8
  refine (gOp_store rfl (g7) (wcs (q)) rfl rfl hbg7 26 (wcs (0)) (List.Mem.tail _ (List.Mem.head _)) (wc_info _) ((wc_size _).trans (wc_size _).symm) (wc_one _) [(g7, (wo (q))), (g8, (wo (0))), (g4, (wo (n))), (g1, (wo (Big - 1))), (w.heap.size + 1, (wo (0))), (w.heap.size, (wo (t)))] (List.forall_mem_cons.2 ⟨.inl rfl, (List.forall_mem_cons.2 ⟨.inr ⟨(List.Mem.head _), (Ne.symm ng8x4.out)⟩, (List.forall_mem_cons.2 ⟨.inr ⟨(List.Mem.tail _ (List.Mem.tail _ (List.Mem.head _))), ng7x0.out⟩, (List.forall_mem_cons.2 ⟨.inr ⟨(List.Mem.tail _ (List.Mem.tail _ (List.Mem.tail _ (List.Mem.head _)))), ng7x1.out⟩, (List.forall_mem_cons.2 ⟨.inr ⟨(List.Mem.tail _ (List.Mem.tail _ (List.Mem.tail _ (List.Mem.tail _ (List.Mem.head _))))), ng7x2.out⟩, (List.forall_mem_cons.2 ⟨.inr ⟨(List.Mem.tail _ (List.Mem.tail _ (List.Mem.tail _ (List.Mem.tail _ (List.Mem.tail _ (List.Mem.head _)))))), ng7x3.out⟩, (fun _ h => by cases h)⟩)⟩)⟩)⟩)⟩)⟩) ?_)
  refine (gOp_store rfl (g8) (wcs (r)) rfl rfl hbg8 26 (wcs (0)) (List.Mem.tail _ (List.Mem.head _)) (wc_info _) ((wc_size _).trans (wc_size _).symm) (wc_one _) [(g8, (wo (r))), (g7, (wo (q))), (g4, (wo (n))), (g1, (wo (Big - 1))), (w.heap.size + 1, (wo (0))), (w.heap.size, (wo (t)))] (List.forall_mem_cons.2 ⟨.inl rfl, (List.forall_mem_cons.2 ⟨.inr ⟨(List.Mem.head _), ng8x4.out⟩, (List.forall_mem_cons.2 ⟨.inr ⟨(List.Mem.tail _ (List.Mem.tail _ (List.Mem.head _))), ng8x5.out⟩, (List.forall_mem_cons.2 ⟨.inr ⟨(List.Mem.tail _ (List.Mem.tail _ (List.Mem.tail _ (List.Mem.head _)))), ng8x6.out⟩, (List.forall_mem_cons.2 ⟨.inr ⟨(List.Mem.tail _ (List.Mem.tail _ (List.Mem.tail _ (List.Mem.tail _ (List.Mem.head _))))), ng8x7.out⟩, (List.forall_mem_cons.2 ⟨.inr ⟨(List.Mem.tail _ (List.Mem.tail _ (List.Mem.tail _ (List.Mem.tail _ (List.Mem.tail _ (List.Mem.head _)))))), ng8x8.out⟩, (fun _ h => by cases h)⟩)⟩)⟩)⟩)⟩)⟩) ?_)
  (refine (gOp_pure rfl rfl ?_); intro K' hK'; go_big_quiet_op; go_big_quiet_on)
  rintro u10 ⟨hl2, E2'⟩
  have E9 := Lib.hid E2'
  clear hl2 E2' E5
  go_upto_region 6 with (fail)
  refine wp_region_G (w0 := w) [0, 1, 2, 3, 4, 5] [(g8, (wo (r))), (g7, (wo (q))), (g4, (wo (n))), (g1, (wo (Big - 1))), (w.heap.size + 1, (wo (0))), (w.heap.size, (wo (t)))] 3 (by kernel_rfl) (by kernel_rfl) rfl E9.out ?_
  have hone := @EnvC.one _ _ _ (E9.out.drew)
  (refine wpG_load rfl rfl (g8) rfl 26 _ _ (fun u hu => EnvC.box hu _ (wo (r)) (List.Mem.head _)) Tryd.underlying26 rfl (wc_info _) ?_ (E9.out.drew); intro K hK; go_big_quiet_op; go_big_quiet_on)
  (refine wpG_call (f := 63) (args := #[.int .u64 (1 : Nat)]) (v := .agg (wcs (1))) rfl rfl rfl Tryd.func63 rfl rfl (fun u _ => rof_n 1 u (by decide)) ?_ (E9.out.drew); intro K hK; go_big_quiet_op; go_big_quiet_on)
  (refine wpG_call (f := 66) (args := #[.agg (wcs (r)), .agg (wcs (1))]) (v := .tuple #[.agg (wcs (m)), .bool (true)]) rfl rfl rfl Tryd.func66 rfl rfl (fun u _ => radd_yes r 1 m u hm.out hmB.out) ?_ (E9.out.drew); intro K hK; go_big_quiet_op; go_big_quiet_on)
  (refine wpG_op rfl rfl rfl ?_; intro K hK; go_big_quiet_op; go_big_quiet_on)
  (refine wpG_op rfl rfl rfl ?_; intro K hK; go_big_quiet_op; go_big_quiet_on)
  (refine wpG_op rfl rfl rfl ?_; intro K hK; go_big_quiet_op; go_big_quiet_on)
  clear hone
  refine wpG_nil ?_
  (refine anyG_one (i := 6) (by kernel_rfl) (gOp_new (wo (0)) rfl (new_wide _) ?_); intro g11 hbg11 hfg11; intro K' hK'; go_big_quiet_op; go_big_quiet_on)
  have ng11x0 : Hid (g8 ≠ g11) := hfg11 (g8, _) (List.Mem.head _)
  have ng11x1 : Hid (g7 ≠ g11) := hfg11 (g7, _) (List.Mem.tail _ (List.Mem.head _))
  have ng11x2 : Hid (g4 ≠ g11) := hfg11 (g4, _) (List.Mem.tail _ (List.Mem.tail _ (List.Mem.head _)))
  have ng11x3 : Hid (g1 ≠ g11) := hfg11 (g1, _) (List.Mem.tail _ (List.Mem.tail _ (List.Mem.tail _ (List.Mem.head _))))
  have ng11x4 : Hid (w.heap.size + 1 ≠ g11) := hfg11 (w.heap.size + 1, _) (List.Mem.tail _ (List.Mem.tail _ (List.Mem.tail _ (List.Mem.tail _ (List.Mem.head _)))))
  have ng11x5 : Hid (w.heap.size ≠ g11) := hfg11 (w.heap.size, _) (List.Mem.tail _ (List.Mem.tail _ (List.Mem.tail _ (List.Mem.tail _ (List.Mem.tail _ (List.Mem.head _))))))
  clear hfg11
  refine anyG_one (i := 7) (by kernel_rfl) (gOp_store rfl (g11) (wcs (m)) rfl rfl hbg11 26 (wcs (0)) (List.Mem.head _) (wc_info _) ((wc_size _).trans (wc_size _).symm) (wc_one _) [(g11, (wo (m))), (g8, (wo (r))), (g7, (wo (q))), (g4, (wo (n))), (g1, (wo (Big - 1))), (w.heap.size + 1, (wo (0))), (w.heap.size, (wo (t)))] (List.forall_mem_cons.2 ⟨.inl rfl, (List.forall_mem_cons.2 ⟨.inr ⟨(List.Mem.tail _ (List.Mem.head _)), ng11x0.out⟩, (List.forall_mem_cons.2 ⟨.inr ⟨(List.Mem.tail _ (List.Mem.tail _ (List.Mem.head _))), ng11x1.out⟩, (List.forall_mem_cons.2 ⟨.inr ⟨(List.Mem.tail _ (List.Mem.tail _ (List.Mem.tail _ (List.Mem.head _)))), ng11x2.out⟩, (List.forall_mem_cons.2 ⟨.inr ⟨(List.Mem.tail _ (List.Mem.tail _ (List.Mem.tail _ (List.Mem.tail _ (List.Mem.head _))))), ng11x3.out⟩, (List.forall_mem_cons.2 ⟨.inr ⟨(List.Mem.tail _ (List.Mem.tail _ (List.Mem.tail _ (List.Mem.tail _ (List.Mem.tail _ (List.Mem.head _)))))), ng11x4.out⟩, (List.forall_mem_cons.2 ⟨.inr ⟨(List.Mem.tail _ (List.Mem.tail _ (List.Mem.tail _ (List.Mem.tail _ (List.Mem.tail _ (List.Mem.tail _ (List.Mem.head _))))))), ng11x5.out⟩, (fun _ h => by cases h)⟩)⟩)⟩)⟩)⟩)⟩)⟩) ?_)
  (refine anyG_one (i := 8) (by kernel_rfl) (gOp_pure rfl rfl ?_); intro K' hK'; go_big_quiet_op; go_big_quiet_on)
  refine anyG_done (by kernel_rfl) ?_
  rintro u13 ⟨hl2, E2'⟩
  have E12 := Lib.hid E2'
  clear hl2 E2' E9
  go_upto_region 7 with (fail)
  refine wp_region_Gx (w0 := w) [0, 1, 2] [] [(g11, (wo (m))), (g8, (wo (r))), (g7, (wo (q))), (g4, (wo (n))), (g1, (wo (Big - 1))), (w.heap.size + 1, (wo (0))), (w.heap.size, (wo (t)))] rfl E12.out ?_
  have hone := @EnvC.one _ _ _ (E12.out)
  (refine wpG_load rfl rfl (g11) rfl 26 _ _ (fun u hu => EnvC.box hu _ (wo (m)) (List.Mem.head _)) Tryd.underlying26 rfl (wc_info _) ?_ (E12.out); intro K hK; go_big_quiet_op; go_big_quiet_on)
  (refine wpG_load rfl rfl (g4) rfl 26 _ _ (fun u hu => EnvC.box hu _ (wo (n)) (List.Mem.tail _ (List.Mem.tail _ (List.Mem.tail _ (List.Mem.head _))))) Tryd.underlying26 rfl (wc_info _) ?_ (E12.out); intro K hK; go_big_quiet_op; go_big_quiet_on)
  (refine wpG_val (v := .bool (false)) rfl rfl (fun u _ => eql_op (hmB.out) (hnB.out) (heq.out) rfl rfl u) ?_ (E12.out); intro K hK; go_big_quiet_op; go_big_quiet_on)
  clear hone
  refine wpG_nil ?_
  rintro u15 ⟨hl2, E2'⟩
  have E14 := Lib.hid E2'
  clear hl2 E2' E12
  go_upto_region 9 with (fail)
  refine wp_region_Gx (w0 := w) [0] [1] [(g11, (wo (m))), (g8, (wo (r))), (g7, (wo (q))), (g4, (wo (n))), (g1, (wo (Big - 1))), (w.heap.size + 1, (wo (0))), (w.heap.size, (wo (t)))] rfl E14.out ?_
  have hone := @EnvC.one _ _ _ (E14.out)
  (refine wpG_load rfl rfl (g7) rfl 26 _ _ (fun u hu => EnvC.box hu _ (wo (q)) (List.Mem.tail _ (List.Mem.tail _ (List.Mem.head _)))) Tryd.underlying26 rfl (wc_info _) ?_ (E14.out); intro K hK; go_big_quiet_op; go_big_quiet_on)
  clear hone
  refine wpG_nil ?_
  refine (gOp_store rfl (w.heap.size + 1) (wcs (q)) rfl rfl hb2 26 (wcs (0)) (List.Mem.tail _ (List.Mem.tail _ (List.Mem.tail _ (List.Mem.tail _ (List.Mem.tail _ (List.Mem.head _)))))) (wc_info _) ((wc_size _).trans (wc_size _).symm) (wc_one _) [(w.heap.size + 1, (wo (q))), (g11, (wo (m))), (g8, (wo (r))), (g7, (wo (q))), (g4, (wo (n))), (g1, (wo (Big - 1))), (w.heap.size, (wo (t)))] (List.forall_mem_cons.2 ⟨.inl rfl, (List.forall_mem_cons.2 ⟨.inr ⟨(List.Mem.head _), (Ne.symm ng11x4.out)⟩, (List.forall_mem_cons.2 ⟨.inr ⟨(List.Mem.tail _ (List.Mem.head _)), (Ne.symm ng8x7.out)⟩, (List.forall_mem_cons.2 ⟨.inr ⟨(List.Mem.tail _ (List.Mem.tail _ (List.Mem.head _))), (Ne.symm ng7x2.out)⟩, (List.forall_mem_cons.2 ⟨.inr ⟨(List.Mem.tail _ (List.Mem.tail _ (List.Mem.tail _ (List.Mem.head _)))), (Ne.symm ng4x1.out)⟩, (List.forall_mem_cons.2 ⟨.inr ⟨(List.Mem.tail _ (List.Mem.tail _ (List.Mem.tail _ (List.Mem.tail _ (List.Mem.head _))))), (Ne.symm ng1x0.out)⟩, (List.forall_mem_cons.2 ⟨.inr ⟨(List.Mem.tail _ (List.Mem.tail _ (List.Mem.tail _ (List.Mem.tail _ (List.Mem.tail _ (List.Mem.tail _ (List.Mem.head _))))))), (Ne.symm n21.out)⟩, (fun _ h => by cases h)⟩)⟩)⟩)⟩)⟩)⟩)⟩) ?_)
  rintro u17 ⟨hl2, E2'⟩
  have E16 := Lib.hid E2'
  clear hl2 E2' E14
  go_wp2_with ((with_reducible refine bodyPost_ret (v := .agg (wcs (q))) ?_ ?_ ?_); (exact results_cell_row (p := 2) (ty := 26) Tryd.results46 _ _ (w.heap.size + 1) 26 (wcs (q)) (0, 0) _ rfl (E16.out.box _ (wo (q)) (List.Mem.head _)) Tryd.underlying26 rfl (wc_info _)); (rfl))
  exact E16.out.bel

set_option maxRecDepth 100000 in
set_option maxHeartbeats 4000000 in
theorem rwork_yes (t : Nat) (w : World) (n q r m : Nat) (hn : Hid (n = t + 1)) (hnB : Hid (n < Big)) (hn0 : Hid (0 < n)) (hq : Hid ((Big - 1) / n = q)) (hr : Hid ((Big - 1) % n = r)) (hm : Hid (m = r + 1)) (hmB : Hid (m < Big)) (heq : Hid (eqN m n = true)) (k : Nat) (kb : Bool) (hqB : Hid (q < Big)) (hk : Hid ((q + 1) % Big = k)) (hkb : Hid (decide (q + 1 < Big) = kb)) :
    Calls Tryd.prog 46 #[.agg (wcs t)] w fun e w' => e = .returned (.agg (wcs k)) ∧ Below w.heap.size w w' := by
  have H1 := Lib.hid Big_gt
  have E1 : Hid (EnvX w ((w.alloc (.cells (wcs t) 26)).alloc (.cells #[.int .u64 0, .int .u64 0, .int .u64 0, .int .u64 0] 26)) [(w.heap.size + 1, wo 0), (w.heap.size, wo t)]) := (EnvX.start w).two (wo t) (wo 0)
  have hb1 : w.heap.size ≤ w.heap.size := Nat.le_refl _
  have hb2 : w.heap.size ≤ w.heap.size + 1 := Nat.le_succ _
  have n21 : Hid (w.heap.size + 1 ≠ w.heap.size) := by show _ ≠ _; omega
  go_enter Tryd.func46, Tryd.ntmps46
  go_upto_region 1 with (fail)
  generalize (w.alloc (.cells (wcs t) 26)).alloc (.cells #[.int .u64 0, .int .u64 0, .int .u64 0, .int .u64 0] 26) = w1 at *
  refine wp_region_Gx (w0 := w) [0] [1, 2] [(w.heap.size + 1, (wo (0))), (w.heap.size, (wo (t)))] rfl E1.out ?_
  have hone := @EnvC.one _ _ _ (E1.out)
  (refine wpG_val (v := .agg (wcs (Big - 1))) rfl rfl (fun u _ => build_all u) ?_ (E1.out); intro K hK; go_big_quiet_op; go_big_quiet_on)
  clear hone
  refine wpG_nil ?_
  (refine (gOp_new (wo (0)) rfl (new_wide _) ?_); intro g1 hbg1 hfg1; intro K' hK'; go_big_quiet_op; go_big_quiet_on)
  have ng1x0 : Hid (w.heap.size + 1 ≠ g1) := hfg1 (w.heap.size + 1, _) (List.Mem.head _)
  have ng1x1 : Hid (w.heap.size ≠ g1) := hfg1 (w.heap.size, _) (List.Mem.tail _ (List.Mem.head _))
  clear hfg1
  refine (gOp_store rfl (g1) (wcs (Big - 1)) rfl rfl hbg1 26 (wcs (0)) (List.Mem.head _) (wc_info _) ((wc_size _).trans (wc_size _).symm) (wc_one _) [(g1, (wo (Big - 1))), (w.heap.size + 1, (wo (0))), (w.heap.size, (wo (t)))] (List.forall_mem_cons.2 ⟨.inl rfl, (List.forall_mem_cons.2 ⟨.inr ⟨(List.Mem.tail _ (List.Mem.head _)), ng1x0.out⟩, (List.forall_mem_cons.2 ⟨.inr ⟨(List.Mem.tail _ (List.Mem.tail _ (List.Mem.head _))), ng1x1.out⟩, (fun _ h => by cases h)⟩)⟩)⟩) ?_)
  rintro u3 ⟨hl2, E2'⟩
  have E2 := Lib.hid E2'
  clear hl2 E2' E1
  go_upto_region 2 with (fail)
  refine wp_region_G (w0 := w) [0, 1, 2, 3, 4, 5] [(g1, (wo (Big - 1))), (w.heap.size + 1, (wo (0))), (w.heap.size, (wo (t)))] 3 (by kernel_rfl) (by kernel_rfl) rfl E2.out ?_
  have hone := @EnvC.one _ _ _ (E2.out.drew)
  (refine wpG_load rfl rfl (w.heap.size) rfl 26 _ _ (fun u hu => EnvC.box hu _ (wo (t)) (List.Mem.tail _ (List.Mem.tail _ (List.Mem.head _)))) Tryd.underlying26 rfl (wc_info _) ?_ (E2.out.drew); intro K hK; go_big_quiet_op; go_big_quiet_on)
  (refine wpG_call (f := 63) (args := #[.int .u64 (1 : Nat)]) (v := .agg (wcs (1))) rfl rfl rfl Tryd.func63 rfl rfl (fun u _ => rof_n 1 u (by decide)) ?_ (E2.out.drew); intro K hK; go_big_quiet_op; go_big_quiet_on)
  (refine wpG_call (f := 66) (args := #[.agg (wcs (t)), .agg (wcs (1))]) (v := .tuple #[.agg (wcs (n)), .bool (true)]) rfl rfl rfl Tryd.func66 rfl rfl (fun u _ => radd_yes t 1 n u hn.out (by have := hnB.out; omega)) ?_ (E2.out.drew); intro K hK; go_big_quiet_op; go_big_quiet_on)
  (refine wpG_op rfl rfl rfl ?_; intro K hK; go_big_quiet_op; go_big_quiet_on)
  (refine wpG_op rfl rfl rfl ?_; intro K hK; go_big_quiet_op; go_big_quiet_on)
  (refine wpG_op rfl rfl rfl ?_; intro K hK; go_big_quiet_op; go_big_quiet_on)
  clear hone
  refine wpG_nil ?_
  (refine anyG_one (i := 6) (by kernel_rfl) (gOp_new (wo (0)) rfl (new_wide _) ?_); intro g4 hbg4 hfg4; intro K' hK'; go_big_quiet_op; go_big_quiet_on)
  have ng4x0 : Hid (g1 ≠ g4) := hfg4 (g1, _) (List.Mem.head _)
  have ng4x1 : Hid (w.heap.size + 1 ≠ g4) := hfg4 (w.heap.size + 1, _) (List.Mem.tail _ (List.Mem.head _))
  have ng4x2 : Hid (w.heap.size ≠ g4) := hfg4 (w.heap.size, _) (List.Mem.tail _ (List.Mem.tail _ (List.Mem.head _)))
  clear hfg4
  refine anyG_one (i := 7) (by kernel_rfl) (gOp_store rfl (g4) (wcs (n)) rfl rfl hbg4 26 (wcs (0)) (List.Mem.head _) (wc_info _) ((wc_size _).trans (wc_size _).symm) (wc_one _) [(g4, (wo (n))), (g1, (wo (Big - 1))), (w.heap.size + 1, (wo (0))), (w.heap.size, (wo (t)))] (List.forall_mem_cons.2 ⟨.inl rfl, (List.forall_mem_cons.2 ⟨.inr ⟨(List.Mem.tail _ (List.Mem.head _)), ng4x0.out⟩, (List.forall_mem_cons.2 ⟨.inr ⟨(List.Mem.tail _ (List.Mem.tail _ (List.Mem.head _))), ng4x1.out⟩, (List.forall_mem_cons.2 ⟨.inr ⟨(List.Mem.tail _ (List.Mem.tail _ (List.Mem.tail _ (List.Mem.head _)))), ng4x2.out⟩, (fun _ h => by cases h)⟩)⟩)⟩)⟩) ?_)
  (refine anyG_one (i := 8) (by kernel_rfl) (gOp_pure rfl rfl ?_); intro K' hK'; go_big_quiet_op; go_big_quiet_on)
  refine anyG_done (by kernel_rfl) ?_
  rintro u6 ⟨hl2, E2'⟩
  have E5 := Lib.hid E2'
  clear hl2 E2' E2
  go_upto_region 5 with (fail)
  refine wp_region_Gx (w0 := w) [0, 1, 2, 3, 4, 5, 6] [7, 8, 9, 10, 11] [(g4, (wo (n))), (g1, (wo (Big - 1))), (w.heap.size + 1, (wo (0))), (w.heap.size, (wo (t)))] rfl E5.out ?_
  have hone := @EnvC.one _ _ _ (E5.out)
  (refine wpG_load rfl rfl (g1) rfl 26 _ _ (fun u hu => EnvC.box hu _ (wo (Big - 1)) (List.Mem.tail _ (List.Mem.head _))) Tryd.underlying26 rfl (wc_info _) ?_ (E5.out); intro K hK; go_big_quiet_op; go_big_quiet_on)
  (refine wpG_load rfl rfl (g4) rfl 26 _ _ (fun u hu => EnvC.box hu _ (wo (n)) (List.Mem.head _)) Tryd.underlying26 rfl (wc_info _) ?_ (E5.out); intro K hK; go_big_quiet_op; go_big_quiet_on)
  (refine wpG_call (f := 67) (args := #[.agg (wcs (Big - 1)), .agg (wcs (n))]) (v := .tuple #[.agg (wcs (q)), .agg (wcs (r)), .bool (true)]) rfl rfl rfl Tryd.func67 rfl rfl (fun u _ => by have h := rdiv_yes (Big - 1) n u (Nat.sub_lt Big_pos Nat.one_pos) hnB.out hn0.out; rw [hq.out, hr.out] at h; exact h) ?_ (E5.out); intro K hK; go_big_quiet_op; go_big_quiet_on)
  (refine wpG_op rfl rfl rfl ?_; intro K hK; go_big_quiet_op; go_big_quiet_on)
  (refine wpG_op rfl rfl rfl ?_; intro K hK; go_big_quiet_op; go_big_quiet_on)
  (refine wpG_op rfl rfl rfl ?_; intro K hK; go_big_quiet_op; go_big_quiet_on)
  (refine wpG_op rfl rfl rfl ?_; intro K hK; go_big_quiet_op; go_big_quiet_on)
  clear hone
  refine wpG_nil ?_
  (refine (gOp_new (wo (0)) rfl (new_wide _) ?_); intro g7 hbg7 hfg7; intro K' hK'; go_big_quiet_op; go_big_quiet_on)
  have ng7x0 : Hid (g4 ≠ g7) := hfg7 (g4, _) (List.Mem.head _)
  have ng7x1 : Hid (g1 ≠ g7) := hfg7 (g1, _) (List.Mem.tail _ (List.Mem.head _))
  have ng7x2 : Hid (w.heap.size + 1 ≠ g7) := hfg7 (w.heap.size + 1, _) (List.Mem.tail _ (List.Mem.tail _ (List.Mem.head _)))
  have ng7x3 : Hid (w.heap.size ≠ g7) := hfg7 (w.heap.size, _) (List.Mem.tail _ (List.Mem.tail _ (List.Mem.tail _ (List.Mem.head _))))
  clear hfg7
  (refine (gOp_new (wo (0)) rfl (new_wide _) ?_); intro g8 hbg8 hfg8; intro K' hK'; go_big_quiet_op; go_big_quiet_on)
  have ng8x4 : Hid (g7 ≠ g8) := hfg8 (g7, _) (List.Mem.head _)
  have ng8x5 : Hid (g4 ≠ g8) := hfg8 (g4, _) (List.Mem.tail _ (List.Mem.head _))
  have ng8x6 : Hid (g1 ≠ g8) := hfg8 (g1, _) (List.Mem.tail _ (List.Mem.tail _ (List.Mem.head _)))
  have ng8x7 : Hid (w.heap.size + 1 ≠ g8) := hfg8 (w.heap.size + 1, _) (List.Mem.tail _ (List.Mem.tail _ (List.Mem.tail _ (List.Mem.head _))))
  have ng8x8 : Hid (w.heap.size ≠ g8) := hfg8 (w.heap.size, _) (List.Mem.tail _ (List.Mem.tail _ (List.Mem.tail _ (List.Mem.tail _ (List.Mem.head _)))))
  clear hfg8
  refine (gOp_store rfl (g7) (wcs (q)) rfl rfl hbg7 26 (wcs (0)) (List.Mem.tail _ (List.Mem.head _)) (wc_info _) ((wc_size _).trans (wc_size _).symm) (wc_one _) [(g7, (wo (q))), (g8, (wo (0))), (g4, (wo (n))), (g1, (wo (Big - 1))), (w.heap.size + 1, (wo (0))), (w.heap.size, (wo (t)))] (List.forall_mem_cons.2 ⟨.inl rfl, (List.forall_mem_cons.2 ⟨.inr ⟨(List.Mem.head _), (Ne.symm ng8x4.out)⟩, (List.forall_mem_cons.2 ⟨.inr ⟨(List.Mem.tail _ (List.Mem.tail _ (List.Mem.head _))), ng7x0.out⟩, (List.forall_mem_cons.2 ⟨.inr ⟨(List.Mem.tail _ (List.Mem.tail _ (List.Mem.tail _ (List.Mem.head _)))), ng7x1.out⟩, (List.forall_mem_cons.2 ⟨.inr ⟨(List.Mem.tail _ (List.Mem.tail _ (List.Mem.tail _ (List.Mem.tail _ (List.Mem.head _))))), ng7x2.out⟩, (List.forall_mem_cons.2 ⟨.inr ⟨(List.Mem.tail _ (List.Mem.tail _ (List.Mem.tail _ (List.Mem.tail _ (List.Mem.tail _ (List.Mem.head _)))))), ng7x3.out⟩, (fun _ h => by cases h)⟩)⟩)⟩)⟩)⟩)⟩) ?_)
  refine (gOp_store rfl (g8) (wcs (r)) rfl rfl hbg8 26 (wcs (0)) (List.Mem.tail _ (List.Mem.head _)) (wc_info _) ((wc_size _).trans (wc_size _).symm) (wc_one _) [(g8, (wo (r))), (g7, (wo (q))), (g4, (wo (n))), (g1, (wo (Big - 1))), (w.heap.size + 1, (wo (0))), (w.heap.size, (wo (t)))] (List.forall_mem_cons.2 ⟨.inl rfl, (List.forall_mem_cons.2 ⟨.inr ⟨(List.Mem.head _), ng8x4.out⟩, (List.forall_mem_cons.2 ⟨.inr ⟨(List.Mem.tail _ (List.Mem.tail _ (List.Mem.head _))), ng8x5.out⟩, (List.forall_mem_cons.2 ⟨.inr ⟨(List.Mem.tail _ (List.Mem.tail _ (List.Mem.tail _ (List.Mem.head _)))), ng8x6.out⟩, (List.forall_mem_cons.2 ⟨.inr ⟨(List.Mem.tail _ (List.Mem.tail _ (List.Mem.tail _ (List.Mem.tail _ (List.Mem.head _))))), ng8x7.out⟩, (List.forall_mem_cons.2 ⟨.inr ⟨(List.Mem.tail _ (List.Mem.tail _ (List.Mem.tail _ (List.Mem.tail _ (List.Mem.tail _ (List.Mem.head _)))))), ng8x8.out⟩, (fun _ h => by cases h)⟩)⟩)⟩)⟩)⟩)⟩) ?_)
  (refine (gOp_pure rfl rfl ?_); intro K' hK'; go_big_quiet_op; go_big_quiet_on)
  rintro u10 ⟨hl2, E2'⟩
  have E9 := Lib.hid E2'
  clear hl2 E2' E5
  go_upto_region 6 with (fail)
  refine wp_region_G (w0 := w) [0, 1, 2, 3, 4, 5] [(g8, (wo (r))), (g7, (wo (q))), (g4, (wo (n))), (g1, (wo (Big - 1))), (w.heap.size + 1, (wo (0))), (w.heap.size, (wo (t)))] 3 (by kernel_rfl) (by kernel_rfl) rfl E9.out ?_
  have hone := @EnvC.one _ _ _ (E9.out.drew)
  (refine wpG_load rfl rfl (g8) rfl 26 _ _ (fun u hu => EnvC.box hu _ (wo (r)) (List.Mem.head _)) Tryd.underlying26 rfl (wc_info _) ?_ (E9.out.drew); intro K hK; go_big_quiet_op; go_big_quiet_on)
  (refine wpG_call (f := 63) (args := #[.int .u64 (1 : Nat)]) (v := .agg (wcs (1))) rfl rfl rfl Tryd.func63 rfl rfl (fun u _ => rof_n 1 u (by decide)) ?_ (E9.out.drew); intro K hK; go_big_quiet_op; go_big_quiet_on)
  (refine wpG_call (f := 66) (args := #[.agg (wcs (r)), .agg (wcs (1))]) (v := .tuple #[.agg (wcs (m)), .bool (true)]) rfl rfl rfl Tryd.func66 rfl rfl (fun u _ => radd_yes r 1 m u hm.out hmB.out) ?_ (E9.out.drew); intro K hK; go_big_quiet_op; go_big_quiet_on)
  (refine wpG_op rfl rfl rfl ?_; intro K hK; go_big_quiet_op; go_big_quiet_on)
  (refine wpG_op rfl rfl rfl ?_; intro K hK; go_big_quiet_op; go_big_quiet_on)
  (refine wpG_op rfl rfl rfl ?_; intro K hK; go_big_quiet_op; go_big_quiet_on)
  clear hone
  refine wpG_nil ?_
  (refine anyG_one (i := 6) (by kernel_rfl) (gOp_new (wo (0)) rfl (new_wide _) ?_); intro g11 hbg11 hfg11; intro K' hK'; go_big_quiet_op; go_big_quiet_on)
  have ng11x0 : Hid (g8 ≠ g11) := hfg11 (g8, _) (List.Mem.head _)
  have ng11x1 : Hid (g7 ≠ g11) := hfg11 (g7, _) (List.Mem.tail _ (List.Mem.head _))
  have ng11x2 : Hid (g4 ≠ g11) := hfg11 (g4, _) (List.Mem.tail _ (List.Mem.tail _ (List.Mem.head _)))
  have ng11x3 : Hid (g1 ≠ g11) := hfg11 (g1, _) (List.Mem.tail _ (List.Mem.tail _ (List.Mem.tail _ (List.Mem.head _))))
  have ng11x4 : Hid (w.heap.size + 1 ≠ g11) := hfg11 (w.heap.size + 1, _) (List.Mem.tail _ (List.Mem.tail _ (List.Mem.tail _ (List.Mem.tail _ (List.Mem.head _)))))
  have ng11x5 : Hid (w.heap.size ≠ g11) := hfg11 (w.heap.size, _) (List.Mem.tail _ (List.Mem.tail _ (List.Mem.tail _ (List.Mem.tail _ (List.Mem.tail _ (List.Mem.head _))))))
  clear hfg11
  refine anyG_one (i := 7) (by kernel_rfl) (gOp_store rfl (g11) (wcs (m)) rfl rfl hbg11 26 (wcs (0)) (List.Mem.head _) (wc_info _) ((wc_size _).trans (wc_size _).symm) (wc_one _) [(g11, (wo (m))), (g8, (wo (r))), (g7, (wo (q))), (g4, (wo (n))), (g1, (wo (Big - 1))), (w.heap.size + 1, (wo (0))), (w.heap.size, (wo (t)))] (List.forall_mem_cons.2 ⟨.inl rfl, (List.forall_mem_cons.2 ⟨.inr ⟨(List.Mem.tail _ (List.Mem.head _)), ng11x0.out⟩, (List.forall_mem_cons.2 ⟨.inr ⟨(List.Mem.tail _ (List.Mem.tail _ (List.Mem.head _))), ng11x1.out⟩, (List.forall_mem_cons.2 ⟨.inr ⟨(List.Mem.tail _ (List.Mem.tail _ (List.Mem.tail _ (List.Mem.head _)))), ng11x2.out⟩, (List.forall_mem_cons.2 ⟨.inr ⟨(List.Mem.tail _ (List.Mem.tail _ (List.Mem.tail _ (List.Mem.tail _ (List.Mem.head _))))), ng11x3.out⟩, (List.forall_mem_cons.2 ⟨.inr ⟨(List.Mem.tail _ (List.Mem.tail _ (List.Mem.tail _ (List.Mem.tail _ (List.Mem.tail _ (List.Mem.head _)))))), ng11x4.out⟩, (List.forall_mem_cons.2 ⟨.inr ⟨(List.Mem.tail _ (List.Mem.tail _ (List.Mem.tail _ (List.Mem.tail _ (List.Mem.tail _ (List.Mem.tail _ (List.Mem.head _))))))), ng11x5.out⟩, (fun _ h => by cases h)⟩)⟩)⟩)⟩)⟩)⟩)⟩) ?_)
  (refine anyG_one (i := 8) (by kernel_rfl) (gOp_pure rfl rfl ?_); intro K' hK'; go_big_quiet_op; go_big_quiet_on)
  refine anyG_done (by kernel_rfl) ?_
  rintro u13 ⟨hl2, E2'⟩
  have E12 := Lib.hid E2'
  clear hl2 E2' E9
  go_upto_region 7 with (fail)
  refine wp_region_Gx (w0 := w) [0, 1, 2] [] [(g11, (wo (m))), (g8, (wo (r))), (g7, (wo (q))), (g4, (wo (n))), (g1, (wo (Big - 1))), (w.heap.size + 1, (wo (0))), (w.heap.size, (wo (t)))] rfl E12.out ?_
  have hone := @EnvC.one _ _ _ (E12.out)
  (refine wpG_load rfl rfl (g11) rfl 26 _ _ (fun u hu => EnvC.box hu _ (wo (m)) (List.Mem.head _)) Tryd.underlying26 rfl (wc_info _) ?_ (E12.out); intro K hK; go_big_quiet_op; go_big_quiet_on)
  (refine wpG_load rfl rfl (g4) rfl 26 _ _ (fun u hu => EnvC.box hu _ (wo (n)) (List.Mem.tail _ (List.Mem.tail _ (List.Mem.tail _ (List.Mem.head _))))) Tryd.underlying26 rfl (wc_info _) ?_ (E12.out); intro K hK; go_big_quiet_op; go_big_quiet_on)
  (refine wpG_val (v := .bool (true)) rfl rfl (fun u _ => eql_op (hmB.out) (hnB.out) (heq.out) rfl rfl u) ?_ (E12.out); intro K hK; go_big_quiet_op; go_big_quiet_on)
  clear hone
  refine wpG_nil ?_
  rintro u15 ⟨hl2, E2'⟩
  have E14 := Lib.hid E2'
  clear hl2 E2' E12
  go_upto_region 8 with (fail)
  refine wp_region_G (w0 := w) [0, 1, 2, 3, 4, 5] [(g11, (wo (m))), (g8, (wo (r))), (g7, (wo (q))), (g4, (wo (n))), (g1, (wo (Big - 1))), (w.heap.size + 1, (wo (0))), (w.heap.size, (wo (t)))] 1 (by kernel_rfl) (by kernel_rfl) rfl E14.out ?_
  have hone := @EnvC.one _ _ _ (E14.out.drew)
  (refine wpG_load rfl rfl (g7) rfl 26 _ _ (fun u hu => EnvC.box hu _ (wo (q)) (List.Mem.tail _ (List.Mem.tail _ (List.Mem.head _)))) Tryd.underlying26 rfl (wc_info _) ?_ (E14.out.drew); intro K hK; go_big_quiet_op; go_big_quiet_on)
  (refine wpG_call (f := 63) (args := #[.int .u64 (1 : Nat)]) (v := .agg (wcs (1))) rfl rfl rfl Tryd.func63 rfl rfl (fun u _ => rof_n 1 u (by decide)) ?_ (E14.out.drew); intro K hK; go_big_quiet_op; go_big_quiet_on)
  (refine wpG_call (f := 66) (args := #[.agg (wcs (q)), .agg (wcs (1))]) (v := .tuple #[.agg (wcs (k)), .bool (kb)]) rfl rfl rfl Tryd.func66 rfl rfl (fun u _ => by have h := radd_any q 1 u hqB.out (by have := H1.out; omega); rw [hk.out, hkb.out] at h; exact h) ?_ (E14.out.drew); intro K hK; go_big_quiet_op; go_big_quiet_on)
  (refine wpG_op rfl rfl rfl ?_; intro K hK; go_big_quiet_op; go_big_quiet_on)
  (refine wpG_op rfl rfl rfl ?_; intro K hK; go_big_quiet_op; go_big_quiet_on)
  (refine wpG_op rfl rfl rfl ?_; intro K hK; go_big_quiet_op; go_big_quiet_on)
  clear hone
  refine wpG_nil ?_
  refine anyG_one (i := 6) (by kernel_rfl) (gOp_store rfl (g7) (wcs (k)) rfl rfl hbg7 26 (wcs (q)) (List.Mem.tail _ (List.Mem.tail _ (List.Mem.head _))) (wc_info _) ((wc_size _).trans (wc_size _).symm) (wc_one _) [(g7, (wo (k))), (g11, (wo (m))), (g8, (wo (r))), (g4, (wo (n))), (g1, (wo (Big - 1))), (w.heap.size + 1, (wo (0))), (w.heap.size, (wo (t)))] (List.forall_mem_cons.2 ⟨.inl rfl, (List.forall_mem_cons.2 ⟨.inr ⟨(List.Mem.head _), (Ne.symm ng11x1.out)⟩, (List.forall_mem_cons.2 ⟨.inr ⟨(List.Mem.tail _ (List.Mem.head _)), (Ne.symm ng8x4.out)⟩, (List.forall_mem_cons.2 ⟨.inr ⟨(List.Mem.tail _ (List.Mem.tail _ (List.Mem.tail _ (List.Mem.head _)))), ng7x0.out⟩, (List.forall_mem_cons.2 ⟨.inr ⟨(List.Mem.tail _ (List.Mem.tail _ (List.Mem.tail _ (List.Mem.tail _ (List.Mem.head _))))), ng7x1.out⟩, (List.forall_mem_cons.2 ⟨.inr ⟨(List.Mem.tail _ (List.Mem.tail _ (List.Mem.tail _ (List.Mem.tail _ (List.Mem.tail _ (List.Mem.head _)))))), ng7x2.out⟩, (List.forall_mem_cons.2 ⟨.inr ⟨(List.Mem.tail _ (List.Mem.tail _ (List.Mem.tail _ (List.Mem.tail _ (List.Mem.tail _ (List.Mem.tail _ (List.Mem.head _))))))), ng7x3.out⟩, (fun _ h => by cases h)⟩)⟩)⟩)⟩)⟩)⟩)⟩) ?_)
  refine anyG_done (by kernel_rfl) ?_
  rintro u17 ⟨hl2, E2'⟩
  have E16 := Lib.hid E2'
  clear hl2 E2' E14
  go_upto_region 9 with (fail)
  refine wp_region_Gx (w0 := w) [0] [1] [(g7, (wo (k))), (g11, (wo (m))), (g8, (wo (r))), (g4, (wo (n))), (g1, (wo (Big - 1))), (w.heap.size + 1, (wo (0))), (w.heap.size, (wo (t)))] rfl E16.out ?_
  have hone := @EnvC.one _ _ _ (E16.out)
  (refine wpG_load rfl rfl (g7) rfl 26 _ _ (fun u hu => EnvC.box hu _ (wo (k)) (List.Mem.head _)) Tryd.underlying26 rfl (wc_info _) ?_ (E16.out); intro K hK; go_big_quiet_op; go_big_quiet_on)
  clear hone
  refine wpG_nil ?_
  refine (gOp_store rfl (w.heap.size + 1) (wcs (k)) rfl rfl hb2 26 (wcs (0)) (List.Mem.tail _ (List.Mem.tail _ (List.Mem.tail _ (List.Mem.tail _ (List.Mem.tail _ (List.Mem.head _)))))) (wc_info _) ((wc_size _).trans (wc_size _).symm) (wc_one _) [(w.heap.size + 1, (wo (k))), (g7, (wo (k))), (g11, (wo (m))), (g8, (wo (r))), (g4, (wo (n))), (g1, (wo (Big - 1))), (w.heap.size, (wo (t)))] (List.forall_mem_cons.2 ⟨.inl rfl, (List.forall_mem_cons.2 ⟨.inr ⟨(List.Mem.head _), (Ne.symm ng7x2.out)⟩, (List.forall_mem_cons.2 ⟨.inr ⟨(List.Mem.tail _ (List.Mem.head _)), (Ne.symm ng11x4.out)⟩, (List.forall_mem_cons.2 ⟨.inr ⟨(List.Mem.tail _ (List.Mem.tail _ (List.Mem.head _))), (Ne.symm ng8x7.out)⟩, (List.forall_mem_cons.2 ⟨.inr ⟨(List.Mem.tail _ (List.Mem.tail _ (List.Mem.tail _ (List.Mem.head _)))), (Ne.symm ng4x1.out)⟩, (List.forall_mem_cons.2 ⟨.inr ⟨(List.Mem.tail _ (List.Mem.tail _ (List.Mem.tail _ (List.Mem.tail _ (List.Mem.head _))))), (Ne.symm ng1x0.out)⟩, (List.forall_mem_cons.2 ⟨.inr ⟨(List.Mem.tail _ (List.Mem.tail _ (List.Mem.tail _ (List.Mem.tail _ (List.Mem.tail _ (List.Mem.tail _ (List.Mem.head _))))))), (Ne.symm n21.out)⟩, (fun _ h => by cases h)⟩)⟩)⟩)⟩)⟩)⟩)⟩) ?_)
  rintro u19 ⟨hl2, E2'⟩
  have E18 := Lib.hid E2'
  clear hl2 E2' E16
  go_wp2_with ((with_reducible refine bodyPost_ret (v := .agg (wcs (k))) ?_ ?_ ?_); (exact results_cell_row (p := 2) (ty := 26) Tryd.results46 _ _ (w.heap.size + 1) 26 (wcs (k)) (0, 0) _ rfl (E18.out.box _ (wo (k)) (List.Mem.head _)) Tryd.underlying26 rfl (wc_info _)); (rfl))
  exact E18.out.bel

theorem rwork_any (t : Nat) (w : World) (ht : t < Big) :
    Calls Tryd.prog 46 #[.agg (wcs t)] w fun e w' => e = .returned (.agg (wcs (wkV t))) ∧ Below w.heap.size w w' := by
  by_cases h : t + 1 < Big
  · have h1 := wk_ref h
    have hml := Nat.mod_lt (Big - 1) (show 0 < t + 1 by omega)
    by_cases hx : (Big - 1) % (t + 1) + 1 = t + 1
    · rw [if_pos hx] at h1
      refine rwork_yes t w (t + 1) _ _ ((Big - 1) % (t + 1) + 1) rfl h (by show _ < _; omega) rfl rfl rfl (by show _ < _; omega) (by show _ = _; rw [hx]; simp [eqN]) (wkV t) _ ?_ h1 rfl
      show _ < _
      exact Nat.lt_of_le_of_lt (Nat.div_le_self _ _) (by omega)
    · rw [if_neg hx] at h1
      refine rwork_not t w (t + 1) (wkV t) _ ((Big - 1) % (t + 1) + 1) rfl h (by show _ < _; omega) h1 rfl rfl (by show _ < _; omega) (by show _ = _; simp only [eqN]; simpa using hx)
  · have e : wkV t = 1 := by unfold wkV; rw [if_neg h]
    rw [e]
    exact rwork_no t w (by omega)
end Go.Proofs.YtmpjgfecnnefeaaDoor

namespace Go.Proofs.YtmpjgfecnnefeaaDoor
set_option maxRecDepth 8000
open Go.RowKit

theorem lvC_step (n t k : Nat) : lvC n t (k + 1) = if n ≤ t / 2 ^ k then k + 1 else lvC n t k := rfl
set_option maxRecDepth 100000 in
set_option maxHeartbeats 4000000 in
theorem rlevel_any (f : Nat → Nat) (hf : ∀ i, f i < 256) (t : Nat) (w : World) (ht : t < Big) :
    Calls Tryd.prog 45 #[.agg (idF (fun i => (f i : Int))), .agg (wcs t)] w fun e w' => e = .returned (.int .i64 (lvI (numOf f) t)) ∧ Below w.heap.size w w' := by
  have hN := Lib.hid (numOf_lt f hf)
  have ht' := Lib.hid ht
  have HO : Hid (∀ u, Calls Tryd.prog 40 #[.agg (idF (fun i => (f i : Int)))] u fun e w' => e = .returned (.agg (wcs (numOf f))) ∧ Below u.heap.size u w') := fun u => rof32_any f hf u
  generalize numOf f = n at *
  have E1 : Hid (EnvX w ((w.alloc (.cells (idF (fun i => (f i : Int))) 23)).alloc (.cells (wcs t) 26)) [(w.heap.size + 1, wo t), (w.heap.size, io (fun i => (f i : Int)))]) := (EnvX.start w).two (io (fun i => (f i : Int))) (wo t)
  go_enter Tryd.func45, Tryd.ntmps45
  go_wp2_with fail
  generalize (w.alloc (.cells (idF (fun i => (f i : Int))) 23)).alloc (.cells (wcs t) 26) = w1 at *
  go_loopw [5, 6] (fun o l u => ∃ k : Nat, k ≤ 32 ∧ o = .int .i64 ((lvC n t k : Int) - 1) ∧ l = .int .i64 (k : Int) ∧ Hid (EnvX w u [(w.heap.size + 1, wo t), (w.heap.size, io (fun i => (f i : Int)))])) (fun _ l _ => (32 - intOf l).toNat)
  case atStart => exact ⟨0, by omega, rfl, rfl, E1⟩
  case round =>
    obtain ⟨k, hk, rfl, rfl, hE⟩ := hrel
    clear E1
    have hk0 : (0 : Int) ≤ (k : Int) := by omega
    have hk1 : (k : Int) ≤ 32 := by omega
    have hs := Lib.hid (lvC_step n t k)
    have hle := Lib.hid (lvC_le n t k)
    by_cases h31 : k ≤ 31
    · have h3 : (k : Int) ≤ 31 := by omega
      have hdB := Lib.hid (Nat.lt_of_le_of_lt (Nat.div_le_self t (2 ^ k)) ht'.out)
      have hS := Lib.hid (cmpI_sgn n (t / 2 ^ k)).2.1
      have hdn : Hid (∀ u, Calls Tryd.prog 65 #[.agg (wcs t), .int .i64 (k : Int)] u fun e w' => e = .returned (.agg (wcs (t / 2 ^ k))) ∧ Below u.heap.size u w') := fun u => by
        have h := rdown_v t (k : Int) u ht'.out
        have e : downV t (k : Int) = t / 2 ^ k := by
          unfold downV aDown
          rw [if_neg (by omega)]
          rfl
        rw [e] at h
        exact h
      generalize t / 2 ^ k = d at *
      generalize hc : cmpI n d = c at *
      have HC := Lib.hid hc
      clear hc
      generalize hlk : lvC n t k = lk at *
      generalize hlk2 : lvC n t (k + 1) = lk2 at *
      have HL := Lib.hid hlk
      have HL2 := Lib.hid hlk2
      clear hlk hlk2
      by_cases hr : c ≤ 0
      · go_upto_region 5 with (fail)
        refine wp_region_G (w0 := w) [0, 1, 2, 3, 4, 5, 6] [(w.heap.size + 1, (wo (t))), (w.heap.size, (io (fun i => (f i : Int))))] 0 (by kernel_rfl) (by kernel_rfl) rfl hE.out ?_
        have hone := @EnvC.one _ _ _ (hE.out.drew)
        (refine wpG_load rfl rfl (w.heap.size) rfl 23 _ _ (fun u hu => EnvC.box hu _ (io (fun i => (f i : Int))) (List.Mem.tail _ (List.Mem.head _))) Tryd.underlying23 rfl (infoId _ (idF_size _)) ?_ (hE.out.drew); intro K hK; go_big_quiet_op; go_big_quiet_on)
        (refine wpG_call (f := 40) (args := #[.agg (idF (fun i => (f i : Int)))]) (v := .agg (wcs (n))) rfl rfl rfl Tryd.func40 rfl rfl (fun u _ => HO.out u) ?_ (hE.out.drew); intro K hK; go_big_quiet_op; go_big_quiet_on)
        (refine wpG_load rfl rfl (w.heap.size + 1) rfl 26 _ _ (fun u hu => EnvC.box hu _ (wo (t)) (List.Mem.head _)) Tryd.underlying26 rfl (wc_info _) ?_ (hE.out.drew); intro K hK; go_big_quiet_op; go_big_quiet_on)
        (refine wpG_op rfl rfl rfl ?_; intro K hK; go_big_quiet_op; go_big_quiet_on)
        (refine wpG_call (f := 65) (args := #[.agg (wcs (t)), .int .i64 (k : Int)]) (v := .agg (wcs (d))) rfl rfl rfl Tryd.func65 rfl rfl (fun u _ => hdn.out u) ?_ (hE.out.drew); intro K hK; go_big_quiet_op; go_big_quiet_on)
        (refine wpG_call (f := 64) (args := #[.agg (wcs (n)), .agg (wcs (d))]) (v := .int .i64 c) rfl rfl rfl Tryd.func64 rfl rfl (fun u _ => (by rw [← HC.out]; exact rcmp_any n d u hN.out hdB.out)) ?_ (hE.out.drew); intro K hK; go_big_quiet_op; go_big_quiet_on)
        (refine wpG_op rfl rfl rfl ?_; intro K hK; go_big_quiet_op; go_big_quiet_on)
        clear hone
        refine wpG_nil ?_
        refine anyG_done (by kernel_rfl) ?_
        rintro u2 ⟨hl2, E2'⟩
        have EX1 := Lib.hid E2'
        clear hl2 E2' hE
        go_wp2_with fail
        go_roundw
        case rel =>
          exact ⟨k + 1, by omega, by rw [HL2.out, hs.out, if_pos (hS.out.1 hr)]; go_num, by go_num, EX1⟩
        case measure => simp [intOf]; omega
      · go_upto_region 5 with (fail)
        refine wp_region_G (w0 := w) [0, 1, 2, 3, 4, 5, 6] [(w.heap.size + 1, (wo (t))), (w.heap.size, (io (fun i => (f i : Int))))] 0 (by kernel_rfl) (by kernel_rfl) rfl hE.out ?_
        have hone := @EnvC.one _ _ _ (hE.out.drew)
        (refine wpG_load rfl rfl (w.heap.size) rfl 23 _ _ (fun u hu => EnvC.box hu _ (io (fun i => (f i : Int))) (List.Mem.tail _ (List.Mem.head _))) Tryd.underlying23 rfl (infoId _ (idF_size _)) ?_ (hE.out.drew); intro K hK; go_big_quiet_op; go_big_quiet_on)
        (refine wpG_call (f := 40) (args := #[.agg (idF (fun i => (f i : Int)))]) (v := .agg (wcs (n))) rfl rfl rfl Tryd.func40 rfl rfl (fun u _ => HO.out u) ?_ (hE.out.drew); intro K hK; go_big_quiet_op; go_big_quiet_on)
        (refine wpG_load rfl rfl (w.heap.size + 1) rfl 26 _ _ (fun u hu => EnvC.box hu _ (wo (t)) (List.Mem.head _)) Tryd.underlying26 rfl (wc_info _) ?_ (hE.out.drew); intro K hK; go_big_quiet_op; go_big_quiet_on)
        (refine wpG_op rfl rfl rfl ?_; intro K hK; go_big_quiet_op; go_big_quiet_on)
        (refine wpG_call (f := 65) (args := #[.agg (wcs (t)), .int .i64 (k : Int)]) (v := .agg (wcs (d))) rfl rfl rfl Tryd.func65 rfl rfl (fun u _ => hdn.out u) ?_ (hE.out.drew); intro K hK; go_big_quiet_op; go_big_quiet_on)
        (refine wpG_call (f := 64) (args := #[.agg (wcs (n)), .agg (wcs (d))]) (v := .int .i64 c) rfl rfl rfl Tryd.func64 rfl rfl (fun u _ => (by rw [← HC.out]; exact rcmp_any n d u hN.out hdB.out)) ?_ (hE.out.drew); intro K hK; go_big_quiet_op; go_big_quiet_on)
        (refine wpG_op rfl rfl rfl ?_; intro K hK; go_big_quiet_op; go_big_quiet_on)
        clear hone
        refine wpG_nil ?_
        refine anyG_done (by kernel_rfl) ?_
        rintro u2 ⟨hl2, E2'⟩
        have EX1 := Lib.hid E2'
        clear hl2 E2' hE
        go_wp2_with fail
        go_roundw
        case rel =>
          exact ⟨k + 1, by omega, by rw [HL2.out, hs.out, if_neg (fun h => hr (hS.out.2 h))], by go_num, EX1⟩
        case measure => simp [intOf]; omega
    · have h3 : ¬ (k : Int) ≤ 31 := by omega
      obtain rfl : k = 32 := by omega
      go_wp2
      go_ret
      exact ⟨rfl, hE.out.bel⟩
end Go.Proofs.YtmpjgfecnnefeaaDoor

namespace Go.Proofs.YtmpjgfecnnefeaaDoor
set_option maxRecDepth 8000
open Go.RowKit

set_option maxHeartbeats 1000000 in
theorem rput_any (n k : Nat) (w : World) (hn : n < 18446744073709551616) (hk : k ≤ 8) :
    Calls Tryd.prog 34 #[.int .u64 n, .int .i64 k] w fun e w' => (∃ v, e = .returned v ∧ OwnB w' w.heap.size v (putL n k)) ∧ Below w.heap.size w w' := by
  have k8 : ¬ (8 : Int) < (k : Int) := by omega
  have k0 : ¬ (k : Int) < 0 := by omega
  go_enter Tryd.func34, Tryd.ntmps34
  go_wp2_with fail
  rw [make_bytes k (by omega)]
  go_wp2_with fail
  go_loopw [6, 0] (fun i x u => ∃ j : Nat, j ≤ k ∧ i = .int .i64 ((k : Int) - 1 - j) ∧ x = .int .u64 ((n / 256 ^ j : Nat) : Int) ∧ Below w.heap.size w u ∧ Hid (Row u w.heap.size 5 (arrB k (List.replicate (k - j) 0 ++ putL n j)))) (fun i _ _ => (intOf i + 1).toNat)
  case atStart =>
    refine ⟨0, by omega, by go_num, by simp, by go_grown, ?_⟩
    have e : arrB k (List.replicate (k - 0) 0 ++ putL n 0) = arrB k [] := by simp [putL, arrB]
    rw [e]
    exact Row.new w 5 _
  case round =>
    obtain ⟨j, hj, rfl, rfl, hbl, hrows⟩ := hrel
    have r0 := hrows.out
    obtain ⟨q, hq⟩ : ∃ q, n / 256 ^ j = q := ⟨_, rfl⟩
    have hq64 : q < 18446744073709551616 := by rw [← hq]; exact Nat.lt_of_le_of_lt (Nat.div_le_self _ _) hn
    have hq2 : Hid (n / 256 ^ (j + 1) = q / 256) := by show _ = _; rw [← hq, Nat.pow_succ, Nat.div_div_eq_div_mul]
    have HQ := Lib.hid hq
    rw [hq]
    clear hq
    by_cases hlt : j < k
    · obtain ⟨t, ht⟩ : ∃ t : Nat, k - 1 - j = t := ⟨_, rfl⟩
      have ht2 : (k : Int) - 1 - (j : Int) = (t : Int) := by omega
      rw [ht2]
      have htk : t < k := by omega
      have htk2 : (t : Int) < (k : Int) := by omega
      have hset := put_set n k j hlt
      rw [HQ.out, ht] at hset
      have e0 := (r0.cell t).trans (arrB_get k _ t (by rw [List.length_append, List.length_replicate, putL_len]; omega) (by omega))
      have f0 := r0.frozen t
      have hv : Hid ((q : Int) % 256 = ((q % 256 : Nat) : Int)) := by show _ = _; omega
      have HS := Lib.hid hset
      have R0 := Lib.hid r0
      have HT := Lib.hid ht
      clear hset r0 hrows ht
      generalize (List.replicate (k - j) 0 ++ putL n j).getD t 0 = z at *
      generalize arrB k (List.replicate (k - j) 0 ++ putL n j) = cs at *
      go_wp2_with fail
      go_roundw
      case rel =>
        refine ⟨j + 1, by omega, by (have e : (t : Int) - 1 = (k : Int) - 1 - ((j + 1 : Nat) : Int) := by have := HT.out; omega); rw [← e], by rw [hq2.out]; go_num, hbl.setCell (by simp) _, ?_⟩
        rw [← HS.out, ← hv.out]
        exact R0.out.put _ _
      case measure => simp [intOf]
    · obtain rfl : j = k := by omega
      have hneg : ¬ (0 : Int) ≤ (j : Int) - 1 - (j : Int) := by omega
      have r1 : Row wr w.heap.size 5 (arrB j (putL n j)) := by simpa using r0
      go_wp2
      go_ret
      exact ⟨⟨_, rfl, own_of_row r1 (putL_len _ _) (Nat.le_refl _) (by unfold maxLen; omega)⟩, hbl⟩
end Go.Proofs.YtmpjgfecnnefeaaDoor

namespace Go.Proofs.YtmpjgfecnnefeaaDoor
set_option maxRecDepth 8000
open Go.RowKit

set_option maxHeartbeats 1000000 in
theorem rget_some (A : Option Addr) (n c i s : Nat) (xs : List Int) (w : World) (hl : xs.length = n) (hc : n ≤ c) (hn : c ≤ maxLen) (hB : isB xs) (hx : Bytes w w.heap.size A xs) (s8 : s ≤ 8) (his : i + s ≤ n) :
    Calls Tryd.prog 38 #[.slice A n c, .int .i64 i, .int .i64 s] w fun e w' => e = .returned (.tuple #[.int .u64 (getL (cutP xs i s)), .bool true]) ∧ w = w' := by
  unfold maxLen at hn
  have k0 : ¬ ((s : Int) < 0) := by omega
  have k8 : ¬ (8 < (s : Int)) := by omega
  have i0 : ¬ ((i : Int) < 0) := by omega
  have i1 : ¬ ((n : Int) < (i : Int)) := by omega
  have i2 : ¬ ((n : Int) - (i : Int) < (s : Int)) := by omega
  have HX := Lib.hid hx
  have HBB := Lib.hid hB
  have HL := Lib.hid hl
  have HB := Lib.hid (cutP_byte hB i s)
  have hyl : (cutP xs i s).length = s := cutP_len (by omega)
  have HYL := Lib.hid hyl
  have HG : Hid (∀ j, j < s → (cutP xs i s).getD j 0 = xs.getD (i + j) 0) := fun j hj => by
    unfold cutP
    rw [List.getD_eq_getElem?_getD, List.getD_eq_getElem?_getD, List.getElem?_take_of_lt hj, List.getElem?_drop]
  generalize cutP xs i s = ys at *
  clear hl hx hB hyl
  go_enter Tryd.func38, Tryd.ntmps38
  go_upto_region 5 with (fail)
  go_loopw [8, 9] (fun v iv u => ∃ j : Nat, j ≤ s ∧ iv = .int .i64 j ∧ v = .int .u64 (getL (ys.take j)) ∧ u = w) (fun _ iv _ => s - (intOf iv).toNat)
  case atStart => exact ⟨0, by omega, rfl, rfl, rfl⟩
  case round =>
    obtain ⟨j, hj, rfl, rfl, rfl⟩ := hrel
    by_cases hlt : j < s
    · have hlt2 : (j : Int) < (s : Int) := by omega
      obtain ⟨t, ht0⟩ : ∃ t, i + j = t := ⟨_, rfl⟩
      have ht2 : (i : Int) + (j : Int) = (t : Int) := by omega
      have ht3 : (t : Int) < (n : Int) := by omega
      have ht4 : t < n := by omega
      obtain ⟨ad, rfl, hcell⟩ := HX.out.cell t (by rw [HL.out]; exact ht4)
      have hg := HG.out j hlt
      rw [ht0] at hg
      have hx := HB.out _ (List.getElem_mem (by rw [HYL.out]; exact hlt : j < ys.length))
      have hg2 : ys.getD j 0 = ys[j]'(by rw [HYL.out]; exact hlt) := by rw [List.getD_eq_getElem?_getD, List.getElem?_eq_getElem (by rw [HYL.out]; exact hlt)]; rfl
      have ht : Hid (getL (ys.take (j + 1)) = 256 * getL (ys.take j) + (ys.getD j 0).toNat) := by
        show _ = _
        rw [List.take_add_one, List.getElem?_eq_getElem (by rw [HYL.out]; exact hlt), hg2]
        exact getL_snoc _ _
      have hm : getL (ys.take j) < 72057594037927936 := by
        have h1 := getL_lt (ys.take j) (isB_take HB.out j)
        rw [List.length_take, HYL.out] at h1
        have h2 : 256 ^ (min j s) ≤ 256 ^ 7 := Nat.pow_le_pow_right (by omega) (by omega)
        omega
      rw [← hg2, hg] at hx
      obtain ⟨x, hx2⟩ := Int.eq_ofNat_of_zero_le hx.1
      rw [hg] at ht
      rw [hx2] at hx hcell ht
      clear hg2 hg hx2
      generalize getL (ys.take j) = m at *
      go_wp2
      go_roundw
      case rel =>
        refine ⟨j + 1, by omega, by go_num, ?_, trivial⟩
        rw [ht.out, Int.toNat_natCast]
        congr 1
      case measure => simp [intOf]; omega
    · obtain rfl : j = s := by omega
      have hT : ys.take j = ys := List.take_of_length_le (by rw [HYL.out]; exact Nat.le_refl _)
      rw [hT]
      go_wp2
      go_returns
      exact ⟨rfl, rfl⟩
end Go.Proofs.YtmpjgfecnnefeaaDoor

namespace Go.Proofs.YtmpjgfecnnefeaaDoor
set_option maxRecDepth 8000
open Go.RowKit

set_option maxRecDepth 20000 in
set_option maxHeartbeats 4000000 in
theorem rid_any (A : Option Addr) (n c i : Nat) (xs : List Int) (w : World) (hl : xs.length = n) (hc : n ≤ c) (hn : c ≤ maxLen) (hB : isB xs) (hx : Bytes w w.heap.size A xs) (his : i + 32 ≤ n) :
    Calls Tryd.prog 39 #[.slice A n c, .int .i64 i] w fun e w' => e = .returned (idv (cutP xs i 32)) ∧ Below w.heap.size w w' := by
  unfold maxLen at hn
  have HX := Lib.hid hx
  have HL := Lib.hid hl
  have HYL : Hid ((cutP xs i 32).length = 32) := cutP_len (by omega)
  have HG : Hid (∀ j, j < 32 → (cutP xs i 32).getD j 0 = xs.getD (i + j) 0) := fun j hj => by
    unfold cutP
    rw [List.getD_eq_getElem?_getD, List.getD_eq_getElem?_getD, List.getElem?_take_of_lt hj, List.getElem?_drop]
  generalize cutP xs i 32 = ys at *
  clear hl hx hB
  unfold idv
  go_enter Tryd.func39, Tryd.ntmps39
  go_upto_region 3 with (fail)
  go_loopw [6] (fun iv u => ∃ k : Nat, k ≤ 32 ∧ iv = .int .i64 k ∧ Below w.heap.size w u ∧ Hid (Row u w.heap.size 23 (arrB 32 []) ∧ Row u (w.heap.size + 1) 23 (arrB 32 (ys.take k)))) (fun iv _ => 32 - (intOf iv).toNat)
  case atStart => exact ⟨0, by omega, rfl, by go_grown, (Row.new w 23 _).alloc _, Row.newAt (by simp) 23 _⟩
  case round =>
    obtain ⟨k, hk, rfl, hbl, hrows⟩ := hrel
    obtain ⟨r0, r1⟩ := hrows.out
    by_cases hlt : k < 32
    · have hlt2 : (k : Int) < 32 := by omega
      obtain ⟨t, ht0⟩ : ∃ t, i + k = t := ⟨_, rfl⟩
      have ht2 : (i : Int) + (k : Int) = (t : Int) := by omega
      have ht4 : t < n := by omega
      have ht3 : (t : Int) < (n : Int) := by omega
      obtain ⟨ad, rfl, hcell⟩ := (HX.out.up hbl).cell t (by rw [HL.out]; exact ht4)
      have hg := HG.out k hlt
      rw [ht0] at hg
      have hst : (arrB 32 (ys.take k)).setIfInBounds k (.int .u8 (xs.getD t 0)) = arrB 32 (ys.take (k + 1)) := by
        rw [arrB_put_at 32 (ys.take k) (xs.getD t 0) k (by rw [List.length_take, HYL.out]; omega) hlt, List.take_add_one, List.getElem?_eq_getElem (by rw [HYL.out]; exact hlt), ← hg, List.getD_eq_getElem?_getD, List.getElem?_eq_getElem (by rw [HYL.out]; exact hlt)]
        rfl
      have HST := Lib.hid hst
      have f2 := r1.frozen k
      have hsz : (arrB 32 (ys.take k)).size = 32 := arrB_size _ _ (by rw [List.length_take, HYL.out]; omega)
      have e2 := (r1.cell k).trans (arrB_get 32 (ys.take k) k (by rw [List.length_take, HYL.out]; omega) hlt)
      have R0 := Lib.hid r0
      have R1 := Lib.hid r1
      clear r0 r1 hrows hst hg ht0 hsz
      generalize xs.getD t 0 = x at *
      generalize (ys.take k).getD k 0 = z at *
      go_wp2
      go_roundw
      case rel =>
        refine ⟨k + 1, by omega, by go_num, hbl.setCell (by simp) _, R0.out.farAt (by simp) _, ?_⟩
        rw [← HST.out]
        exact R1.out.put k _
      case measure => simp [intOf]; omega
    · obtain rfl : k = 32 := by omega
      have hge : ¬ ((32 : Nat) : Int) < 32 := by omega
      rw [List.take_of_length_le (by rw [HYL.out]; exact Nat.le_refl _)] at r1
      have hsz : Hid ((arrB 32 ys).size = 32) := arrB_size _ _ (by rw [HYL.out]; omega)
      have hz0 := Lib.hid (arrB_size 32 [] (by simp))
      have ho := Lib.hid (arrB_one 32 ys)
      have R0 : Hid (wr.heap[w.heap.size]? = some (.cells (arrB 32 []) 23 (0, 0))) := r0
      have R1 : Hid (wr.heap[w.heap.size + 1]? = some (.cells (arrB 32 ys) 23 (0, 0))) := r1
      clear r0 r1 hrows
      generalize hE2 : arrB 32 ys = cs at *
      have HE := Lib.hid hE2
      clear hE2
      generalize arrB 32 [] = zs at *
      go_wp2_with (first
        | ((with_reducible refine wpList_load_row (o := ⟨some 19, _, _, _, _, _⟩) ?_ 23 (.tmp 5) ?_ (w.heap.size + 1) ?_ 23 cs (0, 0) _ R1.out Tryd.underlying23 ?_ (infoId cs hsz.out) ?_); (rfl); (rfl); (rfl); (rfl))
        | ((with_reducible refine wpList_store_row (o := ⟨none, .store 23 _ _, _, _, _, _⟩) ?_ 23 (.tmp 4) (.tmp 19) ?_ w.heap.size cs ?_ ?_ 23 zs R0.out (infoId cs hsz.out) (by rw [hz0.out, hsz.out]) ho.out ?_); (rfl); (rfl); (rfl); (rfl))
        | ((with_reducible refine bodyPost_ret (v := .agg cs) ?_ ?_ ?_); (exact results_cell_row (p := 4) (ty := 23) Tryd.results39 _ _ w.heap.size 23 cs (0, 0) _ rfl (setRow_heap _ _ zs cs 23 (0, 0) R0.out) Tryd.underlying23 rfl (infoId cs hsz.out)); (rfl)))
      exact ⟨by rw [HE.out], below_setRow hbl (by omega) _⟩
end Go.Proofs.YtmpjgfecnnefeaaDoor

namespace Go.Proofs.YtmpjgfecnnefeaaDoor
set_option maxRecDepth 8000
open Go.RowKit
set_option maxHeartbeats 4000000 in
theorem rbytes_any (a : Nat) (w : World) :
    Calls Tryd.prog 33 #[.agg (wcs a)] w fun e w' => e = .returned (.agg (idF (bytesOf a))) ∧ Below w.heap.size w w' := by
  go_enter Tryd.func33, Tryd.ntmps33
  go_wp2_with fail
  go_loopw [4] (fun i u => ∃ k : Nat, k ≤ 32 ∧ i = .int .i64 k ∧ Below w.heap.size w u ∧ Hid (Row u w.heap.size 26 (wcs a) ∧ Row u (w.heap.size + 1) 23 (arrB 32 []) ∧ Row u (w.heap.size + 1 + 1) 23 (idF (fun i => if 32 - k ≤ i then bytesOf a i else 0)))) (fun i _ => 32 - (intOf i).toNat)
  case atStart =>
    refine ⟨0, by omega, rfl, by go_grown, ((Row.new w 26 _).alloc _).alloc _, (Row.newAt (by simp) 23 _).alloc _, ?_⟩
    have e : idF (fun i => if 32 - 0 ≤ i then bytesOf a i else 0) = arrB 32 [] := by rw [idF_zero]; exact idF_congr _ _ (fun i hi => by rw [if_neg (by omega)])
    rw [e]
    exact Row.newAt (by simp) 23 _
  case round =>
    obtain ⟨k, hk, rfl, hbl, hrows⟩ := hrel
    obtain ⟨r0, r1, r2⟩ := hrows.out
    by_cases hlt : k < 32
    · have hk0 : (0 : Int) ≤ (k : Int) := by omega
      have hk4 : (k : Int) < 32 := by omega
      have e0 : wr.cell? ⟨w.heap.size, k / 8, none⟩ = some (.int .u64 (W a (k / 8))) := (r0.cell _).trans (wc_get a _ (by omega))
      have e2 := (r2.cell (31 - k)).trans (idF_get _ (31 - k) (by omega))
      have f2 := r2.frozen (31 - k)
      have R0 := Lib.hid r0
      have R1 := Lib.hid r1
      have R2 := Lib.hid r2
      have hput : Hid ((idF (fun i => if 32 - k ≤ i then bytesOf a i else 0)).setIfInBounds (31 - k) (.int .u8 (bytesOf a (31 - k))) = idF (fun i => if 32 - (k + 1) ≤ i then bytesOf a i else 0)) := by
        show _ = _
        refine idF_put _ _ (31 - k) _ (by omega) (by rw [if_pos (by omega)]) (fun i _ hne => ?_)
        by_cases hik : 32 - k ≤ i
        · rw [if_pos hik, if_pos (by omega)]
        · rw [if_neg hik, if_neg (by omega)]
      have hv : Hid (((W a (k / 8) / 256 ^ (k % 8) : Nat) : Int) % 256 = bytesOf a (31 - k)) := by
        show _ = _
        unfold bytesOf
        rw [← byte_ref a k hlt]
        omega
      have hW := W_lt a (k / 8)
      clear r0 r1 r2 hrows
      generalize W a (k / 8) = x at *
      generalize (if 32 - k ≤ 31 - k then bytesOf a (31 - k) else 0) = z at *
      have hx0 : (0 : Int) ≤ (x : Int) := by omega
      go_wp2_with fail
      go_loop [5, 6] (fun n j => ∃ i : Nat, i ≤ k % 8 ∧ j = .int .i64 i ∧ n = .int .u64 ((x / 256 ^ i : Nat) : Int)) (fun _ j => k % 8 - (intOf j).toNat)
      case atStart => exact ⟨0, by omega, rfl, by simp⟩
      case round =>
        obtain ⟨i, hi, rfl, rfl⟩ := hrel
        by_cases hil : i < k % 8
        · have hi1 : (i : Int) < (k : Int) % 8 := by omega
          have hp : Hid ((x / 256 ^ i : Nat) / 256 = x / 256 ^ (i + 1)) := by show _ = _; rw [Nat.div_div_eq_div_mul, ← Nat.pow_succ]
          have hyx : x / 256 ^ i ≤ x := Nat.div_le_self _ _
          generalize x / 256 ^ i = y at *
          have hyw : IntKind.u64.wrap ((y : Int) / 256) = (y : Int) / 256 := by rw [IntKind.wrap_u64]; omega
          go_wp2
          go_round
          case rel => exact ⟨i + 1, by omega, by go_num, congrArg (Value.int .u64) (by rw [← hp.out]; omega)⟩
          case measure => simp [intOf]; omega
        · obtain rfl : i = k % 8 := by omega
          have hi1 : ¬ (((k % 8 : Nat) : Int) < (k : Int) % 8) := by omega
          have hy : x / 256 ^ (k % 8) ≤ x := Nat.div_le_self _ _
          generalize x / 256 ^ (k % 8) = y at *
          go_wp2
          refine ⟨⟨k + 1, by omega, by go_num, hbl.setCell (by simp; omega) _, R0.out.farAt (by omega) _, R1.out.farAt (by omega) _, ?_⟩, by simp [intOf]; omega⟩
          rw [← hput.out, ← hv.out]
          exact R2.out.put (31 - k) _
    · obtain rfl : k = 32 := by omega
      have hE : idF (fun i => if 32 - 32 ≤ i then bytesOf a i else 0) = idF (bytesOf a) := idF_congr _ _ (fun i hi => by rw [if_pos (by omega)])
      rw [hE] at r2
      have hsz := Lib.hid (idF_size (bytesOf a))
      have hz0 := Lib.hid (arrB_size 32 [] (by simp))
      have ho := Lib.hid (idF_one (bytesOf a))
      have R1 : Hid (wr.heap[w.heap.size + 1]? = some (.cells (arrB 32 []) 23 (0, 0))) := r1
      have R2 : Hid (wr.heap[w.heap.size + 1 + 1]? = some (.cells (idF (bytesOf a)) 23 (0, 0))) := r2
      clear r0 r1 r2 hrows hE
      generalize hE2 : idF (bytesOf a) = cs at *
      have HE := Lib.hid hE2
      clear hE2
      generalize arrB 32 [] = zs at *
      go_wp2_with (first
        | ((with_reducible refine wpList_load_row (o := ⟨some 29, _, _, _, _, _⟩) ?_ 23 (.tmp 3) ?_ (w.heap.size + 1 + 1) ?_ 23 cs (0, 0) _ R2.out Tryd.underlying23 ?_ (infoId cs hsz.out) ?_); (rfl); (rfl); (rfl); (rfl))
        | ((with_reducible refine wpList_store_row (o := ⟨none, .store 23 _ _, _, _, _, _⟩) ?_ 23 (.tmp 2) (.tmp 29) ?_ (w.heap.size + 1) cs ?_ ?_ 23 zs R1.out (infoId cs hsz.out) (by rw [hz0.out, hsz.out]) ho.out ?_); (rfl); (rfl); (rfl); (rfl))
        | ((with_reducible refine bodyPost_ret (v := .agg cs) ?_ ?_ ?_); (exact results_cell_row (p := 2) (ty := 23) Tryd.results33 _ _ (w.heap.size + 1) 23 cs (0, 0) _ rfl (setRow_heap _ _ zs cs 23 (0, 0) R1.out) Tryd.underlying23 rfl (infoId cs hsz.out)); (rfl)))
      exact ⟨by rw [HE.out], below_setRow hbl (by omega) _⟩
end Go.Proofs.YtmpjgfecnnefeaaDoor
