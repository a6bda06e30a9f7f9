/- The reference's Div. -/
import Derived.Test.YtcombekbeljflaaWalk6
import Derived.Test.YtcombekbeljflaaRef3
import Derived.BigRegion
namespace Go.Proofs.Ytcombekbeljflaa
open Go.RowKit

theorem DivAt.setA {w u : World} {g a b q l a' : Nat} (h : DivAt w u g a b q l) : DivAt w (u.setRow g (wcs a')) g a' b q l := by
  have := h.lt
  exact ⟨setRow_heap _ _ (wcs a) _ _ _ h.a, (setRow_other _ _ _ _ (by omega)).trans h.b, (setRow_other _ _ _ _ (by omega)).trans h.r, (setRow_other _ _ _ _ (by omega)).trans h.s, (setRow_other _ _ _ _ (by omega)).trans h.q, (setRow_other _ _ _ _ (by omega)).trans h.l, by rw [size_setRow]; exact h.lt, below_setRow h.bel (by omega) _⟩
theorem DivAt.far {w u : World} {g a b q l x i : Nat} (h : DivAt w u g a b q l) (hx : g + 1 + 1 + 1 + 1 + 1 < x) (v : Value) : DivAt w (u.setCell ⟨x, i, none⟩ v) g a b q l := by
  have := h.lt
  have ra : Row u g 24 (wcs a) := h.a
  have rb : Row u (g + 1) 24 (wcs b) := h.b
  have rr : Row u (g + 1 + 1) 24 (wcs 0) := h.r
  have rs : Row u (g + 1 + 1 + 1) 24 (wcs 0) := h.s
  have rq : Row u (g + 1 + 1 + 1 + 1) 24 (wcs q) := h.q
  have rl : Row u (g + 1 + 1 + 1 + 1 + 1) 24 (wcs l) := h.l
  exact ⟨ra.farAt (by omega) _, rb.farAt (by omega) _, rr.farAt (by omega) _, rs.farAt (by omega) _, rq.farAt (by omega) _, rl.farAt (by omega) _, by simpa using h.lt, h.bel.setCell (by simp; omega) _⟩
/-- what lies in memory, with the number x in its own block beside -/
structure DivX (w u : World) (g a b q l x v : Nat) : Prop where
  at' : DivAt w u g a b q l
  box : u.heap[x]? = some (.cells (wcs v) 24 (0, 0))
  gt : g + 1 + 1 + 1 + 1 + 1 < x
theorem DivX.below {w u u' : World} {g a b q l x v : Nat} (h : DivX w u g a b q l x v) (hb : Below u.heap.size u u') : DivX w u' g a b q l x v := by
  have r : Row u x 24 (wcs v) := h.box
  exact ⟨h.at'.below hb, r.below hb r.lt, h.gt⟩
theorem DivX.setA {w u : World} {g a b q l x v a' : Nat} (h : DivX w u g a b q l x v) : DivX w (u.setRow g (wcs a')) g a' b q l x v := ⟨h.at'.setA, (setRow_other _ _ _ _ (by have := h.gt; omega)).trans h.box, h.gt⟩
theorem DivX.setQ {w u : World} {g a b q l x v q' : Nat} (h : DivX w u g a b q l x v) : DivX w (u.setRow (g + 1 + 1 + 1 + 1) (wcs q')) g a b q' l x v := ⟨h.at'.setQ, (setRow_other _ _ _ _ (by have := h.gt; omega)).trans h.box, h.gt⟩
theorem DivX.setL {w u : World} {g a b q l x v l' : Nat} (h : DivX w u g a b q l x v) : DivX w (u.setRow (g + 1 + 1 + 1 + 1 + 1) (wcs l')) g a b q l' x v := ⟨h.at'.setL, (setRow_other _ _ _ _ (by have := h.gt; omega)).trans h.box, h.gt⟩
theorem wc_set_one (v : Nat) (hv : v < Big) (h2 : v % 2 = 0) : (wcs v).setIfInBounds 0 (.int .u64 ((W v 0 : Int) + 1)) = wcs (v + 1) := by
  obtain ⟨x, y, z, u, rfl, hx, hy, hz, hu⟩ := split4 v hv
  have e : mk4 x y z u + 1 = mk4 (x + 1) y z u := by unfold mk4; omega
  have hx2 : x % 2 = 0 := by unfold mk4 at h2; omega
  have ew : W (mk4 x y z u) 0 = x := by rw [W0]; unfold mk4; omega
  rw [e, ew]
  unfold wcs
  rw [wl_mk4 x y z u hx hy hz hu, wl_mk4 (x + 1) y z u (by omega) hy hz hu]
  rfl
theorem W0_even (v : Nat) (h2 : v % 2 = 0) : W v 0 ≤ 18446744073709551614 := by rw [W0]; omega
theorem DivX.one {w u : World} {g a b q l x v : Nat} (h : DivX w u g a b q l x v) (hv : v < Big) (h2 : v % 2 = 0) : DivX w (u.setCell ⟨x, 0, none⟩ (.int .u64 ((W v 0 : Int) + 1))) g a b q l x (v + 1) := by
  have r : Row u x 24 (wcs v) := h.box
  exact ⟨h.at'.far h.gt _, by rw [← wc_set_one v hv h2]; exact r.put 0 _, h.gt⟩
theorem DivAt.oneQ {w u : World} {g a b q l : Nat} (h : DivAt w u g a b q l) (hl : q < Big) (h2 : q % 2 = 0) : DivAt w (u.setCell ⟨g + 1 + 1 + 1 + 1, 0, none⟩ (.int .u64 ((W q 0 : Int) + 1))) g a b (q + 1) l := by
  have := h.lt
  have ra : Row u g 24 (wcs a) := h.a
  have rb : Row u (g + 1) 24 (wcs b) := h.b
  have rr : Row u (g + 1 + 1) 24 (wcs 0) := h.r
  have rs : Row u (g + 1 + 1 + 1) 24 (wcs 0) := h.s
  have rq : Row u (g + 1 + 1 + 1 + 1) 24 (wcs q) := h.q
  have rl : Row u (g + 1 + 1 + 1 + 1 + 1) 24 (wcs l) := h.l
  exact ⟨ra.farAt (by omega) _, rb.farAt (by omega) _, rr.farAt (by omega) _, rs.farAt (by omega) _, by rw [← wc_set_one q hl h2]; exact rq.put 0 _, rl.farAt (by omega) _, by simpa using h.lt, h.bel.setCell (by simp; omega) _⟩
/-- the bits of a moved up by k: the highest one, and what is left -/
def aK (a k : Nat) : Nat := a * 2 ^ k % Big
theorem aK_zero (a : Nat) (h : a < Big) : aK a 0 = a := by unfold aK; rw [Nat.pow_zero, Nat.mul_one, Nat.mod_eq_of_lt h]
theorem aK_lt (a k : Nat) : aK a k < Big := Nat.mod_lt _ Big_pos
theorem aK_step (a k : Nat) : (aK a k + aK a k) % Big = aK a (k + 1) := by
  unfold aK
  rw [← Nat.add_mod, Nat.pow_succ, ← Nat.mul_assoc]
  congr 1
  omega
theorem aK_top (a k : Nat) (hk : k < 256) : (9223372036854775808 ≤ W (aK a k) 3) ↔ bitN a (255 - k) = 1 := by
  have h1 : W (aK a k) 3 = W (a * 2 ^ k) 3 := W_mod _ 3 (by omega)
  have hb : bitN a (255 - k) = 1 ↔ a.testBit (255 - k) = true := by
    unfold bitN
    have t1 := Nat.mod_two_eq_one_iff_testBit_zero (x := a / 2 ^ (255 - k))
    rw [Nat.testBit_div_two_pow, Nat.zero_add] at t1
    exact t1
  have ht : (W (a * 2 ^ k) 3).testBit 63 = a.testBit (255 - k) := by
    rw [W_bit, Nat.testBit_mul_two_pow]
    simp only [show (63 : Nat) < 64 by omega, decide_true, Bool.true_and, show 64 * 3 + 63 = 255 by omega, ge_iff_le, show k ≤ 255 by omega]
  rw [hb, ← ht, h1]
  have hl := W_lt (a * 2 ^ k) 3
  generalize W (a * 2 ^ k) 3 = x at *
  have t2 := Nat.mod_two_eq_one_iff_testBit_zero (x := x / 2 ^ 63)
  rw [Nat.testBit_div_two_pow, Nat.zero_add] at t2
  rw [← t2, show (2 : Nat) ^ 63 = 9223372036854775808 from rfl]
  omega
set_option maxHeartbeats 16000000 in
set_option maxRecDepth 100000 in
theorem rdiv_yes (a b : Nat) (w : World) (ha : a < Big) (hb : b < Big) (hb0 : 0 < b) :
    Calls Try.prog 28 #[.agg (wcs a), .agg (wcs b)] w fun e w' => e = .returned (.tuple #[.agg (wcs (a / b)), .agg (wcs (a % b)), .bool true]) ∧ Below w.heap.size w w' := by
  have HA := Lib.hid ha
  have HB := Lib.hid hb
  have HB0 := Lib.hid hb0
  have heq := eql_zero b hb
  have hz : eqN b 0 = false := by simp [eqN]; omega
  rw [hz] at heq
  clear ha hb hb0 hz
  have R1 : Hid (((((w.alloc (.cells (wcs a) 24)).alloc (.cells (wcs b) 24)).alloc (.cells (wcs 0) 24)).alloc (.cells (wcs 0) 24)).heap[w.heap.size + 1]? = some (.cells (wcs b) 24 (0, 0))) := ((Row.newAt (by simp) 24 _).alloc _).alloc _
  go_enter Try.func28, Try.ntmps28
  go_wp2_with ((with_reducible refine wpList_load_row (o := ⟨some 12, _, _, _, _, _⟩) ?_ 24 (.tmp 3) ?_ (w.heap.size + 1) ?_ 24 (wcs b) (0, 0) _ ?_ Try.underlying24 ?_ (wc_info _) ?_); (rfl); (rfl); (rfl); (exact R1.out); (rfl))
  clear heq R1
  go_loopw [9] (fun i u => ∃ k : Nat, k ≤ 256 ∧ i = .int .i64 k ∧ Hid (DivAt w u w.heap.size (aK a k) b (topN a k / b) (topN a k % b))) (fun i _ => 256 - (intOf i).toNat)
  case atStart =>
    refine ⟨0, by omega, rfl, ?_⟩
    show DivAt _ _ _ _ _ _ _
    rw [top_zero a HA.out, Nat.zero_div, Nat.zero_mod, aK_zero a HA.out]
    exact ⟨((((((Row.new w 24 _).alloc _).alloc _).alloc _).alloc _).alloc _), (((((Row.newAt (by simp) 24 _).alloc _).alloc _).alloc _).alloc _), ((((Row.newAt (by simp) 24 _).alloc _).alloc _).alloc _), (((Row.newAt (by simp) 24 _).alloc _).alloc _), ((Row.newAt (by simp) 24 _).alloc _), (Row.newAt (by simp) 24 _), by simp, by go_grown⟩
  case round =>
    obtain ⟨k, hk, rfl, K0⟩ := hrel
    by_cases hlt : k < 256
    · have hk0 : (0 : Int) ≤ (k : Int) := by omega
      have hlti : (k : Int) < 256 := by omega
      have HD := Lib.hid (div_round a b k HB0.out HB.out _ _ rfl rfl hlt)
      have HLB := Lib.hid (Nat.mod_lt (topN a k) HB0.out)
      have HQ := Lib.hid (Nat.lt_of_le_of_lt (Nat.div_le_self (topN a k) b) (top_lt a k HA.out hk))
      have HAK := Lib.hid (aK_lt a k)
      have HAS := Lib.hid (aK_step a k)
      have HAT := Lib.hid (aK_top a k hlt)
      generalize topN a k / b = q at *
      generalize topN a k % b = l at *
      generalize aK a k = A at *
      have HL : Hid (l < Big) := Nat.lt_trans HLB.out HB.out
      go_wp2_with (first
        | ((with_reducible refine wpList_load_row (o := ⟨some 22, _, _, _, _, _⟩) ?_ 24 (.tmp 8) ?_ (w.heap.size + 1 + 1 + 1 + 1 + 1) ?_ 24 (wcs (l)) (0, 0) _ K0.out.l Try.underlying24 ?_ (wc_info _) ?_); (rfl); (rfl); (rfl); (rfl))
        | ((with_reducible refine wpList_load_row (o := ⟨some 23, _, _, _, _, _⟩) ?_ 24 (.tmp 8) ?_ (w.heap.size + 1 + 1 + 1 + 1 + 1) ?_ 24 (wcs (l)) (0, 0) _ K0.out.l Try.underlying24 ?_ (wc_info _) ?_); (rfl); (rfl); (rfl); (rfl)))
      refine (radd_any l l wr HL.out HL.out).mono ?_
      rintro e w1 ⟨rfl, hbel⟩
      rw [show l + l = 2 * l by omega]
      have K1 := Lib.hid (K0.out.below hbel)
      have hs1 := hbel.size
      have hl1 : Hid (2 * l % Big < Big) := Nat.mod_lt _ Big_pos
      have hl2 : Hid (2 * l % Big % 2 = 0) := by show _ = _; unfold Big; omega
      obtain ⟨c, hc⟩ : ∃ c, bitN l 255 = c := ⟨_, rfl⟩
      have HDC := Lib.hid (div_cases a b k l c (2 * l % Big) HLB.out HB.out hc rfl)
      have HCS : Hid (decide (2 * l < Big) = (c == 0)) := by
        show _ = _
        have hl := HL.out
        rw [Bool.eq_iff_iff]
        simp only [decide_eq_true_eq, beq_iff_eq]
        rw [← hc]
        unfold bitN
        rw [show 2 ^ 255 = 57896044618658097711785492504343953926634992332820282019728792003956564819968 from rfl]
        unfold Big at *
        omega
      rw [HCS.out]
      clear hc HCS
      generalize 2 * l % Big = l1 at *
      have KX : Hid (DivX w (w1.alloc (.cells (wcs l1) 24)) w.heap.size A b q l w1.heap.size l1) := ⟨K1.out.alloc _, Row.new w1 24 _, by have := K1.out.lt; omega⟩
      clear K1 hbel K0
      go_upto_region 9 with (first
        | ((with_reducible refine wpList_store_row (o := ⟨none, .store 24 (.tmp 10) _, _, _, _, _⟩) ?_ 24 (.tmp 10) (.tmp 25) ?_ w1.heap.size (wcs l1) ?_ ?_ 24 _ (heap_alloc_last w1 _) (wc_info _) ?_ (wc_one _) ?_); (rfl); (rfl); (rfl); (rfl); (rw [wc_size]; rfl); rw [World.setRow_alloc_new]))
      generalize w1.heap.size = gx at *
      clear hs1
      generalize w1.alloc (.cells (wcs l1) 24) = w2 at *
      try rw [put_none]
      have ra : Row w2 w.heap.size 24 (wcs A) := KX.out.at'.a
      have rx : Row w2 gx 24 (wcs l1) := KX.out.box
      have c3 : w2.cell? ⟨w.heap.size, 3, none⟩ = some (.int .u64 (W A 3)) := (ra.cell 3).trans (wc_get A 3 (by decide))
      have x0 : w2.cell? ⟨gx, 0, none⟩ = some (.int .u64 (W l1 0)) := (rx.cell 0).trans (wc_get l1 0 (by decide))
      have xf : w2.frozen? ⟨gx, 0, none⟩ = false := rx.frozen 0
      have hev := W0_even l1 hl2.out
      clear ra rx
      go_upto_if 29 with fail
      go_cut [] (fun wx => Hid (DivX w wx w.heap.size A b q l gx (l1 + bitN a (255 - k))))
      case first =>
        have hbit := bitN_lt a (255 - k)
        have KX1 := Lib.hid (KX.out.one hl1.out hl2.out)
        generalize W l1 0 = wl0 at *
        have hw1 : IntKind.u64.wrap ((wl0 : Int) + 1) = (wl0 : Int) + 1 := by rw [IntKind.wrap_u64]; omega
        have hT : Hid (decide ((9223372036854775808 : Int) ≤ (W A 3 : Int)) = (bitN a (255 - k) == 1)) := by
          show _ = _
          rw [Bool.eq_iff_iff]
          simp only [decide_eq_true_eq, beq_iff_eq]
          rw [← HAT.out]
          omega
        rw [hT.out]
        clear hT
        have hbc : bitN a (255 - k) = 0 ∨ bitN a (255 - k) = 1 := by omega
        clear hbit
        rcases hbc with hb0' | hb1'
        · rw [hb0']
          rw [show ((0 : Nat) == 1) = false from rfl]
          have HB0' := Lib.hid hb0'
          clear hb0'
          go_wp2
          go_meet
          show DivX _ _ _ _ _ _ _ _ _
          first | exact KX.out | (rw [HB0'.out, Nat.add_zero]; exact KX.out)
        · rw [hb1']
          rw [show ((1 : Nat) == 1) = true from rfl]
          have HB1' := Lib.hid hb1'
          clear hb1'
          go_wp2
          go_meet
          show DivX _ _ _ _ _ _ _ _ _
          first | exact KX1.out | (rw [HB1'.out]; exact KX1.out)
      case rest =>
        have K3 := hcut
        clear hcut c3 x0 xf hev KX hl1 hl2 HAT
        generalize bitN a (255 - k) = e at *
        generalize hv : l1 + e = v at *
        have HV := Lib.hid hv
        clear hv
        have hv1 : Hid (v < Big) := HDC.out.1
        have hq1 : Hid (2 * q < Big) := by
          show _ < _
          have h := HQ.out
          rw [Big_eq]
          have : 2 ^ (k + 1) ≤ 2 ^ 256 := Nat.pow_le_pow_right (by omega) (by omega)
          rw [Nat.pow_succ] at this
          omega
        go_wp2_with (first
        | ((with_reducible refine wpList_load_row (o := ⟨some 35, _, _, _, _, _⟩) ?_ 24 (.tmp 2) ?_ (w.heap.size) ?_ 24 (wcs (A)) (0, 0) _ K3.out.at'.a Try.underlying24 ?_ (wc_info _) ?_); (rfl); (rfl); (rfl); (rfl))
        | ((with_reducible refine wpList_load_row (o := ⟨some 36, _, _, _, _, _⟩) ?_ 24 (.tmp 2) ?_ (w.heap.size) ?_ 24 (wcs (A)) (0, 0) _ K3.out.at'.a Try.underlying24 ?_ (wc_info _) ?_); (rfl); (rfl); (rfl); (rfl)))
        refine (radd_any A A wc HAK.out HAK.out).mono ?_
        rintro e' w4 ⟨rfl, hbel⟩
        rw [HAS.out]
        have K4 := Lib.hid (K3.out.below hbel)
        have K5 : Hid (DivX w (w4.setRow w.heap.size (wcs (aK a (k + 1)))) w.heap.size (aK a (k + 1)) b q l gx v) := K4.out.setA
        have KA : Hid (w4.heap[w.heap.size]? = some (.cells (wcs A) 24 (0, 0))) := K4.out.at'.a
        clear hbel K3 K4
        go_wp2_with (first
        | ((with_reducible refine wpList_store_row (o := ⟨none, .store 24 (.tmp 2) _, _, _, _, _⟩) ?_ 24 (.tmp 2) (.tmp 38) ?_ (w.heap.size) (wcs (aK a (k + 1))) ?_ ?_ 24 (wcs (A)) KA.out (wc_info _) (by rw [wc_size, wc_size]) (wc_one _) ?_); (rfl); (rfl); (rfl); (rfl))
        | ((with_reducible refine wpList_load_row (o := ⟨some 41, _, _, _, _, _⟩) ?_ 24 (.tmp 7) ?_ (w.heap.size + 1 + 1 + 1 + 1) ?_ 24 (wcs (q)) (0, 0) _ K5.out.at'.q Try.underlying24 ?_ (wc_info _) ?_); (rfl); (rfl); (rfl); (rfl))
        | ((with_reducible refine wpList_load_row (o := ⟨some 42, _, _, _, _, _⟩) ?_ 24 (.tmp 7) ?_ (w.heap.size + 1 + 1 + 1 + 1) ?_ 24 (wcs (q)) (0, 0) _ K5.out.at'.q Try.underlying24 ?_ (wc_info _) ?_); (rfl); (rfl); (rfl); (rfl)))
        clear KA
        generalize w4.setRow w.heap.size (wcs (aK a (k + 1))) = w5 at *
        refine (radd_any q q w5 (by have := hq1.out; omega) (by have := hq1.out; omega)).mono ?_
        rintro e' w6 ⟨rfl, hbel⟩
        rw [show q + q = 2 * q by omega, Nat.mod_eq_of_lt hq1.out]
        have K6 := Lib.hid (K5.out.below hbel)
        have K7a : Hid (DivX w (w6.setRow (w.heap.size + 1 + 1 + 1 + 1) (wcs (2 * q))) w.heap.size (aK a (k + 1)) b (2 * q) l gx v) := K6.out.setQ
        have KQ : Hid (w6.heap[w.heap.size + 1 + 1 + 1 + 1]? = some (.cells (wcs q) 24 (0, 0))) := K6.out.at'.q
        clear hbel K5 K6
        have K7 : Hid (DivX w ((w6.setRow (w.heap.size + 1 + 1 + 1 + 1) (wcs (2 * q))).setRow (w.heap.size + 1 + 1 + 1 + 1 + 1) (wcs v)) w.heap.size (aK a (k + 1)) b (2 * q) v gx v) := K7a.out.setL
        go_upto_region 14 with (first
        | ((with_reducible refine wpList_store_row (o := ⟨none, .store 24 (.tmp 7) _, _, _, _, _⟩) ?_ 24 (.tmp 7) (.tmp 44) ?_ (w.heap.size + 1 + 1 + 1 + 1) (wcs (2 * q)) ?_ ?_ 24 (wcs (q)) KQ.out (wc_info _) (by rw [wc_size, wc_size]) (wc_one _) ?_); (rfl); (rfl); (rfl); (rfl))
        | ((with_reducible refine wpList_load_row (o := ⟨some 46, _, _, _, _, _⟩) ?_ 24 (.tmp 10) ?_ (gx) ?_ 24 (wcs (v)) (0, 0) _ K7a.out.box Try.underlying24 ?_ (wc_info _) ?_); (rfl); (rfl); (rfl); (rfl))
        | ((with_reducible refine wpList_store_row (o := ⟨none, .store 24 (.tmp 8) _, _, _, _, _⟩) ?_ 24 (.tmp 8) (.tmp 46) ?_ (w.heap.size + 1 + 1 + 1 + 1 + 1) (wcs (v)) ?_ ?_ 24 (wcs (l)) K7a.out.at'.l (wc_info _) (by rw [wc_size, wc_size]) (wc_one _) ?_); (rfl); (rfl); (rfl); (rfl)))
        clear KQ K7a
        generalize (w6.setRow (w.heap.size + 1 + 1 + 1 + 1) (wcs (2 * q))).setRow (w.heap.size + 1 + 1 + 1 + 1 + 1) (wcs v) = w7 at *
        try rw [put_none]
        have K7d := Lib.hid K7.out.at'
        clear K7 HLB HQ HV HAK HAS
        have hcm : Hid (decide (0 ≤ cmpI v b) = decide (b ≤ v)) := by
          show _ = _
          rw [decide_eq_decide]; unfold cmpI; split
          · omega
          · split <;> omega
        rcases HDC.out.2 with ⟨hc, hle, hbv, hmod⟩ | ⟨hc, hle, hbv, hmod⟩ | ⟨hc, hle, hbv, hmod⟩
        · have hcb : (c == 0) = false := by rw [hc]; rfl
          have hnew : Hid (topN a (k + 1) / b = 2 * q + 1 ∧ topN a (k + 1) % b = (v + (Big - b)) % Big) := by
            show _ ∧ _
            rw [hmod]
            exact HD.out.1 hbv
          rw [hcb]
          clear hcb hmod hbv hle hc HD HDC hcm
          go_wp2_with (first
        | ((with_reducible refine wpList_load_row (o := ⟨some 56, _, _, _, _, _⟩) ?_ 24 (.tmp 8) ?_ (w.heap.size + 1 + 1 + 1 + 1 + 1) ?_ 24 (wcs (v)) (0, 0) _ K7d.out.l Try.underlying24 ?_ (wc_info _) ?_); (rfl); (rfl); (rfl); (rfl))
        | ((with_reducible refine wpList_load_row (o := ⟨some 57, _, _, _, _, _⟩) ?_ 24 (.tmp 3) ?_ (w.heap.size + 1) ?_ 24 (wcs (b)) (0, 0) _ K7d.out.b Try.underlying24 ?_ (wc_info _) ?_); (rfl); (rfl); (rfl); (rfl)))
          refine (rsub_any v b w7 hv1.out HB.out).mono ?_
          rintro e' w9 ⟨rfl, hbel⟩
          have K8 := Lib.hid (K7d.out.below hbel)
          clear hbel K7d
          have K9 : Hid (DivAt w (w9.setRow (w.heap.size + 1 + 1 + 1 + 1 + 1) (wcs ((v + (Big - b)) % Big))) w.heap.size (aK a (k + 1)) b (2 * q) ((v + (Big - b)) % Big)) := K8.out.setL
          have KL : Hid (w9.heap[w.heap.size + 1 + 1 + 1 + 1 + 1]? = some (.cells (wcs v) 24 (0, 0))) := K8.out.l
          clear K8
          generalize (v + (Big - b)) % Big = r at *
          go_upto_region 16 with (((with_reducible refine wpList_store_row (o := ⟨none, .store 24 (.tmp 8) _, _, _, _, _⟩) ?_ 24 (.tmp 8) (.tmp 59) ?_ (w.heap.size + 1 + 1 + 1 + 1 + 1) (wcs (r)) ?_ ?_ 24 (wcs (v)) KL.out (wc_info _) (by rw [wc_size, wc_size]) (wc_one _) ?_); (rfl); (rfl); (rfl); (rfl)))
          clear KL
          generalize w9.setRow (w.heap.size + 1 + 1 + 1 + 1 + 1) (wcs r) = w10 at *
          try rw [put_none]
          have rq : Row w10 (w.heap.size + 1 + 1 + 1 + 1) 24 (wcs (2 * q)) := K9.out.q
          have d0 : w10.cell? ⟨w.heap.size + 1 + 1 + 1 + 1, 0, none⟩ = some (.int .u64 (W (2 * q) 0)) := (rq.cell 0).trans (wc_get (2 * q) 0 (by decide))
          have f0 : w10.frozen? ⟨w.heap.size + 1 + 1 + 1 + 1, 0, none⟩ = false := rq.frozen 0
          have hev := W0_even (2 * q) (by omega)
          have K10 := Lib.hid (K9.out.oneQ hq1.out (by omega))
          clear rq K9
          generalize W (2 * q) 0 = wq at *
          have hw1 : IntKind.u64.wrap ((wq : Int) + 1) = (wq : Int) + 1 := by rw [IntKind.wrap_u64]; omega
          go_wp2
          go_roundw
          case rel =>
            refine ⟨k + 1, by omega, by go_num, ?_⟩
            show DivAt _ _ _ _ _ _ _
            rw [hnew.out.1, hnew.out.2]
            exact K10.out
          case measure => simp [intOf]; omega
        · have hcb : (c == 0) = true := by rw [hc]; rfl
          have hle' : decide (b ≤ v) = true := by simpa using hle
          have hnew : Hid (topN a (k + 1) / b = 2 * q + 1 ∧ topN a (k + 1) % b = (v + (Big - b)) % Big) := by
            show _ ∧ _
            rw [hmod]
            exact HD.out.1 hbv
          rw [hcb]
          have hc1 := hcm.out
          rw [hle'] at hc1
          have hc2 : 0 ≤ cmpI v b := by simpa using hc1
          clear hcb hle' hmod hbv hle hc HD HDC hcm
          go_wp2_with (first
        | ((with_reducible refine wpList_load_guarded (o := ⟨some 50, _, _, _, _, _⟩) ?_ 24 (.tmp 8) ?_ (w.heap.size + 1 + 1 + 1 + 1 + 1) ?_ 24 (wcs (v)) (0, 0) _ K7d.out.l Try.underlying24 ?_ (wc_info _) ?_); (rfl); (rfl); (rfl); (rfl))
        | ((with_reducible refine wpList_load_guarded (o := ⟨some 51, _, _, _, _, _⟩) ?_ 24 (.tmp 3) ?_ (w.heap.size + 1) ?_ 24 (wcs (b)) (0, 0) _ K7d.out.b Try.underlying24 ?_ (wc_info _) ?_); (rfl); (rfl); (rfl); (rfl)))
          refine (rcmp_any v b w7 hv1.out HB.out).mono ?_
          rintro e' w8 ⟨rfl, hbel⟩
          have K8' := Lib.hid (K7d.out.below hbel)
          clear hbel K7d
          go_wp2_with (first
        | ((with_reducible refine wpList_load_row (o := ⟨some 56, _, _, _, _, _⟩) ?_ 24 (.tmp 8) ?_ (w.heap.size + 1 + 1 + 1 + 1 + 1) ?_ 24 (wcs (v)) (0, 0) _ K8'.out.l Try.underlying24 ?_ (wc_info _) ?_); (rfl); (rfl); (rfl); (rfl))
        | ((with_reducible refine wpList_load_row (o := ⟨some 57, _, _, _, _, _⟩) ?_ 24 (.tmp 3) ?_ (w.heap.size + 1) ?_ 24 (wcs (b)) (0, 0) _ K8'.out.b Try.underlying24 ?_ (wc_info _) ?_); (rfl); (rfl); (rfl); (rfl)))
          refine (rsub_any v b w8 hv1.out HB.out).mono ?_
          rintro e' w9 ⟨rfl, hbel⟩
          have K8 := Lib.hid (K8'.out.below hbel)
          clear hbel K8' hc1 hc2
          have K9 : Hid (DivAt w (w9.setRow (w.heap.size + 1 + 1 + 1 + 1 + 1) (wcs ((v + (Big - b)) % Big))) w.heap.size (aK a (k + 1)) b (2 * q) ((v + (Big - b)) % Big)) := K8.out.setL
          have KL : Hid (w9.heap[w.heap.size + 1 + 1 + 1 + 1 + 1]? = some (.cells (wcs v) 24 (0, 0))) := K8.out.l
          clear K8
          generalize (v + (Big - b)) % Big = r at *
          go_upto_region 16 with (((with_reducible refine wpList_store_row (o := ⟨none, .store 24 (.tmp 8) _, _, _, _, _⟩) ?_ 24 (.tmp 8) (.tmp 59) ?_ (w.heap.size + 1 + 1 + 1 + 1 + 1) (wcs (r)) ?_ ?_ 24 (wcs (v)) KL.out (wc_info _) (by rw [wc_size, wc_size]) (wc_one _) ?_); (rfl); (rfl); (rfl); (rfl)))
          clear KL
          generalize w9.setRow (w.heap.size + 1 + 1 + 1 + 1 + 1) (wcs r) = w10 at *
          try rw [put_none]
          have rq : Row w10 (w.heap.size + 1 + 1 + 1 + 1) 24 (wcs (2 * q)) := K9.out.q
          have d0 : w10.cell? ⟨w.heap.size + 1 + 1 + 1 + 1, 0, none⟩ = some (.int .u64 (W (2 * q) 0)) := (rq.cell 0).trans (wc_get (2 * q) 0 (by decide))
          have f0 : w10.frozen? ⟨w.heap.size + 1 + 1 + 1 + 1, 0, none⟩ = false := rq.frozen 0
          have hev := W0_even (2 * q) (by omega)
          have K10 := Lib.hid (K9.out.oneQ hq1.out (by omega))
          clear rq K9
          generalize W (2 * q) 0 = wq at *
          have hw1 : IntKind.u64.wrap ((wq : Int) + 1) = (wq : Int) + 1 := by rw [IntKind.wrap_u64]; omega
          go_wp2
          go_roundw
          case rel =>
            refine ⟨k + 1, by omega, by go_num, ?_⟩
            show DivAt _ _ _ _ _ _ _
            rw [hnew.out.1, hnew.out.2]
            exact K10.out
          case measure => simp [intOf]; omega
        · have hcb : (c == 0) = true := by rw [hc]; rfl
          have hle' : decide (b ≤ v) = false := by simpa using hle
          have hnew : Hid (topN a (k + 1) / b = 2 * q ∧ topN a (k + 1) % b = v) := by
            show _ ∧ _
            rw [hmod]
            exact HD.out.2 hbv
          rw [hcb]
          have hc1 := hcm.out
          rw [hle'] at hc1
          have hc2 : ¬ 0 ≤ cmpI v b := by simpa using hc1
          clear hcb hle' hmod hbv hle hc HD HDC hcm
          go_wp2_with (first
        | ((with_reducible refine wpList_load_guarded (o := ⟨some 50, _, _, _, _, _⟩) ?_ 24 (.tmp 8) ?_ (w.heap.size + 1 + 1 + 1 + 1 + 1) ?_ 24 (wcs (v)) (0, 0) _ K7d.out.l Try.underlying24 ?_ (wc_info _) ?_); (rfl); (rfl); (rfl); (rfl))
        | ((with_reducible refine wpList_load_guarded (o := ⟨some 51, _, _, _, _, _⟩) ?_ 24 (.tmp 3) ?_ (w.heap.size + 1) ?_ 24 (wcs (b)) (0, 0) _ K7d.out.b Try.underlying24 ?_ (wc_info _) ?_); (rfl); (rfl); (rfl); (rfl)))
          refine (rcmp_any v b w7 hv1.out HB.out).mono ?_
          rintro e' w8 ⟨rfl, hbel⟩
          have K8 := Lib.hid (K7d.out.below hbel)
          clear hbel K7d
          go_wp2
          go_roundw
          case rel =>
            refine ⟨k + 1, by omega, by go_num, ?_⟩
            show DivAt _ _ _ _ _ _ _
            rw [hnew.out.1, hnew.out.2]
            exact K8.out
          case measure => simp [intOf]; omega
    · obtain rfl : k = 256 := by omega
      have K : Hid (DivAt w wr w.heap.size (aK a 256) b (a / b) (a % b)) := by
        show DivAt _ _ _ _ _ _ _
        have h := K0.out
        rw [top_all] at h
        exact h
      clear K0
      have hbel := K.out.bel
      have eq1 := Lib.hid (wc_cells (a / b))
      have eq2 := Lib.hid (wc_cells (a % b))
      have rr : Row wr (w.heap.size + 1 + 1) 24 (wcs 0) := K.out.r
      have rs : Row wr (w.heap.size + 1 + 1 + 1) 24 (wcs 0) := K.out.s
      have rq : Row wr (w.heap.size + 1 + 1 + 1 + 1) 24 (wcs (a / b)) := K.out.q
      have rl : Row wr (w.heap.size + 1 + 1 + 1 + 1 + 1) 24 (wcs (a % b)) := K.out.l
      have q0 := (rq.cell 0).trans (wc_get (a / b) 0 (by decide))
      have l0 := (rl.cell 0).trans (wc_get (a % b) 0 (by decide))
      have r0 : wr.cell? ⟨w.heap.size + 1 + 1, 0, none⟩ = some (.int .u64 0) := (rr.cell 0).trans rfl
      have s0 : wr.cell? ⟨w.heap.size + 1 + 1 + 1, 0, none⟩ = some (.int .u64 0) := (rs.cell 0).trans rfl
      have fr0 := rr.frozen 0
      have fs0 := rs.frozen 0
      have q1 := (rq.cell 1).trans (wc_get (a / b) 1 (by decide))
      have l1 := (rl.cell 1).trans (wc_get (a % b) 1 (by decide))
      have r1 : wr.cell? ⟨w.heap.size + 1 + 1, 1, none⟩ = some (.int .u64 0) := (rr.cell 1).trans rfl
      have s1 : wr.cell? ⟨w.heap.size + 1 + 1 + 1, 1, none⟩ = some (.int .u64 0) := (rs.cell 1).trans rfl
      have fr1 := rr.frozen 1
      have fs1 := rs.frozen 1
      have q2 := (rq.cell 2).trans (wc_get (a / b) 2 (by decide))
      have l2 := (rl.cell 2).trans (wc_get (a % b) 2 (by decide))
      have r2 : wr.cell? ⟨w.heap.size + 1 + 1, 2, none⟩ = some (.int .u64 0) := (rr.cell 2).trans rfl
      have s2 : wr.cell? ⟨w.heap.size + 1 + 1 + 1, 2, none⟩ = some (.int .u64 0) := (rs.cell 2).trans rfl
      have fr2 := rr.frozen 2
      have fs2 := rs.frozen 2
      have q3 := (rq.cell 3).trans (wc_get (a / b) 3 (by decide))
      have l3 := (rl.cell 3).trans (wc_get (a % b) 3 (by decide))
      have r3 : wr.cell? ⟨w.heap.size + 1 + 1, 3, none⟩ = some (.int .u64 0) := (rr.cell 3).trans rfl
      have s3 : wr.cell? ⟨w.heap.size + 1 + 1 + 1, 3, none⟩ = some (.int .u64 0) := (rs.cell 3).trans rfl
      have fr3 := rr.frozen 3
      have fs3 := rs.frozen 3
      have RR := Lib.hid rr
      have RS := Lib.hid rs
      clear rr rs rq rl K
      generalize W (a / b) 0 = x0 at *
      generalize W (a / b) 1 = x1 at *
      generalize W (a / b) 2 = x2 at *
      generalize W (a / b) 3 = x3 at *
      generalize W (a % b) 0 = y0 at *
      generalize W (a % b) 1 = y1 at *
      generalize W (a % b) 2 = y2 at *
      generalize W (a % b) 3 = y3 at *
      go_wp2_with fail
      go_region
      have F1 := Lib.hid ((((((((RR.out.put 0 (.int .u64 x0)).put 1 (.int .u64 x1)).put 2 (.int .u64 x2)).put 3 (.int .u64 x3)).farAt (g' := w.heap.size + 1 + 1 + 1) (i := 0) (by omega) (.int .u64 y0)).farAt (g' := w.heap.size + 1 + 1 + 1) (i := 1) (by omega) (.int .u64 y1)).farAt (g' := w.heap.size + 1 + 1 + 1) (i := 2) (by omega) (.int .u64 y2)).farAt (g' := w.heap.size + 1 + 1 + 1) (i := 3) (by omega) (.int .u64 y3)).drew
      have F2 := Lib.hid ((((((((RS.out.farAt (g' := w.heap.size + 1 + 1) (i := 0) (by omega) (.int .u64 x0)).farAt (g' := w.heap.size + 1 + 1) (i := 1) (by omega) (.int .u64 x1)).farAt (g' := w.heap.size + 1 + 1) (i := 2) (by omega) (.int .u64 x2)).farAt (g' := w.heap.size + 1 + 1) (i := 3) (by omega) (.int .u64 x3)).put 0 (.int .u64 y0)).put 1 (.int .u64 y1)).put 2 (.int .u64 y2)).put 3 (.int .u64 y3)).drew
      clear q0 q1 q2 q3 l0 l1 l2 l3 r0 r1 r2 r3 s0 s1 s2 s3 fr0 fr1 fr2 fr3 fs0 fs1 fs2 fs3
      go_wp2_with ((with_reducible refine bodyPost_ret (v := .tuple #[.agg #[.int .u64 x0, .int .u64 x1, .int .u64 x2, .int .u64 x3], .agg #[.int .u64 y0, .int .u64 y1, .int .u64 y2, .int .u64 y3], .bool true]) ?_ ?_ ?_); (exact results_rows_slot (p := 4) (p' := 5) (q := 6) (ty := 24) Try.results28 _ _ (w.heap.size + 1 + 1) (w.heap.size + 1 + 1 + 1) 24 #[.int .u64 x0, .int .u64 x1, .int .u64 x2, .int .u64 x3] #[.int .u64 y0, .int .u64 y1, .int .u64 y2, .int .u64 y3] (0, 0) _ rfl rfl _ rfl F1.out F2.out Try.underlying24 rfl (infoW _ rfl) (infoW _ rfl)); (rfl))
      refine ⟨by rw [eq1.out, eq2.out], ?_⟩
      refine Below.drew ?_
      repeat (refine Below.setCell ?_ (by simp; omega) _)
      exact hbel
set_option maxHeartbeats 8000000 in
theorem rdiv_no (a : Nat) (w : World) :
    Calls Try.prog 28 #[.agg (wcs a), .agg (wcs 0)] w fun e w' => e = .returned (.tuple #[.agg (wcs 0), .agg (wcs 0), .bool false]) ∧ Below w.heap.size w w' := by
  have heq := eql_zero 0 Big_pos
  rw [show eqN 0 0 = true from rfl] at heq
  have R1 : Hid (((((w.alloc (.cells (wcs a) 24)).alloc (.cells (wcs 0) 24)).alloc (.cells (wcs 0) 24)).alloc (.cells (wcs 0) 24)).heap[w.heap.size + 1]? = some (.cells (wcs 0) 24 (0, 0))) := ((Row.newAt (by simp) 24 _).alloc _).alloc _
  generalize hz : wcs 0 = z at *
  have HZ := Lib.hid hz
  have hi := Lib.hid (hz ▸ wc_info 0)
  clear hz
  go_enter Try.func28, Try.ntmps28
  go_wp2_with ((with_reducible refine wpList_load_row (o := ⟨some 12, _, _, _, _, _⟩) ?_ 24 (.tmp 3) ?_ (w.heap.size + 1) ?_ 24 z (0, 0) _ ?_ Try.underlying24 ?_ hi.out ?_); (rfl); (rfl); (rfl); (rw [← HZ.out] at R1 ⊢; exact R1.out); (rfl))
  go_returns
  exact ⟨by rw [← HZ.out]; rfl, by go_grown⟩
end Go.Proofs.Ytcombekbeljflaa
