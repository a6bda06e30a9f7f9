/- Part of a proof. -/
import Derived.Test.YtcodmedgkboohaaDoorCoinBackPa
namespace Go.Proofs.YtcodmedgkboohaaDoor
set_option maxRecDepth 8000
open Go.RowKit

set_option maxRecDepth 20000 in
set_option maxHeartbeats 8000000 in
theorem law_backX_fewt (H : CoinC) (t s : TxM) (b : List Int) (A : Option Addr) (n c : Nat) (w : World) (kt : TxOk w t) (ks : TxOk w s) (hl : b.length = n) (hnc : n ≤ c) (hcm : c ≤ maxLen) (hB : isB b) (hx : Bytes w w.heap.size A b) (ht : Tables w) (k1 : fewX t.r = false) :
    Calls Tryd.prog 4 #[txV t, txV s, .slice A n c] w fun e w' => e = .returned (.bool true) ∧ Below w.heap.size w w' := by
  have HN63 : Hid (n < 9223372036854775808) := by show _ < _; unfold maxLen at hcm; omega
  have HF_t : Hid (fewX t.r = false) := k1
  clear k1
  have E0 : Hid (EnvX w ((w.alloc (.cells (txA t) 25)).alloc (.cells (txA s) 25)) [(w.heap.size + 1, Obj.cells (txA s) 25 (0, 0)), (w.heap.size, Obj.cells (txA t) 25 (0, 0))]) := (EnvX.start w).two _ _
  have HAW := Lib.hid (cawake_any H ((w.alloc (.cells (txA t) 25)).alloc (.cells (txA s) 25)) (ht.below (EnvX.bel E0.out)))
  have HT := Lib.hid ht
  have HH := Lib.hid H
  have J_kt := Lib.hid kt
  have J_ks := Lib.hid ks
  have J_hx := Lib.hid hx
  clear ht H kt ks hx hl hnc hcm hB
  unfold txV
  go_enter Tryd.func4, Tryd.ntmps4
  go_upto_region 1 with (fail)
  generalize ((w.alloc (.cells (txA t) 25)).alloc (.cells (txA s) 25)) = W at *
  go_wp2_with fail
  refine HAW.out.mono ?_
  rintro e w1 ⟨rfl, hb1⟩
  have HB1 := Lib.hid (EnvX.below E0.out hb1).bel
  have E1 : Hid (EnvX w1 w1 [(w.heap.size + 1, Obj.cells (txA s) 25 (0, 0)), (w.heap.size, Obj.cells (txA t) 25 (0, 0))]) := ⟨Below.refl _ _, (EnvX.below E0.out hb1).box⟩
  have HT1 := Lib.hid (HT.out.below HB1.out)
  have K_kt := Lib.hid (J_kt.out.up HB1.out)
  have K_ks := Lib.hid (J_ks.out.up HB1.out)
  have K_hx := Lib.hid (J_hx.out.up HB1.out)
  clear hb1 E0 HAW HT J_kt J_ks J_hx
  go_upto_region 2 with (fail)
  refine wp_region_Hx (w0 := w1) [0, 1, 2] [(w.heap.size + 1, Obj.cells (txA s) 25 (0, 0)), (w.heap.size, Obj.cells (txA t) 25 (0, 0))] rfl E1.out ?_
  refine lexH_phase [0, 1, 2] [] ?_
  have hw1 : EnvX w1 _ [(w.heap.size + 1, Obj.cells (txA s) 25 (0, 0)), (w.heap.size, Obj.cells (txA t) 25 (0, 0))] := E1.out
  have hone := @EnvC.one _ _ _ hw1
  (refine wpG_val (v := txV t) rfl rfl (fun u hu => load_any_op u (box_tx hu (List.Mem.tail _ (List.Mem.head _))) rfl) ?_ hw1; intro K hK; go_big_quiet_op; go_big_quiet_on)
  (refine wpG_call (f := 10) (args := #[txV t]) (v := .bool false) rfl rfl rfl Tryd.func10 rfl rfl (fun u hu => by have h1 := few_any t u (K_kt.out.up (EnvX.bel hu)); rwa [HF_t.out] at h1) ?_ hw1; intro K hK; go_big_quiet_op; go_big_quiet_on)
  (refine wpG_op rfl rfl rfl ?_; intro K hK; go_big_quiet_op; go_big_quiet_on)
  clear hone hw1
  refine wpG_nil ?_
  intro u3 E2'
  have EX2 := Lib.hid E2'
  clear E2'
  go_upto_region 3 with (fail)
  refine wp_region_Hx (w0 := w1) [0, 1, 2] [(w.heap.size + 1, Obj.cells (txA s) 25 (0, 0)), (w.heap.size, Obj.cells (txA t) 25 (0, 0))] rfl EX2.out ?_
  refine lexH_phase [0, 1, 2] [] ?_
  have hw4 : EnvX w1 _ [(w.heap.size + 1, Obj.cells (txA s) 25 (0, 0)), (w.heap.size, Obj.cells (txA t) 25 (0, 0))] := EX2.out
  have hone := @EnvC.one _ _ _ hw4
  (refine wpG_val (v := txV s) rfl rfl (fun u hu => load_any_op u (box_tx hu (List.Mem.head _)) rfl) ?_ hw4; intro K hK; go_big_quiet_op; go_big_quiet_on)
  (refine wpG_call (f := 10) (args := #[txV s]) (v := .bool (fewX s.r)) rfl rfl rfl Tryd.func10 rfl rfl (fun u hu => few_any s u (K_ks.out.up (EnvX.bel hu))) ?_ hw4; intro K hK; go_big_quiet_op; go_big_quiet_on)
  (refine wpG_op rfl rfl rfl ?_; intro K hK; go_big_quiet_op; go_big_quiet_on)
  clear hone hw4
  refine wpG_nil ?_
  intro u6 E2'
  have EX5 := Lib.hid E2'
  clear E2'
  go_upto_region 4 with (fail)
  refine wp_region_Hx (w0 := w1) [0, 1, 2, 3, 4, 5, 6, 7, 8, 9, 10, 11, 12, 13, 14] [(w.heap.size + 1, Obj.cells (txA s) 25 (0, 0)), (w.heap.size, Obj.cells (txA t) 25 (0, 0))] rfl EX5.out ?_
  refine lexH_phase [0, 1, 2, 3, 4, 5, 6, 7, 8, 9, 10, 11, 12, 13, 14] [] ?_
  have hw7 : EnvX w1 _ [(w.heap.size + 1, Obj.cells (txA s) 25 (0, 0)), (w.heap.size, Obj.cells (txA t) 25 (0, 0))] := EX5.out
  have hone := @EnvC.one _ _ _ hw7
  (refine wpG_op rfl rfl rfl ?_; intro K hK; go_big_quiet_op; go_big_quiet_on)
  (refine wpG_op rfl rfl rfl ?_; intro K hK; go_big_quiet_op; go_big_quiet_on)
  (refine wpG_op rfl rfl rfl ?_; intro K hK; go_big_quiet_op; go_big_quiet_on)
  (refine wpG_op rfl rfl rfl ?_; intro K hK; go_big_quiet_op; go_big_quiet_on)
  (refine wpG_op rfl rfl rfl ?_; intro K hK; go_big_quiet_op; go_big_quiet_on)
  (refine wpG_op rfl rfl rfl ?_; intro K hK; go_big_quiet_op; go_big_quiet_on)
  (refine wpG_op rfl rfl rfl ?_; intro K hK; go_big_quiet_op; go_big_quiet_on)
  (refine wpG_skip rfl rfl ?_ hw7; intro K hK; go_big_quiet_op; go_big_quiet_on)
  (refine wpG_skip rfl rfl ?_ hw7; intro K hK; go_big_quiet_op; go_big_quiet_on)
  (refine wpG_op rfl rfl rfl ?_; intro K hK; go_big_quiet_op; go_big_quiet_on)
  (refine wpG_op rfl rfl rfl ?_; intro K hK; go_big_quiet_op; go_big_quiet_on)
  (refine wpG_skip rfl rfl ?_ hw7; intro K hK; go_big_quiet_op; go_big_quiet_on)
  (refine wpG_skip rfl rfl ?_ hw7; intro K hK; go_big_quiet_op; go_big_quiet_on)
  (refine wpG_skip rfl rfl ?_ hw7; intro K hK; go_big_quiet_op; go_big_quiet_on)
  (refine wpG_op rfl rfl rfl ?_; intro K hK; go_big_quiet_op; go_big_quiet_on)
  clear hone hw7
  refine wpG_nil ?_
  intro u9 E2'
  have EX8 := Lib.hid E2'
  clear E2'
  have HBE := Lib.hid (HB1.out.trans ((EnvX.bel EX8.out).mono HB1.out.size))
  go_wp2
  go_ret
  exact ⟨rfl, HBE.out⟩
set_option maxRecDepth 20000 in
set_option maxHeartbeats 8000000 in
theorem law_backX_fews (H : CoinC) (t s : TxM) (b : List Int) (A : Option Addr) (n c : Nat) (w : World) (kt : TxOk w t) (ks : TxOk w s) (hl : b.length = n) (hnc : n ≤ c) (hcm : c ≤ maxLen) (hB : isB b) (hx : Bytes w w.heap.size A b) (ht : Tables w) (k1 : fewX t.r = true) (k2 : fewX s.r = false) :
    Calls Tryd.prog 4 #[txV t, txV s, .slice A n c] w fun e w' => e = .returned (.bool true) ∧ Below w.heap.size w w' := by
  have HN63 : Hid (n < 9223372036854775808) := by show _ < _; unfold maxLen at hcm; omega
  have HF_t : Hid (fewX t.r = true) := k1
  have HF_s : Hid (fewX s.r = false) := k2
  clear k1 k2
  have E0 : Hid (EnvX w ((w.alloc (.cells (txA t) 25)).alloc (.cells (txA s) 25)) [(w.heap.size + 1, Obj.cells (txA s) 25 (0, 0)), (w.heap.size, Obj.cells (txA t) 25 (0, 0))]) := (EnvX.start w).two _ _
  have HAW := Lib.hid (cawake_any H ((w.alloc (.cells (txA t) 25)).alloc (.cells (txA s) 25)) (ht.below (EnvX.bel E0.out)))
  have HT := Lib.hid ht
  have HH := Lib.hid H
  have J_kt := Lib.hid kt
  have J_ks := Lib.hid ks
  have J_hx := Lib.hid hx
  clear ht H kt ks hx hl hnc hcm hB
  unfold txV
  go_enter Tryd.func4, Tryd.ntmps4
  go_upto_region 1 with (fail)
  generalize ((w.alloc (.cells (txA t) 25)).alloc (.cells (txA s) 25)) = W at *
  go_wp2_with fail
  refine HAW.out.mono ?_
  rintro e w1 ⟨rfl, hb1⟩
  have HB1 := Lib.hid (EnvX.below E0.out hb1).bel
  have E1 : Hid (EnvX w1 w1 [(w.heap.size + 1, Obj.cells (txA s) 25 (0, 0)), (w.heap.size, Obj.cells (txA t) 25 (0, 0))]) := ⟨Below.refl _ _, (EnvX.below E0.out hb1).box⟩
  have HT1 := Lib.hid (HT.out.below HB1.out)
  have K_kt := Lib.hid (J_kt.out.up HB1.out)
  have K_ks := Lib.hid (J_ks.out.up HB1.out)
  have K_hx := Lib.hid (J_hx.out.up HB1.out)
  clear hb1 E0 HAW HT J_kt J_ks J_hx
  go_upto_region 2 with (fail)
  refine wp_region_Hx (w0 := w1) [0, 1, 2] [(w.heap.size + 1, Obj.cells (txA s) 25 (0, 0)), (w.heap.size, Obj.cells (txA t) 25 (0, 0))] rfl E1.out ?_
  refine lexH_phase [0, 1, 2] [] ?_
  have hw1 : EnvX w1 _ [(w.heap.size + 1, Obj.cells (txA s) 25 (0, 0)), (w.heap.size, Obj.cells (txA t) 25 (0, 0))] := E1.out
  have hone := @EnvC.one _ _ _ hw1
  (refine wpG_val (v := txV t) rfl rfl (fun u hu => load_any_op u (box_tx hu (List.Mem.tail _ (List.Mem.head _))) rfl) ?_ hw1; intro K hK; go_big_quiet_op; go_big_quiet_on)
  (refine wpG_call (f := 10) (args := #[txV t]) (v := .bool true) rfl rfl rfl Tryd.func10 rfl rfl (fun u hu => by have h1 := few_any t u (K_kt.out.up (EnvX.bel hu)); rwa [HF_t.out] at h1) ?_ hw1; intro K hK; go_big_quiet_op; go_big_quiet_on)
  (refine wpG_op rfl rfl rfl ?_; intro K hK; go_big_quiet_op; go_big_quiet_on)
  clear hone hw1
  refine wpG_nil ?_
  intro u3 E2'
  have EX2 := Lib.hid E2'
  clear E2'
  go_upto_region 3 with (fail)
  refine wp_region_Hx (w0 := w1) [0, 1, 2] [(w.heap.size + 1, Obj.cells (txA s) 25 (0, 0)), (w.heap.size, Obj.cells (txA t) 25 (0, 0))] rfl EX2.out ?_
  refine lexH_phase [0, 1, 2] [] ?_
  have hw4 : EnvX w1 _ [(w.heap.size + 1, Obj.cells (txA s) 25 (0, 0)), (w.heap.size, Obj.cells (txA t) 25 (0, 0))] := EX2.out
  have hone := @EnvC.one _ _ _ hw4
  (refine wpG_val (v := txV s) rfl rfl (fun u hu => load_any_op u (box_tx hu (List.Mem.head _)) rfl) ?_ hw4; intro K hK; go_big_quiet_op; go_big_quiet_on)
  (refine wpG_call (f := 10) (args := #[txV s]) (v := .bool false) rfl rfl rfl Tryd.func10 rfl rfl (fun u hu => by have h1 := few_any s u (K_ks.out.up (EnvX.bel hu)); rwa [HF_s.out] at h1) ?_ hw4; intro K hK; go_big_quiet_op; go_big_quiet_on)
  (refine wpG_op rfl rfl rfl ?_; intro K hK; go_big_quiet_op; go_big_quiet_on)
  clear hone hw4
  refine wpG_nil ?_
  intro u6 E2'
  have EX5 := Lib.hid E2'
  clear E2'
  go_upto_region 4 with (fail)
  refine wp_region_Hx (w0 := w1) [0, 1, 2, 3, 4, 5, 6, 7, 8, 9, 10, 11, 12, 13, 14] [(w.heap.size + 1, Obj.cells (txA s) 25 (0, 0)), (w.heap.size, Obj.cells (txA t) 25 (0, 0))] rfl EX5.out ?_
  refine lexH_phase [0, 1, 2, 3, 4, 5, 6, 7, 8, 9, 10, 11, 12, 13, 14] [] ?_
  have hw7 : EnvX w1 _ [(w.heap.size + 1, Obj.cells (txA s) 25 (0, 0)), (w.heap.size, Obj.cells (txA t) 25 (0, 0))] := EX5.out
  have hone := @EnvC.one _ _ _ hw7
  (refine wpG_op rfl rfl rfl ?_; intro K hK; go_big_quiet_op; go_big_quiet_on)
  (refine wpG_op rfl rfl rfl ?_; intro K hK; go_big_quiet_op; go_big_quiet_on)
  (refine wpG_op rfl rfl rfl ?_; intro K hK; go_big_quiet_op; go_big_quiet_on)
  (refine wpG_op rfl rfl rfl ?_; intro K hK; go_big_quiet_op; go_big_quiet_on)
  (refine wpG_op rfl rfl rfl ?_; intro K hK; go_big_quiet_op; go_big_quiet_on)
  (refine wpG_op rfl rfl rfl ?_; intro K hK; go_big_quiet_op; go_big_quiet_on)
  (refine wpG_op rfl rfl rfl ?_; intro K hK; go_big_quiet_op; go_big_quiet_on)
  (refine wpG_op rfl rfl rfl ?_; intro K hK; go_big_quiet_op; go_big_quiet_on)
  (refine wpG_op rfl rfl rfl ?_; intro K hK; go_big_quiet_op; go_big_quiet_on)
  (refine wpG_op rfl rfl rfl ?_; intro K hK; go_big_quiet_op; go_big_quiet_on)
  (refine wpG_op rfl rfl rfl ?_; intro K hK; go_big_quiet_op; go_big_quiet_on)
  (refine wpG_skip rfl rfl ?_ hw7; intro K hK; go_big_quiet_op; go_big_quiet_on)
  (refine wpG_skip rfl rfl ?_ hw7; intro K hK; go_big_quiet_op; go_big_quiet_on)
  (refine wpG_skip rfl rfl ?_ hw7; intro K hK; go_big_quiet_op; go_big_quiet_on)
  (refine wpG_op rfl rfl rfl ?_; intro K hK; go_big_quiet_op; go_big_quiet_on)
  clear hone hw7
  refine wpG_nil ?_
  intro u9 E2'
  have EX8 := Lib.hid E2'
  clear E2'
  have HBE := Lib.hid (HB1.out.trans ((EnvX.bel EX8.out).mono HB1.out.size))
  go_wp2
  go_ret
  exact ⟨rfl, HBE.out⟩
set_option maxRecDepth 20000 in
set_option maxHeartbeats 8000000 in
theorem law_backX_many (H : CoinC) (t s : TxM) (b : List Int) (A : Option Addr) (n c : Nat) (w : World) (kt : TxOk w t) (ks : TxOk w s) (hl : b.length = n) (hnc : n ≤ c) (hcm : c ≤ maxLen) (hB : isB b) (hx : Bytes w w.heap.size A b) (ht : Tables w) (k1 : fewX t.r = true) (k2 : fewX s.r = true) (k3 : 400 < n) :
    Calls Tryd.prog 4 #[txV t, txV s, .slice A n c] w fun e w' => e = .returned (.bool true) ∧ Below w.heap.size w w' := by
  have HN63 : Hid (n < 9223372036854775808) := by show _ < _; unfold maxLen at hcm; omega
  have HF_t : Hid (fewX t.r = true) := k1
  have HF_s : Hid (fewX s.r = true) := k2
  have C13 : Hid (decide ((400 : Int) < (n : Int)) = true) := decide_eq_true (by omega)
  clear k1 k2 k3
  have E0 : Hid (EnvX w ((w.alloc (.cells (txA t) 25)).alloc (.cells (txA s) 25)) [(w.heap.size + 1, Obj.cells (txA s) 25 (0, 0)), (w.heap.size, Obj.cells (txA t) 25 (0, 0))]) := (EnvX.start w).two _ _
  have HAW := Lib.hid (cawake_any H ((w.alloc (.cells (txA t) 25)).alloc (.cells (txA s) 25)) (ht.below (EnvX.bel E0.out)))
  have HT := Lib.hid ht
  have HH := Lib.hid H
  have J_kt := Lib.hid kt
  have J_ks := Lib.hid ks
  have J_hx := Lib.hid hx
  clear ht H kt ks hx hl hnc hcm hB
  unfold txV
  go_enter Tryd.func4, Tryd.ntmps4
  go_upto_region 1 with (fail)
  generalize ((w.alloc (.cells (txA t) 25)).alloc (.cells (txA s) 25)) = W at *
  go_wp2_with fail
  refine HAW.out.mono ?_
  rintro e w1 ⟨rfl, hb1⟩
  have HB1 := Lib.hid (EnvX.below E0.out hb1).bel
  have E1 : Hid (EnvX w1 w1 [(w.heap.size + 1, Obj.cells (txA s) 25 (0, 0)), (w.heap.size, Obj.cells (txA t) 25 (0, 0))]) := ⟨Below.refl _ _, (EnvX.below E0.out hb1).box⟩
  have HT1 := Lib.hid (HT.out.below HB1.out)
  have K_kt := Lib.hid (J_kt.out.up HB1.out)
  have K_ks := Lib.hid (J_ks.out.up HB1.out)
  have K_hx := Lib.hid (J_hx.out.up HB1.out)
  clear hb1 E0 HAW HT J_kt J_ks J_hx
  go_upto_region 2 with (fail)
  refine wp_region_Hx (w0 := w1) [0, 1, 2] [(w.heap.size + 1, Obj.cells (txA s) 25 (0, 0)), (w.heap.size, Obj.cells (txA t) 25 (0, 0))] rfl E1.out ?_
  refine lexH_phase [0, 1, 2] [] ?_
  have hw1 : EnvX w1 _ [(w.heap.size + 1, Obj.cells (txA s) 25 (0, 0)), (w.heap.size, Obj.cells (txA t) 25 (0, 0))] := E1.out
  have hone := @EnvC.one _ _ _ hw1
  (refine wpG_val (v := txV t) rfl rfl (fun u hu => load_any_op u (box_tx hu (List.Mem.tail _ (List.Mem.head _))) rfl) ?_ hw1; intro K hK; go_big_quiet_op; go_big_quiet_on)
  (refine wpG_call (f := 10) (args := #[txV t]) (v := .bool true) rfl rfl rfl Tryd.func10 rfl rfl (fun u hu => by have h1 := few_any t u (K_kt.out.up (EnvX.bel hu)); rwa [HF_t.out] at h1) ?_ hw1; intro K hK; go_big_quiet_op; go_big_quiet_on)
  (refine wpG_op rfl rfl rfl ?_; intro K hK; go_big_quiet_op; go_big_quiet_on)
  clear hone hw1
  refine wpG_nil ?_
  intro u3 E2'
  have EX2 := Lib.hid E2'
  clear E2'
  go_upto_region 3 with (fail)
  refine wp_region_Hx (w0 := w1) [0, 1, 2] [(w.heap.size + 1, Obj.cells (txA s) 25 (0, 0)), (w.heap.size, Obj.cells (txA t) 25 (0, 0))] rfl EX2.out ?_
  refine lexH_phase [0, 1, 2] [] ?_
  have hw4 : EnvX w1 _ [(w.heap.size + 1, Obj.cells (txA s) 25 (0, 0)), (w.heap.size, Obj.cells (txA t) 25 (0, 0))] := EX2.out
  have hone := @EnvC.one _ _ _ hw4
  (refine wpG_val (v := txV s) rfl rfl (fun u hu => load_any_op u (box_tx hu (List.Mem.head _)) rfl) ?_ hw4; intro K hK; go_big_quiet_op; go_big_quiet_on)
  (refine wpG_call (f := 10) (args := #[txV s]) (v := .bool true) rfl rfl rfl Tryd.func10 rfl rfl (fun u hu => by have h1 := few_any s u (K_ks.out.up (EnvX.bel hu)); rwa [HF_s.out] at h1) ?_ hw4; intro K hK; go_big_quiet_op; go_big_quiet_on)
  (refine wpG_op rfl rfl rfl ?_; intro K hK; go_big_quiet_op; go_big_quiet_on)
  clear hone hw4
  refine wpG_nil ?_
  intro u6 E2'
  have EX5 := Lib.hid E2'
  clear E2'
  go_upto_region 4 with (fail)
  refine wp_region_Hx (w0 := w1) [0, 1, 2, 3, 4, 5, 6, 7, 8, 9, 10, 11, 12, 13, 14] [(w.heap.size + 1, Obj.cells (txA s) 25 (0, 0)), (w.heap.size, Obj.cells (txA t) 25 (0, 0))] rfl EX5.out ?_
  refine lexH_phase [0, 1, 2, 3, 4, 5, 6, 7, 8, 9, 10, 11, 12, 13, 14] [] ?_
  have hw7 : EnvX w1 _ [(w.heap.size + 1, Obj.cells (txA s) 25 (0, 0)), (w.heap.size, Obj.cells (txA t) 25 (0, 0))] := EX5.out
  have hone := @EnvC.one _ _ _ hw7
  (refine wpG_op rfl rfl rfl ?_; intro K hK; go_big_quiet_op; go_big_quiet_on)
  (refine wpG_op rfl rfl rfl ?_; intro K hK; go_big_quiet_op; go_big_quiet_on)
  (refine wpG_op rfl rfl rfl ?_; intro K hK; go_big_quiet_op; go_big_quiet_on)
  (refine wpG_op rfl rfl rfl ?_; intro K hK; go_big_quiet_op; go_big_quiet_on)
  (refine wpG_op rfl rfl rfl ?_; intro K hK; go_big_quiet_op; go_big_quiet_on)
  (refine wpG_op rfl rfl rfl ?_; intro K hK; go_big_quiet_op; go_big_quiet_on)
  (refine wpG_op rfl rfl rfl ?_; intro K hK; go_big_quiet_op; go_big_quiet_on)
  (refine wpG_op rfl rfl rfl ?_; intro K hK; go_big_quiet_op; go_big_quiet_on)
  (refine wpG_op rfl rfl rfl ?_; intro K hK; go_big_quiet_op; go_big_quiet_on)
  (refine wpG_op rfl rfl rfl ?_; intro K hK; go_big_quiet_op; go_big_quiet_on)
  (refine wpG_op rfl rfl rfl ?_; intro K hK; go_big_quiet_op; go_big_quiet_on)
  (refine wpG_op rfl rfl rfl ?_; intro K hK; go_big_quiet_op; go_big_quiet_on)
  (refine wpG_val (v := .int .i64 (n : Int)) rfl rfl (fun u hu => len_op Tryd.underlying26 HN63.out u rfl) ?_ hw7; intro K hK; go_big_quiet_op; go_big_quiet_on)
  (refine wpG_val (v := .bool true) rfl rfl (fun u hu => gtZ_op u C13.out rfl rfl) ?_ hw7; intro K hK; go_big_quiet_op; go_big_quiet_on)
  (refine wpG_op rfl rfl rfl ?_; intro K hK; go_big_quiet_op; go_big_quiet_on)
  clear hone hw7
  refine wpG_nil ?_
  intro u9 E2'
  have EX8 := Lib.hid E2'
  clear E2'
  have HBE := Lib.hid (HB1.out.trans ((EnvX.bel EX8.out).mono HB1.out.size))
  go_wp2
  go_ret
  exact ⟨rfl, HBE.out⟩
set_option maxRecDepth 20000 in
set_option maxHeartbeats 8000000 in
theorem law_backX_af (H : CoinC) (t s : TxM) (b : List Int) (A : Option Addr) (n c : Nat) (w : World) (kt : TxOk w t) (ks : TxOk w s) (hl : b.length = n) (hnc : n ≤ c) (hcm : c ≤ maxLen) (hB : isB b) (hx : Bytes w w.heap.size A b) (ht : Tables w) (k1 : fewX t.r = true) (k2 : fewX s.r = true) (k3 : n ≤ 400) (m1 : mayX t.r = false) (m3 : mayReadX b = false) :
    Calls Tryd.prog 4 #[txV t, txV s, .slice A n c] w fun e w' => e = .returned (.bool true) ∧ Below w.heap.size w w' := by
  have HN63 : Hid (n < 9223372036854775808) := by show _ < _; unfold maxLen at hcm; omega
  have HF_t : Hid (fewX t.r = true) := k1
  have HF_s : Hid (fewX s.r = true) := k2
  have C13 : Hid (decide ((400 : Int) < (n : Int)) = false) := decide_eq_false (by omega)
  have HP_t : Hid ((putX t.r).2 = false) := (putX_2 _).trans m1
  have HP_s : Hid ((putX s.r).2 = (mayX s.r)) := putX_2 _
  have HMY : Hid (mayX t.r = false) := m1
  have HRB : Hid ((readX b).2 = false) := (readX_snd b).trans m3
  have HPY : Hid (∀ y : TxM, y.r = (readX b).1 → (putX y.r).2 = false) := fun y e => by
    rw [putX_2, e]
    unfold readX
    rw [m3]
    exact (by decide : mayX noTx = false)
  have HBM := Lib.hid (And.intro hl (And.intro hnc (And.intro hcm hB)))
  have HN1 := Lib.hid k3
  have HXS : Hid ((putX t.r).1.length ≤ 122 ∧ isB (putX t.r).1) := ⟨putX_len kt.ok, putX_byte kt.ok⟩
  have HYS : Hid ((putX s.r).1.length ≤ 122 ∧ isB (putX s.r).1) := ⟨putX_len ks.ok, putX_byte ks.ok⟩
  have HY0 : Hid (∀ y : TxM, y.r = (readX b).1 → y.r.outs.length = 0) := fun y e => by
    rw [e, readX_no m3]
    rfl
  clear k1 k2 k3 m1 m3
  have E0 : Hid (EnvX w ((w.alloc (.cells (txA t) 25)).alloc (.cells (txA s) 25)) [(w.heap.size + 1, Obj.cells (txA s) 25 (0, 0)), (w.heap.size, Obj.cells (txA t) 25 (0, 0))]) := (EnvX.start w).two _ _
  have HAW := Lib.hid (cawake_any H ((w.alloc (.cells (txA t) 25)).alloc (.cells (txA s) 25)) (ht.below (EnvX.bel E0.out)))
  have HT := Lib.hid ht
  have HH := Lib.hid H
  have J_kt := Lib.hid kt
  have J_ks := Lib.hid ks
  have J_hx := Lib.hid hx
  clear ht H kt ks hx hl hnc hcm hB
  unfold txV
  go_enter Tryd.func4, Tryd.ntmps4
  go_upto_region 1 with (fail)
  generalize ((w.alloc (.cells (txA t) 25)).alloc (.cells (txA s) 25)) = W at *
  go_wp2_with fail
  refine HAW.out.mono ?_
  rintro e w1 ⟨rfl, hb1⟩
  have HB1 := Lib.hid (EnvX.below E0.out hb1).bel
  have E1 : Hid (EnvX w1 w1 [(w.heap.size + 1, Obj.cells (txA s) 25 (0, 0)), (w.heap.size, Obj.cells (txA t) 25 (0, 0))]) := ⟨Below.refl _ _, (EnvX.below E0.out hb1).box⟩
  have HT1 := Lib.hid (HT.out.below HB1.out)
  have K_kt := Lib.hid (J_kt.out.up HB1.out)
  have K_ks := Lib.hid (J_ks.out.up HB1.out)
  have K_hx := Lib.hid (J_hx.out.up HB1.out)
  clear hb1 E0 HAW HT J_kt J_ks J_hx
  go_upto_region 2 with (fail)
  refine wp_region_Hx (w0 := w1) [0, 1, 2] [(w.heap.size + 1, Obj.cells (txA s) 25 (0, 0)), (w.heap.size, Obj.cells (txA t) 25 (0, 0))] rfl E1.out ?_
  refine lexH_phase [0, 1, 2] [] ?_
  have hw1 : EnvX w1 _ [(w.heap.size + 1, Obj.cells (txA s) 25 (0, 0)), (w.heap.size, Obj.cells (txA t) 25 (0, 0))] := E1.out
  have hone := @EnvC.one _ _ _ hw1
  (refine wpG_val (v := txV t) rfl rfl (fun u hu => load_any_op u (box_tx hu (List.Mem.tail _ (List.Mem.head _))) rfl) ?_ hw1; intro K hK; go_big_quiet_op; go_big_quiet_on)
  (refine wpG_call (f := 10) (args := #[txV t]) (v := .bool true) rfl rfl rfl Tryd.func10 rfl rfl (fun u hu => by have h1 := few_any t u (K_kt.out.up (EnvX.bel hu)); rwa [HF_t.out] at h1) ?_ hw1; intro K hK; go_big_quiet_op; go_big_quiet_on)
  (refine wpG_op rfl rfl rfl ?_; intro K hK; go_big_quiet_op; go_big_quiet_on)
  clear hone hw1
  refine wpG_nil ?_
  intro u3 E2'
  have EX2 := Lib.hid E2'
  clear E2'
  go_upto_region 3 with (fail)
  refine wp_region_Hx (w0 := w1) [0, 1, 2] [(w.heap.size + 1, Obj.cells (txA s) 25 (0, 0)), (w.heap.size, Obj.cells (txA t) 25 (0, 0))] rfl EX2.out ?_
  refine lexH_phase [0, 1, 2] [] ?_
  have hw4 : EnvX w1 _ [(w.heap.size + 1, Obj.cells (txA s) 25 (0, 0)), (w.heap.size, Obj.cells (txA t) 25 (0, 0))] := EX2.out
  have hone := @EnvC.one _ _ _ hw4
  (refine wpG_val (v := txV s) rfl rfl (fun u hu => load_any_op u (box_tx hu (List.Mem.head _)) rfl) ?_ hw4; intro K hK; go_big_quiet_op; go_big_quiet_on)
  (refine wpG_call (f := 10) (args := #[txV s]) (v := .bool true) rfl rfl rfl Tryd.func10 rfl rfl (fun u hu => by have h1 := few_any s u (K_ks.out.up (EnvX.bel hu)); rwa [HF_s.out] at h1) ?_ hw4; intro K hK; go_big_quiet_op; go_big_quiet_on)
  (refine wpG_op rfl rfl rfl ?_; intro K hK; go_big_quiet_op; go_big_quiet_on)
  clear hone hw4
  refine wpG_nil ?_
  intro u6 E2'
  have EX5 := Lib.hid E2'
  clear E2'
  go_upto_region 4 with (fail)
  refine wp_region_Hx (w0 := w1) [0, 1, 2, 3, 4, 5, 6, 7, 8, 9, 10, 11, 12, 13, 14] [(w.heap.size + 1, Obj.cells (txA s) 25 (0, 0)), (w.heap.size, Obj.cells (txA t) 25 (0, 0))] rfl EX5.out ?_
  refine lexH_phase [0, 1, 2, 3, 4, 5, 6, 7, 8, 9, 10, 11, 12, 13, 14] [] ?_
  have hw7 : EnvX w1 _ [(w.heap.size + 1, Obj.cells (txA s) 25 (0, 0)), (w.heap.size, Obj.cells (txA t) 25 (0, 0))] := EX5.out
  have hone := @EnvC.one _ _ _ hw7
  (refine wpG_op rfl rfl rfl ?_; intro K hK; go_big_quiet_op; go_big_quiet_on)
  (refine wpG_op rfl rfl rfl ?_; intro K hK; go_big_quiet_op; go_big_quiet_on)
  (refine wpG_op rfl rfl rfl ?_; intro K hK; go_big_quiet_op; go_big_quiet_on)
  (refine wpG_op rfl rfl rfl ?_; intro K hK; go_big_quiet_op; go_big_quiet_on)
  (refine wpG_op rfl rfl rfl ?_; intro K hK; go_big_quiet_op; go_big_quiet_on)
  (refine wpG_op rfl rfl rfl ?_; intro K hK; go_big_quiet_op; go_big_quiet_on)
  (refine wpG_op rfl rfl rfl ?_; intro K hK; go_big_quiet_op; go_big_quiet_on)
  (refine wpG_op rfl rfl rfl ?_; intro K hK; go_big_quiet_op; go_big_quiet_on)
  (refine wpG_op rfl rfl rfl ?_; intro K hK; go_big_quiet_op; go_big_quiet_on)
  (refine wpG_op rfl rfl rfl ?_; intro K hK; go_big_quiet_op; go_big_quiet_on)
  (refine wpG_op rfl rfl rfl ?_; intro K hK; go_big_quiet_op; go_big_quiet_on)
  (refine wpG_op rfl rfl rfl ?_; intro K hK; go_big_quiet_op; go_big_quiet_on)
  (refine wpG_val (v := .int .i64 (n : Int)) rfl rfl (fun u hu => len_op Tryd.underlying26 HN63.out u rfl) ?_ hw7; intro K hK; go_big_quiet_op; go_big_quiet_on)
  (refine wpG_val (v := .bool false) rfl rfl (fun u hu => gtZ_op u C13.out rfl rfl) ?_ hw7; intro K hK; go_big_quiet_op; go_big_quiet_on)
  (refine wpG_op rfl rfl rfl ?_; intro K hK; go_big_quiet_op; go_big_quiet_on)
  clear hone hw7
  refine wpG_nil ?_
  intro u9 E2'
  have EX8 := Lib.hid E2'
  clear E2'
  have HLD : Hid ((loadVar 25 ⟨w.heap.size, 0, none⟩).run Tryd.prog u9 = .ok (.agg (txA t)) u9) := box_tx EX8.out (List.Mem.tail _ (List.Mem.head _))
  have HPT : Hid (Calls Tryd.prog 12 #[.agg (txA t)] u9 fun e w' => (∃ v, e = .returned (.tuple #[v, .bool false]) ∧ OwnB w' u9.heap.size v (putX t.r).1) ∧ Below u9.heap.size u9 w') := by
    have h1 := HH.out.put t u9 (K_kt.out.up EX8.out.bel) (HT1.out.below (EnvX.bel EX8.out))
    rwa [HP_t.out] at h1
  go_upto_region 6 with (fail)
  go_wp2_with ((with_reducible refine wpList_load_run (o := ⟨some 42, _, _, _, _, _⟩) ?_ 25 (.tmp 3) ?_ ⟨w.heap.size, 0, none⟩ ?_ HLD.out ?_); (rfl); (rfl); (rfl))
  refine HPT.out.mono ?_
  rintro e w2 ⟨⟨v6, rfl, hv⟩, hb⟩
  obtain ⟨Ap, cp, rfl⟩ := hv.form
  have HB_xs := Lib.hid hv.bytes.2
  have HC_xs := Lib.hid hv.cap
  have hbb := (EnvX.below EX8.out hb).bel
  have E2 : Hid (EnvX w2 w2 [(w.heap.size + 1, Obj.cells (txA s) 25 (0, 0)), (w.heap.size, Obj.cells (txA t) 25 (0, 0))]) := ⟨Below.refl _ _, (EnvX.below EX8.out hb).box⟩
  have HB2 := Lib.hid (HB1.out.trans (hbb.mono HB1.out.size))
  have HT2 := Lib.hid (HT1.out.below hbb)
  have K_kt := Lib.hid (K_kt.out.up hbb)
  have K_ks := Lib.hid (K_ks.out.up hbb)
  have K_hx := Lib.hid (K_hx.out.up hbb)
  clear hv hb HLD HPT hbb EX8
  obtain ⟨np, hnp⟩ : ∃ np, (putX t.r).1.length = np := ⟨_, rfl⟩
  obtain ⟨xs, hxs⟩ : ∃ xs, (putX t.r).1 = xs := ⟨_, rfl⟩
  have HN_xs := Lib.hid hnp
  have HX_xs := Lib.hid hxs
  rw [hnp] at HC_xs ⊢
  rw [hxs] at HB_xs HN_xs
  clear hnp hxs
  have HLD : Hid ((loadVar 25 ⟨w.heap.size + 1, 0, none⟩).run Tryd.prog w2 = .ok (.agg (txA s)) w2) := box_tx E2.out (List.Mem.head _)
  have HPT : Hid (Calls Tryd.prog 12 #[.agg (txA s)] w2 fun e w' => (∃ v, e = .returned (.tuple #[v, .bool (mayX s.r)]) ∧ OwnB w' w2.heap.size v (putX s.r).1) ∧ Below w2.heap.size w2 w') := by
    have h1 := HH.out.put s w2 K_ks.out (HT2.out.below (EnvX.bel E2.out))
    rwa [HP_s.out] at h1
  go_upto_region 7 with (fail)
  go_wp2_with ((with_reducible refine wpList_load_run (o := ⟨some 47, _, _, _, _, _⟩) ?_ 25 (.tmp 4) ?_ ⟨w.heap.size + 1, 0, none⟩ ?_ HLD.out ?_); (rfl); (rfl); (rfl))
  refine HPT.out.mono ?_
  rintro e w3 ⟨⟨v7, rfl, hv⟩, hb⟩
  obtain ⟨Aq, cq, rfl⟩ := hv.form
  have HB_ys := Lib.hid hv.bytes.2
  have HC_ys := Lib.hid hv.cap
  have hbb := (EnvX.below E2.out hb).bel
  have E3 : Hid (EnvX w3 w3 [(w.heap.size + 1, Obj.cells (txA s) 25 (0, 0)), (w.heap.size, Obj.cells (txA t) 25 (0, 0))]) := ⟨Below.refl _ _, (EnvX.below E2.out hb).box⟩
  have HB3 := Lib.hid (HB2.out.trans (hbb.mono HB2.out.size))
  have HT3 := Lib.hid (HT2.out.below hbb)
  have K_kt := Lib.hid (K_kt.out.up hbb)
  have K_ks := Lib.hid (K_ks.out.up hbb)
  have K_hx := Lib.hid (K_hx.out.up hbb)
  have HB_xs := Lib.hid (HB_xs.out.up hbb)
  clear hv hb HLD HPT hbb E2
  obtain ⟨nq, hnp⟩ : ∃ np, (putX s.r).1.length = np := ⟨_, rfl⟩
  obtain ⟨ys, hxs⟩ : ∃ xs, (putX s.r).1 = xs := ⟨_, rfl⟩
  have HN_ys := Lib.hid hnp
  have HX_ys := Lib.hid hxs
  rw [hnp] at HC_ys ⊢
  rw [hxs] at HB_ys HN_ys
  clear hnp hxs
  rw [HX_xs.out] at HXS
  rw [HX_ys.out] at HYS
  go_upto_region 8 with (fail)
  have HRC := Lib.hid (show Calls Tryd.prog 14 #[.slice Ap np cp] w3 fun e w' => (∃ t_1 : TxM, e = .returned (.tuple #[txV t_1, .bool (readX xs).2]) ∧ t_1.r = (readX xs).1 ∧ TxOk w' t_1) ∧ Below w3.heap.size w3 w' from by
      have h0 := HXS.out
      have h1 := HH.out.read Ap np cp xs w3 HN_xs.out (by rw [HN_xs.out] at h0; omega) HC_xs.out.1 HC_xs.out.2 h0.2 HB_xs.out HT3.out
      exact h1)
  go_wp2_with fail
  refine HRC.out.mono ?_
  rintro e w4 ⟨⟨xr, rfl, hr0, hk0⟩, hb⟩
  have HR_xr := Lib.hid hr0
  have K_xr := Lib.hid hk0
  have hbb := (EnvX.below E3.out hb).bel
  have E4 : Hid (EnvX w4 w4 [(w.heap.size + 1, Obj.cells (txA s) 25 (0, 0)), (w.heap.size, Obj.cells (txA t) 25 (0, 0))]) := ⟨Below.refl _ _, (EnvX.below E3.out hb).box⟩
  have HB4 := Lib.hid (HB3.out.trans (hbb.mono HB3.out.size))
  have HT4 := Lib.hid (HT3.out.below hbb)
  have K_kt := Lib.hid (K_kt.out.up hbb)
  have K_ks := Lib.hid (K_ks.out.up hbb)
  have K_hx := Lib.hid (K_hx.out.up hbb)
  have HB_xs := Lib.hid (HB_xs.out.up hbb)
  have HB_ys := Lib.hid (HB_ys.out.up hbb)
  clear hr0 hk0 hb hbb E3 HRC
  have E4b : Hid (EnvX w4 (w4.alloc (.cells (txA xr) 25)) ((w4.heap.size, Obj.cells (txA xr) 25 (0, 0)) :: [(w.heap.size + 1, Obj.cells (txA s) 25 (0, 0)), (w.heap.size, Obj.cells (txA t) 25 (0, 0))])) := EnvX.new E4.out _
  unfold txV
  go_upto_region 9 with ((with_reducible refine wpList_store_row (o := ⟨none, .store 25 _ _, _, _, _, _⟩) ?_ 25 (.tmp 14) (.tmp 54) ?_ w4.heap.size (txA xr) ?_ ?_ 25 _ (heap_alloc_last w4 _) (infoTx _ rfl) ?_ (txA_one _) ?_); (rfl); (rfl); (rfl); (rfl); (rfl); rw [World.setRow_alloc_new])
  clear E4
  go_upto_region 9 with (fail)
  have HRC := Lib.hid (show Calls Tryd.prog 14 #[.slice A n c] (w4.alloc (.cells (txA xr) 25)) fun e w' => (∃ t_1 : TxM, e = .returned (.tuple #[txV t_1, .bool false]) ∧ t_1.r = (readX b).1 ∧ TxOk w' t_1) ∧ Below (w4.alloc (.cells (txA xr) 25)).heap.size (w4.alloc (.cells (txA xr) 25)) w' from by
      have h1 := HH.out.read A n c b (w4.alloc (.cells (txA xr) 25)) HBM.out.1 (by have := HN1.out; omega) HBM.out.2.1 HBM.out.2.2.1 HBM.out.2.2.2 (K_hx.out.up (EnvX.bel E4b.out)) (HT4.out.below E4b.out.bel)
      rwa [HRB.out] at h1)
  go_wp2_with fail
  refine HRC.out.mono ?_
  rintro e w5 ⟨⟨yr, rfl, hr0, hk0⟩, hb⟩
  have HR_yr := Lib.hid hr0
  have K_yr := Lib.hid hk0
  have hbb := (EnvX.below E4b.out hb).bel
  have E5 : Hid (EnvX w5 w5 [(w4.heap.size, Obj.cells (txA xr) 25 (0, 0)), (w.heap.size + 1, Obj.cells (txA s) 25 (0, 0)), (w.heap.size, Obj.cells (txA t) 25 (0, 0))]) := ⟨Below.refl _ _, (EnvX.below E4b.out hb).box⟩
  have HB5 := Lib.hid (HB4.out.trans (hbb.mono HB4.out.size))
  have HT5 := Lib.hid (HT4.out.below hbb)
  have K_kt := Lib.hid (K_kt.out.up hbb)
  have K_ks := Lib.hid (K_ks.out.up hbb)
  have K_hx := Lib.hid (K_hx.out.up hbb)
  have HB_xs := Lib.hid (HB_xs.out.up hbb)
  have HB_ys := Lib.hid (HB_ys.out.up hbb)
  have K_xr := Lib.hid (K_xr.out.up hbb)
  clear hr0 hk0 hb hbb E4b HRC
  have E5b : Hid (EnvX w5 (w5.alloc (.cells (txA yr) 25)) ((w5.heap.size, Obj.cells (txA yr) 25 (0, 0)) :: [(w4.heap.size, Obj.cells (txA xr) 25 (0, 0)), (w.heap.size + 1, Obj.cells (txA s) 25 (0, 0)), (w.heap.size, Obj.cells (txA t) 25 (0, 0))])) := EnvX.new E5.out _
  unfold txV
  go_upto_region 10 with ((with_reducible refine wpList_store_row (o := ⟨none, .store 25 _ _, _, _, _, _⟩) ?_ 25 (.tmp 16) (.tmp 59) ?_ w5.heap.size (txA yr) ?_ ?_ 25 _ (heap_alloc_last w5 _) (infoTx _ rfl) ?_ (txA_one _) ?_); (rfl); (rfl); (rfl); (rfl); (rfl); rw [World.setRow_alloc_new])
  clear E5
  have HLD : Hid ((loadVar 25 ⟨w5.heap.size, 0, none⟩).run Tryd.prog (w5.alloc (.cells (txA yr) 25)) = .ok (.agg (txA yr)) (w5.alloc (.cells (txA yr) 25))) := box_tx E5b.out (List.Mem.head _)
  have HPT : Hid (Calls Tryd.prog 12 #[.agg (txA yr)] (w5.alloc (.cells (txA yr) 25)) fun e w' => (∃ v, e = .returned (.tuple #[v, .bool false]) ∧ OwnB w' (w5.alloc (.cells (txA yr) 25)).heap.size v (putX yr.r).1) ∧ Below (w5.alloc (.cells (txA yr) 25)).heap.size (w5.alloc (.cells (txA yr) 25)) w') := by
    have h1 := HH.out.put yr (w5.alloc (.cells (txA yr) 25)) (K_yr.out.up E5b.out.bel) (HT5.out.below (EnvX.bel E5b.out))
    rwa [(HPY.out yr HR_yr.out)] at h1
  go_upto_region 10 with (fail)
  go_wp2_with ((with_reducible refine wpList_load_run (o := ⟨some 62, _, _, _, _, _⟩) ?_ 25 (.tmp 16) ?_ ⟨w5.heap.size, 0, none⟩ ?_ HLD.out ?_); (rfl); (rfl); (rfl))
  refine HPT.out.mono ?_
  rintro e w6 ⟨⟨v10, rfl, hv⟩, hb⟩
  obtain ⟨Ar, cr, rfl⟩ := hv.form
  have HB_zs := Lib.hid hv.bytes.2
  have HC_zs := Lib.hid hv.cap
  have hbb := (EnvX.below E5b.out hb).bel
  have E6 : Hid (EnvX w6 w6 [(w5.heap.size, Obj.cells (txA yr) 25 (0, 0)), (w4.heap.size, Obj.cells (txA xr) 25 (0, 0)), (w.heap.size + 1, Obj.cells (txA s) 25 (0, 0)), (w.heap.size, Obj.cells (txA t) 25 (0, 0))]) := ⟨Below.refl _ _, (EnvX.below E5b.out hb).box⟩
  have HB6 := Lib.hid (HB5.out.trans (hbb.mono HB5.out.size))
  have HT6 := Lib.hid (HT5.out.below hbb)
  have K_kt := Lib.hid (K_kt.out.up hbb)
  have K_ks := Lib.hid (K_ks.out.up hbb)
  have K_hx := Lib.hid (K_hx.out.up hbb)
  have HB_xs := Lib.hid (HB_xs.out.up hbb)
  have HB_ys := Lib.hid (HB_ys.out.up hbb)
  have K_xr := Lib.hid (K_xr.out.up hbb)
  have K_yr := Lib.hid (K_yr.out.up hbb)
  clear hv hb HLD HPT hbb E5b
  obtain ⟨nr, hnp⟩ : ∃ np, (putX yr.r).1.length = np := ⟨_, rfl⟩
  obtain ⟨zs, hxs⟩ : ∃ xs, (putX yr.r).1 = xs := ⟨_, rfl⟩
  have HN_zs := Lib.hid hnp
  have HX_zs := Lib.hid hxs
  rw [hnp] at HC_zs ⊢
  rw [hxs] at HB_zs HN_zs
  clear hnp hxs
  have HYN : Hid (yr.n2 = 0) := by show _ = _; rw [← K_yr.out.l2]; exact HY0.out yr HR_yr.out
  have HY63 := Lib.hid K_yr.out.n63
  go_upto_region 11 with (fail)
  refine wp_region_H (w0 := w6) [(w5.heap.size, Obj.cells (txA yr) 25 (0, 0)), (w4.heap.size, Obj.cells (txA xr) 25 (0, 0)), (w.heap.size + 1, Obj.cells (txA s) 25 (0, 0)), (w.heap.size, Obj.cells (txA t) 25 (0, 0))] (by kernel_rfl) E6.out ?_
  refine anyH_phase [0, 1, 2, 3, 4, 5, 6, 7, 8, 9, 10, 11, 12, 13, 14, 15, 16, 17, 18, 19, 20, 21, 22, 23, 24, 25, 26, 27, 28, 29, 30, 31, 32, 33] 0 rfl ⟨_, (EnvX.drew E6.out)⟩ (by kernel_rfl) ?_
  have hw1201 : EnvX w6 _ [(w5.heap.size, Obj.cells (txA yr) 25 (0, 0)), (w4.heap.size, Obj.cells (txA xr) 25 (0, 0)), (w.heap.size + 1, Obj.cells (txA s) 25 (0, 0)), (w.heap.size, Obj.cells (txA t) 25 (0, 0))] := (EnvX.drew E6.out)
  have hone := @EnvC.one _ _ _ hw1201
  (refine wpG_op rfl rfl rfl ?_; intro K hK; go_big_quiet_op; go_big_quiet_on)
  (refine wpG_val (v := txV t) rfl rfl (fun u hu => load_any_op u (box_tx hu (List.Mem.tail _ (List.Mem.tail _ (List.Mem.tail _ (List.Mem.head _))))) rfl) ?_ hw1201; intro K hK; go_big_quiet_op; go_big_quiet_on)
  (refine wpG_call (f := 18) (args := #[txV t]) (v := .bool false) rfl rfl rfl Tryd.func18 rfl rfl (fun u hu => by have h1 := HH.out.may t u (K_kt.out.up (EnvX.bel hu)) (HT6.out.below (EnvX.bel hu)); rwa [HMY.out] at h1) ?_ hw1201; intro K hK; go_big_quiet_op; go_big_quiet_on)
  (refine wpG_val (v := .bool false) rfl rfl (fun u hu => neqBc_op u rfl rfl rfl) ?_ hw1201; intro K hK; go_big_quiet_op; go_big_quiet_on)
  (refine wpG_op rfl rfl rfl ?_; intro K hK; go_big_quiet_op; go_big_quiet_on)
  (refine wpG_op rfl rfl rfl ?_; intro K hK; go_big_quiet_op; go_big_quiet_on)
  (refine wpG_op rfl rfl rfl ?_; intro K hK; go_big_quiet_op; go_big_quiet_on)
  (refine wpG_skip rfl rfl ?_ hw1201; intro K hK; go_big_quiet_op; go_big_quiet_on)
  (refine wpG_skip rfl rfl ?_ hw1201; intro K hK; go_big_quiet_op; go_big_quiet_on)
  (refine wpG_skip rfl rfl ?_ hw1201; intro K hK; go_big_quiet_op; go_big_quiet_on)
  (refine wpG_skip rfl rfl ?_ hw1201; intro K hK; go_big_quiet_op; go_big_quiet_on)
  (refine wpG_skip rfl rfl ?_ hw1201; intro K hK; go_big_quiet_op; go_big_quiet_on)
  (refine wpG_skip rfl rfl ?_ hw1201; intro K hK; go_big_quiet_op; go_big_quiet_on)
  (refine wpG_skip rfl rfl ?_ hw1201; intro K hK; go_big_quiet_op; go_big_quiet_on)
  (refine wpG_skip rfl rfl ?_ hw1201; intro K hK; go_big_quiet_op; go_big_quiet_on)
  (refine wpG_op rfl rfl rfl ?_; intro K hK; go_big_quiet_op; go_big_quiet_on)
  (refine wpG_op rfl rfl rfl ?_; intro K hK; go_big_quiet_op; go_big_quiet_on)
  (refine wpG_op rfl rfl rfl ?_; intro K hK; go_big_quiet_op; go_big_quiet_on)
  (refine wpG_op rfl rfl rfl ?_; intro K hK; go_big_quiet_op; go_big_quiet_on)
  (refine wpG_op rfl rfl rfl ?_; intro K hK; go_big_quiet_op; go_big_quiet_on)
  (refine wpG_skip rfl rfl ?_ hw1201; intro K hK; go_big_quiet_op; go_big_quiet_on)
  (refine wpG_op rfl rfl rfl ?_; intro K hK; go_big_quiet_op; go_big_quiet_on)
  (refine wpG_op rfl rfl rfl ?_; intro K hK; go_big_quiet_op; go_big_quiet_on)
  (refine wpG_skip rfl rfl ?_ hw1201; intro K hK; go_big_quiet_op; go_big_quiet_on)
  (refine wpG_skip rfl rfl ?_ hw1201; intro K hK; go_big_quiet_op; go_big_quiet_on)
  (refine wpG_skip rfl rfl ?_ hw1201; intro K hK; go_big_quiet_op; go_big_quiet_on)
  (refine wpG_skip rfl rfl ?_ hw1201; intro K hK; go_big_quiet_op; go_big_quiet_on)
  (refine wpG_skip rfl rfl ?_ hw1201; intro K hK; go_big_quiet_op; go_big_quiet_on)
  (refine wpG_skip rfl rfl ?_ hw1201; intro K hK; go_big_quiet_op; go_big_quiet_on)
  (refine wpG_skip rfl rfl ?_ hw1201; intro K hK; go_big_quiet_op; go_big_quiet_on)
  (refine wpG_skip rfl rfl ?_ hw1201; intro K hK; go_big_quiet_op; go_big_quiet_on)
  (refine wpG_skip rfl rfl ?_ hw1201; intro K hK; go_big_quiet_op; go_big_quiet_on)
  (refine wpG_op rfl rfl rfl ?_; intro K hK; go_big_quiet_op; go_big_quiet_on)
  (refine wpG_op rfl rfl rfl ?_; intro K hK; go_big_quiet_op; go_big_quiet_on)
  clear hone hw1201
  refine wpG_nil ?_
  refine anyH_done (by kernel_rfl) ?_
  intro u1203 E2'
  have EX1202 := Lib.hid E2'
  clear E2'
  go_upto_region 13 with (fail)
  refine wp_region_Hx (w0 := w6) [0, 1, 2, 3, 4, 5, 6, 7, 8, 9, 10, 11, 12, 13, 14, 15, 16, 17, 18, 19, 20, 21] [(w5.heap.size, Obj.cells (txA yr) 25 (0, 0)), (w4.heap.size, Obj.cells (txA xr) 25 (0, 0)), (w.heap.size + 1, Obj.cells (txA s) 25 (0, 0)), (w.heap.size, Obj.cells (txA t) 25 (0, 0))] rfl EX1202.out ?_
  refine lexH_phase [0, 1, 2, 3, 4, 5, 6, 7, 8, 9, 10, 11, 12, 13, 14, 15, 16, 17, 18, 19, 20, 21] [] ?_
  have hw1204 : EnvX w6 _ [(w5.heap.size, Obj.cells (txA yr) 25 (0, 0)), (w4.heap.size, Obj.cells (txA xr) 25 (0, 0)), (w.heap.size + 1, Obj.cells (txA s) 25 (0, 0)), (w.heap.size, Obj.cells (txA t) 25 (0, 0))] := EX1202.out
  have hone := @EnvC.one _ _ _ hw1204
  (refine wpG_op rfl rfl rfl ?_; intro K hK; go_big_quiet_op; go_big_quiet_on)
  (refine wpG_op rfl rfl rfl ?_; intro K hK; go_big_quiet_op; go_big_quiet_on)
  (refine wpG_op rfl rfl rfl ?_; intro K hK; go_big_quiet_op; go_big_quiet_on)
  (refine wpG_op rfl rfl rfl ?_; intro K hK; go_big_quiet_op; go_big_quiet_on)
  (refine wpG_val (v := .slice yr.A2 yr.n2 yr.c2) rfl rfl (fun u hu => load_any_op u (box_tx_outs hu (List.Mem.head _)) rfl) ?_ hw1204; intro K hK; go_big_quiet_op; go_big_quiet_on)
  (refine wpG_val (v := .int .i64 (yr.n2 : Int)) rfl rfl (fun u hu => len_op Tryd.underlying23 HY63.out.2 u rfl) ?_ hw1204; intro K hK; go_big_quiet_op; go_big_quiet_on)
  (refine wpG_val (v := .bool true) rfl rfl (fun u hu => eqlI_op u (decide_eq_true (by rw [HYN.out]; rfl)) rfl rfl) ?_ hw1204; intro K hK; go_big_quiet_op; go_big_quiet_on)
  (refine wpG_op rfl rfl rfl ?_; intro K hK; go_big_quiet_op; go_big_quiet_on)
  (refine wpG_op rfl rfl rfl ?_; intro K hK; go_big_quiet_op; go_big_quiet_on)
  (refine wpG_skip rfl rfl ?_ hw1204; intro K hK; go_big_quiet_op; go_big_quiet_on)
  (refine wpG_skip rfl rfl ?_ hw1204; intro K hK; go_big_quiet_op; go_big_quiet_on)
  (refine wpG_skip rfl rfl ?_ hw1204; intro K hK; go_big_quiet_op; go_big_quiet_on)
  (refine wpG_skip rfl rfl ?_ hw1204; intro K hK; go_big_quiet_op; go_big_quiet_on)
  (refine wpG_skip rfl rfl ?_ hw1204; intro K hK; go_big_quiet_op; go_big_quiet_on)
  (refine wpG_skip rfl rfl ?_ hw1204; intro K hK; go_big_quiet_op; go_big_quiet_on)
  (refine wpG_skip rfl rfl ?_ hw1204; intro K hK; go_big_quiet_op; go_big_quiet_on)
  (refine wpG_skip rfl rfl ?_ hw1204; intro K hK; go_big_quiet_op; go_big_quiet_on)
  (refine wpG_skip rfl rfl ?_ hw1204; intro K hK; go_big_quiet_op; go_big_quiet_on)
  (refine wpG_skip rfl rfl ?_ hw1204; intro K hK; go_big_quiet_op; go_big_quiet_on)
  (refine wpG_skip rfl rfl ?_ hw1204; intro K hK; go_big_quiet_op; go_big_quiet_on)
  (refine wpG_op rfl rfl rfl ?_; intro K hK; go_big_quiet_op; go_big_quiet_on)
  (refine wpG_op rfl rfl rfl ?_; intro K hK; go_big_quiet_op; go_big_quiet_on)
  clear hone hw1204
  refine wpG_nil ?_
  intro u1206 E2'
  have EX1205 := Lib.hid E2'
  clear E2'
  have HBE := Lib.hid (HB6.out.trans ((EnvX.bel EX1205.out).mono HB6.out.size))
  go_wp2
  go_ret
  exact ⟨rfl, HBE.out⟩
set_option maxRecDepth 20000 in
set_option maxHeartbeats 8000000 in
theorem law_backX_bf (H : CoinC) (t s : TxM) (b : List Int) (A : Option Addr) (n c : Nat) (w : World) (kt : TxOk w t) (ks : TxOk w s) (hl : b.length = n) (hnc : n ≤ c) (hcm : c ≤ maxLen) (hB : isB b) (hx : Bytes w w.heap.size A b) (ht : Tables w) (k1 : fewX t.r = true) (k2 : fewX s.r = true) (k3 : n ≤ 400) (m1 : mayX t.r = true) (m2 : mayX s.r = false) (m3 : mayReadX b = false) :
    Calls Tryd.prog 4 #[txV t, txV s, .slice A n c] w fun e w' => e = .returned (.bool true) ∧ Below w.heap.size w w' := by
  have HN63 : Hid (n < 9223372036854775808) := by show _ < _; unfold maxLen at hcm; omega
  have HF_t : Hid (fewX t.r = true) := k1
  have HF_s : Hid (fewX s.r = true) := k2
  have C13 : Hid (decide ((400 : Int) < (n : Int)) = false) := decide_eq_false (by omega)
  have HP_t : Hid ((putX t.r).2 = true) := (putX_2 _).trans m1
  have HP_s : Hid ((putX s.r).2 = false) := (putX_2 _).trans m2
  have HMY : Hid (mayX t.r = true) := m1
  have HRB : Hid ((readX b).2 = false) := (readX_snd b).trans m3
  have HPY : Hid (∀ y : TxM, y.r = (readX b).1 → (putX y.r).2 = false) := fun y e => by
    rw [putX_2, e]
    unfold readX
    rw [m3]
    exact (by decide : mayX noTx = false)
  have HBM := Lib.hid (And.intro hl (And.intro hnc (And.intro hcm hB)))
  have HN1 := Lib.hid k3
  have HXS : Hid ((putX t.r).1.length ≤ 122 ∧ isB (putX t.r).1 ∧ readX (putX t.r).1 = (t.r, true)) := ⟨putX_len kt.ok, putX_byte kt.ok, by rw [putX_yes m1]; exact read_bodyX kt.ok m1⟩
  have HYS : Hid ((putX s.r).1.length ≤ 122 ∧ isB (putX s.r).1) := ⟨putX_len ks.ok, putX_byte ks.ok⟩
  have HY0 : Hid (∀ y : TxM, y.r = (readX b).1 → y.r.outs.length = 0) := fun y e => by
    rw [e, readX_no m3]
    rfl
  clear k1 k2 k3 m1 m2 m3
  have E0 : Hid (EnvX w ((w.alloc (.cells (txA t) 25)).alloc (.cells (txA s) 25)) [(w.heap.size + 1, Obj.cells (txA s) 25 (0, 0)), (w.heap.size, Obj.cells (txA t) 25 (0, 0))]) := (EnvX.start w).two _ _
  have HAW := Lib.hid (cawake_any H ((w.alloc (.cells (txA t) 25)).alloc (.cells (txA s) 25)) (ht.below (EnvX.bel E0.out)))
  have HT := Lib.hid ht
  have HH := Lib.hid H
  have J_kt := Lib.hid kt
  have J_ks := Lib.hid ks
  have J_hx := Lib.hid hx
  clear ht H kt ks hx hl hnc hcm hB
  unfold txV
  go_enter Tryd.func4, Tryd.ntmps4
  go_upto_region 1 with (fail)
  generalize ((w.alloc (.cells (txA t) 25)).alloc (.cells (txA s) 25)) = W at *
  go_wp2_with fail
  refine HAW.out.mono ?_
  rintro e w1 ⟨rfl, hb1⟩
  have HB1 := Lib.hid (EnvX.below E0.out hb1).bel
  have E1 : Hid (EnvX w1 w1 [(w.heap.size + 1, Obj.cells (txA s) 25 (0, 0)), (w.heap.size, Obj.cells (txA t) 25 (0, 0))]) := ⟨Below.refl _ _, (EnvX.below E0.out hb1).box⟩
  have HT1 := Lib.hid (HT.out.below HB1.out)
  have K_kt := Lib.hid (J_kt.out.up HB1.out)
  have K_ks := Lib.hid (J_ks.out.up HB1.out)
  have K_hx := Lib.hid (J_hx.out.up HB1.out)
  clear hb1 E0 HAW HT J_kt J_ks J_hx
  go_upto_region 2 with (fail)
  refine wp_region_Hx (w0 := w1) [0, 1, 2] [(w.heap.size + 1, Obj.cells (txA s) 25 (0, 0)), (w.heap.size, Obj.cells (txA t) 25 (0, 0))] rfl E1.out ?_
  refine lexH_phase [0, 1, 2] [] ?_
  have hw1 : EnvX w1 _ [(w.heap.size + 1, Obj.cells (txA s) 25 (0, 0)), (w.heap.size, Obj.cells (txA t) 25 (0, 0))] := E1.out
  have hone := @EnvC.one _ _ _ hw1
  (refine wpG_val (v := txV t) rfl rfl (fun u hu => load_any_op u (box_tx hu (List.Mem.tail _ (List.Mem.head _))) rfl) ?_ hw1; intro K hK; go_big_quiet_op; go_big_quiet_on)
  (refine wpG_call (f := 10) (args := #[txV t]) (v := .bool true) rfl rfl rfl Tryd.func10 rfl rfl (fun u hu => by have h1 := few_any t u (K_kt.out.up (EnvX.bel hu)); rwa [HF_t.out] at h1) ?_ hw1; intro K hK; go_big_quiet_op; go_big_quiet_on)
  (refine wpG_op rfl rfl rfl ?_; intro K hK; go_big_quiet_op; go_big_quiet_on)
  clear hone hw1
  refine wpG_nil ?_
  intro u3 E2'
  have EX2 := Lib.hid E2'
  clear E2'
  go_upto_region 3 with (fail)
  refine wp_region_Hx (w0 := w1) [0, 1, 2] [(w.heap.size + 1, Obj.cells (txA s) 25 (0, 0)), (w.heap.size, Obj.cells (txA t) 25 (0, 0))] rfl EX2.out ?_
  refine lexH_phase [0, 1, 2] [] ?_
  have hw4 : EnvX w1 _ [(w.heap.size + 1, Obj.cells (txA s) 25 (0, 0)), (w.heap.size, Obj.cells (txA t) 25 (0, 0))] := EX2.out
  have hone := @EnvC.one _ _ _ hw4
  (refine wpG_val (v := txV s) rfl rfl (fun u hu => load_any_op u (box_tx hu (List.Mem.head _)) rfl) ?_ hw4; intro K hK; go_big_quiet_op; go_big_quiet_on)
  (refine wpG_call (f := 10) (args := #[txV s]) (v := .bool true) rfl rfl rfl Tryd.func10 rfl rfl (fun u hu => by have h1 := few_any s u (K_ks.out.up (EnvX.bel hu)); rwa [HF_s.out] at h1) ?_ hw4; intro K hK; go_big_quiet_op; go_big_quiet_on)
  (refine wpG_op rfl rfl rfl ?_; intro K hK; go_big_quiet_op; go_big_quiet_on)
  clear hone hw4
  refine wpG_nil ?_
  intro u6 E2'
  have EX5 := Lib.hid E2'
  clear E2'
  go_upto_region 4 with (fail)
  refine wp_region_Hx (w0 := w1) [0, 1, 2, 3, 4, 5, 6, 7, 8, 9, 10, 11, 12, 13, 14] [(w.heap.size + 1, Obj.cells (txA s) 25 (0, 0)), (w.heap.size, Obj.cells (txA t) 25 (0, 0))] rfl EX5.out ?_
  refine lexH_phase [0, 1, 2, 3, 4, 5, 6, 7, 8, 9, 10, 11, 12, 13, 14] [] ?_
  have hw7 : EnvX w1 _ [(w.heap.size + 1, Obj.cells (txA s) 25 (0, 0)), (w.heap.size, Obj.cells (txA t) 25 (0, 0))] := EX5.out
  have hone := @EnvC.one _ _ _ hw7
  (refine wpG_op rfl rfl rfl ?_; intro K hK; go_big_quiet_op; go_big_quiet_on)
  (refine wpG_op rfl rfl rfl ?_; intro K hK; go_big_quiet_op; go_big_quiet_on)
  (refine wpG_op rfl rfl rfl ?_; intro K hK; go_big_quiet_op; go_big_quiet_on)
  (refine wpG_op rfl rfl rfl ?_; intro K hK; go_big_quiet_op; go_big_quiet_on)
  (refine wpG_op rfl rfl rfl ?_; intro K hK; go_big_quiet_op; go_big_quiet_on)
  (refine wpG_op rfl rfl rfl ?_; intro K hK; go_big_quiet_op; go_big_quiet_on)
  (refine wpG_op rfl rfl rfl ?_; intro K hK; go_big_quiet_op; go_big_quiet_on)
  (refine wpG_op rfl rfl rfl ?_; intro K hK; go_big_quiet_op; go_big_quiet_on)
  (refine wpG_op rfl rfl rfl ?_; intro K hK; go_big_quiet_op; go_big_quiet_on)
  (refine wpG_op rfl rfl rfl ?_; intro K hK; go_big_quiet_op; go_big_quiet_on)
  (refine wpG_op rfl rfl rfl ?_; intro K hK; go_big_quiet_op; go_big_quiet_on)
  (refine wpG_op rfl rfl rfl ?_; intro K hK; go_big_quiet_op; go_big_quiet_on)
  (refine wpG_val (v := .int .i64 (n : Int)) rfl rfl (fun u hu => len_op Tryd.underlying26 HN63.out u rfl) ?_ hw7; intro K hK; go_big_quiet_op; go_big_quiet_on)
  (refine wpG_val (v := .bool false) rfl rfl (fun u hu => gtZ_op u C13.out rfl rfl) ?_ hw7; intro K hK; go_big_quiet_op; go_big_quiet_on)
  (refine wpG_op rfl rfl rfl ?_; intro K hK; go_big_quiet_op; go_big_quiet_on)
  clear hone hw7
  refine wpG_nil ?_
  intro u9 E2'
  have EX8 := Lib.hid E2'
  clear E2'
  have HLD : Hid ((loadVar 25 ⟨w.heap.size, 0, none⟩).run Tryd.prog u9 = .ok (.agg (txA t)) u9) := box_tx EX8.out (List.Mem.tail _ (List.Mem.head _))
  have HPT : Hid (Calls Tryd.prog 12 #[.agg (txA t)] u9 fun e w' => (∃ v, e = .returned (.tuple #[v, .bool true]) ∧ OwnB w' u9.heap.size v (putX t.r).1) ∧ Below u9.heap.size u9 w') := by
    have h1 := HH.out.put t u9 (K_kt.out.up EX8.out.bel) (HT1.out.below (EnvX.bel EX8.out))
    rwa [HP_t.out] at h1
  go_upto_region 6 with (fail)
  go_wp2_with ((with_reducible refine wpList_load_run (o := ⟨some 42, _, _, _, _, _⟩) ?_ 25 (.tmp 3) ?_ ⟨w.heap.size, 0, none⟩ ?_ HLD.out ?_); (rfl); (rfl); (rfl))
  refine HPT.out.mono ?_
  rintro e w2 ⟨⟨v6, rfl, hv⟩, hb⟩
  obtain ⟨Ap, cp, rfl⟩ := hv.form
  have HB_xs := Lib.hid hv.bytes.2
  have HC_xs := Lib.hid hv.cap
  have hbb := (EnvX.below EX8.out hb).bel
  have E2 : Hid (EnvX w2 w2 [(w.heap.size + 1, Obj.cells (txA s) 25 (0, 0)), (w.heap.size, Obj.cells (txA t) 25 (0, 0))]) := ⟨Below.refl _ _, (EnvX.below EX8.out hb).box⟩
  have HB2 := Lib.hid (HB1.out.trans (hbb.mono HB1.out.size))
  have HT2 := Lib.hid (HT1.out.below hbb)
  have K_kt := Lib.hid (K_kt.out.up hbb)
  have K_ks := Lib.hid (K_ks.out.up hbb)
  have K_hx := Lib.hid (K_hx.out.up hbb)
  clear hv hb HLD HPT hbb EX8
  obtain ⟨np, hnp⟩ : ∃ np, (putX t.r).1.length = np := ⟨_, rfl⟩
  obtain ⟨xs, hxs⟩ : ∃ xs, (putX t.r).1 = xs := ⟨_, rfl⟩
  have HN_xs := Lib.hid hnp
  have HX_xs := Lib.hid hxs
  rw [hnp] at HC_xs ⊢
  rw [hxs] at HB_xs HN_xs
  clear hnp hxs
  have HLD : Hid ((loadVar 25 ⟨w.heap.size + 1, 0, none⟩).run Tryd.prog w2 = .ok (.agg (txA s)) w2) := box_tx E2.out (List.Mem.head _)
  have HPT : Hid (Calls Tryd.prog 12 #[.agg (txA s)] w2 fun e w' => (∃ v, e = .returned (.tuple #[v, .bool false]) ∧ OwnB w' w2.heap.size v (putX s.r).1) ∧ Below w2.heap.size w2 w') := by
    have h1 := HH.out.put s w2 K_ks.out (HT2.out.below (EnvX.bel E2.out))
    rwa [HP_s.out] at h1
  go_upto_region 7 with (fail)
  go_wp2_with ((with_reducible refine wpList_load_run (o := ⟨some 47, _, _, _, _, _⟩) ?_ 25 (.tmp 4) ?_ ⟨w.heap.size + 1, 0, none⟩ ?_ HLD.out ?_); (rfl); (rfl); (rfl))
  refine HPT.out.mono ?_
  rintro e w3 ⟨⟨v7, rfl, hv⟩, hb⟩
  obtain ⟨Aq, cq, rfl⟩ := hv.form
  have HB_ys := Lib.hid hv.bytes.2
  have HC_ys := Lib.hid hv.cap
  have hbb := (EnvX.below E2.out hb).bel
  have E3 : Hid (EnvX w3 w3 [(w.heap.size + 1, Obj.cells (txA s) 25 (0, 0)), (w.heap.size, Obj.cells (txA t) 25 (0, 0))]) := ⟨Below.refl _ _, (EnvX.below E2.out hb).box⟩
  have HB3 := Lib.hid (HB2.out.trans (hbb.mono HB2.out.size))
  have HT3 := Lib.hid (HT2.out.below hbb)
  have K_kt := Lib.hid (K_kt.out.up hbb)
  have K_ks := Lib.hid (K_ks.out.up hbb)
  have K_hx := Lib.hid (K_hx.out.up hbb)
  have HB_xs := Lib.hid (HB_xs.out.up hbb)
  clear hv hb HLD HPT hbb E2
  obtain ⟨nq, hnp⟩ : ∃ np, (putX s.r).1.length = np := ⟨_, rfl⟩
  obtain ⟨ys, hxs⟩ : ∃ xs, (putX s.r).1 = xs := ⟨_, rfl⟩
  have HN_ys := Lib.hid hnp
  have HX_ys := Lib.hid hxs
  rw [hnp] at HC_ys ⊢
  rw [hxs] at HB_ys HN_ys
  clear hnp hxs
  rw [HX_xs.out] at HXS
  rw [HX_ys.out] at HYS
  go_upto_region 8 with (fail)
  have HRC := Lib.hid (show Calls Tryd.prog 14 #[.slice Ap np cp] w3 fun e w' => (∃ t_1 : TxM, e = .returned (.tuple #[txV t_1, .bool true]) ∧ t_1.r = t.r ∧ TxOk w' t_1) ∧ Below w3.heap.size w3 w' from by
      have h0 := HXS.out
      have h1 := HH.out.read Ap np cp xs w3 HN_xs.out (by rw [HN_xs.out] at h0; omega) HC_xs.out.1 HC_xs.out.2 h0.2.1 HB_xs.out HT3.out
      rwa [h0.2.2] at h1)
  go_wp2_with fail
  refine HRC.out.mono ?_
  rintro e w4 ⟨⟨xr, rfl, hr0, hk0⟩, hb⟩
  have HR_xr := Lib.hid hr0
  have K_xr := Lib.hid hk0
  have hbb := (EnvX.below E3.out hb).bel
  have E4 : Hid (EnvX w4 w4 [(w.heap.size + 1, Obj.cells (txA s) 25 (0, 0)), (w.heap.size, Obj.cells (txA t) 25 (0, 0))]) := ⟨Below.refl _ _, (EnvX.below E3.out hb).box⟩
  have HB4 := Lib.hid (HB3.out.trans (hbb.mono HB3.out.size))
  have HT4 := Lib.hid (HT3.out.below hbb)
  have K_kt := Lib.hid (K_kt.out.up hbb)
  have K_ks := Lib.hid (K_ks.out.up hbb)
  have K_hx := Lib.hid (K_hx.out.up hbb)
  have HB_xs := Lib.hid (HB_xs.out.up hbb)
  have HB_ys := Lib.hid (HB_ys.out.up hbb)
  clear hr0 hk0 hb hbb E3 HRC
  have E4b : Hid (EnvX w4 (w4.alloc (.cells (txA xr) 25)) ((w4.heap.size, Obj.cells (txA xr) 25 (0, 0)) :: [(w.heap.size + 1, Obj.cells (txA s) 25 (0, 0)), (w.heap.size, Obj.cells (txA t) 25 (0, 0))])) := EnvX.new E4.out _
  unfold txV
  go_upto_region 9 with ((with_reducible refine wpList_store_row (o := ⟨none, .store 25 _ _, _, _, _, _⟩) ?_ 25 (.tmp 14) (.tmp 54) ?_ w4.heap.size (txA xr) ?_ ?_ 25 _ (heap_alloc_last w4 _) (infoTx _ rfl) ?_ (txA_one _) ?_); (rfl); (rfl); (rfl); (rfl); (rfl); rw [World.setRow_alloc_new])
  clear E4
  go_upto_region 9 with (fail)
  have HRC := Lib.hid (show Calls Tryd.prog 14 #[.slice A n c] (w4.alloc (.cells (txA xr) 25)) fun e w' => (∃ t_1 : TxM, e = .returned (.tuple #[txV t_1, .bool false]) ∧ t_1.r = (readX b).1 ∧ TxOk w' t_1) ∧ Below (w4.alloc (.cells (txA xr) 25)).heap.size (w4.alloc (.cells (txA xr) 25)) w' from by
      have h1 := HH.out.read A n c b (w4.alloc (.cells (txA xr) 25)) HBM.out.1 (by have := HN1.out; omega) HBM.out.2.1 HBM.out.2.2.1 HBM.out.2.2.2 (K_hx.out.up (EnvX.bel E4b.out)) (HT4.out.below E4b.out.bel)
      rwa [HRB.out] at h1)
  go_wp2_with fail
  refine HRC.out.mono ?_
  rintro e w5 ⟨⟨yr, rfl, hr0, hk0⟩, hb⟩
  have HR_yr := Lib.hid hr0
  have K_yr := Lib.hid hk0
  have hbb := (EnvX.below E4b.out hb).bel
  have E5 : Hid (EnvX w5 w5 [(w4.heap.size, Obj.cells (txA xr) 25 (0, 0)), (w.heap.size + 1, Obj.cells (txA s) 25 (0, 0)), (w.heap.size, Obj.cells (txA t) 25 (0, 0))]) := ⟨Below.refl _ _, (EnvX.below E4b.out hb).box⟩
  have HB5 := Lib.hid (HB4.out.trans (hbb.mono HB4.out.size))
  have HT5 := Lib.hid (HT4.out.below hbb)
  have K_kt := Lib.hid (K_kt.out.up hbb)
  have K_ks := Lib.hid (K_ks.out.up hbb)
  have K_hx := Lib.hid (K_hx.out.up hbb)
  have HB_xs := Lib.hid (HB_xs.out.up hbb)
  have HB_ys := Lib.hid (HB_ys.out.up hbb)
  have K_xr := Lib.hid (K_xr.out.up hbb)
  clear hr0 hk0 hb hbb E4b HRC
  have E5b : Hid (EnvX w5 (w5.alloc (.cells (txA yr) 25)) ((w5.heap.size, Obj.cells (txA yr) 25 (0, 0)) :: [(w4.heap.size, Obj.cells (txA xr) 25 (0, 0)), (w.heap.size + 1, Obj.cells (txA s) 25 (0, 0)), (w.heap.size, Obj.cells (txA t) 25 (0, 0))])) := EnvX.new E5.out _
  unfold txV
  go_upto_region 10 with ((with_reducible refine wpList_store_row (o := ⟨none, .store 25 _ _, _, _, _, _⟩) ?_ 25 (.tmp 16) (.tmp 59) ?_ w5.heap.size (txA yr) ?_ ?_ 25 _ (heap_alloc_last w5 _) (infoTx _ rfl) ?_ (txA_one _) ?_); (rfl); (rfl); (rfl); (rfl); (rfl); rw [World.setRow_alloc_new])
  clear E5
  have HLD : Hid ((loadVar 25 ⟨w5.heap.size, 0, none⟩).run Tryd.prog (w5.alloc (.cells (txA yr) 25)) = .ok (.agg (txA yr)) (w5.alloc (.cells (txA yr) 25))) := box_tx E5b.out (List.Mem.head _)
  have HPT : Hid (Calls Tryd.prog 12 #[.agg (txA yr)] (w5.alloc (.cells (txA yr) 25)) fun e w' => (∃ v, e = .returned (.tuple #[v, .bool false]) ∧ OwnB w' (w5.alloc (.cells (txA yr) 25)).heap.size v (putX yr.r).1) ∧ Below (w5.alloc (.cells (txA yr) 25)).heap.size (w5.alloc (.cells (txA yr) 25)) w') := by
    have h1 := HH.out.put yr (w5.alloc (.cells (txA yr) 25)) (K_yr.out.up E5b.out.bel) (HT5.out.below (EnvX.bel E5b.out))
    rwa [(HPY.out yr HR_yr.out)] at h1
  go_upto_region 10 with (fail)
  go_wp2_with ((with_reducible refine wpList_load_run (o := ⟨some 62, _, _, _, _, _⟩) ?_ 25 (.tmp 16) ?_ ⟨w5.heap.size, 0, none⟩ ?_ HLD.out ?_); (rfl); (rfl); (rfl))
  refine HPT.out.mono ?_
  rintro e w6 ⟨⟨v10, rfl, hv⟩, hb⟩
  obtain ⟨Ar, cr, rfl⟩ := hv.form
  have HB_zs := Lib.hid hv.bytes.2
  have HC_zs := Lib.hid hv.cap
  have hbb := (EnvX.below E5b.out hb).bel
  have E6 : Hid (EnvX w6 w6 [(w5.heap.size, Obj.cells (txA yr) 25 (0, 0)), (w4.heap.size, Obj.cells (txA xr) 25 (0, 0)), (w.heap.size + 1, Obj.cells (txA s) 25 (0, 0)), (w.heap.size, Obj.cells (txA t) 25 (0, 0))]) := ⟨Below.refl _ _, (EnvX.below E5b.out hb).box⟩
  have HB6 := Lib.hid (HB5.out.trans (hbb.mono HB5.out.size))
  have HT6 := Lib.hid (HT5.out.below hbb)
  have K_kt := Lib.hid (K_kt.out.up hbb)
  have K_ks := Lib.hid (K_ks.out.up hbb)
  have K_hx := Lib.hid (K_hx.out.up hbb)
  have HB_xs := Lib.hid (HB_xs.out.up hbb)
  have HB_ys := Lib.hid (HB_ys.out.up hbb)
  have K_xr := Lib.hid (K_xr.out.up hbb)
  have K_yr := Lib.hid (K_yr.out.up hbb)
  clear hv hb HLD HPT hbb E5b
  obtain ⟨nr, hnp⟩ : ∃ np, (putX yr.r).1.length = np := ⟨_, rfl⟩
  obtain ⟨zs, hxs⟩ : ∃ xs, (putX yr.r).1 = xs := ⟨_, rfl⟩
  have HN_zs := Lib.hid hnp
  have HX_zs := Lib.hid hxs
  rw [hnp] at HC_zs ⊢
  rw [hxs] at HB_zs HN_zs
  clear hnp hxs
  have HYN : Hid (yr.n2 = 0) := by show _ = _; rw [← K_yr.out.l2]; exact HY0.out yr HR_yr.out
  have HY63 := Lib.hid K_yr.out.n63
  go_upto_region 11 with (fail)
  refine wp_region_H (w0 := w6) [(w5.heap.size, Obj.cells (txA yr) 25 (0, 0)), (w4.heap.size, Obj.cells (txA xr) 25 (0, 0)), (w.heap.size + 1, Obj.cells (txA s) 25 (0, 0)), (w.heap.size, Obj.cells (txA t) 25 (0, 0))] (by kernel_rfl) E6.out ?_
  refine anyH_phase [0, 1, 2, 3, 4, 5, 6, 7, 8, 9, 10, 11, 12, 13, 14, 15, 16, 17, 18, 19, 20, 21, 22, 23, 24, 25, 26, 27, 28, 29, 30, 31, 32, 33] 0 rfl ⟨_, (EnvX.drew E6.out)⟩ (by kernel_rfl) ?_
  have hw1201 : EnvX w6 _ [(w5.heap.size, Obj.cells (txA yr) 25 (0, 0)), (w4.heap.size, Obj.cells (txA xr) 25 (0, 0)), (w.heap.size + 1, Obj.cells (txA s) 25 (0, 0)), (w.heap.size, Obj.cells (txA t) 25 (0, 0))] := (EnvX.drew E6.out)
  have hone := @EnvC.one _ _ _ hw1201
  (refine wpG_op rfl rfl rfl ?_; intro K hK; go_big_quiet_op; go_big_quiet_on)
  (refine wpG_val (v := txV t) rfl rfl (fun u hu => load_any_op u (box_tx hu (List.Mem.tail _ (List.Mem.tail _ (List.Mem.tail _ (List.Mem.head _))))) rfl) ?_ hw1201; intro K hK; go_big_quiet_op; go_big_quiet_on)
  (refine wpG_call (f := 18) (args := #[txV t]) (v := .bool true) rfl rfl rfl Tryd.func18 rfl rfl (fun u hu => by have h1 := HH.out.may t u (K_kt.out.up (EnvX.bel hu)) (HT6.out.below (EnvX.bel hu)); rwa [HMY.out] at h1) ?_ hw1201; intro K hK; go_big_quiet_op; go_big_quiet_on)
  (refine wpG_val (v := .bool false) rfl rfl (fun u hu => neqBc_op u rfl rfl rfl) ?_ hw1201; intro K hK; go_big_quiet_op; go_big_quiet_on)
  (refine wpG_op rfl rfl rfl ?_; intro K hK; go_big_quiet_op; go_big_quiet_on)
  (refine wpG_op rfl rfl rfl ?_; intro K hK; go_big_quiet_op; go_big_quiet_on)
  (refine wpG_op rfl rfl rfl ?_; intro K hK; go_big_quiet_op; go_big_quiet_on)
  (refine wpG_op rfl rfl rfl ?_; intro K hK; go_big_quiet_op; go_big_quiet_on)
  (refine wpG_op rfl rfl rfl ?_; intro K hK; go_big_quiet_op; go_big_quiet_on)
  (refine wpG_op rfl rfl rfl ?_; intro K hK; go_big_quiet_op; go_big_quiet_on)
  (refine wpG_val (v := txV xr) rfl rfl (fun u hu => load_any_op u (box_tx hu (List.Mem.tail _ (List.Mem.head _))) rfl) ?_ hw1201; intro K hK; go_big_quiet_op; go_big_quiet_on)
  (refine wpG_val (v := txV t) rfl rfl (fun u hu => load_any_op u (box_tx hu (List.Mem.tail _ (List.Mem.tail _ (List.Mem.tail _ (List.Mem.head _))))) rfl) ?_ hw1201; intro K hK; go_big_quiet_op; go_big_quiet_on)
  (refine wpG_call (f := 19) (args := #[txV xr, txV t]) (v := .bool true) rfl rfl rfl Tryd.func19 rfl rfl (fun u hu => by have h1 := HH.out.same xr t u (K_xr.out.up (EnvX.bel hu)) (K_kt.out.up (EnvX.bel hu)) (HT6.out.below (EnvX.bel hu)); rwa [show sameX xr.r t.r = true by rw [HR_xr.out]; exact decide_eq_true rfl] at h1) ?_ hw1201; intro K hK; go_big_quiet_op; go_big_quiet_on)
  (refine wpG_op rfl rfl rfl ?_; intro K hK; go_big_quiet_op; go_big_quiet_on)
  (refine wpG_op rfl rfl rfl ?_; intro K hK; go_big_quiet_op; go_big_quiet_on)
  (refine wpG_op rfl rfl rfl ?_; intro K hK; go_big_quiet_op; go_big_quiet_on)
  (refine wpG_op rfl rfl rfl ?_; intro K hK; go_big_quiet_op; go_big_quiet_on)
  (refine wpG_op rfl rfl rfl ?_; intro K hK; go_big_quiet_op; go_big_quiet_on)
  (refine wpG_op rfl rfl rfl ?_; intro K hK; go_big_quiet_op; go_big_quiet_on)
  (refine wpG_op rfl rfl rfl ?_; intro K hK; go_big_quiet_op; go_big_quiet_on)
  (refine wpG_op rfl rfl rfl ?_; intro K hK; go_big_quiet_op; go_big_quiet_on)
  (refine wpG_op rfl rfl rfl ?_; intro K hK; go_big_quiet_op; go_big_quiet_on)
  (refine wpG_op rfl rfl rfl ?_; intro K hK; go_big_quiet_op; go_big_quiet_on)
  (refine wpG_skip rfl rfl ?_ hw1201; intro K hK; go_big_quiet_op; go_big_quiet_on)
  (refine wpG_skip rfl rfl ?_ hw1201; intro K hK; go_big_quiet_op; go_big_quiet_on)
  (refine wpG_skip rfl rfl ?_ hw1201; intro K hK; go_big_quiet_op; go_big_quiet_on)
  (refine wpG_skip rfl rfl ?_ hw1201; intro K hK; go_big_quiet_op; go_big_quiet_on)
  (refine wpG_skip rfl rfl ?_ hw1201; intro K hK; go_big_quiet_op; go_big_quiet_on)
  (refine wpG_skip rfl rfl ?_ hw1201; intro K hK; go_big_quiet_op; go_big_quiet_on)
  (refine wpG_skip rfl rfl ?_ hw1201; intro K hK; go_big_quiet_op; go_big_quiet_on)
  (refine wpG_skip rfl rfl ?_ hw1201; intro K hK; go_big_quiet_op; go_big_quiet_on)
  (refine wpG_skip rfl rfl ?_ hw1201; intro K hK; go_big_quiet_op; go_big_quiet_on)
  (refine wpG_op rfl rfl rfl ?_; intro K hK; go_big_quiet_op; go_big_quiet_on)
  (refine wpG_op rfl rfl rfl ?_; intro K hK; go_big_quiet_op; go_big_quiet_on)
  clear hone hw1201
  refine wpG_nil ?_
  refine anyH_done (by kernel_rfl) ?_
  intro u1203 E2'
  have EX1202 := Lib.hid E2'
  clear E2'
  go_upto_region 13 with (fail)
  refine wp_region_Hx (w0 := w6) [0, 1, 2, 3, 4, 5, 6, 7, 8, 9, 10, 11, 12, 13, 14, 15, 16, 17, 18, 19, 20, 21] [(w5.heap.size, Obj.cells (txA yr) 25 (0, 0)), (w4.heap.size, Obj.cells (txA xr) 25 (0, 0)), (w.heap.size + 1, Obj.cells (txA s) 25 (0, 0)), (w.heap.size, Obj.cells (txA t) 25 (0, 0))] rfl EX1202.out ?_
  refine lexH_phase [0, 1, 2, 3, 4, 5, 6, 7, 8, 9, 10, 11, 12, 13, 14, 15, 16, 17, 18, 19, 20, 21] [] ?_
  have hw1204 : EnvX w6 _ [(w5.heap.size, Obj.cells (txA yr) 25 (0, 0)), (w4.heap.size, Obj.cells (txA xr) 25 (0, 0)), (w.heap.size + 1, Obj.cells (txA s) 25 (0, 0)), (w.heap.size, Obj.cells (txA t) 25 (0, 0))] := EX1202.out
  have hone := @EnvC.one _ _ _ hw1204
  (refine wpG_op rfl rfl rfl ?_; intro K hK; go_big_quiet_op; go_big_quiet_on)
  (refine wpG_op rfl rfl rfl ?_; intro K hK; go_big_quiet_op; go_big_quiet_on)
  (refine wpG_op rfl rfl rfl ?_; intro K hK; go_big_quiet_op; go_big_quiet_on)
  (refine wpG_op rfl rfl rfl ?_; intro K hK; go_big_quiet_op; go_big_quiet_on)
  (refine wpG_val (v := .slice yr.A2 yr.n2 yr.c2) rfl rfl (fun u hu => load_any_op u (box_tx_outs hu (List.Mem.head _)) rfl) ?_ hw1204; intro K hK; go_big_quiet_op; go_big_quiet_on)
  (refine wpG_val (v := .int .i64 (yr.n2 : Int)) rfl rfl (fun u hu => len_op Tryd.underlying23 HY63.out.2 u rfl) ?_ hw1204; intro K hK; go_big_quiet_op; go_big_quiet_on)
  (refine wpG_val (v := .bool true) rfl rfl (fun u hu => eqlI_op u (decide_eq_true (by rw [HYN.out]; rfl)) rfl rfl) ?_ hw1204; intro K hK; go_big_quiet_op; go_big_quiet_on)
  (refine wpG_op rfl rfl rfl ?_; intro K hK; go_big_quiet_op; go_big_quiet_on)
  (refine wpG_op rfl rfl rfl ?_; intro K hK; go_big_quiet_op; go_big_quiet_on)
  (refine wpG_skip rfl rfl ?_ hw1204; intro K hK; go_big_quiet_op; go_big_quiet_on)
  (refine wpG_skip rfl rfl ?_ hw1204; intro K hK; go_big_quiet_op; go_big_quiet_on)
  (refine wpG_skip rfl rfl ?_ hw1204; intro K hK; go_big_quiet_op; go_big_quiet_on)
  (refine wpG_skip rfl rfl ?_ hw1204; intro K hK; go_big_quiet_op; go_big_quiet_on)
  (refine wpG_skip rfl rfl ?_ hw1204; intro K hK; go_big_quiet_op; go_big_quiet_on)
  (refine wpG_skip rfl rfl ?_ hw1204; intro K hK; go_big_quiet_op; go_big_quiet_on)
  (refine wpG_skip rfl rfl ?_ hw1204; intro K hK; go_big_quiet_op; go_big_quiet_on)
  (refine wpG_skip rfl rfl ?_ hw1204; intro K hK; go_big_quiet_op; go_big_quiet_on)
  (refine wpG_skip rfl rfl ?_ hw1204; intro K hK; go_big_quiet_op; go_big_quiet_on)
  (refine wpG_skip rfl rfl ?_ hw1204; intro K hK; go_big_quiet_op; go_big_quiet_on)
  (refine wpG_skip rfl rfl ?_ hw1204; intro K hK; go_big_quiet_op; go_big_quiet_on)
  (refine wpG_op rfl rfl rfl ?_; intro K hK; go_big_quiet_op; go_big_quiet_on)
  (refine wpG_op rfl rfl rfl ?_; intro K hK; go_big_quiet_op; go_big_quiet_on)
  clear hone hw1204
  refine wpG_nil ?_
  intro u1206 E2'
  have EX1205 := Lib.hid E2'
  clear E2'
  have HBE := Lib.hid (HB6.out.trans ((EnvX.bel EX1205.out).mono HB6.out.size))
  go_wp2
  go_ret
  exact ⟨rfl, HBE.out⟩
set_option maxRecDepth 20000 in
set_option maxHeartbeats 8000000 in
theorem law_backX_cf (H : CoinC) (t s : TxM) (b : List Int) (A : Option Addr) (n c : Nat) (w : World) (kt : TxOk w t) (ks : TxOk w s) (hl : b.length = n) (hnc : n ≤ c) (hcm : c ≤ maxLen) (hB : isB b) (hx : Bytes w w.heap.size A b) (ht : Tables w) (k1 : fewX t.r = true) (k2 : fewX s.r = true) (k3 : n ≤ 400) (m1 : mayX t.r = true) (m2 : mayX s.r = true) (m3 : mayReadX b = false) :
    Calls Tryd.prog 4 #[txV t, txV s, .slice A n c] w fun e w' => e = .returned (.bool true) ∧ Below w.heap.size w w' := by
  have HN63 : Hid (n < 9223372036854775808) := by show _ < _; unfold maxLen at hcm; omega
  have HF_t : Hid (fewX t.r = true) := k1
  have HF_s : Hid (fewX s.r = true) := k2
  have C13 : Hid (decide ((400 : Int) < (n : Int)) = false) := decide_eq_false (by omega)
  have HP_t : Hid ((putX t.r).2 = true) := (putX_2 _).trans m1
  have HP_s : Hid ((putX s.r).2 = true) := (putX_2 _).trans m2
  have HMY : Hid (mayX t.r = true) := m1
  have HRB : Hid ((readX b).2 = false) := (readX_snd b).trans m3
  have HPY : Hid (∀ y : TxM, y.r = (readX b).1 → (putX y.r).2 = false) := fun y e => by
    rw [putX_2, e]
    unfold readX
    rw [m3]
    exact (by decide : mayX noTx = false)
  have HBM := Lib.hid (And.intro hl (And.intro hnc (And.intro hcm hB)))
  have HN1 := Lib.hid k3
  have HXS : Hid ((putX t.r).1.length ≤ 122 ∧ isB (putX t.r).1 ∧ readX (putX t.r).1 = (t.r, true)) := ⟨putX_len kt.ok, putX_byte kt.ok, by rw [putX_yes m1]; exact read_bodyX kt.ok m1⟩
  have HYS : Hid ((putX s.r).1.length ≤ 122 ∧ isB (putX s.r).1) := ⟨putX_len ks.ok, putX_byte ks.ok⟩
  have HIJ : Hid (decide ((putX t.r).1 = (putX s.r).1) = sameX t.r s.r) := decide_eq_decide.2 ⟨fun e => bodyX_inj kt.ok ks.ok m1 m2 (by rwa [putX_yes m1, putX_yes m2] at e), fun e => by rw [e]⟩
  have HY0 : Hid (∀ y : TxM, y.r = (readX b).1 → y.r.outs.length = 0) := fun y e => by
    rw [e, readX_no m3]
    rfl
  clear k1 k2 k3 m1 m2 m3
  have E0 : Hid (EnvX w ((w.alloc (.cells (txA t) 25)).alloc (.cells (txA s) 25)) [(w.heap.size + 1, Obj.cells (txA s) 25 (0, 0)), (w.heap.size, Obj.cells (txA t) 25 (0, 0))]) := (EnvX.start w).two _ _
  have HAW := Lib.hid (cawake_any H ((w.alloc (.cells (txA t) 25)).alloc (.cells (txA s) 25)) (ht.below (EnvX.bel E0.out)))
  have HT := Lib.hid ht
  have HH := Lib.hid H
  have J_kt := Lib.hid kt
  have J_ks := Lib.hid ks
  have J_hx := Lib.hid hx
  clear ht H kt ks hx hl hnc hcm hB
  unfold txV
  go_enter Tryd.func4, Tryd.ntmps4
  go_upto_region 1 with (fail)
  generalize ((w.alloc (.cells (txA t) 25)).alloc (.cells (txA s) 25)) = W at *
  go_wp2_with fail
  refine HAW.out.mono ?_
  rintro e w1 ⟨rfl, hb1⟩
  have HB1 := Lib.hid (EnvX.below E0.out hb1).bel
  have E1 : Hid (EnvX w1 w1 [(w.heap.size + 1, Obj.cells (txA s) 25 (0, 0)), (w.heap.size, Obj.cells (txA t) 25 (0, 0))]) := ⟨Below.refl _ _, (EnvX.below E0.out hb1).box⟩
  have HT1 := Lib.hid (HT.out.below HB1.out)
  have K_kt := Lib.hid (J_kt.out.up HB1.out)
  have K_ks := Lib.hid (J_ks.out.up HB1.out)
  have K_hx := Lib.hid (J_hx.out.up HB1.out)
  clear hb1 E0 HAW HT J_kt J_ks J_hx
  go_upto_region 2 with (fail)
  refine wp_region_Hx (w0 := w1) [0, 1, 2] [(w.heap.size + 1, Obj.cells (txA s) 25 (0, 0)), (w.heap.size, Obj.cells (txA t) 25 (0, 0))] rfl E1.out ?_
  refine lexH_phase [0, 1, 2] [] ?_
  have hw1 : EnvX w1 _ [(w.heap.size + 1, Obj.cells (txA s) 25 (0, 0)), (w.heap.size, Obj.cells (txA t) 25 (0, 0))] := E1.out
  have hone := @EnvC.one _ _ _ hw1
  (refine wpG_val (v := txV t) rfl rfl (fun u hu => load_any_op u (box_tx hu (List.Mem.tail _ (List.Mem.head _))) rfl) ?_ hw1; intro K hK; go_big_quiet_op; go_big_quiet_on)
  (refine wpG_call (f := 10) (args := #[txV t]) (v := .bool true) rfl rfl rfl Tryd.func10 rfl rfl (fun u hu => by have h1 := few_any t u (K_kt.out.up (EnvX.bel hu)); rwa [HF_t.out] at h1) ?_ hw1; intro K hK; go_big_quiet_op; go_big_quiet_on)
  (refine wpG_op rfl rfl rfl ?_; intro K hK; go_big_quiet_op; go_big_quiet_on)
  clear hone hw1
  refine wpG_nil ?_
  intro u3 E2'
  have EX2 := Lib.hid E2'
  clear E2'
  go_upto_region 3 with (fail)
  refine wp_region_Hx (w0 := w1) [0, 1, 2] [(w.heap.size + 1, Obj.cells (txA s) 25 (0, 0)), (w.heap.size, Obj.cells (txA t) 25 (0, 0))] rfl EX2.out ?_
  refine lexH_phase [0, 1, 2] [] ?_
  have hw4 : EnvX w1 _ [(w.heap.size + 1, Obj.cells (txA s) 25 (0, 0)), (w.heap.size, Obj.cells (txA t) 25 (0, 0))] := EX2.out
  have hone := @EnvC.one _ _ _ hw4
  (refine wpG_val (v := txV s) rfl rfl (fun u hu => load_any_op u (box_tx hu (List.Mem.head _)) rfl) ?_ hw4; intro K hK; go_big_quiet_op; go_big_quiet_on)
  (refine wpG_call (f := 10) (args := #[txV s]) (v := .bool true) rfl rfl rfl Tryd.func10 rfl rfl (fun u hu => by have h1 := few_any s u (K_ks.out.up (EnvX.bel hu)); rwa [HF_s.out] at h1) ?_ hw4; intro K hK; go_big_quiet_op; go_big_quiet_on)
  (refine wpG_op rfl rfl rfl ?_; intro K hK; go_big_quiet_op; go_big_quiet_on)
  clear hone hw4
  refine wpG_nil ?_
  intro u6 E2'
  have EX5 := Lib.hid E2'
  clear E2'
  go_upto_region 4 with (fail)
  refine wp_region_Hx (w0 := w1) [0, 1, 2, 3, 4, 5, 6, 7, 8, 9, 10, 11, 12, 13, 14] [(w.heap.size + 1, Obj.cells (txA s) 25 (0, 0)), (w.heap.size, Obj.cells (txA t) 25 (0, 0))] rfl EX5.out ?_
  refine lexH_phase [0, 1, 2, 3, 4, 5, 6, 7, 8, 9, 10, 11, 12, 13, 14] [] ?_
  have hw7 : EnvX w1 _ [(w.heap.size + 1, Obj.cells (txA s) 25 (0, 0)), (w.heap.size, Obj.cells (txA t) 25 (0, 0))] := EX5.out
  have hone := @EnvC.one _ _ _ hw7
  (refine wpG_op rfl rfl rfl ?_; intro K hK; go_big_quiet_op; go_big_quiet_on)
  (refine wpG_op rfl rfl rfl ?_; intro K hK; go_big_quiet_op; go_big_quiet_on)
  (refine wpG_op rfl rfl rfl ?_; intro K hK; go_big_quiet_op; go_big_quiet_on)
  (refine wpG_op rfl rfl rfl ?_; intro K hK; go_big_quiet_op; go_big_quiet_on)
  (refine wpG_op rfl rfl rfl ?_; intro K hK; go_big_quiet_op; go_big_quiet_on)
  (refine wpG_op rfl rfl rfl ?_; intro K hK; go_big_quiet_op; go_big_quiet_on)
  (refine wpG_op rfl rfl rfl ?_; intro K hK; go_big_quiet_op; go_big_quiet_on)
  (refine wpG_op rfl rfl rfl ?_; intro K hK; go_big_quiet_op; go_big_quiet_on)
  (refine wpG_op rfl rfl rfl ?_; intro K hK; go_big_quiet_op; go_big_quiet_on)
  (refine wpG_op rfl rfl rfl ?_; intro K hK; go_big_quiet_op; go_big_quiet_on)
  (refine wpG_op rfl rfl rfl ?_; intro K hK; go_big_quiet_op; go_big_quiet_on)
  (refine wpG_op rfl rfl rfl ?_; intro K hK; go_big_quiet_op; go_big_quiet_on)
  (refine wpG_val (v := .int .i64 (n : Int)) rfl rfl (fun u hu => len_op Tryd.underlying26 HN63.out u rfl) ?_ hw7; intro K hK; go_big_quiet_op; go_big_quiet_on)
  (refine wpG_val (v := .bool false) rfl rfl (fun u hu => gtZ_op u C13.out rfl rfl) ?_ hw7; intro K hK; go_big_quiet_op; go_big_quiet_on)
  (refine wpG_op rfl rfl rfl ?_; intro K hK; go_big_quiet_op; go_big_quiet_on)
  clear hone hw7
  refine wpG_nil ?_
  intro u9 E2'
  have EX8 := Lib.hid E2'
  clear E2'
  have HLD : Hid ((loadVar 25 ⟨w.heap.size, 0, none⟩).run Tryd.prog u9 = .ok (.agg (txA t)) u9) := box_tx EX8.out (List.Mem.tail _ (List.Mem.head _))
  have HPT : Hid (Calls Tryd.prog 12 #[.agg (txA t)] u9 fun e w' => (∃ v, e = .returned (.tuple #[v, .bool true]) ∧ OwnB w' u9.heap.size v (putX t.r).1) ∧ Below u9.heap.size u9 w') := by
    have h1 := HH.out.put t u9 (K_kt.out.up EX8.out.bel) (HT1.out.below (EnvX.bel EX8.out))
    rwa [HP_t.out] at h1
  go_upto_region 6 with (fail)
  go_wp2_with ((with_reducible refine wpList_load_run (o := ⟨some 42, _, _, _, _, _⟩) ?_ 25 (.tmp 3) ?_ ⟨w.heap.size, 0, none⟩ ?_ HLD.out ?_); (rfl); (rfl); (rfl))
  refine HPT.out.mono ?_
  rintro e w2 ⟨⟨v6, rfl, hv⟩, hb⟩
  obtain ⟨Ap, cp, rfl⟩ := hv.form
  have HB_xs := Lib.hid hv.bytes.2
  have HC_xs := Lib.hid hv.cap
  have hbb := (EnvX.below EX8.out hb).bel
  have E2 : Hid (EnvX w2 w2 [(w.heap.size + 1, Obj.cells (txA s) 25 (0, 0)), (w.heap.size, Obj.cells (txA t) 25 (0, 0))]) := ⟨Below.refl _ _, (EnvX.below EX8.out hb).box⟩
  have HB2 := Lib.hid (HB1.out.trans (hbb.mono HB1.out.size))
  have HT2 := Lib.hid (HT1.out.below hbb)
  have K_kt := Lib.hid (K_kt.out.up hbb)
  have K_ks := Lib.hid (K_ks.out.up hbb)
  have K_hx := Lib.hid (K_hx.out.up hbb)
  clear hv hb HLD HPT hbb EX8
  obtain ⟨np, hnp⟩ : ∃ np, (putX t.r).1.length = np := ⟨_, rfl⟩
  obtain ⟨xs, hxs⟩ : ∃ xs, (putX t.r).1 = xs := ⟨_, rfl⟩
  have HN_xs := Lib.hid hnp
  have HX_xs := Lib.hid hxs
  rw [hnp] at HC_xs ⊢
  rw [hxs] at HB_xs HN_xs
  clear hnp hxs
  have HLD : Hid ((loadVar 25 ⟨w.heap.size + 1, 0, none⟩).run Tryd.prog w2 = .ok (.agg (txA s)) w2) := box_tx E2.out (List.Mem.head _)
  have HPT : Hid (Calls Tryd.prog 12 #[.agg (txA s)] w2 fun e w' => (∃ v, e = .returned (.tuple #[v, .bool true]) ∧ OwnB w' w2.heap.size v (putX s.r).1) ∧ Below w2.heap.size w2 w') := by
    have h1 := HH.out.put s w2 K_ks.out (HT2.out.below (EnvX.bel E2.out))
    rwa [HP_s.out] at h1
  go_upto_region 7 with (fail)
  go_wp2_with ((with_reducible refine wpList_load_run (o := ⟨some 47, _, _, _, _, _⟩) ?_ 25 (.tmp 4) ?_ ⟨w.heap.size + 1, 0, none⟩ ?_ HLD.out ?_); (rfl); (rfl); (rfl))
  refine HPT.out.mono ?_
  rintro e w3 ⟨⟨v7, rfl, hv⟩, hb⟩
  obtain ⟨Aq, cq, rfl⟩ := hv.form
  have HB_ys := Lib.hid hv.bytes.2
  have HC_ys := Lib.hid hv.cap
  have hbb := (EnvX.below E2.out hb).bel
  have E3 : Hid (EnvX w3 w3 [(w.heap.size + 1, Obj.cells (txA s) 25 (0, 0)), (w.heap.size, Obj.cells (txA t) 25 (0, 0))]) := ⟨Below.refl _ _, (EnvX.below E2.out hb).box⟩
  have HB3 := Lib.hid (HB2.out.trans (hbb.mono HB2.out.size))
  have HT3 := Lib.hid (HT2.out.below hbb)
  have K_kt := Lib.hid (K_kt.out.up hbb)
  have K_ks := Lib.hid (K_ks.out.up hbb)
  have K_hx := Lib.hid (K_hx.out.up hbb)
  have HB_xs := Lib.hid (HB_xs.out.up hbb)
  clear hv hb HLD HPT hbb E2
  obtain ⟨nq, hnp⟩ : ∃ np, (putX s.r).1.length = np := ⟨_, rfl⟩
  obtain ⟨ys, hxs⟩ : ∃ xs, (putX s.r).1 = xs := ⟨_, rfl⟩
  have HN_ys := Lib.hid hnp
  have HX_ys := Lib.hid hxs
  rw [hnp] at HC_ys ⊢
  rw [hxs] at HB_ys HN_ys
  clear hnp hxs
  rw [HX_xs.out] at HXS
  rw [HX_ys.out] at HYS
  rw [HX_xs.out, HX_ys.out] at HIJ
  go_upto_region 8 with (fail)
  have HRC := Lib.hid (show Calls Tryd.prog 14 #[.slice Ap np cp] w3 fun e w' => (∃ t_1 : TxM, e = .returned (.tuple #[txV t_1, .bool true]) ∧ t_1.r = t.r ∧ TxOk w' t_1) ∧ Below w3.heap.size w3 w' from by
      have h0 := HXS.out
      have h1 := HH.out.read Ap np cp xs w3 HN_xs.out (by rw [HN_xs.out] at h0; omega) HC_xs.out.1 HC_xs.out.2 h0.2.1 HB_xs.out HT3.out
      rwa [h0.2.2] at h1)
  go_wp2_with fail
  refine HRC.out.mono ?_
  rintro e w4 ⟨⟨xr, rfl, hr0, hk0⟩, hb⟩
  have HR_xr := Lib.hid hr0
  have K_xr := Lib.hid hk0
  have hbb := (EnvX.below E3.out hb).bel
  have E4 : Hid (EnvX w4 w4 [(w.heap.size + 1, Obj.cells (txA s) 25 (0, 0)), (w.heap.size, Obj.cells (txA t) 25 (0, 0))]) := ⟨Below.refl _ _, (EnvX.below E3.out hb).box⟩
  have HB4 := Lib.hid (HB3.out.trans (hbb.mono HB3.out.size))
  have HT4 := Lib.hid (HT3.out.below hbb)
  have K_kt := Lib.hid (K_kt.out.up hbb)
  have K_ks := Lib.hid (K_ks.out.up hbb)
  have K_hx := Lib.hid (K_hx.out.up hbb)
  have HB_xs := Lib.hid (HB_xs.out.up hbb)
  have HB_ys := Lib.hid (HB_ys.out.up hbb)
  clear hr0 hk0 hb hbb E3 HRC
  have E4b : Hid (EnvX w4 (w4.alloc (.cells (txA xr) 25)) ((w4.heap.size, Obj.cells (txA xr) 25 (0, 0)) :: [(w.heap.size + 1, Obj.cells (txA s) 25 (0, 0)), (w.heap.size, Obj.cells (txA t) 25 (0, 0))])) := EnvX.new E4.out _
  unfold txV
  go_upto_region 9 with ((with_reducible refine wpList_store_row (o := ⟨none, .store 25 _ _, _, _, _, _⟩) ?_ 25 (.tmp 14) (.tmp 54) ?_ w4.heap.size (txA xr) ?_ ?_ 25 _ (heap_alloc_last w4 _) (infoTx _ rfl) ?_ (txA_one _) ?_); (rfl); (rfl); (rfl); (rfl); (rfl); rw [World.setRow_alloc_new])
  clear E4
  go_upto_region 9 with (fail)
  have HRC := Lib.hid (show Calls Tryd.prog 14 #[.slice A n c] (w4.alloc (.cells (txA xr) 25)) fun e w' => (∃ t_1 : TxM, e = .returned (.tuple #[txV t_1, .bool false]) ∧ t_1.r = (readX b).1 ∧ TxOk w' t_1) ∧ Below (w4.alloc (.cells (txA xr) 25)).heap.size (w4.alloc (.cells (txA xr) 25)) w' from by
      have h1 := HH.out.read A n c b (w4.alloc (.cells (txA xr) 25)) HBM.out.1 (by have := HN1.out; omega) HBM.out.2.1 HBM.out.2.2.1 HBM.out.2.2.2 (K_hx.out.up (EnvX.bel E4b.out)) (HT4.out.below E4b.out.bel)
      rwa [HRB.out] at h1)
  go_wp2_with fail
  refine HRC.out.mono ?_
  rintro e w5 ⟨⟨yr, rfl, hr0, hk0⟩, hb⟩
  have HR_yr := Lib.hid hr0
  have K_yr := Lib.hid hk0
  have hbb := (EnvX.below E4b.out hb).bel
  have E5 : Hid (EnvX w5 w5 [(w4.heap.size, Obj.cells (txA xr) 25 (0, 0)), (w.heap.size + 1, Obj.cells (txA s) 25 (0, 0)), (w.heap.size, Obj.cells (txA t) 25 (0, 0))]) := ⟨Below.refl _ _, (EnvX.below E4b.out hb).box⟩
  have HB5 := Lib.hid (HB4.out.trans (hbb.mono HB4.out.size))
  have HT5 := Lib.hid (HT4.out.below hbb)
  have K_kt := Lib.hid (K_kt.out.up hbb)
  have K_ks := Lib.hid (K_ks.out.up hbb)
  have K_hx := Lib.hid (K_hx.out.up hbb)
  have HB_xs := Lib.hid (HB_xs.out.up hbb)
  have HB_ys := Lib.hid (HB_ys.out.up hbb)
  have K_xr := Lib.hid (K_xr.out.up hbb)
  clear hr0 hk0 hb hbb E4b HRC
  have E5b : Hid (EnvX w5 (w5.alloc (.cells (txA yr) 25)) ((w5.heap.size, Obj.cells (txA yr) 25 (0, 0)) :: [(w4.heap.size, Obj.cells (txA xr) 25 (0, 0)), (w.heap.size + 1, Obj.cells (txA s) 25 (0, 0)), (w.heap.size, Obj.cells (txA t) 25 (0, 0))])) := EnvX.new E5.out _
  unfold txV
  go_upto_region 10 with ((with_reducible refine wpList_store_row (o := ⟨none, .store 25 _ _, _, _, _, _⟩) ?_ 25 (.tmp 16) (.tmp 59) ?_ w5.heap.size (txA yr) ?_ ?_ 25 _ (heap_alloc_last w5 _) (infoTx _ rfl) ?_ (txA_one _) ?_); (rfl); (rfl); (rfl); (rfl); (rfl); rw [World.setRow_alloc_new])
  clear E5
  have HLD : Hid ((loadVar 25 ⟨w5.heap.size, 0, none⟩).run Tryd.prog (w5.alloc (.cells (txA yr) 25)) = .ok (.agg (txA yr)) (w5.alloc (.cells (txA yr) 25))) := box_tx E5b.out (List.Mem.head _)
  have HPT : Hid (Calls Tryd.prog 12 #[.agg (txA yr)] (w5.alloc (.cells (txA yr) 25)) fun e w' => (∃ v, e = .returned (.tuple #[v, .bool false]) ∧ OwnB w' (w5.alloc (.cells (txA yr) 25)).heap.size v (putX yr.r).1) ∧ Below (w5.alloc (.cells (txA yr) 25)).heap.size (w5.alloc (.cells (txA yr) 25)) w') := by
    have h1 := HH.out.put yr (w5.alloc (.cells (txA yr) 25)) (K_yr.out.up E5b.out.bel) (HT5.out.below (EnvX.bel E5b.out))
    rwa [(HPY.out yr HR_yr.out)] at h1
  go_upto_region 10 with (fail)
  go_wp2_with ((with_reducible refine wpList_load_run (o := ⟨some 62, _, _, _, _, _⟩) ?_ 25 (.tmp 16) ?_ ⟨w5.heap.size, 0, none⟩ ?_ HLD.out ?_); (rfl); (rfl); (rfl))
  refine HPT.out.mono ?_
  rintro e w6 ⟨⟨v10, rfl, hv⟩, hb⟩
  obtain ⟨Ar, cr, rfl⟩ := hv.form
  have HB_zs := Lib.hid hv.bytes.2
  have HC_zs := Lib.hid hv.cap
  have hbb := (EnvX.below E5b.out hb).bel
  have E6 : Hid (EnvX w6 w6 [(w5.heap.size, Obj.cells (txA yr) 25 (0, 0)), (w4.heap.size, Obj.cells (txA xr) 25 (0, 0)), (w.heap.size + 1, Obj.cells (txA s) 25 (0, 0)), (w.heap.size, Obj.cells (txA t) 25 (0, 0))]) := ⟨Below.refl _ _, (EnvX.below E5b.out hb).box⟩
  have HB6 := Lib.hid (HB5.out.trans (hbb.mono HB5.out.size))
  have HT6 := Lib.hid (HT5.out.below hbb)
  have K_kt := Lib.hid (K_kt.out.up hbb)
  have K_ks := Lib.hid (K_ks.out.up hbb)
  have K_hx := Lib.hid (K_hx.out.up hbb)
  have HB_xs := Lib.hid (HB_xs.out.up hbb)
  have HB_ys := Lib.hid (HB_ys.out.up hbb)
  have K_xr := Lib.hid (K_xr.out.up hbb)
  have K_yr := Lib.hid (K_yr.out.up hbb)
  clear hv hb HLD HPT hbb E5b
  obtain ⟨nr, hnp⟩ : ∃ np, (putX yr.r).1.length = np := ⟨_, rfl⟩
  obtain ⟨zs, hxs⟩ : ∃ xs, (putX yr.r).1 = xs := ⟨_, rfl⟩
  have HN_zs := Lib.hid hnp
  have HX_zs := Lib.hid hxs
  rw [hnp] at HC_zs ⊢
  rw [hxs] at HB_zs HN_zs
  clear hnp hxs
  obtain ⟨s0, hs0⟩ : ∃ s, strOfNums xs = s := ⟨_, rfl⟩
  obtain ⟨s1, hs1⟩ : ∃ s, strOfNums ys = s := ⟨_, rfl⟩
  have HS0 := Lib.hid hs0
  have HS1 := Lib.hid hs1
  have HES : Hid ((s0.toList == s1.toList) = sameX t.r s.r) := by
    show _ = _
    rw [← hs0, ← hs1, strOf_beq HXS.out.2.1 HYS.out.2, ← HIJ.out]
  have HNB : Hid ((sameX t.r s.r != sameX t.r s.r) = false) := by show _ = _; simp
  clear hs0 hs1
  have HYN : Hid (yr.n2 = 0) := by show _ = _; rw [← K_yr.out.l2]; exact HY0.out yr HR_yr.out
  have HY63 := Lib.hid K_yr.out.n63
  go_upto_region 11 with (fail)
  refine wp_region_H (w0 := w6) [(w5.heap.size, Obj.cells (txA yr) 25 (0, 0)), (w4.heap.size, Obj.cells (txA xr) 25 (0, 0)), (w.heap.size + 1, Obj.cells (txA s) 25 (0, 0)), (w.heap.size, Obj.cells (txA t) 25 (0, 0))] (by kernel_rfl) E6.out ?_
  refine anyH_phase [0, 1, 2, 3, 4, 5, 6, 7, 8, 9, 10, 11, 12, 13, 14, 15, 16, 17, 18, 19, 20, 21, 22, 23, 24, 25, 26, 27, 28, 29, 30, 31, 32, 33] 0 rfl ⟨_, (EnvX.drew E6.out)⟩ (by kernel_rfl) ?_
  have hw1201 : EnvX w6 _ [(w5.heap.size, Obj.cells (txA yr) 25 (0, 0)), (w4.heap.size, Obj.cells (txA xr) 25 (0, 0)), (w.heap.size + 1, Obj.cells (txA s) 25 (0, 0)), (w.heap.size, Obj.cells (txA t) 25 (0, 0))] := (EnvX.drew E6.out)
  have hone := @EnvC.one _ _ _ hw1201
  (refine wpG_op rfl rfl rfl ?_; intro K hK; go_big_quiet_op; go_big_quiet_on)
  (refine wpG_val (v := txV t) rfl rfl (fun u hu => load_any_op u (box_tx hu (List.Mem.tail _ (List.Mem.tail _ (List.Mem.tail _ (List.Mem.head _))))) rfl) ?_ hw1201; intro K hK; go_big_quiet_op; go_big_quiet_on)
  (refine wpG_call (f := 18) (args := #[txV t]) (v := .bool true) rfl rfl rfl Tryd.func18 rfl rfl (fun u hu => by have h1 := HH.out.may t u (K_kt.out.up (EnvX.bel hu)) (HT6.out.below (EnvX.bel hu)); rwa [HMY.out] at h1) ?_ hw1201; intro K hK; go_big_quiet_op; go_big_quiet_on)
  (refine wpG_val (v := .bool false) rfl rfl (fun u hu => neqBc_op u rfl rfl rfl) ?_ hw1201; intro K hK; go_big_quiet_op; go_big_quiet_on)
  (refine wpG_op rfl rfl rfl ?_; intro K hK; go_big_quiet_op; go_big_quiet_on)
  (refine wpG_op rfl rfl rfl ?_; intro K hK; go_big_quiet_op; go_big_quiet_on)
  (refine wpG_op rfl rfl rfl ?_; intro K hK; go_big_quiet_op; go_big_quiet_on)
  (refine wpG_op rfl rfl rfl ?_; intro K hK; go_big_quiet_op; go_big_quiet_on)
  (refine wpG_op rfl rfl rfl ?_; intro K hK; go_big_quiet_op; go_big_quiet_on)
  (refine wpG_op rfl rfl rfl ?_; intro K hK; go_big_quiet_op; go_big_quiet_on)
  (refine wpG_val (v := txV xr) rfl rfl (fun u hu => load_any_op u (box_tx hu (List.Mem.tail _ (List.Mem.head _))) rfl) ?_ hw1201; intro K hK; go_big_quiet_op; go_big_quiet_on)
  (refine wpG_val (v := txV t) rfl rfl (fun u hu => load_any_op u (box_tx hu (List.Mem.tail _ (List.Mem.tail _ (List.Mem.tail _ (List.Mem.head _))))) rfl) ?_ hw1201; intro K hK; go_big_quiet_op; go_big_quiet_on)
  (refine wpG_call (f := 19) (args := #[txV xr, txV t]) (v := .bool true) rfl rfl rfl Tryd.func19 rfl rfl (fun u hu => by have h1 := HH.out.same xr t u (K_xr.out.up (EnvX.bel hu)) (K_kt.out.up (EnvX.bel hu)) (HT6.out.below (EnvX.bel hu)); rwa [show sameX xr.r t.r = true by rw [HR_xr.out]; exact decide_eq_true rfl] at h1) ?_ hw1201; intro K hK; go_big_quiet_op; go_big_quiet_on)
  (refine wpG_op rfl rfl rfl ?_; intro K hK; go_big_quiet_op; go_big_quiet_on)
  (refine wpG_op rfl rfl rfl ?_; intro K hK; go_big_quiet_op; go_big_quiet_on)
  (refine wpG_op rfl rfl rfl ?_; intro K hK; go_big_quiet_op; go_big_quiet_on)
  (refine wpG_op rfl rfl rfl ?_; intro K hK; go_big_quiet_op; go_big_quiet_on)
  (refine wpG_op rfl rfl rfl ?_; intro K hK; go_big_quiet_op; go_big_quiet_on)
  (refine wpG_op rfl rfl rfl ?_; intro K hK; go_big_quiet_op; go_big_quiet_on)
  (refine wpG_op rfl rfl rfl ?_; intro K hK; go_big_quiet_op; go_big_quiet_on)
  (refine wpG_op rfl rfl rfl ?_; intro K hK; go_big_quiet_op; go_big_quiet_on)
  (refine wpG_op rfl rfl rfl ?_; intro K hK; go_big_quiet_op; go_big_quiet_on)
  (refine wpG_op rfl rfl rfl ?_; intro K hK; go_big_quiet_op; go_big_quiet_on)
  (refine wpG_op rfl rfl rfl ?_; intro K hK; go_big_quiet_op; go_big_quiet_on)
  (refine wpG_val (v := .string s0) rfl rfl (fun u hu => conv_op u HN_xs.out (HB_xs.out.up (EnvX.bel hu)) HS0.out rfl) ?_ hw1201; intro K hK; go_big_quiet_op; go_big_quiet_on)
  (refine wpG_op rfl rfl rfl ?_; intro K hK; go_big_quiet_op; go_big_quiet_on)
  (refine wpG_val (v := .string s1) rfl rfl (fun u hu => conv_op u HN_ys.out (HB_ys.out.up (EnvX.bel hu)) HS1.out rfl) ?_ hw1201; intro K hK; go_big_quiet_op; go_big_quiet_on)
  (refine wpG_val (v := .bool (sameX t.r s.r)) rfl rfl (fun u hu => eqs_op u HES.out rfl rfl) ?_ hw1201; intro K hK; go_big_quiet_op; go_big_quiet_on)
  (refine wpG_val (v := txV t) rfl rfl (fun u hu => load_any_op u (box_tx hu (List.Mem.tail _ (List.Mem.tail _ (List.Mem.tail _ (List.Mem.head _))))) rfl) ?_ hw1201; intro K hK; go_big_quiet_op; go_big_quiet_on)
  (refine wpG_val (v := txV s) rfl rfl (fun u hu => load_any_op u (box_tx hu (List.Mem.tail _ (List.Mem.tail _ (List.Mem.head _)))) rfl) ?_ hw1201; intro K hK; go_big_quiet_op; go_big_quiet_on)
  (refine wpG_call (f := 19) (args := #[txV t, txV s]) (v := .bool (sameX t.r s.r)) rfl rfl rfl Tryd.func19 rfl rfl (fun u hu => HH.out.same t s u (K_kt.out.up (EnvX.bel hu)) (K_ks.out.up (EnvX.bel hu)) (HT6.out.below (EnvX.bel hu))) ?_ hw1201; intro K hK; go_big_quiet_op; go_big_quiet_on)
  (refine wpG_val (v := .bool false) rfl rfl (fun u hu => neqBc_op u HNB.out rfl rfl) ?_ hw1201; intro K hK; go_big_quiet_op; go_big_quiet_on)
  (refine wpG_op rfl rfl rfl ?_; intro K hK; go_big_quiet_op; go_big_quiet_on)
  (refine wpG_op rfl rfl rfl ?_; intro K hK; go_big_quiet_op; go_big_quiet_on)
  clear hone hw1201
  refine wpG_nil ?_
  refine anyH_done (by kernel_rfl) ?_
  intro u1203 E2'
  have EX1202 := Lib.hid E2'
  clear E2'
  go_upto_region 13 with (fail)
  refine wp_region_Hx (w0 := w6) [0, 1, 2, 3, 4, 5, 6, 7, 8, 9, 10, 11, 12, 13, 14, 15, 16, 17, 18, 19, 20, 21] [(w5.heap.size, Obj.cells (txA yr) 25 (0, 0)), (w4.heap.size, Obj.cells (txA xr) 25 (0, 0)), (w.heap.size + 1, Obj.cells (txA s) 25 (0, 0)), (w.heap.size, Obj.cells (txA t) 25 (0, 0))] rfl EX1202.out ?_
  refine lexH_phase [0, 1, 2, 3, 4, 5, 6, 7, 8, 9, 10, 11, 12, 13, 14, 15, 16, 17, 18, 19, 20, 21] [] ?_
  have hw1204 : EnvX w6 _ [(w5.heap.size, Obj.cells (txA yr) 25 (0, 0)), (w4.heap.size, Obj.cells (txA xr) 25 (0, 0)), (w.heap.size + 1, Obj.cells (txA s) 25 (0, 0)), (w.heap.size, Obj.cells (txA t) 25 (0, 0))] := EX1202.out
  have hone := @EnvC.one _ _ _ hw1204
  (refine wpG_op rfl rfl rfl ?_; intro K hK; go_big_quiet_op; go_big_quiet_on)
  (refine wpG_op rfl rfl rfl ?_; intro K hK; go_big_quiet_op; go_big_quiet_on)
  (refine wpG_op rfl rfl rfl ?_; intro K hK; go_big_quiet_op; go_big_quiet_on)
  (refine wpG_op rfl rfl rfl ?_; intro K hK; go_big_quiet_op; go_big_quiet_on)
  (refine wpG_val (v := .slice yr.A2 yr.n2 yr.c2) rfl rfl (fun u hu => load_any_op u (box_tx_outs hu (List.Mem.head _)) rfl) ?_ hw1204; intro K hK; go_big_quiet_op; go_big_quiet_on)
  (refine wpG_val (v := .int .i64 (yr.n2 : Int)) rfl rfl (fun u hu => len_op Tryd.underlying23 HY63.out.2 u rfl) ?_ hw1204; intro K hK; go_big_quiet_op; go_big_quiet_on)
  (refine wpG_val (v := .bool true) rfl rfl (fun u hu => eqlI_op u (decide_eq_true (by rw [HYN.out]; rfl)) rfl rfl) ?_ hw1204; intro K hK; go_big_quiet_op; go_big_quiet_on)
  (refine wpG_op rfl rfl rfl ?_; intro K hK; go_big_quiet_op; go_big_quiet_on)
  (refine wpG_op rfl rfl rfl ?_; intro K hK; go_big_quiet_op; go_big_quiet_on)
  (refine wpG_skip rfl rfl ?_ hw1204; intro K hK; go_big_quiet_op; go_big_quiet_on)
  (refine wpG_skip rfl rfl ?_ hw1204; intro K hK; go_big_quiet_op; go_big_quiet_on)
  (refine wpG_skip rfl rfl ?_ hw1204; intro K hK; go_big_quiet_op; go_big_quiet_on)
  (refine wpG_skip rfl rfl ?_ hw1204; intro K hK; go_big_quiet_op; go_big_quiet_on)
  (refine wpG_skip rfl rfl ?_ hw1204; intro K hK; go_big_quiet_op; go_big_quiet_on)
  (refine wpG_skip rfl rfl ?_ hw1204; intro K hK; go_big_quiet_op; go_big_quiet_on)
  (refine wpG_skip rfl rfl ?_ hw1204; intro K hK; go_big_quiet_op; go_big_quiet_on)
  (refine wpG_skip rfl rfl ?_ hw1204; intro K hK; go_big_quiet_op; go_big_quiet_on)
  (refine wpG_skip rfl rfl ?_ hw1204; intro K hK; go_big_quiet_op; go_big_quiet_on)
  (refine wpG_skip rfl rfl ?_ hw1204; intro K hK; go_big_quiet_op; go_big_quiet_on)
  (refine wpG_skip rfl rfl ?_ hw1204; intro K hK; go_big_quiet_op; go_big_quiet_on)
  (refine wpG_op rfl rfl rfl ?_; intro K hK; go_big_quiet_op; go_big_quiet_on)
  (refine wpG_op rfl rfl rfl ?_; intro K hK; go_big_quiet_op; go_big_quiet_on)
  clear hone hw1204
  refine wpG_nil ?_
  intro u1206 E2'
  have EX1205 := Lib.hid E2'
  clear E2'
  have HBE := Lib.hid (HB6.out.trans ((EnvX.bel EX1205.out).mono HB6.out.size))
  go_wp2
  go_ret
  exact ⟨rfl, HBE.out⟩
set_option maxRecDepth 20000 in
set_option maxHeartbeats 8000000 in
theorem law_backX_at (H : CoinC) (t s : TxM) (b : List Int) (A : Option Addr) (n c : Nat) (w : World) (kt : TxOk w t) (ks : TxOk w s) (hl : b.length = n) (hnc : n ≤ c) (hcm : c ≤ maxLen) (hB : isB b) (hx : Bytes w w.heap.size A b) (ht : Tables w) (k1 : fewX t.r = true) (k2 : fewX s.r = true) (k3 : n ≤ 400) (m1 : mayX t.r = false) (m3 : mayReadX b = true) :
    Calls Tryd.prog 4 #[txV t, txV s, .slice A n c] w fun e w' => e = .returned (.bool true) ∧ Below w.heap.size w w' := by
  have HN63 : Hid (n < 9223372036854775808) := by show _ < _; unfold maxLen at hcm; omega
  have HF_t : Hid (fewX t.r = true) := k1
  have HF_s : Hid (fewX s.r = true) := k2
  have C13 : Hid (decide ((400 : Int) < (n : Int)) = false) := decide_eq_false (by omega)
  have HP_t : Hid ((putX t.r).2 = false) := (putX_2 _).trans m1
  have HP_s : Hid ((putX s.r).2 = (mayX s.r)) := putX_2 _
  have HMY : Hid (mayX t.r = false) := m1
  have HRB : Hid ((readX b).2 = true) := (readX_snd b).trans m3
  have HPY : Hid (∀ y : TxM, y.r = (readX b).1 → (putX y.r).2 = true) := fun y e => by
    rw [putX_2, e]
    unfold readX
    rw [m3]
    exact (read_okX hB m3).2.1
  have HBM := Lib.hid (And.intro hl (And.intro hnc (And.intro hcm hB)))
  have HN1 := Lib.hid k3
  have HXS : Hid ((putX t.r).1.length ≤ 122 ∧ isB (putX t.r).1) := ⟨putX_len kt.ok, putX_byte kt.ok⟩
  have HYS : Hid ((putX s.r).1.length ≤ 122 ∧ isB (putX s.r).1) := ⟨putX_len ks.ok, putX_byte ks.ok⟩
  have HYZ : Hid (∀ y : TxM, y.r = (readX b).1 → (putX y.r).1 = b) := fun y e => by
    have h1 := read_okX hB m3
    rw [e, show (readX b).1 = parseX b by unfold readX; rw [m3]; rfl, putX_yes h1.2.1]
    exact h1.2.2
  clear k1 k2 k3 m1 m3
  have E0 : Hid (EnvX w ((w.alloc (.cells (txA t) 25)).alloc (.cells (txA s) 25)) [(w.heap.size + 1, Obj.cells (txA s) 25 (0, 0)), (w.heap.size, Obj.cells (txA t) 25 (0, 0))]) := (EnvX.start w).two _ _
  have HAW := Lib.hid (cawake_any H ((w.alloc (.cells (txA t) 25)).alloc (.cells (txA s) 25)) (ht.below (EnvX.bel E0.out)))
  have HT := Lib.hid ht
  have HH := Lib.hid H
  have J_kt := Lib.hid kt
  have J_ks := Lib.hid ks
  have J_hx := Lib.hid hx
  clear ht H kt ks hx hl hnc hcm hB
  unfold txV
  go_enter Tryd.func4, Tryd.ntmps4
  go_upto_region 1 with (fail)
  generalize ((w.alloc (.cells (txA t) 25)).alloc (.cells (txA s) 25)) = W at *
  go_wp2_with fail
  refine HAW.out.mono ?_
  rintro e w1 ⟨rfl, hb1⟩
  have HB1 := Lib.hid (EnvX.below E0.out hb1).bel
  have E1 : Hid (EnvX w1 w1 [(w.heap.size + 1, Obj.cells (txA s) 25 (0, 0)), (w.heap.size, Obj.cells (txA t) 25 (0, 0))]) := ⟨Below.refl _ _, (EnvX.below E0.out hb1).box⟩
  have HT1 := Lib.hid (HT.out.below HB1.out)
  have K_kt := Lib.hid (J_kt.out.up HB1.out)
  have K_ks := Lib.hid (J_ks.out.up HB1.out)
  have K_hx := Lib.hid (J_hx.out.up HB1.out)
  clear hb1 E0 HAW HT J_kt J_ks J_hx
  go_upto_region 2 with (fail)
  refine wp_region_Hx (w0 := w1) [0, 1, 2] [(w.heap.size + 1, Obj.cells (txA s) 25 (0, 0)), (w.heap.size, Obj.cells (txA t) 25 (0, 0))] rfl E1.out ?_
  refine lexH_phase [0, 1, 2] [] ?_
  have hw1 : EnvX w1 _ [(w.heap.size + 1, Obj.cells (txA s) 25 (0, 0)), (w.heap.size, Obj.cells (txA t) 25 (0, 0))] := E1.out
  have hone := @EnvC.one _ _ _ hw1
  (refine wpG_val (v := txV t) rfl rfl (fun u hu => load_any_op u (box_tx hu (List.Mem.tail _ (List.Mem.head _))) rfl) ?_ hw1; intro K hK; go_big_quiet_op; go_big_quiet_on)
  (refine wpG_call (f := 10) (args := #[txV t]) (v := .bool true) rfl rfl rfl Tryd.func10 rfl rfl (fun u hu => by have h1 := few_any t u (K_kt.out.up (EnvX.bel hu)); rwa [HF_t.out] at h1) ?_ hw1; intro K hK; go_big_quiet_op; go_big_quiet_on)
  (refine wpG_op rfl rfl rfl ?_; intro K hK; go_big_quiet_op; go_big_quiet_on)
  clear hone hw1
  refine wpG_nil ?_
  intro u3 E2'
  have EX2 := Lib.hid E2'
  clear E2'
  go_upto_region 3 with (fail)
  refine wp_region_Hx (w0 := w1) [0, 1, 2] [(w.heap.size + 1, Obj.cells (txA s) 25 (0, 0)), (w.heap.size, Obj.cells (txA t) 25 (0, 0))] rfl EX2.out ?_
  refine lexH_phase [0, 1, 2] [] ?_
  have hw4 : EnvX w1 _ [(w.heap.size + 1, Obj.cells (txA s) 25 (0, 0)), (w.heap.size, Obj.cells (txA t) 25 (0, 0))] := EX2.out
  have hone := @EnvC.one _ _ _ hw4
  (refine wpG_val (v := txV s) rfl rfl (fun u hu => load_any_op u (box_tx hu (List.Mem.head _)) rfl) ?_ hw4; intro K hK; go_big_quiet_op; go_big_quiet_on)
  (refine wpG_call (f := 10) (args := #[txV s]) (v := .bool true) rfl rfl rfl Tryd.func10 rfl rfl (fun u hu => by have h1 := few_any s u (K_ks.out.up (EnvX.bel hu)); rwa [HF_s.out] at h1) ?_ hw4; intro K hK; go_big_quiet_op; go_big_quiet_on)
  (refine wpG_op rfl rfl rfl ?_; intro K hK; go_big_quiet_op; go_big_quiet_on)
  clear hone hw4
  refine wpG_nil ?_
  intro u6 E2'
  have EX5 := Lib.hid E2'
  clear E2'
  go_upto_region 4 with (fail)
  refine wp_region_Hx (w0 := w1) [0, 1, 2, 3, 4, 5, 6, 7, 8, 9, 10, 11, 12, 13, 14] [(w.heap.size + 1, Obj.cells (txA s) 25 (0, 0)), (w.heap.size, Obj.cells (txA t) 25 (0, 0))] rfl EX5.out ?_
  refine lexH_phase [0, 1, 2, 3, 4, 5, 6, 7, 8, 9, 10, 11, 12, 13, 14] [] ?_
  have hw7 : EnvX w1 _ [(w.heap.size + 1, Obj.cells (txA s) 25 (0, 0)), (w.heap.size, Obj.cells (txA t) 25 (0, 0))] := EX5.out
  have hone := @EnvC.one _ _ _ hw7
  (refine wpG_op rfl rfl rfl ?_; intro K hK; go_big_quiet_op; go_big_quiet_on)
  (refine wpG_op rfl rfl rfl ?_; intro K hK; go_big_quiet_op; go_big_quiet_on)
  (refine wpG_op rfl rfl rfl ?_; intro K hK; go_big_quiet_op; go_big_quiet_on)
  (refine wpG_op rfl rfl rfl ?_; intro K hK; go_big_quiet_op; go_big_quiet_on)
  (refine wpG_op rfl rfl rfl ?_; intro K hK; go_big_quiet_op; go_big_quiet_on)
  (refine wpG_op rfl rfl rfl ?_; intro K hK; go_big_quiet_op; go_big_quiet_on)
  (refine wpG_op rfl rfl rfl ?_; intro K hK; go_big_quiet_op; go_big_quiet_on)
  (refine wpG_op rfl rfl rfl ?_; intro K hK; go_big_quiet_op; go_big_quiet_on)
  (refine wpG_op rfl rfl rfl ?_; intro K hK; go_big_quiet_op; go_big_quiet_on)
  (refine wpG_op rfl rfl rfl ?_; intro K hK; go_big_quiet_op; go_big_quiet_on)
  (refine wpG_op rfl rfl rfl ?_; intro K hK; go_big_quiet_op; go_big_quiet_on)
  (refine wpG_op rfl rfl rfl ?_; intro K hK; go_big_quiet_op; go_big_quiet_on)
  (refine wpG_val (v := .int .i64 (n : Int)) rfl rfl (fun u hu => len_op Tryd.underlying26 HN63.out u rfl) ?_ hw7; intro K hK; go_big_quiet_op; go_big_quiet_on)
  (refine wpG_val (v := .bool false) rfl rfl (fun u hu => gtZ_op u C13.out rfl rfl) ?_ hw7; intro K hK; go_big_quiet_op; go_big_quiet_on)
  (refine wpG_op rfl rfl rfl ?_; intro K hK; go_big_quiet_op; go_big_quiet_on)
  clear hone hw7
  refine wpG_nil ?_
  intro u9 E2'
  have EX8 := Lib.hid E2'
  clear E2'
  have HLD : Hid ((loadVar 25 ⟨w.heap.size, 0, none⟩).run Tryd.prog u9 = .ok (.agg (txA t)) u9) := box_tx EX8.out (List.Mem.tail _ (List.Mem.head _))
  have HPT : Hid (Calls Tryd.prog 12 #[.agg (txA t)] u9 fun e w' => (∃ v, e = .returned (.tuple #[v, .bool false]) ∧ OwnB w' u9.heap.size v (putX t.r).1) ∧ Below u9.heap.size u9 w') := by
    have h1 := HH.out.put t u9 (K_kt.out.up EX8.out.bel) (HT1.out.below (EnvX.bel EX8.out))
    rwa [HP_t.out] at h1
  go_upto_region 6 with (fail)
  go_wp2_with ((with_reducible refine wpList_load_run (o := ⟨some 42, _, _, _, _, _⟩) ?_ 25 (.tmp 3) ?_ ⟨w.heap.size, 0, none⟩ ?_ HLD.out ?_); (rfl); (rfl); (rfl))
  refine HPT.out.mono ?_
  rintro e w2 ⟨⟨v6, rfl, hv⟩, hb⟩
  obtain ⟨Ap, cp, rfl⟩ := hv.form
  have HB_xs := Lib.hid hv.bytes.2
  have HC_xs := Lib.hid hv.cap
  have hbb := (EnvX.below EX8.out hb).bel
  have E2 : Hid (EnvX w2 w2 [(w.heap.size + 1, Obj.cells (txA s) 25 (0, 0)), (w.heap.size, Obj.cells (txA t) 25 (0, 0))]) := ⟨Below.refl _ _, (EnvX.below EX8.out hb).box⟩
  have HB2 := Lib.hid (HB1.out.trans (hbb.mono HB1.out.size))
  have HT2 := Lib.hid (HT1.out.below hbb)
  have K_kt := Lib.hid (K_kt.out.up hbb)
  have K_ks := Lib.hid (K_ks.out.up hbb)
  have K_hx := Lib.hid (K_hx.out.up hbb)
  clear hv hb HLD HPT hbb EX8
  obtain ⟨np, hnp⟩ : ∃ np, (putX t.r).1.length = np := ⟨_, rfl⟩
  obtain ⟨xs, hxs⟩ : ∃ xs, (putX t.r).1 = xs := ⟨_, rfl⟩
  have HN_xs := Lib.hid hnp
  have HX_xs := Lib.hid hxs
  rw [hnp] at HC_xs ⊢
  rw [hxs] at HB_xs HN_xs
  clear hnp hxs
  have HLD : Hid ((loadVar 25 ⟨w.heap.size + 1, 0, none⟩).run Tryd.prog w2 = .ok (.agg (txA s)) w2) := box_tx E2.out (List.Mem.head _)
  have HPT : Hid (Calls Tryd.prog 12 #[.agg (txA s)] w2 fun e w' => (∃ v, e = .returned (.tuple #[v, .bool (mayX s.r)]) ∧ OwnB w' w2.heap.size v (putX s.r).1) ∧ Below w2.heap.size w2 w') := by
    have h1 := HH.out.put s w2 K_ks.out (HT2.out.below (EnvX.bel E2.out))
    rwa [HP_s.out] at h1
  go_upto_region 7 with (fail)
  go_wp2_with ((with_reducible refine wpList_load_run (o := ⟨some 47, _, _, _, _, _⟩) ?_ 25 (.tmp 4) ?_ ⟨w.heap.size + 1, 0, none⟩ ?_ HLD.out ?_); (rfl); (rfl); (rfl))
  refine HPT.out.mono ?_
  rintro e w3 ⟨⟨v7, rfl, hv⟩, hb⟩
  obtain ⟨Aq, cq, rfl⟩ := hv.form
  have HB_ys := Lib.hid hv.bytes.2
  have HC_ys := Lib.hid hv.cap
  have hbb := (EnvX.below E2.out hb).bel
  have E3 : Hid (EnvX w3 w3 [(w.heap.size + 1, Obj.cells (txA s) 25 (0, 0)), (w.heap.size, Obj.cells (txA t) 25 (0, 0))]) := ⟨Below.refl _ _, (EnvX.below E2.out hb).box⟩
  have HB3 := Lib.hid (HB2.out.trans (hbb.mono HB2.out.size))
  have HT3 := Lib.hid (HT2.out.below hbb)
  have K_kt := Lib.hid (K_kt.out.up hbb)
  have K_ks := Lib.hid (K_ks.out.up hbb)
  have K_hx := Lib.hid (K_hx.out.up hbb)
  have HB_xs := Lib.hid (HB_xs.out.up hbb)
  clear hv hb HLD HPT hbb E2
  obtain ⟨nq, hnp⟩ : ∃ np, (putX s.r).1.length = np := ⟨_, rfl⟩
  obtain ⟨ys, hxs⟩ : ∃ xs, (putX s.r).1 = xs := ⟨_, rfl⟩
  have HN_ys := Lib.hid hnp
  have HX_ys := Lib.hid hxs
  rw [hnp] at HC_ys ⊢
  rw [hxs] at HB_ys HN_ys
  clear hnp hxs
  rw [HX_xs.out] at HXS
  rw [HX_ys.out] at HYS
  go_upto_region 8 with (fail)
  have HRC := Lib.hid (show Calls Tryd.prog 14 #[.slice Ap np cp] w3 fun e w' => (∃ t_1 : TxM, e = .returned (.tuple #[txV t_1, .bool (readX xs).2]) ∧ t_1.r = (readX xs).1 ∧ TxOk w' t_1) ∧ Below w3.heap.size w3 w' from by
      have h0 := HXS.out
      have h1 := HH.out.read Ap np cp xs w3 HN_xs.out (by rw [HN_xs.out] at h0; omega) HC_xs.out.1 HC_xs.out.2 h0.2 HB_xs.out HT3.out
      exact h1)
  go_wp2_with fail
  refine HRC.out.mono ?_
  rintro e w4 ⟨⟨xr, rfl, hr0, hk0⟩, hb⟩
  have HR_xr := Lib.hid hr0
  have K_xr := Lib.hid hk0
  have hbb := (EnvX.below E3.out hb).bel
  have E4 : Hid (EnvX w4 w4 [(w.heap.size + 1, Obj.cells (txA s) 25 (0, 0)), (w.heap.size, Obj.cells (txA t) 25 (0, 0))]) := ⟨Below.refl _ _, (EnvX.below E3.out hb).box⟩
  have HB4 := Lib.hid (HB3.out.trans (hbb.mono HB3.out.size))
  have HT4 := Lib.hid (HT3.out.below hbb)
  have K_kt := Lib.hid (K_kt.out.up hbb)
  have K_ks := Lib.hid (K_ks.out.up hbb)
  have K_hx := Lib.hid (K_hx.out.up hbb)
  have HB_xs := Lib.hid (HB_xs.out.up hbb)
  have HB_ys := Lib.hid (HB_ys.out.up hbb)
  clear hr0 hk0 hb hbb E3 HRC
  have E4b : Hid (EnvX w4 (w4.alloc (.cells (txA xr) 25)) ((w4.heap.size, Obj.cells (txA xr) 25 (0, 0)) :: [(w.heap.size + 1, Obj.cells (txA s) 25 (0, 0)), (w.heap.size, Obj.cells (txA t) 25 (0, 0))])) := EnvX.new E4.out _
  unfold txV
  go_upto_region 9 with ((with_reducible refine wpList_store_row (o := ⟨none, .store 25 _ _, _, _, _, _⟩) ?_ 25 (.tmp 14) (.tmp 54) ?_ w4.heap.size (txA xr) ?_ ?_ 25 _ (heap_alloc_last w4 _) (infoTx _ rfl) ?_ (txA_one _) ?_); (rfl); (rfl); (rfl); (rfl); (rfl); rw [World.setRow_alloc_new])
  clear E4
  go_upto_region 9 with (fail)
  have HRC := Lib.hid (show Calls Tryd.prog 14 #[.slice A n c] (w4.alloc (.cells (txA xr) 25)) fun e w' => (∃ t_1 : TxM, e = .returned (.tuple #[txV t_1, .bool true]) ∧ t_1.r = (readX b).1 ∧ TxOk w' t_1) ∧ Below (w4.alloc (.cells (txA xr) 25)).heap.size (w4.alloc (.cells (txA xr) 25)) w' from by
      have h1 := HH.out.read A n c b (w4.alloc (.cells (txA xr) 25)) HBM.out.1 (by have := HN1.out; omega) HBM.out.2.1 HBM.out.2.2.1 HBM.out.2.2.2 (K_hx.out.up (EnvX.bel E4b.out)) (HT4.out.below E4b.out.bel)
      rwa [HRB.out] at h1)
  go_wp2_with fail
  refine HRC.out.mono ?_
  rintro e w5 ⟨⟨yr, rfl, hr0, hk0⟩, hb⟩
  have HR_yr := Lib.hid hr0
  have K_yr := Lib.hid hk0
  have hbb := (EnvX.below E4b.out hb).bel
  have E5 : Hid (EnvX w5 w5 [(w4.heap.size, Obj.cells (txA xr) 25 (0, 0)), (w.heap.size + 1, Obj.cells (txA s) 25 (0, 0)), (w.heap.size, Obj.cells (txA t) 25 (0, 0))]) := ⟨Below.refl _ _, (EnvX.below E4b.out hb).box⟩
  have HB5 := Lib.hid (HB4.out.trans (hbb.mono HB4.out.size))
  have HT5 := Lib.hid (HT4.out.below hbb)
  have K_kt := Lib.hid (K_kt.out.up hbb)
  have K_ks := Lib.hid (K_ks.out.up hbb)
  have K_hx := Lib.hid (K_hx.out.up hbb)
  have HB_xs := Lib.hid (HB_xs.out.up hbb)
  have HB_ys := Lib.hid (HB_ys.out.up hbb)
  have K_xr := Lib.hid (K_xr.out.up hbb)
  clear hr0 hk0 hb hbb E4b HRC
  have E5b : Hid (EnvX w5 (w5.alloc (.cells (txA yr) 25)) ((w5.heap.size, Obj.cells (txA yr) 25 (0, 0)) :: [(w4.heap.size, Obj.cells (txA xr) 25 (0, 0)), (w.heap.size + 1, Obj.cells (txA s) 25 (0, 0)), (w.heap.size, Obj.cells (txA t) 25 (0, 0))])) := EnvX.new E5.out _
  unfold txV
  go_upto_region 10 with ((with_reducible refine wpList_store_row (o := ⟨none, .store 25 _ _, _, _, _, _⟩) ?_ 25 (.tmp 16) (.tmp 59) ?_ w5.heap.size (txA yr) ?_ ?_ 25 _ (heap_alloc_last w5 _) (infoTx _ rfl) ?_ (txA_one _) ?_); (rfl); (rfl); (rfl); (rfl); (rfl); rw [World.setRow_alloc_new])
  clear E5
  have HLD : Hid ((loadVar 25 ⟨w5.heap.size, 0, none⟩).run Tryd.prog (w5.alloc (.cells (txA yr) 25)) = .ok (.agg (txA yr)) (w5.alloc (.cells (txA yr) 25))) := box_tx E5b.out (List.Mem.head _)
  have HPT : Hid (Calls Tryd.prog 12 #[.agg (txA yr)] (w5.alloc (.cells (txA yr) 25)) fun e w' => (∃ v, e = .returned (.tuple #[v, .bool true]) ∧ OwnB w' (w5.alloc (.cells (txA yr) 25)).heap.size v (putX yr.r).1) ∧ Below (w5.alloc (.cells (txA yr) 25)).heap.size (w5.alloc (.cells (txA yr) 25)) w') := by
    have h1 := HH.out.put yr (w5.alloc (.cells (txA yr) 25)) (K_yr.out.up E5b.out.bel) (HT5.out.below (EnvX.bel E5b.out))
    rwa [(HPY.out yr HR_yr.out)] at h1
  go_upto_region 10 with (fail)
  go_wp2_with ((with_reducible refine wpList_load_run (o := ⟨some 62, _, _, _, _, _⟩) ?_ 25 (.tmp 16) ?_ ⟨w5.heap.size, 0, none⟩ ?_ HLD.out ?_); (rfl); (rfl); (rfl))
  refine HPT.out.mono ?_
  rintro e w6 ⟨⟨v10, rfl, hv⟩, hb⟩
  obtain ⟨Ar, cr, rfl⟩ := hv.form
  have HB_zs := Lib.hid hv.bytes.2
  have HC_zs := Lib.hid hv.cap
  have hbb := (EnvX.below E5b.out hb).bel
  have E6 : Hid (EnvX w6 w6 [(w5.heap.size, Obj.cells (txA yr) 25 (0, 0)), (w4.heap.size, Obj.cells (txA xr) 25 (0, 0)), (w.heap.size + 1, Obj.cells (txA s) 25 (0, 0)), (w.heap.size, Obj.cells (txA t) 25 (0, 0))]) := ⟨Below.refl _ _, (EnvX.below E5b.out hb).box⟩
  have HB6 := Lib.hid (HB5.out.trans (hbb.mono HB5.out.size))
  have HT6 := Lib.hid (HT5.out.below hbb)
  have K_kt := Lib.hid (K_kt.out.up hbb)
  have K_ks := Lib.hid (K_ks.out.up hbb)
  have K_hx := Lib.hid (K_hx.out.up hbb)
  have HB_xs := Lib.hid (HB_xs.out.up hbb)
  have HB_ys := Lib.hid (HB_ys.out.up hbb)
  have K_xr := Lib.hid (K_xr.out.up hbb)
  have K_yr := Lib.hid (K_yr.out.up hbb)
  clear hv hb HLD HPT hbb E5b
  obtain ⟨nr, hnp⟩ : ∃ np, (putX yr.r).1.length = np := ⟨_, rfl⟩
  obtain ⟨zs, hxs⟩ : ∃ xs, (putX yr.r).1 = xs := ⟨_, rfl⟩
  have HN_zs := Lib.hid hnp
  have HX_zs := Lib.hid hxs
  rw [hnp] at HC_zs ⊢
  rw [hxs] at HB_zs HN_zs
  clear hnp hxs
  obtain ⟨s2, hs2⟩ : ∃ s, strOfNums zs = s := ⟨_, rfl⟩
  obtain ⟨s3, hs3⟩ : ∃ s, strOfNums b = s := ⟨_, rfl⟩
  have HS2 := Lib.hid hs2
  have HS3 := Lib.hid hs3
  have HEZ : Hid ((s2.toList == s3.toList) = true) := by
    have e : zs = b := HX_zs.out.symm.trans (HYZ.out yr HR_yr.out)
    show _ = _
    rw [← hs2, ← hs3, e]
    exact beq_self_eq_true _
  clear hs2 hs3
  have HY63 := Lib.hid K_yr.out.n63
  go_upto_region 11 with (fail)
  refine wp_region_H (w0 := w6) [(w5.heap.size, Obj.cells (txA yr) 25 (0, 0)), (w4.heap.size, Obj.cells (txA xr) 25 (0, 0)), (w.heap.size + 1, Obj.cells (txA s) 25 (0, 0)), (w.heap.size, Obj.cells (txA t) 25 (0, 0))] (by kernel_rfl) E6.out ?_
  refine anyH_phase [0, 1, 2, 3, 4, 5, 6, 7, 8, 9, 10, 11, 12, 13, 14, 15, 16, 17, 18, 19, 20, 21, 22, 23, 24, 25, 26, 27, 28, 29, 30, 31, 32, 33] 0 rfl ⟨_, (EnvX.drew E6.out)⟩ (by kernel_rfl) ?_
  have hw1201 : EnvX w6 _ [(w5.heap.size, Obj.cells (txA yr) 25 (0, 0)), (w4.heap.size, Obj.cells (txA xr) 25 (0, 0)), (w.heap.size + 1, Obj.cells (txA s) 25 (0, 0)), (w.heap.size, Obj.cells (txA t) 25 (0, 0))] := (EnvX.drew E6.out)
  have hone := @EnvC.one _ _ _ hw1201
  (refine wpG_op rfl rfl rfl ?_; intro K hK; go_big_quiet_op; go_big_quiet_on)
  (refine wpG_val (v := txV t) rfl rfl (fun u hu => load_any_op u (box_tx hu (List.Mem.tail _ (List.Mem.tail _ (List.Mem.tail _ (List.Mem.head _))))) rfl) ?_ hw1201; intro K hK; go_big_quiet_op; go_big_quiet_on)
  (refine wpG_call (f := 18) (args := #[txV t]) (v := .bool false) rfl rfl rfl Tryd.func18 rfl rfl (fun u hu => by have h1 := HH.out.may t u (K_kt.out.up (EnvX.bel hu)) (HT6.out.below (EnvX.bel hu)); rwa [HMY.out] at h1) ?_ hw1201; intro K hK; go_big_quiet_op; go_big_quiet_on)
  (refine wpG_val (v := .bool false) rfl rfl (fun u hu => neqBc_op u rfl rfl rfl) ?_ hw1201; intro K hK; go_big_quiet_op; go_big_quiet_on)
  (refine wpG_op rfl rfl rfl ?_; intro K hK; go_big_quiet_op; go_big_quiet_on)
  (refine wpG_op rfl rfl rfl ?_; intro K hK; go_big_quiet_op; go_big_quiet_on)
  (refine wpG_op rfl rfl rfl ?_; intro K hK; go_big_quiet_op; go_big_quiet_on)
  (refine wpG_skip rfl rfl ?_ hw1201; intro K hK; go_big_quiet_op; go_big_quiet_on)
  (refine wpG_skip rfl rfl ?_ hw1201; intro K hK; go_big_quiet_op; go_big_quiet_on)
  (refine wpG_skip rfl rfl ?_ hw1201; intro K hK; go_big_quiet_op; go_big_quiet_on)
  (refine wpG_skip rfl rfl ?_ hw1201; intro K hK; go_big_quiet_op; go_big_quiet_on)
  (refine wpG_skip rfl rfl ?_ hw1201; intro K hK; go_big_quiet_op; go_big_quiet_on)
  (refine wpG_skip rfl rfl ?_ hw1201; intro K hK; go_big_quiet_op; go_big_quiet_on)
  (refine wpG_skip rfl rfl ?_ hw1201; intro K hK; go_big_quiet_op; go_big_quiet_on)
  (refine wpG_skip rfl rfl ?_ hw1201; intro K hK; go_big_quiet_op; go_big_quiet_on)
  (refine wpG_op rfl rfl rfl ?_; intro K hK; go_big_quiet_op; go_big_quiet_on)
  (refine wpG_op rfl rfl rfl ?_; intro K hK; go_big_quiet_op; go_big_quiet_on)
  (refine wpG_op rfl rfl rfl ?_; intro K hK; go_big_quiet_op; go_big_quiet_on)
  (refine wpG_op rfl rfl rfl ?_; intro K hK; go_big_quiet_op; go_big_quiet_on)
  (refine wpG_op rfl rfl rfl ?_; intro K hK; go_big_quiet_op; go_big_quiet_on)
  (refine wpG_skip rfl rfl ?_ hw1201; intro K hK; go_big_quiet_op; go_big_quiet_on)
  (refine wpG_op rfl rfl rfl ?_; intro K hK; go_big_quiet_op; go_big_quiet_on)
  (refine wpG_op rfl rfl rfl ?_; intro K hK; go_big_quiet_op; go_big_quiet_on)
  (refine wpG_skip rfl rfl ?_ hw1201; intro K hK; go_big_quiet_op; go_big_quiet_on)
  (refine wpG_skip rfl rfl ?_ hw1201; intro K hK; go_big_quiet_op; go_big_quiet_on)
  (refine wpG_skip rfl rfl ?_ hw1201; intro K hK; go_big_quiet_op; go_big_quiet_on)
  (refine wpG_skip rfl rfl ?_ hw1201; intro K hK; go_big_quiet_op; go_big_quiet_on)
  (refine wpG_skip rfl rfl ?_ hw1201; intro K hK; go_big_quiet_op; go_big_quiet_on)
  (refine wpG_skip rfl rfl ?_ hw1201; intro K hK; go_big_quiet_op; go_big_quiet_on)
  (refine wpG_skip rfl rfl ?_ hw1201; intro K hK; go_big_quiet_op; go_big_quiet_on)
  (refine wpG_skip rfl rfl ?_ hw1201; intro K hK; go_big_quiet_op; go_big_quiet_on)
  (refine wpG_skip rfl rfl ?_ hw1201; intro K hK; go_big_quiet_op; go_big_quiet_on)
  (refine wpG_op rfl rfl rfl ?_; intro K hK; go_big_quiet_op; go_big_quiet_on)
  (refine wpG_op rfl rfl rfl ?_; intro K hK; go_big_quiet_op; go_big_quiet_on)
  clear hone hw1201
  refine wpG_nil ?_
  refine anyH_done (by kernel_rfl) ?_
  intro u1203 E2'
  have EX1202 := Lib.hid E2'
  clear E2'
  go_upto_region 13 with (fail)
  refine wp_region_Hx (w0 := w6) [0, 1, 2, 3, 4, 5, 6, 7, 8, 9, 10, 11, 12, 13, 14, 15, 16, 17, 18, 19, 20, 21] [(w5.heap.size, Obj.cells (txA yr) 25 (0, 0)), (w4.heap.size, Obj.cells (txA xr) 25 (0, 0)), (w.heap.size + 1, Obj.cells (txA s) 25 (0, 0)), (w.heap.size, Obj.cells (txA t) 25 (0, 0))] rfl EX1202.out ?_
  refine lexH_phase [0, 1, 2, 3, 4, 5, 6, 7, 8, 9, 10, 11, 12, 13, 14, 15, 16, 17, 18, 19, 20, 21] [] ?_
  have hw1204 : EnvX w6 _ [(w5.heap.size, Obj.cells (txA yr) 25 (0, 0)), (w4.heap.size, Obj.cells (txA xr) 25 (0, 0)), (w.heap.size + 1, Obj.cells (txA s) 25 (0, 0)), (w.heap.size, Obj.cells (txA t) 25 (0, 0))] := EX1202.out
  have hone := @EnvC.one _ _ _ hw1204
  (refine wpG_op rfl rfl rfl ?_; intro K hK; go_big_quiet_op; go_big_quiet_on)
  (refine wpG_op rfl rfl rfl ?_; intro K hK; go_big_quiet_op; go_big_quiet_on)
  (refine wpG_op rfl rfl rfl ?_; intro K hK; go_big_quiet_op; go_big_quiet_on)
  (refine wpG_skip rfl rfl ?_ hw1204; intro K hK; go_big_quiet_op; go_big_quiet_on)
  (refine wpG_skip rfl rfl ?_ hw1204; intro K hK; go_big_quiet_op; go_big_quiet_on)
  (refine wpG_skip rfl rfl ?_ hw1204; intro K hK; go_big_quiet_op; go_big_quiet_on)
  (refine wpG_skip rfl rfl ?_ hw1204; intro K hK; go_big_quiet_op; go_big_quiet_on)
  (refine wpG_op rfl rfl rfl ?_; intro K hK; go_big_quiet_op; go_big_quiet_on)
  (refine wpG_op rfl rfl rfl ?_; intro K hK; go_big_quiet_op; go_big_quiet_on)
  (refine wpG_op rfl rfl rfl ?_; intro K hK; go_big_quiet_op; go_big_quiet_on)
  (refine wpG_op rfl rfl rfl ?_; intro K hK; go_big_quiet_op; go_big_quiet_on)
  (refine wpG_op rfl rfl rfl ?_; intro K hK; go_big_quiet_op; go_big_quiet_on)
  (refine wpG_op rfl rfl rfl ?_; intro K hK; go_big_quiet_op; go_big_quiet_on)
  (refine wpG_op rfl rfl rfl ?_; intro K hK; go_big_quiet_op; go_big_quiet_on)
  (refine wpG_op rfl rfl rfl ?_; intro K hK; go_big_quiet_op; go_big_quiet_on)
  (refine wpG_val (v := .string s2) rfl rfl (fun u hu => conv_op u HN_zs.out (HB_zs.out.up (EnvX.bel hu)) HS2.out rfl) ?_ hw1204; intro K hK; go_big_quiet_op; go_big_quiet_on)
  (refine wpG_op rfl rfl rfl ?_; intro K hK; go_big_quiet_op; go_big_quiet_on)
  (refine wpG_val (v := .string s3) rfl rfl (fun u hu => conv_op u HBM.out.1 (K_hx.out.up (EnvX.bel hu)) HS3.out rfl) ?_ hw1204; intro K hK; go_big_quiet_op; go_big_quiet_on)
  (refine wpG_val (v := .bool true) rfl rfl (fun u hu => eqs_op u HEZ.out rfl rfl) ?_ hw1204; intro K hK; go_big_quiet_op; go_big_quiet_on)
  (refine wpG_op rfl rfl rfl ?_; intro K hK; go_big_quiet_op; go_big_quiet_on)
  (refine wpG_op rfl rfl rfl ?_; intro K hK; go_big_quiet_op; go_big_quiet_on)
  (refine wpG_op rfl rfl rfl ?_; intro K hK; go_big_quiet_op; go_big_quiet_on)
  clear hone hw1204
  refine wpG_nil ?_
  intro u1206 E2'
  have EX1205 := Lib.hid E2'
  clear E2'
  have HBE := Lib.hid (HB6.out.trans ((EnvX.bel EX1205.out).mono HB6.out.size))
  go_wp2
  go_ret
  exact ⟨rfl, HBE.out⟩
set_option maxRecDepth 20000 in
set_option maxHeartbeats 8000000 in
theorem law_backX_bt (H : CoinC) (t s : TxM) (b : List Int) (A : Option Addr) (n c : Nat) (w : World) (kt : TxOk w t) (ks : TxOk w s) (hl : b.length = n) (hnc : n ≤ c) (hcm : c ≤ maxLen) (hB : isB b) (hx : Bytes w w.heap.size A b) (ht : Tables w) (k1 : fewX t.r = true) (k2 : fewX s.r = true) (k3 : n ≤ 400) (m1 : mayX t.r = true) (m2 : mayX s.r = false) (m3 : mayReadX b = true) :
    Calls Tryd.prog 4 #[txV t, txV s, .slice A n c] w fun e w' => e = .returned (.bool true) ∧ Below w.heap.size w w' := by
  have HN63 : Hid (n < 9223372036854775808) := by show _ < _; unfold maxLen at hcm; omega
  have HF_t : Hid (fewX t.r = true) := k1
  have HF_s : Hid (fewX s.r = true) := k2
  have C13 : Hid (decide ((400 : Int) < (n : Int)) = false) := decide_eq_false (by omega)
  have HP_t : Hid ((putX t.r).2 = true) := (putX_2 _).trans m1
  have HP_s : Hid ((putX s.r).2 = false) := (putX_2 _).trans m2
  have HMY : Hid (mayX t.r = true) := m1
  have HRB : Hid ((readX b).2 = true) := (readX_snd b).trans m3
  have HPY : Hid (∀ y : TxM, y.r = (readX b).1 → (putX y.r).2 = true) := fun y e => by
    rw [putX_2, e]
    unfold readX
    rw [m3]
    exact (read_okX hB m3).2.1
  have HBM := Lib.hid (And.intro hl (And.intro hnc (And.intro hcm hB)))
  have HN1 := Lib.hid k3
  have HXS : Hid ((putX t.r).1.length ≤ 122 ∧ isB (putX t.r).1 ∧ readX (putX t.r).1 = (t.r, true)) := ⟨putX_len kt.ok, putX_byte kt.ok, by rw [putX_yes m1]; exact read_bodyX kt.ok m1⟩
  have HYS : Hid ((putX s.r).1.length ≤ 122 ∧ isB (putX s.r).1) := ⟨putX_len ks.ok, putX_byte ks.ok⟩
  have HYZ : Hid (∀ y : TxM, y.r = (readX b).1 → (putX y.r).1 = b) := fun y e => by
    have h1 := read_okX hB m3
    rw [e, show (readX b).1 = parseX b by unfold readX; rw [m3]; rfl, putX_yes h1.2.1]
    exact h1.2.2
  clear k1 k2 k3 m1 m2 m3
  have E0 : Hid (EnvX w ((w.alloc (.cells (txA t) 25)).alloc (.cells (txA s) 25)) [(w.heap.size + 1, Obj.cells (txA s) 25 (0, 0)), (w.heap.size, Obj.cells (txA t) 25 (0, 0))]) := (EnvX.start w).two _ _
  have HAW := Lib.hid (cawake_any H ((w.alloc (.cells (txA t) 25)).alloc (.cells (txA s) 25)) (ht.below (EnvX.bel E0.out)))
  have HT := Lib.hid ht
  have HH := Lib.hid H
  have J_kt := Lib.hid kt
  have J_ks := Lib.hid ks
  have J_hx := Lib.hid hx
  clear ht H kt ks hx hl hnc hcm hB
  unfold txV
  go_enter Tryd.func4, Tryd.ntmps4
  go_upto_region 1 with (fail)
  generalize ((w.alloc (.cells (txA t) 25)).alloc (.cells (txA s) 25)) = W at *
  go_wp2_with fail
  refine HAW.out.mono ?_
  rintro e w1 ⟨rfl, hb1⟩
  have HB1 := Lib.hid (EnvX.below E0.out hb1).bel
  have E1 : Hid (EnvX w1 w1 [(w.heap.size + 1, Obj.cells (txA s) 25 (0, 0)), (w.heap.size, Obj.cells (txA t) 25 (0, 0))]) := ⟨Below.refl _ _, (EnvX.below E0.out hb1).box⟩
  have HT1 := Lib.hid (HT.out.below HB1.out)
  have K_kt := Lib.hid (J_kt.out.up HB1.out)
  have K_ks := Lib.hid (J_ks.out.up HB1.out)
  have K_hx := Lib.hid (J_hx.out.up HB1.out)
  clear hb1 E0 HAW HT J_kt J_ks J_hx
  go_upto_region 2 with (fail)
  refine wp_region_Hx (w0 := w1) [0, 1, 2] [(w.heap.size + 1, Obj.cells (txA s) 25 (0, 0)), (w.heap.size, Obj.cells (txA t) 25 (0, 0))] rfl E1.out ?_
  refine lexH_phase [0, 1, 2] [] ?_
  have hw1 : EnvX w1 _ [(w.heap.size + 1, Obj.cells (txA s) 25 (0, 0)), (w.heap.size, Obj.cells (txA t) 25 (0, 0))] := E1.out
  have hone := @EnvC.one _ _ _ hw1
  (refine wpG_val (v := txV t) rfl rfl (fun u hu => load_any_op u (box_tx hu (List.Mem.tail _ (List.Mem.head _))) rfl) ?_ hw1; intro K hK; go_big_quiet_op; go_big_quiet_on)
  (refine wpG_call (f := 10) (args := #[txV t]) (v := .bool true) rfl rfl rfl Tryd.func10 rfl rfl (fun u hu => by have h1 := few_any t u (K_kt.out.up (EnvX.bel hu)); rwa [HF_t.out] at h1) ?_ hw1; intro K hK; go_big_quiet_op; go_big_quiet_on)
  (refine wpG_op rfl rfl rfl ?_; intro K hK; go_big_quiet_op; go_big_quiet_on)
  clear hone hw1
  refine wpG_nil ?_
  intro u3 E2'
  have EX2 := Lib.hid E2'
  clear E2'
  go_upto_region 3 with (fail)
  refine wp_region_Hx (w0 := w1) [0, 1, 2] [(w.heap.size + 1, Obj.cells (txA s) 25 (0, 0)), (w.heap.size, Obj.cells (txA t) 25 (0, 0))] rfl EX2.out ?_
  refine lexH_phase [0, 1, 2] [] ?_
  have hw4 : EnvX w1 _ [(w.heap.size + 1, Obj.cells (txA s) 25 (0, 0)), (w.heap.size, Obj.cells (txA t) 25 (0, 0))] := EX2.out
  have hone := @EnvC.one _ _ _ hw4
  (refine wpG_val (v := txV s) rfl rfl (fun u hu => load_any_op u (box_tx hu (List.Mem.head _)) rfl) ?_ hw4; intro K hK; go_big_quiet_op; go_big_quiet_on)
  (refine wpG_call (f := 10) (args := #[txV s]) (v := .bool true) rfl rfl rfl Tryd.func10 rfl rfl (fun u hu => by have h1 := few_any s u (K_ks.out.up (EnvX.bel hu)); rwa [HF_s.out] at h1) ?_ hw4; intro K hK; go_big_quiet_op; go_big_quiet_on)
  (refine wpG_op rfl rfl rfl ?_; intro K hK; go_big_quiet_op; go_big_quiet_on)
  clear hone hw4
  refine wpG_nil ?_
  intro u6 E2'
  have EX5 := Lib.hid E2'
  clear E2'
  go_upto_region 4 with (fail)
  refine wp_region_Hx (w0 := w1) [0, 1, 2, 3, 4, 5, 6, 7, 8, 9, 10, 11, 12, 13, 14] [(w.heap.size + 1, Obj.cells (txA s) 25 (0, 0)), (w.heap.size, Obj.cells (txA t) 25 (0, 0))] rfl EX5.out ?_
  refine lexH_phase [0, 1, 2, 3, 4, 5, 6, 7, 8, 9, 10, 11, 12, 13, 14] [] ?_
  have hw7 : EnvX w1 _ [(w.heap.size + 1, Obj.cells (txA s) 25 (0, 0)), (w.heap.size, Obj.cells (txA t) 25 (0, 0))] := EX5.out
  have hone := @EnvC.one _ _ _ hw7
  (refine wpG_op rfl rfl rfl ?_; intro K hK; go_big_quiet_op; go_big_quiet_on)
  (refine wpG_op rfl rfl rfl ?_; intro K hK; go_big_quiet_op; go_big_quiet_on)
  (refine wpG_op rfl rfl rfl ?_; intro K hK; go_big_quiet_op; go_big_quiet_on)
  (refine wpG_op rfl rfl rfl ?_; intro K hK; go_big_quiet_op; go_big_quiet_on)
  (refine wpG_op rfl rfl rfl ?_; intro K hK; go_big_quiet_op; go_big_quiet_on)
  (refine wpG_op rfl rfl rfl ?_; intro K hK; go_big_quiet_op; go_big_quiet_on)
  (refine wpG_op rfl rfl rfl ?_; intro K hK; go_big_quiet_op; go_big_quiet_on)
  (refine wpG_op rfl rfl rfl ?_; intro K hK; go_big_quiet_op; go_big_quiet_on)
  (refine wpG_op rfl rfl rfl ?_; intro K hK; go_big_quiet_op; go_big_quiet_on)
  (refine wpG_op rfl rfl rfl ?_; intro K hK; go_big_quiet_op; go_big_quiet_on)
  (refine wpG_op rfl rfl rfl ?_; intro K hK; go_big_quiet_op; go_big_quiet_on)
  (refine wpG_op rfl rfl rfl ?_; intro K hK; go_big_quiet_op; go_big_quiet_on)
  (refine wpG_val (v := .int .i64 (n : Int)) rfl rfl (fun u hu => len_op Tryd.underlying26 HN63.out u rfl) ?_ hw7; intro K hK; go_big_quiet_op; go_big_quiet_on)
  (refine wpG_val (v := .bool false) rfl rfl (fun u hu => gtZ_op u C13.out rfl rfl) ?_ hw7; intro K hK; go_big_quiet_op; go_big_quiet_on)
  (refine wpG_op rfl rfl rfl ?_; intro K hK; go_big_quiet_op; go_big_quiet_on)
  clear hone hw7
  refine wpG_nil ?_
  intro u9 E2'
  have EX8 := Lib.hid E2'
  clear E2'
  have HLD : Hid ((loadVar 25 ⟨w.heap.size, 0, none⟩).run Tryd.prog u9 = .ok (.agg (txA t)) u9) := box_tx EX8.out (List.Mem.tail _ (List.Mem.head _))
  have HPT : Hid (Calls Tryd.prog 12 #[.agg (txA t)] u9 fun e w' => (∃ v, e = .returned (.tuple #[v, .bool true]) ∧ OwnB w' u9.heap.size v (putX t.r).1) ∧ Below u9.heap.size u9 w') := by
    have h1 := HH.out.put t u9 (K_kt.out.up EX8.out.bel) (HT1.out.below (EnvX.bel EX8.out))
    rwa [HP_t.out] at h1
  go_upto_region 6 with (fail)
  go_wp2_with ((with_reducible refine wpList_load_run (o := ⟨some 42, _, _, _, _, _⟩) ?_ 25 (.tmp 3) ?_ ⟨w.heap.size, 0, none⟩ ?_ HLD.out ?_); (rfl); (rfl); (rfl))
  refine HPT.out.mono ?_
  rintro e w2 ⟨⟨v6, rfl, hv⟩, hb⟩
  obtain ⟨Ap, cp, rfl⟩ := hv.form
  have HB_xs := Lib.hid hv.bytes.2
  have HC_xs := Lib.hid hv.cap
  have hbb := (EnvX.below EX8.out hb).bel
  have E2 : Hid (EnvX w2 w2 [(w.heap.size + 1, Obj.cells (txA s) 25 (0, 0)), (w.heap.size, Obj.cells (txA t) 25 (0, 0))]) := ⟨Below.refl _ _, (EnvX.below EX8.out hb).box⟩
  have HB2 := Lib.hid (HB1.out.trans (hbb.mono HB1.out.size))
  have HT2 := Lib.hid (HT1.out.below hbb)
  have K_kt := Lib.hid (K_kt.out.up hbb)
  have K_ks := Lib.hid (K_ks.out.up hbb)
  have K_hx := Lib.hid (K_hx.out.up hbb)
  clear hv hb HLD HPT hbb EX8
  obtain ⟨np, hnp⟩ : ∃ np, (putX t.r).1.length = np := ⟨_, rfl⟩
  obtain ⟨xs, hxs⟩ : ∃ xs, (putX t.r).1 = xs := ⟨_, rfl⟩
  have HN_xs := Lib.hid hnp
  have HX_xs := Lib.hid hxs
  rw [hnp] at HC_xs ⊢
  rw [hxs] at HB_xs HN_xs
  clear hnp hxs
  have HLD : Hid ((loadVar 25 ⟨w.heap.size + 1, 0, none⟩).run Tryd.prog w2 = .ok (.agg (txA s)) w2) := box_tx E2.out (List.Mem.head _)
  have HPT : Hid (Calls Tryd.prog 12 #[.agg (txA s)] w2 fun e w' => (∃ v, e = .returned (.tuple #[v, .bool false]) ∧ OwnB w' w2.heap.size v (putX s.r).1) ∧ Below w2.heap.size w2 w') := by
    have h1 := HH.out.put s w2 K_ks.out (HT2.out.below (EnvX.bel E2.out))
    rwa [HP_s.out] at h1
  go_upto_region 7 with (fail)
  go_wp2_with ((with_reducible refine wpList_load_run (o := ⟨some 47, _, _, _, _, _⟩) ?_ 25 (.tmp 4) ?_ ⟨w.heap.size + 1, 0, none⟩ ?_ HLD.out ?_); (rfl); (rfl); (rfl))
  refine HPT.out.mono ?_
  rintro e w3 ⟨⟨v7, rfl, hv⟩, hb⟩
  obtain ⟨Aq, cq, rfl⟩ := hv.form
  have HB_ys := Lib.hid hv.bytes.2
  have HC_ys := Lib.hid hv.cap
  have hbb := (EnvX.below E2.out hb).bel
  have E3 : Hid (EnvX w3 w3 [(w.heap.size + 1, Obj.cells (txA s) 25 (0, 0)), (w.heap.size, Obj.cells (txA t) 25 (0, 0))]) := ⟨Below.refl _ _, (EnvX.below E2.out hb).box⟩
  have HB3 := Lib.hid (HB2.out.trans (hbb.mono HB2.out.size))
  have HT3 := Lib.hid (HT2.out.below hbb)
  have K_kt := Lib.hid (K_kt.out.up hbb)
  have K_ks := Lib.hid (K_ks.out.up hbb)
  have K_hx := Lib.hid (K_hx.out.up hbb)
  have HB_xs := Lib.hid (HB_xs.out.up hbb)
  clear hv hb HLD HPT hbb E2
  obtain ⟨nq, hnp⟩ : ∃ np, (putX s.r).1.length = np := ⟨_, rfl⟩
  obtain ⟨ys, hxs⟩ : ∃ xs, (putX s.r).1 = xs := ⟨_, rfl⟩
  have HN_ys := Lib.hid hnp
  have HX_ys := Lib.hid hxs
  rw [hnp] at HC_ys ⊢
  rw [hxs] at HB_ys HN_ys
  clear hnp hxs
  rw [HX_xs.out] at HXS
  rw [HX_ys.out] at HYS
  go_upto_region 8 with (fail)
  have HRC := Lib.hid (show Calls Tryd.prog 14 #[.slice Ap np cp] w3 fun e w' => (∃ t_1 : TxM, e = .returned (.tuple #[txV t_1, .bool true]) ∧ t_1.r = t.r ∧ TxOk w' t_1) ∧ Below w3.heap.size w3 w' from by
      have h0 := HXS.out
      have h1 := HH.out.read Ap np cp xs w3 HN_xs.out (by rw [HN_xs.out] at h0; omega) HC_xs.out.1 HC_xs.out.2 h0.2.1 HB_xs.out HT3.out
      rwa [h0.2.2] at h1)
  go_wp2_with fail
  refine HRC.out.mono ?_
  rintro e w4 ⟨⟨xr, rfl, hr0, hk0⟩, hb⟩
  have HR_xr := Lib.hid hr0
  have K_xr := Lib.hid hk0
  have hbb := (EnvX.below E3.out hb).bel
  have E4 : Hid (EnvX w4 w4 [(w.heap.size + 1, Obj.cells (txA s) 25 (0, 0)), (w.heap.size, Obj.cells (txA t) 25 (0, 0))]) := ⟨Below.refl _ _, (EnvX.below E3.out hb).box⟩
  have HB4 := Lib.hid (HB3.out.trans (hbb.mono HB3.out.size))
  have HT4 := Lib.hid (HT3.out.below hbb)
  have K_kt := Lib.hid (K_kt.out.up hbb)
  have K_ks := Lib.hid (K_ks.out.up hbb)
  have K_hx := Lib.hid (K_hx.out.up hbb)
  have HB_xs := Lib.hid (HB_xs.out.up hbb)
  have HB_ys := Lib.hid (HB_ys.out.up hbb)
  clear hr0 hk0 hb hbb E3 HRC
  have E4b : Hid (EnvX w4 (w4.alloc (.cells (txA xr) 25)) ((w4.heap.size, Obj.cells (txA xr) 25 (0, 0)) :: [(w.heap.size + 1, Obj.cells (txA s) 25 (0, 0)), (w.heap.size, Obj.cells (txA t) 25 (0, 0))])) := EnvX.new E4.out _
  unfold txV
  go_upto_region 9 with ((with_reducible refine wpList_store_row (o := ⟨none, .store 25 _ _, _, _, _, _⟩) ?_ 25 (.tmp 14) (.tmp 54) ?_ w4.heap.size (txA xr) ?_ ?_ 25 _ (heap_alloc_last w4 _) (infoTx _ rfl) ?_ (txA_one _) ?_); (rfl); (rfl); (rfl); (rfl); (rfl); rw [World.setRow_alloc_new])
  clear E4
  go_upto_region 9 with (fail)
  have HRC := Lib.hid (show Calls Tryd.prog 14 #[.slice A n c] (w4.alloc (.cells (txA xr) 25)) fun e w' => (∃ t_1 : TxM, e = .returned (.tuple #[txV t_1, .bool true]) ∧ t_1.r = (readX b).1 ∧ TxOk w' t_1) ∧ Below (w4.alloc (.cells (txA xr) 25)).heap.size (w4.alloc (.cells (txA xr) 25)) w' from by
      have h1 := HH.out.read A n c b (w4.alloc (.cells (txA xr) 25)) HBM.out.1 (by have := HN1.out; omega) HBM.out.2.1 HBM.out.2.2.1 HBM.out.2.2.2 (K_hx.out.up (EnvX.bel E4b.out)) (HT4.out.below E4b.out.bel)
      rwa [HRB.out] at h1)
  go_wp2_with fail
  refine HRC.out.mono ?_
  rintro e w5 ⟨⟨yr, rfl, hr0, hk0⟩, hb⟩
  have HR_yr := Lib.hid hr0
  have K_yr := Lib.hid hk0
  have hbb := (EnvX.below E4b.out hb).bel
  have E5 : Hid (EnvX w5 w5 [(w4.heap.size, Obj.cells (txA xr) 25 (0, 0)), (w.heap.size + 1, Obj.cells (txA s) 25 (0, 0)), (w.heap.size, Obj.cells (txA t) 25 (0, 0))]) := ⟨Below.refl _ _, (EnvX.below E4b.out hb).box⟩
  have HB5 := Lib.hid (HB4.out.trans (hbb.mono HB4.out.size))
  have HT5 := Lib.hid (HT4.out.below hbb)
  have K_kt := Lib.hid (K_kt.out.up hbb)
  have K_ks := Lib.hid (K_ks.out.up hbb)
  have K_hx := Lib.hid (K_hx.out.up hbb)
  have HB_xs := Lib.hid (HB_xs.out.up hbb)
  have HB_ys := Lib.hid (HB_ys.out.up hbb)
  have K_xr := Lib.hid (K_xr.out.up hbb)
  clear hr0 hk0 hb hbb E4b HRC
  have E5b : Hid (EnvX w5 (w5.alloc (.cells (txA yr) 25)) ((w5.heap.size, Obj.cells (txA yr) 25 (0, 0)) :: [(w4.heap.size, Obj.cells (txA xr) 25 (0, 0)), (w.heap.size + 1, Obj.cells (txA s) 25 (0, 0)), (w.heap.size, Obj.cells (txA t) 25 (0, 0))])) := EnvX.new E5.out _
  unfold txV
  go_upto_region 10 with ((with_reducible refine wpList_store_row (o := ⟨none, .store 25 _ _, _, _, _, _⟩) ?_ 25 (.tmp 16) (.tmp 59) ?_ w5.heap.size (txA yr) ?_ ?_ 25 _ (heap_alloc_last w5 _) (infoTx _ rfl) ?_ (txA_one _) ?_); (rfl); (rfl); (rfl); (rfl); (rfl); rw [World.setRow_alloc_new])
  clear E5
  have HLD : Hid ((loadVar 25 ⟨w5.heap.size, 0, none⟩).run Tryd.prog (w5.alloc (.cells (txA yr) 25)) = .ok (.agg (txA yr)) (w5.alloc (.cells (txA yr) 25))) := box_tx E5b.out (List.Mem.head _)
  have HPT : Hid (Calls Tryd.prog 12 #[.agg (txA yr)] (w5.alloc (.cells (txA yr) 25)) fun e w' => (∃ v, e = .returned (.tuple #[v, .bool true]) ∧ OwnB w' (w5.alloc (.cells (txA yr) 25)).heap.size v (putX yr.r).1) ∧ Below (w5.alloc (.cells (txA yr) 25)).heap.size (w5.alloc (.cells (txA yr) 25)) w') := by
    have h1 := HH.out.put yr (w5.alloc (.cells (txA yr) 25)) (K_yr.out.up E5b.out.bel) (HT5.out.below (EnvX.bel E5b.out))
    rwa [(HPY.out yr HR_yr.out)] at h1
  go_upto_region 10 with (fail)
  go_wp2_with ((with_reducible refine wpList_load_run (o := ⟨some 62, _, _, _, _, _⟩) ?_ 25 (.tmp 16) ?_ ⟨w5.heap.size, 0, none⟩ ?_ HLD.out ?_); (rfl); (rfl); (rfl))
  refine HPT.out.mono ?_
  rintro e w6 ⟨⟨v10, rfl, hv⟩, hb⟩
  obtain ⟨Ar, cr, rfl⟩ := hv.form
  have HB_zs := Lib.hid hv.bytes.2
  have HC_zs := Lib.hid hv.cap
  have hbb := (EnvX.below E5b.out hb).bel
  have E6 : Hid (EnvX w6 w6 [(w5.heap.size, Obj.cells (txA yr) 25 (0, 0)), (w4.heap.size, Obj.cells (txA xr) 25 (0, 0)), (w.heap.size + 1, Obj.cells (txA s) 25 (0, 0)), (w.heap.size, Obj.cells (txA t) 25 (0, 0))]) := ⟨Below.refl _ _, (EnvX.below E5b.out hb).box⟩
  have HB6 := Lib.hid (HB5.out.trans (hbb.mono HB5.out.size))
  have HT6 := Lib.hid (HT5.out.below hbb)
  have K_kt := Lib.hid (K_kt.out.up hbb)
  have K_ks := Lib.hid (K_ks.out.up hbb)
  have K_hx := Lib.hid (K_hx.out.up hbb)
  have HB_xs := Lib.hid (HB_xs.out.up hbb)
  have HB_ys := Lib.hid (HB_ys.out.up hbb)
  have K_xr := Lib.hid (K_xr.out.up hbb)
  have K_yr := Lib.hid (K_yr.out.up hbb)
  clear hv hb HLD HPT hbb E5b
  obtain ⟨nr, hnp⟩ : ∃ np, (putX yr.r).1.length = np := ⟨_, rfl⟩
  obtain ⟨zs, hxs⟩ : ∃ xs, (putX yr.r).1 = xs := ⟨_, rfl⟩
  have HN_zs := Lib.hid hnp
  have HX_zs := Lib.hid hxs
  rw [hnp] at HC_zs ⊢
  rw [hxs] at HB_zs HN_zs
  clear hnp hxs
  obtain ⟨s2, hs2⟩ : ∃ s, strOfNums zs = s := ⟨_, rfl⟩
  obtain ⟨s3, hs3⟩ : ∃ s, strOfNums b = s := ⟨_, rfl⟩
  have HS2 := Lib.hid hs2
  have HS3 := Lib.hid hs3
  have HEZ : Hid ((s2.toList == s3.toList) = true) := by
    have e : zs = b := HX_zs.out.symm.trans (HYZ.out yr HR_yr.out)
    show _ = _
    rw [← hs2, ← hs3, e]
    exact beq_self_eq_true _
  clear hs2 hs3
  have HY63 := Lib.hid K_yr.out.n63
  go_upto_region 11 with (fail)
  refine wp_region_H (w0 := w6) [(w5.heap.size, Obj.cells (txA yr) 25 (0, 0)), (w4.heap.size, Obj.cells (txA xr) 25 (0, 0)), (w.heap.size + 1, Obj.cells (txA s) 25 (0, 0)), (w.heap.size, Obj.cells (txA t) 25 (0, 0))] (by kernel_rfl) E6.out ?_
  refine anyH_phase [0, 1, 2, 3, 4, 5, 6, 7, 8, 9, 10, 11, 12, 13, 14, 15, 16, 17, 18, 19, 20, 21, 22, 23, 24, 25, 26, 27, 28, 29, 30, 31, 32, 33] 0 rfl ⟨_, (EnvX.drew E6.out)⟩ (by kernel_rfl) ?_
  have hw1201 : EnvX w6 _ [(w5.heap.size, Obj.cells (txA yr) 25 (0, 0)), (w4.heap.size, Obj.cells (txA xr) 25 (0, 0)), (w.heap.size + 1, Obj.cells (txA s) 25 (0, 0)), (w.heap.size, Obj.cells (txA t) 25 (0, 0))] := (EnvX.drew E6.out)
  have hone := @EnvC.one _ _ _ hw1201
  (refine wpG_op rfl rfl rfl ?_; intro K hK; go_big_quiet_op; go_big_quiet_on)
  (refine wpG_val (v := txV t) rfl rfl (fun u hu => load_any_op u (box_tx hu (List.Mem.tail _ (List.Mem.tail _ (List.Mem.tail _ (List.Mem.head _))))) rfl) ?_ hw1201; intro K hK; go_big_quiet_op; go_big_quiet_on)
  (refine wpG_call (f := 18) (args := #[txV t]) (v := .bool true) rfl rfl rfl Tryd.func18 rfl rfl (fun u hu => by have h1 := HH.out.may t u (K_kt.out.up (EnvX.bel hu)) (HT6.out.below (EnvX.bel hu)); rwa [HMY.out] at h1) ?_ hw1201; intro K hK; go_big_quiet_op; go_big_quiet_on)
  (refine wpG_val (v := .bool false) rfl rfl (fun u hu => neqBc_op u rfl rfl rfl) ?_ hw1201; intro K hK; go_big_quiet_op; go_big_quiet_on)
  (refine wpG_op rfl rfl rfl ?_; intro K hK; go_big_quiet_op; go_big_quiet_on)
  (refine wpG_op rfl rfl rfl ?_; intro K hK; go_big_quiet_op; go_big_quiet_on)
  (refine wpG_op rfl rfl rfl ?_; intro K hK; go_big_quiet_op; go_big_quiet_on)
  (refine wpG_op rfl rfl rfl ?_; intro K hK; go_big_quiet_op; go_big_quiet_on)
  (refine wpG_op rfl rfl rfl ?_; intro K hK; go_big_quiet_op; go_big_quiet_on)
  (refine wpG_op rfl rfl rfl ?_; intro K hK; go_big_quiet_op; go_big_quiet_on)
  (refine wpG_val (v := txV xr) rfl rfl (fun u hu => load_any_op u (box_tx hu (List.Mem.tail _ (List.Mem.head _))) rfl) ?_ hw1201; intro K hK; go_big_quiet_op; go_big_quiet_on)
  (refine wpG_val (v := txV t) rfl rfl (fun u hu => load_any_op u (box_tx hu (List.Mem.tail _ (List.Mem.tail _ (List.Mem.tail _ (List.Mem.head _))))) rfl) ?_ hw1201; intro K hK; go_big_quiet_op; go_big_quiet_on)
  (refine wpG_call (f := 19) (args := #[txV xr, txV t]) (v := .bool true) rfl rfl rfl Tryd.func19 rfl rfl (fun u hu => by have h1 := HH.out.same xr t u (K_xr.out.up (EnvX.bel hu)) (K_kt.out.up (EnvX.bel hu)) (HT6.out.below (EnvX.bel hu)); rwa [show sameX xr.r t.r = true by rw [HR_xr.out]; exact decide_eq_true rfl] at h1) ?_ hw1201; intro K hK; go_big_quiet_op; go_big_quiet_on)
  (refine wpG_op rfl rfl rfl ?_; intro K hK; go_big_quiet_op; go_big_quiet_on)
  (refine wpG_op rfl rfl rfl ?_; intro K hK; go_big_quiet_op; go_big_quiet_on)
  (refine wpG_op rfl rfl rfl ?_; intro K hK; go_big_quiet_op; go_big_quiet_on)
  (refine wpG_op rfl rfl rfl ?_; intro K hK; go_big_quiet_op; go_big_quiet_on)
  (refine wpG_op rfl rfl rfl ?_; intro K hK; go_big_quiet_op; go_big_quiet_on)
  (refine wpG_op rfl rfl rfl ?_; intro K hK; go_big_quiet_op; go_big_quiet_on)
  (refine wpG_op rfl rfl rfl ?_; intro K hK; go_big_quiet_op; go_big_quiet_on)
  (refine wpG_op rfl rfl rfl ?_; intro K hK; go_big_quiet_op; go_big_quiet_on)
  (refine wpG_op rfl rfl rfl ?_; intro K hK; go_big_quiet_op; go_big_quiet_on)
  (refine wpG_op rfl rfl rfl ?_; intro K hK; go_big_quiet_op; go_big_quiet_on)
  (refine wpG_skip rfl rfl ?_ hw1201; intro K hK; go_big_quiet_op; go_big_quiet_on)
  (refine wpG_skip rfl rfl ?_ hw1201; intro K hK; go_big_quiet_op; go_big_quiet_on)
  (refine wpG_skip rfl rfl ?_ hw1201; intro K hK; go_big_quiet_op; go_big_quiet_on)
  (refine wpG_skip rfl rfl ?_ hw1201; intro K hK; go_big_quiet_op; go_big_quiet_on)
  (refine wpG_skip rfl rfl ?_ hw1201; intro K hK; go_big_quiet_op; go_big_quiet_on)
  (refine wpG_skip rfl rfl ?_ hw1201; intro K hK; go_big_quiet_op; go_big_quiet_on)
  (refine wpG_skip rfl rfl ?_ hw1201; intro K hK; go_big_quiet_op; go_big_quiet_on)
  (refine wpG_skip rfl rfl ?_ hw1201; intro K hK; go_big_quiet_op; go_big_quiet_on)
  (refine wpG_skip rfl rfl ?_ hw1201; intro K hK; go_big_quiet_op; go_big_quiet_on)
  (refine wpG_op rfl rfl rfl ?_; intro K hK; go_big_quiet_op; go_big_quiet_on)
  (refine wpG_op rfl rfl rfl ?_; intro K hK; go_big_quiet_op; go_big_quiet_on)
  clear hone hw1201
  refine wpG_nil ?_
  refine anyH_done (by kernel_rfl) ?_
  intro u1203 E2'
  have EX1202 := Lib.hid E2'
  clear E2'
  go_upto_region 13 with (fail)
  refine wp_region_Hx (w0 := w6) [0, 1, 2, 3, 4, 5, 6, 7, 8, 9, 10, 11, 12, 13, 14, 15, 16, 17, 18, 19, 20, 21] [(w5.heap.size, Obj.cells (txA yr) 25 (0, 0)), (w4.heap.size, Obj.cells (txA xr) 25 (0, 0)), (w.heap.size + 1, Obj.cells (txA s) 25 (0, 0)), (w.heap.size, Obj.cells (txA t) 25 (0, 0))] rfl EX1202.out ?_
  refine lexH_phase [0, 1, 2, 3, 4, 5, 6, 7, 8, 9, 10, 11, 12, 13, 14, 15, 16, 17, 18, 19, 20, 21] [] ?_
  have hw1204 : EnvX w6 _ [(w5.heap.size, Obj.cells (txA yr) 25 (0, 0)), (w4.heap.size, Obj.cells (txA xr) 25 (0, 0)), (w.heap.size + 1, Obj.cells (txA s) 25 (0, 0)), (w.heap.size, Obj.cells (txA t) 25 (0, 0))] := EX1202.out
  have hone := @EnvC.one _ _ _ hw1204
  (refine wpG_op rfl rfl rfl ?_; intro K hK; go_big_quiet_op; go_big_quiet_on)
  (refine wpG_op rfl rfl rfl ?_; intro K hK; go_big_quiet_op; go_big_quiet_on)
  (refine wpG_op rfl rfl rfl ?_; intro K hK; go_big_quiet_op; go_big_quiet_on)
  (refine wpG_skip rfl rfl ?_ hw1204; intro K hK; go_big_quiet_op; go_big_quiet_on)
  (refine wpG_skip rfl rfl ?_ hw1204; intro K hK; go_big_quiet_op; go_big_quiet_on)
  (refine wpG_skip rfl rfl ?_ hw1204; intro K hK; go_big_quiet_op; go_big_quiet_on)
  (refine wpG_skip rfl rfl ?_ hw1204; intro K hK; go_big_quiet_op; go_big_quiet_on)
  (refine wpG_op rfl rfl rfl ?_; intro K hK; go_big_quiet_op; go_big_quiet_on)
  (refine wpG_op rfl rfl rfl ?_; intro K hK; go_big_quiet_op; go_big_quiet_on)
  (refine wpG_op rfl rfl rfl ?_; intro K hK; go_big_quiet_op; go_big_quiet_on)
  (refine wpG_op rfl rfl rfl ?_; intro K hK; go_big_quiet_op; go_big_quiet_on)
  (refine wpG_op rfl rfl rfl ?_; intro K hK; go_big_quiet_op; go_big_quiet_on)
  (refine wpG_op rfl rfl rfl ?_; intro K hK; go_big_quiet_op; go_big_quiet_on)
  (refine wpG_op rfl rfl rfl ?_; intro K hK; go_big_quiet_op; go_big_quiet_on)
  (refine wpG_op rfl rfl rfl ?_; intro K hK; go_big_quiet_op; go_big_quiet_on)
  (refine wpG_val (v := .string s2) rfl rfl (fun u hu => conv_op u HN_zs.out (HB_zs.out.up (EnvX.bel hu)) HS2.out rfl) ?_ hw1204; intro K hK; go_big_quiet_op; go_big_quiet_on)
  (refine wpG_op rfl rfl rfl ?_; intro K hK; go_big_quiet_op; go_big_quiet_on)
  (refine wpG_val (v := .string s3) rfl rfl (fun u hu => conv_op u HBM.out.1 (K_hx.out.up (EnvX.bel hu)) HS3.out rfl) ?_ hw1204; intro K hK; go_big_quiet_op; go_big_quiet_on)
  (refine wpG_val (v := .bool true) rfl rfl (fun u hu => eqs_op u HEZ.out rfl rfl) ?_ hw1204; intro K hK; go_big_quiet_op; go_big_quiet_on)
  (refine wpG_op rfl rfl rfl ?_; intro K hK; go_big_quiet_op; go_big_quiet_on)
  (refine wpG_op rfl rfl rfl ?_; intro K hK; go_big_quiet_op; go_big_quiet_on)
  (refine wpG_op rfl rfl rfl ?_; intro K hK; go_big_quiet_op; go_big_quiet_on)
  clear hone hw1204
  refine wpG_nil ?_
  intro u1206 E2'
  have EX1205 := Lib.hid E2'
  clear E2'
  have HBE := Lib.hid (HB6.out.trans ((EnvX.bel EX1205.out).mono HB6.out.size))
  go_wp2
  go_ret
  exact ⟨rfl, HBE.out⟩
set_option maxRecDepth 20000 in
set_option maxHeartbeats 8000000 in
theorem law_backX_ct (H : CoinC) (t s : TxM) (b : List Int) (A : Option Addr) (n c : Nat) (w : World) (kt : TxOk w t) (ks : TxOk w s) (hl : b.length = n) (hnc : n ≤ c) (hcm : c ≤ maxLen) (hB : isB b) (hx : Bytes w w.heap.size A b) (ht : Tables w) (k1 : fewX t.r = true) (k2 : fewX s.r = true) (k3 : n ≤ 400) (m1 : mayX t.r = true) (m2 : mayX s.r = true) (m3 : mayReadX b = true) :
    Calls Tryd.prog 4 #[txV t, txV s, .slice A n c] w fun e w' => e = .returned (.bool true) ∧ Below w.heap.size w w' := by
  have HN63 : Hid (n < 9223372036854775808) := by show _ < _; unfold maxLen at hcm; omega
  have HF_t : Hid (fewX t.r = true) := k1
  have HF_s : Hid (fewX s.r = true) := k2
  have C13 : Hid (decide ((400 : Int) < (n : Int)) = false) := decide_eq_false (by omega)
  have HP_t : Hid ((putX t.r).2 = true) := (putX_2 _).trans m1
  have HP_s : Hid ((putX s.r).2 = true) := (putX_2 _).trans m2
  have HMY : Hid (mayX t.r = true) := m1
  have HRB : Hid ((readX b).2 = true) := (readX_snd b).trans m3
  have HPY : Hid (∀ y : TxM, y.r = (readX b).1 → (putX y.r).2 = true) := fun y e => by
    rw [putX_2, e]
    unfold readX
    rw [m3]
    exact (read_okX hB m3).2.1
  have HBM := Lib.hid (And.intro hl (And.intro hnc (And.intro hcm hB)))
  have HN1 := Lib.hid k3
  have HXS : Hid ((putX t.r).1.length ≤ 122 ∧ isB (putX t.r).1 ∧ readX (putX t.r).1 = (t.r, true)) := ⟨putX_len kt.ok, putX_byte kt.ok, by rw [putX_yes m1]; exact read_bodyX kt.ok m1⟩
  have HYS : Hid ((putX s.r).1.length ≤ 122 ∧ isB (putX s.r).1) := ⟨putX_len ks.ok, putX_byte ks.ok⟩
  have HIJ : Hid (decide ((putX t.r).1 = (putX s.r).1) = sameX t.r s.r) := decide_eq_decide.2 ⟨fun e => bodyX_inj kt.ok ks.ok m1 m2 (by rwa [putX_yes m1, putX_yes m2] at e), fun e => by rw [e]⟩
  have HYZ : Hid (∀ y : TxM, y.r = (readX b).1 → (putX y.r).1 = b) := fun y e => by
    have h1 := read_okX hB m3
    rw [e, show (readX b).1 = parseX b by unfold readX; rw [m3]; rfl, putX_yes h1.2.1]
    exact h1.2.2
  clear k1 k2 k3 m1 m2 m3
  have E0 : Hid (EnvX w ((w.alloc (.cells (txA t) 25)).alloc (.cells (txA s) 25)) [(w.heap.size + 1, Obj.cells (txA s) 25 (0, 0)), (w.heap.size, Obj.cells (txA t) 25 (0, 0))]) := (EnvX.start w).two _ _
  have HAW := Lib.hid (cawake_any H ((w.alloc (.cells (txA t) 25)).alloc (.cells (txA s) 25)) (ht.below (EnvX.bel E0.out)))
  have HT := Lib.hid ht
  have HH := Lib.hid H
  have J_kt := Lib.hid kt
  have J_ks := Lib.hid ks
  have J_hx := Lib.hid hx
  clear ht H kt ks hx hl hnc hcm hB
  unfold txV
  go_enter Tryd.func4, Tryd.ntmps4
  go_upto_region 1 with (fail)
  generalize ((w.alloc (.cells (txA t) 25)).alloc (.cells (txA s) 25)) = W at *
  go_wp2_with fail
  refine HAW.out.mono ?_
  rintro e w1 ⟨rfl, hb1⟩
  have HB1 := Lib.hid (EnvX.below E0.out hb1).bel
  have E1 : Hid (EnvX w1 w1 [(w.heap.size + 1, Obj.cells (txA s) 25 (0, 0)), (w.heap.size, Obj.cells (txA t) 25 (0, 0))]) := ⟨Below.refl _ _, (EnvX.below E0.out hb1).box⟩
  have HT1 := Lib.hid (HT.out.below HB1.out)
  have K_kt := Lib.hid (J_kt.out.up HB1.out)
  have K_ks := Lib.hid (J_ks.out.up HB1.out)
  have K_hx := Lib.hid (J_hx.out.up HB1.out)
  clear hb1 E0 HAW HT J_kt J_ks J_hx
  go_upto_region 2 with (fail)
  refine wp_region_Hx (w0 := w1) [0, 1, 2] [(w.heap.size + 1, Obj.cells (txA s) 25 (0, 0)), (w.heap.size, Obj.cells (txA t) 25 (0, 0))] rfl E1.out ?_
  refine lexH_phase [0, 1, 2] [] ?_
  have hw1 : EnvX w1 _ [(w.heap.size + 1, Obj.cells (txA s) 25 (0, 0)), (w.heap.size, Obj.cells (txA t) 25 (0, 0))] := E1.out
  have hone := @EnvC.one _ _ _ hw1
  (refine wpG_val (v := txV t) rfl rfl (fun u hu => load_any_op u (box_tx hu (List.Mem.tail _ (List.Mem.head _))) rfl) ?_ hw1; intro K hK; go_big_quiet_op; go_big_quiet_on)
  (refine wpG_call (f := 10) (args := #[txV t]) (v := .bool true) rfl rfl rfl Tryd.func10 rfl rfl (fun u hu => by have h1 := few_any t u (K_kt.out.up (EnvX.bel hu)); rwa [HF_t.out] at h1) ?_ hw1; intro K hK; go_big_quiet_op; go_big_quiet_on)
  (refine wpG_op rfl rfl rfl ?_; intro K hK; go_big_quiet_op; go_big_quiet_on)
  clear hone hw1
  refine wpG_nil ?_
  intro u3 E2'
  have EX2 := Lib.hid E2'
  clear E2'
  go_upto_region 3 with (fail)
  refine wp_region_Hx (w0 := w1) [0, 1, 2] [(w.heap.size + 1, Obj.cells (txA s) 25 (0, 0)), (w.heap.size, Obj.cells (txA t) 25 (0, 0))] rfl EX2.out ?_
  refine lexH_phase [0, 1, 2] [] ?_
  have hw4 : EnvX w1 _ [(w.heap.size + 1, Obj.cells (txA s) 25 (0, 0)), (w.heap.size, Obj.cells (txA t) 25 (0, 0))] := EX2.out
  have hone := @EnvC.one _ _ _ hw4
  (refine wpG_val (v := txV s) rfl rfl (fun u hu => load_any_op u (box_tx hu (List.Mem.head _)) rfl) ?_ hw4; intro K hK; go_big_quiet_op; go_big_quiet_on)
  (refine wpG_call (f := 10) (args := #[txV s]) (v := .bool true) rfl rfl rfl Tryd.func10 rfl rfl (fun u hu => by have h1 := few_any s u (K_ks.out.up (EnvX.bel hu)); rwa [HF_s.out] at h1) ?_ hw4; intro K hK; go_big_quiet_op; go_big_quiet_on)
  (refine wpG_op rfl rfl rfl ?_; intro K hK; go_big_quiet_op; go_big_quiet_on)
  clear hone hw4
  refine wpG_nil ?_
  intro u6 E2'
  have EX5 := Lib.hid E2'
  clear E2'
  go_upto_region 4 with (fail)
  refine wp_region_Hx (w0 := w1) [0, 1, 2, 3, 4, 5, 6, 7, 8, 9, 10, 11, 12, 13, 14] [(w.heap.size + 1, Obj.cells (txA s) 25 (0, 0)), (w.heap.size, Obj.cells (txA t) 25 (0, 0))] rfl EX5.out ?_
  refine lexH_phase [0, 1, 2, 3, 4, 5, 6, 7, 8, 9, 10, 11, 12, 13, 14] [] ?_
  have hw7 : EnvX w1 _ [(w.heap.size + 1, Obj.cells (txA s) 25 (0, 0)), (w.heap.size, Obj.cells (txA t) 25 (0, 0))] := EX5.out
  have hone := @EnvC.one _ _ _ hw7
  (refine wpG_op rfl rfl rfl ?_; intro K hK; go_big_quiet_op; go_big_quiet_on)
  (refine wpG_op rfl rfl rfl ?_; intro K hK; go_big_quiet_op; go_big_quiet_on)
  (refine wpG_op rfl rfl rfl ?_; intro K hK; go_big_quiet_op; go_big_quiet_on)
  (refine wpG_op rfl rfl rfl ?_; intro K hK; go_big_quiet_op; go_big_quiet_on)
  (refine wpG_op rfl rfl rfl ?_; intro K hK; go_big_quiet_op; go_big_quiet_on)
  (refine wpG_op rfl rfl rfl ?_; intro K hK; go_big_quiet_op; go_big_quiet_on)
  (refine wpG_op rfl rfl rfl ?_; intro K hK; go_big_quiet_op; go_big_quiet_on)
  (refine wpG_op rfl rfl rfl ?_; intro K hK; go_big_quiet_op; go_big_quiet_on)
  (refine wpG_op rfl rfl rfl ?_; intro K hK; go_big_quiet_op; go_big_quiet_on)
  (refine wpG_op rfl rfl rfl ?_; intro K hK; go_big_quiet_op; go_big_quiet_on)
  (refine wpG_op rfl rfl rfl ?_; intro K hK; go_big_quiet_op; go_big_quiet_on)
  (refine wpG_op rfl rfl rfl ?_; intro K hK; go_big_quiet_op; go_big_quiet_on)
  (refine wpG_val (v := .int .i64 (n : Int)) rfl rfl (fun u hu => len_op Tryd.underlying26 HN63.out u rfl) ?_ hw7; intro K hK; go_big_quiet_op; go_big_quiet_on)
  (refine wpG_val (v := .bool false) rfl rfl (fun u hu => gtZ_op u C13.out rfl rfl) ?_ hw7; intro K hK; go_big_quiet_op; go_big_quiet_on)
  (refine wpG_op rfl rfl rfl ?_; intro K hK; go_big_quiet_op; go_big_quiet_on)
  clear hone hw7
  refine wpG_nil ?_
  intro u9 E2'
  have EX8 := Lib.hid E2'
  clear E2'
  have HLD : Hid ((loadVar 25 ⟨w.heap.size, 0, none⟩).run Tryd.prog u9 = .ok (.agg (txA t)) u9) := box_tx EX8.out (List.Mem.tail _ (List.Mem.head _))
  have HPT : Hid (Calls Tryd.prog 12 #[.agg (txA t)] u9 fun e w' => (∃ v, e = .returned (.tuple #[v, .bool true]) ∧ OwnB w' u9.heap.size v (putX t.r).1) ∧ Below u9.heap.size u9 w') := by
    have h1 := HH.out.put t u9 (K_kt.out.up EX8.out.bel) (HT1.out.below (EnvX.bel EX8.out))
    rwa [HP_t.out] at h1
  go_upto_region 6 with (fail)
  go_wp2_with ((with_reducible refine wpList_load_run (o := ⟨some 42, _, _, _, _, _⟩) ?_ 25 (.tmp 3) ?_ ⟨w.heap.size, 0, none⟩ ?_ HLD.out ?_); (rfl); (rfl); (rfl))
  refine HPT.out.mono ?_
  rintro e w2 ⟨⟨v6, rfl, hv⟩, hb⟩
  obtain ⟨Ap, cp, rfl⟩ := hv.form
  have HB_xs := Lib.hid hv.bytes.2
  have HC_xs := Lib.hid hv.cap
  have hbb := (EnvX.below EX8.out hb).bel
  have E2 : Hid (EnvX w2 w2 [(w.heap.size + 1, Obj.cells (txA s) 25 (0, 0)), (w.heap.size, Obj.cells (txA t) 25 (0, 0))]) := ⟨Below.refl _ _, (EnvX.below EX8.out hb).box⟩
  have HB2 := Lib.hid (HB1.out.trans (hbb.mono HB1.out.size))
  have HT2 := Lib.hid (HT1.out.below hbb)
  have K_kt := Lib.hid (K_kt.out.up hbb)
  have K_ks := Lib.hid (K_ks.out.up hbb)
  have K_hx := Lib.hid (K_hx.out.up hbb)
  clear hv hb HLD HPT hbb EX8
  obtain ⟨np, hnp⟩ : ∃ np, (putX t.r).1.length = np := ⟨_, rfl⟩
  obtain ⟨xs, hxs⟩ : ∃ xs, (putX t.r).1 = xs := ⟨_, rfl⟩
  have HN_xs := Lib.hid hnp
  have HX_xs := Lib.hid hxs
  rw [hnp] at HC_xs ⊢
  rw [hxs] at HB_xs HN_xs
  clear hnp hxs
  have HLD : Hid ((loadVar 25 ⟨w.heap.size + 1, 0, none⟩).run Tryd.prog w2 = .ok (.agg (txA s)) w2) := box_tx E2.out (List.Mem.head _)
  have HPT : Hid (Calls Tryd.prog 12 #[.agg (txA s)] w2 fun e w' => (∃ v, e = .returned (.tuple #[v, .bool true]) ∧ OwnB w' w2.heap.size v (putX s.r).1) ∧ Below w2.heap.size w2 w') := by
    have h1 := HH.out.put s w2 K_ks.out (HT2.out.below (EnvX.bel E2.out))
    rwa [HP_s.out] at h1
  go_upto_region 7 with (fail)
  go_wp2_with ((with_reducible refine wpList_load_run (o := ⟨some 47, _, _, _, _, _⟩) ?_ 25 (.tmp 4) ?_ ⟨w.heap.size + 1, 0, none⟩ ?_ HLD.out ?_); (rfl); (rfl); (rfl))
  refine HPT.out.mono ?_
  rintro e w3 ⟨⟨v7, rfl, hv⟩, hb⟩
  obtain ⟨Aq, cq, rfl⟩ := hv.form
  have HB_ys := Lib.hid hv.bytes.2
  have HC_ys := Lib.hid hv.cap
  have hbb := (EnvX.below E2.out hb).bel
  have E3 : Hid (EnvX w3 w3 [(w.heap.size + 1, Obj.cells (txA s) 25 (0, 0)), (w.heap.size, Obj.cells (txA t) 25 (0, 0))]) := ⟨Below.refl _ _, (EnvX.below E2.out hb).box⟩
  have HB3 := Lib.hid (HB2.out.trans (hbb.mono HB2.out.size))
  have HT3 := Lib.hid (HT2.out.below hbb)
  have K_kt := Lib.hid (K_kt.out.up hbb)
  have K_ks := Lib.hid (K_ks.out.up hbb)
  have K_hx := Lib.hid (K_hx.out.up hbb)
  have HB_xs := Lib.hid (HB_xs.out.up hbb)
  clear hv hb HLD HPT hbb E2
  obtain ⟨nq, hnp⟩ : ∃ np, (putX s.r).1.length = np := ⟨_, rfl⟩
  obtain ⟨ys, hxs⟩ : ∃ xs, (putX s.r).1 = xs := ⟨_, rfl⟩
  have HN_ys := Lib.hid hnp
  have HX_ys := Lib.hid hxs
  rw [hnp] at HC_ys ⊢
  rw [hxs] at HB_ys HN_ys
  clear hnp hxs
  rw [HX_xs.out] at HXS
  rw [HX_ys.out] at HYS
  rw [HX_xs.out, HX_ys.out] at HIJ
  go_upto_region 8 with (fail)
  have HRC := Lib.hid (show Calls Tryd.prog 14 #[.slice Ap np cp] w3 fun e w' => (∃ t_1 : TxM, e = .returned (.tuple #[txV t_1, .bool true]) ∧ t_1.r = t.r ∧ TxOk w' t_1) ∧ Below w3.heap.size w3 w' from by
      have h0 := HXS.out
      have h1 := HH.out.read Ap np cp xs w3 HN_xs.out (by rw [HN_xs.out] at h0; omega) HC_xs.out.1 HC_xs.out.2 h0.2.1 HB_xs.out HT3.out
      rwa [h0.2.2] at h1)
  go_wp2_with fail
  refine HRC.out.mono ?_
  rintro e w4 ⟨⟨xr, rfl, hr0, hk0⟩, hb⟩
  have HR_xr := Lib.hid hr0
  have K_xr := Lib.hid hk0
  have hbb := (EnvX.below E3.out hb).bel
  have E4 : Hid (EnvX w4 w4 [(w.heap.size + 1, Obj.cells (txA s) 25 (0, 0)), (w.heap.size, Obj.cells (txA t) 25 (0, 0))]) := ⟨Below.refl _ _, (EnvX.below E3.out hb).box⟩
  have HB4 := Lib.hid (HB3.out.trans (hbb.mono HB3.out.size))
  have HT4 := Lib.hid (HT3.out.below hbb)
  have K_kt := Lib.hid (K_kt.out.up hbb)
  have K_ks := Lib.hid (K_ks.out.up hbb)
  have K_hx := Lib.hid (K_hx.out.up hbb)
  have HB_xs := Lib.hid (HB_xs.out.up hbb)
  have HB_ys := Lib.hid (HB_ys.out.up hbb)
  clear hr0 hk0 hb hbb E3 HRC
  have E4b : Hid (EnvX w4 (w4.alloc (.cells (txA xr) 25)) ((w4.heap.size, Obj.cells (txA xr) 25 (0, 0)) :: [(w.heap.size + 1, Obj.cells (txA s) 25 (0, 0)), (w.heap.size, Obj.cells (txA t) 25 (0, 0))])) := EnvX.new E4.out _
  unfold txV
  go_upto_region 9 with ((with_reducible refine wpList_store_row (o := ⟨none, .store 25 _ _, _, _, _, _⟩) ?_ 25 (.tmp 14) (.tmp 54) ?_ w4.heap.size (txA xr) ?_ ?_ 25 _ (heap_alloc_last w4 _) (infoTx _ rfl) ?_ (txA_one _) ?_); (rfl); (rfl); (rfl); (rfl); (rfl); rw [World.setRow_alloc_new])
  clear E4
  go_upto_region 9 with (fail)
  have HRC := Lib.hid (show Calls Tryd.prog 14 #[.slice A n c] (w4.alloc (.cells (txA xr) 25)) fun e w' => (∃ t_1 : TxM, e = .returned (.tuple #[txV t_1, .bool true]) ∧ t_1.r = (readX b).1 ∧ TxOk w' t_1) ∧ Below (w4.alloc (.cells (txA xr) 25)).heap.size (w4.alloc (.cells (txA xr) 25)) w' from by
      have h1 := HH.out.read A n c b (w4.alloc (.cells (txA xr) 25)) HBM.out.1 (by have := HN1.out; omega) HBM.out.2.1 HBM.out.2.2.1 HBM.out.2.2.2 (K_hx.out.up (EnvX.bel E4b.out)) (HT4.out.below E4b.out.bel)
      rwa [HRB.out] at h1)
  go_wp2_with fail
  refine HRC.out.mono ?_
  rintro e w5 ⟨⟨yr, rfl, hr0, hk0⟩, hb⟩
  have HR_yr := Lib.hid hr0
  have K_yr := Lib.hid hk0
  have hbb := (EnvX.below E4b.out hb).bel
  have E5 : Hid (EnvX w5 w5 [(w4.heap.size, Obj.cells (txA xr) 25 (0, 0)), (w.heap.size + 1, Obj.cells (txA s) 25 (0, 0)), (w.heap.size, Obj.cells (txA t) 25 (0, 0))]) := ⟨Below.refl _ _, (EnvX.below E4b.out hb).box⟩
  have HB5 := Lib.hid (HB4.out.trans (hbb.mono HB4.out.size))
  have HT5 := Lib.hid (HT4.out.below hbb)
  have K_kt := Lib.hid (K_kt.out.up hbb)
  have K_ks := Lib.hid (K_ks.out.up hbb)
  have K_hx := Lib.hid (K_hx.out.up hbb)
  have HB_xs := Lib.hid (HB_xs.out.up hbb)
  have HB_ys := Lib.hid (HB_ys.out.up hbb)
  have K_xr := Lib.hid (K_xr.out.up hbb)
  clear hr0 hk0 hb hbb E4b HRC
  have E5b : Hid (EnvX w5 (w5.alloc (.cells (txA yr) 25)) ((w5.heap.size, Obj.cells (txA yr) 25 (0, 0)) :: [(w4.heap.size, Obj.cells (txA xr) 25 (0, 0)), (w.heap.size + 1, Obj.cells (txA s) 25 (0, 0)), (w.heap.size, Obj.cells (txA t) 25 (0, 0))])) := EnvX.new E5.out _
  unfold txV
  go_upto_region 10 with ((with_reducible refine wpList_store_row (o := ⟨none, .store 25 _ _, _, _, _, _⟩) ?_ 25 (.tmp 16) (.tmp 59) ?_ w5.heap.size (txA yr) ?_ ?_ 25 _ (heap_alloc_last w5 _) (infoTx _ rfl) ?_ (txA_one _) ?_); (rfl); (rfl); (rfl); (rfl); (rfl); rw [World.setRow_alloc_new])
  clear E5
  have HLD : Hid ((loadVar 25 ⟨w5.heap.size, 0, none⟩).run Tryd.prog (w5.alloc (.cells (txA yr) 25)) = .ok (.agg (txA yr)) (w5.alloc (.cells (txA yr) 25))) := box_tx E5b.out (List.Mem.head _)
  have HPT : Hid (Calls Tryd.prog 12 #[.agg (txA yr)] (w5.alloc (.cells (txA yr) 25)) fun e w' => (∃ v, e = .returned (.tuple #[v, .bool true]) ∧ OwnB w' (w5.alloc (.cells (txA yr) 25)).heap.size v (putX yr.r).1) ∧ Below (w5.alloc (.cells (txA yr) 25)).heap.size (w5.alloc (.cells (txA yr) 25)) w') := by
    have h1 := HH.out.put yr (w5.alloc (.cells (txA yr) 25)) (K_yr.out.up E5b.out.bel) (HT5.out.below (EnvX.bel E5b.out))
    rwa [(HPY.out yr HR_yr.out)] at h1
  go_upto_region 10 with (fail)
  go_wp2_with ((with_reducible refine wpList_load_run (o := ⟨some 62, _, _, _, _, _⟩) ?_ 25 (.tmp 16) ?_ ⟨w5.heap.size, 0, none⟩ ?_ HLD.out ?_); (rfl); (rfl); (rfl))
  refine HPT.out.mono ?_
  rintro e w6 ⟨⟨v10, rfl, hv⟩, hb⟩
  obtain ⟨Ar, cr, rfl⟩ := hv.form
  have HB_zs := Lib.hid hv.bytes.2
  have HC_zs := Lib.hid hv.cap
  have hbb := (EnvX.below E5b.out hb).bel
  have E6 : Hid (EnvX w6 w6 [(w5.heap.size, Obj.cells (txA yr) 25 (0, 0)), (w4.heap.size, Obj.cells (txA xr) 25 (0, 0)), (w.heap.size + 1, Obj.cells (txA s) 25 (0, 0)), (w.heap.size, Obj.cells (txA t) 25 (0, 0))]) := ⟨Below.refl _ _, (EnvX.below E5b.out hb).box⟩
  have HB6 := Lib.hid (HB5.out.trans (hbb.mono HB5.out.size))
  have HT6 := Lib.hid (HT5.out.below hbb)
  have K_kt := Lib.hid (K_kt.out.up hbb)
  have K_ks := Lib.hid (K_ks.out.up hbb)
  have K_hx := Lib.hid (K_hx.out.up hbb)
  have HB_xs := Lib.hid (HB_xs.out.up hbb)
  have HB_ys := Lib.hid (HB_ys.out.up hbb)
  have K_xr := Lib.hid (K_xr.out.up hbb)
  have K_yr := Lib.hid (K_yr.out.up hbb)
  clear hv hb HLD HPT hbb E5b
  obtain ⟨nr, hnp⟩ : ∃ np, (putX yr.r).1.length = np := ⟨_, rfl⟩
  obtain ⟨zs, hxs⟩ : ∃ xs, (putX yr.r).1 = xs := ⟨_, rfl⟩
  have HN_zs := Lib.hid hnp
  have HX_zs := Lib.hid hxs
  rw [hnp] at HC_zs ⊢
  rw [hxs] at HB_zs HN_zs
  clear hnp hxs
  obtain ⟨s0, hs0⟩ : ∃ s, strOfNums xs = s := ⟨_, rfl⟩
  obtain ⟨s1, hs1⟩ : ∃ s, strOfNums ys = s := ⟨_, rfl⟩
  have HS0 := Lib.hid hs0
  have HS1 := Lib.hid hs1
  have HES : Hid ((s0.toList == s1.toList) = sameX t.r s.r) := by
    show _ = _
    rw [← hs0, ← hs1, strOf_beq HXS.out.2.1 HYS.out.2, ← HIJ.out]
  have HNB : Hid ((sameX t.r s.r != sameX t.r s.r) = false) := by show _ = _; simp
  clear hs0 hs1
  obtain ⟨s2, hs2⟩ : ∃ s, strOfNums zs = s := ⟨_, rfl⟩
  obtain ⟨s3, hs3⟩ : ∃ s, strOfNums b = s := ⟨_, rfl⟩
  have HS2 := Lib.hid hs2
  have HS3 := Lib.hid hs3
  have HEZ : Hid ((s2.toList == s3.toList) = true) := by
    have e : zs = b := HX_zs.out.symm.trans (HYZ.out yr HR_yr.out)
    show _ = _
    rw [← hs2, ← hs3, e]
    exact beq_self_eq_true _
  clear hs2 hs3
  have HY63 := Lib.hid K_yr.out.n63
  go_upto_region 11 with (fail)
  refine wp_region_H (w0 := w6) [(w5.heap.size, Obj.cells (txA yr) 25 (0, 0)), (w4.heap.size, Obj.cells (txA xr) 25 (0, 0)), (w.heap.size + 1, Obj.cells (txA s) 25 (0, 0)), (w.heap.size, Obj.cells (txA t) 25 (0, 0))] (by kernel_rfl) E6.out ?_
  refine anyH_phase [0, 1, 2, 3, 4, 5, 6, 7, 8, 9, 10, 11, 12, 13, 14, 15, 16, 17, 18, 19, 20, 21, 22, 23, 24, 25, 26, 27, 28, 29, 30, 31, 32, 33] 0 rfl ⟨_, (EnvX.drew E6.out)⟩ (by kernel_rfl) ?_
  have hw1201 : EnvX w6 _ [(w5.heap.size, Obj.cells (txA yr) 25 (0, 0)), (w4.heap.size, Obj.cells (txA xr) 25 (0, 0)), (w.heap.size + 1, Obj.cells (txA s) 25 (0, 0)), (w.heap.size, Obj.cells (txA t) 25 (0, 0))] := (EnvX.drew E6.out)
  have hone := @EnvC.one _ _ _ hw1201
  (refine wpG_op rfl rfl rfl ?_; intro K hK; go_big_quiet_op; go_big_quiet_on)
  (refine wpG_val (v := txV t) rfl rfl (fun u hu => load_any_op u (box_tx hu (List.Mem.tail _ (List.Mem.tail _ (List.Mem.tail _ (List.Mem.head _))))) rfl) ?_ hw1201; intro K hK; go_big_quiet_op; go_big_quiet_on)
  (refine wpG_call (f := 18) (args := #[txV t]) (v := .bool true) rfl rfl rfl Tryd.func18 rfl rfl (fun u hu => by have h1 := HH.out.may t u (K_kt.out.up (EnvX.bel hu)) (HT6.out.below (EnvX.bel hu)); rwa [HMY.out] at h1) ?_ hw1201; intro K hK; go_big_quiet_op; go_big_quiet_on)
  (refine wpG_val (v := .bool false) rfl rfl (fun u hu => neqBc_op u rfl rfl rfl) ?_ hw1201; intro K hK; go_big_quiet_op; go_big_quiet_on)
  (refine wpG_op rfl rfl rfl ?_; intro K hK; go_big_quiet_op; go_big_quiet_on)
  (refine wpG_op rfl rfl rfl ?_; intro K hK; go_big_quiet_op; go_big_quiet_on)
  (refine wpG_op rfl rfl rfl ?_; intro K hK; go_big_quiet_op; go_big_quiet_on)
  (refine wpG_op rfl rfl rfl ?_; intro K hK; go_big_quiet_op; go_big_quiet_on)
  (refine wpG_op rfl rfl rfl ?_; intro K hK; go_big_quiet_op; go_big_quiet_on)
  (refine wpG_op rfl rfl rfl ?_; intro K hK; go_big_quiet_op; go_big_quiet_on)
  (refine wpG_val (v := txV xr) rfl rfl (fun u hu => load_any_op u (box_tx hu (List.Mem.tail _ (List.Mem.head _))) rfl) ?_ hw1201; intro K hK; go_big_quiet_op; go_big_quiet_on)
  (refine wpG_val (v := txV t) rfl rfl (fun u hu => load_any_op u (box_tx hu (List.Mem.tail _ (List.Mem.tail _ (List.Mem.tail _ (List.Mem.head _))))) rfl) ?_ hw1201; intro K hK; go_big_quiet_op; go_big_quiet_on)
  (refine wpG_call (f := 19) (args := #[txV xr, txV t]) (v := .bool true) rfl rfl rfl Tryd.func19 rfl rfl (fun u hu => by have h1 := HH.out.same xr t u (K_xr.out.up (EnvX.bel hu)) (K_kt.out.up (EnvX.bel hu)) (HT6.out.below (EnvX.bel hu)); rwa [show sameX xr.r t.r = true by rw [HR_xr.out]; exact decide_eq_true rfl] at h1) ?_ hw1201; intro K hK; go_big_quiet_op; go_big_quiet_on)
  (refine wpG_op rfl rfl rfl ?_; intro K hK; go_big_quiet_op; go_big_quiet_on)
  (refine wpG_op rfl rfl rfl ?_; intro K hK; go_big_quiet_op; go_big_quiet_on)
  (refine wpG_op rfl rfl rfl ?_; intro K hK; go_big_quiet_op; go_big_quiet_on)
  (refine wpG_op rfl rfl rfl ?_; intro K hK; go_big_quiet_op; go_big_quiet_on)
  (refine wpG_op rfl rfl rfl ?_; intro K hK; go_big_quiet_op; go_big_quiet_on)
  (refine wpG_op rfl rfl rfl ?_; intro K hK; go_big_quiet_op; go_big_quiet_on)
  (refine wpG_op rfl rfl rfl ?_; intro K hK; go_big_quiet_op; go_big_quiet_on)
  (refine wpG_op rfl rfl rfl ?_; intro K hK; go_big_quiet_op; go_big_quiet_on)
  (refine wpG_op rfl rfl rfl ?_; intro K hK; go_big_quiet_op; go_big_quiet_on)
  (refine wpG_op rfl rfl rfl ?_; intro K hK; go_big_quiet_op; go_big_quiet_on)
  (refine wpG_op rfl rfl rfl ?_; intro K hK; go_big_quiet_op; go_big_quiet_on)
  (refine wpG_val (v := .string s0) rfl rfl (fun u hu => conv_op u HN_xs.out (HB_xs.out.up (EnvX.bel hu)) HS0.out rfl) ?_ hw1201; intro K hK; go_big_quiet_op; go_big_quiet_on)
  (refine wpG_op rfl rfl rfl ?_; intro K hK; go_big_quiet_op; go_big_quiet_on)
  (refine wpG_val (v := .string s1) rfl rfl (fun u hu => conv_op u HN_ys.out (HB_ys.out.up (EnvX.bel hu)) HS1.out rfl) ?_ hw1201; intro K hK; go_big_quiet_op; go_big_quiet_on)
  (refine wpG_val (v := .bool (sameX t.r s.r)) rfl rfl (fun u hu => eqs_op u HES.out rfl rfl) ?_ hw1201; intro K hK; go_big_quiet_op; go_big_quiet_on)
  (refine wpG_val (v := txV t) rfl rfl (fun u hu => load_any_op u (box_tx hu (List.Mem.tail _ (List.Mem.tail _ (List.Mem.tail _ (List.Mem.head _))))) rfl) ?_ hw1201; intro K hK; go_big_quiet_op; go_big_quiet_on)
  (refine wpG_val (v := txV s) rfl rfl (fun u hu => load_any_op u (box_tx hu (List.Mem.tail _ (List.Mem.tail _ (List.Mem.head _)))) rfl) ?_ hw1201; intro K hK; go_big_quiet_op; go_big_quiet_on)
  (refine wpG_call (f := 19) (args := #[txV t, txV s]) (v := .bool (sameX t.r s.r)) rfl rfl rfl Tryd.func19 rfl rfl (fun u hu => HH.out.same t s u (K_kt.out.up (EnvX.bel hu)) (K_ks.out.up (EnvX.bel hu)) (HT6.out.below (EnvX.bel hu))) ?_ hw1201; intro K hK; go_big_quiet_op; go_big_quiet_on)
  (refine wpG_val (v := .bool false) rfl rfl (fun u hu => neqBc_op u HNB.out rfl rfl) ?_ hw1201; intro K hK; go_big_quiet_op; go_big_quiet_on)
  (refine wpG_op rfl rfl rfl ?_; intro K hK; go_big_quiet_op; go_big_quiet_on)
  (refine wpG_op rfl rfl rfl ?_; intro K hK; go_big_quiet_op; go_big_quiet_on)
  clear hone hw1201
  refine wpG_nil ?_
  refine anyH_done (by kernel_rfl) ?_
  intro u1203 E2'
  have EX1202 := Lib.hid E2'
  clear E2'
  go_upto_region 13 with (fail)
  refine wp_region_Hx (w0 := w6) [0, 1, 2, 3, 4, 5, 6, 7, 8, 9, 10, 11, 12, 13, 14, 15, 16, 17, 18, 19, 20, 21] [(w5.heap.size, Obj.cells (txA yr) 25 (0, 0)), (w4.heap.size, Obj.cells (txA xr) 25 (0, 0)), (w.heap.size + 1, Obj.cells (txA s) 25 (0, 0)), (w.heap.size, Obj.cells (txA t) 25 (0, 0))] rfl EX1202.out ?_
  refine lexH_phase [0, 1, 2, 3, 4, 5, 6, 7, 8, 9, 10, 11, 12, 13, 14, 15, 16, 17, 18, 19, 20, 21] [] ?_
  have hw1204 : EnvX w6 _ [(w5.heap.size, Obj.cells (txA yr) 25 (0, 0)), (w4.heap.size, Obj.cells (txA xr) 25 (0, 0)), (w.heap.size + 1, Obj.cells (txA s) 25 (0, 0)), (w.heap.size, Obj.cells (txA t) 25 (0, 0))] := EX1202.out
  have hone := @EnvC.one _ _ _ hw1204
  (refine wpG_op rfl rfl rfl ?_; intro K hK; go_big_quiet_op; go_big_quiet_on)
  (refine wpG_op rfl rfl rfl ?_; intro K hK; go_big_quiet_op; go_big_quiet_on)
  (refine wpG_op rfl rfl rfl ?_; intro K hK; go_big_quiet_op; go_big_quiet_on)
  (refine wpG_skip rfl rfl ?_ hw1204; intro K hK; go_big_quiet_op; go_big_quiet_on)
  (refine wpG_skip rfl rfl ?_ hw1204; intro K hK; go_big_quiet_op; go_big_quiet_on)
  (refine wpG_skip rfl rfl ?_ hw1204; intro K hK; go_big_quiet_op; go_big_quiet_on)
  (refine wpG_skip rfl rfl ?_ hw1204; intro K hK; go_big_quiet_op; go_big_quiet_on)
  (refine wpG_op rfl rfl rfl ?_; intro K hK; go_big_quiet_op; go_big_quiet_on)
  (refine wpG_op rfl rfl rfl ?_; intro K hK; go_big_quiet_op; go_big_quiet_on)
  (refine wpG_op rfl rfl rfl ?_; intro K hK; go_big_quiet_op; go_big_quiet_on)
  (refine wpG_op rfl rfl rfl ?_; intro K hK; go_big_quiet_op; go_big_quiet_on)
  (refine wpG_op rfl rfl rfl ?_; intro K hK; go_big_quiet_op; go_big_quiet_on)
  (refine wpG_op rfl rfl rfl ?_; intro K hK; go_big_quiet_op; go_big_quiet_on)
  (refine wpG_op rfl rfl rfl ?_; intro K hK; go_big_quiet_op; go_big_quiet_on)
  (refine wpG_op rfl rfl rfl ?_; intro K hK; go_big_quiet_op; go_big_quiet_on)
  (refine wpG_val (v := .string s2) rfl rfl (fun u hu => conv_op u HN_zs.out (HB_zs.out.up (EnvX.bel hu)) HS2.out rfl) ?_ hw1204; intro K hK; go_big_quiet_op; go_big_quiet_on)
  (refine wpG_op rfl rfl rfl ?_; intro K hK; go_big_quiet_op; go_big_quiet_on)
  (refine wpG_val (v := .string s3) rfl rfl (fun u hu => conv_op u HBM.out.1 (K_hx.out.up (EnvX.bel hu)) HS3.out rfl) ?_ hw1204; intro K hK; go_big_quiet_op; go_big_quiet_on)
  (refine wpG_val (v := .bool true) rfl rfl (fun u hu => eqs_op u HEZ.out rfl rfl) ?_ hw1204; intro K hK; go_big_quiet_op; go_big_quiet_on)
  (refine wpG_op rfl rfl rfl ?_; intro K hK; go_big_quiet_op; go_big_quiet_on)
  (refine wpG_op rfl rfl rfl ?_; intro K hK; go_big_quiet_op; go_big_quiet_on)
  (refine wpG_op rfl rfl rfl ?_; intro K hK; go_big_quiet_op; go_big_quiet_on)
  clear hone hw1204
  refine wpG_nil ?_
  intro u1206 E2'
  have EX1205 := Lib.hid E2'
  clear E2'
  have HBE := Lib.hid (HB6.out.trans ((EnvX.bel EX1205.out).mono HB6.out.size))
  go_wp2
  go_ret
  exact ⟨rfl, HBE.out⟩
theorem law_backX (H : CoinC) (t s : TxM) (b : List Int) (A : Option Addr) (n c : Nat) (w : World) (kt : TxOk w t) (ks : TxOk w s) (hl : b.length = n) (hnc : n ≤ c) (hcm : c ≤ maxLen) (hB : isB b) (hx : Bytes w w.heap.size A b) (ht : Tables w) :
    Calls Tryd.prog 4 #[txV t, txV s, .slice A n c] w fun e w' => e = .returned (.bool true) ∧ Below w.heap.size w w' := by
  cases k1 : fewX t.r with
  | false => exact law_backX_fewt H t s b A n c w kt ks hl hnc hcm hB hx ht k1
  | true =>
    cases k2 : fewX s.r with
    | false => exact law_backX_fews H t s b A n c w kt ks hl hnc hcm hB hx ht k1 k2
    | true =>
      by_cases k3 : 400 < n
      · exact law_backX_many H t s b A n c w kt ks hl hnc hcm hB hx ht k1 k2 k3
      · cases m3 : mayReadX b with
        | false =>
          cases m1 : mayX t.r with
          | false => exact law_backX_af H t s b A n c w kt ks hl hnc hcm hB hx ht k1 k2 (by omega) m1 m3
          | true =>
            cases m2 : mayX s.r with
            | false => exact law_backX_bf H t s b A n c w kt ks hl hnc hcm hB hx ht k1 k2 (by omega) m1 m2 m3
            | true => exact law_backX_cf H t s b A n c w kt ks hl hnc hcm hB hx ht k1 k2 (by omega) m1 m2 m3
        | true =>
          cases m1 : mayX t.r with
          | false => exact law_backX_at H t s b A n c w kt ks hl hnc hcm hB hx ht k1 k2 (by omega) m1 m3
          | true =>
            cases m2 : mayX s.r with
            | false => exact law_backX_bt H t s b A n c w kt ks hl hnc hcm hB hx ht k1 k2 (by omega) m1 m2 m3
            | true => exact law_backX_ct H t s b A n c w kt ks hl hnc hcm hB hx ht k1 k2 (by omega) m1 m2 m3
end Go.Proofs.YtcodmedgkboohaaDoor
