/-
  PROVED: the law stepladderlaw09.CoinTells answers true for every input, and leaves its arguments as they were.
  Conditions: the two package-level tables of package sha hold at the call what their initialisers lay; the card ties that to the text of the program (a pruned copy of the project: the packages that the roots of this seat load).
-/
import Derived.Test.YtcodmedgkboohaaDoorCoinTellsPc
namespace Go.Proofs.YtcodmedgkboohaaDoor
set_option maxRecDepth 8000
open Go.RowKit

set_option maxRecDepth 20000 in
set_option maxHeartbeats 8000000 in
theorem law_tellsX_fewt (H : CoinC) (t s : TxM) (b : List Int) (l : List TxM) (A : Option Addr) (n c : Nat) (A3 : Option Addr) (n3 c3 : Nat) (w : World) (kt : TxOk w t) (ks : TxOk w s) (hl : b.length = n) (hnc : n ≤ c) (hcm : c ≤ maxLen) (hB : isB b) (hx : Bytes w w.heap.size A b) (hl3 : l.length = n3) (hnc3 : n3 ≤ c3) (hcm3 : c3 ≤ maxLen) (kl : TxsIn w A3 l) (ht : Tables w) (k1 : fewX t.r = false) :
    Calls Tryd.prog 3 #[txV t, txV s, .slice A n c, .slice A3 n3 c3] w fun e w' => e = .returned (.bool true) ∧ Below w.heap.size w w' := by
  have HN63 : Hid (n < 9223372036854775808) := by show _ < _; unfold maxLen at hcm; omega
  have HM63 : Hid (n3 < 9223372036854775808) := by show _ < _; unfold maxLen at hcm3; omega
  have HL3 := Lib.hid (And.intro hl3 (And.intro hnc3 hcm3))
  have HF_t : Hid (fewX t.r = false) := k1
  clear k1
  have E0 : Hid (EnvX w ((w.alloc (.cells (txA t) 25)).alloc (.cells (txA s) 25)) [(w.heap.size + 1, Obj.cells (txA s) 25 (0, 0)), (w.heap.size, Obj.cells (txA t) 25 (0, 0))]) := (EnvX.start w).two _ _
  have HAW := Lib.hid (cawake_any H ((w.alloc (.cells (txA t) 25)).alloc (.cells (txA s) 25)) (ht.below (EnvX.bel E0.out)))
  have HT := Lib.hid ht
  have HH := Lib.hid H
  have J_kt := Lib.hid kt
  have J_ks := Lib.hid ks
  have J_hx := Lib.hid hx
  have J_kl := Lib.hid kl
  clear ht H kt ks hx kl hl hnc hcm hB hl3 hnc3 hcm3
  unfold txV
  go_enter Tryd.func3, Tryd.ntmps3
  go_upto_region 1 with (fail)
  generalize ((w.alloc (.cells (txA t) 25)).alloc (.cells (txA s) 25)) = W at *
  go_wp2_with fail
  refine HAW.out.mono ?_
  rintro e w1 ⟨rfl, hb1⟩
  have HB1 := Lib.hid (EnvX.below E0.out hb1).bel
  have E1 : Hid (EnvX w1 w1 [(w.heap.size + 1, Obj.cells (txA s) 25 (0, 0)), (w.heap.size, Obj.cells (txA t) 25 (0, 0))]) := ⟨Below.refl _ _, (EnvX.below E0.out hb1).box⟩
  have HT1 := Lib.hid (HT.out.below HB1.out)
  have K_kt := Lib.hid (J_kt.out.up HB1.out)
  have K_ks := Lib.hid (J_ks.out.up HB1.out)
  have K_hx := Lib.hid (J_hx.out.up HB1.out)
  have K_kl := Lib.hid (J_kl.out.up HB1.out)
  clear hb1 E0 HAW HT J_kt J_ks J_hx J_kl
  go_upto_region 2 with (fail)
  refine wp_region_Hx (w0 := w1) [0, 1, 2] [(w.heap.size + 1, Obj.cells (txA s) 25 (0, 0)), (w.heap.size, Obj.cells (txA t) 25 (0, 0))] rfl E1.out ?_
  refine lexH_phase [0, 1, 2] [] ?_
  have hw1 : EnvX w1 _ [(w.heap.size + 1, Obj.cells (txA s) 25 (0, 0)), (w.heap.size, Obj.cells (txA t) 25 (0, 0))] := E1.out
  have hone := @EnvC.one _ _ _ hw1
  (refine wpG_val (v := txV t) rfl rfl (fun u hu => load_any_op u (box_tx hu (List.Mem.tail _ (List.Mem.head _))) rfl) ?_ hw1; intro K hK; go_big_quiet_op; go_big_quiet_on)
  (refine wpG_call (f := 10) (args := #[txV t]) (v := .bool false) rfl rfl rfl Tryd.func10 rfl rfl (fun u hu => by have h1 := few_any t u (K_kt.out.up (EnvX.bel hu)); rwa [HF_t.out] at h1) ?_ hw1; intro K hK; go_big_quiet_op; go_big_quiet_on)
  (refine wpG_op rfl rfl rfl ?_; intro K hK; go_big_quiet_op; go_big_quiet_on)
  clear hone hw1
  refine wpG_nil ?_
  intro u3 E2'
  have EX2 := Lib.hid E2'
  clear E2'
  go_upto_region 3 with (fail)
  refine wp_region_Hx (w0 := w1) [0, 1, 2] [(w.heap.size + 1, Obj.cells (txA s) 25 (0, 0)), (w.heap.size, Obj.cells (txA t) 25 (0, 0))] rfl EX2.out ?_
  refine lexH_phase [0, 1, 2] [] ?_
  have hw4 : EnvX w1 _ [(w.heap.size + 1, Obj.cells (txA s) 25 (0, 0)), (w.heap.size, Obj.cells (txA t) 25 (0, 0))] := EX2.out
  have hone := @EnvC.one _ _ _ hw4
  (refine wpG_val (v := txV s) rfl rfl (fun u hu => load_any_op u (box_tx hu (List.Mem.head _)) rfl) ?_ hw4; intro K hK; go_big_quiet_op; go_big_quiet_on)
  (refine wpG_call (f := 10) (args := #[txV s]) (v := .bool (fewX s.r)) rfl rfl rfl Tryd.func10 rfl rfl (fun u hu => few_any s u (K_ks.out.up (EnvX.bel hu))) ?_ hw4; intro K hK; go_big_quiet_op; go_big_quiet_on)
  (refine wpG_op rfl rfl rfl ?_; intro K hK; go_big_quiet_op; go_big_quiet_on)
  clear hone hw4
  refine wpG_nil ?_
  intro u6 E2'
  have EX5 := Lib.hid E2'
  clear E2'
  go_upto_region 4 with (fail)
  refine wp_region_Hx (w0 := w1) [0, 1, 2] [(w.heap.size + 1, Obj.cells (txA s) 25 (0, 0)), (w.heap.size, Obj.cells (txA t) 25 (0, 0))] rfl EX5.out ?_
  refine lexH_phase [0, 1, 2] [] ?_
  have hw7 : EnvX w1 _ [(w.heap.size + 1, Obj.cells (txA s) 25 (0, 0)), (w.heap.size, Obj.cells (txA t) 25 (0, 0))] := EX5.out
  have hone := @EnvC.one _ _ _ hw7
  (refine wpG_op rfl rfl rfl ?_; intro K hK; go_big_quiet_op; go_big_quiet_on)
  (refine wpG_call (f := 11) (args := #[.slice A3 n3 c3, .int .i64 8]) (v := .bool (fewAll l 8)) rfl rfl rfl Tryd.func11 rfl rfl (fun u hu => fewall_any l 8 A3 n3 c3 u HL3.out.1 HM63.out (K_kl.out.up (EnvX.bel hu))) ?_ hw7; intro K hK; go_big_quiet_op; go_big_quiet_on)
  (refine wpG_op rfl rfl rfl ?_; intro K hK; go_big_quiet_op; go_big_quiet_on)
  clear hone hw7
  refine wpG_nil ?_
  intro u9 E2'
  have EX8 := Lib.hid E2'
  clear E2'
  go_upto_region 5 with (fail)
  refine wp_region_Hx (w0 := w1) [0, 1, 2, 3, 4, 5, 6, 7, 8, 9, 10, 11, 12, 13, 14, 15, 16, 17, 18] [(w.heap.size + 1, Obj.cells (txA s) 25 (0, 0)), (w.heap.size, Obj.cells (txA t) 25 (0, 0))] rfl EX8.out ?_
  refine lexH_phase [0, 1, 2, 3, 4, 5, 6, 7, 8, 9, 10, 11, 12, 13, 14, 15, 16, 17, 18] [] ?_
  have hw10 : EnvX w1 _ [(w.heap.size + 1, Obj.cells (txA s) 25 (0, 0)), (w.heap.size, Obj.cells (txA t) 25 (0, 0))] := EX8.out
  have hone := @EnvC.one _ _ _ hw10
  (refine wpG_op rfl rfl rfl ?_; intro K hK; go_big_quiet_op; go_big_quiet_on)
  (refine wpG_op rfl rfl rfl ?_; intro K hK; go_big_quiet_op; go_big_quiet_on)
  (refine wpG_op rfl rfl rfl ?_; intro K hK; go_big_quiet_op; go_big_quiet_on)
  (refine wpG_op rfl rfl rfl ?_; intro K hK; go_big_quiet_op; go_big_quiet_on)
  (refine wpG_op rfl rfl rfl ?_; intro K hK; go_big_quiet_op; go_big_quiet_on)
  (refine wpG_op rfl rfl rfl ?_; intro K hK; go_big_quiet_op; go_big_quiet_on)
  (refine wpG_op rfl rfl rfl ?_; intro K hK; go_big_quiet_op; go_big_quiet_on)
  (refine wpG_skip rfl rfl ?_ hw10; intro K hK; go_big_quiet_op; go_big_quiet_on)
  (refine wpG_skip rfl rfl ?_ hw10; intro K hK; go_big_quiet_op; go_big_quiet_on)
  (refine wpG_op rfl rfl rfl ?_; intro K hK; go_big_quiet_op; go_big_quiet_on)
  (refine wpG_op rfl rfl rfl ?_; intro K hK; go_big_quiet_op; go_big_quiet_on)
  (refine wpG_skip rfl rfl ?_ hw10; intro K hK; go_big_quiet_op; go_big_quiet_on)
  (refine wpG_skip rfl rfl ?_ hw10; intro K hK; go_big_quiet_op; go_big_quiet_on)
  (refine wpG_op rfl rfl rfl ?_; intro K hK; go_big_quiet_op; go_big_quiet_on)
  (refine wpG_op rfl rfl rfl ?_; intro K hK; go_big_quiet_op; go_big_quiet_on)
  (refine wpG_skip rfl rfl ?_ hw10; intro K hK; go_big_quiet_op; go_big_quiet_on)
  (refine wpG_skip rfl rfl ?_ hw10; intro K hK; go_big_quiet_op; go_big_quiet_on)
  (refine wpG_skip rfl rfl ?_ hw10; intro K hK; go_big_quiet_op; go_big_quiet_on)
  (refine wpG_op rfl rfl rfl ?_; intro K hK; go_big_quiet_op; go_big_quiet_on)
  clear hone hw10
  refine wpG_nil ?_
  intro u12 E2'
  have EX11 := Lib.hid E2'
  clear E2'
  have HBE := Lib.hid (HB1.out.trans ((EnvX.bel EX11.out).mono HB1.out.size))
  go_wp2
  go_ret
  exact ⟨rfl, HBE.out⟩
set_option maxRecDepth 20000 in
set_option maxHeartbeats 8000000 in
theorem law_tellsX_fews (H : CoinC) (t s : TxM) (b : List Int) (l : List TxM) (A : Option Addr) (n c : Nat) (A3 : Option Addr) (n3 c3 : Nat) (w : World) (kt : TxOk w t) (ks : TxOk w s) (hl : b.length = n) (hnc : n ≤ c) (hcm : c ≤ maxLen) (hB : isB b) (hx : Bytes w w.heap.size A b) (hl3 : l.length = n3) (hnc3 : n3 ≤ c3) (hcm3 : c3 ≤ maxLen) (kl : TxsIn w A3 l) (ht : Tables w) (k1 : fewX t.r = true) (k2 : fewX s.r = false) :
    Calls Tryd.prog 3 #[txV t, txV s, .slice A n c, .slice A3 n3 c3] w fun e w' => e = .returned (.bool true) ∧ Below w.heap.size w w' := by
  have HN63 : Hid (n < 9223372036854775808) := by show _ < _; unfold maxLen at hcm; omega
  have HM63 : Hid (n3 < 9223372036854775808) := by show _ < _; unfold maxLen at hcm3; omega
  have HL3 := Lib.hid (And.intro hl3 (And.intro hnc3 hcm3))
  have HF_t : Hid (fewX t.r = true) := k1
  have HF_s : Hid (fewX s.r = false) := k2
  clear k1 k2
  have E0 : Hid (EnvX w ((w.alloc (.cells (txA t) 25)).alloc (.cells (txA s) 25)) [(w.heap.size + 1, Obj.cells (txA s) 25 (0, 0)), (w.heap.size, Obj.cells (txA t) 25 (0, 0))]) := (EnvX.start w).two _ _
  have HAW := Lib.hid (cawake_any H ((w.alloc (.cells (txA t) 25)).alloc (.cells (txA s) 25)) (ht.below (EnvX.bel E0.out)))
  have HT := Lib.hid ht
  have HH := Lib.hid H
  have J_kt := Lib.hid kt
  have J_ks := Lib.hid ks
  have J_hx := Lib.hid hx
  have J_kl := Lib.hid kl
  clear ht H kt ks hx kl hl hnc hcm hB hl3 hnc3 hcm3
  unfold txV
  go_enter Tryd.func3, Tryd.ntmps3
  go_upto_region 1 with (fail)
  generalize ((w.alloc (.cells (txA t) 25)).alloc (.cells (txA s) 25)) = W at *
  go_wp2_with fail
  refine HAW.out.mono ?_
  rintro e w1 ⟨rfl, hb1⟩
  have HB1 := Lib.hid (EnvX.below E0.out hb1).bel
  have E1 : Hid (EnvX w1 w1 [(w.heap.size + 1, Obj.cells (txA s) 25 (0, 0)), (w.heap.size, Obj.cells (txA t) 25 (0, 0))]) := ⟨Below.refl _ _, (EnvX.below E0.out hb1).box⟩
  have HT1 := Lib.hid (HT.out.below HB1.out)
  have K_kt := Lib.hid (J_kt.out.up HB1.out)
  have K_ks := Lib.hid (J_ks.out.up HB1.out)
  have K_hx := Lib.hid (J_hx.out.up HB1.out)
  have K_kl := Lib.hid (J_kl.out.up HB1.out)
  clear hb1 E0 HAW HT J_kt J_ks J_hx J_kl
  go_upto_region 2 with (fail)
  refine wp_region_Hx (w0 := w1) [0, 1, 2] [(w.heap.size + 1, Obj.cells (txA s) 25 (0, 0)), (w.heap.size, Obj.cells (txA t) 25 (0, 0))] rfl E1.out ?_
  refine lexH_phase [0, 1, 2] [] ?_
  have hw1 : EnvX w1 _ [(w.heap.size + 1, Obj.cells (txA s) 25 (0, 0)), (w.heap.size, Obj.cells (txA t) 25 (0, 0))] := E1.out
  have hone := @EnvC.one _ _ _ hw1
  (refine wpG_val (v := txV t) rfl rfl (fun u hu => load_any_op u (box_tx hu (List.Mem.tail _ (List.Mem.head _))) rfl) ?_ hw1; intro K hK; go_big_quiet_op; go_big_quiet_on)
  (refine wpG_call (f := 10) (args := #[txV t]) (v := .bool true) rfl rfl rfl Tryd.func10 rfl rfl (fun u hu => by have h1 := few_any t u (K_kt.out.up (EnvX.bel hu)); rwa [HF_t.out] at h1) ?_ hw1; intro K hK; go_big_quiet_op; go_big_quiet_on)
  (refine wpG_op rfl rfl rfl ?_; intro K hK; go_big_quiet_op; go_big_quiet_on)
  clear hone hw1
  refine wpG_nil ?_
  intro u3 E2'
  have EX2 := Lib.hid E2'
  clear E2'
  go_upto_region 3 with (fail)
  refine wp_region_Hx (w0 := w1) [0, 1, 2] [(w.heap.size + 1, Obj.cells (txA s) 25 (0, 0)), (w.heap.size, Obj.cells (txA t) 25 (0, 0))] rfl EX2.out ?_
  refine lexH_phase [0, 1, 2] [] ?_
  have hw4 : EnvX w1 _ [(w.heap.size + 1, Obj.cells (txA s) 25 (0, 0)), (w.heap.size, Obj.cells (txA t) 25 (0, 0))] := EX2.out
  have hone := @EnvC.one _ _ _ hw4
  (refine wpG_val (v := txV s) rfl rfl (fun u hu => load_any_op u (box_tx hu (List.Mem.head _)) rfl) ?_ hw4; intro K hK; go_big_quiet_op; go_big_quiet_on)
  (refine wpG_call (f := 10) (args := #[txV s]) (v := .bool false) rfl rfl rfl Tryd.func10 rfl rfl (fun u hu => by have h1 := few_any s u (K_ks.out.up (EnvX.bel hu)); rwa [HF_s.out] at h1) ?_ hw4; intro K hK; go_big_quiet_op; go_big_quiet_on)
  (refine wpG_op rfl rfl rfl ?_; intro K hK; go_big_quiet_op; go_big_quiet_on)
  clear hone hw4
  refine wpG_nil ?_
  intro u6 E2'
  have EX5 := Lib.hid E2'
  clear E2'
  go_upto_region 4 with (fail)
  refine wp_region_Hx (w0 := w1) [0, 1, 2] [(w.heap.size + 1, Obj.cells (txA s) 25 (0, 0)), (w.heap.size, Obj.cells (txA t) 25 (0, 0))] rfl EX5.out ?_
  refine lexH_phase [0, 1, 2] [] ?_
  have hw7 : EnvX w1 _ [(w.heap.size + 1, Obj.cells (txA s) 25 (0, 0)), (w.heap.size, Obj.cells (txA t) 25 (0, 0))] := EX5.out
  have hone := @EnvC.one _ _ _ hw7
  (refine wpG_op rfl rfl rfl ?_; intro K hK; go_big_quiet_op; go_big_quiet_on)
  (refine wpG_call (f := 11) (args := #[.slice A3 n3 c3, .int .i64 8]) (v := .bool (fewAll l 8)) rfl rfl rfl Tryd.func11 rfl rfl (fun u hu => fewall_any l 8 A3 n3 c3 u HL3.out.1 HM63.out (K_kl.out.up (EnvX.bel hu))) ?_ hw7; intro K hK; go_big_quiet_op; go_big_quiet_on)
  (refine wpG_op rfl rfl rfl ?_; intro K hK; go_big_quiet_op; go_big_quiet_on)
  clear hone hw7
  refine wpG_nil ?_
  intro u9 E2'
  have EX8 := Lib.hid E2'
  clear E2'
  go_upto_region 5 with (fail)
  refine wp_region_Hx (w0 := w1) [0, 1, 2, 3, 4, 5, 6, 7, 8, 9, 10, 11, 12, 13, 14, 15, 16, 17, 18] [(w.heap.size + 1, Obj.cells (txA s) 25 (0, 0)), (w.heap.size, Obj.cells (txA t) 25 (0, 0))] rfl EX8.out ?_
  refine lexH_phase [0, 1, 2, 3, 4, 5, 6, 7, 8, 9, 10, 11, 12, 13, 14, 15, 16, 17, 18] [] ?_
  have hw10 : EnvX w1 _ [(w.heap.size + 1, Obj.cells (txA s) 25 (0, 0)), (w.heap.size, Obj.cells (txA t) 25 (0, 0))] := EX8.out
  have hone := @EnvC.one _ _ _ hw10
  (refine wpG_op rfl rfl rfl ?_; intro K hK; go_big_quiet_op; go_big_quiet_on)
  (refine wpG_op rfl rfl rfl ?_; intro K hK; go_big_quiet_op; go_big_quiet_on)
  (refine wpG_op rfl rfl rfl ?_; intro K hK; go_big_quiet_op; go_big_quiet_on)
  (refine wpG_op rfl rfl rfl ?_; intro K hK; go_big_quiet_op; go_big_quiet_on)
  (refine wpG_op rfl rfl rfl ?_; intro K hK; go_big_quiet_op; go_big_quiet_on)
  (refine wpG_op rfl rfl rfl ?_; intro K hK; go_big_quiet_op; go_big_quiet_on)
  (refine wpG_op rfl rfl rfl ?_; intro K hK; go_big_quiet_op; go_big_quiet_on)
  (refine wpG_op rfl rfl rfl ?_; intro K hK; go_big_quiet_op; go_big_quiet_on)
  (refine wpG_op rfl rfl rfl ?_; intro K hK; go_big_quiet_op; go_big_quiet_on)
  (refine wpG_op rfl rfl rfl ?_; intro K hK; go_big_quiet_op; go_big_quiet_on)
  (refine wpG_op rfl rfl rfl ?_; intro K hK; go_big_quiet_op; go_big_quiet_on)
  (refine wpG_skip rfl rfl ?_ hw10; intro K hK; go_big_quiet_op; go_big_quiet_on)
  (refine wpG_skip rfl rfl ?_ hw10; intro K hK; go_big_quiet_op; go_big_quiet_on)
  (refine wpG_op rfl rfl rfl ?_; intro K hK; go_big_quiet_op; go_big_quiet_on)
  (refine wpG_op rfl rfl rfl ?_; intro K hK; go_big_quiet_op; go_big_quiet_on)
  (refine wpG_skip rfl rfl ?_ hw10; intro K hK; go_big_quiet_op; go_big_quiet_on)
  (refine wpG_skip rfl rfl ?_ hw10; intro K hK; go_big_quiet_op; go_big_quiet_on)
  (refine wpG_skip rfl rfl ?_ hw10; intro K hK; go_big_quiet_op; go_big_quiet_on)
  (refine wpG_op rfl rfl rfl ?_; intro K hK; go_big_quiet_op; go_big_quiet_on)
  clear hone hw10
  refine wpG_nil ?_
  intro u12 E2'
  have EX11 := Lib.hid E2'
  clear E2'
  have HBE := Lib.hid (HB1.out.trans ((EnvX.bel EX11.out).mono HB1.out.size))
  go_wp2
  go_ret
  exact ⟨rfl, HBE.out⟩
set_option maxRecDepth 20000 in
set_option maxHeartbeats 8000000 in
theorem law_tellsX_fewl (H : CoinC) (t s : TxM) (b : List Int) (l : List TxM) (A : Option Addr) (n c : Nat) (A3 : Option Addr) (n3 c3 : Nat) (w : World) (kt : TxOk w t) (ks : TxOk w s) (hl : b.length = n) (hnc : n ≤ c) (hcm : c ≤ maxLen) (hB : isB b) (hx : Bytes w w.heap.size A b) (hl3 : l.length = n3) (hnc3 : n3 ≤ c3) (hcm3 : c3 ≤ maxLen) (kl : TxsIn w A3 l) (ht : Tables w) (k1 : fewX t.r = true) (k2 : fewX s.r = true) (k3 : fewAll l 8 = false) :
    Calls Tryd.prog 3 #[txV t, txV s, .slice A n c, .slice A3 n3 c3] w fun e w' => e = .returned (.bool true) ∧ Below w.heap.size w w' := by
  have HN63 : Hid (n < 9223372036854775808) := by show _ < _; unfold maxLen at hcm; omega
  have HM63 : Hid (n3 < 9223372036854775808) := by show _ < _; unfold maxLen at hcm3; omega
  have HL3 := Lib.hid (And.intro hl3 (And.intro hnc3 hcm3))
  have HF_t : Hid (fewX t.r = true) := k1
  have HF_s : Hid (fewX s.r = true) := k2
  have HF_l : Hid (fewAll l 8 = false) := k3
  clear k1 k2 k3
  have E0 : Hid (EnvX w ((w.alloc (.cells (txA t) 25)).alloc (.cells (txA s) 25)) [(w.heap.size + 1, Obj.cells (txA s) 25 (0, 0)), (w.heap.size, Obj.cells (txA t) 25 (0, 0))]) := (EnvX.start w).two _ _
  have HAW := Lib.hid (cawake_any H ((w.alloc (.cells (txA t) 25)).alloc (.cells (txA s) 25)) (ht.below (EnvX.bel E0.out)))
  have HT := Lib.hid ht
  have HH := Lib.hid H
  have J_kt := Lib.hid kt
  have J_ks := Lib.hid ks
  have J_hx := Lib.hid hx
  have J_kl := Lib.hid kl
  clear ht H kt ks hx kl hl hnc hcm hB hl3 hnc3 hcm3
  unfold txV
  go_enter Tryd.func3, Tryd.ntmps3
  go_upto_region 1 with (fail)
  generalize ((w.alloc (.cells (txA t) 25)).alloc (.cells (txA s) 25)) = W at *
  go_wp2_with fail
  refine HAW.out.mono ?_
  rintro e w1 ⟨rfl, hb1⟩
  have HB1 := Lib.hid (EnvX.below E0.out hb1).bel
  have E1 : Hid (EnvX w1 w1 [(w.heap.size + 1, Obj.cells (txA s) 25 (0, 0)), (w.heap.size, Obj.cells (txA t) 25 (0, 0))]) := ⟨Below.refl _ _, (EnvX.below E0.out hb1).box⟩
  have HT1 := Lib.hid (HT.out.below HB1.out)
  have K_kt := Lib.hid (J_kt.out.up HB1.out)
  have K_ks := Lib.hid (J_ks.out.up HB1.out)
  have K_hx := Lib.hid (J_hx.out.up HB1.out)
  have K_kl := Lib.hid (J_kl.out.up HB1.out)
  clear hb1 E0 HAW HT J_kt J_ks J_hx J_kl
  go_upto_region 2 with (fail)
  refine wp_region_Hx (w0 := w1) [0, 1, 2] [(w.heap.size + 1, Obj.cells (txA s) 25 (0, 0)), (w.heap.size, Obj.cells (txA t) 25 (0, 0))] rfl E1.out ?_
  refine lexH_phase [0, 1, 2] [] ?_
  have hw1 : EnvX w1 _ [(w.heap.size + 1, Obj.cells (txA s) 25 (0, 0)), (w.heap.size, Obj.cells (txA t) 25 (0, 0))] := E1.out
  have hone := @EnvC.one _ _ _ hw1
  (refine wpG_val (v := txV t) rfl rfl (fun u hu => load_any_op u (box_tx hu (List.Mem.tail _ (List.Mem.head _))) rfl) ?_ hw1; intro K hK; go_big_quiet_op; go_big_quiet_on)
  (refine wpG_call (f := 10) (args := #[txV t]) (v := .bool true) rfl rfl rfl Tryd.func10 rfl rfl (fun u hu => by have h1 := few_any t u (K_kt.out.up (EnvX.bel hu)); rwa [HF_t.out] at h1) ?_ hw1; intro K hK; go_big_quiet_op; go_big_quiet_on)
  (refine wpG_op rfl rfl rfl ?_; intro K hK; go_big_quiet_op; go_big_quiet_on)
  clear hone hw1
  refine wpG_nil ?_
  intro u3 E2'
  have EX2 := Lib.hid E2'
  clear E2'
  go_upto_region 3 with (fail)
  refine wp_region_Hx (w0 := w1) [0, 1, 2] [(w.heap.size + 1, Obj.cells (txA s) 25 (0, 0)), (w.heap.size, Obj.cells (txA t) 25 (0, 0))] rfl EX2.out ?_
  refine lexH_phase [0, 1, 2] [] ?_
  have hw4 : EnvX w1 _ [(w.heap.size + 1, Obj.cells (txA s) 25 (0, 0)), (w.heap.size, Obj.cells (txA t) 25 (0, 0))] := EX2.out
  have hone := @EnvC.one _ _ _ hw4
  (refine wpG_val (v := txV s) rfl rfl (fun u hu => load_any_op u (box_tx hu (List.Mem.head _)) rfl) ?_ hw4; intro K hK; go_big_quiet_op; go_big_quiet_on)
  (refine wpG_call (f := 10) (args := #[txV s]) (v := .bool true) rfl rfl rfl Tryd.func10 rfl rfl (fun u hu => by have h1 := few_any s u (K_ks.out.up (EnvX.bel hu)); rwa [HF_s.out] at h1) ?_ hw4; intro K hK; go_big_quiet_op; go_big_quiet_on)
  (refine wpG_op rfl rfl rfl ?_; intro K hK; go_big_quiet_op; go_big_quiet_on)
  clear hone hw4
  refine wpG_nil ?_
  intro u6 E2'
  have EX5 := Lib.hid E2'
  clear E2'
  go_upto_region 4 with (fail)
  refine wp_region_Hx (w0 := w1) [0, 1, 2] [(w.heap.size + 1, Obj.cells (txA s) 25 (0, 0)), (w.heap.size, Obj.cells (txA t) 25 (0, 0))] rfl EX5.out ?_
  refine lexH_phase [0, 1, 2] [] ?_
  have hw7 : EnvX w1 _ [(w.heap.size + 1, Obj.cells (txA s) 25 (0, 0)), (w.heap.size, Obj.cells (txA t) 25 (0, 0))] := EX5.out
  have hone := @EnvC.one _ _ _ hw7
  (refine wpG_op rfl rfl rfl ?_; intro K hK; go_big_quiet_op; go_big_quiet_on)
  (refine wpG_call (f := 11) (args := #[.slice A3 n3 c3, .int .i64 8]) (v := .bool false) rfl rfl rfl Tryd.func11 rfl rfl (fun u hu => by have h1 := fewall_any l 8 A3 n3 c3 u HL3.out.1 HM63.out (K_kl.out.up (EnvX.bel hu)); rwa [HF_l.out] at h1) ?_ hw7; intro K hK; go_big_quiet_op; go_big_quiet_on)
  (refine wpG_op rfl rfl rfl ?_; intro K hK; go_big_quiet_op; go_big_quiet_on)
  clear hone hw7
  refine wpG_nil ?_
  intro u9 E2'
  have EX8 := Lib.hid E2'
  clear E2'
  go_upto_region 5 with (fail)
  refine wp_region_Hx (w0 := w1) [0, 1, 2, 3, 4, 5, 6, 7, 8, 9, 10, 11, 12, 13, 14, 15, 16, 17, 18] [(w.heap.size + 1, Obj.cells (txA s) 25 (0, 0)), (w.heap.size, Obj.cells (txA t) 25 (0, 0))] rfl EX8.out ?_
  refine lexH_phase [0, 1, 2, 3, 4, 5, 6, 7, 8, 9, 10, 11, 12, 13, 14, 15, 16, 17, 18] [] ?_
  have hw10 : EnvX w1 _ [(w.heap.size + 1, Obj.cells (txA s) 25 (0, 0)), (w.heap.size, Obj.cells (txA t) 25 (0, 0))] := EX8.out
  have hone := @EnvC.one _ _ _ hw10
  (refine wpG_op rfl rfl rfl ?_; intro K hK; go_big_quiet_op; go_big_quiet_on)
  (refine wpG_op rfl rfl rfl ?_; intro K hK; go_big_quiet_op; go_big_quiet_on)
  (refine wpG_op rfl rfl rfl ?_; intro K hK; go_big_quiet_op; go_big_quiet_on)
  (refine wpG_op rfl rfl rfl ?_; intro K hK; go_big_quiet_op; go_big_quiet_on)
  (refine wpG_op rfl rfl rfl ?_; intro K hK; go_big_quiet_op; go_big_quiet_on)
  (refine wpG_op rfl rfl rfl ?_; intro K hK; go_big_quiet_op; go_big_quiet_on)
  (refine wpG_op rfl rfl rfl ?_; intro K hK; go_big_quiet_op; go_big_quiet_on)
  (refine wpG_op rfl rfl rfl ?_; intro K hK; go_big_quiet_op; go_big_quiet_on)
  (refine wpG_op rfl rfl rfl ?_; intro K hK; go_big_quiet_op; go_big_quiet_on)
  (refine wpG_op rfl rfl rfl ?_; intro K hK; go_big_quiet_op; go_big_quiet_on)
  (refine wpG_op rfl rfl rfl ?_; intro K hK; go_big_quiet_op; go_big_quiet_on)
  (refine wpG_op rfl rfl rfl ?_; intro K hK; go_big_quiet_op; go_big_quiet_on)
  (refine wpG_op rfl rfl rfl ?_; intro K hK; go_big_quiet_op; go_big_quiet_on)
  (refine wpG_op rfl rfl rfl ?_; intro K hK; go_big_quiet_op; go_big_quiet_on)
  (refine wpG_op rfl rfl rfl ?_; intro K hK; go_big_quiet_op; go_big_quiet_on)
  (refine wpG_skip rfl rfl ?_ hw10; intro K hK; go_big_quiet_op; go_big_quiet_on)
  (refine wpG_skip rfl rfl ?_ hw10; intro K hK; go_big_quiet_op; go_big_quiet_on)
  (refine wpG_skip rfl rfl ?_ hw10; intro K hK; go_big_quiet_op; go_big_quiet_on)
  (refine wpG_op rfl rfl rfl ?_; intro K hK; go_big_quiet_op; go_big_quiet_on)
  clear hone hw10
  refine wpG_nil ?_
  intro u12 E2'
  have EX11 := Lib.hid E2'
  clear E2'
  have HBE := Lib.hid (HB1.out.trans ((EnvX.bel EX11.out).mono HB1.out.size))
  go_wp2
  go_ret
  exact ⟨rfl, HBE.out⟩
set_option maxRecDepth 20000 in
set_option maxHeartbeats 8000000 in
theorem law_tellsX_many (H : CoinC) (t s : TxM) (b : List Int) (l : List TxM) (A : Option Addr) (n c : Nat) (A3 : Option Addr) (n3 c3 : Nat) (w : World) (kt : TxOk w t) (ks : TxOk w s) (hl : b.length = n) (hnc : n ≤ c) (hcm : c ≤ maxLen) (hB : isB b) (hx : Bytes w w.heap.size A b) (hl3 : l.length = n3) (hnc3 : n3 ≤ c3) (hcm3 : c3 ≤ maxLen) (kl : TxsIn w A3 l) (ht : Tables w) (k1 : fewX t.r = true) (k2 : fewX s.r = true) (k3 : fewAll l 8 = true) (k4 : 400 < n) :
    Calls Tryd.prog 3 #[txV t, txV s, .slice A n c, .slice A3 n3 c3] w fun e w' => e = .returned (.bool true) ∧ Below w.heap.size w w' := by
  have HN63 : Hid (n < 9223372036854775808) := by show _ < _; unfold maxLen at hcm; omega
  have HM63 : Hid (n3 < 9223372036854775808) := by show _ < _; unfold maxLen at hcm3; omega
  have HL3 := Lib.hid (And.intro hl3 (And.intro hnc3 hcm3))
  have HF_t : Hid (fewX t.r = true) := k1
  have HF_s : Hid (fewX s.r = true) := k2
  have HF_l : Hid (fewAll l 8 = true) := k3
  have C17 : Hid (decide ((400 : Int) < (n : Int)) = true) := decide_eq_true (by omega)
  clear k1 k2 k3 k4
  have E0 : Hid (EnvX w ((w.alloc (.cells (txA t) 25)).alloc (.cells (txA s) 25)) [(w.heap.size + 1, Obj.cells (txA s) 25 (0, 0)), (w.heap.size, Obj.cells (txA t) 25 (0, 0))]) := (EnvX.start w).two _ _
  have HAW := Lib.hid (cawake_any H ((w.alloc (.cells (txA t) 25)).alloc (.cells (txA s) 25)) (ht.below (EnvX.bel E0.out)))
  have HT := Lib.hid ht
  have HH := Lib.hid H
  have J_kt := Lib.hid kt
  have J_ks := Lib.hid ks
  have J_hx := Lib.hid hx
  have J_kl := Lib.hid kl
  clear ht H kt ks hx kl hl hnc hcm hB hl3 hnc3 hcm3
  unfold txV
  go_enter Tryd.func3, Tryd.ntmps3
  go_upto_region 1 with (fail)
  generalize ((w.alloc (.cells (txA t) 25)).alloc (.cells (txA s) 25)) = W at *
  go_wp2_with fail
  refine HAW.out.mono ?_
  rintro e w1 ⟨rfl, hb1⟩
  have HB1 := Lib.hid (EnvX.below E0.out hb1).bel
  have E1 : Hid (EnvX w1 w1 [(w.heap.size + 1, Obj.cells (txA s) 25 (0, 0)), (w.heap.size, Obj.cells (txA t) 25 (0, 0))]) := ⟨Below.refl _ _, (EnvX.below E0.out hb1).box⟩
  have HT1 := Lib.hid (HT.out.below HB1.out)
  have K_kt := Lib.hid (J_kt.out.up HB1.out)
  have K_ks := Lib.hid (J_ks.out.up HB1.out)
  have K_hx := Lib.hid (J_hx.out.up HB1.out)
  have K_kl := Lib.hid (J_kl.out.up HB1.out)
  clear hb1 E0 HAW HT J_kt J_ks J_hx J_kl
  go_upto_region 2 with (fail)
  refine wp_region_Hx (w0 := w1) [0, 1, 2] [(w.heap.size + 1, Obj.cells (txA s) 25 (0, 0)), (w.heap.size, Obj.cells (txA t) 25 (0, 0))] rfl E1.out ?_
  refine lexH_phase [0, 1, 2] [] ?_
  have hw1 : EnvX w1 _ [(w.heap.size + 1, Obj.cells (txA s) 25 (0, 0)), (w.heap.size, Obj.cells (txA t) 25 (0, 0))] := E1.out
  have hone := @EnvC.one _ _ _ hw1
  (refine wpG_val (v := txV t) rfl rfl (fun u hu => load_any_op u (box_tx hu (List.Mem.tail _ (List.Mem.head _))) rfl) ?_ hw1; intro K hK; go_big_quiet_op; go_big_quiet_on)
  (refine wpG_call (f := 10) (args := #[txV t]) (v := .bool true) rfl rfl rfl Tryd.func10 rfl rfl (fun u hu => by have h1 := few_any t u (K_kt.out.up (EnvX.bel hu)); rwa [HF_t.out] at h1) ?_ hw1; intro K hK; go_big_quiet_op; go_big_quiet_on)
  (refine wpG_op rfl rfl rfl ?_; intro K hK; go_big_quiet_op; go_big_quiet_on)
  clear hone hw1
  refine wpG_nil ?_
  intro u3 E2'
  have EX2 := Lib.hid E2'
  clear E2'
  go_upto_region 3 with (fail)
  refine wp_region_Hx (w0 := w1) [0, 1, 2] [(w.heap.size + 1, Obj.cells (txA s) 25 (0, 0)), (w.heap.size, Obj.cells (txA t) 25 (0, 0))] rfl EX2.out ?_
  refine lexH_phase [0, 1, 2] [] ?_
  have hw4 : EnvX w1 _ [(w.heap.size + 1, Obj.cells (txA s) 25 (0, 0)), (w.heap.size, Obj.cells (txA t) 25 (0, 0))] := EX2.out
  have hone := @EnvC.one _ _ _ hw4
  (refine wpG_val (v := txV s) rfl rfl (fun u hu => load_any_op u (box_tx hu (List.Mem.head _)) rfl) ?_ hw4; intro K hK; go_big_quiet_op; go_big_quiet_on)
  (refine wpG_call (f := 10) (args := #[txV s]) (v := .bool true) rfl rfl rfl Tryd.func10 rfl rfl (fun u hu => by have h1 := few_any s u (K_ks.out.up (EnvX.bel hu)); rwa [HF_s.out] at h1) ?_ hw4; intro K hK; go_big_quiet_op; go_big_quiet_on)
  (refine wpG_op rfl rfl rfl ?_; intro K hK; go_big_quiet_op; go_big_quiet_on)
  clear hone hw4
  refine wpG_nil ?_
  intro u6 E2'
  have EX5 := Lib.hid E2'
  clear E2'
  go_upto_region 4 with (fail)
  refine wp_region_Hx (w0 := w1) [0, 1, 2] [(w.heap.size + 1, Obj.cells (txA s) 25 (0, 0)), (w.heap.size, Obj.cells (txA t) 25 (0, 0))] rfl EX5.out ?_
  refine lexH_phase [0, 1, 2] [] ?_
  have hw7 : EnvX w1 _ [(w.heap.size + 1, Obj.cells (txA s) 25 (0, 0)), (w.heap.size, Obj.cells (txA t) 25 (0, 0))] := EX5.out
  have hone := @EnvC.one _ _ _ hw7
  (refine wpG_op rfl rfl rfl ?_; intro K hK; go_big_quiet_op; go_big_quiet_on)
  (refine wpG_call (f := 11) (args := #[.slice A3 n3 c3, .int .i64 8]) (v := .bool true) rfl rfl rfl Tryd.func11 rfl rfl (fun u hu => by have h1 := fewall_any l 8 A3 n3 c3 u HL3.out.1 HM63.out (K_kl.out.up (EnvX.bel hu)); rwa [HF_l.out] at h1) ?_ hw7; intro K hK; go_big_quiet_op; go_big_quiet_on)
  (refine wpG_op rfl rfl rfl ?_; intro K hK; go_big_quiet_op; go_big_quiet_on)
  clear hone hw7
  refine wpG_nil ?_
  intro u9 E2'
  have EX8 := Lib.hid E2'
  clear E2'
  go_upto_region 5 with (fail)
  refine wp_region_Hx (w0 := w1) [0, 1, 2, 3, 4, 5, 6, 7, 8, 9, 10, 11, 12, 13, 14, 15, 16, 17, 18] [(w.heap.size + 1, Obj.cells (txA s) 25 (0, 0)), (w.heap.size, Obj.cells (txA t) 25 (0, 0))] rfl EX8.out ?_
  refine lexH_phase [0, 1, 2, 3, 4, 5, 6, 7, 8, 9, 10, 11, 12, 13, 14, 15, 16, 17, 18] [] ?_
  have hw10 : EnvX w1 _ [(w.heap.size + 1, Obj.cells (txA s) 25 (0, 0)), (w.heap.size, Obj.cells (txA t) 25 (0, 0))] := EX8.out
  have hone := @EnvC.one _ _ _ hw10
  (refine wpG_op rfl rfl rfl ?_; intro K hK; go_big_quiet_op; go_big_quiet_on)
  (refine wpG_op rfl rfl rfl ?_; intro K hK; go_big_quiet_op; go_big_quiet_on)
  (refine wpG_op rfl rfl rfl ?_; intro K hK; go_big_quiet_op; go_big_quiet_on)
  (refine wpG_op rfl rfl rfl ?_; intro K hK; go_big_quiet_op; go_big_quiet_on)
  (refine wpG_op rfl rfl rfl ?_; intro K hK; go_big_quiet_op; go_big_quiet_on)
  (refine wpG_op rfl rfl rfl ?_; intro K hK; go_big_quiet_op; go_big_quiet_on)
  (refine wpG_op rfl rfl rfl ?_; intro K hK; go_big_quiet_op; go_big_quiet_on)
  (refine wpG_op rfl rfl rfl ?_; intro K hK; go_big_quiet_op; go_big_quiet_on)
  (refine wpG_op rfl rfl rfl ?_; intro K hK; go_big_quiet_op; go_big_quiet_on)
  (refine wpG_op rfl rfl rfl ?_; intro K hK; go_big_quiet_op; go_big_quiet_on)
  (refine wpG_op rfl rfl rfl ?_; intro K hK; go_big_quiet_op; go_big_quiet_on)
  (refine wpG_op rfl rfl rfl ?_; intro K hK; go_big_quiet_op; go_big_quiet_on)
  (refine wpG_op rfl rfl rfl ?_; intro K hK; go_big_quiet_op; go_big_quiet_on)
  (refine wpG_op rfl rfl rfl ?_; intro K hK; go_big_quiet_op; go_big_quiet_on)
  (refine wpG_op rfl rfl rfl ?_; intro K hK; go_big_quiet_op; go_big_quiet_on)
  (refine wpG_op rfl rfl rfl ?_; intro K hK; go_big_quiet_op; go_big_quiet_on)
  (refine wpG_val (v := .int .i64 (n : Int)) rfl rfl (fun u hu => len_op Tryd.underlying26 HN63.out u rfl) ?_ hw10; intro K hK; go_big_quiet_op; go_big_quiet_on)
  (refine wpG_val (v := .bool true) rfl rfl (fun u hu => gtZ_op u C17.out rfl rfl) ?_ hw10; intro K hK; go_big_quiet_op; go_big_quiet_on)
  (refine wpG_op rfl rfl rfl ?_; intro K hK; go_big_quiet_op; go_big_quiet_on)
  clear hone hw10
  refine wpG_nil ?_
  intro u12 E2'
  have EX11 := Lib.hid E2'
  clear E2'
  have HBE := Lib.hid (HB1.out.trans ((EnvX.bel EX11.out).mono HB1.out.size))
  go_wp2
  go_ret
  exact ⟨rfl, HBE.out⟩
theorem rmayX_all (t : TxM) (w : World) (ht : TxOk w t) : Calls Tryd.prog 17 #[txV t] w fun e w' => e = .returned (.bool (mayX t.r)) ∧ Below w.heap.size w w' := by
  obtain ⟨r, A1, n1, c1, A2, n2, c2⟩ := t
  exact rmayX_any r A1 n1 c1 A2 n2 c2 w ht
theorem rsameX_all (t s : TxM) (w : World) (ht : TxOk w t) (hs : TxOk w s) : Calls Tryd.prog 16 #[txV t, txV s] w fun e w' => e = .returned (.bool (sameX t.r s.r)) ∧ Below w.heap.size w w' := by
  obtain ⟨r, A1, n1, c1, A2, n2, c2⟩ := t
  obtain ⟨q, B1, m1, d1, B2, m2, d2⟩ := s
  exact rsameX_any r A1 n1 c1 A2 n2 c2 q B1 m1 d1 B2 m2 d2 w ht hs
set_option maxRecDepth 20000 in
set_option maxHeartbeats 8000000 in
theorem law_tellsX_main (H : CoinC) (t s : TxM) (b : List Int) (l : List TxM) (A : Option Addr) (n c : Nat) (A3 : Option Addr) (n3 c3 : Nat) (w : World) (kt : TxOk w t) (ks : TxOk w s) (hl : b.length = n) (hnc : n ≤ c) (hcm : c ≤ maxLen) (hB : isB b) (hx : Bytes w w.heap.size A b) (hl3 : l.length = n3) (hnc3 : n3 ≤ c3) (hcm3 : c3 ≤ maxLen) (kl : TxsIn w A3 l) (ht : Tables w) (k1 : fewX t.r = true) (k2 : fewX s.r = true) (k3 : fewAll l 8 = true) (k4 : n ≤ 400) :
    Calls Tryd.prog 3 #[txV t, txV s, .slice A n c, .slice A3 n3 c3] w fun e w' => e = .returned (.bool true) ∧ Below w.heap.size w w' := by
  have HN63 : Hid (n < 9223372036854775808) := by show _ < _; unfold maxLen at hcm; omega
  have HM63 : Hid (n3 < 9223372036854775808) := by show _ < _; unfold maxLen at hcm3; omega
  have HL3 := Lib.hid (And.intro hl3 (And.intro hnc3 hcm3))
  have HF_t : Hid (fewX t.r = true) := k1
  have HF_s : Hid (fewX s.r = true) := k2
  have HF_l : Hid (fewAll l 8 = true) := k3
  have C17 : Hid (decide ((400 : Int) < (n : Int)) = false) := decide_eq_false (by omega)
  have HBM := Lib.hid (And.intro hl (And.intro hnc (And.intro hcm hB)))
  have HN1 := Lib.hid k4
  have HLN : Hid (n3 ≤ 1000000) := by show _ ≤ _; have := fewAll_len k3; omega
  have HXS := Lib.hid (putX_byte kt.ok)
  have HIL : Hid ((idX t.r).length = 32) := (idX_id _).1
  have HRI : Hid (isId (rootT (idsX (rsT l)))) := root_id (idsX_ids _)
  clear k1 k2 k3 k4
  have E0 : Hid (EnvX w ((w.alloc (.cells (txA t) 25)).alloc (.cells (txA s) 25)) [(w.heap.size + 1, Obj.cells (txA s) 25 (0, 0)), (w.heap.size, Obj.cells (txA t) 25 (0, 0))]) := (EnvX.start w).two _ _
  have HAW := Lib.hid (cawake_any H ((w.alloc (.cells (txA t) 25)).alloc (.cells (txA s) 25)) (ht.below (EnvX.bel E0.out)))
  have HT := Lib.hid ht
  have HH := Lib.hid H
  have J_kt := Lib.hid kt
  have J_ks := Lib.hid ks
  have J_hx := Lib.hid hx
  have J_kl := Lib.hid kl
  clear ht H kt ks hx kl hl hnc hcm hB hl3 hnc3 hcm3
  unfold txV
  go_enter Tryd.func3, Tryd.ntmps3
  go_upto_region 1 with (fail)
  generalize ((w.alloc (.cells (txA t) 25)).alloc (.cells (txA s) 25)) = W at *
  go_wp2_with fail
  refine HAW.out.mono ?_
  rintro e w1 ⟨rfl, hb1⟩
  have HB1 := Lib.hid (EnvX.below E0.out hb1).bel
  have E1 : Hid (EnvX w1 w1 [(w.heap.size + 1, Obj.cells (txA s) 25 (0, 0)), (w.heap.size, Obj.cells (txA t) 25 (0, 0))]) := ⟨Below.refl _ _, (EnvX.below E0.out hb1).box⟩
  have HT1 := Lib.hid (HT.out.below HB1.out)
  have K_kt := Lib.hid (J_kt.out.up HB1.out)
  have K_ks := Lib.hid (J_ks.out.up HB1.out)
  have K_hx := Lib.hid (J_hx.out.up HB1.out)
  have K_kl := Lib.hid (J_kl.out.up HB1.out)
  clear hb1 E0 HAW HT J_kt J_ks J_hx J_kl
  go_upto_region 2 with (fail)
  refine wp_region_Hx (w0 := w1) [0, 1, 2] [(w.heap.size + 1, Obj.cells (txA s) 25 (0, 0)), (w.heap.size, Obj.cells (txA t) 25 (0, 0))] rfl E1.out ?_
  refine lexH_phase [0, 1, 2] [] ?_
  have hw1 : EnvX w1 _ [(w.heap.size + 1, Obj.cells (txA s) 25 (0, 0)), (w.heap.size, Obj.cells (txA t) 25 (0, 0))] := E1.out
  have hone := @EnvC.one _ _ _ hw1
  (refine wpG_val (v := txV t) rfl rfl (fun u hu => load_any_op u (box_tx hu (List.Mem.tail _ (List.Mem.head _))) rfl) ?_ hw1; intro K hK; go_big_quiet_op; go_big_quiet_on)
  (refine wpG_call (f := 10) (args := #[txV t]) (v := .bool true) rfl rfl rfl Tryd.func10 rfl rfl (fun u hu => by have h1 := few_any t u (K_kt.out.up (EnvX.bel hu)); rwa [HF_t.out] at h1) ?_ hw1; intro K hK; go_big_quiet_op; go_big_quiet_on)
  (refine wpG_op rfl rfl rfl ?_; intro K hK; go_big_quiet_op; go_big_quiet_on)
  clear hone hw1
  refine wpG_nil ?_
  intro u3 E2'
  have EX2 := Lib.hid E2'
  clear E2'
  go_upto_region 3 with (fail)
  refine wp_region_Hx (w0 := w1) [0, 1, 2] [(w.heap.size + 1, Obj.cells (txA s) 25 (0, 0)), (w.heap.size, Obj.cells (txA t) 25 (0, 0))] rfl EX2.out ?_
  refine lexH_phase [0, 1, 2] [] ?_
  have hw4 : EnvX w1 _ [(w.heap.size + 1, Obj.cells (txA s) 25 (0, 0)), (w.heap.size, Obj.cells (txA t) 25 (0, 0))] := EX2.out
  have hone := @EnvC.one _ _ _ hw4
  (refine wpG_val (v := txV s) rfl rfl (fun u hu => load_any_op u (box_tx hu (List.Mem.head _)) rfl) ?_ hw4; intro K hK; go_big_quiet_op; go_big_quiet_on)
  (refine wpG_call (f := 10) (args := #[txV s]) (v := .bool true) rfl rfl rfl Tryd.func10 rfl rfl (fun u hu => by have h1 := few_any s u (K_ks.out.up (EnvX.bel hu)); rwa [HF_s.out] at h1) ?_ hw4; intro K hK; go_big_quiet_op; go_big_quiet_on)
  (refine wpG_op rfl rfl rfl ?_; intro K hK; go_big_quiet_op; go_big_quiet_on)
  clear hone hw4
  refine wpG_nil ?_
  intro u6 E2'
  have EX5 := Lib.hid E2'
  clear E2'
  go_upto_region 4 with (fail)
  refine wp_region_Hx (w0 := w1) [0, 1, 2] [(w.heap.size + 1, Obj.cells (txA s) 25 (0, 0)), (w.heap.size, Obj.cells (txA t) 25 (0, 0))] rfl EX5.out ?_
  refine lexH_phase [0, 1, 2] [] ?_
  have hw7 : EnvX w1 _ [(w.heap.size + 1, Obj.cells (txA s) 25 (0, 0)), (w.heap.size, Obj.cells (txA t) 25 (0, 0))] := EX5.out
  have hone := @EnvC.one _ _ _ hw7
  (refine wpG_op rfl rfl rfl ?_; intro K hK; go_big_quiet_op; go_big_quiet_on)
  (refine wpG_call (f := 11) (args := #[.slice A3 n3 c3, .int .i64 8]) (v := .bool true) rfl rfl rfl Tryd.func11 rfl rfl (fun u hu => by have h1 := fewall_any l 8 A3 n3 c3 u HL3.out.1 HM63.out (K_kl.out.up (EnvX.bel hu)); rwa [HF_l.out] at h1) ?_ hw7; intro K hK; go_big_quiet_op; go_big_quiet_on)
  (refine wpG_op rfl rfl rfl ?_; intro K hK; go_big_quiet_op; go_big_quiet_on)
  clear hone hw7
  refine wpG_nil ?_
  intro u9 E2'
  have EX8 := Lib.hid E2'
  clear E2'
  go_upto_region 5 with (fail)
  refine wp_region_Hx (w0 := w1) [0, 1, 2, 3, 4, 5, 6, 7, 8, 9, 10, 11, 12, 13, 14, 15, 16, 17, 18] [(w.heap.size + 1, Obj.cells (txA s) 25 (0, 0)), (w.heap.size, Obj.cells (txA t) 25 (0, 0))] rfl EX8.out ?_
  refine lexH_phase [0, 1, 2, 3, 4, 5, 6, 7, 8, 9, 10, 11, 12, 13, 14, 15, 16, 17, 18] [] ?_
  have hw10 : EnvX w1 _ [(w.heap.size + 1, Obj.cells (txA s) 25 (0, 0)), (w.heap.size, Obj.cells (txA t) 25 (0, 0))] := EX8.out
  have hone := @EnvC.one _ _ _ hw10
  (refine wpG_op rfl rfl rfl ?_; intro K hK; go_big_quiet_op; go_big_quiet_on)
  (refine wpG_op rfl rfl rfl ?_; intro K hK; go_big_quiet_op; go_big_quiet_on)
  (refine wpG_op rfl rfl rfl ?_; intro K hK; go_big_quiet_op; go_big_quiet_on)
  (refine wpG_op rfl rfl rfl ?_; intro K hK; go_big_quiet_op; go_big_quiet_on)
  (refine wpG_op rfl rfl rfl ?_; intro K hK; go_big_quiet_op; go_big_quiet_on)
  (refine wpG_op rfl rfl rfl ?_; intro K hK; go_big_quiet_op; go_big_quiet_on)
  (refine wpG_op rfl rfl rfl ?_; intro K hK; go_big_quiet_op; go_big_quiet_on)
  (refine wpG_op rfl rfl rfl ?_; intro K hK; go_big_quiet_op; go_big_quiet_on)
  (refine wpG_op rfl rfl rfl ?_; intro K hK; go_big_quiet_op; go_big_quiet_on)
  (refine wpG_op rfl rfl rfl ?_; intro K hK; go_big_quiet_op; go_big_quiet_on)
  (refine wpG_op rfl rfl rfl ?_; intro K hK; go_big_quiet_op; go_big_quiet_on)
  (refine wpG_op rfl rfl rfl ?_; intro K hK; go_big_quiet_op; go_big_quiet_on)
  (refine wpG_op rfl rfl rfl ?_; intro K hK; go_big_quiet_op; go_big_quiet_on)
  (refine wpG_op rfl rfl rfl ?_; intro K hK; go_big_quiet_op; go_big_quiet_on)
  (refine wpG_op rfl rfl rfl ?_; intro K hK; go_big_quiet_op; go_big_quiet_on)
  (refine wpG_op rfl rfl rfl ?_; intro K hK; go_big_quiet_op; go_big_quiet_on)
  (refine wpG_val (v := .int .i64 (n : Int)) rfl rfl (fun u hu => len_op Tryd.underlying26 HN63.out u rfl) ?_ hw10; intro K hK; go_big_quiet_op; go_big_quiet_on)
  (refine wpG_val (v := .bool false) rfl rfl (fun u hu => gtZ_op u C17.out rfl rfl) ?_ hw10; intro K hK; go_big_quiet_op; go_big_quiet_on)
  (refine wpG_op rfl rfl rfl ?_; intro K hK; go_big_quiet_op; go_big_quiet_on)
  clear hone hw10
  refine wpG_nil ?_
  intro u12 E2'
  have EX11 := Lib.hid E2'
  clear E2'
  obtain ⟨pb, hpb⟩ : ∃ pb, (putX t.r).2 = pb := ⟨_, rfl⟩
  have HP_t := Lib.hid hpb
  clear hpb
  have HLD : Hid ((loadVar 25 ⟨w.heap.size, 0, none⟩).run Tryd.prog u12 = .ok (.agg (txA t)) u12) := box_tx EX11.out (List.Mem.tail _ (List.Mem.head _))
  have HPT : Hid (Calls Tryd.prog 12 #[.agg (txA t)] u12 fun e w' => (∃ v, e = .returned (.tuple #[v, .bool pb]) ∧ OwnB w' u12.heap.size v (putX t.r).1) ∧ Below u12.heap.size u12 w') := by
    have h1 := HH.out.put t u12 (K_kt.out.up EX11.out.bel) (HT1.out.below (EnvX.bel EX11.out))
    rwa [HP_t.out] at h1
  go_upto_region 7 with (fail)
  go_wp2_with ((with_reducible refine wpList_load_run (o := ⟨some 52, _, _, _, _, _⟩) ?_ 25 (.tmp 4) ?_ ⟨w.heap.size, 0, none⟩ ?_ HLD.out ?_); (rfl); (rfl); (rfl))
  refine HPT.out.mono ?_
  rintro e w2 ⟨⟨v7, rfl, hv⟩, hb⟩
  obtain ⟨Ap, cp, rfl⟩ := hv.form
  have HB_xs := Lib.hid hv.bytes.2
  have HC_xs := Lib.hid hv.cap
  have hbb := (EnvX.below EX11.out hb).bel
  have E2 : Hid (EnvX w2 w2 [(w.heap.size + 1, Obj.cells (txA s) 25 (0, 0)), (w.heap.size, Obj.cells (txA t) 25 (0, 0))]) := ⟨Below.refl _ _, (EnvX.below EX11.out hb).box⟩
  have HB2 := Lib.hid (HB1.out.trans (hbb.mono HB1.out.size))
  have HT2 := Lib.hid (HT1.out.below hbb)
  have K_kt := Lib.hid (K_kt.out.up hbb)
  have K_ks := Lib.hid (K_ks.out.up hbb)
  have K_hx := Lib.hid (K_hx.out.up hbb)
  have K_kl := Lib.hid (K_kl.out.up hbb)
  clear hv hb HLD HPT hbb EX11
  obtain ⟨np, hnp⟩ : ∃ np, (putX t.r).1.length = np := ⟨_, rfl⟩
  obtain ⟨xs, hxs⟩ : ∃ xs, (putX t.r).1 = xs := ⟨_, rfl⟩
  have HN_xs := Lib.hid hnp
  have HX_xs := Lib.hid hxs
  rw [hnp] at HC_xs ⊢
  rw [hxs] at HB_xs HN_xs
  clear hnp hxs
  have HLD : Hid ((loadVar 25 ⟨w.heap.size, 0, none⟩).run Tryd.prog w2 = .ok (.agg (txA t)) w2) := box_tx E2.out (List.Mem.tail _ (List.Mem.head _))
  have HPT : Hid (Calls Tryd.prog 13 #[.agg (txA t)] w2 fun e w' => (∃ v, e = .returned (.tuple #[v, .bool pb]) ∧ OwnB w' w2.heap.size v (putX t.r).1) ∧ Below w2.heap.size w2 w') := by
    have h1 := rputX_any t w2 K_kt.out
    rwa [HP_t.out] at h1
  go_upto_region 8 with (fail)
  go_wp2_with ((with_reducible refine wpList_load_run (o := ⟨some 57, _, _, _, _, _⟩) ?_ 25 (.tmp 4) ?_ ⟨w.heap.size, 0, none⟩ ?_ HLD.out ?_); (rfl); (rfl); (rfl))
  refine HPT.out.mono ?_
  rintro e w3 ⟨⟨v8, rfl, hv⟩, hb⟩
  obtain ⟨Aq, cq, rfl⟩ := hv.form
  have HB_ys := Lib.hid hv.bytes.2
  have HC_ys := Lib.hid hv.cap
  have hbb := (EnvX.below E2.out hb).bel
  have E3 : Hid (EnvX w3 w3 [(w.heap.size + 1, Obj.cells (txA s) 25 (0, 0)), (w.heap.size, Obj.cells (txA t) 25 (0, 0))]) := ⟨Below.refl _ _, (EnvX.below E2.out hb).box⟩
  have HB3 := Lib.hid (HB2.out.trans (hbb.mono HB2.out.size))
  have HT3 := Lib.hid (HT2.out.below hbb)
  have K_kt := Lib.hid (K_kt.out.up hbb)
  have K_ks := Lib.hid (K_ks.out.up hbb)
  have K_hx := Lib.hid (K_hx.out.up hbb)
  have K_kl := Lib.hid (K_kl.out.up hbb)
  have HB_xs := Lib.hid (HB_xs.out.up hbb)
  clear hv hb HLD HPT hbb E2
  obtain ⟨nq, hnp⟩ : ∃ np, (putX t.r).1.length = np := ⟨_, rfl⟩
  obtain ⟨ys, hxs⟩ : ∃ xs, (putX t.r).1 = xs := ⟨_, rfl⟩
  have HN_ys := Lib.hid hnp
  have HX_ys := Lib.hid hxs
  rw [hnp] at HC_ys ⊢
  rw [hxs] at HB_ys HN_ys
  clear hnp hxs
  have HXY : Hid (xs = ys) := HX_xs.out.symm.trans HX_ys.out
  rw [HX_xs.out] at HXS
  obtain ⟨rb, hrb⟩ : ∃ rb, (readX b).2 = rb := ⟨_, rfl⟩
  have HRB := Lib.hid hrb
  clear hrb
  go_upto_region 9 with (fail)
  have HRC := Lib.hid (show Calls Tryd.prog 14 #[.slice A n c] w3 fun e w' => (∃ t_1 : TxM, e = .returned (.tuple #[txV t_1, .bool rb]) ∧ t_1.r = (readX b).1 ∧ TxOk w' t_1) ∧ Below w3.heap.size w3 w' from by
      have h1 := HH.out.read A n c b w3 HBM.out.1 (by have := HN1.out; omega) HBM.out.2.1 HBM.out.2.2.1 HBM.out.2.2.2 K_hx.out HT3.out
      rwa [HRB.out] at h1)
  go_wp2_with fail
  refine HRC.out.mono ?_
  rintro e w4 ⟨⟨xr, rfl, hr0, hk0⟩, hb⟩
  have HR_xr := Lib.hid hr0
  have K_xr := Lib.hid hk0
  have hbb := (EnvX.below E3.out hb).bel
  have E4 : Hid (EnvX w4 w4 [(w.heap.size + 1, Obj.cells (txA s) 25 (0, 0)), (w.heap.size, Obj.cells (txA t) 25 (0, 0))]) := ⟨Below.refl _ _, (EnvX.below E3.out hb).box⟩
  have HB4 := Lib.hid (HB3.out.trans (hbb.mono HB3.out.size))
  have HT4 := Lib.hid (HT3.out.below hbb)
  have K_kt := Lib.hid (K_kt.out.up hbb)
  have K_ks := Lib.hid (K_ks.out.up hbb)
  have K_hx := Lib.hid (K_hx.out.up hbb)
  have K_kl := Lib.hid (K_kl.out.up hbb)
  have HB_xs := Lib.hid (HB_xs.out.up hbb)
  have HB_ys := Lib.hid (HB_ys.out.up hbb)
  clear hr0 hk0 hb hbb E3 HRC
  have E4b : Hid (EnvX w4 (w4.alloc (.cells (txA xr) 25)) ((w4.heap.size, Obj.cells (txA xr) 25 (0, 0)) :: [(w.heap.size + 1, Obj.cells (txA s) 25 (0, 0)), (w.heap.size, Obj.cells (txA t) 25 (0, 0))])) := EnvX.new E4.out _
  unfold txV
  go_upto_region 10 with ((with_reducible refine wpList_store_row (o := ⟨none, .store 25 _ _, _, _, _, _⟩) ?_ 25 (.tmp 17) (.tmp 64) ?_ w4.heap.size (txA xr) ?_ ?_ 25 _ (heap_alloc_last w4 _) (infoTx _ rfl) ?_ (txA_one _) ?_); (rfl); (rfl); (rfl); (rfl); (rfl); rw [World.setRow_alloc_new])
  clear E4
  go_upto_region 10 with (fail)
  have HRC := Lib.hid (show Calls Tryd.prog 15 #[.slice A n c] (w4.alloc (.cells (txA xr) 25)) fun e w' => (∃ t_1 : TxM, e = .returned (.tuple #[txV t_1, .bool rb]) ∧ t_1.r = (readX b).1 ∧ TxOk w' t_1) ∧ Below (w4.alloc (.cells (txA xr) 25)).heap.size (w4.alloc (.cells (txA xr) 25)) w' from by
      have h1 := rreadX_any A n c b (w4.alloc (.cells (txA xr) 25)) HBM.out.1 (by have := HN1.out; omega) HBM.out.2.1 HBM.out.2.2.1 HBM.out.2.2.2 (K_hx.out.up (EnvX.bel E4b.out))
      rwa [HRB.out] at h1)
  go_wp2_with fail
  refine HRC.out.mono ?_
  rintro e w5 ⟨⟨yr, rfl, hr0, hk0⟩, hb⟩
  have HR_yr := Lib.hid hr0
  have K_yr := Lib.hid hk0
  have hbb := (EnvX.below E4b.out hb).bel
  have E5 : Hid (EnvX w5 w5 [(w4.heap.size, Obj.cells (txA xr) 25 (0, 0)), (w.heap.size + 1, Obj.cells (txA s) 25 (0, 0)), (w.heap.size, Obj.cells (txA t) 25 (0, 0))]) := ⟨Below.refl _ _, (EnvX.below E4b.out hb).box⟩
  have HB5 := Lib.hid (HB4.out.trans (hbb.mono HB4.out.size))
  have HT5 := Lib.hid (HT4.out.below hbb)
  have K_kt := Lib.hid (K_kt.out.up hbb)
  have K_ks := Lib.hid (K_ks.out.up hbb)
  have K_hx := Lib.hid (K_hx.out.up hbb)
  have K_kl := Lib.hid (K_kl.out.up hbb)
  have HB_xs := Lib.hid (HB_xs.out.up hbb)
  have HB_ys := Lib.hid (HB_ys.out.up hbb)
  have K_xr := Lib.hid (K_xr.out.up hbb)
  clear hr0 hk0 hb hbb E4b HRC
  have E5b : Hid (EnvX w5 (w5.alloc (.cells (txA yr) 25)) ((w5.heap.size, Obj.cells (txA yr) 25 (0, 0)) :: [(w4.heap.size, Obj.cells (txA xr) 25 (0, 0)), (w.heap.size + 1, Obj.cells (txA s) 25 (0, 0)), (w.heap.size, Obj.cells (txA t) 25 (0, 0))])) := EnvX.new E5.out _
  unfold txV
  go_upto_region 11 with ((with_reducible refine wpList_store_row (o := ⟨none, .store 25 _ _, _, _, _, _⟩) ?_ 25 (.tmp 19) (.tmp 69) ?_ w5.heap.size (txA yr) ?_ ?_ 25 _ (heap_alloc_last w5 _) (infoTx _ rfl) ?_ (txA_one _) ?_); (rfl); (rfl); (rfl); (rfl); (rfl); rw [World.setRow_alloc_new])
  clear E5
  obtain ⟨s0, hs0⟩ : ∃ s, strOfNums xs = s := ⟨_, rfl⟩
  have HS0 := Lib.hid hs0
  have HS1 : Hid (strOfNums ys = s0) := by rw [← HXY.out]; exact hs0
  have HES : Hid ((!(s0.toList == s0.toList)) = false) := by show _ = _; simp
  have HNB : Hid (∀ b : Bool, (b != b) = false) := fun b => by cases b <;> rfl
  clear hs0
  go_upto_region 11 with (fail)
  refine wp_region_Hx (w0 := w5) [0, 1, 2, 3] [(w5.heap.size, Obj.cells (txA yr) 25 (0, 0)), (w4.heap.size, Obj.cells (txA xr) 25 (0, 0)), (w.heap.size + 1, Obj.cells (txA s) 25 (0, 0)), (w.heap.size, Obj.cells (txA t) 25 (0, 0))] rfl E5b.out ?_
  refine lexH_phase [0, 1, 2, 3] [] ?_
  have hw1201 : EnvX w5 _ [(w5.heap.size, Obj.cells (txA yr) 25 (0, 0)), (w4.heap.size, Obj.cells (txA xr) 25 (0, 0)), (w.heap.size + 1, Obj.cells (txA s) 25 (0, 0)), (w.heap.size, Obj.cells (txA t) 25 (0, 0))] := E5b.out
  have hone := @EnvC.one _ _ _ hw1201
  (refine wpG_val (v := txV xr) rfl rfl (fun u hu => load_any_op u (box_tx hu (List.Mem.tail _ (List.Mem.head _))) rfl) ?_ hw1201; intro K hK; go_big_quiet_op; go_big_quiet_on)
  (refine wpG_val (v := txV yr) rfl rfl (fun u hu => load_any_op u (box_tx hu (List.Mem.head _)) rfl) ?_ hw1201; intro K hK; go_big_quiet_op; go_big_quiet_on)
  (refine wpG_call (f := 16) (args := #[txV xr, txV yr]) (v := .bool true) rfl rfl rfl Tryd.func16 rfl rfl (fun u hu => by have h1 := rsameX_all xr yr u (K_xr.out.up (EnvX.bel hu)) (K_yr.out.up (EnvX.bel hu)); rwa [show sameX xr.r yr.r = true by rw [HR_xr.out, HR_yr.out]; exact decide_eq_true rfl] at h1) ?_ hw1201; intro K hK; go_big_quiet_op; go_big_quiet_on)
  (refine wpG_op rfl rfl rfl ?_; intro K hK; go_big_quiet_op; go_big_quiet_on)
  clear hone hw1201
  refine wpG_nil ?_
  intro u1203 E2'
  have EX1202 := Lib.hid E2'
  clear E2'
  go_upto_region 12 with (fail)
  refine wp_region_Hx (w0 := w5) [0, 1, 2] [(w5.heap.size, Obj.cells (txA yr) 25 (0, 0)), (w4.heap.size, Obj.cells (txA xr) 25 (0, 0)), (w.heap.size + 1, Obj.cells (txA s) 25 (0, 0)), (w.heap.size, Obj.cells (txA t) 25 (0, 0))] rfl EX1202.out ?_
  refine lexH_phase [0, 1, 2] [] ?_
  have hw1204 : EnvX w5 _ [(w5.heap.size, Obj.cells (txA yr) 25 (0, 0)), (w4.heap.size, Obj.cells (txA xr) 25 (0, 0)), (w.heap.size + 1, Obj.cells (txA s) 25 (0, 0)), (w.heap.size, Obj.cells (txA t) 25 (0, 0))] := EX1202.out
  have hone := @EnvC.one _ _ _ hw1204
  (refine wpG_val (v := txV t) rfl rfl (fun u hu => load_any_op u (box_tx hu (List.Mem.tail _ (List.Mem.tail _ (List.Mem.tail _ (List.Mem.head _))))) rfl) ?_ hw1204; intro K hK; go_big_quiet_op; go_big_quiet_on)
  (refine wpG_call (f := 17) (args := #[txV t]) (v := .bool (mayX t.r)) rfl rfl rfl Tryd.func17 rfl rfl (fun u hu => rmayX_all t u (K_kt.out.up (EnvX.bel hu))) ?_ hw1204; intro K hK; go_big_quiet_op; go_big_quiet_on)
  (refine wpG_op rfl rfl rfl ?_; intro K hK; go_big_quiet_op; go_big_quiet_on)
  clear hone hw1204
  refine wpG_nil ?_
  intro u1206 E2'
  have EX1205 := Lib.hid E2'
  clear E2'
  go_upto_region 13 with (fail)
  refine wp_region_Hx (w0 := w5) [0, 1, 2, 3] [(w5.heap.size, Obj.cells (txA yr) 25 (0, 0)), (w4.heap.size, Obj.cells (txA xr) 25 (0, 0)), (w.heap.size + 1, Obj.cells (txA s) 25 (0, 0)), (w.heap.size, Obj.cells (txA t) 25 (0, 0))] rfl EX1205.out ?_
  refine lexH_phase [0, 1, 2, 3] [] ?_
  have hw1207 : EnvX w5 _ [(w5.heap.size, Obj.cells (txA yr) 25 (0, 0)), (w4.heap.size, Obj.cells (txA xr) 25 (0, 0)), (w.heap.size + 1, Obj.cells (txA s) 25 (0, 0)), (w.heap.size, Obj.cells (txA t) 25 (0, 0))] := EX1205.out
  have hone := @EnvC.one _ _ _ hw1207
  (refine wpG_val (v := txV t) rfl rfl (fun u hu => load_any_op u (box_tx hu (List.Mem.tail _ (List.Mem.tail _ (List.Mem.tail _ (List.Mem.head _))))) rfl) ?_ hw1207; intro K hK; go_big_quiet_op; go_big_quiet_on)
  (refine wpG_val (v := txV s) rfl rfl (fun u hu => load_any_op u (box_tx hu (List.Mem.tail _ (List.Mem.tail _ (List.Mem.head _)))) rfl) ?_ hw1207; intro K hK; go_big_quiet_op; go_big_quiet_on)
  (refine wpG_call (f := 16) (args := #[txV t, txV s]) (v := .bool (sameX t.r s.r)) rfl rfl rfl Tryd.func16 rfl rfl (fun u hu => rsameX_all t s u (K_kt.out.up (EnvX.bel hu)) (K_ks.out.up (EnvX.bel hu))) ?_ hw1207; intro K hK; go_big_quiet_op; go_big_quiet_on)
  (refine wpG_op rfl rfl rfl ?_; intro K hK; go_big_quiet_op; go_big_quiet_on)
  clear hone hw1207
  refine wpG_nil ?_
  intro u1209 E2'
  have EX1208 := Lib.hid E2'
  clear E2'
  go_upto_region 14 with (fail)
  refine wp_region_Hx (w0 := w5) [0, 1, 2, 3, 4, 5, 6, 7, 8, 9, 10, 11, 12, 13, 14, 15, 16, 17, 18, 19, 20, 21, 22, 23, 24, 25, 26, 27, 28, 29, 30, 31] [(w5.heap.size, Obj.cells (txA yr) 25 (0, 0)), (w4.heap.size, Obj.cells (txA xr) 25 (0, 0)), (w.heap.size + 1, Obj.cells (txA s) 25 (0, 0)), (w.heap.size, Obj.cells (txA t) 25 (0, 0))] rfl EX1208.out ?_
  refine lexH_phase [0, 1, 2, 3, 4, 5, 6, 7, 8, 9, 10, 11, 12, 13, 14, 15, 16, 17, 18, 19, 20, 21, 22, 23, 24, 25, 26, 27, 28, 29, 30, 31] [] ?_
  have hw1210 : EnvX w5 _ [(w5.heap.size, Obj.cells (txA yr) 25 (0, 0)), (w4.heap.size, Obj.cells (txA xr) 25 (0, 0)), (w.heap.size + 1, Obj.cells (txA s) 25 (0, 0)), (w.heap.size, Obj.cells (txA t) 25 (0, 0))] := EX1208.out
  have hone := @EnvC.one _ _ _ hw1210
  (refine wpG_op rfl rfl rfl ?_; intro K hK; go_big_quiet_op; go_big_quiet_on)
  (refine wpG_val (v := .string s0) rfl rfl (fun u hu => conv_op u HN_xs.out (HB_xs.out.up (EnvX.bel hu)) HS0.out rfl) ?_ hw1210; intro K hK; go_big_quiet_op; go_big_quiet_on)
  (refine wpG_op rfl rfl rfl ?_; intro K hK; go_big_quiet_op; go_big_quiet_on)
  (refine wpG_val (v := .string s0) rfl rfl (fun u hu => conv_op u HN_ys.out (HB_ys.out.up (EnvX.bel hu)) HS1.out rfl) ?_ hw1210; intro K hK; go_big_quiet_op; go_big_quiet_on)
  (refine wpG_val (v := .bool false) rfl rfl (fun u hu => nes_op u HES.out rfl rfl) ?_ hw1210; intro K hK; go_big_quiet_op; go_big_quiet_on)
  (refine wpG_op rfl rfl rfl ?_; intro K hK; go_big_quiet_op; go_big_quiet_on)
  (refine wpG_op rfl rfl rfl ?_; intro K hK; go_big_quiet_op; go_big_quiet_on)
  (refine wpG_op rfl rfl rfl ?_; intro K hK; go_big_quiet_op; go_big_quiet_on)
  (refine wpG_val (v := .bool false) rfl rfl (fun u hu => neqBc_op u (HNB.out _) rfl rfl) ?_ hw1210; intro K hK; go_big_quiet_op; go_big_quiet_on)
  (refine wpG_op rfl rfl rfl ?_; intro K hK; go_big_quiet_op; go_big_quiet_on)
  (refine wpG_op rfl rfl rfl ?_; intro K hK; go_big_quiet_op; go_big_quiet_on)
  (refine wpG_op rfl rfl rfl ?_; intro K hK; go_big_quiet_op; go_big_quiet_on)
  (refine wpG_op rfl rfl rfl ?_; intro K hK; go_big_quiet_op; go_big_quiet_on)
  (refine wpG_op rfl rfl rfl ?_; intro K hK; go_big_quiet_op; go_big_quiet_on)
  (refine wpG_op rfl rfl rfl ?_; intro K hK; go_big_quiet_op; go_big_quiet_on)
  (refine wpG_op rfl rfl rfl ?_; intro K hK; go_big_quiet_op; go_big_quiet_on)
  (refine wpG_op rfl rfl rfl ?_; intro K hK; go_big_quiet_op; go_big_quiet_on)
  (refine wpG_val (v := .bool false) rfl rfl (fun u hu => neqBc_op u (HNB.out _) rfl rfl) ?_ hw1210; intro K hK; go_big_quiet_op; go_big_quiet_on)
  (refine wpG_op rfl rfl rfl ?_; intro K hK; go_big_quiet_op; go_big_quiet_on)
  (refine wpG_op rfl rfl rfl ?_; intro K hK; go_big_quiet_op; go_big_quiet_on)
  (refine wpG_val (v := txV t) rfl rfl (fun u hu => load_any_op u (box_tx hu (List.Mem.tail _ (List.Mem.tail _ (List.Mem.tail _ (List.Mem.head _))))) rfl) ?_ hw1210; intro K hK; go_big_quiet_op; go_big_quiet_on)
  (refine wpG_call (f := 18) (args := #[txV t]) (v := .bool (mayX t.r)) rfl rfl rfl Tryd.func18 rfl rfl (fun u hu => HH.out.may t u (K_kt.out.up (EnvX.bel hu)) (HT5.out.below (EnvX.bel hu))) ?_ hw1210; intro K hK; go_big_quiet_op; go_big_quiet_on)
  (refine wpG_op rfl rfl rfl ?_; intro K hK; go_big_quiet_op; go_big_quiet_on)
  (refine wpG_val (v := .bool false) rfl rfl (fun u hu => neqBc_op u (HNB.out _) rfl rfl) ?_ hw1210; intro K hK; go_big_quiet_op; go_big_quiet_on)
  (refine wpG_op rfl rfl rfl ?_; intro K hK; go_big_quiet_op; go_big_quiet_on)
  (refine wpG_op rfl rfl rfl ?_; intro K hK; go_big_quiet_op; go_big_quiet_on)
  (refine wpG_val (v := txV t) rfl rfl (fun u hu => load_any_op u (box_tx hu (List.Mem.tail _ (List.Mem.tail _ (List.Mem.tail _ (List.Mem.head _))))) rfl) ?_ hw1210; intro K hK; go_big_quiet_op; go_big_quiet_on)
  (refine wpG_val (v := txV s) rfl rfl (fun u hu => load_any_op u (box_tx hu (List.Mem.tail _ (List.Mem.tail _ (List.Mem.head _)))) rfl) ?_ hw1210; intro K hK; go_big_quiet_op; go_big_quiet_on)
  (refine wpG_call (f := 19) (args := #[txV t, txV s]) (v := .bool (sameX t.r s.r)) rfl rfl rfl Tryd.func19 rfl rfl (fun u hu => HH.out.same t s u (K_kt.out.up (EnvX.bel hu)) (K_ks.out.up (EnvX.bel hu)) (HT5.out.below (EnvX.bel hu))) ?_ hw1210; intro K hK; go_big_quiet_op; go_big_quiet_on)
  (refine wpG_op rfl rfl rfl ?_; intro K hK; go_big_quiet_op; go_big_quiet_on)
  (refine wpG_val (v := .bool false) rfl rfl (fun u hu => neqBc_op u (HNB.out _) rfl rfl) ?_ hw1210; intro K hK; go_big_quiet_op; go_big_quiet_on)
  (refine wpG_op rfl rfl rfl ?_; intro K hK; go_big_quiet_op; go_big_quiet_on)
  clear hone hw1210
  refine wpG_nil ?_
  intro u1212 E2'
  have EX1211 := Lib.hid E2'
  clear E2'
  go_upto_region 16 with (fail)
  refine wp_region_H (w0 := w5) [(w5.heap.size, Obj.cells (txA yr) 25 (0, 0)), (w4.heap.size, Obj.cells (txA xr) 25 (0, 0)), (w.heap.size + 1, Obj.cells (txA s) 25 (0, 0)), (w.heap.size, Obj.cells (txA t) 25 (0, 0))] (by kernel_rfl) EX1211.out ?_
  refine anyH_phase [0, 1, 2, 3, 4, 5, 6, 7, 8, 9, 10, 11, 12] 0 rfl ⟨_, (EnvX.drew EX1211.out)⟩ (by kernel_rfl) ?_
  have hw1213 : EnvX w5 _ [(w5.heap.size, Obj.cells (txA yr) 25 (0, 0)), (w4.heap.size, Obj.cells (txA xr) 25 (0, 0)), (w.heap.size + 1, Obj.cells (txA s) 25 (0, 0)), (w.heap.size, Obj.cells (txA t) 25 (0, 0))] := (EnvX.drew EX1211.out)
  have hone := @EnvC.one _ _ _ hw1213
  (refine wpG_val (v := txV t) rfl rfl (fun u hu => load_any_op u (box_tx hu (List.Mem.tail _ (List.Mem.tail _ (List.Mem.tail _ (List.Mem.head _))))) rfl) ?_ hw1213; intro K hK; go_big_quiet_op; go_big_quiet_on)
  (refine wpG_call (f := 20) (args := #[txV t]) (v := idv (idX t.r)) rfl rfl rfl Tryd.func20 rfl rfl (fun u hu => HH.out.id t u (K_kt.out.up (EnvX.bel hu)) (HT5.out.below (EnvX.bel hu))) ?_ hw1213; intro K hK; go_big_quiet_op; go_big_quiet_on)
  (refine wpG_val (v := txV t) rfl rfl (fun u hu => load_any_op u (box_tx hu (List.Mem.tail _ (List.Mem.tail _ (List.Mem.tail _ (List.Mem.head _))))) rfl) ?_ hw1213; intro K hK; go_big_quiet_op; go_big_quiet_on)
  (refine wpG_call (f := 21) (args := #[txV t]) (v := idv (idX t.r)) rfl rfl rfl Tryd.func21 rfl rfl (fun u hu => ridX_any t u (K_kt.out.up (EnvX.bel hu))) ?_ hw1213; intro K hK; go_big_quiet_op; go_big_quiet_on)
  (refine wpG_val (v := .bool true) rfl rfl (fun u hu => eqlb_op HIL.out HIL.out (decide_eq_true rfl) u rfl rfl) ?_ hw1213; intro K hK; go_big_quiet_op; go_big_quiet_on)
  (refine wpG_op rfl rfl rfl ?_; intro K hK; go_big_quiet_op; go_big_quiet_on)
  (refine wpG_op rfl rfl rfl ?_; intro K hK; go_big_quiet_op; go_big_quiet_on)
  (refine wpG_call (f := 22) (args := #[.slice A3 n3 c3]) (v := idv (rootT (idsX (rsT l)))) rfl rfl rfl Tryd.func22 rfl rfl (fun u hu => HH.out.root l A3 n3 c3 u HL3.out.1 HLN.out HL3.out.2.1 HL3.out.2.2 (K_kl.out.up (EnvX.bel hu)) (HT5.out.below (EnvX.bel hu))) ?_ hw1213; intro K hK; go_big_quiet_op; go_big_quiet_on)
  (refine wpG_op rfl rfl rfl ?_; intro K hK; go_big_quiet_op; go_big_quiet_on)
  (refine wpG_call (f := 23) (args := #[.slice A3 n3 c3]) (v := idv (rootT (idsX (rsT l)))) rfl rfl rfl Tryd.func23 rfl rfl (fun u hu => rrootX_any l A3 n3 c3 u HL3.out.1 HLN.out (K_kl.out.up (EnvX.bel hu))) ?_ hw1213; intro K hK; go_big_quiet_op; go_big_quiet_on)
  (refine wpG_val (v := .bool true) rfl rfl (fun u hu => eqlb_op HRI.out.1 HRI.out.1 (decide_eq_true rfl) u rfl rfl) ?_ hw1213; intro K hK; go_big_quiet_op; go_big_quiet_on)
  (refine wpG_op rfl rfl rfl ?_; intro K hK; go_big_quiet_op; go_big_quiet_on)
  (refine wpG_op rfl rfl rfl ?_; intro K hK; go_big_quiet_op; go_big_quiet_on)
  clear hone hw1213
  refine wpG_nil ?_
  refine anyH_done (by kernel_rfl) ?_
  intro u1215 E2'
  have EX1214 := Lib.hid E2'
  clear E2'
  have HBE := Lib.hid (HB5.out.trans ((EnvX.bel EX1214.out).mono HB5.out.size))
  go_wp2
  go_ret
  exact ⟨rfl, HBE.out⟩
theorem law_tellsX (H : CoinC) (t s : TxM) (b : List Int) (l : List TxM) (A : Option Addr) (n c : Nat) (A3 : Option Addr) (n3 c3 : Nat) (w : World) (kt : TxOk w t) (ks : TxOk w s) (hl : b.length = n) (hnc : n ≤ c) (hcm : c ≤ maxLen) (hB : isB b) (hx : Bytes w w.heap.size A b) (hl3 : l.length = n3) (hnc3 : n3 ≤ c3) (hcm3 : c3 ≤ maxLen) (kl : TxsIn w A3 l) (ht : Tables w) :
    Calls Tryd.prog 3 #[txV t, txV s, .slice A n c, .slice A3 n3 c3] w fun e w' => e = .returned (.bool true) ∧ Below w.heap.size w w' := by
  cases k1 : fewX t.r with
  | false => exact law_tellsX_fewt H t s b l A n c A3 n3 c3 w kt ks hl hnc hcm hB hx hl3 hnc3 hcm3 kl ht k1
  | true =>
    cases k2 : fewX s.r with
    | false => exact law_tellsX_fews H t s b l A n c A3 n3 c3 w kt ks hl hnc hcm hB hx hl3 hnc3 hcm3 kl ht k1 k2
    | true =>
      cases k3 : fewAll l 8 with
      | false => exact law_tellsX_fewl H t s b l A n c A3 n3 c3 w kt ks hl hnc hcm hB hx hl3 hnc3 hcm3 kl ht k1 k2 k3
      | true =>
        by_cases k4 : 400 < n
        · exact law_tellsX_many H t s b l A n c A3 n3 c3 w kt ks hl hnc hcm hB hx hl3 hnc3 hcm3 kl ht k1 k2 k3 k4
        · exact law_tellsX_main H t s b l A n c A3 n3 c3 w kt ks hl hnc hcm hB hx hl3 hnc3 hcm3 kl ht k1 k2 k3 (by omega)
end Go.Proofs.YtcodmedgkboohaaDoor

namespace Go.Proofs.YtcodmedgkboohaaDoor.coinTells
set_option maxRecDepth 8000
open Go.ChangeShapes Go.WideShapes Go.ChangeAt Go.RowKit

theorem contract (H : Type) (enc : TypeId × Value → H) (W : World) (base : Nat) (args : Array Value) (ds gs : List (DataW H)) (before : List MemPlace)
    (hval : ∀ (j : Nat) t v, Tryd.f3.params[j]? = some t → args[j]? = some v → Value.okWide Tryd.prog W .any base t v)
    (hW : DataW.Whole enc Tryd.prog Tryd.f3.params.toList Rows.coinTellsSpec.vars false W args.toList ds gs before) (hL : laidMetH Tryd.prog Rows.coinTellsRow.laid W) :
    Calls Tryd.prog 3 args W fun e W' => ∃ v, e = .returned v ∧ Rows.coinTellsSpec.post enc Tryd.prog Tryd.f3 false true false false W args v W' := by
  have hW' := hW
  obtain ⟨p, q, hA0, hV, rfl, hfz, hnd⟩ := hW
  have hA : DataW.TrodAll enc Tryd.prog W 0 (fun _ => true) true Tryd.f3.params.toList args.toList ds p := hA0
  rw [Tryd.params3] at hA hval
  obtain ⟨v0, vs0, d0, ds0, p0, q0, hargs, rfl, rfl, h0, r0⟩ := trodAll_cons hA
  obtain ⟨v1, vs1, d1, ds1, p1, q1, rfl, rfl, rfl, h1, r1⟩ := trodAll_cons r0
  obtain ⟨v2, vs2, d2, ds2, p2, q2, rfl, rfl, rfl, h2, r2⟩ := trodAll_cons r1
  obtain ⟨v3, vs3, d3, ds3, p3, q3, rfl, rfl, rfl, h3, r3⟩ := trodAll_cons r2
  obtain ⟨rfl, rfl, rfl⟩ := trodAll_nil r3
  obtain rfl : args = #[v0, v1, v2, v3] := by cases args; simp_all
  obtain ⟨rfl, rfl⟩ := trodVars_none hV
  have lt0 : ∀ x ∈ p0, x.block < W.heap.size := by obtain ⟨m, hm⟩ := h0; exact DataW.trod_lt m _ _ _ hm
  obtain ⟨x0, rfl, kx0⟩ := open_tx (hval 0 25 v0 rfl rfl) h0
  have lt1 : ∀ x ∈ p1, x.block < W.heap.size := by obtain ⟨m, hm⟩ := h1; exact DataW.trod_lt m _ _ _ hm
  obtain ⟨x1, rfl, kx1⟩ := open_tx (hval 1 25 v1 rfl rfl) h1
  have lt2 : ∀ x ∈ p2, x.block < W.heap.size := by obtain ⟨m, hm⟩ := h2; exact DataW.trod_lt m _ _ _ hm
  obtain ⟨a2, n2, c2, x2, rfl, lx2, nc2, cm2, bx2, px2⟩ := open_bytes (hval 2 26 v2 rfl rfl) h2
  have lt3 : ∀ x ∈ p3, x.block < W.heap.size := by obtain ⟨m, hm⟩ := h3; exact DataW.trod_lt m _ _ _ hm
  obtain ⟨a3, n3, c3, x3, rfl, lx3, nc3, cm3, px3⟩ := open_txs (hval 3 27 v3 rfl rfl) h3
  clear hA0
  refine (law_tellsX coinC x0 x1 x2 x3 a2 n2 c2 a3 n3 c3 W kx0 kx1 lx2 nc2 cm2 bx2 px2 lx3 nc3 cm3 px3 (tables_of_laid hL)).mono fun e W' ⟨he, bel⟩ => ?_
  subst he
  exact ⟨_, rfl, _, _, _, [], _, [], hW', trodAll_mk1 (shut_bool Tryd.underlying4 _), (trodAll_cons_mk (Below.trod laidOut (by kernel_rfl) (of_decide_eq_true (by kernel_rfl)) h0 bel lt0) (trodAll_cons_mk (Below.trod laidOut (by kernel_rfl) (of_decide_eq_true (by kernel_rfl)) h1 bel lt1) (trodAll_cons_mk (Below.trod laidOut (by kernel_rfl) (of_decide_eq_true (by kernel_rfl)) h2 bel lt2) (trodAll_cons_mk (Below.trod laidOut (by kernel_rfl) (of_decide_eq_true (by kernel_rfl)) h3 bel lt3) trodAll_mk0)))), rfl, bel.frame _, fun h => by cases h⟩

def start : Array Value := #[zeroX, zeroX, .slice none 0 0, .slice none 0 0]
theorem reads (os : Os) {H : Type} (enc : TypeId × Value → H) : ∃ places, DataW.whole enc Tryd.prog ((laidWorld os).forCall (fun _ _ => 0) ⟨#[], start, []⟩).memory Tryd.f3.params.toList Rows.coinTellsSpec.vars false start.toList 8 = some ([zeroXD, zeroXD, .nil, .nil], [], places) :=
  ⟨[], by kernel_rfl⟩

set_option maxRecDepth 100000 in
theorem lifted (os : Os) (started : os.Started) (H : Type) (enc : TypeId × Value → H) (F : Stop.Interp) :
    ReturnsInHanded {} Tryd.checked os 3 .any ((OpenSpec.ofChange Rows.coinTellsSpec).preRow enc Tryd.prog Tryd.f3 Rows.coinTellsRow.domain false Rows.coinTellsRow.laid) (((OpenSpec.ofChange Rows.coinTellsSpec).at F).post enc Tryd.prog Tryd.f3 false true false false) := by
  obtain ⟨places, hx⟩ := reads os enc
  refine returnsInHanded_of_row (C := Tryd.checked) (s := OpenSpec.ofChange Rows.coinTellsSpec) own started (by kernel_rfl) Tryd.func3
    (witness_row_at (enc := enc) (C := Tryd.checked) false (laidWorld os) start rfl (by kernel_rfl) (by kernel_rfl) (by kernel_rfl)
      (OpenSpec.preRow_of_cond 8 hx (by kernel_rfl) (fun k hk => by cases hk) (by kernel_rfl) (laidMet_of_run' 8 (by kernel_rfl) (by kernel_rfl)))) ?_
  intro W base args ds gs before hval hW _ _ _ hL _ _
  exact contract H enc W base args ds gs before hval hW hL

theorem said : Rows.CoinTellsSaid :=
  OpenClaim.holds_of_cond 3 Tryd.f3 rfl rfl rfl rfl rfl rfl rfl ⟨rfl, rfl, rfl, rfl, rfl⟩ rfl rfl rfl rfl rfl (by kernel_rfl) Tryd.func3 (by kernel_rfl)
    (of_decide_eq_true (by kernel_rfl)) (by unfold Func.isWrapper; first | (rw [if_pos (by decide +kernel)]; kernel_rfl) | (rw [if_neg (by decide +kernel)]; exact ⟨rfl, rfl⟩))
    (fun os started H enc _ F => by rw [OpenClaim.pre_eq_preRow]; exact lifted os started H enc F)

theorem plain (f : FuncId) (fn : Func) (hf : Tryd.pinned.checked.prog.funcNamed "stepladder/stepladderlaw09.CoinTells" = some f) (hfn : Tryd.pinned.checked.prog.funcs[f]? = some fn) :
    false = Tryd.pinned.checked.prog.looks [] ∧ ∀ (j : Nat) t, fn.params[j]? = some t → Tryd.pinned.checked.prog.wantsStandIn t = false := by
  obtain rfl : f = 3 := Option.some.inj ((show Tryd.prog.funcNamed "stepladder/stepladderlaw09.CoinTells" = some 3 by kernel_rfl).symm.trans hf) |>.symm
  obtain rfl : fn = Tryd.f3 := (Option.some.inj (Tryd.func3.symm.trans hfn)).symm
  refine ⟨by kernel_rfl, fun j t ht => ?_⟩
  rw [Tryd.params3] at ht
  have hm : t = 25 ∨ t = 25 ∨ t = 26 ∨ t = 27 := by simpa using Array.mem_of_getElem? ht
  rcases hm with rfl | rfl | rfl | rfl
  · exact (show Tryd.prog.wantsStandIn 25 = false by kernel_rfl)
  · exact (show Tryd.prog.wantsStandIn 25 = false by kernel_rfl)
  · exact (show Tryd.prog.wantsStandIn 26 = false by kernel_rfl)
  · exact (show Tryd.prog.wantsStandIn 27 = false by kernel_rfl)
theorem card : Rows.CoinTellsCardSaid :=
  Claim7.holds_tied_plain_at .later [] _ _ _ _ said (fun _ h => by cases h) (by kernel_rfl) (fun _ h => by cases h) coinTells_row_tie rfl ⟨rfl, rfl⟩ (by kernel_rfl) rfl plain (by kernel_rfl)

end Go.Proofs.YtcodmedgkboohaaDoor.coinTells
