/-
  PROVED: the law stepladderlaw09.CoinSums answers true for every input, and leaves its arguments as they were.
  Conditions: the two package-level tables of package sha hold at the call what their initialisers lay; the card ties that to the text of the program (a pruned copy of the project: the packages that the roots of this seat load).
-/
import Derived.Test.YtcodmedgkboohaaDoorCn
namespace Go.Proofs.YtcodmedgkboohaaDoor
set_option maxRecDepth 8000
open Go.RowKit

theorem Bytes.src {w : World} {B : Nat} {ad : Addr} {xs : List Int} (h : Bytes w B (some ad) xs) (hp : 0 < xs.length) : SrcAt w ad (xs.map u8v) := by
  obtain ⟨a, e, _, hc⟩ := h hp
  cases e
  exact hc
theorem Bytes.atSome {w : World} {B : Nat} {A : Option Addr} {xs : List Int} (h : Bytes w B A xs) (hp : 0 < xs.length) : ∃ ad, A = some ad := by
  obtain ⟨a, e, _, _⟩ := h hp
  exact ⟨a, e⟩
theorem putX_pos {t : TxR} (h : okX t) (k : mayX t = true) : 0 < (putX t).1.length := by rw [putX_yes k, bodyX_len h]; omega
theorem six_ok {b : List Int} (h : isB b) : isB (6 :: b) := fun y hy => by
  rcases List.mem_cons.1 hy with e | e
  · rw [e]; decide
  · exact h y e
set_option maxRecDepth 20000 in
set_option maxHeartbeats 8000000 in
theorem law_sumsX_fewt (H : CoinC) (t s : TxM) (w : World) (kt : TxOk w t) (ks : TxOk w s) (ht : Tables w) (k1 : fewX t.r = false) :
    Calls Tryd.prog 5 #[txV t, txV s] w fun e w' => e = .returned (.bool true) ∧ Below w.heap.size w w' := by
  have HF_t : Hid (fewX t.r = false) := k1
  have HF_s : Hid (fewX s.r = fewX s.r) := rfl
  have E0 : Hid (EnvX w ((w.alloc (.cells (txA t) 25)).alloc (.cells (txA s) 25)) [(w.heap.size + 1, Obj.cells (txA s) 25 (0, 0)), (w.heap.size, Obj.cells (txA t) 25 (0, 0))]) := (EnvX.start w).two _ _
  have HAW := Lib.hid (cawake_any H ((w.alloc (.cells (txA t) 25)).alloc (.cells (txA s) 25)) (ht.below (EnvX.bel E0.out)))
  have HT := Lib.hid ht
  have HH := Lib.hid H
  have J_kt := Lib.hid kt
  have J_ks := Lib.hid ks
  clear ht H kt ks k1
  unfold txV
  go_enter Tryd.func5, Tryd.ntmps5
  go_upto_region 1 with (fail)
  generalize ((w.alloc (.cells (txA t) 25)).alloc (.cells (txA s) 25)) = W at *
  go_wp2_with fail
  refine HAW.out.mono ?_
  rintro e w1 ⟨rfl, hb1⟩
  have HB1 := Lib.hid (EnvX.below E0.out hb1).bel
  have E1 : Hid (EnvX w1 w1 [(w.heap.size + 1, Obj.cells (txA s) 25 (0, 0)), (w.heap.size, Obj.cells (txA t) 25 (0, 0))]) := ⟨Below.refl _ _, (EnvX.below E0.out hb1).box⟩
  have HT1 := Lib.hid (HT.out.below HB1.out)
  have K_kt := Lib.hid (J_kt.out.up HB1.out)
  have K_ks := Lib.hid (J_ks.out.up HB1.out)
  clear hb1 E0 HAW HT J_kt J_ks
  go_upto_region 2 with (fail)
  refine wp_region_Hx (w0 := w1) [0, 1, 2] [(w.heap.size + 1, Obj.cells (txA s) 25 (0, 0)), (w.heap.size, Obj.cells (txA t) 25 (0, 0))] rfl E1.out ?_
  refine lexH_phase [0, 1, 2] [] ?_
  have hw1 : EnvX w1 _ [(w.heap.size + 1, Obj.cells (txA s) 25 (0, 0)), (w.heap.size, Obj.cells (txA t) 25 (0, 0))] := E1.out
  have hone := @EnvC.one _ _ _ hw1
  (refine wpG_val (v := txV t) rfl rfl (fun u hu => load_any_op u (box_tx hu (List.Mem.tail _ (List.Mem.head _))) rfl) ?_ hw1; intro K hK; go_big_quiet_op; go_big_quiet_on)
  (refine wpG_call (f := 10) (args := #[txV t]) (v := .bool false) rfl rfl rfl Tryd.func10 rfl rfl (fun u hu => by have h1 := few_any t u (K_kt.out.up (EnvX.bel hu)); rwa [HF_t.out] at h1) ?_ hw1; intro K hK; go_big_quiet_op; go_big_quiet_on)
  (refine wpG_op rfl rfl rfl ?_; intro K hK; go_big_quiet_op; go_big_quiet_on)
  clear hone hw1
  refine wpG_nil ?_
  intro u3 E2'
  have EX2 := Lib.hid E2'
  clear E2'
  go_upto_region 3 with (fail)
  refine wp_region_Hx (w0 := w1) [0, 1, 2] [(w.heap.size + 1, Obj.cells (txA s) 25 (0, 0)), (w.heap.size, Obj.cells (txA t) 25 (0, 0))] rfl EX2.out ?_
  refine lexH_phase [0, 1, 2] [] ?_
  have hw4 : EnvX w1 _ [(w.heap.size + 1, Obj.cells (txA s) 25 (0, 0)), (w.heap.size, Obj.cells (txA t) 25 (0, 0))] := EX2.out
  have hone := @EnvC.one _ _ _ hw4
  (refine wpG_val (v := txV s) rfl rfl (fun u hu => load_any_op u (box_tx hu (List.Mem.head _)) rfl) ?_ hw4; intro K hK; go_big_quiet_op; go_big_quiet_on)
  (refine wpG_call (f := 10) (args := #[txV s]) (v := .bool (fewX s.r)) rfl rfl rfl Tryd.func10 rfl rfl (fun u hu => few_any s u (K_ks.out.up (EnvX.bel hu))) ?_ hw4; intro K hK; go_big_quiet_op; go_big_quiet_on)
  (refine wpG_op rfl rfl rfl ?_; intro K hK; go_big_quiet_op; go_big_quiet_on)
  clear hone hw4
  refine wpG_nil ?_
  intro u6 E2'
  have EX5 := Lib.hid E2'
  clear E2'
  go_upto_region 4 with (fail)
  refine wp_region_Hx (w0 := w1) [0, 1, 2, 3, 4, 5, 6, 7, 8, 9] [(w.heap.size + 1, Obj.cells (txA s) 25 (0, 0)), (w.heap.size, Obj.cells (txA t) 25 (0, 0))] rfl EX5.out ?_
  refine lexH_phase [0, 1, 2, 3, 4, 5, 6, 7, 8, 9] [] ?_
  have hw7 : EnvX w1 _ [(w.heap.size + 1, Obj.cells (txA s) 25 (0, 0)), (w.heap.size, Obj.cells (txA t) 25 (0, 0))] := EX5.out
  have hone := @EnvC.one _ _ _ hw7
  (refine wpG_op rfl rfl rfl ?_; intro K hK; go_big_quiet_op; go_big_quiet_on)
  (refine wpG_op rfl rfl rfl ?_; intro K hK; go_big_quiet_op; go_big_quiet_on)
  (refine wpG_op rfl rfl rfl ?_; intro K hK; go_big_quiet_op; go_big_quiet_on)
  (refine wpG_op rfl rfl rfl ?_; intro K hK; go_big_quiet_op; go_big_quiet_on)
  (refine wpG_op rfl rfl rfl ?_; intro K hK; go_big_quiet_op; go_big_quiet_on)
  (refine wpG_op rfl rfl rfl ?_; intro K hK; go_big_quiet_op; go_big_quiet_on)
  (refine wpG_op rfl rfl rfl ?_; intro K hK; go_big_quiet_op; go_big_quiet_on)
  (refine wpG_skip rfl rfl ?_ hw7; intro K hK; go_big_quiet_op; go_big_quiet_on)
  (refine wpG_skip rfl rfl ?_ hw7; intro K hK; go_big_quiet_op; go_big_quiet_on)
  (refine wpG_op rfl rfl rfl ?_; intro K hK; go_big_quiet_op; go_big_quiet_on)
  clear hone hw7
  refine wpG_nil ?_
  intro u9 E2'
  have EX8 := Lib.hid E2'
  clear E2'
  have HBE := Lib.hid (HB1.out.trans ((EnvX.bel EX8.out).mono HB1.out.size))
  go_wp2
  go_ret
  exact ⟨rfl, HBE.out⟩
set_option maxRecDepth 20000 in
set_option maxHeartbeats 8000000 in
theorem law_sumsX_fews (H : CoinC) (t s : TxM) (w : World) (kt : TxOk w t) (ks : TxOk w s) (ht : Tables w) (k1 : fewX t.r = true) (k2 : fewX s.r = false) :
    Calls Tryd.prog 5 #[txV t, txV s] w fun e w' => e = .returned (.bool true) ∧ Below w.heap.size w w' := by
  have HF_t : Hid (fewX t.r = true) := k1
  have HF_s : Hid (fewX s.r = false) := k2
  have E0 : Hid (EnvX w ((w.alloc (.cells (txA t) 25)).alloc (.cells (txA s) 25)) [(w.heap.size + 1, Obj.cells (txA s) 25 (0, 0)), (w.heap.size, Obj.cells (txA t) 25 (0, 0))]) := (EnvX.start w).two _ _
  have HAW := Lib.hid (cawake_any H ((w.alloc (.cells (txA t) 25)).alloc (.cells (txA s) 25)) (ht.below (EnvX.bel E0.out)))
  have HT := Lib.hid ht
  have HH := Lib.hid H
  have J_kt := Lib.hid kt
  have J_ks := Lib.hid ks
  clear ht H kt ks k1 k2
  unfold txV
  go_enter Tryd.func5, Tryd.ntmps5
  go_upto_region 1 with (fail)
  generalize ((w.alloc (.cells (txA t) 25)).alloc (.cells (txA s) 25)) = W at *
  go_wp2_with fail
  refine HAW.out.mono ?_
  rintro e w1 ⟨rfl, hb1⟩
  have HB1 := Lib.hid (EnvX.below E0.out hb1).bel
  have E1 : Hid (EnvX w1 w1 [(w.heap.size + 1, Obj.cells (txA s) 25 (0, 0)), (w.heap.size, Obj.cells (txA t) 25 (0, 0))]) := ⟨Below.refl _ _, (EnvX.below E0.out hb1).box⟩
  have HT1 := Lib.hid (HT.out.below HB1.out)
  have K_kt := Lib.hid (J_kt.out.up HB1.out)
  have K_ks := Lib.hid (J_ks.out.up HB1.out)
  clear hb1 E0 HAW HT J_kt J_ks
  go_upto_region 2 with (fail)
  refine wp_region_Hx (w0 := w1) [0, 1, 2] [(w.heap.size + 1, Obj.cells (txA s) 25 (0, 0)), (w.heap.size, Obj.cells (txA t) 25 (0, 0))] rfl E1.out ?_
  refine lexH_phase [0, 1, 2] [] ?_
  have hw1 : EnvX w1 _ [(w.heap.size + 1, Obj.cells (txA s) 25 (0, 0)), (w.heap.size, Obj.cells (txA t) 25 (0, 0))] := E1.out
  have hone := @EnvC.one _ _ _ hw1
  (refine wpG_val (v := txV t) rfl rfl (fun u hu => load_any_op u (box_tx hu (List.Mem.tail _ (List.Mem.head _))) rfl) ?_ hw1; intro K hK; go_big_quiet_op; go_big_quiet_on)
  (refine wpG_call (f := 10) (args := #[txV t]) (v := .bool true) rfl rfl rfl Tryd.func10 rfl rfl (fun u hu => by have h1 := few_any t u (K_kt.out.up (EnvX.bel hu)); rwa [HF_t.out] at h1) ?_ hw1; intro K hK; go_big_quiet_op; go_big_quiet_on)
  (refine wpG_op rfl rfl rfl ?_; intro K hK; go_big_quiet_op; go_big_quiet_on)
  clear hone hw1
  refine wpG_nil ?_
  intro u3 E2'
  have EX2 := Lib.hid E2'
  clear E2'
  go_upto_region 3 with (fail)
  refine wp_region_Hx (w0 := w1) [0, 1, 2] [(w.heap.size + 1, Obj.cells (txA s) 25 (0, 0)), (w.heap.size, Obj.cells (txA t) 25 (0, 0))] rfl EX2.out ?_
  refine lexH_phase [0, 1, 2] [] ?_
  have hw4 : EnvX w1 _ [(w.heap.size + 1, Obj.cells (txA s) 25 (0, 0)), (w.heap.size, Obj.cells (txA t) 25 (0, 0))] := EX2.out
  have hone := @EnvC.one _ _ _ hw4
  (refine wpG_val (v := txV s) rfl rfl (fun u hu => load_any_op u (box_tx hu (List.Mem.head _)) rfl) ?_ hw4; intro K hK; go_big_quiet_op; go_big_quiet_on)
  (refine wpG_call (f := 10) (args := #[txV s]) (v := .bool false) rfl rfl rfl Tryd.func10 rfl rfl (fun u hu => by have h1 := few_any s u (K_ks.out.up (EnvX.bel hu)); rwa [HF_s.out] at h1) ?_ hw4; intro K hK; go_big_quiet_op; go_big_quiet_on)
  (refine wpG_op rfl rfl rfl ?_; intro K hK; go_big_quiet_op; go_big_quiet_on)
  clear hone hw4
  refine wpG_nil ?_
  intro u6 E2'
  have EX5 := Lib.hid E2'
  clear E2'
  go_upto_region 4 with (fail)
  refine wp_region_Hx (w0 := w1) [0, 1, 2, 3, 4, 5, 6, 7, 8, 9] [(w.heap.size + 1, Obj.cells (txA s) 25 (0, 0)), (w.heap.size, Obj.cells (txA t) 25 (0, 0))] rfl EX5.out ?_
  refine lexH_phase [0, 1, 2, 3, 4, 5, 6, 7, 8, 9] [] ?_
  have hw7 : EnvX w1 _ [(w.heap.size + 1, Obj.cells (txA s) 25 (0, 0)), (w.heap.size, Obj.cells (txA t) 25 (0, 0))] := EX5.out
  have hone := @EnvC.one _ _ _ hw7
  (refine wpG_op rfl rfl rfl ?_; intro K hK; go_big_quiet_op; go_big_quiet_on)
  (refine wpG_op rfl rfl rfl ?_; intro K hK; go_big_quiet_op; go_big_quiet_on)
  (refine wpG_op rfl rfl rfl ?_; intro K hK; go_big_quiet_op; go_big_quiet_on)
  (refine wpG_op rfl rfl rfl ?_; intro K hK; go_big_quiet_op; go_big_quiet_on)
  (refine wpG_op rfl rfl rfl ?_; intro K hK; go_big_quiet_op; go_big_quiet_on)
  (refine wpG_op rfl rfl rfl ?_; intro K hK; go_big_quiet_op; go_big_quiet_on)
  (refine wpG_op rfl rfl rfl ?_; intro K hK; go_big_quiet_op; go_big_quiet_on)
  (refine wpG_op rfl rfl rfl ?_; intro K hK; go_big_quiet_op; go_big_quiet_on)
  (refine wpG_op rfl rfl rfl ?_; intro K hK; go_big_quiet_op; go_big_quiet_on)
  (refine wpG_op rfl rfl rfl ?_; intro K hK; go_big_quiet_op; go_big_quiet_on)
  clear hone hw7
  refine wpG_nil ?_
  intro u9 E2'
  have EX8 := Lib.hid E2'
  clear E2'
  have HBE := Lib.hid (HB1.out.trans ((EnvX.bel EX8.out).mono HB1.out.size))
  go_wp2
  go_ret
  exact ⟨rfl, HBE.out⟩
set_option maxRecDepth 20000 in
set_option maxHeartbeats 8000000 in
theorem law_sumsX_no (H : CoinC) (t s : TxM) (w : World) (kt : TxOk w t) (ks : TxOk w s) (ht : Tables w) (k1 : fewX t.r = true) (k2 : fewX s.r = true) (k3 : mayX t.r = false) :
    Calls Tryd.prog 5 #[txV t, txV s] w fun e w' => e = .returned (.bool true) ∧ Below w.heap.size w w' := by
  have HF_t : Hid (fewX t.r = true) := k1
  have HF_s : Hid (fewX s.r = true) := k2
  have HP_t : Hid ((putX t.r).2 = false) := (putX_2 _).trans k3
  have HP_s : Hid ((putX s.r).2 = mayX s.r) := putX_2 _
  have HIH : Hid ((idX t.r).length = 32) := (idX_id _).1
  have HZ32 : Hid (z32.length = 32) := by show _ = _; rfl
  have HIZ : Hid (eqL (idX t.r) z32 = true) := decide_eq_true (by unfold idX; rw [k3]; rfl)
  have E0 : Hid (EnvX w ((w.alloc (.cells (txA t) 25)).alloc (.cells (txA s) 25)) [(w.heap.size + 1, Obj.cells (txA s) 25 (0, 0)), (w.heap.size, Obj.cells (txA t) 25 (0, 0))]) := (EnvX.start w).two _ _
  have HAW := Lib.hid (cawake_any H ((w.alloc (.cells (txA t) 25)).alloc (.cells (txA s) 25)) (ht.below (EnvX.bel E0.out)))
  have HT := Lib.hid ht
  have HH := Lib.hid H
  have J_kt := Lib.hid kt
  have J_ks := Lib.hid ks
  clear ht H kt ks k1 k2 k3
  unfold txV
  go_enter Tryd.func5, Tryd.ntmps5
  go_upto_region 1 with (fail)
  generalize ((w.alloc (.cells (txA t) 25)).alloc (.cells (txA s) 25)) = W at *
  go_wp2_with fail
  refine HAW.out.mono ?_
  rintro e w1 ⟨rfl, hb1⟩
  have HB1 := Lib.hid (EnvX.below E0.out hb1).bel
  have E1 : Hid (EnvX w1 w1 [(w.heap.size + 1, Obj.cells (txA s) 25 (0, 0)), (w.heap.size, Obj.cells (txA t) 25 (0, 0))]) := ⟨Below.refl _ _, (EnvX.below E0.out hb1).box⟩
  have HT1 := Lib.hid (HT.out.below HB1.out)
  have K_kt := Lib.hid (J_kt.out.up HB1.out)
  have K_ks := Lib.hid (J_ks.out.up HB1.out)
  clear hb1 E0 HAW HT J_kt J_ks
  go_upto_region 2 with (fail)
  refine wp_region_Hx (w0 := w1) [0, 1, 2] [(w.heap.size + 1, Obj.cells (txA s) 25 (0, 0)), (w.heap.size, Obj.cells (txA t) 25 (0, 0))] rfl E1.out ?_
  refine lexH_phase [0, 1, 2] [] ?_
  have hw1 : EnvX w1 _ [(w.heap.size + 1, Obj.cells (txA s) 25 (0, 0)), (w.heap.size, Obj.cells (txA t) 25 (0, 0))] := E1.out
  have hone := @EnvC.one _ _ _ hw1
  (refine wpG_val (v := txV t) rfl rfl (fun u hu => load_any_op u (box_tx hu (List.Mem.tail _ (List.Mem.head _))) rfl) ?_ hw1; intro K hK; go_big_quiet_op; go_big_quiet_on)
  (refine wpG_call (f := 10) (args := #[txV t]) (v := .bool true) rfl rfl rfl Tryd.func10 rfl rfl (fun u hu => by have h1 := few_any t u (K_kt.out.up (EnvX.bel hu)); rwa [HF_t.out] at h1) ?_ hw1; intro K hK; go_big_quiet_op; go_big_quiet_on)
  (refine wpG_op rfl rfl rfl ?_; intro K hK; go_big_quiet_op; go_big_quiet_on)
  clear hone hw1
  refine wpG_nil ?_
  intro u3 E2'
  have EX2 := Lib.hid E2'
  clear E2'
  go_upto_region 3 with (fail)
  refine wp_region_Hx (w0 := w1) [0, 1, 2] [(w.heap.size + 1, Obj.cells (txA s) 25 (0, 0)), (w.heap.size, Obj.cells (txA t) 25 (0, 0))] rfl EX2.out ?_
  refine lexH_phase [0, 1, 2] [] ?_
  have hw4 : EnvX w1 _ [(w.heap.size + 1, Obj.cells (txA s) 25 (0, 0)), (w.heap.size, Obj.cells (txA t) 25 (0, 0))] := EX2.out
  have hone := @EnvC.one _ _ _ hw4
  (refine wpG_val (v := txV s) rfl rfl (fun u hu => load_any_op u (box_tx hu (List.Mem.head _)) rfl) ?_ hw4; intro K hK; go_big_quiet_op; go_big_quiet_on)
  (refine wpG_call (f := 10) (args := #[txV s]) (v := .bool true) rfl rfl rfl Tryd.func10 rfl rfl (fun u hu => by have h1 := few_any s u (K_ks.out.up (EnvX.bel hu)); rwa [HF_s.out] at h1) ?_ hw4; intro K hK; go_big_quiet_op; go_big_quiet_on)
  (refine wpG_op rfl rfl rfl ?_; intro K hK; go_big_quiet_op; go_big_quiet_on)
  clear hone hw4
  refine wpG_nil ?_
  intro u6 E2'
  have EX5 := Lib.hid E2'
  clear E2'
  go_upto_region 4 with (fail)
  refine wp_region_Hx (w0 := w1) [0, 1, 2, 3, 4, 5, 6, 7, 8, 9] [(w.heap.size + 1, Obj.cells (txA s) 25 (0, 0)), (w.heap.size, Obj.cells (txA t) 25 (0, 0))] rfl EX5.out ?_
  refine lexH_phase [0, 1, 2, 3, 4, 5, 6, 7, 8, 9] [] ?_
  have hw7 : EnvX w1 _ [(w.heap.size + 1, Obj.cells (txA s) 25 (0, 0)), (w.heap.size, Obj.cells (txA t) 25 (0, 0))] := EX5.out
  have hone := @EnvC.one _ _ _ hw7
  (refine wpG_op rfl rfl rfl ?_; intro K hK; go_big_quiet_op; go_big_quiet_on)
  (refine wpG_op rfl rfl rfl ?_; intro K hK; go_big_quiet_op; go_big_quiet_on)
  (refine wpG_op rfl rfl rfl ?_; intro K hK; go_big_quiet_op; go_big_quiet_on)
  (refine wpG_op rfl rfl rfl ?_; intro K hK; go_big_quiet_op; go_big_quiet_on)
  (refine wpG_op rfl rfl rfl ?_; intro K hK; go_big_quiet_op; go_big_quiet_on)
  (refine wpG_op rfl rfl rfl ?_; intro K hK; go_big_quiet_op; go_big_quiet_on)
  (refine wpG_op rfl rfl rfl ?_; intro K hK; go_big_quiet_op; go_big_quiet_on)
  (refine wpG_op rfl rfl rfl ?_; intro K hK; go_big_quiet_op; go_big_quiet_on)
  (refine wpG_op rfl rfl rfl ?_; intro K hK; go_big_quiet_op; go_big_quiet_on)
  (refine wpG_op rfl rfl rfl ?_; intro K hK; go_big_quiet_op; go_big_quiet_on)
  clear hone hw7
  refine wpG_nil ?_
  intro u9 E2'
  have EX8 := Lib.hid E2'
  clear E2'
  have HLD : Hid ((loadVar 25 ⟨w.heap.size, 0, none⟩).run Tryd.prog u9 = .ok (.agg (txA t)) u9) := box_tx EX8.out (List.Mem.tail _ (List.Mem.head _))
  have HPT : Hid (Calls Tryd.prog 12 #[.agg (txA t)] u9 fun e w' => (∃ v, e = .returned (.tuple #[v, .bool false]) ∧ OwnB w' u9.heap.size v (putX t.r).1) ∧ Below u9.heap.size u9 w') := by
    have h1 := HH.out.put t u9 (K_kt.out.up EX8.out.bel) (HT1.out.below (EnvX.bel EX8.out))
    rwa [HP_t.out] at h1
  go_upto_region 6 with (fail)
  go_wp2_with ((with_reducible refine wpList_load_run (o := ⟨some 31, _, _, _, _, _⟩) ?_ 25 (.tmp 2) ?_ ⟨w.heap.size, 0, none⟩ ?_ HLD.out ?_); (rfl); (rfl); (rfl))
  refine HPT.out.mono ?_
  rintro e w2 ⟨⟨v6, rfl, hv⟩, hb⟩
  obtain ⟨Ap, cp, rfl⟩ := hv.form
  have HB_xs := Lib.hid hv.bytes.2
  have HC_xs := Lib.hid hv.cap
  have hbb := (EnvX.below EX8.out hb).bel
  have E2 : Hid (EnvX w2 w2 [(w.heap.size + 1, Obj.cells (txA s) 25 (0, 0)), (w.heap.size, Obj.cells (txA t) 25 (0, 0))]) := ⟨Below.refl _ _, (EnvX.below EX8.out hb).box⟩
  have HB2 := Lib.hid (HB1.out.trans (hbb.mono HB1.out.size))
  have HT2 := Lib.hid (HT1.out.below hbb)
  have K_kt := Lib.hid (K_kt.out.up hbb)
  have K_ks := Lib.hid (K_ks.out.up hbb)
  clear hv hb HLD HPT hbb EX8
  obtain ⟨np, hnp⟩ : ∃ np, (putX t.r).1.length = np := ⟨_, rfl⟩
  obtain ⟨xs, hxs⟩ : ∃ xs, (putX t.r).1 = xs := ⟨_, rfl⟩
  have HN_xs := Lib.hid hnp
  have HX_xs := Lib.hid hxs
  rw [hnp] at HC_xs ⊢
  rw [hxs] at HB_xs HN_xs
  clear hnp hxs
  have HLD : Hid ((loadVar 25 ⟨w.heap.size + 1, 0, none⟩).run Tryd.prog w2 = .ok (.agg (txA s)) w2) := box_tx E2.out (List.Mem.head _)
  have HPT : Hid (Calls Tryd.prog 12 #[.agg (txA s)] w2 fun e w' => (∃ v, e = .returned (.tuple #[v, .bool (mayX s.r)]) ∧ OwnB w' w2.heap.size v (putX s.r).1) ∧ Below w2.heap.size w2 w') := by
    have h1 := HH.out.put s w2 K_ks.out (HT2.out.below (EnvX.bel E2.out))
    rwa [HP_s.out] at h1
  go_upto_region 7 with (fail)
  go_wp2_with ((with_reducible refine wpList_load_run (o := ⟨some 36, _, _, _, _, _⟩) ?_ 25 (.tmp 3) ?_ ⟨w.heap.size + 1, 0, none⟩ ?_ HLD.out ?_); (rfl); (rfl); (rfl))
  refine HPT.out.mono ?_
  rintro e w3 ⟨⟨v7, rfl, hv⟩, hb⟩
  obtain ⟨Aq, cq, rfl⟩ := hv.form
  have HB_ys := Lib.hid hv.bytes.2
  have HC_ys := Lib.hid hv.cap
  have hbb := (EnvX.below E2.out hb).bel
  have E3 : Hid (EnvX w3 w3 [(w.heap.size + 1, Obj.cells (txA s) 25 (0, 0)), (w.heap.size, Obj.cells (txA t) 25 (0, 0))]) := ⟨Below.refl _ _, (EnvX.below E2.out hb).box⟩
  have HB3 := Lib.hid (HB2.out.trans (hbb.mono HB2.out.size))
  have HT3 := Lib.hid (HT2.out.below hbb)
  have K_kt := Lib.hid (K_kt.out.up hbb)
  have K_ks := Lib.hid (K_ks.out.up hbb)
  have HB_xs := Lib.hid (HB_xs.out.up hbb)
  clear hv hb HLD HPT hbb E2
  obtain ⟨nq, hnp⟩ : ∃ np, (putX s.r).1.length = np := ⟨_, rfl⟩
  obtain ⟨ys, hxs⟩ : ∃ xs, (putX s.r).1 = xs := ⟨_, rfl⟩
  have HN_ys := Lib.hid hnp
  have HX_ys := Lib.hid hxs
  rw [hnp] at HC_ys ⊢
  rw [hxs] at HB_ys HN_ys
  clear hnp hxs
  go_upto_region 8 with (fail)
  refine wp_region_Hx (w0 := w3) [0, 1, 2, 3, 4, 5] [(w.heap.size + 1, Obj.cells (txA s) 25 (0, 0)), (w.heap.size, Obj.cells (txA t) 25 (0, 0))] rfl E3.out ?_
  refine lexH_phase [0, 1, 2, 3, 4, 5] [] ?_
  have hw601 : EnvX w3 _ [(w.heap.size + 1, Obj.cells (txA s) 25 (0, 0)), (w.heap.size, Obj.cells (txA t) 25 (0, 0))] := E3.out
  have hone := @EnvC.one _ _ _ hw601
  (refine wpG_op rfl rfl rfl ?_; intro K hK; go_big_quiet_op; go_big_quiet_on)
  (refine wpG_op rfl rfl rfl ?_; intro K hK; go_big_quiet_op; go_big_quiet_on)
  (refine wpG_op rfl rfl rfl ?_; intro K hK; go_big_quiet_op; go_big_quiet_on)
  (refine wpG_skip rfl rfl ?_ hw601; intro K hK; go_big_quiet_op; go_big_quiet_on)
  (refine wpG_skip rfl rfl ?_ hw601; intro K hK; go_big_quiet_op; go_big_quiet_on)
  (refine wpG_op rfl rfl rfl ?_; intro K hK; go_big_quiet_op; go_big_quiet_on)
  clear hone hw601
  refine wpG_nil ?_
  intro u603 E2'
  have EX602 := Lib.hid E2'
  clear E2'
  go_upto_region 9 with (fail)
  refine wp_region_Hx (w0 := w3) [0, 1, 2, 3, 4, 5, 6, 7] [(w.heap.size + 1, Obj.cells (txA s) 25 (0, 0)), (w.heap.size, Obj.cells (txA t) 25 (0, 0))] rfl EX602.out ?_
  refine lexH_phase [0, 1, 2, 3, 4, 5, 6, 7] [] ?_
  have hw604 : EnvX w3 _ [(w.heap.size + 1, Obj.cells (txA s) 25 (0, 0)), (w.heap.size, Obj.cells (txA t) 25 (0, 0))] := EX602.out
  have hone := @EnvC.one _ _ _ hw604
  (refine wpG_op rfl rfl rfl ?_; intro K hK; go_big_quiet_op; go_big_quiet_on)
  (refine wpG_op rfl rfl rfl ?_; intro K hK; go_big_quiet_op; go_big_quiet_on)
  (refine wpG_val (v := txV t) rfl rfl (fun u hu => load_any_op u (box_tx hu (List.Mem.tail _ (List.Mem.head _))) rfl) ?_ hw604; intro K hK; go_big_quiet_op; go_big_quiet_on)
  (refine wpG_call (f := 20) (args := #[txV t]) (v := idv (idX t.r)) rfl rfl rfl Tryd.func20 rfl rfl (fun u hu => HH.out.id t u (K_kt.out.up (EnvX.bel hu)) (HT3.out.below (EnvX.bel hu))) ?_ hw604; intro K hK; go_big_quiet_op; go_big_quiet_on)
  (refine wpG_val (v := idv z32) rfl rfl (fun u hu => buildA_op u hbuilt0) ?_ hw604; intro K hK; go_big_quiet_op; go_big_quiet_on)
  (refine wpG_val (v := .bool true) rfl rfl (fun u hu => eqlb_op HIH.out HZ32.out HIZ.out u rfl rfl) ?_ hw604; intro K hK; go_big_quiet_op; go_big_quiet_on)
  (refine wpG_op rfl rfl rfl ?_; intro K hK; go_big_quiet_op; go_big_quiet_on)
  (refine wpG_op rfl rfl rfl ?_; intro K hK; go_big_quiet_op; go_big_quiet_on)
  clear hone hw604
  refine wpG_nil ?_
  intro u606 E2'
  have EX605 := Lib.hid E2'
  clear E2'
  have HBE := Lib.hid (HB3.out.trans ((EnvX.bel EX605.out).mono HB3.out.size))
  go_wp2
  go_ret
  exact ⟨rfl, HBE.out⟩
set_option maxRecDepth 20000 in
set_option maxHeartbeats 8000000 in
theorem law_sumsX_one (H : CoinC) (t s : TxM) (w : World) (kt : TxOk w t) (ks : TxOk w s) (ht : Tables w) (k1 : fewX t.r = true) (k2 : fewX s.r = true) (k3 : mayX t.r = true) (k4 : mayX s.r = false) :
    Calls Tryd.prog 5 #[txV t, txV s] w fun e w' => e = .returned (.bool true) ∧ Below w.heap.size w w' := by
  have HF_t : Hid (fewX t.r = true) := k1
  have HF_s : Hid (fewX s.r = true) := k2
  have HP_t : Hid ((putX t.r).2 = true) := (putX_2 _).trans k3
  have HP_s : Hid ((putX s.r).2 = false) := (putX_2 _).trans k4
  have HIH : Hid ((idX t.r).length = 32) := (idX_id _).1
  have HZ32 : Hid (z32.length = 32) := by show _ = _; rfl
  have HIZ : Hid (true = true) := rfl
  have E0 : Hid (EnvX w ((w.alloc (.cells (txA t) 25)).alloc (.cells (txA s) 25)) [(w.heap.size + 1, Obj.cells (txA s) 25 (0, 0)), (w.heap.size, Obj.cells (txA t) 25 (0, 0))]) := (EnvX.start w).two _ _
  have HAW := Lib.hid (cawake_any H ((w.alloc (.cells (txA t) 25)).alloc (.cells (txA s) 25)) (ht.below (EnvX.bel E0.out)))
  have HT := Lib.hid ht
  have HH := Lib.hid H
  have J_kt := Lib.hid kt
  have J_ks := Lib.hid ks
  clear ht H kt ks k1 k2 k3 k4
  unfold txV
  go_enter Tryd.func5, Tryd.ntmps5
  go_upto_region 1 with (fail)
  generalize ((w.alloc (.cells (txA t) 25)).alloc (.cells (txA s) 25)) = W at *
  go_wp2_with fail
  refine HAW.out.mono ?_
  rintro e w1 ⟨rfl, hb1⟩
  have HB1 := Lib.hid (EnvX.below E0.out hb1).bel
  have E1 : Hid (EnvX w1 w1 [(w.heap.size + 1, Obj.cells (txA s) 25 (0, 0)), (w.heap.size, Obj.cells (txA t) 25 (0, 0))]) := ⟨Below.refl _ _, (EnvX.below E0.out hb1).box⟩
  have HT1 := Lib.hid (HT.out.below HB1.out)
  have K_kt := Lib.hid (J_kt.out.up HB1.out)
  have K_ks := Lib.hid (J_ks.out.up HB1.out)
  clear hb1 E0 HAW HT J_kt J_ks
  go_upto_region 2 with (fail)
  refine wp_region_Hx (w0 := w1) [0, 1, 2] [(w.heap.size + 1, Obj.cells (txA s) 25 (0, 0)), (w.heap.size, Obj.cells (txA t) 25 (0, 0))] rfl E1.out ?_
  refine lexH_phase [0, 1, 2] [] ?_
  have hw1 : EnvX w1 _ [(w.heap.size + 1, Obj.cells (txA s) 25 (0, 0)), (w.heap.size, Obj.cells (txA t) 25 (0, 0))] := E1.out
  have hone := @EnvC.one _ _ _ hw1
  (refine wpG_val (v := txV t) rfl rfl (fun u hu => load_any_op u (box_tx hu (List.Mem.tail _ (List.Mem.head _))) rfl) ?_ hw1; intro K hK; go_big_quiet_op; go_big_quiet_on)
  (refine wpG_call (f := 10) (args := #[txV t]) (v := .bool true) rfl rfl rfl Tryd.func10 rfl rfl (fun u hu => by have h1 := few_any t u (K_kt.out.up (EnvX.bel hu)); rwa [HF_t.out] at h1) ?_ hw1; intro K hK; go_big_quiet_op; go_big_quiet_on)
  (refine wpG_op rfl rfl rfl ?_; intro K hK; go_big_quiet_op; go_big_quiet_on)
  clear hone hw1
  refine wpG_nil ?_
  intro u3 E2'
  have EX2 := Lib.hid E2'
  clear E2'
  go_upto_region 3 with (fail)
  refine wp_region_Hx (w0 := w1) [0, 1, 2] [(w.heap.size + 1, Obj.cells (txA s) 25 (0, 0)), (w.heap.size, Obj.cells (txA t) 25 (0, 0))] rfl EX2.out ?_
  refine lexH_phase [0, 1, 2] [] ?_
  have hw4 : EnvX w1 _ [(w.heap.size + 1, Obj.cells (txA s) 25 (0, 0)), (w.heap.size, Obj.cells (txA t) 25 (0, 0))] := EX2.out
  have hone := @EnvC.one _ _ _ hw4
  (refine wpG_val (v := txV s) rfl rfl (fun u hu => load_any_op u (box_tx hu (List.Mem.head _)) rfl) ?_ hw4; intro K hK; go_big_quiet_op; go_big_quiet_on)
  (refine wpG_call (f := 10) (args := #[txV s]) (v := .bool true) rfl rfl rfl Tryd.func10 rfl rfl (fun u hu => by have h1 := few_any s u (K_ks.out.up (EnvX.bel hu)); rwa [HF_s.out] at h1) ?_ hw4; intro K hK; go_big_quiet_op; go_big_quiet_on)
  (refine wpG_op rfl rfl rfl ?_; intro K hK; go_big_quiet_op; go_big_quiet_on)
  clear hone hw4
  refine wpG_nil ?_
  intro u6 E2'
  have EX5 := Lib.hid E2'
  clear E2'
  go_upto_region 4 with (fail)
  refine wp_region_Hx (w0 := w1) [0, 1, 2, 3, 4, 5, 6, 7, 8, 9] [(w.heap.size + 1, Obj.cells (txA s) 25 (0, 0)), (w.heap.size, Obj.cells (txA t) 25 (0, 0))] rfl EX5.out ?_
  refine lexH_phase [0, 1, 2, 3, 4, 5, 6, 7, 8, 9] [] ?_
  have hw7 : EnvX w1 _ [(w.heap.size + 1, Obj.cells (txA s) 25 (0, 0)), (w.heap.size, Obj.cells (txA t) 25 (0, 0))] := EX5.out
  have hone := @EnvC.one _ _ _ hw7
  (refine wpG_op rfl rfl rfl ?_; intro K hK; go_big_quiet_op; go_big_quiet_on)
  (refine wpG_op rfl rfl rfl ?_; intro K hK; go_big_quiet_op; go_big_quiet_on)
  (refine wpG_op rfl rfl rfl ?_; intro K hK; go_big_quiet_op; go_big_quiet_on)
  (refine wpG_op rfl rfl rfl ?_; intro K hK; go_big_quiet_op; go_big_quiet_on)
  (refine wpG_op rfl rfl rfl ?_; intro K hK; go_big_quiet_op; go_big_quiet_on)
  (refine wpG_op rfl rfl rfl ?_; intro K hK; go_big_quiet_op; go_big_quiet_on)
  (refine wpG_op rfl rfl rfl ?_; intro K hK; go_big_quiet_op; go_big_quiet_on)
  (refine wpG_op rfl rfl rfl ?_; intro K hK; go_big_quiet_op; go_big_quiet_on)
  (refine wpG_op rfl rfl rfl ?_; intro K hK; go_big_quiet_op; go_big_quiet_on)
  (refine wpG_op rfl rfl rfl ?_; intro K hK; go_big_quiet_op; go_big_quiet_on)
  clear hone hw7
  refine wpG_nil ?_
  intro u9 E2'
  have EX8 := Lib.hid E2'
  clear E2'
  have HLD : Hid ((loadVar 25 ⟨w.heap.size, 0, none⟩).run Tryd.prog u9 = .ok (.agg (txA t)) u9) := box_tx EX8.out (List.Mem.tail _ (List.Mem.head _))
  have HPT : Hid (Calls Tryd.prog 12 #[.agg (txA t)] u9 fun e w' => (∃ v, e = .returned (.tuple #[v, .bool true]) ∧ OwnB w' u9.heap.size v (putX t.r).1) ∧ Below u9.heap.size u9 w') := by
    have h1 := HH.out.put t u9 (K_kt.out.up EX8.out.bel) (HT1.out.below (EnvX.bel EX8.out))
    rwa [HP_t.out] at h1
  go_upto_region 6 with (fail)
  go_wp2_with ((with_reducible refine wpList_load_run (o := ⟨some 31, _, _, _, _, _⟩) ?_ 25 (.tmp 2) ?_ ⟨w.heap.size, 0, none⟩ ?_ HLD.out ?_); (rfl); (rfl); (rfl))
  refine HPT.out.mono ?_
  rintro e w2 ⟨⟨v6, rfl, hv⟩, hb⟩
  obtain ⟨Ap, cp, rfl⟩ := hv.form
  have HB_xs := Lib.hid hv.bytes.2
  have HC_xs := Lib.hid hv.cap
  have hbb := (EnvX.below EX8.out hb).bel
  have E2 : Hid (EnvX w2 w2 [(w.heap.size + 1, Obj.cells (txA s) 25 (0, 0)), (w.heap.size, Obj.cells (txA t) 25 (0, 0))]) := ⟨Below.refl _ _, (EnvX.below EX8.out hb).box⟩
  have HB2 := Lib.hid (HB1.out.trans (hbb.mono HB1.out.size))
  have HT2 := Lib.hid (HT1.out.below hbb)
  have K_kt := Lib.hid (K_kt.out.up hbb)
  have K_ks := Lib.hid (K_ks.out.up hbb)
  clear hv hb HLD HPT hbb EX8
  obtain ⟨np, hnp⟩ : ∃ np, (putX t.r).1.length = np := ⟨_, rfl⟩
  obtain ⟨xs, hxs⟩ : ∃ xs, (putX t.r).1 = xs := ⟨_, rfl⟩
  have HN_xs := Lib.hid hnp
  have HX_xs := Lib.hid hxs
  rw [hnp] at HC_xs ⊢
  rw [hxs] at HB_xs HN_xs
  clear hnp hxs
  have HLD : Hid ((loadVar 25 ⟨w.heap.size + 1, 0, none⟩).run Tryd.prog w2 = .ok (.agg (txA s)) w2) := box_tx E2.out (List.Mem.head _)
  have HPT : Hid (Calls Tryd.prog 12 #[.agg (txA s)] w2 fun e w' => (∃ v, e = .returned (.tuple #[v, .bool false]) ∧ OwnB w' w2.heap.size v (putX s.r).1) ∧ Below w2.heap.size w2 w') := by
    have h1 := HH.out.put s w2 K_ks.out (HT2.out.below (EnvX.bel E2.out))
    rwa [HP_s.out] at h1
  go_upto_region 7 with (fail)
  go_wp2_with ((with_reducible refine wpList_load_run (o := ⟨some 36, _, _, _, _, _⟩) ?_ 25 (.tmp 3) ?_ ⟨w.heap.size + 1, 0, none⟩ ?_ HLD.out ?_); (rfl); (rfl); (rfl))
  refine HPT.out.mono ?_
  rintro e w3 ⟨⟨v7, rfl, hv⟩, hb⟩
  obtain ⟨Aq, cq, rfl⟩ := hv.form
  have HB_ys := Lib.hid hv.bytes.2
  have HC_ys := Lib.hid hv.cap
  have hbb := (EnvX.below E2.out hb).bel
  have E3 : Hid (EnvX w3 w3 [(w.heap.size + 1, Obj.cells (txA s) 25 (0, 0)), (w.heap.size, Obj.cells (txA t) 25 (0, 0))]) := ⟨Below.refl _ _, (EnvX.below E2.out hb).box⟩
  have HB3 := Lib.hid (HB2.out.trans (hbb.mono HB2.out.size))
  have HT3 := Lib.hid (HT2.out.below hbb)
  have K_kt := Lib.hid (K_kt.out.up hbb)
  have K_ks := Lib.hid (K_ks.out.up hbb)
  have HB_xs := Lib.hid (HB_xs.out.up hbb)
  clear hv hb HLD HPT hbb E2
  obtain ⟨nq, hnp⟩ : ∃ np, (putX s.r).1.length = np := ⟨_, rfl⟩
  obtain ⟨ys, hxs⟩ : ∃ xs, (putX s.r).1 = xs := ⟨_, rfl⟩
  have HN_ys := Lib.hid hnp
  have HX_ys := Lib.hid hxs
  rw [hnp] at HC_ys ⊢
  rw [hxs] at HB_ys HN_ys
  clear hnp hxs
  go_upto_region 8 with (fail)
  refine wp_region_Hx (w0 := w3) [0, 1, 2, 3, 4, 5] [(w.heap.size + 1, Obj.cells (txA s) 25 (0, 0)), (w.heap.size, Obj.cells (txA t) 25 (0, 0))] rfl E3.out ?_
  refine lexH_phase [0, 1, 2, 3, 4, 5] [] ?_
  have hw601 : EnvX w3 _ [(w.heap.size + 1, Obj.cells (txA s) 25 (0, 0)), (w.heap.size, Obj.cells (txA t) 25 (0, 0))] := E3.out
  have hone := @EnvC.one _ _ _ hw601
  (refine wpG_op rfl rfl rfl ?_; intro K hK; go_big_quiet_op; go_big_quiet_on)
  (refine wpG_op rfl rfl rfl ?_; intro K hK; go_big_quiet_op; go_big_quiet_on)
  (refine wpG_op rfl rfl rfl ?_; intro K hK; go_big_quiet_op; go_big_quiet_on)
  (refine wpG_op rfl rfl rfl ?_; intro K hK; go_big_quiet_op; go_big_quiet_on)
  (refine wpG_op rfl rfl rfl ?_; intro K hK; go_big_quiet_op; go_big_quiet_on)
  (refine wpG_op rfl rfl rfl ?_; intro K hK; go_big_quiet_op; go_big_quiet_on)
  clear hone hw601
  refine wpG_nil ?_
  intro u603 E2'
  have EX602 := Lib.hid E2'
  clear E2'
  go_upto_region 9 with (fail)
  refine wp_region_Hx (w0 := w3) [0, 1, 2, 3, 4, 5, 6, 7] [(w.heap.size + 1, Obj.cells (txA s) 25 (0, 0)), (w.heap.size, Obj.cells (txA t) 25 (0, 0))] rfl EX602.out ?_
  refine lexH_phase [0, 1, 2, 3, 4, 5, 6, 7] [] ?_
  have hw604 : EnvX w3 _ [(w.heap.size + 1, Obj.cells (txA s) 25 (0, 0)), (w.heap.size, Obj.cells (txA t) 25 (0, 0))] := EX602.out
  have hone := @EnvC.one _ _ _ hw604
  (refine wpG_op rfl rfl rfl ?_; intro K hK; go_big_quiet_op; go_big_quiet_on)
  (refine wpG_op rfl rfl rfl ?_; intro K hK; go_big_quiet_op; go_big_quiet_on)
  (refine wpG_skip rfl rfl ?_ hw604; intro K hK; go_big_quiet_op; go_big_quiet_on)
  (refine wpG_skip rfl rfl ?_ hw604; intro K hK; go_big_quiet_op; go_big_quiet_on)
  (refine wpG_skip rfl rfl ?_ hw604; intro K hK; go_big_quiet_op; go_big_quiet_on)
  (refine wpG_skip rfl rfl ?_ hw604; intro K hK; go_big_quiet_op; go_big_quiet_on)
  (refine wpG_op rfl rfl rfl ?_; intro K hK; go_big_quiet_op; go_big_quiet_on)
  (refine wpG_op rfl rfl rfl ?_; intro K hK; go_big_quiet_op; go_big_quiet_on)
  clear hone hw604
  refine wpG_nil ?_
  intro u606 E2'
  have EX605 := Lib.hid E2'
  clear E2'
  have HBE := Lib.hid (HB3.out.trans ((EnvX.bel EX605.out).mono HB3.out.size))
  go_wp2
  go_ret
  exact ⟨rfl, HBE.out⟩
set_option maxRecDepth 20000 in
set_option maxHeartbeats 8000000 in
theorem law_sumsX_same (H : CoinC) (t s : TxM) (w : World) (kt : TxOk w t) (ks : TxOk w s) (ht : Tables w) (k1 : fewX t.r = true) (k2 : fewX s.r = true) (k3 : mayX t.r = true) (k4 : mayX s.r = true) (k5 : t.r = s.r) :
    Calls Tryd.prog 5 #[txV t, txV s] w fun e w' => e = .returned (.bool true) ∧ Below w.heap.size w w' := by
  have HF_t : Hid (fewX t.r = true) := k1
  have HF_s : Hid (fewX s.r = true) := k2
  have HP_t : Hid ((putX t.r).2 = true) := (putX_2 _).trans k3
  have HP_s : Hid ((putX s.r).2 = true) := (putX_2 _).trans k4
  have HIH : Hid ((idX t.r).length = 32) := (idX_id _).1
  have HZ32 : Hid (z32.length = 32) := by show _ = _; rfl
  have HIG : Hid ((idX s.r).length = 32) := (idX_id _).1
  have HFt : Hid (0 < (putX t.r).1.length ∧ (putX t.r).1.length ≤ 122 ∧ isB (putX t.r).1 ∧ idX t.r = sumL (6 :: (putX t.r).1)) := ⟨putX_pos kt.ok k3, putX_len kt.ok, putX_byte kt.ok, by rw [putX_yes k3]; unfold idX; rw [k3]; rfl⟩
  have HFs : Hid (0 < (putX s.r).1.length ∧ (putX s.r).1.length ≤ 122 ∧ isB (putX s.r).1 ∧ idX s.r = sumL (6 :: (putX s.r).1)) := ⟨putX_pos ks.ok k4, putX_len ks.ok, putX_byte ks.ok, by rw [putX_yes k4]; unfold idX; rw [k4]; rfl⟩
  have HSA : Hid (sameX t.r s.r = true) := decide_eq_true k5
  clear k5
  have E0 : Hid (EnvX w ((w.alloc (.cells (txA t) 25)).alloc (.cells (txA s) 25)) [(w.heap.size + 1, Obj.cells (txA s) 25 (0, 0)), (w.heap.size, Obj.cells (txA t) 25 (0, 0))]) := (EnvX.start w).two _ _
  have HAW := Lib.hid (cawake_any H ((w.alloc (.cells (txA t) 25)).alloc (.cells (txA s) 25)) (ht.below (EnvX.bel E0.out)))
  have HT := Lib.hid ht
  have HH := Lib.hid H
  have J_kt := Lib.hid kt
  have J_ks := Lib.hid ks
  clear ht H kt ks k1 k2 k3 k4
  unfold txV
  go_enter Tryd.func5, Tryd.ntmps5
  go_upto_region 1 with (fail)
  generalize ((w.alloc (.cells (txA t) 25)).alloc (.cells (txA s) 25)) = W at *
  go_wp2_with fail
  refine HAW.out.mono ?_
  rintro e w1 ⟨rfl, hb1⟩
  have HB1 := Lib.hid (EnvX.below E0.out hb1).bel
  have E1 : Hid (EnvX w1 w1 [(w.heap.size + 1, Obj.cells (txA s) 25 (0, 0)), (w.heap.size, Obj.cells (txA t) 25 (0, 0))]) := ⟨Below.refl _ _, (EnvX.below E0.out hb1).box⟩
  have HT1 := Lib.hid (HT.out.below HB1.out)
  have K_kt := Lib.hid (J_kt.out.up HB1.out)
  have K_ks := Lib.hid (J_ks.out.up HB1.out)
  clear hb1 E0 HAW HT J_kt J_ks
  go_upto_region 2 with (fail)
  refine wp_region_Hx (w0 := w1) [0, 1, 2] [(w.heap.size + 1, Obj.cells (txA s) 25 (0, 0)), (w.heap.size, Obj.cells (txA t) 25 (0, 0))] rfl E1.out ?_
  refine lexH_phase [0, 1, 2] [] ?_
  have hw1 : EnvX w1 _ [(w.heap.size + 1, Obj.cells (txA s) 25 (0, 0)), (w.heap.size, Obj.cells (txA t) 25 (0, 0))] := E1.out
  have hone := @EnvC.one _ _ _ hw1
  (refine wpG_val (v := txV t) rfl rfl (fun u hu => load_any_op u (box_tx hu (List.Mem.tail _ (List.Mem.head _))) rfl) ?_ hw1; intro K hK; go_big_quiet_op; go_big_quiet_on)
  (refine wpG_call (f := 10) (args := #[txV t]) (v := .bool true) rfl rfl rfl Tryd.func10 rfl rfl (fun u hu => by have h1 := few_any t u (K_kt.out.up (EnvX.bel hu)); rwa [HF_t.out] at h1) ?_ hw1; intro K hK; go_big_quiet_op; go_big_quiet_on)
  (refine wpG_op rfl rfl rfl ?_; intro K hK; go_big_quiet_op; go_big_quiet_on)
  clear hone hw1
  refine wpG_nil ?_
  intro u3 E2'
  have EX2 := Lib.hid E2'
  clear E2'
  go_upto_region 3 with (fail)
  refine wp_region_Hx (w0 := w1) [0, 1, 2] [(w.heap.size + 1, Obj.cells (txA s) 25 (0, 0)), (w.heap.size, Obj.cells (txA t) 25 (0, 0))] rfl EX2.out ?_
  refine lexH_phase [0, 1, 2] [] ?_
  have hw4 : EnvX w1 _ [(w.heap.size + 1, Obj.cells (txA s) 25 (0, 0)), (w.heap.size, Obj.cells (txA t) 25 (0, 0))] := EX2.out
  have hone := @EnvC.one _ _ _ hw4
  (refine wpG_val (v := txV s) rfl rfl (fun u hu => load_any_op u (box_tx hu (List.Mem.head _)) rfl) ?_ hw4; intro K hK; go_big_quiet_op; go_big_quiet_on)
  (refine wpG_call (f := 10) (args := #[txV s]) (v := .bool true) rfl rfl rfl Tryd.func10 rfl rfl (fun u hu => by have h1 := few_any s u (K_ks.out.up (EnvX.bel hu)); rwa [HF_s.out] at h1) ?_ hw4; intro K hK; go_big_quiet_op; go_big_quiet_on)
  (refine wpG_op rfl rfl rfl ?_; intro K hK; go_big_quiet_op; go_big_quiet_on)
  clear hone hw4
  refine wpG_nil ?_
  intro u6 E2'
  have EX5 := Lib.hid E2'
  clear E2'
  go_upto_region 4 with (fail)
  refine wp_region_Hx (w0 := w1) [0, 1, 2, 3, 4, 5, 6, 7, 8, 9] [(w.heap.size + 1, Obj.cells (txA s) 25 (0, 0)), (w.heap.size, Obj.cells (txA t) 25 (0, 0))] rfl EX5.out ?_
  refine lexH_phase [0, 1, 2, 3, 4, 5, 6, 7, 8, 9] [] ?_
  have hw7 : EnvX w1 _ [(w.heap.size + 1, Obj.cells (txA s) 25 (0, 0)), (w.heap.size, Obj.cells (txA t) 25 (0, 0))] := EX5.out
  have hone := @EnvC.one _ _ _ hw7
  (refine wpG_op rfl rfl rfl ?_; intro K hK; go_big_quiet_op; go_big_quiet_on)
  (refine wpG_op rfl rfl rfl ?_; intro K hK; go_big_quiet_op; go_big_quiet_on)
  (refine wpG_op rfl rfl rfl ?_; intro K hK; go_big_quiet_op; go_big_quiet_on)
  (refine wpG_op rfl rfl rfl ?_; intro K hK; go_big_quiet_op; go_big_quiet_on)
  (refine wpG_op rfl rfl rfl ?_; intro K hK; go_big_quiet_op; go_big_quiet_on)
  (refine wpG_op rfl rfl rfl ?_; intro K hK; go_big_quiet_op; go_big_quiet_on)
  (refine wpG_op rfl rfl rfl ?_; intro K hK; go_big_quiet_op; go_big_quiet_on)
  (refine wpG_op rfl rfl rfl ?_; intro K hK; go_big_quiet_op; go_big_quiet_on)
  (refine wpG_op rfl rfl rfl ?_; intro K hK; go_big_quiet_op; go_big_quiet_on)
  (refine wpG_op rfl rfl rfl ?_; intro K hK; go_big_quiet_op; go_big_quiet_on)
  clear hone hw7
  refine wpG_nil ?_
  intro u9 E2'
  have EX8 := Lib.hid E2'
  clear E2'
  have HLD : Hid ((loadVar 25 ⟨w.heap.size, 0, none⟩).run Tryd.prog u9 = .ok (.agg (txA t)) u9) := box_tx EX8.out (List.Mem.tail _ (List.Mem.head _))
  have HPT : Hid (Calls Tryd.prog 12 #[.agg (txA t)] u9 fun e w' => (∃ v, e = .returned (.tuple #[v, .bool true]) ∧ OwnB w' u9.heap.size v (putX t.r).1) ∧ Below u9.heap.size u9 w') := by
    have h1 := HH.out.put t u9 (K_kt.out.up EX8.out.bel) (HT1.out.below (EnvX.bel EX8.out))
    rwa [HP_t.out] at h1
  go_upto_region 6 with (fail)
  go_wp2_with ((with_reducible refine wpList_load_run (o := ⟨some 31, _, _, _, _, _⟩) ?_ 25 (.tmp 2) ?_ ⟨w.heap.size, 0, none⟩ ?_ HLD.out ?_); (rfl); (rfl); (rfl))
  refine HPT.out.mono ?_
  rintro e w2 ⟨⟨v6, rfl, hv⟩, hb⟩
  obtain ⟨Ap, cp, rfl⟩ := hv.form
  have HB_xs := Lib.hid hv.bytes.2
  have HC_xs := Lib.hid hv.cap
  have hbb := (EnvX.below EX8.out hb).bel
  have E2 : Hid (EnvX w2 w2 [(w.heap.size + 1, Obj.cells (txA s) 25 (0, 0)), (w.heap.size, Obj.cells (txA t) 25 (0, 0))]) := ⟨Below.refl _ _, (EnvX.below EX8.out hb).box⟩
  have HB2 := Lib.hid (HB1.out.trans (hbb.mono HB1.out.size))
  have HT2 := Lib.hid (HT1.out.below hbb)
  have K_kt := Lib.hid (K_kt.out.up hbb)
  have K_ks := Lib.hid (K_ks.out.up hbb)
  clear hv hb HLD HPT hbb EX8
  obtain ⟨np, hnp⟩ : ∃ np, (putX t.r).1.length = np := ⟨_, rfl⟩
  obtain ⟨xs, hxs⟩ : ∃ xs, (putX t.r).1 = xs := ⟨_, rfl⟩
  have HN_xs := Lib.hid hnp
  have HX_xs := Lib.hid hxs
  rw [hnp] at HC_xs ⊢
  rw [hxs] at HB_xs HN_xs
  clear hnp hxs
  have HLD : Hid ((loadVar 25 ⟨w.heap.size + 1, 0, none⟩).run Tryd.prog w2 = .ok (.agg (txA s)) w2) := box_tx E2.out (List.Mem.head _)
  have HPT : Hid (Calls Tryd.prog 12 #[.agg (txA s)] w2 fun e w' => (∃ v, e = .returned (.tuple #[v, .bool true]) ∧ OwnB w' w2.heap.size v (putX s.r).1) ∧ Below w2.heap.size w2 w') := by
    have h1 := HH.out.put s w2 K_ks.out (HT2.out.below (EnvX.bel E2.out))
    rwa [HP_s.out] at h1
  go_upto_region 7 with (fail)
  go_wp2_with ((with_reducible refine wpList_load_run (o := ⟨some 36, _, _, _, _, _⟩) ?_ 25 (.tmp 3) ?_ ⟨w.heap.size + 1, 0, none⟩ ?_ HLD.out ?_); (rfl); (rfl); (rfl))
  refine HPT.out.mono ?_
  rintro e w3 ⟨⟨v7, rfl, hv⟩, hb⟩
  obtain ⟨Aq, cq, rfl⟩ := hv.form
  have HB_ys := Lib.hid hv.bytes.2
  have HC_ys := Lib.hid hv.cap
  have hbb := (EnvX.below E2.out hb).bel
  have E3 : Hid (EnvX w3 w3 [(w.heap.size + 1, Obj.cells (txA s) 25 (0, 0)), (w.heap.size, Obj.cells (txA t) 25 (0, 0))]) := ⟨Below.refl _ _, (EnvX.below E2.out hb).box⟩
  have HB3 := Lib.hid (HB2.out.trans (hbb.mono HB2.out.size))
  have HT3 := Lib.hid (HT2.out.below hbb)
  have K_kt := Lib.hid (K_kt.out.up hbb)
  have K_ks := Lib.hid (K_ks.out.up hbb)
  have HB_xs := Lib.hid (HB_xs.out.up hbb)
  clear hv hb HLD HPT hbb E2
  obtain ⟨nq, hnp⟩ : ∃ np, (putX s.r).1.length = np := ⟨_, rfl⟩
  obtain ⟨ys, hxs⟩ : ∃ xs, (putX s.r).1 = xs := ⟨_, rfl⟩
  have HN_ys := Lib.hid hnp
  have HX_ys := Lib.hid hxs
  rw [hnp] at HC_ys ⊢
  rw [hxs] at HB_ys HN_ys
  clear hnp hxs
  go_upto_region 8 with (fail)
  refine wp_region_Hx (w0 := w3) [0, 1, 2, 3, 4, 5] [(w.heap.size + 1, Obj.cells (txA s) 25 (0, 0)), (w.heap.size, Obj.cells (txA t) 25 (0, 0))] rfl E3.out ?_
  refine lexH_phase [0, 1, 2, 3, 4, 5] [] ?_
  have hw601 : EnvX w3 _ [(w.heap.size + 1, Obj.cells (txA s) 25 (0, 0)), (w.heap.size, Obj.cells (txA t) 25 (0, 0))] := E3.out
  have hone := @EnvC.one _ _ _ hw601
  (refine wpG_op rfl rfl rfl ?_; intro K hK; go_big_quiet_op; go_big_quiet_on)
  (refine wpG_op rfl rfl rfl ?_; intro K hK; go_big_quiet_op; go_big_quiet_on)
  (refine wpG_op rfl rfl rfl ?_; intro K hK; go_big_quiet_op; go_big_quiet_on)
  (refine wpG_op rfl rfl rfl ?_; intro K hK; go_big_quiet_op; go_big_quiet_on)
  (refine wpG_op rfl rfl rfl ?_; intro K hK; go_big_quiet_op; go_big_quiet_on)
  (refine wpG_op rfl rfl rfl ?_; intro K hK; go_big_quiet_op; go_big_quiet_on)
  clear hone hw601
  refine wpG_nil ?_
  intro u603 E2'
  have EX602 := Lib.hid E2'
  clear E2'
  rw [HX_xs.out] at HFt
  rw [HX_ys.out] at HFs
  obtain ⟨ap, rfl⟩ := HB_xs.out.atSome HFt.out.1
  obtain ⟨aq, rfl⟩ := HB_ys.out.atSome HFs.out.1
  have HNp : Hid (1 ≤ np ∧ np ≤ 122) := by have h1 := HFt.out; have h2 := HN_xs.out; rw [h2] at h1; exact ⟨h1.1, h1.2.1⟩
  have HNq : Hid (1 ≤ nq ∧ nq ≤ 122) := by have h1 := HFs.out; have h2 := HN_ys.out; rw [h2] at h1; exact ⟨h1.1, h1.2.1⟩
  go_upto_region 10 with (fail)
  refine wp_region_Hx (w0 := w3) [0, 1, 2, 3] [(w.heap.size + 1, Obj.cells (txA s) 25 (0, 0)), (w.heap.size, Obj.cells (txA t) 25 (0, 0))] rfl EX602.out ?_
  refine (hOp_fresh (R := fun v N => ∃ g, v = .slice (some ⟨g, 0, none⟩) 1 1 ∧ N = [(g, Obj.cells #[.int .u8 6] 5 (0, 0))]) (M0 := [(w.heap.size + 1, Obj.cells (txA s) 25 (0, 0)), (w.heap.size, Obj.cells (txA t) 25 (0, 0))]) rfl rfl (fun _ h => h) (fun u hu => FAt_byte1 6 u) ?_)
  rintro _ _ ⟨g610, rfl, rfl⟩ hf he604; intro K' hK'; go_big_quiet_op; go_big_quiet_on
  have HGg610 := Lib.hid (hf _ (List.mem_singleton.2 rfl))
  clear hf
  change lexH _ _ _ _ _ _ [(g610, Obj.cells #[.int .u8 6] 5 (0, 0)), (w.heap.size + 1, Obj.cells (txA s) 25 (0, 0)), (w.heap.size, Obj.cells (txA t) 25 (0, 0))]
  refine lexH_phase [1] [2, 3] ?_
  have hw605 : EnvX w3 _ [(g610, Obj.cells #[.int .u8 6] 5 (0, 0)), (w.heap.size + 1, Obj.cells (txA s) 25 (0, 0)), (w.heap.size, Obj.cells (txA t) 25 (0, 0))] := he604.choose_spec
  have hone := @EnvC.one _ _ _ hw605
  (refine wpG_op rfl rfl rfl ?_; intro K hK; go_big_quiet_op; go_big_quiet_on)
  clear hone hw605
  refine wpG_nil ?_
  refine (hOp_own (gd := none) (R := GrownR w3 5 1 (1 + np) ([.int .u8 6] ++ xs.map u8v) [(w.heap.size + 1, Obj.cells (txA s) 25 (0, 0)), (w.heap.size, Obj.cells (txA t) 25 (0, 0))]) rfl rfl rfl rfl (fun u hu => appX_op elB [(w.heap.size + 1, Obj.cells (txA s) 25 (0, 0)), (w.heap.size, Obj.cells (txA t) 25 (0, 0))] hu (n := 1) rfl (by rw [List.length_map, HN_xs.out, Nat.mul_one]) u8_one (.inl ⟨g610, 1, #[.int .u8 6], rfl, rfl, by decide, by decide, rfl, rfl⟩) (List.forall_mem_cons.2 ⟨⟨(List.Mem.head _), HGg610.out.1⟩, (fun _ h => by cases h)⟩) ((HB_xs.out.up (EnvX.bel hu)).src (by rw [HN_xs.out]; have := HNp.out; omega)) (List.forall_mem_cons.2 ⟨⟨(List.Mem.tail _ (List.Mem.head _)), fun y hy => by cases List.mem_singleton.1 hy; exact HGg610.out.2 _ (List.Mem.head _)⟩, (List.forall_mem_cons.2 ⟨⟨(List.Mem.tail _ (List.Mem.tail _ (List.Mem.head _))), fun y hy => by cases List.mem_singleton.1 hy; exact HGg610.out.2 _ (List.Mem.tail _ (List.Mem.head _))⟩, (fun _ h => by cases h)⟩)⟩) (by have := HNp.out; omega) rfl rfl) ?_)
  rintro x M' ⟨N, rfl, hF, hn⟩ he606; intro K' hK'; go_big_quiet_op; go_big_quiet_on
  obtain ⟨ga, capga, curga, rfl, rfl, hcga⟩ | ⟨_, _, h0, _⟩ := hF
  case inr => omega
  have HCga := Lib.hid hcga
  clear hcga hn
  change lexH _ _ _ _ _ _ [(ga, Obj.cells curga 5 (0, 0)), (w.heap.size + 1, Obj.cells (txA s) 25 (0, 0)), (w.heap.size, Obj.cells (txA t) 25 (0, 0))]
  refine lexH_phase [3] [] ?_
  have hw607 : EnvX w3 _ [(ga, Obj.cells curga 5 (0, 0)), (w.heap.size + 1, Obj.cells (txA s) 25 (0, 0)), (w.heap.size, Obj.cells (txA t) 25 (0, 0))] := he606.choose_spec
  have hone := @EnvC.one _ _ _ hw607
  (refine wpG_op rfl rfl rfl ?_; intro K hK; go_big_quiet_op; go_big_quiet_on)
  clear hone hw607
  refine wpG_nil ?_
  intro u609 E2'
  have EX608 := Lib.hid E2'
  clear E2'
  go_upto_region 11 with (fail)
  refine wp_region_Hx (w0 := w3) [0, 1, 2, 3] [(ga, Obj.cells curga 5 (0, 0)), (w.heap.size + 1, Obj.cells (txA s) 25 (0, 0)), (w.heap.size, Obj.cells (txA t) 25 (0, 0))] rfl EX608.out ?_
  refine (hOp_fresh (R := fun v N => ∃ g, v = .slice (some ⟨g, 0, none⟩) 1 1 ∧ N = [(g, Obj.cells #[.int .u8 6] 5 (0, 0))]) (M0 := [(ga, Obj.cells curga 5 (0, 0)), (w.heap.size + 1, Obj.cells (txA s) 25 (0, 0)), (w.heap.size, Obj.cells (txA t) 25 (0, 0))]) rfl rfl (fun _ h => h) (fun u hu => FAt_byte1 6 u) ?_)
  rintro _ _ ⟨g611, rfl, rfl⟩ hf he610; intro K' hK'; go_big_quiet_op; go_big_quiet_on
  have HGg611 := Lib.hid (hf _ (List.mem_singleton.2 rfl))
  clear hf
  change lexH _ _ _ _ _ _ [(g611, Obj.cells #[.int .u8 6] 5 (0, 0)), (ga, Obj.cells curga 5 (0, 0)), (w.heap.size + 1, Obj.cells (txA s) 25 (0, 0)), (w.heap.size, Obj.cells (txA t) 25 (0, 0))]
  refine lexH_phase [1] [2, 3] ?_
  have hw611 : EnvX w3 _ [(g611, Obj.cells #[.int .u8 6] 5 (0, 0)), (ga, Obj.cells curga 5 (0, 0)), (w.heap.size + 1, Obj.cells (txA s) 25 (0, 0)), (w.heap.size, Obj.cells (txA t) 25 (0, 0))] := he610.choose_spec
  have hone := @EnvC.one _ _ _ hw611
  (refine wpG_op rfl rfl rfl ?_; intro K hK; go_big_quiet_op; go_big_quiet_on)
  clear hone hw611
  refine wpG_nil ?_
  refine (hOp_own (gd := none) (R := GrownR w3 5 1 (1 + nq) ([.int .u8 6] ++ ys.map u8v) [(ga, Obj.cells curga 5 (0, 0)), (w.heap.size + 1, Obj.cells (txA s) 25 (0, 0)), (w.heap.size, Obj.cells (txA t) 25 (0, 0))]) rfl rfl rfl rfl (fun u hu => appX_op elB [(ga, Obj.cells curga 5 (0, 0)), (w.heap.size + 1, Obj.cells (txA s) 25 (0, 0)), (w.heap.size, Obj.cells (txA t) 25 (0, 0))] hu (n := 1) rfl (by rw [List.length_map, HN_ys.out, Nat.mul_one]) u8_one (.inl ⟨g611, 1, #[.int .u8 6], rfl, rfl, by decide, by decide, rfl, rfl⟩) (List.forall_mem_cons.2 ⟨⟨(List.Mem.head _), HGg611.out.1⟩, (fun _ h => by cases h)⟩) ((HB_ys.out.up (EnvX.bel hu)).src (by rw [HN_ys.out]; have := HNq.out; omega)) (List.forall_mem_cons.2 ⟨⟨(List.Mem.tail _ (List.Mem.head _)), fun y hy => by cases List.mem_singleton.1 hy; exact HGg611.out.2 _ (List.Mem.head _)⟩, (List.forall_mem_cons.2 ⟨⟨(List.Mem.tail _ (List.Mem.tail _ (List.Mem.head _))), fun y hy => by cases List.mem_singleton.1 hy; exact HGg611.out.2 _ (List.Mem.tail _ (List.Mem.head _))⟩, (List.forall_mem_cons.2 ⟨⟨(List.Mem.tail _ (List.Mem.tail _ (List.Mem.tail _ (List.Mem.head _)))), fun y hy => by cases List.mem_singleton.1 hy; exact HGg611.out.2 _ (List.Mem.tail _ (List.Mem.tail _ (List.Mem.head _)))⟩, (fun _ h => by cases h)⟩)⟩)⟩) (by have := HNq.out; omega) rfl rfl) ?_)
  rintro x M' ⟨N, rfl, hF, hn⟩ he612; intro K' hK'; go_big_quiet_op; go_big_quiet_on
  obtain ⟨gb, capgb, curgb, rfl, rfl, hcgb⟩ | ⟨_, _, h0, _⟩ := hF
  case inr => omega
  have HCgb := Lib.hid hcgb
  clear hcgb hn
  change lexH _ _ _ _ _ _ [(gb, Obj.cells curgb 5 (0, 0)), (ga, Obj.cells curga 5 (0, 0)), (w.heap.size + 1, Obj.cells (txA s) 25 (0, 0)), (w.heap.size, Obj.cells (txA t) 25 (0, 0))]
  refine lexH_phase [3] [] ?_
  have hw613 : EnvX w3 _ [(gb, Obj.cells curgb 5 (0, 0)), (ga, Obj.cells curga 5 (0, 0)), (w.heap.size + 1, Obj.cells (txA s) 25 (0, 0)), (w.heap.size, Obj.cells (txA t) 25 (0, 0))] := he612.choose_spec
  have hone := @EnvC.one _ _ _ hw613
  (refine wpG_op rfl rfl rfl ?_; intro K hK; go_big_quiet_op; go_big_quiet_on)
  clear hone hw613
  refine wpG_nil ?_
  intro u615 E2'
  have EX614 := Lib.hid E2'
  clear E2'
  have HTx : Hid ((6 :: xs).length = 1 + np ∧ isB (6 :: xs)) := ⟨by rw [List.length_cons, HN_xs.out]; omega, six_ok HFt.out.2.2.1⟩
  have HTy : Hid ((6 :: ys).length = 1 + nq ∧ isB (6 :: ys)) := ⟨by rw [List.length_cons, HN_ys.out]; omega, six_ok HFs.out.2.2.1⟩
  have HEH : Hid ((!eqL (idX t.r) (sumL (6 :: xs))) = false) := by show _ = _; rw [HFt.out.2.2.2]; simp [eqL]
  have HEG : Hid ((!eqL (idX s.r) (sumL (6 :: ys))) = false) := by show _ = _; rw [HFs.out.2.2.2]; simp [eqL]
  have HSH : Hid ((sumL (6 :: xs)).length = 32) := sumL_len _
  have HSG : Hid ((sumL (6 :: ys)).length = 32) := sumL_len _
  go_upto_region 12 with (fail)
  refine wp_region_Hx (w0 := w3) [0, 1, 2, 3, 4, 5, 6, 7, 8, 9, 10, 11] [(gb, Obj.cells curgb 5 (0, 0)), (ga, Obj.cells curga 5 (0, 0)), (w.heap.size + 1, Obj.cells (txA s) 25 (0, 0)), (w.heap.size, Obj.cells (txA t) 25 (0, 0))] rfl EX614.out ?_
  refine lexH_phase [0, 1, 2, 3, 4, 5, 6, 7, 8, 9, 10, 11] [] ?_
  have hw616 : EnvX w3 _ [(gb, Obj.cells curgb 5 (0, 0)), (ga, Obj.cells curga 5 (0, 0)), (w.heap.size + 1, Obj.cells (txA s) 25 (0, 0)), (w.heap.size, Obj.cells (txA t) 25 (0, 0))] := EX614.out
  have hone := @EnvC.one _ _ _ hw616
  (refine wpG_val (v := txV t) rfl rfl (fun u hu => load_any_op u (box_tx hu (List.Mem.tail _ (List.Mem.tail _ (List.Mem.tail _ (List.Mem.head _))))) rfl) ?_ hw616; intro K hK; go_big_quiet_op; go_big_quiet_on)
  (refine wpG_call (f := 20) (args := #[txV t]) (v := idv (idX t.r)) rfl rfl rfl Tryd.func20 rfl rfl (fun u hu => HH.out.id t u (K_kt.out.up (EnvX.bel hu)) (HT3.out.below (EnvX.bel hu))) ?_ hw616; intro K hK; go_big_quiet_op; go_big_quiet_on)
  (refine wpG_op rfl rfl rfl ?_; intro K hK; go_big_quiet_op; go_big_quiet_on)
  (refine wpG_call (f := 24) (args := #[.slice (some ⟨ga, 0, none⟩) (1 + np) capga]) (v := idv (sumL (6 :: xs))) rfl rfl rfl Tryd.func24 rfl rfl (fun u hu => sum_any (some ⟨ga, 0, none⟩) (1 + np) capga (6 :: xs) u HTx.out.1 (by have := HNp.out; omega) (boxR_bytes hu (List.Mem.tail _ (List.Mem.head _)) HTx.out.1 HCga.out) HTx.out.2 (HT3.out.below (EnvX.bel hu))) ?_ hw616; intro K hK; go_big_quiet_op; go_big_quiet_on)
  (refine wpG_val (v := .bool false) rfl rfl (fun u hu => neqb_op HIH.out HSH.out HEH.out u rfl rfl) ?_ hw616; intro K hK; go_big_quiet_op; go_big_quiet_on)
  (refine wpG_op rfl rfl rfl ?_; intro K hK; go_big_quiet_op; go_big_quiet_on)
  (refine wpG_val (v := txV s) rfl rfl (fun u hu => load_any_op u (box_tx hu (List.Mem.tail _ (List.Mem.tail _ (List.Mem.head _)))) rfl) ?_ hw616; intro K hK; go_big_quiet_op; go_big_quiet_on)
  (refine wpG_call (f := 20) (args := #[txV s]) (v := idv (idX s.r)) rfl rfl rfl Tryd.func20 rfl rfl (fun u hu => HH.out.id s u (K_ks.out.up (EnvX.bel hu)) (HT3.out.below (EnvX.bel hu))) ?_ hw616; intro K hK; go_big_quiet_op; go_big_quiet_on)
  (refine wpG_op rfl rfl rfl ?_; intro K hK; go_big_quiet_op; go_big_quiet_on)
  (refine wpG_call (f := 24) (args := #[.slice (some ⟨gb, 0, none⟩) (1 + nq) capgb]) (v := idv (sumL (6 :: ys))) rfl rfl rfl Tryd.func24 rfl rfl (fun u hu => sum_any (some ⟨gb, 0, none⟩) (1 + nq) capgb (6 :: ys) u HTy.out.1 (by have := HNq.out; omega) (boxR_bytes hu (List.Mem.head _) HTy.out.1 HCgb.out) HTy.out.2 (HT3.out.below (EnvX.bel hu))) ?_ hw616; intro K hK; go_big_quiet_op; go_big_quiet_on)
  (refine wpG_val (v := .bool false) rfl rfl (fun u hu => neqb_op HIG.out HSG.out HEG.out u rfl rfl) ?_ hw616; intro K hK; go_big_quiet_op; go_big_quiet_on)
  (refine wpG_op rfl rfl rfl ?_; intro K hK; go_big_quiet_op; go_big_quiet_on)
  clear hone hw616
  refine wpG_nil ?_
  intro u618 E2'
  have EX617 := Lib.hid E2'
  clear E2'
  go_upto_region 14 with (fail)
  refine wp_region_Hx (w0 := w3) [0, 1, 2, 3, 4, 5, 6, 7, 8, 9, 10] [(gb, Obj.cells curgb 5 (0, 0)), (ga, Obj.cells curga 5 (0, 0)), (w.heap.size + 1, Obj.cells (txA s) 25 (0, 0)), (w.heap.size, Obj.cells (txA t) 25 (0, 0))] rfl EX617.out ?_
  refine lexH_phase [0, 1, 2, 3, 4, 5, 6, 7, 8, 9, 10] [] ?_
  have hw619 : EnvX w3 _ [(gb, Obj.cells curgb 5 (0, 0)), (ga, Obj.cells curga 5 (0, 0)), (w.heap.size + 1, Obj.cells (txA s) 25 (0, 0)), (w.heap.size, Obj.cells (txA t) 25 (0, 0))] := EX617.out
  have hone := @EnvC.one _ _ _ hw619
  (refine wpG_val (v := txV t) rfl rfl (fun u hu => load_any_op u (box_tx hu (List.Mem.tail _ (List.Mem.tail _ (List.Mem.tail _ (List.Mem.head _))))) rfl) ?_ hw619; intro K hK; go_big_quiet_op; go_big_quiet_on)
  (refine wpG_val (v := txV s) rfl rfl (fun u hu => load_any_op u (box_tx hu (List.Mem.tail _ (List.Mem.tail _ (List.Mem.head _)))) rfl) ?_ hw619; intro K hK; go_big_quiet_op; go_big_quiet_on)
  (refine wpG_call (f := 19) (args := #[txV t, txV s]) (v := .bool true) rfl rfl rfl Tryd.func19 rfl rfl (fun u hu => by have h1 := HH.out.same t s u (K_kt.out.up (EnvX.bel hu)) (K_ks.out.up (EnvX.bel hu)) (HT3.out.below (EnvX.bel hu)); rwa [HSA.out] at h1) ?_ hw619; intro K hK; go_big_quiet_op; go_big_quiet_on)
  (refine wpG_op rfl rfl rfl ?_; intro K hK; go_big_quiet_op; go_big_quiet_on)
  (refine wpG_skip rfl rfl ?_ hw619; intro K hK; go_big_quiet_op; go_big_quiet_on)
  (refine wpG_skip rfl rfl ?_ hw619; intro K hK; go_big_quiet_op; go_big_quiet_on)
  (refine wpG_skip rfl rfl ?_ hw619; intro K hK; go_big_quiet_op; go_big_quiet_on)
  (refine wpG_skip rfl rfl ?_ hw619; intro K hK; go_big_quiet_op; go_big_quiet_on)
  (refine wpG_skip rfl rfl ?_ hw619; intro K hK; go_big_quiet_op; go_big_quiet_on)
  (refine wpG_op rfl rfl rfl ?_; intro K hK; go_big_quiet_op; go_big_quiet_on)
  (refine wpG_op rfl rfl rfl ?_; intro K hK; go_big_quiet_op; go_big_quiet_on)
  clear hone hw619
  refine wpG_nil ?_
  intro u621 E2'
  have EX620 := Lib.hid E2'
  clear E2'
  have HBE := Lib.hid (HB3.out.trans ((EnvX.bel EX620.out).mono HB3.out.size))
  go_wp2
  go_ret
  exact ⟨rfl, HBE.out⟩
set_option maxRecDepth 20000 in
set_option maxHeartbeats 8000000 in
theorem law_sumsX_texts (H : CoinC) (t s : TxM) (w : World) (kt : TxOk w t) (ks : TxOk w s) (ht : Tables w) (k1 : fewX t.r = true) (k2 : fewX s.r = true) (k3 : mayX t.r = true) (k4 : mayX s.r = true) (k5 : t.r ≠ s.r) :
    Calls Tryd.prog 5 #[txV t, txV s] w fun e w' => e = .returned (.bool true) ∧ Below w.heap.size w w' := by
  have HF_t : Hid (fewX t.r = true) := k1
  have HF_s : Hid (fewX s.r = true) := k2
  have HP_t : Hid ((putX t.r).2 = true) := (putX_2 _).trans k3
  have HP_s : Hid ((putX s.r).2 = true) := (putX_2 _).trans k4
  have HIH : Hid ((idX t.r).length = 32) := (idX_id _).1
  have HZ32 : Hid (z32.length = 32) := by show _ = _; rfl
  have HIG : Hid ((idX s.r).length = 32) := (idX_id _).1
  have HFt : Hid (0 < (putX t.r).1.length ∧ (putX t.r).1.length ≤ 122 ∧ isB (putX t.r).1 ∧ idX t.r = sumL (6 :: (putX t.r).1)) := ⟨putX_pos kt.ok k3, putX_len kt.ok, putX_byte kt.ok, by rw [putX_yes k3]; unfold idX; rw [k3]; rfl⟩
  have HFs : Hid (0 < (putX s.r).1.length ∧ (putX s.r).1.length ≤ 122 ∧ isB (putX s.r).1 ∧ idX s.r = sumL (6 :: (putX s.r).1)) := ⟨putX_pos ks.ok k4, putX_len ks.ok, putX_byte ks.ok, by rw [putX_yes k4]; unfold idX; rw [k4]; rfl⟩
  have HSA : Hid (sameX t.r s.r = false) := decide_eq_false k5
  have HNE : Hid (6 :: (putX t.r).1 ≠ 6 :: (putX s.r).1) := fun e => k5 (bodyX_inj kt.ok ks.ok k3 k4 (by have := (List.cons.inj e).2; rwa [putX_yes k3, putX_yes k4] at this))
  clear k5
  have E0 : Hid (EnvX w ((w.alloc (.cells (txA t) 25)).alloc (.cells (txA s) 25)) [(w.heap.size + 1, Obj.cells (txA s) 25 (0, 0)), (w.heap.size, Obj.cells (txA t) 25 (0, 0))]) := (EnvX.start w).two _ _
  have HAW := Lib.hid (cawake_any H ((w.alloc (.cells (txA t) 25)).alloc (.cells (txA s) 25)) (ht.below (EnvX.bel E0.out)))
  have HT := Lib.hid ht
  have HH := Lib.hid H
  have J_kt := Lib.hid kt
  have J_ks := Lib.hid ks
  clear ht H kt ks k1 k2 k3 k4
  unfold txV
  go_enter Tryd.func5, Tryd.ntmps5
  go_upto_region 1 with (fail)
  generalize ((w.alloc (.cells (txA t) 25)).alloc (.cells (txA s) 25)) = W at *
  go_wp2_with fail
  refine HAW.out.mono ?_
  rintro e w1 ⟨rfl, hb1⟩
  have HB1 := Lib.hid (EnvX.below E0.out hb1).bel
  have E1 : Hid (EnvX w1 w1 [(w.heap.size + 1, Obj.cells (txA s) 25 (0, 0)), (w.heap.size, Obj.cells (txA t) 25 (0, 0))]) := ⟨Below.refl _ _, (EnvX.below E0.out hb1).box⟩
  have HT1 := Lib.hid (HT.out.below HB1.out)
  have K_kt := Lib.hid (J_kt.out.up HB1.out)
  have K_ks := Lib.hid (J_ks.out.up HB1.out)
  clear hb1 E0 HAW HT J_kt J_ks
  go_upto_region 2 with (fail)
  refine wp_region_Hx (w0 := w1) [0, 1, 2] [(w.heap.size + 1, Obj.cells (txA s) 25 (0, 0)), (w.heap.size, Obj.cells (txA t) 25 (0, 0))] rfl E1.out ?_
  refine lexH_phase [0, 1, 2] [] ?_
  have hw1 : EnvX w1 _ [(w.heap.size + 1, Obj.cells (txA s) 25 (0, 0)), (w.heap.size, Obj.cells (txA t) 25 (0, 0))] := E1.out
  have hone := @EnvC.one _ _ _ hw1
  (refine wpG_val (v := txV t) rfl rfl (fun u hu => load_any_op u (box_tx hu (List.Mem.tail _ (List.Mem.head _))) rfl) ?_ hw1; intro K hK; go_big_quiet_op; go_big_quiet_on)
  (refine wpG_call (f := 10) (args := #[txV t]) (v := .bool true) rfl rfl rfl Tryd.func10 rfl rfl (fun u hu => by have h1 := few_any t u (K_kt.out.up (EnvX.bel hu)); rwa [HF_t.out] at h1) ?_ hw1; intro K hK; go_big_quiet_op; go_big_quiet_on)
  (refine wpG_op rfl rfl rfl ?_; intro K hK; go_big_quiet_op; go_big_quiet_on)
  clear hone hw1
  refine wpG_nil ?_
  intro u3 E2'
  have EX2 := Lib.hid E2'
  clear E2'
  go_upto_region 3 with (fail)
  refine wp_region_Hx (w0 := w1) [0, 1, 2] [(w.heap.size + 1, Obj.cells (txA s) 25 (0, 0)), (w.heap.size, Obj.cells (txA t) 25 (0, 0))] rfl EX2.out ?_
  refine lexH_phase [0, 1, 2] [] ?_
  have hw4 : EnvX w1 _ [(w.heap.size + 1, Obj.cells (txA s) 25 (0, 0)), (w.heap.size, Obj.cells (txA t) 25 (0, 0))] := EX2.out
  have hone := @EnvC.one _ _ _ hw4
  (refine wpG_val (v := txV s) rfl rfl (fun u hu => load_any_op u (box_tx hu (List.Mem.head _)) rfl) ?_ hw4; intro K hK; go_big_quiet_op; go_big_quiet_on)
  (refine wpG_call (f := 10) (args := #[txV s]) (v := .bool true) rfl rfl rfl Tryd.func10 rfl rfl (fun u hu => by have h1 := few_any s u (K_ks.out.up (EnvX.bel hu)); rwa [HF_s.out] at h1) ?_ hw4; intro K hK; go_big_quiet_op; go_big_quiet_on)
  (refine wpG_op rfl rfl rfl ?_; intro K hK; go_big_quiet_op; go_big_quiet_on)
  clear hone hw4
  refine wpG_nil ?_
  intro u6 E2'
  have EX5 := Lib.hid E2'
  clear E2'
  go_upto_region 4 with (fail)
  refine wp_region_Hx (w0 := w1) [0, 1, 2, 3, 4, 5, 6, 7, 8, 9] [(w.heap.size + 1, Obj.cells (txA s) 25 (0, 0)), (w.heap.size, Obj.cells (txA t) 25 (0, 0))] rfl EX5.out ?_
  refine lexH_phase [0, 1, 2, 3, 4, 5, 6, 7, 8, 9] [] ?_
  have hw7 : EnvX w1 _ [(w.heap.size + 1, Obj.cells (txA s) 25 (0, 0)), (w.heap.size, Obj.cells (txA t) 25 (0, 0))] := EX5.out
  have hone := @EnvC.one _ _ _ hw7
  (refine wpG_op rfl rfl rfl ?_; intro K hK; go_big_quiet_op; go_big_quiet_on)
  (refine wpG_op rfl rfl rfl ?_; intro K hK; go_big_quiet_op; go_big_quiet_on)
  (refine wpG_op rfl rfl rfl ?_; intro K hK; go_big_quiet_op; go_big_quiet_on)
  (refine wpG_op rfl rfl rfl ?_; intro K hK; go_big_quiet_op; go_big_quiet_on)
  (refine wpG_op rfl rfl rfl ?_; intro K hK; go_big_quiet_op; go_big_quiet_on)
  (refine wpG_op rfl rfl rfl ?_; intro K hK; go_big_quiet_op; go_big_quiet_on)
  (refine wpG_op rfl rfl rfl ?_; intro K hK; go_big_quiet_op; go_big_quiet_on)
  (refine wpG_op rfl rfl rfl ?_; intro K hK; go_big_quiet_op; go_big_quiet_on)
  (refine wpG_op rfl rfl rfl ?_; intro K hK; go_big_quiet_op; go_big_quiet_on)
  (refine wpG_op rfl rfl rfl ?_; intro K hK; go_big_quiet_op; go_big_quiet_on)
  clear hone hw7
  refine wpG_nil ?_
  intro u9 E2'
  have EX8 := Lib.hid E2'
  clear E2'
  have HLD : Hid ((loadVar 25 ⟨w.heap.size, 0, none⟩).run Tryd.prog u9 = .ok (.agg (txA t)) u9) := box_tx EX8.out (List.Mem.tail _ (List.Mem.head _))
  have HPT : Hid (Calls Tryd.prog 12 #[.agg (txA t)] u9 fun e w' => (∃ v, e = .returned (.tuple #[v, .bool true]) ∧ OwnB w' u9.heap.size v (putX t.r).1) ∧ Below u9.heap.size u9 w') := by
    have h1 := HH.out.put t u9 (K_kt.out.up EX8.out.bel) (HT1.out.below (EnvX.bel EX8.out))
    rwa [HP_t.out] at h1
  go_upto_region 6 with (fail)
  go_wp2_with ((with_reducible refine wpList_load_run (o := ⟨some 31, _, _, _, _, _⟩) ?_ 25 (.tmp 2) ?_ ⟨w.heap.size, 0, none⟩ ?_ HLD.out ?_); (rfl); (rfl); (rfl))
  refine HPT.out.mono ?_
  rintro e w2 ⟨⟨v6, rfl, hv⟩, hb⟩
  obtain ⟨Ap, cp, rfl⟩ := hv.form
  have HB_xs := Lib.hid hv.bytes.2
  have HC_xs := Lib.hid hv.cap
  have hbb := (EnvX.below EX8.out hb).bel
  have E2 : Hid (EnvX w2 w2 [(w.heap.size + 1, Obj.cells (txA s) 25 (0, 0)), (w.heap.size, Obj.cells (txA t) 25 (0, 0))]) := ⟨Below.refl _ _, (EnvX.below EX8.out hb).box⟩
  have HB2 := Lib.hid (HB1.out.trans (hbb.mono HB1.out.size))
  have HT2 := Lib.hid (HT1.out.below hbb)
  have K_kt := Lib.hid (K_kt.out.up hbb)
  have K_ks := Lib.hid (K_ks.out.up hbb)
  clear hv hb HLD HPT hbb EX8
  obtain ⟨np, hnp⟩ : ∃ np, (putX t.r).1.length = np := ⟨_, rfl⟩
  obtain ⟨xs, hxs⟩ : ∃ xs, (putX t.r).1 = xs := ⟨_, rfl⟩
  have HN_xs := Lib.hid hnp
  have HX_xs := Lib.hid hxs
  rw [hnp] at HC_xs ⊢
  rw [hxs] at HB_xs HN_xs
  clear hnp hxs
  have HLD : Hid ((loadVar 25 ⟨w.heap.size + 1, 0, none⟩).run Tryd.prog w2 = .ok (.agg (txA s)) w2) := box_tx E2.out (List.Mem.head _)
  have HPT : Hid (Calls Tryd.prog 12 #[.agg (txA s)] w2 fun e w' => (∃ v, e = .returned (.tuple #[v, .bool true]) ∧ OwnB w' w2.heap.size v (putX s.r).1) ∧ Below w2.heap.size w2 w') := by
    have h1 := HH.out.put s w2 K_ks.out (HT2.out.below (EnvX.bel E2.out))
    rwa [HP_s.out] at h1
  go_upto_region 7 with (fail)
  go_wp2_with ((with_reducible refine wpList_load_run (o := ⟨some 36, _, _, _, _, _⟩) ?_ 25 (.tmp 3) ?_ ⟨w.heap.size + 1, 0, none⟩ ?_ HLD.out ?_); (rfl); (rfl); (rfl))
  refine HPT.out.mono ?_
  rintro e w3 ⟨⟨v7, rfl, hv⟩, hb⟩
  obtain ⟨Aq, cq, rfl⟩ := hv.form
  have HB_ys := Lib.hid hv.bytes.2
  have HC_ys := Lib.hid hv.cap
  have hbb := (EnvX.below E2.out hb).bel
  have E3 : Hid (EnvX w3 w3 [(w.heap.size + 1, Obj.cells (txA s) 25 (0, 0)), (w.heap.size, Obj.cells (txA t) 25 (0, 0))]) := ⟨Below.refl _ _, (EnvX.below E2.out hb).box⟩
  have HB3 := Lib.hid (HB2.out.trans (hbb.mono HB2.out.size))
  have HT3 := Lib.hid (HT2.out.below hbb)
  have K_kt := Lib.hid (K_kt.out.up hbb)
  have K_ks := Lib.hid (K_ks.out.up hbb)
  have HB_xs := Lib.hid (HB_xs.out.up hbb)
  clear hv hb HLD HPT hbb E2
  obtain ⟨nq, hnp⟩ : ∃ np, (putX s.r).1.length = np := ⟨_, rfl⟩
  obtain ⟨ys, hxs⟩ : ∃ xs, (putX s.r).1 = xs := ⟨_, rfl⟩
  have HN_ys := Lib.hid hnp
  have HX_ys := Lib.hid hxs
  rw [hnp] at HC_ys ⊢
  rw [hxs] at HB_ys HN_ys
  clear hnp hxs
  go_upto_region 8 with (fail)
  refine wp_region_Hx (w0 := w3) [0, 1, 2, 3, 4, 5] [(w.heap.size + 1, Obj.cells (txA s) 25 (0, 0)), (w.heap.size, Obj.cells (txA t) 25 (0, 0))] rfl E3.out ?_
  refine lexH_phase [0, 1, 2, 3, 4, 5] [] ?_
  have hw601 : EnvX w3 _ [(w.heap.size + 1, Obj.cells (txA s) 25 (0, 0)), (w.heap.size, Obj.cells (txA t) 25 (0, 0))] := E3.out
  have hone := @EnvC.one _ _ _ hw601
  (refine wpG_op rfl rfl rfl ?_; intro K hK; go_big_quiet_op; go_big_quiet_on)
  (refine wpG_op rfl rfl rfl ?_; intro K hK; go_big_quiet_op; go_big_quiet_on)
  (refine wpG_op rfl rfl rfl ?_; intro K hK; go_big_quiet_op; go_big_quiet_on)
  (refine wpG_op rfl rfl rfl ?_; intro K hK; go_big_quiet_op; go_big_quiet_on)
  (refine wpG_op rfl rfl rfl ?_; intro K hK; go_big_quiet_op; go_big_quiet_on)
  (refine wpG_op rfl rfl rfl ?_; intro K hK; go_big_quiet_op; go_big_quiet_on)
  clear hone hw601
  refine wpG_nil ?_
  intro u603 E2'
  have EX602 := Lib.hid E2'
  clear E2'
  rw [HX_xs.out] at HFt
  rw [HX_ys.out] at HFs
  obtain ⟨ap, rfl⟩ := HB_xs.out.atSome HFt.out.1
  obtain ⟨aq, rfl⟩ := HB_ys.out.atSome HFs.out.1
  have HNp : Hid (1 ≤ np ∧ np ≤ 122) := by have h1 := HFt.out; have h2 := HN_xs.out; rw [h2] at h1; exact ⟨h1.1, h1.2.1⟩
  have HNq : Hid (1 ≤ nq ∧ nq ≤ 122) := by have h1 := HFs.out; have h2 := HN_ys.out; rw [h2] at h1; exact ⟨h1.1, h1.2.1⟩
  go_upto_region 10 with (fail)
  refine wp_region_Hx (w0 := w3) [0, 1, 2, 3] [(w.heap.size + 1, Obj.cells (txA s) 25 (0, 0)), (w.heap.size, Obj.cells (txA t) 25 (0, 0))] rfl EX602.out ?_
  refine (hOp_fresh (R := fun v N => ∃ g, v = .slice (some ⟨g, 0, none⟩) 1 1 ∧ N = [(g, Obj.cells #[.int .u8 6] 5 (0, 0))]) (M0 := [(w.heap.size + 1, Obj.cells (txA s) 25 (0, 0)), (w.heap.size, Obj.cells (txA t) 25 (0, 0))]) rfl rfl (fun _ h => h) (fun u hu => FAt_byte1 6 u) ?_)
  rintro _ _ ⟨g610, rfl, rfl⟩ hf he604; intro K' hK'; go_big_quiet_op; go_big_quiet_on
  have HGg610 := Lib.hid (hf _ (List.mem_singleton.2 rfl))
  clear hf
  change lexH _ _ _ _ _ _ [(g610, Obj.cells #[.int .u8 6] 5 (0, 0)), (w.heap.size + 1, Obj.cells (txA s) 25 (0, 0)), (w.heap.size, Obj.cells (txA t) 25 (0, 0))]
  refine lexH_phase [1] [2, 3] ?_
  have hw605 : EnvX w3 _ [(g610, Obj.cells #[.int .u8 6] 5 (0, 0)), (w.heap.size + 1, Obj.cells (txA s) 25 (0, 0)), (w.heap.size, Obj.cells (txA t) 25 (0, 0))] := he604.choose_spec
  have hone := @EnvC.one _ _ _ hw605
  (refine wpG_op rfl rfl rfl ?_; intro K hK; go_big_quiet_op; go_big_quiet_on)
  clear hone hw605
  refine wpG_nil ?_
  refine (hOp_own (gd := none) (R := GrownR w3 5 1 (1 + np) ([.int .u8 6] ++ xs.map u8v) [(w.heap.size + 1, Obj.cells (txA s) 25 (0, 0)), (w.heap.size, Obj.cells (txA t) 25 (0, 0))]) rfl rfl rfl rfl (fun u hu => appX_op elB [(w.heap.size + 1, Obj.cells (txA s) 25 (0, 0)), (w.heap.size, Obj.cells (txA t) 25 (0, 0))] hu (n := 1) rfl (by rw [List.length_map, HN_xs.out, Nat.mul_one]) u8_one (.inl ⟨g610, 1, #[.int .u8 6], rfl, rfl, by decide, by decide, rfl, rfl⟩) (List.forall_mem_cons.2 ⟨⟨(List.Mem.head _), HGg610.out.1⟩, (fun _ h => by cases h)⟩) ((HB_xs.out.up (EnvX.bel hu)).src (by rw [HN_xs.out]; have := HNp.out; omega)) (List.forall_mem_cons.2 ⟨⟨(List.Mem.tail _ (List.Mem.head _)), fun y hy => by cases List.mem_singleton.1 hy; exact HGg610.out.2 _ (List.Mem.head _)⟩, (List.forall_mem_cons.2 ⟨⟨(List.Mem.tail _ (List.Mem.tail _ (List.Mem.head _))), fun y hy => by cases List.mem_singleton.1 hy; exact HGg610.out.2 _ (List.Mem.tail _ (List.Mem.head _))⟩, (fun _ h => by cases h)⟩)⟩) (by have := HNp.out; omega) rfl rfl) ?_)
  rintro x M' ⟨N, rfl, hF, hn⟩ he606; intro K' hK'; go_big_quiet_op; go_big_quiet_on
  obtain ⟨ga, capga, curga, rfl, rfl, hcga⟩ | ⟨_, _, h0, _⟩ := hF
  case inr => omega
  have HCga := Lib.hid hcga
  clear hcga hn
  change lexH _ _ _ _ _ _ [(ga, Obj.cells curga 5 (0, 0)), (w.heap.size + 1, Obj.cells (txA s) 25 (0, 0)), (w.heap.size, Obj.cells (txA t) 25 (0, 0))]
  refine lexH_phase [3] [] ?_
  have hw607 : EnvX w3 _ [(ga, Obj.cells curga 5 (0, 0)), (w.heap.size + 1, Obj.cells (txA s) 25 (0, 0)), (w.heap.size, Obj.cells (txA t) 25 (0, 0))] := he606.choose_spec
  have hone := @EnvC.one _ _ _ hw607
  (refine wpG_op rfl rfl rfl ?_; intro K hK; go_big_quiet_op; go_big_quiet_on)
  clear hone hw607
  refine wpG_nil ?_
  intro u609 E2'
  have EX608 := Lib.hid E2'
  clear E2'
  go_upto_region 11 with (fail)
  refine wp_region_Hx (w0 := w3) [0, 1, 2, 3] [(ga, Obj.cells curga 5 (0, 0)), (w.heap.size + 1, Obj.cells (txA s) 25 (0, 0)), (w.heap.size, Obj.cells (txA t) 25 (0, 0))] rfl EX608.out ?_
  refine (hOp_fresh (R := fun v N => ∃ g, v = .slice (some ⟨g, 0, none⟩) 1 1 ∧ N = [(g, Obj.cells #[.int .u8 6] 5 (0, 0))]) (M0 := [(ga, Obj.cells curga 5 (0, 0)), (w.heap.size + 1, Obj.cells (txA s) 25 (0, 0)), (w.heap.size, Obj.cells (txA t) 25 (0, 0))]) rfl rfl (fun _ h => h) (fun u hu => FAt_byte1 6 u) ?_)
  rintro _ _ ⟨g611, rfl, rfl⟩ hf he610; intro K' hK'; go_big_quiet_op; go_big_quiet_on
  have HGg611 := Lib.hid (hf _ (List.mem_singleton.2 rfl))
  clear hf
  change lexH _ _ _ _ _ _ [(g611, Obj.cells #[.int .u8 6] 5 (0, 0)), (ga, Obj.cells curga 5 (0, 0)), (w.heap.size + 1, Obj.cells (txA s) 25 (0, 0)), (w.heap.size, Obj.cells (txA t) 25 (0, 0))]
  refine lexH_phase [1] [2, 3] ?_
  have hw611 : EnvX w3 _ [(g611, Obj.cells #[.int .u8 6] 5 (0, 0)), (ga, Obj.cells curga 5 (0, 0)), (w.heap.size + 1, Obj.cells (txA s) 25 (0, 0)), (w.heap.size, Obj.cells (txA t) 25 (0, 0))] := he610.choose_spec
  have hone := @EnvC.one _ _ _ hw611
  (refine wpG_op rfl rfl rfl ?_; intro K hK; go_big_quiet_op; go_big_quiet_on)
  clear hone hw611
  refine wpG_nil ?_
  refine (hOp_own (gd := none) (R := GrownR w3 5 1 (1 + nq) ([.int .u8 6] ++ ys.map u8v) [(ga, Obj.cells curga 5 (0, 0)), (w.heap.size + 1, Obj.cells (txA s) 25 (0, 0)), (w.heap.size, Obj.cells (txA t) 25 (0, 0))]) rfl rfl rfl rfl (fun u hu => appX_op elB [(ga, Obj.cells curga 5 (0, 0)), (w.heap.size + 1, Obj.cells (txA s) 25 (0, 0)), (w.heap.size, Obj.cells (txA t) 25 (0, 0))] hu (n := 1) rfl (by rw [List.length_map, HN_ys.out, Nat.mul_one]) u8_one (.inl ⟨g611, 1, #[.int .u8 6], rfl, rfl, by decide, by decide, rfl, rfl⟩) (List.forall_mem_cons.2 ⟨⟨(List.Mem.head _), HGg611.out.1⟩, (fun _ h => by cases h)⟩) ((HB_ys.out.up (EnvX.bel hu)).src (by rw [HN_ys.out]; have := HNq.out; omega)) (List.forall_mem_cons.2 ⟨⟨(List.Mem.tail _ (List.Mem.head _)), fun y hy => by cases List.mem_singleton.1 hy; exact HGg611.out.2 _ (List.Mem.head _)⟩, (List.forall_mem_cons.2 ⟨⟨(List.Mem.tail _ (List.Mem.tail _ (List.Mem.head _))), fun y hy => by cases List.mem_singleton.1 hy; exact HGg611.out.2 _ (List.Mem.tail _ (List.Mem.head _))⟩, (List.forall_mem_cons.2 ⟨⟨(List.Mem.tail _ (List.Mem.tail _ (List.Mem.tail _ (List.Mem.head _)))), fun y hy => by cases List.mem_singleton.1 hy; exact HGg611.out.2 _ (List.Mem.tail _ (List.Mem.tail _ (List.Mem.head _)))⟩, (fun _ h => by cases h)⟩)⟩)⟩) (by have := HNq.out; omega) rfl rfl) ?_)
  rintro x M' ⟨N, rfl, hF, hn⟩ he612; intro K' hK'; go_big_quiet_op; go_big_quiet_on
  obtain ⟨gb, capgb, curgb, rfl, rfl, hcgb⟩ | ⟨_, _, h0, _⟩ := hF
  case inr => omega
  have HCgb := Lib.hid hcgb
  clear hcgb hn
  change lexH _ _ _ _ _ _ [(gb, Obj.cells curgb 5 (0, 0)), (ga, Obj.cells curga 5 (0, 0)), (w.heap.size + 1, Obj.cells (txA s) 25 (0, 0)), (w.heap.size, Obj.cells (txA t) 25 (0, 0))]
  refine lexH_phase [3] [] ?_
  have hw613 : EnvX w3 _ [(gb, Obj.cells curgb 5 (0, 0)), (ga, Obj.cells curga 5 (0, 0)), (w.heap.size + 1, Obj.cells (txA s) 25 (0, 0)), (w.heap.size, Obj.cells (txA t) 25 (0, 0))] := he612.choose_spec
  have hone := @EnvC.one _ _ _ hw613
  (refine wpG_op rfl rfl rfl ?_; intro K hK; go_big_quiet_op; go_big_quiet_on)
  clear hone hw613
  refine wpG_nil ?_
  intro u615 E2'
  have EX614 := Lib.hid E2'
  clear E2'
  have HTx : Hid ((6 :: xs).length = 1 + np ∧ isB (6 :: xs)) := ⟨by rw [List.length_cons, HN_xs.out]; omega, six_ok HFt.out.2.2.1⟩
  have HTy : Hid ((6 :: ys).length = 1 + nq ∧ isB (6 :: ys)) := ⟨by rw [List.length_cons, HN_ys.out]; omega, six_ok HFs.out.2.2.1⟩
  have HEH : Hid ((!eqL (idX t.r) (sumL (6 :: xs))) = false) := by show _ = _; rw [HFt.out.2.2.2]; simp [eqL]
  have HEG : Hid ((!eqL (idX s.r) (sumL (6 :: ys))) = false) := by show _ = _; rw [HFs.out.2.2.2]; simp [eqL]
  have HSH : Hid ((sumL (6 :: xs)).length = 32) := sumL_len _
  have HSG : Hid ((sumL (6 :: ys)).length = 32) := sumL_len _
  go_upto_region 12 with (fail)
  refine wp_region_Hx (w0 := w3) [0, 1, 2, 3, 4, 5, 6, 7, 8, 9, 10, 11] [(gb, Obj.cells curgb 5 (0, 0)), (ga, Obj.cells curga 5 (0, 0)), (w.heap.size + 1, Obj.cells (txA s) 25 (0, 0)), (w.heap.size, Obj.cells (txA t) 25 (0, 0))] rfl EX614.out ?_
  refine lexH_phase [0, 1, 2, 3, 4, 5, 6, 7, 8, 9, 10, 11] [] ?_
  have hw616 : EnvX w3 _ [(gb, Obj.cells curgb 5 (0, 0)), (ga, Obj.cells curga 5 (0, 0)), (w.heap.size + 1, Obj.cells (txA s) 25 (0, 0)), (w.heap.size, Obj.cells (txA t) 25 (0, 0))] := EX614.out
  have hone := @EnvC.one _ _ _ hw616
  (refine wpG_val (v := txV t) rfl rfl (fun u hu => load_any_op u (box_tx hu (List.Mem.tail _ (List.Mem.tail _ (List.Mem.tail _ (List.Mem.head _))))) rfl) ?_ hw616; intro K hK; go_big_quiet_op; go_big_quiet_on)
  (refine wpG_call (f := 20) (args := #[txV t]) (v := idv (idX t.r)) rfl rfl rfl Tryd.func20 rfl rfl (fun u hu => HH.out.id t u (K_kt.out.up (EnvX.bel hu)) (HT3.out.below (EnvX.bel hu))) ?_ hw616; intro K hK; go_big_quiet_op; go_big_quiet_on)
  (refine wpG_op rfl rfl rfl ?_; intro K hK; go_big_quiet_op; go_big_quiet_on)
  (refine wpG_call (f := 24) (args := #[.slice (some ⟨ga, 0, none⟩) (1 + np) capga]) (v := idv (sumL (6 :: xs))) rfl rfl rfl Tryd.func24 rfl rfl (fun u hu => sum_any (some ⟨ga, 0, none⟩) (1 + np) capga (6 :: xs) u HTx.out.1 (by have := HNp.out; omega) (boxR_bytes hu (List.Mem.tail _ (List.Mem.head _)) HTx.out.1 HCga.out) HTx.out.2 (HT3.out.below (EnvX.bel hu))) ?_ hw616; intro K hK; go_big_quiet_op; go_big_quiet_on)
  (refine wpG_val (v := .bool false) rfl rfl (fun u hu => neqb_op HIH.out HSH.out HEH.out u rfl rfl) ?_ hw616; intro K hK; go_big_quiet_op; go_big_quiet_on)
  (refine wpG_op rfl rfl rfl ?_; intro K hK; go_big_quiet_op; go_big_quiet_on)
  (refine wpG_val (v := txV s) rfl rfl (fun u hu => load_any_op u (box_tx hu (List.Mem.tail _ (List.Mem.tail _ (List.Mem.head _)))) rfl) ?_ hw616; intro K hK; go_big_quiet_op; go_big_quiet_on)
  (refine wpG_call (f := 20) (args := #[txV s]) (v := idv (idX s.r)) rfl rfl rfl Tryd.func20 rfl rfl (fun u hu => HH.out.id s u (K_ks.out.up (EnvX.bel hu)) (HT3.out.below (EnvX.bel hu))) ?_ hw616; intro K hK; go_big_quiet_op; go_big_quiet_on)
  (refine wpG_op rfl rfl rfl ?_; intro K hK; go_big_quiet_op; go_big_quiet_on)
  (refine wpG_call (f := 24) (args := #[.slice (some ⟨gb, 0, none⟩) (1 + nq) capgb]) (v := idv (sumL (6 :: ys))) rfl rfl rfl Tryd.func24 rfl rfl (fun u hu => sum_any (some ⟨gb, 0, none⟩) (1 + nq) capgb (6 :: ys) u HTy.out.1 (by have := HNq.out; omega) (boxR_bytes hu (List.Mem.head _) HTy.out.1 HCgb.out) HTy.out.2 (HT3.out.below (EnvX.bel hu))) ?_ hw616; intro K hK; go_big_quiet_op; go_big_quiet_on)
  (refine wpG_val (v := .bool false) rfl rfl (fun u hu => neqb_op HIG.out HSG.out HEG.out u rfl rfl) ?_ hw616; intro K hK; go_big_quiet_op; go_big_quiet_on)
  (refine wpG_op rfl rfl rfl ?_; intro K hK; go_big_quiet_op; go_big_quiet_on)
  clear hone hw616
  refine wpG_nil ?_
  intro u618 E2'
  have EX617 := Lib.hid E2'
  clear E2'
  rw [HX_xs.out, HX_ys.out] at HNE
  obtain ⟨s0, hs0⟩ : ∃ s, strOfNums (6 :: xs) = s := ⟨_, rfl⟩
  obtain ⟨s1, hs1⟩ : ∃ s, strOfNums (6 :: ys) = s := ⟨_, rfl⟩
  have HS0 := Lib.hid hs0
  have HS1 := Lib.hid hs1
  have HNS : Hid ((!(s0.toList == s1.toList)) = true) := by
    have hne := HNE.out
    show _ = _
    rw [← hs0, ← hs1, strOf_beq HTx.out.2 HTy.out.2]
    simp only [hne, decide_false, Bool.not_false]
  clear hs0 hs1
  go_upto_region 14 with (fail)
  refine wp_region_Hx (w0 := w3) [0, 1, 2, 3, 4, 5, 6, 7, 8, 9, 10] [(gb, Obj.cells curgb 5 (0, 0)), (ga, Obj.cells curga 5 (0, 0)), (w.heap.size + 1, Obj.cells (txA s) 25 (0, 0)), (w.heap.size, Obj.cells (txA t) 25 (0, 0))] rfl EX617.out ?_
  refine lexH_phase [0, 1, 2, 3, 4, 5, 6, 7, 8, 9, 10] [] ?_
  have hw619 : EnvX w3 _ [(gb, Obj.cells curgb 5 (0, 0)), (ga, Obj.cells curga 5 (0, 0)), (w.heap.size + 1, Obj.cells (txA s) 25 (0, 0)), (w.heap.size, Obj.cells (txA t) 25 (0, 0))] := EX617.out
  have hone := @EnvC.one _ _ _ hw619
  (refine wpG_val (v := txV t) rfl rfl (fun u hu => load_any_op u (box_tx hu (List.Mem.tail _ (List.Mem.tail _ (List.Mem.tail _ (List.Mem.head _))))) rfl) ?_ hw619; intro K hK; go_big_quiet_op; go_big_quiet_on)
  (refine wpG_val (v := txV s) rfl rfl (fun u hu => load_any_op u (box_tx hu (List.Mem.tail _ (List.Mem.tail _ (List.Mem.head _)))) rfl) ?_ hw619; intro K hK; go_big_quiet_op; go_big_quiet_on)
  (refine wpG_call (f := 19) (args := #[txV t, txV s]) (v := .bool false) rfl rfl rfl Tryd.func19 rfl rfl (fun u hu => by have h1 := HH.out.same t s u (K_kt.out.up (EnvX.bel hu)) (K_ks.out.up (EnvX.bel hu)) (HT3.out.below (EnvX.bel hu)); rwa [HSA.out] at h1) ?_ hw619; intro K hK; go_big_quiet_op; go_big_quiet_on)
  (refine wpG_op rfl rfl rfl ?_; intro K hK; go_big_quiet_op; go_big_quiet_on)
  (refine wpG_op rfl rfl rfl ?_; intro K hK; go_big_quiet_op; go_big_quiet_on)
  (refine wpG_val (v := .string s0) rfl rfl (fun u hu => conv_op u HTx.out.1 (boxR_bytes hu (List.Mem.tail _ (List.Mem.head _)) HTx.out.1 HCga.out) HS0.out rfl) ?_ hw619; intro K hK; go_big_quiet_op; go_big_quiet_on)
  (refine wpG_op rfl rfl rfl ?_; intro K hK; go_big_quiet_op; go_big_quiet_on)
  (refine wpG_val (v := .string s1) rfl rfl (fun u hu => conv_op u HTy.out.1 (boxR_bytes hu (List.Mem.head _) HTy.out.1 HCgb.out) HS1.out rfl) ?_ hw619; intro K hK; go_big_quiet_op; go_big_quiet_on)
  (refine wpG_val (v := .bool true) rfl rfl (fun u hu => nes_op u HNS.out rfl rfl) ?_ hw619; intro K hK; go_big_quiet_op; go_big_quiet_on)
  (refine wpG_op rfl rfl rfl ?_; intro K hK; go_big_quiet_op; go_big_quiet_on)
  (refine wpG_op rfl rfl rfl ?_; intro K hK; go_big_quiet_op; go_big_quiet_on)
  clear hone hw619
  refine wpG_nil ?_
  intro u621 E2'
  have EX620 := Lib.hid E2'
  clear E2'
  have HBE := Lib.hid (HB3.out.trans ((EnvX.bel EX620.out).mono HB3.out.size))
  go_wp2
  go_ret
  exact ⟨rfl, HBE.out⟩
theorem law_sumsX (H : CoinC) (t s : TxM) (w : World) (kt : TxOk w t) (ks : TxOk w s) (ht : Tables w) :
    Calls Tryd.prog 5 #[txV t, txV s] w fun e w' => e = .returned (.bool true) ∧ Below w.heap.size w w' := by
  cases k1 : fewX t.r with
  | false => exact law_sumsX_fewt H t s w kt ks ht k1
  | true =>
    cases k2 : fewX s.r with
    | false => exact law_sumsX_fews H t s w kt ks ht k1 k2
    | true =>
      cases k3 : mayX t.r with
      | false => exact law_sumsX_no H t s w kt ks ht k1 k2 k3
      | true =>
        cases k4 : mayX s.r with
        | false => exact law_sumsX_one H t s w kt ks ht k1 k2 k3 k4
        | true =>
          by_cases k5 : t.r = s.r
          · exact law_sumsX_same H t s w kt ks ht k1 k2 k3 k4 k5
          · exact law_sumsX_texts H t s w kt ks ht k1 k2 k3 k4 k5
end Go.Proofs.YtcodmedgkboohaaDoor

namespace Go.Proofs.YtcodmedgkboohaaDoor.coinSums
set_option maxRecDepth 8000
open Go.ChangeShapes Go.WideShapes Go.ChangeAt Go.RowKit

theorem contract (H : Type) (enc : TypeId × Value → H) (W : World) (base : Nat) (args : Array Value) (ds gs : List (DataW H)) (before : List MemPlace)
    (hval : ∀ (j : Nat) t v, Tryd.f5.params[j]? = some t → args[j]? = some v → Value.okWide Tryd.prog W .any base t v)
    (hW : DataW.Whole enc Tryd.prog Tryd.f5.params.toList Rows.coinSumsSpec.vars false W args.toList ds gs before) (hL : laidMetH Tryd.prog Rows.coinSumsRow.laid W) :
    Calls Tryd.prog 5 args W fun e W' => ∃ v, e = .returned v ∧ Rows.coinSumsSpec.post enc Tryd.prog Tryd.f5 false true false false W args v W' := by
  have hW' := hW
  obtain ⟨p, q, hA0, hV, rfl, hfz, hnd⟩ := hW
  have hA : DataW.TrodAll enc Tryd.prog W 0 (fun _ => true) true Tryd.f5.params.toList args.toList ds p := hA0
  rw [Tryd.params5] at hA hval
  obtain ⟨v0, vs0, d0, ds0, p0, q0, hargs, rfl, rfl, h0, r0⟩ := trodAll_cons hA
  obtain ⟨v1, vs1, d1, ds1, p1, q1, rfl, rfl, rfl, h1, r1⟩ := trodAll_cons r0
  obtain ⟨rfl, rfl, rfl⟩ := trodAll_nil r1
  obtain rfl : args = #[v0, v1] := by cases args; simp_all
  obtain ⟨rfl, rfl⟩ := trodVars_none hV
  have lt0 : ∀ x ∈ p0, x.block < W.heap.size := by obtain ⟨m, hm⟩ := h0; exact DataW.trod_lt m _ _ _ hm
  obtain ⟨x0, rfl, kx0⟩ := open_tx (hval 0 25 v0 rfl rfl) h0
  have lt1 : ∀ x ∈ p1, x.block < W.heap.size := by obtain ⟨m, hm⟩ := h1; exact DataW.trod_lt m _ _ _ hm
  obtain ⟨x1, rfl, kx1⟩ := open_tx (hval 1 25 v1 rfl rfl) h1
  clear hA0
  refine (law_sumsX coinC x0 x1 W kx0 kx1 (tables_of_laid hL)).mono fun e W' ⟨he, bel⟩ => ?_
  subst he
  exact ⟨_, rfl, _, _, _, [], _, [], hW', trodAll_mk1 (shut_bool Tryd.underlying4 _), (trodAll_cons_mk (Below.trod laidOut (by kernel_rfl) (of_decide_eq_true (by kernel_rfl)) h0 bel lt0) (trodAll_cons_mk (Below.trod laidOut (by kernel_rfl) (of_decide_eq_true (by kernel_rfl)) h1 bel lt1) trodAll_mk0)), rfl, bel.frame _, fun h => by cases h⟩

def start : Array Value := #[zeroX, zeroX]
theorem reads (os : Os) {H : Type} (enc : TypeId × Value → H) : ∃ places, DataW.whole enc Tryd.prog ((laidWorld os).forCall (fun _ _ => 0) ⟨#[], start, []⟩).memory Tryd.f5.params.toList Rows.coinSumsSpec.vars false start.toList 8 = some ([zeroXD, zeroXD], [], places) :=
  ⟨[], by kernel_rfl⟩

set_option maxRecDepth 100000 in
theorem lifted (os : Os) (started : os.Started) (H : Type) (enc : TypeId × Value → H) (F : Stop.Interp) :
    ReturnsInHanded {} Tryd.checked os 5 .any ((OpenSpec.ofChange Rows.coinSumsSpec).preRow enc Tryd.prog Tryd.f5 Rows.coinSumsRow.domain false Rows.coinSumsRow.laid) (((OpenSpec.ofChange Rows.coinSumsSpec).at F).post enc Tryd.prog Tryd.f5 false true false false) := by
  obtain ⟨places, hx⟩ := reads os enc
  refine returnsInHanded_of_row (C := Tryd.checked) (s := OpenSpec.ofChange Rows.coinSumsSpec) own started (by kernel_rfl) Tryd.func5
    (witness_row_at (enc := enc) (C := Tryd.checked) false (laidWorld os) start rfl (by kernel_rfl) (by kernel_rfl) (by kernel_rfl)
      (OpenSpec.preRow_of_cond 8 hx (by kernel_rfl) (fun k hk => by cases hk) (by kernel_rfl) (laidMet_of_run' 8 (by kernel_rfl) (by kernel_rfl)))) ?_
  intro W base args ds gs before hval hW _ _ _ hL _ _
  exact contract H enc W base args ds gs before hval hW hL

theorem said : Rows.CoinSumsSaid :=
  OpenClaim.holds_of_cond 5 Tryd.f5 rfl rfl rfl rfl rfl rfl rfl ⟨rfl, rfl, rfl, rfl, rfl⟩ rfl rfl rfl rfl rfl (by kernel_rfl) Tryd.func5 (by kernel_rfl)
    (of_decide_eq_true (by kernel_rfl)) (by unfold Func.isWrapper; first | (rw [if_pos (by decide +kernel)]; kernel_rfl) | (rw [if_neg (by decide +kernel)]; exact ⟨rfl, rfl⟩))
    (fun os started H enc _ F => by rw [OpenClaim.pre_eq_preRow]; exact lifted os started H enc F)

theorem plain (f : FuncId) (fn : Func) (hf : Tryd.pinned.checked.prog.funcNamed "stepladder/stepladderlaw09.CoinSums" = some f) (hfn : Tryd.pinned.checked.prog.funcs[f]? = some fn) :
    false = Tryd.pinned.checked.prog.looks [] ∧ ∀ (j : Nat) t, fn.params[j]? = some t → Tryd.pinned.checked.prog.wantsStandIn t = false := by
  obtain rfl : f = 5 := Option.some.inj ((show Tryd.prog.funcNamed "stepladder/stepladderlaw09.CoinSums" = some 5 by kernel_rfl).symm.trans hf) |>.symm
  obtain rfl : fn = Tryd.f5 := (Option.some.inj (Tryd.func5.symm.trans hfn)).symm
  refine ⟨by kernel_rfl, fun j t ht => ?_⟩
  rw [Tryd.params5] at ht
  obtain rfl : t = 25 := by simpa using Array.mem_of_getElem? ht
  exact (show Tryd.prog.wantsStandIn 25 = false by kernel_rfl)

theorem card : Rows.CoinSumsCardSaid :=
  Claim7.holds_tied_plain_at .later [] _ _ _ _ said (fun _ h => by cases h) (by kernel_rfl) (fun _ h => by cases h) coinSums_row_tie rfl ⟨rfl, rfl⟩ (by kernel_rfl) rfl plain (by kernel_rfl)

end Go.Proofs.YtcodmedgkboohaaDoor.coinSums
