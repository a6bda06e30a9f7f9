/-
  PROVED: the law stepladderlaw10.PurseStays answers true for every input, and leaves its arguments as they were.
  Conditions: the two package-level tables of package sha hold at the call what their initialisers lay; the card ties that to the text of the program (a pruned copy of the project: the packages that the roots of this seat load).
-/
import Derived.Test.YtabhhbdbkeeblaaDoorZp
namespace Go.Proofs.YtabhhbdbkeeblaaDoor
set_option maxRecDepth 8000
open Go.RowKit
set_option maxRecDepth 20000 in
set_option maxHeartbeats 8000000 in
theorem law_stays_fewt (H : PurseC) (p : List CoinR) (t : TxM) (l : List TxM) (A : Option Addr) (n c : Nat) (A' : Option Addr) (n' c' : Nat) (w : World) (hl : p.length = n) (hnc : n ≤ c) (hcm : c ≤ maxLen) (hI : okP p) (hA : CoinsIn w w.heap.size A p) (kt : TxOk w t) (hl' : l.length = n') (hnc' : n' ≤ c') (hcm' : c' ≤ maxLen) (hA' : TxsIn w A' l) (ht : Tables w) (k1 : fewX t.r = false) :
    Calls Tryd.prog 4 #[.slice A n c, txV t, .slice A' n' c'] w fun e w' => e = .returned (.bool true) ∧ Below w.heap.size w w' := by
  have HT := Lib.hid ht
  have HH := Lib.hid H
  have HN63 : Hid (n < 9223372036854775808) := by show _ < _; unfold maxLen at hcm; omega
  have HL := Lib.hid hl
  have HNC := Lib.hid (And.intro hnc hcm)
  have HPP := Lib.hid hI
  have HAA : Hid (CoinsIn w w.heap.size A p) := hA
  have HM63 : Hid (n' < 9223372036854775808) := by show _ < _; unfold maxLen at hcm'; omega
  have HL' := Lib.hid hl'
  have HNC' := Lib.hid (And.intro hnc' hcm')
  have HTI := Lib.hid hA'
  have K_t := Lib.hid kt
  have HAW : Hid (∀ u, EnvX w u [] → Calls Tryd.prog 9 #[] u fun e w' => e = .returned (.bool true) ∧ Below u.heap.size u w') := fun u hu => pawake_any H u (ht.below (EnvX.bel hu))
  have E1 : Hid (EnvX w (w.alloc (.cells (txA t) 26)) [(w.heap.size, Obj.cells (txA t) 26 (0, 0))]) := (EnvX.start w).new _
  have HF_t : Hid (fewX t.r = false) := k1
  have HF_l : Hid (fewAll l 6 = fewAll l 6) := rfl
  clear k1
  clear ht H hl hnc hcm hI hA hl' hnc' hcm' hA' kt
  unfold txV
  go_enter Tryd.func4, Tryd.ntmps4
  go_upto_region 1 with (fail)
  generalize w.alloc (.cells (txA t) 26) = W at *
  refine wp_region_Hx (w0 := w) [0, 1] [(w.heap.size, Obj.cells (txA t) 26 (0, 0))] rfl E1.out ?_
  refine lexH_phase [0, 1] [] ?_
  have hw1 : EnvX w _ [(w.heap.size, Obj.cells (txA t) 26 (0, 0))] := E1.out
  have hone := @EnvC.one _ _ _ hw1
  (refine wpG_call (f := 9) (args := #[]) (v := .bool true) rfl rfl rfl Tryd.func9 rfl rfl (fun u hu => HAW.out u (EnvX.sub hu (fun _ h => by cases h))) ?_ hw1; intro K hK; go_big_quiet_op; go_big_quiet_on)
  (refine wpG_op rfl rfl rfl ?_; intro K hK; go_big_quiet_op; go_big_quiet_on)
  clear hone hw1
  refine wpG_nil ?_
  intro u3 E2'
  have EX2 := Lib.hid E2'
  clear E2'
  go_upto_region 2 with (fail)
  refine wp_region_Hx (w0 := w) [0, 1, 2] [(w.heap.size, Obj.cells (txA t) 26 (0, 0))] rfl EX2.out ?_
  refine lexH_phase [0, 1, 2] [] ?_
  have hw4 : EnvX w _ [(w.heap.size, Obj.cells (txA t) 26 (0, 0))] := EX2.out
  have hone := @EnvC.one _ _ _ hw4
  (refine wpG_val (v := txV t) rfl rfl (fun u hu => load_any_op u (box_tx hu (List.Mem.head _)) rfl) ?_ hw4; intro K hK; go_big_quiet_op; go_big_quiet_on)
  (refine wpG_call (f := 10) (args := #[txV t]) (v := .bool false) rfl rfl rfl Tryd.func10 rfl rfl (fun u hu => by have h1 := few_any t u (K_t.out.up (EnvX.bel hu)); rwa [HF_t.out] at h1) ?_ hw4; intro K hK; go_big_quiet_op; go_big_quiet_on)
  (refine wpG_op rfl rfl rfl ?_; intro K hK; go_big_quiet_op; go_big_quiet_on)
  clear hone hw4
  refine wpG_nil ?_
  intro u6 E2'
  have EX5 := Lib.hid E2'
  clear E2'
  go_upto_region 3 with (fail)
  refine wp_region_Hx (w0 := w) [0, 1, 2] [(w.heap.size, Obj.cells (txA t) 26 (0, 0))] rfl EX5.out ?_
  refine lexH_phase [0, 1, 2] [] ?_
  have hw7 : EnvX w _ [(w.heap.size, Obj.cells (txA t) 26 (0, 0))] := EX5.out
  have hone := @EnvC.one _ _ _ hw7
  (refine wpG_op rfl rfl rfl ?_; intro K hK; go_big_quiet_op; go_big_quiet_on)
  (refine wpG_call (f := 11) (args := #[.slice A' n' c', .int .i64 6]) (v := .bool (fewAll l 6)) rfl rfl rfl Tryd.func11 rfl rfl (fun u hu => by have h1 := fewall_any l 6 A' n' c' u HL'.out HM63.out (HTI.out.up (EnvX.bel hu)); rwa [HF_l.out] at h1) ?_ hw7; intro K hK; go_big_quiet_op; go_big_quiet_on)
  (refine wpG_op rfl rfl rfl ?_; intro K hK; go_big_quiet_op; go_big_quiet_on)
  clear hone hw7
  refine wpG_nil ?_
  intro u9 E2'
  have EX8 := Lib.hid E2'
  clear E2'
  go_upto_region 4 with (fail)
  refine wp_region_Hx (w0 := w) [0, 1, 2, 3, 4, 5, 6, 7, 8, 9, 10, 11, 12, 13, 14] [(w.heap.size, Obj.cells (txA t) 26 (0, 0))] rfl EX8.out ?_
  refine lexH_phase [0, 1, 2, 3, 4, 5, 6, 7, 8, 9, 10, 11, 12, 13, 14] [] ?_
  have hw10 : EnvX w _ [(w.heap.size, Obj.cells (txA t) 26 (0, 0))] := EX8.out
  have hone := @EnvC.one _ _ _ hw10
  iterate 7 (refine wpG_op rfl rfl rfl ?_; intro K hK; go_big_quiet_op; go_big_quiet_on)
  iterate 2 (refine wpG_skip rfl rfl ?_ hw10; intro K hK; go_big_quiet_op; go_big_quiet_on)
  iterate 2 (refine wpG_op rfl rfl rfl ?_; intro K hK; go_big_quiet_op; go_big_quiet_on)
  iterate 3 (refine wpG_skip rfl rfl ?_ hw10; intro K hK; go_big_quiet_op; go_big_quiet_on)
  (refine wpG_op rfl rfl rfl ?_; intro K hK; go_big_quiet_op; go_big_quiet_on)
  clear hone hw10
  refine wpG_nil ?_
  intro u12 E2'
  have EX11 := Lib.hid E2'
  clear E2'
  go_upto_region 5 with (fail)
  refine wp_region_Hx (w0 := w) [0, 1] [(w.heap.size, Obj.cells (txA t) 26 (0, 0))] rfl EX11.out ?_
  refine lexH_phase [0, 1] [] ?_
  have hw13 : EnvX w _ [(w.heap.size, Obj.cells (txA t) 26 (0, 0))] := EX11.out
  have hone := @EnvC.one _ _ _ hw13
  iterate 2 (refine wpG_op rfl rfl rfl ?_; intro K hK; go_big_quiet_op; go_big_quiet_on)
  clear hone hw13
  refine wpG_nil ?_
  intro u15 E2'
  have EX14 := Lib.hid E2'
  clear E2'
  have HBE := Lib.hid (EnvX.bel EX14.out)
  go_wp2
  go_ret
  exact ⟨rfl, HBE.out⟩
set_option maxRecDepth 20000 in
set_option maxHeartbeats 8000000 in
theorem law_stays_fewl (H : PurseC) (p : List CoinR) (t : TxM) (l : List TxM) (A : Option Addr) (n c : Nat) (A' : Option Addr) (n' c' : Nat) (w : World) (hl : p.length = n) (hnc : n ≤ c) (hcm : c ≤ maxLen) (hI : okP p) (hA : CoinsIn w w.heap.size A p) (kt : TxOk w t) (hl' : l.length = n') (hnc' : n' ≤ c') (hcm' : c' ≤ maxLen) (hA' : TxsIn w A' l) (ht : Tables w) (k1 : fewX t.r = true) (k2 : fewAll l 6 = false) :
    Calls Tryd.prog 4 #[.slice A n c, txV t, .slice A' n' c'] w fun e w' => e = .returned (.bool true) ∧ Below w.heap.size w w' := by
  have HT := Lib.hid ht
  have HH := Lib.hid H
  have HN63 : Hid (n < 9223372036854775808) := by show _ < _; unfold maxLen at hcm; omega
  have HL := Lib.hid hl
  have HNC := Lib.hid (And.intro hnc hcm)
  have HPP := Lib.hid hI
  have HAA : Hid (CoinsIn w w.heap.size A p) := hA
  have HM63 : Hid (n' < 9223372036854775808) := by show _ < _; unfold maxLen at hcm'; omega
  have HL' := Lib.hid hl'
  have HNC' := Lib.hid (And.intro hnc' hcm')
  have HTI := Lib.hid hA'
  have K_t := Lib.hid kt
  have HAW : Hid (∀ u, EnvX w u [] → Calls Tryd.prog 9 #[] u fun e w' => e = .returned (.bool true) ∧ Below u.heap.size u w') := fun u hu => pawake_any H u (ht.below (EnvX.bel hu))
  have E1 : Hid (EnvX w (w.alloc (.cells (txA t) 26)) [(w.heap.size, Obj.cells (txA t) 26 (0, 0))]) := (EnvX.start w).new _
  have HF_t : Hid (fewX t.r = true) := k1
  have HF_l : Hid (fewAll l 6 = false) := k2
  clear k1 k2
  clear ht H hl hnc hcm hI hA hl' hnc' hcm' hA' kt
  unfold txV
  go_enter Tryd.func4, Tryd.ntmps4
  go_upto_region 1 with (fail)
  generalize w.alloc (.cells (txA t) 26) = W at *
  refine wp_region_Hx (w0 := w) [0, 1] [(w.heap.size, Obj.cells (txA t) 26 (0, 0))] rfl E1.out ?_
  refine lexH_phase [0, 1] [] ?_
  have hw1 : EnvX w _ [(w.heap.size, Obj.cells (txA t) 26 (0, 0))] := E1.out
  have hone := @EnvC.one _ _ _ hw1
  (refine wpG_call (f := 9) (args := #[]) (v := .bool true) rfl rfl rfl Tryd.func9 rfl rfl (fun u hu => HAW.out u (EnvX.sub hu (fun _ h => by cases h))) ?_ hw1; intro K hK; go_big_quiet_op; go_big_quiet_on)
  (refine wpG_op rfl rfl rfl ?_; intro K hK; go_big_quiet_op; go_big_quiet_on)
  clear hone hw1
  refine wpG_nil ?_
  intro u3 E2'
  have EX2 := Lib.hid E2'
  clear E2'
  go_upto_region 2 with (fail)
  refine wp_region_Hx (w0 := w) [0, 1, 2] [(w.heap.size, Obj.cells (txA t) 26 (0, 0))] rfl EX2.out ?_
  refine lexH_phase [0, 1, 2] [] ?_
  have hw4 : EnvX w _ [(w.heap.size, Obj.cells (txA t) 26 (0, 0))] := EX2.out
  have hone := @EnvC.one _ _ _ hw4
  (refine wpG_val (v := txV t) rfl rfl (fun u hu => load_any_op u (box_tx hu (List.Mem.head _)) rfl) ?_ hw4; intro K hK; go_big_quiet_op; go_big_quiet_on)
  (refine wpG_call (f := 10) (args := #[txV t]) (v := .bool true) rfl rfl rfl Tryd.func10 rfl rfl (fun u hu => by have h1 := few_any t u (K_t.out.up (EnvX.bel hu)); rwa [HF_t.out] at h1) ?_ hw4; intro K hK; go_big_quiet_op; go_big_quiet_on)
  (refine wpG_op rfl rfl rfl ?_; intro K hK; go_big_quiet_op; go_big_quiet_on)
  clear hone hw4
  refine wpG_nil ?_
  intro u6 E2'
  have EX5 := Lib.hid E2'
  clear E2'
  go_upto_region 3 with (fail)
  refine wp_region_Hx (w0 := w) [0, 1, 2] [(w.heap.size, Obj.cells (txA t) 26 (0, 0))] rfl EX5.out ?_
  refine lexH_phase [0, 1, 2] [] ?_
  have hw7 : EnvX w _ [(w.heap.size, Obj.cells (txA t) 26 (0, 0))] := EX5.out
  have hone := @EnvC.one _ _ _ hw7
  (refine wpG_op rfl rfl rfl ?_; intro K hK; go_big_quiet_op; go_big_quiet_on)
  (refine wpG_call (f := 11) (args := #[.slice A' n' c', .int .i64 6]) (v := .bool false) rfl rfl rfl Tryd.func11 rfl rfl (fun u hu => by have h1 := fewall_any l 6 A' n' c' u HL'.out HM63.out (HTI.out.up (EnvX.bel hu)); rwa [HF_l.out] at h1) ?_ hw7; intro K hK; go_big_quiet_op; go_big_quiet_on)
  (refine wpG_op rfl rfl rfl ?_; intro K hK; go_big_quiet_op; go_big_quiet_on)
  clear hone hw7
  refine wpG_nil ?_
  intro u9 E2'
  have EX8 := Lib.hid E2'
  clear E2'
  go_upto_region 4 with (fail)
  refine wp_region_Hx (w0 := w) [0, 1, 2, 3, 4, 5, 6, 7, 8, 9, 10, 11, 12, 13, 14] [(w.heap.size, Obj.cells (txA t) 26 (0, 0))] rfl EX8.out ?_
  refine lexH_phase [0, 1, 2, 3, 4, 5, 6, 7, 8, 9, 10, 11, 12, 13, 14] [] ?_
  have hw10 : EnvX w _ [(w.heap.size, Obj.cells (txA t) 26 (0, 0))] := EX8.out
  have hone := @EnvC.one _ _ _ hw10
  iterate 11 (refine wpG_op rfl rfl rfl ?_; intro K hK; go_big_quiet_op; go_big_quiet_on)
  iterate 3 (refine wpG_skip rfl rfl ?_ hw10; intro K hK; go_big_quiet_op; go_big_quiet_on)
  (refine wpG_op rfl rfl rfl ?_; intro K hK; go_big_quiet_op; go_big_quiet_on)
  clear hone hw10
  refine wpG_nil ?_
  intro u12 E2'
  have EX11 := Lib.hid E2'
  clear E2'
  go_upto_region 5 with (fail)
  refine wp_region_Hx (w0 := w) [0, 1] [(w.heap.size, Obj.cells (txA t) 26 (0, 0))] rfl EX11.out ?_
  refine lexH_phase [0, 1] [] ?_
  have hw13 : EnvX w _ [(w.heap.size, Obj.cells (txA t) 26 (0, 0))] := EX11.out
  have hone := @EnvC.one _ _ _ hw13
  iterate 2 (refine wpG_op rfl rfl rfl ?_; intro K hK; go_big_quiet_op; go_big_quiet_on)
  clear hone hw13
  refine wpG_nil ?_
  intro u15 E2'
  have EX14 := Lib.hid E2'
  clear E2'
  have HBE := Lib.hid (EnvX.bel EX14.out)
  go_wp2
  go_ret
  exact ⟨rfl, HBE.out⟩
set_option maxRecDepth 20000 in
set_option maxHeartbeats 8000000 in
theorem law_stays_may (H : PurseC) (p : List CoinR) (t : TxM) (l : List TxM) (A : Option Addr) (n c : Nat) (A' : Option Addr) (n' c' : Nat) (w : World) (hl : p.length = n) (hnc : n ≤ c) (hcm : c ≤ maxLen) (hI : okP p) (hA : CoinsIn w w.heap.size A p) (kt : TxOk w t) (hl' : l.length = n') (hnc' : n' ≤ c') (hcm' : c' ≤ maxLen) (hA' : TxsIn w A' l) (ht : Tables w) (k1 : fewX t.r = true) (k2 : fewAll l 6 = true) (k3 : mayP p = false) :
    Calls Tryd.prog 4 #[.slice A n c, txV t, .slice A' n' c'] w fun e w' => e = .returned (.bool true) ∧ Below w.heap.size w w' := by
  have HT := Lib.hid ht
  have HH := Lib.hid H
  have HN63 : Hid (n < 9223372036854775808) := by show _ < _; unfold maxLen at hcm; omega
  have HL := Lib.hid hl
  have HNC := Lib.hid (And.intro hnc hcm)
  have HPP := Lib.hid hI
  have HAA : Hid (CoinsIn w w.heap.size A p) := hA
  have HM63 : Hid (n' < 9223372036854775808) := by show _ < _; unfold maxLen at hcm'; omega
  have HL' := Lib.hid hl'
  have HNC' := Lib.hid (And.intro hnc' hcm')
  have HTI := Lib.hid hA'
  have K_t := Lib.hid kt
  have HAW : Hid (∀ u, EnvX w u [] → Calls Tryd.prog 9 #[] u fun e w' => e = .returned (.bool true) ∧ Below u.heap.size u w') := fun u hu => pawake_any H u (ht.below (EnvX.bel hu))
  have E1 : Hid (EnvX w (w.alloc (.cells (txA t) 26)) [(w.heap.size, Obj.cells (txA t) 26 (0, 0))]) := (EnvX.start w).new _
  have HF_t : Hid (fewX t.r = true) := k1
  have HF_l : Hid (fewAll l 6 = true) := k2
  have HF_p : Hid (mayP p = false) := k3
  have HMY : Hid (∀ u, Below w.heap.size w u → Calls Tryd.prog 20 #[.slice A n c] u fun e w' => e = .returned (.bool false) ∧ Below u.heap.size u w') := fun u hu => by
    have h := HH.out.may p A n c u HL.out HNC.out.1 HNC.out.2 HPP.out (CellsIn.up HAA.out hu) (HT.out.below hu)
    rwa [HF_p.out] at h
  clear k1 k2 k3
  clear ht H hl hnc hcm hI hA hl' hnc' hcm' hA' kt
  unfold txV
  go_enter Tryd.func4, Tryd.ntmps4
  go_upto_region 1 with (fail)
  generalize w.alloc (.cells (txA t) 26) = W at *
  refine wp_region_Hx (w0 := w) [0, 1] [(w.heap.size, Obj.cells (txA t) 26 (0, 0))] rfl E1.out ?_
  refine lexH_phase [0, 1] [] ?_
  have hw1 : EnvX w _ [(w.heap.size, Obj.cells (txA t) 26 (0, 0))] := E1.out
  have hone := @EnvC.one _ _ _ hw1
  (refine wpG_call (f := 9) (args := #[]) (v := .bool true) rfl rfl rfl Tryd.func9 rfl rfl (fun u hu => HAW.out u (EnvX.sub hu (fun _ h => by cases h))) ?_ hw1; intro K hK; go_big_quiet_op; go_big_quiet_on)
  (refine wpG_op rfl rfl rfl ?_; intro K hK; go_big_quiet_op; go_big_quiet_on)
  clear hone hw1
  refine wpG_nil ?_
  intro u3 E2'
  have EX2 := Lib.hid E2'
  clear E2'
  go_upto_region 2 with (fail)
  refine wp_region_Hx (w0 := w) [0, 1, 2] [(w.heap.size, Obj.cells (txA t) 26 (0, 0))] rfl EX2.out ?_
  refine lexH_phase [0, 1, 2] [] ?_
  have hw4 : EnvX w _ [(w.heap.size, Obj.cells (txA t) 26 (0, 0))] := EX2.out
  have hone := @EnvC.one _ _ _ hw4
  (refine wpG_val (v := txV t) rfl rfl (fun u hu => load_any_op u (box_tx hu (List.Mem.head _)) rfl) ?_ hw4; intro K hK; go_big_quiet_op; go_big_quiet_on)
  (refine wpG_call (f := 10) (args := #[txV t]) (v := .bool true) rfl rfl rfl Tryd.func10 rfl rfl (fun u hu => by have h1 := few_any t u (K_t.out.up (EnvX.bel hu)); rwa [HF_t.out] at h1) ?_ hw4; intro K hK; go_big_quiet_op; go_big_quiet_on)
  (refine wpG_op rfl rfl rfl ?_; intro K hK; go_big_quiet_op; go_big_quiet_on)
  clear hone hw4
  refine wpG_nil ?_
  intro u6 E2'
  have EX5 := Lib.hid E2'
  clear E2'
  go_upto_region 3 with (fail)
  refine wp_region_Hx (w0 := w) [0, 1, 2] [(w.heap.size, Obj.cells (txA t) 26 (0, 0))] rfl EX5.out ?_
  refine lexH_phase [0, 1, 2] [] ?_
  have hw7 : EnvX w _ [(w.heap.size, Obj.cells (txA t) 26 (0, 0))] := EX5.out
  have hone := @EnvC.one _ _ _ hw7
  (refine wpG_op rfl rfl rfl ?_; intro K hK; go_big_quiet_op; go_big_quiet_on)
  (refine wpG_call (f := 11) (args := #[.slice A' n' c', .int .i64 6]) (v := .bool true) rfl rfl rfl Tryd.func11 rfl rfl (fun u hu => by have h1 := fewall_any l 6 A' n' c' u HL'.out HM63.out (HTI.out.up (EnvX.bel hu)); rwa [HF_l.out] at h1) ?_ hw7; intro K hK; go_big_quiet_op; go_big_quiet_on)
  (refine wpG_op rfl rfl rfl ?_; intro K hK; go_big_quiet_op; go_big_quiet_on)
  clear hone hw7
  refine wpG_nil ?_
  intro u9 E2'
  have EX8 := Lib.hid E2'
  clear E2'
  go_upto_region 4 with (fail)
  refine wp_region_Hx (w0 := w) [0, 1, 2, 3, 4, 5, 6, 7, 8, 9, 10, 11, 12, 13, 14] [(w.heap.size, Obj.cells (txA t) 26 (0, 0))] rfl EX8.out ?_
  refine lexH_phase [0, 1, 2, 3, 4, 5, 6, 7, 8, 9, 10, 11, 12, 13, 14] [] ?_
  have hw10 : EnvX w _ [(w.heap.size, Obj.cells (txA t) 26 (0, 0))] := EX8.out
  have hone := @EnvC.one _ _ _ hw10
  iterate 12 (refine wpG_op rfl rfl rfl ?_; intro K hK; go_big_quiet_op; go_big_quiet_on)
  (refine wpG_call (f := 20) (args := #[.slice A n c]) (v := .bool false) rfl rfl rfl Tryd.func20 rfl rfl (fun u hu => HMY.out u (EnvX.bel hu)) ?_ hw10; intro K hK; go_big_quiet_op; go_big_quiet_on)
  iterate 2 (refine wpG_op rfl rfl rfl ?_; intro K hK; go_big_quiet_op; go_big_quiet_on)
  clear hone hw10
  refine wpG_nil ?_
  intro u12 E2'
  have EX11 := Lib.hid E2'
  clear E2'
  go_upto_region 5 with (fail)
  refine wp_region_Hx (w0 := w) [0, 1] [(w.heap.size, Obj.cells (txA t) 26 (0, 0))] rfl EX11.out ?_
  refine lexH_phase [0, 1] [] ?_
  have hw13 : EnvX w _ [(w.heap.size, Obj.cells (txA t) 26 (0, 0))] := EX11.out
  have hone := @EnvC.one _ _ _ hw13
  iterate 2 (refine wpG_op rfl rfl rfl ?_; intro K hK; go_big_quiet_op; go_big_quiet_on)
  clear hone hw13
  refine wpG_nil ?_
  intro u15 E2'
  have EX14 := Lib.hid E2'
  clear E2'
  have HBE := Lib.hid (EnvX.bel EX14.out)
  go_wp2
  go_ret
  exact ⟨rfl, HBE.out⟩
set_option maxRecDepth 20000 in
set_option maxHeartbeats 8000000 in
theorem law_stays_main (H : PurseC) (p : List CoinR) (t : TxM) (l : List TxM) (A : Option Addr) (n c : Nat) (A' : Option Addr) (n' c' : Nat) (w : World) (hl : p.length = n) (hnc : n ≤ c) (hcm : c ≤ maxLen) (hI : okP p) (hA : CoinsIn w w.heap.size A p) (kt : TxOk w t) (hl' : l.length = n') (hnc' : n' ≤ c') (hcm' : c' ≤ maxLen) (hA' : TxsIn w A' l) (ht : Tables w) (k1 : fewX t.r = true) (k2 : fewAll l 6 = true) (k3 : mayP p = true) :
    Calls Tryd.prog 4 #[.slice A n c, txV t, .slice A' n' c'] w fun e w' => e = .returned (.bool true) ∧ Below w.heap.size w w' := by
  have HT := Lib.hid ht
  have HH := Lib.hid H
  have HN63 : Hid (n < 9223372036854775808) := by show _ < _; unfold maxLen at hcm; omega
  have HL := Lib.hid hl
  have HNC := Lib.hid (And.intro hnc hcm)
  have HPP := Lib.hid hI
  have HAA : Hid (CoinsIn w w.heap.size A p) := hA
  have HM63 : Hid (n' < 9223372036854775808) := by show _ < _; unfold maxLen at hcm'; omega
  have HL' := Lib.hid hl'
  have HNC' := Lib.hid (And.intro hnc' hcm')
  have HTI := Lib.hid hA'
  have K_t := Lib.hid kt
  have HAW : Hid (∀ u, EnvX w u [] → Calls Tryd.prog 9 #[] u fun e w' => e = .returned (.bool true) ∧ Below u.heap.size u w') := fun u hu => pawake_any H u (ht.below (EnvX.bel hu))
  have E1 : Hid (EnvX w (w.alloc (.cells (txA t) 26)) [(w.heap.size, Obj.cells (txA t) 26 (0, 0))]) := (EnvX.start w).new _
  have HF_t : Hid (fewX t.r = true) := k1
  have HF_l : Hid (fewAll l 6 = true) := k2
  have HF_p : Hid (mayP p = true) := k3
  have HMY : Hid (∀ u, Below w.heap.size w u → Calls Tryd.prog 20 #[.slice A n c] u fun e w' => e = .returned (.bool true) ∧ Below u.heap.size u w') := fun u hu => by
    have h := HH.out.may p A n c u HL.out HNC.out.1 HNC.out.2 HPP.out (CellsIn.up HAA.out hu) (HT.out.below hu)
    rwa [HF_p.out] at h
  clear k1 k2 k3
  clear ht H hl hnc hcm hI hA hl' hnc' hcm' hA' kt
  unfold txV
  go_enter Tryd.func4, Tryd.ntmps4
  go_upto_region 1 with (fail)
  generalize w.alloc (.cells (txA t) 26) = W at *
  refine wp_region_Hx (w0 := w) [0, 1] [(w.heap.size, Obj.cells (txA t) 26 (0, 0))] rfl E1.out ?_
  refine lexH_phase [0, 1] [] ?_
  have hw1 : EnvX w _ [(w.heap.size, Obj.cells (txA t) 26 (0, 0))] := E1.out
  have hone := @EnvC.one _ _ _ hw1
  (refine wpG_call (f := 9) (args := #[]) (v := .bool true) rfl rfl rfl Tryd.func9 rfl rfl (fun u hu => HAW.out u (EnvX.sub hu (fun _ h => by cases h))) ?_ hw1; intro K hK; go_big_quiet_op; go_big_quiet_on)
  (refine wpG_op rfl rfl rfl ?_; intro K hK; go_big_quiet_op; go_big_quiet_on)
  clear hone hw1
  refine wpG_nil ?_
  intro u3 E2'
  have EX2 := Lib.hid E2'
  clear E2'
  go_upto_region 2 with (fail)
  refine wp_region_Hx (w0 := w) [0, 1, 2] [(w.heap.size, Obj.cells (txA t) 26 (0, 0))] rfl EX2.out ?_
  refine lexH_phase [0, 1, 2] [] ?_
  have hw4 : EnvX w _ [(w.heap.size, Obj.cells (txA t) 26 (0, 0))] := EX2.out
  have hone := @EnvC.one _ _ _ hw4
  (refine wpG_val (v := txV t) rfl rfl (fun u hu => load_any_op u (box_tx hu (List.Mem.head _)) rfl) ?_ hw4; intro K hK; go_big_quiet_op; go_big_quiet_on)
  (refine wpG_call (f := 10) (args := #[txV t]) (v := .bool true) rfl rfl rfl Tryd.func10 rfl rfl (fun u hu => by have h1 := few_any t u (K_t.out.up (EnvX.bel hu)); rwa [HF_t.out] at h1) ?_ hw4; intro K hK; go_big_quiet_op; go_big_quiet_on)
  (refine wpG_op rfl rfl rfl ?_; intro K hK; go_big_quiet_op; go_big_quiet_on)
  clear hone hw4
  refine wpG_nil ?_
  intro u6 E2'
  have EX5 := Lib.hid E2'
  clear E2'
  go_upto_region 3 with (fail)
  refine wp_region_Hx (w0 := w) [0, 1, 2] [(w.heap.size, Obj.cells (txA t) 26 (0, 0))] rfl EX5.out ?_
  refine lexH_phase [0, 1, 2] [] ?_
  have hw7 : EnvX w _ [(w.heap.size, Obj.cells (txA t) 26 (0, 0))] := EX5.out
  have hone := @EnvC.one _ _ _ hw7
  (refine wpG_op rfl rfl rfl ?_; intro K hK; go_big_quiet_op; go_big_quiet_on)
  (refine wpG_call (f := 11) (args := #[.slice A' n' c', .int .i64 6]) (v := .bool true) rfl rfl rfl Tryd.func11 rfl rfl (fun u hu => by have h1 := fewall_any l 6 A' n' c' u HL'.out HM63.out (HTI.out.up (EnvX.bel hu)); rwa [HF_l.out] at h1) ?_ hw7; intro K hK; go_big_quiet_op; go_big_quiet_on)
  (refine wpG_op rfl rfl rfl ?_; intro K hK; go_big_quiet_op; go_big_quiet_on)
  clear hone hw7
  refine wpG_nil ?_
  intro u9 E2'
  have EX8 := Lib.hid E2'
  clear E2'
  go_upto_region 4 with (fail)
  refine wp_region_Hx (w0 := w) [0, 1, 2, 3, 4, 5, 6, 7, 8, 9, 10, 11, 12, 13, 14] [(w.heap.size, Obj.cells (txA t) 26 (0, 0))] rfl EX8.out ?_
  refine lexH_phase [0, 1, 2, 3, 4, 5, 6, 7, 8, 9, 10, 11, 12, 13, 14] [] ?_
  have hw10 : EnvX w _ [(w.heap.size, Obj.cells (txA t) 26 (0, 0))] := EX8.out
  have hone := @EnvC.one _ _ _ hw10
  iterate 12 (refine wpG_op rfl rfl rfl ?_; intro K hK; go_big_quiet_op; go_big_quiet_on)
  (refine wpG_call (f := 20) (args := #[.slice A n c]) (v := .bool true) rfl rfl rfl Tryd.func20 rfl rfl (fun u hu => HMY.out u (EnvX.bel hu)) ?_ hw10; intro K hK; go_big_quiet_op; go_big_quiet_on)
  iterate 2 (refine wpG_op rfl rfl rfl ?_; intro K hK; go_big_quiet_op; go_big_quiet_on)
  clear hone hw10
  refine wpG_nil ?_
  intro u12 E2'
  have EX11 := Lib.hid E2'
  clear E2'
  have hn48 := (mayP_iff.1 HF_p.out).1
  rw [HL.out] at hn48
  have HN48 : Hid (n ≤ 1000) := by show _ ≤ _; omega
  have HFW : Hid (n' ≤ 6 ∧ ∀ x ∈ l, fewX x.r = true) := by
    have h := HF_l.out
    have h2 := fewAll_len h
    unfold fewAll at h
    rw [Bool.and_eq_true, List.all_eq_true] at h
    exact ⟨by rw [← HL'.out]; omega, h.1⟩
  clear hn48
  rcases hsp : spendP p t.r with ⟨a, na, ea⟩
  rcases hap : applyP p (rsT l) with ⟨d, eb⟩
  have hsa := spend_all HPP.out.id HF_p.out t.r
  rw [hsp] at hsa
  have haa := apply_all HPP.out.id HF_p.out (rsT l)
  rw [hap] at haa
  simp only at hsa haa
  have HAO : Hid (okP a) := okP_of hsa.2.1 (mayP_iff.1 hsa.1).2.1
  have HDO : Hid (okP d) := okP_of haa.2.1 (mayP_iff.1 haa.1).2.1
  have HA48 : Hid (a.length ≤ 1000) := by have := (mayP_iff.1 hsa.1).1; show _ ≤ _; omega
  have HD48 : Hid (d.length ≤ 1000) := by have := (mayP_iff.1 haa.1).1; show _ ≤ _; omega
  have HSP := Lib.hid hsp
  have HAP := Lib.hid hap
  have HSA := Lib.hid hsa
  have HDA := Lib.hid haa
  have b1 := sumV_bound (mayP_iff.1 HF_p.out).2.1
  have b2 := sumV_bound (mayP_iff.1 hsa.1).2.1
  have b4 := (mayP_iff.1 HF_p.out).1
  have HSB : Hid (0 ≤ sumV p ∧ sumV p ≤ 52776558133248 ∧ 0 ≤ sumV a ∧ sumV a ≤ sumV p) := by show _ ∧ _; omega
  clear hsp hap hsa haa b1 b2 b4
  go_upto_region 6 with (fail)
  refine wp_region_Hx (w0 := w) [0, 1, 2, 3, 4, 5, 6, 7, 8, 9] [(w.heap.size, Obj.cells (txA t) 26 (0, 0))] rfl EX11.out ?_
  refine lexH_phase [0, 1] [2, 3, 4, 5, 6, 7, 8, 9] ?_
  have hw13 : EnvX w _ [(w.heap.size, Obj.cells (txA t) 26 (0, 0))] := EX11.out
  have hone := @EnvC.one _ _ _ hw13
  (refine wpG_op rfl rfl rfl ?_; intro K hK; go_big_quiet_op; go_big_quiet_on)
  (refine wpG_val (v := txV t) rfl rfl (fun u hu => load_any_op u (box_tx hu (List.Mem.head _)) rfl) ?_ hw13; intro K hK; go_big_quiet_op; go_big_quiet_on)
  clear hone hw13
  refine wpG_nil ?_
  refine (hOp_turn (gd := none) (R := fun x M' => ∃ A c N, x = .tuple #[.slice A (a).length c, .int .i64 na, .int .i64 ((ea : Nat) : Int)] ∧ M' = N ++ [(w.heap.size, Obj.cells (txA t) 26 (0, 0))] ∧ ((a).length ≤ c ∧ c ≤ maxLen) ∧ CoB (a) A N) rfl rfl rfl rfl (fun u hu => OUpon_call (fid := 12) (xs := #[.tmp 37, .tmp 38]) (args := #[.slice A n c, txV t]) rfl Tryd.func12 rfl rfl u (co_turn3 (by have h := HH.out.spend p A n c t u HL.out HN48.out HNC.out.1 HNC.out.2 HPP.out (CellsIn.up HAA.out (EnvX.bel hu)) (K_t.out.up (EnvX.bel hu)) HF_t.out (HT.out.below (EnvX.bel hu)); rwa [HSP.out] at h) hu)) ?_)
  rintro _ _ ⟨A1, c1, N1, rfl, rfl, hc1, hb1⟩ he14; intro K' hK'; go_big_quiet_op; go_big_quiet_on
  have HC1 := Lib.hid hc1
  have HB1 := Lib.hid hb1
  clear hc1 hb1
  change lexH _ _ _ _ _ _ (N1 ++ ((w.heap.size, Obj.cells (txA t) 26 (0, 0)) :: []))
  refine lexH_phase [3, 4, 5, 6, 7, 8, 9] [] ?_
  have hw15 : EnvX w _ (N1 ++ ((w.heap.size, Obj.cells (txA t) 26 (0, 0)) :: [])) := he14.choose_spec
  have hone := @EnvC.one _ _ _ hw15
  iterate 7 (refine wpG_op rfl rfl rfl ?_; intro K hK; go_big_quiet_op; go_big_quiet_on)
  clear hone hw15
  refine wpG_nil ?_
  intro u17 E2'
  have EX16 := Lib.hid E2'
  clear E2'
  go_upto_region 7 with (fail)
  refine wp_region_Hx (w0 := w) [0, 1, 2, 3, 4, 5, 6, 7] (N1 ++ ((w.heap.size, Obj.cells (txA t) 26 (0, 0)) :: [])) rfl EX16.out ?_
  refine lexH_phase [0, 1] [2, 3, 4, 5, 6, 7] ?_
  have hw18 : EnvX w _ (N1 ++ ((w.heap.size, Obj.cells (txA t) 26 (0, 0)) :: [])) := EX16.out
  have hone := @EnvC.one _ _ _ hw18
  iterate 2 (refine wpG_op rfl rfl rfl ?_; intro K hK; go_big_quiet_op; go_big_quiet_on)
  clear hone hw18
  refine wpG_nil ?_
  refine (hOp_turn (gd := none) (R := fun x M' => ∃ A c N, x = .tuple #[.slice A (d).length c, .int .i64 ((eb : Nat) : Int)] ∧ M' = N ++ (N1 ++ ((w.heap.size, Obj.cells (txA t) 26 (0, 0)) :: [])) ∧ ((d).length ≤ c ∧ c ≤ maxLen) ∧ CoB (d) A N) rfl rfl rfl rfl (fun u hu => OUpon_call (fid := 14) (xs := #[.tmp 44, .tmp 45]) (args := #[.slice A n c, .slice A' n' c']) rfl Tryd.func14 rfl rfl u (co_turn2 (by have h := HH.out.apply p A n c l A' n' c' u HL.out HN48.out HNC.out.1 HNC.out.2 HPP.out (CellsIn.up HAA.out (EnvX.bel hu)) HL'.out HFW.out.1 HNC'.out.1 HNC'.out.2 (HTI.out.up (EnvX.bel hu)) HFW.out.2 (HT.out.below (EnvX.bel hu)); rwa [HAP.out] at h) hu)) ?_)
  rintro _ _ ⟨A2, c2, N2, rfl, rfl, hc2, hb2⟩ he19; intro K' hK'; go_big_quiet_op; go_big_quiet_on
  have HC2 := Lib.hid hc2
  have HB2 := Lib.hid hb2
  clear hc2 hb2
  change lexH _ _ _ _ _ _ (N2 ++ (N1 ++ ((w.heap.size, Obj.cells (txA t) 26 (0, 0)) :: [])))
  refine lexH_phase [3, 4, 5, 6, 7] [] ?_
  have hw20 : EnvX w _ (N2 ++ (N1 ++ ((w.heap.size, Obj.cells (txA t) 26 (0, 0)) :: []))) := he19.choose_spec
  have hone := @EnvC.one _ _ _ hw20
  iterate 5 (refine wpG_op rfl rfl rfl ?_; intro K hK; go_big_quiet_op; go_big_quiet_on)
  clear hone hw20
  refine wpG_nil ?_
  intro u22 E2'
  have EX21 := Lib.hid E2'
  clear E2'
  have HG0 : Hid (decide ((0 : Int) ≤ na) = true) := decide_eq_true HSA.out.2.2.2
  have HAD : Hid (IntKind.i64.wrap (sumV a + na) = sumV p) := by show _ = _; rw [HSA.out.2.2.1]; have := HSB.out; exact wrapS (by omega)
  have HA5 : Hid (IntKind.i64.wrap (sumV p + 50) = sumV p + 50) := by have := HSB.out; exact wrapS (by omega)
  have HLE : Hid (decide (sumV d ≤ sumV p + 50) = true) := decide_eq_true HDA.out.2.2.1
  cases ea with
  | zero =>
    have CEA : Hid (decide (((0 : Nat) : Int) ≠ 0) = false) := decide_eq_false (by omega)
    cases eb with
    | zero =>
      have CEB : Hid (decide (((0 : Nat) : Int) ≠ 0) = false) := decide_eq_false (by omega)
      go_upto_region 8 with (fail)
      refine wp_region_Hx (w0 := w) [0, 1, 2, 3, 4, 5, 6, 7, 8, 9, 10, 11, 12, 13, 14, 15, 16, 17, 18, 19, 20, 21, 22, 23, 24, 25, 26, 27, 28, 29, 30, 31] (N2 ++ (N1 ++ ((w.heap.size, Obj.cells (txA t) 26 (0, 0)) :: []))) rfl EX21.out ?_
      refine lexH_phase [0, 1, 2, 3, 4, 5, 6, 7, 8, 9, 10, 11, 12, 13, 14, 15, 16, 17, 18, 19, 20, 21, 22, 23, 24, 25, 26, 27, 28, 29, 30, 31] [] ?_
      have hw23 : EnvX w _ (N2 ++ (N1 ++ ((w.heap.size, Obj.cells (txA t) 26 (0, 0)) :: []))) := EX21.out
      have hone := @EnvC.one _ _ _ hw23
      (refine wpG_op rfl rfl rfl ?_; intro K hK; go_big_quiet_op; go_big_quiet_on)
      (refine wpG_val (v := .bool false) rfl rfl (fun u hu => neErr_op u CEA.out rfl rfl) ?_ hw23; intro K hK; go_big_quiet_op; go_big_quiet_on)
      (refine wpG_op rfl rfl rfl ?_; intro K hK; go_big_quiet_op; go_big_quiet_on)
      iterate 8 (refine wpG_skip rfl rfl ?_ hw23; intro K hK; go_big_quiet_op; go_big_quiet_on)
      iterate 3 (refine wpG_op rfl rfl rfl ?_; intro K hK; go_big_quiet_op; go_big_quiet_on)
      (refine wpG_val (v := .bool false) rfl rfl (fun u hu => neErr_op u CEB.out rfl rfl) ?_ hw23; intro K hK; go_big_quiet_op; go_big_quiet_on)
      (refine wpG_op rfl rfl rfl ?_; intro K hK; go_big_quiet_op; go_big_quiet_on)
      iterate 4 (refine wpG_skip rfl rfl ?_ hw23; intro K hK; go_big_quiet_op; go_big_quiet_on)
      iterate 4 (refine wpG_op rfl rfl rfl ?_; intro K hK; go_big_quiet_op; go_big_quiet_on)
      (refine wpG_call (f := 20) (args := #[.slice A1 a.length c1]) (v := .bool true) rfl rfl rfl Tryd.func20 rfl rfl (fun u hu => by have h := HH.out.may a A1 a.length c1 u rfl HC1.out.1 HC1.out.2 HAO.out (CoB.read HB1.out hu (fun y MEM => (List.mem_append_right _ (List.mem_append_left _ MEM)))) (HT.out.below (EnvX.bel hu)); rwa [HSA.out.1] at h) ?_ hw23; intro K hK; go_big_quiet_op; go_big_quiet_on)
      iterate 4 (refine wpG_op rfl rfl rfl ?_; intro K hK; go_big_quiet_op; go_big_quiet_on)
      (refine wpG_call (f := 20) (args := #[.slice A2 d.length c2]) (v := .bool true) rfl rfl rfl Tryd.func20 rfl rfl (fun u hu => by have h := HH.out.may d A2 d.length c2 u rfl HC2.out.1 HC2.out.2 HDO.out (CoB.read HB2.out hu (fun y MEM => (List.mem_append_left _ MEM))) (HT.out.below (EnvX.bel hu)); rwa [HDA.out.1] at h) ?_ hw23; intro K hK; go_big_quiet_op; go_big_quiet_on)
      iterate 2 (refine wpG_op rfl rfl rfl ?_; intro K hK; go_big_quiet_op; go_big_quiet_on)
      clear hone hw23
      refine wpG_nil ?_
      intro u25 E2'
      have EX24 := Lib.hid E2'
      clear E2'
      go_upto_region 10 with (fail)
      refine wp_region_Hx (w0 := w) [0, 1, 2, 3, 4, 5, 6, 7, 8, 9, 10, 11, 12, 13, 14, 15, 16, 17, 18, 19] (N2 ++ (N1 ++ ((w.heap.size, Obj.cells (txA t) 26 (0, 0)) :: []))) rfl EX24.out ?_
      refine lexH_phase [0, 1, 2, 3, 4, 5, 6, 7, 8, 9, 10, 11, 12, 13, 14, 15, 16, 17, 18, 19] [] ?_
      have hw26 : EnvX w _ (N2 ++ (N1 ++ ((w.heap.size, Obj.cells (txA t) 26 (0, 0)) :: []))) := EX24.out
      have hone := @EnvC.one _ _ _ hw26
      (refine wpG_op rfl rfl rfl ?_; intro K hK; go_big_quiet_op; go_big_quiet_on)
      (refine wpG_val (v := .bool true) rfl rfl (fun u hu => geZ_op u HG0.out rfl rfl) ?_ hw26; intro K hK; go_big_quiet_op; go_big_quiet_on)
      iterate 2 (refine wpG_op rfl rfl rfl ?_; intro K hK; go_big_quiet_op; go_big_quiet_on)
      (refine wpG_call (f := 22) (args := #[.slice A1 a.length c1]) (v := .int .i64 (sumV a)) rfl rfl rfl Tryd.func22 rfl rfl (fun u hu => by have h := HH.out.sum a A1 a.length c1 u rfl HA48.out HC1.out.1 HC1.out.2 HAO.out (CoB.read HB1.out hu (fun y MEM => (List.mem_append_right _ (List.mem_append_left _ MEM)))) (HT.out.below (EnvX.bel hu)); rwa [sumP_may HSA.out.1] at h) ?_ hw26; intro K hK; go_big_quiet_op; go_big_quiet_on)
      (refine wpG_op rfl rfl rfl ?_; intro K hK; go_big_quiet_op; go_big_quiet_on)
      (refine wpG_val (v := .int .i64 (sumV p)) rfl rfl (fun u hu => addZ_op u HAD.out rfl rfl) ?_ hw26; intro K hK; go_big_quiet_op; go_big_quiet_on)
      (refine wpG_op rfl rfl rfl ?_; intro K hK; go_big_quiet_op; go_big_quiet_on)
      (refine wpG_call (f := 22) (args := #[.slice A n c]) (v := .int .i64 (sumV p)) rfl rfl rfl Tryd.func22 rfl rfl (fun u hu => by have h := HH.out.sum p A n c u HL.out HN48.out HNC.out.1 HNC.out.2 HPP.out (CellsIn.up HAA.out (EnvX.bel hu)) (HT.out.below (EnvX.bel hu)); rwa [sumP_may HF_p.out] at h) ?_ hw26; intro K hK; go_big_quiet_op; go_big_quiet_on)
      (refine wpG_val (v := .bool true) rfl rfl (fun u hu => eqlI_op u (decide_eq_true rfl) rfl rfl) ?_ hw26; intro K hK; go_big_quiet_op; go_big_quiet_on)
      iterate 3 (refine wpG_op rfl rfl rfl ?_; intro K hK; go_big_quiet_op; go_big_quiet_on)
      (refine wpG_call (f := 22) (args := #[.slice A2 d.length c2]) (v := .int .i64 (sumV d)) rfl rfl rfl Tryd.func22 rfl rfl (fun u hu => by have h := HH.out.sum d A2 d.length c2 u rfl HD48.out HC2.out.1 HC2.out.2 HDO.out (CoB.read HB2.out hu (fun y MEM => (List.mem_append_left _ MEM))) (HT.out.below (EnvX.bel hu)); rwa [sumP_may HDA.out.1] at h) ?_ hw26; intro K hK; go_big_quiet_op; go_big_quiet_on)
      (refine wpG_op rfl rfl rfl ?_; intro K hK; go_big_quiet_op; go_big_quiet_on)
      (refine wpG_call (f := 22) (args := #[.slice A n c]) (v := .int .i64 (sumV p)) rfl rfl rfl Tryd.func22 rfl rfl (fun u hu => by have h := HH.out.sum p A n c u HL.out HN48.out HNC.out.1 HNC.out.2 HPP.out (CellsIn.up HAA.out (EnvX.bel hu)) (HT.out.below (EnvX.bel hu)); rwa [sumP_may HF_p.out] at h) ?_ hw26; intro K hK; go_big_quiet_op; go_big_quiet_on)
      (refine wpG_val (v := .int .i64 (sumV p + 50)) rfl rfl (fun u hu => addZ_op u HA5.out rfl rfl) ?_ hw26; intro K hK; go_big_quiet_op; go_big_quiet_on)
      (refine wpG_val (v := .bool true) rfl rfl (fun u hu => leZ_op u HLE.out rfl rfl) ?_ hw26; intro K hK; go_big_quiet_op; go_big_quiet_on)
      iterate 2 (refine wpG_op rfl rfl rfl ?_; intro K hK; go_big_quiet_op; go_big_quiet_on)
      clear hone hw26
      refine wpG_nil ?_
      intro u28 E2'
      have EX27 := Lib.hid E2'
      clear E2'
      have HBE := Lib.hid (EnvX.bel EX27.out)
      go_wp2
      go_ret
      exact ⟨rfl, HBE.out⟩
    | succ eb =>
      have CEB : Hid (decide (((eb + 1 : Nat) : Int) ≠ 0) = true) := decide_eq_true (by omega)
      have HSD : Hid (samePu d p = true) := decide_eq_true (HDA.out.2.2.2 (Nat.succ_ne_zero _))
      go_upto_region 8 with (fail)
      refine wp_region_Hx (w0 := w) [0, 1, 2, 3, 4, 5, 6, 7, 8, 9, 10, 11, 12, 13, 14, 15, 16, 17, 18, 19, 20, 21, 22, 23, 24, 25, 26, 27, 28, 29, 30, 31] (N2 ++ (N1 ++ ((w.heap.size, Obj.cells (txA t) 26 (0, 0)) :: []))) rfl EX21.out ?_
      refine lexH_phase [0, 1, 2, 3, 4, 5, 6, 7, 8, 9, 10, 11, 12, 13, 14, 15, 16, 17, 18, 19, 20, 21, 22, 23, 24, 25, 26, 27, 28, 29, 30, 31] [] ?_
      have hw23 : EnvX w _ (N2 ++ (N1 ++ ((w.heap.size, Obj.cells (txA t) 26 (0, 0)) :: []))) := EX21.out
      have hone := @EnvC.one _ _ _ hw23
      (refine wpG_op rfl rfl rfl ?_; intro K hK; go_big_quiet_op; go_big_quiet_on)
      (refine wpG_val (v := .bool false) rfl rfl (fun u hu => neErr_op u CEA.out rfl rfl) ?_ hw23; intro K hK; go_big_quiet_op; go_big_quiet_on)
      (refine wpG_op rfl rfl rfl ?_; intro K hK; go_big_quiet_op; go_big_quiet_on)
      iterate 8 (refine wpG_skip rfl rfl ?_ hw23; intro K hK; go_big_quiet_op; go_big_quiet_on)
      iterate 3 (refine wpG_op rfl rfl rfl ?_; intro K hK; go_big_quiet_op; go_big_quiet_on)
      (refine wpG_val (v := .bool true) rfl rfl (fun u hu => neErr_op u CEB.out rfl rfl) ?_ hw23; intro K hK; go_big_quiet_op; go_big_quiet_on)
      iterate 3 (refine wpG_op rfl rfl rfl ?_; intro K hK; go_big_quiet_op; go_big_quiet_on)
      (refine wpG_call (f := 21) (args := #[.slice A2 d.length c2, .slice A n c]) (v := .bool true) rfl rfl rfl Tryd.func21 rfl rfl (fun u hu => by have h := HH.out.same d p A2 A d.length c2 n c u rfl HD48.out HC2.out.1 HC2.out.2 HDO.out (CoB.read HB2.out hu (fun y MEM => (List.mem_append_left _ MEM))) HL.out HN48.out HNC.out.1 HNC.out.2 HPP.out (CellsIn.up HAA.out (EnvX.bel hu)) (HT.out.below (EnvX.bel hu)); rwa [HSD.out] at h) ?_ hw23; intro K hK; go_big_quiet_op; go_big_quiet_on)
      iterate 5 (refine wpG_op rfl rfl rfl ?_; intro K hK; go_big_quiet_op; go_big_quiet_on)
      (refine wpG_call (f := 20) (args := #[.slice A1 a.length c1]) (v := .bool true) rfl rfl rfl Tryd.func20 rfl rfl (fun u hu => by have h := HH.out.may a A1 a.length c1 u rfl HC1.out.1 HC1.out.2 HAO.out (CoB.read HB1.out hu (fun y MEM => (List.mem_append_right _ (List.mem_append_left _ MEM)))) (HT.out.below (EnvX.bel hu)); rwa [HSA.out.1] at h) ?_ hw23; intro K hK; go_big_quiet_op; go_big_quiet_on)
      iterate 4 (refine wpG_op rfl rfl rfl ?_; intro K hK; go_big_quiet_op; go_big_quiet_on)
      (refine wpG_call (f := 20) (args := #[.slice A2 d.length c2]) (v := .bool true) rfl rfl rfl Tryd.func20 rfl rfl (fun u hu => by have h := HH.out.may d A2 d.length c2 u rfl HC2.out.1 HC2.out.2 HDO.out (CoB.read HB2.out hu (fun y MEM => (List.mem_append_left _ MEM))) (HT.out.below (EnvX.bel hu)); rwa [HDA.out.1] at h) ?_ hw23; intro K hK; go_big_quiet_op; go_big_quiet_on)
      iterate 2 (refine wpG_op rfl rfl rfl ?_; intro K hK; go_big_quiet_op; go_big_quiet_on)
      clear hone hw23
      refine wpG_nil ?_
      intro u25 E2'
      have EX24 := Lib.hid E2'
      clear E2'
      go_upto_region 10 with (fail)
      refine wp_region_Hx (w0 := w) [0, 1, 2, 3, 4, 5, 6, 7, 8, 9, 10, 11, 12, 13, 14, 15, 16, 17, 18, 19] (N2 ++ (N1 ++ ((w.heap.size, Obj.cells (txA t) 26 (0, 0)) :: []))) rfl EX24.out ?_
      refine lexH_phase [0, 1, 2, 3, 4, 5, 6, 7, 8, 9, 10, 11, 12, 13, 14, 15, 16, 17, 18, 19] [] ?_
      have hw26 : EnvX w _ (N2 ++ (N1 ++ ((w.heap.size, Obj.cells (txA t) 26 (0, 0)) :: []))) := EX24.out
      have hone := @EnvC.one _ _ _ hw26
      (refine wpG_op rfl rfl rfl ?_; intro K hK; go_big_quiet_op; go_big_quiet_on)
      (refine wpG_val (v := .bool true) rfl rfl (fun u hu => geZ_op u HG0.out rfl rfl) ?_ hw26; intro K hK; go_big_quiet_op; go_big_quiet_on)
      iterate 2 (refine wpG_op rfl rfl rfl ?_; intro K hK; go_big_quiet_op; go_big_quiet_on)
      (refine wpG_call (f := 22) (args := #[.slice A1 a.length c1]) (v := .int .i64 (sumV a)) rfl rfl rfl Tryd.func22 rfl rfl (fun u hu => by have h := HH.out.sum a A1 a.length c1 u rfl HA48.out HC1.out.1 HC1.out.2 HAO.out (CoB.read HB1.out hu (fun y MEM => (List.mem_append_right _ (List.mem_append_left _ MEM)))) (HT.out.below (EnvX.bel hu)); rwa [sumP_may HSA.out.1] at h) ?_ hw26; intro K hK; go_big_quiet_op; go_big_quiet_on)
      (refine wpG_op rfl rfl rfl ?_; intro K hK; go_big_quiet_op; go_big_quiet_on)
      (refine wpG_val (v := .int .i64 (sumV p)) rfl rfl (fun u hu => addZ_op u HAD.out rfl rfl) ?_ hw26; intro K hK; go_big_quiet_op; go_big_quiet_on)
      (refine wpG_op rfl rfl rfl ?_; intro K hK; go_big_quiet_op; go_big_quiet_on)
      (refine wpG_call (f := 22) (args := #[.slice A n c]) (v := .int .i64 (sumV p)) rfl rfl rfl Tryd.func22 rfl rfl (fun u hu => by have h := HH.out.sum p A n c u HL.out HN48.out HNC.out.1 HNC.out.2 HPP.out (CellsIn.up HAA.out (EnvX.bel hu)) (HT.out.below (EnvX.bel hu)); rwa [sumP_may HF_p.out] at h) ?_ hw26; intro K hK; go_big_quiet_op; go_big_quiet_on)
      (refine wpG_val (v := .bool true) rfl rfl (fun u hu => eqlI_op u (decide_eq_true rfl) rfl rfl) ?_ hw26; intro K hK; go_big_quiet_op; go_big_quiet_on)
      iterate 3 (refine wpG_op rfl rfl rfl ?_; intro K hK; go_big_quiet_op; go_big_quiet_on)
      (refine wpG_call (f := 22) (args := #[.slice A2 d.length c2]) (v := .int .i64 (sumV d)) rfl rfl rfl Tryd.func22 rfl rfl (fun u hu => by have h := HH.out.sum d A2 d.length c2 u rfl HD48.out HC2.out.1 HC2.out.2 HDO.out (CoB.read HB2.out hu (fun y MEM => (List.mem_append_left _ MEM))) (HT.out.below (EnvX.bel hu)); rwa [sumP_may HDA.out.1] at h) ?_ hw26; intro K hK; go_big_quiet_op; go_big_quiet_on)
      (refine wpG_op rfl rfl rfl ?_; intro K hK; go_big_quiet_op; go_big_quiet_on)
      (refine wpG_call (f := 22) (args := #[.slice A n c]) (v := .int .i64 (sumV p)) rfl rfl rfl Tryd.func22 rfl rfl (fun u hu => by have h := HH.out.sum p A n c u HL.out HN48.out HNC.out.1 HNC.out.2 HPP.out (CellsIn.up HAA.out (EnvX.bel hu)) (HT.out.below (EnvX.bel hu)); rwa [sumP_may HF_p.out] at h) ?_ hw26; intro K hK; go_big_quiet_op; go_big_quiet_on)
      (refine wpG_val (v := .int .i64 (sumV p + 50)) rfl rfl (fun u hu => addZ_op u HA5.out rfl rfl) ?_ hw26; intro K hK; go_big_quiet_op; go_big_quiet_on)
      (refine wpG_val (v := .bool true) rfl rfl (fun u hu => leZ_op u HLE.out rfl rfl) ?_ hw26; intro K hK; go_big_quiet_op; go_big_quiet_on)
      iterate 2 (refine wpG_op rfl rfl rfl ?_; intro K hK; go_big_quiet_op; go_big_quiet_on)
      clear hone hw26
      refine wpG_nil ?_
      intro u28 E2'
      have EX27 := Lib.hid E2'
      clear E2'
      have HBE := Lib.hid (EnvX.bel EX27.out)
      go_wp2
      go_ret
      exact ⟨rfl, HBE.out⟩
  | succ ea =>
    have CEA : Hid (decide (((ea + 1 : Nat) : Int) ≠ 0) = true) := decide_eq_true (by omega)
    have hse := spend_err HSP.out
    have HSM : Hid (samePu a p = true) := decide_eq_true hse.1
    have HNA : Hid (decide (na ≠ 0) = false) := by show _ = _; rw [hse.2]; rfl
    clear hse
    cases eb with
    | zero =>
      have CEB : Hid (decide (((0 : Nat) : Int) ≠ 0) = false) := decide_eq_false (by omega)
      go_upto_region 8 with (fail)
      refine wp_region_Hx (w0 := w) [0, 1, 2, 3, 4, 5, 6, 7, 8, 9, 10, 11, 12, 13, 14, 15, 16, 17, 18, 19, 20, 21, 22, 23, 24, 25, 26, 27, 28, 29, 30, 31] (N2 ++ (N1 ++ ((w.heap.size, Obj.cells (txA t) 26 (0, 0)) :: []))) rfl EX21.out ?_
      refine lexH_phase [0, 1, 2, 3, 4, 5, 6, 7, 8, 9, 10, 11, 12, 13, 14, 15, 16, 17, 18, 19, 20, 21, 22, 23, 24, 25, 26, 27, 28, 29, 30, 31] [] ?_
      have hw23 : EnvX w _ (N2 ++ (N1 ++ ((w.heap.size, Obj.cells (txA t) 26 (0, 0)) :: []))) := EX21.out
      have hone := @EnvC.one _ _ _ hw23
      (refine wpG_op rfl rfl rfl ?_; intro K hK; go_big_quiet_op; go_big_quiet_on)
      (refine wpG_val (v := .bool true) rfl rfl (fun u hu => neErr_op u CEA.out rfl rfl) ?_ hw23; intro K hK; go_big_quiet_op; go_big_quiet_on)
      iterate 3 (refine wpG_op rfl rfl rfl ?_; intro K hK; go_big_quiet_op; go_big_quiet_on)
      (refine wpG_call (f := 21) (args := #[.slice A1 a.length c1, .slice A n c]) (v := .bool true) rfl rfl rfl Tryd.func21 rfl rfl (fun u hu => by have h := HH.out.same a p A1 A a.length c1 n c u rfl HA48.out HC1.out.1 HC1.out.2 HAO.out (CoB.read HB1.out hu (fun y MEM => (List.mem_append_right _ (List.mem_append_left _ MEM)))) HL.out HN48.out HNC.out.1 HNC.out.2 HPP.out (CellsIn.up HAA.out (EnvX.bel hu)) (HT.out.below (EnvX.bel hu)); rwa [HSM.out] at h) ?_ hw23; intro K hK; go_big_quiet_op; go_big_quiet_on)
      iterate 3 (refine wpG_op rfl rfl rfl ?_; intro K hK; go_big_quiet_op; go_big_quiet_on)
      (refine wpG_val (v := .bool false) rfl rfl (fun u hu => neZ_op u HNA.out rfl rfl) ?_ hw23; intro K hK; go_big_quiet_op; go_big_quiet_on)
      iterate 4 (refine wpG_op rfl rfl rfl ?_; intro K hK; go_big_quiet_op; go_big_quiet_on)
      (refine wpG_val (v := .bool false) rfl rfl (fun u hu => neErr_op u CEB.out rfl rfl) ?_ hw23; intro K hK; go_big_quiet_op; go_big_quiet_on)
      (refine wpG_op rfl rfl rfl ?_; intro K hK; go_big_quiet_op; go_big_quiet_on)
      iterate 4 (refine wpG_skip rfl rfl ?_ hw23; intro K hK; go_big_quiet_op; go_big_quiet_on)
      iterate 4 (refine wpG_op rfl rfl rfl ?_; intro K hK; go_big_quiet_op; go_big_quiet_on)
      (refine wpG_call (f := 20) (args := #[.slice A1 a.length c1]) (v := .bool true) rfl rfl rfl Tryd.func20 rfl rfl (fun u hu => by have h := HH.out.may a A1 a.length c1 u rfl HC1.out.1 HC1.out.2 HAO.out (CoB.read HB1.out hu (fun y MEM => (List.mem_append_right _ (List.mem_append_left _ MEM)))) (HT.out.below (EnvX.bel hu)); rwa [HSA.out.1] at h) ?_ hw23; intro K hK; go_big_quiet_op; go_big_quiet_on)
      iterate 4 (refine wpG_op rfl rfl rfl ?_; intro K hK; go_big_quiet_op; go_big_quiet_on)
      (refine wpG_call (f := 20) (args := #[.slice A2 d.length c2]) (v := .bool true) rfl rfl rfl Tryd.func20 rfl rfl (fun u hu => by have h := HH.out.may d A2 d.length c2 u rfl HC2.out.1 HC2.out.2 HDO.out (CoB.read HB2.out hu (fun y MEM => (List.mem_append_left _ MEM))) (HT.out.below (EnvX.bel hu)); rwa [HDA.out.1] at h) ?_ hw23; intro K hK; go_big_quiet_op; go_big_quiet_on)
      iterate 2 (refine wpG_op rfl rfl rfl ?_; intro K hK; go_big_quiet_op; go_big_quiet_on)
      clear hone hw23
      refine wpG_nil ?_
      intro u25 E2'
      have EX24 := Lib.hid E2'
      clear E2'
      go_upto_region 10 with (fail)
      refine wp_region_Hx (w0 := w) [0, 1, 2, 3, 4, 5, 6, 7, 8, 9, 10, 11, 12, 13, 14, 15, 16, 17, 18, 19] (N2 ++ (N1 ++ ((w.heap.size, Obj.cells (txA t) 26 (0, 0)) :: []))) rfl EX24.out ?_
      refine lexH_phase [0, 1, 2, 3, 4, 5, 6, 7, 8, 9, 10, 11, 12, 13, 14, 15, 16, 17, 18, 19] [] ?_
      have hw26 : EnvX w _ (N2 ++ (N1 ++ ((w.heap.size, Obj.cells (txA t) 26 (0, 0)) :: []))) := EX24.out
      have hone := @EnvC.one _ _ _ hw26
      (refine wpG_op rfl rfl rfl ?_; intro K hK; go_big_quiet_op; go_big_quiet_on)
      (refine wpG_val (v := .bool true) rfl rfl (fun u hu => geZ_op u HG0.out rfl rfl) ?_ hw26; intro K hK; go_big_quiet_op; go_big_quiet_on)
      iterate 2 (refine wpG_op rfl rfl rfl ?_; intro K hK; go_big_quiet_op; go_big_quiet_on)
      (refine wpG_call (f := 22) (args := #[.slice A1 a.length c1]) (v := .int .i64 (sumV a)) rfl rfl rfl Tryd.func22 rfl rfl (fun u hu => by have h := HH.out.sum a A1 a.length c1 u rfl HA48.out HC1.out.1 HC1.out.2 HAO.out (CoB.read HB1.out hu (fun y MEM => (List.mem_append_right _ (List.mem_append_left _ MEM)))) (HT.out.below (EnvX.bel hu)); rwa [sumP_may HSA.out.1] at h) ?_ hw26; intro K hK; go_big_quiet_op; go_big_quiet_on)
      (refine wpG_op rfl rfl rfl ?_; intro K hK; go_big_quiet_op; go_big_quiet_on)
      (refine wpG_val (v := .int .i64 (sumV p)) rfl rfl (fun u hu => addZ_op u HAD.out rfl rfl) ?_ hw26; intro K hK; go_big_quiet_op; go_big_quiet_on)
      (refine wpG_op rfl rfl rfl ?_; intro K hK; go_big_quiet_op; go_big_quiet_on)
      (refine wpG_call (f := 22) (args := #[.slice A n c]) (v := .int .i64 (sumV p)) rfl rfl rfl Tryd.func22 rfl rfl (fun u hu => by have h := HH.out.sum p A n c u HL.out HN48.out HNC.out.1 HNC.out.2 HPP.out (CellsIn.up HAA.out (EnvX.bel hu)) (HT.out.below (EnvX.bel hu)); rwa [sumP_may HF_p.out] at h) ?_ hw26; intro K hK; go_big_quiet_op; go_big_quiet_on)
      (refine wpG_val (v := .bool true) rfl rfl (fun u hu => eqlI_op u (decide_eq_true rfl) rfl rfl) ?_ hw26; intro K hK; go_big_quiet_op; go_big_quiet_on)
      iterate 3 (refine wpG_op rfl rfl rfl ?_; intro K hK; go_big_quiet_op; go_big_quiet_on)
      (refine wpG_call (f := 22) (args := #[.slice A2 d.length c2]) (v := .int .i64 (sumV d)) rfl rfl rfl Tryd.func22 rfl rfl (fun u hu => by have h := HH.out.sum d A2 d.length c2 u rfl HD48.out HC2.out.1 HC2.out.2 HDO.out (CoB.read HB2.out hu (fun y MEM => (List.mem_append_left _ MEM))) (HT.out.below (EnvX.bel hu)); rwa [sumP_may HDA.out.1] at h) ?_ hw26; intro K hK; go_big_quiet_op; go_big_quiet_on)
      (refine wpG_op rfl rfl rfl ?_; intro K hK; go_big_quiet_op; go_big_quiet_on)
      (refine wpG_call (f := 22) (args := #[.slice A n c]) (v := .int .i64 (sumV p)) rfl rfl rfl Tryd.func22 rfl rfl (fun u hu => by have h := HH.out.sum p A n c u HL.out HN48.out HNC.out.1 HNC.out.2 HPP.out (CellsIn.up HAA.out (EnvX.bel hu)) (HT.out.below (EnvX.bel hu)); rwa [sumP_may HF_p.out] at h) ?_ hw26; intro K hK; go_big_quiet_op; go_big_quiet_on)
      (refine wpG_val (v := .int .i64 (sumV p + 50)) rfl rfl (fun u hu => addZ_op u HA5.out rfl rfl) ?_ hw26; intro K hK; go_big_quiet_op; go_big_quiet_on)
      (refine wpG_val (v := .bool true) rfl rfl (fun u hu => leZ_op u HLE.out rfl rfl) ?_ hw26; intro K hK; go_big_quiet_op; go_big_quiet_on)
      iterate 2 (refine wpG_op rfl rfl rfl ?_; intro K hK; go_big_quiet_op; go_big_quiet_on)
      clear hone hw26
      refine wpG_nil ?_
      intro u28 E2'
      have EX27 := Lib.hid E2'
      clear E2'
      have HBE := Lib.hid (EnvX.bel EX27.out)
      go_wp2
      go_ret
      exact ⟨rfl, HBE.out⟩
    | succ eb =>
      have CEB : Hid (decide (((eb + 1 : Nat) : Int) ≠ 0) = true) := decide_eq_true (by omega)
      have HSD : Hid (samePu d p = true) := decide_eq_true (HDA.out.2.2.2 (Nat.succ_ne_zero _))
      go_upto_region 8 with (fail)
      refine wp_region_Hx (w0 := w) [0, 1, 2, 3, 4, 5, 6, 7, 8, 9, 10, 11, 12, 13, 14, 15, 16, 17, 18, 19, 20, 21, 22, 23, 24, 25, 26, 27, 28, 29, 30, 31] (N2 ++ (N1 ++ ((w.heap.size, Obj.cells (txA t) 26 (0, 0)) :: []))) rfl EX21.out ?_
      refine lexH_phase [0, 1, 2, 3, 4, 5, 6, 7, 8, 9, 10, 11, 12, 13, 14, 15, 16, 17, 18, 19, 20, 21, 22, 23, 24, 25, 26, 27, 28, 29, 30, 31] [] ?_
      have hw23 : EnvX w _ (N2 ++ (N1 ++ ((w.heap.size, Obj.cells (txA t) 26 (0, 0)) :: []))) := EX21.out
      have hone := @EnvC.one _ _ _ hw23
      (refine wpG_op rfl rfl rfl ?_; intro K hK; go_big_quiet_op; go_big_quiet_on)
      (refine wpG_val (v := .bool true) rfl rfl (fun u hu => neErr_op u CEA.out rfl rfl) ?_ hw23; intro K hK; go_big_quiet_op; go_big_quiet_on)
      iterate 3 (refine wpG_op rfl rfl rfl ?_; intro K hK; go_big_quiet_op; go_big_quiet_on)
      (refine wpG_call (f := 21) (args := #[.slice A1 a.length c1, .slice A n c]) (v := .bool true) rfl rfl rfl Tryd.func21 rfl rfl (fun u hu => by have h := HH.out.same a p A1 A a.length c1 n c u rfl HA48.out HC1.out.1 HC1.out.2 HAO.out (CoB.read HB1.out hu (fun y MEM => (List.mem_append_right _ (List.mem_append_left _ MEM)))) HL.out HN48.out HNC.out.1 HNC.out.2 HPP.out (CellsIn.up HAA.out (EnvX.bel hu)) (HT.out.below (EnvX.bel hu)); rwa [HSM.out] at h) ?_ hw23; intro K hK; go_big_quiet_op; go_big_quiet_on)
      iterate 3 (refine wpG_op rfl rfl rfl ?_; intro K hK; go_big_quiet_op; go_big_quiet_on)
      (refine wpG_val (v := .bool false) rfl rfl (fun u hu => neZ_op u HNA.out rfl rfl) ?_ hw23; intro K hK; go_big_quiet_op; go_big_quiet_on)
      iterate 4 (refine wpG_op rfl rfl rfl ?_; intro K hK; go_big_quiet_op; go_big_quiet_on)
      (refine wpG_val (v := .bool true) rfl rfl (fun u hu => neErr_op u CEB.out rfl rfl) ?_ hw23; intro K hK; go_big_quiet_op; go_big_quiet_on)
      iterate 3 (refine wpG_op rfl rfl rfl ?_; intro K hK; go_big_quiet_op; go_big_quiet_on)
      (refine wpG_call (f := 21) (args := #[.slice A2 d.length c2, .slice A n c]) (v := .bool true) rfl rfl rfl Tryd.func21 rfl rfl (fun u hu => by have h := HH.out.same d p A2 A d.length c2 n c u rfl HD48.out HC2.out.1 HC2.out.2 HDO.out (CoB.read HB2.out hu (fun y MEM => (List.mem_append_left _ MEM))) HL.out HN48.out HNC.out.1 HNC.out.2 HPP.out (CellsIn.up HAA.out (EnvX.bel hu)) (HT.out.below (EnvX.bel hu)); rwa [HSD.out] at h) ?_ hw23; intro K hK; go_big_quiet_op; go_big_quiet_on)
      iterate 5 (refine wpG_op rfl rfl rfl ?_; intro K hK; go_big_quiet_op; go_big_quiet_on)
      (refine wpG_call (f := 20) (args := #[.slice A1 a.length c1]) (v := .bool true) rfl rfl rfl Tryd.func20 rfl rfl (fun u hu => by have h := HH.out.may a A1 a.length c1 u rfl HC1.out.1 HC1.out.2 HAO.out (CoB.read HB1.out hu (fun y MEM => (List.mem_append_right _ (List.mem_append_left _ MEM)))) (HT.out.below (EnvX.bel hu)); rwa [HSA.out.1] at h) ?_ hw23; intro K hK; go_big_quiet_op; go_big_quiet_on)
      iterate 4 (refine wpG_op rfl rfl rfl ?_; intro K hK; go_big_quiet_op; go_big_quiet_on)
      (refine wpG_call (f := 20) (args := #[.slice A2 d.length c2]) (v := .bool true) rfl rfl rfl Tryd.func20 rfl rfl (fun u hu => by have h := HH.out.may d A2 d.length c2 u rfl HC2.out.1 HC2.out.2 HDO.out (CoB.read HB2.out hu (fun y MEM => (List.mem_append_left _ MEM))) (HT.out.below (EnvX.bel hu)); rwa [HDA.out.1] at h) ?_ hw23; intro K hK; go_big_quiet_op; go_big_quiet_on)
      iterate 2 (refine wpG_op rfl rfl rfl ?_; intro K hK; go_big_quiet_op; go_big_quiet_on)
      clear hone hw23
      refine wpG_nil ?_
      intro u25 E2'
      have EX24 := Lib.hid E2'
      clear E2'
      go_upto_region 10 with (fail)
      refine wp_region_Hx (w0 := w) [0, 1, 2, 3, 4, 5, 6, 7, 8, 9, 10, 11, 12, 13, 14, 15, 16, 17, 18, 19] (N2 ++ (N1 ++ ((w.heap.size, Obj.cells (txA t) 26 (0, 0)) :: []))) rfl EX24.out ?_
      refine lexH_phase [0, 1, 2, 3, 4, 5, 6, 7, 8, 9, 10, 11, 12, 13, 14, 15, 16, 17, 18, 19] [] ?_
      have hw26 : EnvX w _ (N2 ++ (N1 ++ ((w.heap.size, Obj.cells (txA t) 26 (0, 0)) :: []))) := EX24.out
      have hone := @EnvC.one _ _ _ hw26
      (refine wpG_op rfl rfl rfl ?_; intro K hK; go_big_quiet_op; go_big_quiet_on)
      (refine wpG_val (v := .bool true) rfl rfl (fun u hu => geZ_op u HG0.out rfl rfl) ?_ hw26; intro K hK; go_big_quiet_op; go_big_quiet_on)
      iterate 2 (refine wpG_op rfl rfl rfl ?_; intro K hK; go_big_quiet_op; go_big_quiet_on)
      (refine wpG_call (f := 22) (args := #[.slice A1 a.length c1]) (v := .int .i64 (sumV a)) rfl rfl rfl Tryd.func22 rfl rfl (fun u hu => by have h := HH.out.sum a A1 a.length c1 u rfl HA48.out HC1.out.1 HC1.out.2 HAO.out (CoB.read HB1.out hu (fun y MEM => (List.mem_append_right _ (List.mem_append_left _ MEM)))) (HT.out.below (EnvX.bel hu)); rwa [sumP_may HSA.out.1] at h) ?_ hw26; intro K hK; go_big_quiet_op; go_big_quiet_on)
      (refine wpG_op rfl rfl rfl ?_; intro K hK; go_big_quiet_op; go_big_quiet_on)
      (refine wpG_val (v := .int .i64 (sumV p)) rfl rfl (fun u hu => addZ_op u HAD.out rfl rfl) ?_ hw26; intro K hK; go_big_quiet_op; go_big_quiet_on)
      (refine wpG_op rfl rfl rfl ?_; intro K hK; go_big_quiet_op; go_big_quiet_on)
      (refine wpG_call (f := 22) (args := #[.slice A n c]) (v := .int .i64 (sumV p)) rfl rfl rfl Tryd.func22 rfl rfl (fun u hu => by have h := HH.out.sum p A n c u HL.out HN48.out HNC.out.1 HNC.out.2 HPP.out (CellsIn.up HAA.out (EnvX.bel hu)) (HT.out.below (EnvX.bel hu)); rwa [sumP_may HF_p.out] at h) ?_ hw26; intro K hK; go_big_quiet_op; go_big_quiet_on)
      (refine wpG_val (v := .bool true) rfl rfl (fun u hu => eqlI_op u (decide_eq_true rfl) rfl rfl) ?_ hw26; intro K hK; go_big_quiet_op; go_big_quiet_on)
      iterate 3 (refine wpG_op rfl rfl rfl ?_; intro K hK; go_big_quiet_op; go_big_quiet_on)
      (refine wpG_call (f := 22) (args := #[.slice A2 d.length c2]) (v := .int .i64 (sumV d)) rfl rfl rfl Tryd.func22 rfl rfl (fun u hu => by have h := HH.out.sum d A2 d.length c2 u rfl HD48.out HC2.out.1 HC2.out.2 HDO.out (CoB.read HB2.out hu (fun y MEM => (List.mem_append_left _ MEM))) (HT.out.below (EnvX.bel hu)); rwa [sumP_may HDA.out.1] at h) ?_ hw26; intro K hK; go_big_quiet_op; go_big_quiet_on)
      (refine wpG_op rfl rfl rfl ?_; intro K hK; go_big_quiet_op; go_big_quiet_on)
      (refine wpG_call (f := 22) (args := #[.slice A n c]) (v := .int .i64 (sumV p)) rfl rfl rfl Tryd.func22 rfl rfl (fun u hu => by have h := HH.out.sum p A n c u HL.out HN48.out HNC.out.1 HNC.out.2 HPP.out (CellsIn.up HAA.out (EnvX.bel hu)) (HT.out.below (EnvX.bel hu)); rwa [sumP_may HF_p.out] at h) ?_ hw26; intro K hK; go_big_quiet_op; go_big_quiet_on)
      (refine wpG_val (v := .int .i64 (sumV p + 50)) rfl rfl (fun u hu => addZ_op u HA5.out rfl rfl) ?_ hw26; intro K hK; go_big_quiet_op; go_big_quiet_on)
      (refine wpG_val (v := .bool true) rfl rfl (fun u hu => leZ_op u HLE.out rfl rfl) ?_ hw26; intro K hK; go_big_quiet_op; go_big_quiet_on)
      iterate 2 (refine wpG_op rfl rfl rfl ?_; intro K hK; go_big_quiet_op; go_big_quiet_on)
      clear hone hw26
      refine wpG_nil ?_
      intro u28 E2'
      have EX27 := Lib.hid E2'
      clear E2'
      have HBE := Lib.hid (EnvX.bel EX27.out)
      go_wp2
      go_ret
      exact ⟨rfl, HBE.out⟩
theorem law_stays (H : PurseC) (p : List CoinR) (t : TxM) (l : List TxM) (A : Option Addr) (n c : Nat) (A' : Option Addr) (n' c' : Nat) (w : World) (hl : p.length = n) (hnc : n ≤ c) (hcm : c ≤ maxLen) (hI : okP p) (hA : CoinsIn w w.heap.size A p) (kt : TxOk w t) (hl' : l.length = n') (hnc' : n' ≤ c') (hcm' : c' ≤ maxLen) (hA' : TxsIn w A' l) (ht : Tables w) :
    Calls Tryd.prog 4 #[.slice A n c, txV t, .slice A' n' c'] w fun e w' => e = .returned (.bool true) ∧ Below w.heap.size w w' := by
  cases k1 : fewX t.r with
  | false => exact law_stays_fewt H p t l A n c A' n' c' w hl hnc hcm hI hA kt hl' hnc' hcm' hA' ht k1
  | true =>
    cases k2 : fewAll l 6 with
    | false => exact law_stays_fewl H p t l A n c A' n' c' w hl hnc hcm hI hA kt hl' hnc' hcm' hA' ht k1 k2
    | true =>
      cases k3 : mayP p with
      | false => exact law_stays_may H p t l A n c A' n' c' w hl hnc hcm hI hA kt hl' hnc' hcm' hA' ht k1 k2 k3
      | true => exact law_stays_main H p t l A n c A' n' c' w hl hnc hcm hI hA kt hl' hnc' hcm' hA' ht k1 k2 k3
end Go.Proofs.YtabhhbdbkeeblaaDoor
namespace Go.Proofs.YtabhhbdbkeeblaaDoor.purseStays
set_option maxRecDepth 8000
open Go.ChangeShapes Go.WideShapes Go.ChangeAt Go.RowKit
theorem contract (H : Type) (enc : TypeId × Value → H) (W : World) (base : Nat) (args : Array Value) (ds gs : List (DataW H)) (before : List MemPlace)
    (hval : ∀ (j : Nat) t v, Tryd.f4.params[j]? = some t → args[j]? = some v → Value.okWide Tryd.prog W .any base t v)
    (hW : DataW.Whole enc Tryd.prog Tryd.f4.params.toList Rows.purseStaysSpec.vars false W args.toList ds gs before) (hL : laidMetH Tryd.prog Rows.purseStaysRow.laid W) :
    Calls Tryd.prog 4 args W fun e W' => ∃ v, e = .returned v ∧ Rows.purseStaysSpec.post enc Tryd.prog Tryd.f4 false true false false W args v W' := by
  have hW' := hW
  obtain ⟨p, q, hA0, hV, rfl, hfz, hnd⟩ := hW
  have hA : DataW.TrodAll enc Tryd.prog W 0 (fun _ => true) true Tryd.f4.params.toList args.toList ds p := hA0
  rw [Tryd.params4] at hA hval
  obtain ⟨v0, vs0, d0, ds0, p0, q0, hargs, rfl, rfl, h0, r0⟩ := trodAll_cons hA
  obtain ⟨v1, vs1, d1, ds1, p1, q1, rfl, rfl, rfl, h1, r1⟩ := trodAll_cons r0
  obtain ⟨v2, vs2, d2, ds2, p2, q2, rfl, rfl, rfl, h2, r2⟩ := trodAll_cons r1
  obtain ⟨rfl, rfl, rfl⟩ := trodAll_nil r2
  obtain rfl : args = #[v0, v1, v2] := by cases args; simp_all
  obtain ⟨rfl, rfl⟩ := trodVars_none hV
  have lt0 : ∀ x ∈ p0, x.block < W.heap.size := by obtain ⟨m, hm⟩ := h0; exact DataW.trod_lt m _ _ _ hm
  obtain ⟨a0, n0, c0, x0, rfl, lx0, nc0, cm0, kx0, px0⟩ := open_coins (hval 0 22 v0 rfl rfl) h0
  have lt1 : ∀ x ∈ p1, x.block < W.heap.size := by obtain ⟨m, hm⟩ := h1; exact DataW.trod_lt m _ _ _ hm
  obtain ⟨x1, rfl, kx1⟩ := open_tx (hval 1 26 v1 rfl rfl) h1
  have lt2 : ∀ x ∈ p2, x.block < W.heap.size := by obtain ⟨m, hm⟩ := h2; exact DataW.trod_lt m _ _ _ hm
  obtain ⟨a2, n2, c2, x2, rfl, lx2, nc2, cm2, px2⟩ := open_txs (hval 2 27 v2 rfl rfl) h2
  clear hA0
  refine (law_stays purseC x0 x1 x2 a0 n0 c0 a2 n2 c2 W lx0 nc0 cm0 kx0 px0 kx1 lx2 nc2 cm2 px2 (tables_of_laid hL)).mono fun e W' ⟨he, bel⟩ => ?_
  subst he
  exact ⟨_, rfl, _, _, _, [], _, [], hW', trodAll_mk1 (shut_bool Tryd.underlying4 _), (trodAll_cons_mk (Below.trod laidOut (by kernel_rfl) (of_decide_eq_true (by kernel_rfl)) h0 bel lt0) (trodAll_cons_mk (Below.trod laidOut (by kernel_rfl) (of_decide_eq_true (by kernel_rfl)) h1 bel lt1) (trodAll_cons_mk (Below.trod laidOut (by kernel_rfl) (of_decide_eq_true (by kernel_rfl)) h2 bel lt2) trodAll_mk0))), rfl, bel.frame _, fun h => by cases h⟩
def start : Array Value := #[.slice none 0 0, zeroX, .slice none 0 0]
theorem reads (os : Os) {H : Type} (enc : TypeId × Value → H) : ∃ places, DataW.whole enc Tryd.prog ((laidWorld os).forCall (fun _ _ => 0) ⟨#[], start, []⟩).memory Tryd.f4.params.toList Rows.purseStaysSpec.vars false start.toList 8 = some ([.nil, zeroXD, .nil], [], places) :=
  ⟨[], by kernel_rfl⟩
set_option maxRecDepth 100000 in
theorem lifted (os : Os) (started : os.Started) (H : Type) (enc : TypeId × Value → H) (F : Stop.Interp) :
    ReturnsInHanded {} Tryd.checked os 4 .any ((OpenSpec.ofChange Rows.purseStaysSpec).preRow enc Tryd.prog Tryd.f4 Rows.purseStaysRow.domain false Rows.purseStaysRow.laid) (((OpenSpec.ofChange Rows.purseStaysSpec).at F).post enc Tryd.prog Tryd.f4 false true false false) := by
  obtain ⟨places, hx⟩ := reads os enc
  refine returnsInHanded_of_row (C := Tryd.checked) (s := OpenSpec.ofChange Rows.purseStaysSpec) own started (by kernel_rfl) Tryd.func4
    (witness_row_at (enc := enc) (C := Tryd.checked) false (laidWorld os) start rfl (by kernel_rfl) (by kernel_rfl) (by kernel_rfl)
      (OpenSpec.preRow_of_cond 8 hx (by kernel_rfl) (fun k hk => by cases hk) (by kernel_rfl) (laidMet_of_run' 8 (by kernel_rfl) (by kernel_rfl)))) ?_
  intro W base args ds gs before hval hW _ _ _ hL _ _
  exact contract H enc W base args ds gs before hval hW hL
theorem said : Rows.PurseStaysSaid :=
  OpenClaim.holds_of_cond 4 Tryd.f4 rfl rfl rfl rfl rfl rfl rfl ⟨rfl, rfl, rfl, rfl, rfl⟩ rfl rfl rfl rfl rfl (by kernel_rfl) Tryd.func4 (by kernel_rfl)
    (of_decide_eq_true (by kernel_rfl)) (by unfold Func.isWrapper; first | (rw [if_pos (by decide +kernel)]; kernel_rfl) | (rw [if_neg (by decide +kernel)]; exact ⟨rfl, rfl⟩))
    (fun os started H enc _ F => by rw [OpenClaim.pre_eq_preRow]; exact lifted os started H enc F)
theorem plain (f : FuncId) (fn : Func) (hf : Tryd.pinned.checked.prog.funcNamed "stepladder/stepladderlaw10.PurseStays" = some f) (hfn : Tryd.pinned.checked.prog.funcs[f]? = some fn) :
    false = Tryd.pinned.checked.prog.looks [] ∧ ∀ (j : Nat) t, fn.params[j]? = some t → Tryd.pinned.checked.prog.wantsStandIn t = false := by
  obtain rfl : f = 4 := Option.some.inj ((show Tryd.prog.funcNamed "stepladder/stepladderlaw10.PurseStays" = some 4 by kernel_rfl).symm.trans hf) |>.symm
  obtain rfl : fn = Tryd.f4 := (Option.some.inj (Tryd.func4.symm.trans hfn)).symm
  refine ⟨by kernel_rfl, fun j t ht => ?_⟩
  rw [Tryd.params4] at ht
  have hm : t = 22 ∨ t = 26 ∨ t = 27 := by simpa using Array.mem_of_getElem? ht
  rcases hm with rfl | rfl | rfl
  · exact (show Tryd.prog.wantsStandIn 22 = false by kernel_rfl)
  · exact (show Tryd.prog.wantsStandIn 26 = false by kernel_rfl)
  · exact (show Tryd.prog.wantsStandIn 27 = false by kernel_rfl)
theorem card : Rows.PurseStaysCardSaid :=
  Claim7.holds_tied_plain_at .later [] _ _ _ _ said (fun _ h => by cases h) (by kernel_rfl) (fun _ h => by cases h) purseStays_row_tie rfl ⟨rfl, rfl⟩ (by kernel_rfl) rfl plain (by kernel_rfl)
end Go.Proofs.YtabhhbdbkeeblaaDoor.purseStays
