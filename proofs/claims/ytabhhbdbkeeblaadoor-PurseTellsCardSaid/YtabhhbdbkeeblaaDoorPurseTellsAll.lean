/-
  PROVED: the law stepladderlaw10.PurseTells answers true for every input, and leaves its arguments as they were.
  Conditions: the two package-level tables of package sha hold at the call what their initialisers lay; the card ties that to the text of the program (a pruned copy of the project: the packages that the roots of this seat load).
-/
import Derived.Test.YtabhhbdbkeeblaaDoorPurseTellsPe
namespace Go.Proofs.YtabhhbdbkeeblaaDoor
set_option maxRecDepth 8000
open Go.RowKit
set_option maxRecDepth 20000 in
set_option maxHeartbeats 8000000 in
theorem law_tells10_fewt (H : PurseC) (p q : List CoinR) (t : TxM) (l : List TxM) (A : Option Addr) (n c : Nat) (Aq : Option Addr) (m cq : Nat) (A' : Option Addr) (n' c' : Nat) (w : World) (hl : p.length = n) (hnc : n ≤ c) (hcm : c ≤ maxLen) (hI : okP p) (hA : CoinsIn w w.heap.size A p) (hlq : q.length = m) (hncq : m ≤ cq) (hcmq : cq ≤ maxLen) (hIq : okP q) (hAq : CoinsIn w w.heap.size Aq q) (kt : TxOk w t) (hl' : l.length = n') (hnc' : n' ≤ c') (hcm' : c' ≤ maxLen) (hA' : TxsIn w A' l) (ht : Tables w) (k1 : fewX t.r = false) :
    Calls Tryd.prog 3 #[.slice A n c, .slice Aq m cq, txV t, .slice A' n' c'] w fun e w' => e = .returned (.bool true) ∧ Below w.heap.size w w' := by
  have HT := Lib.hid ht
  have HH := Lib.hid H
  have HN63 : Hid (n < 9223372036854775808) := by show _ < _; unfold maxLen at hcm; omega
  have HL := Lib.hid hl
  have HNC := Lib.hid (And.intro hnc hcm)
  have HPP := Lib.hid hI
  have HAA : Hid (CoinsIn w w.heap.size A p) := hA
  have HN63q : Hid (m < 9223372036854775808) := by show _ < _; unfold maxLen at hcmq; omega
  have HLq := Lib.hid hlq
  have HNCq := Lib.hid (And.intro hncq hcmq)
  have HPPq := Lib.hid hIq
  have HAAq : Hid (CoinsIn w w.heap.size Aq q) := hAq
  have HM63 : Hid (n' < 9223372036854775808) := by show _ < _; unfold maxLen at hcm'; omega
  have HL' := Lib.hid hl'
  have HNC' := Lib.hid (And.intro hnc' hcm')
  have HTI := Lib.hid hA'
  have K_t := Lib.hid kt
  have HAW : Hid (∀ u, EnvX w u [] → Calls Tryd.prog 9 #[] u fun e w' => e = .returned (.bool true) ∧ Below u.heap.size u w') := fun u hu => pawake_any H u (ht.below (EnvX.bel hu))
  have E1 : Hid (EnvX w (w.alloc (.cells (txA t) 26)) [(w.heap.size, Obj.cells (txA t) 26 (0, 0))]) := (EnvX.start w).new _
  have HF_t : Hid (fewX t.r = false) := k1
  have HF_l : Hid (fewAll l 6 = fewAll l 6) := rfl
  clear k1
  clear ht H hl hnc hcm hI hA hlq hncq hcmq hIq hAq hl' hnc' hcm' hA' kt
  unfold txV
  go_enter Tryd.func3, Tryd.ntmps3
  go_upto_region 1 with (fail)
  generalize w.alloc (.cells (txA t) 26) = W at *
  refine wp_region_Hx (w0 := w) [0, 1] [(w.heap.size, Obj.cells (txA t) 26 (0, 0))] rfl E1.out ?_
  refine lexH_phase [0, 1] [] ?_
  have hw1 : EnvX w _ [(w.heap.size, Obj.cells (txA t) 26 (0, 0))] := E1.out
  have hone := @EnvC.one _ _ _ hw1
  (refine wpG_call (f := 9) (args := #[]) (v := .bool true) rfl rfl rfl Tryd.func9 rfl rfl (fun u hu => HAW.out u (EnvX.sub hu (fun _ h => by cases h))) ?_ hw1; intro K hK; go_big_quiet_op; go_big_quiet_on)
  (refine wpG_op rfl rfl rfl ?_; intro K hK; go_big_quiet_op; go_big_quiet_on)
  clear hone hw1
  refine wpG_nil ?_
  intro u3 E2'
  have EX2 := Lib.hid E2'
  clear E2'
  go_upto_region 2 with (fail)
  refine wp_region_Hx (w0 := w) [0, 1, 2] [(w.heap.size, Obj.cells (txA t) 26 (0, 0))] rfl EX2.out ?_
  refine lexH_phase [0, 1, 2] [] ?_
  have hw4 : EnvX w _ [(w.heap.size, Obj.cells (txA t) 26 (0, 0))] := EX2.out
  have hone := @EnvC.one _ _ _ hw4
  (refine wpG_val (v := txV t) rfl rfl (fun u hu => load_any_op u (box_tx hu (List.Mem.head _)) rfl) ?_ hw4; intro K hK; go_big_quiet_op; go_big_quiet_on)
  (refine wpG_call (f := 10) (args := #[txV t]) (v := .bool false) rfl rfl rfl Tryd.func10 rfl rfl (fun u hu => by have h1 := few_any t u (K_t.out.up (EnvX.bel hu)); rwa [HF_t.out] at h1) ?_ hw4; intro K hK; go_big_quiet_op; go_big_quiet_on)
  (refine wpG_op rfl rfl rfl ?_; intro K hK; go_big_quiet_op; go_big_quiet_on)
  clear hone hw4
  refine wpG_nil ?_
  intro u6 E2'
  have EX5 := Lib.hid E2'
  clear E2'
  go_upto_region 3 with (fail)
  refine wp_region_Hx (w0 := w) [0, 1, 2] [(w.heap.size, Obj.cells (txA t) 26 (0, 0))] rfl EX5.out ?_
  refine lexH_phase [0, 1, 2] [] ?_
  have hw7 : EnvX w _ [(w.heap.size, Obj.cells (txA t) 26 (0, 0))] := EX5.out
  have hone := @EnvC.one _ _ _ hw7
  (refine wpG_op rfl rfl rfl ?_; intro K hK; go_big_quiet_op; go_big_quiet_on)
  (refine wpG_call (f := 11) (args := #[.slice A' n' c', .int .i64 6]) (v := .bool (fewAll l 6)) rfl rfl rfl Tryd.func11 rfl rfl (fun u hu => by have h1 := fewall_any l 6 A' n' c' u HL'.out HM63.out (HTI.out.up (EnvX.bel hu)); rwa [HF_l.out] at h1) ?_ hw7; intro K hK; go_big_quiet_op; go_big_quiet_on)
  (refine wpG_op rfl rfl rfl ?_; intro K hK; go_big_quiet_op; go_big_quiet_on)
  clear hone hw7
  refine wpG_nil ?_
  intro u9 E2'
  have EX8 := Lib.hid E2'
  clear E2'
  go_upto_region 4 with (fail)
  refine wp_region_Hx (w0 := w) [0, 1, 2, 3, 4, 5, 6, 7, 8, 9, 10, 11, 12, 13, 14, 15, 16, 17, 18, 19] [(w.heap.size, Obj.cells (txA t) 26 (0, 0))] rfl EX8.out ?_
  refine lexH_phase [0, 1, 2, 3, 4, 5, 6, 7, 8, 9, 10, 11, 12, 13, 14, 15, 16, 17, 18, 19] [] ?_
  have hw10 : EnvX w _ [(w.heap.size, Obj.cells (txA t) 26 (0, 0))] := EX8.out
  have hone := @EnvC.one _ _ _ hw10
  iterate 7 (refine wpG_op rfl rfl rfl ?_; intro K hK; go_big_quiet_op; go_big_quiet_on)
  iterate 2 (refine wpG_skip rfl rfl ?_ hw10; intro K hK; go_big_quiet_op; go_big_quiet_on)
  iterate 2 (refine wpG_op rfl rfl rfl ?_; intro K hK; go_big_quiet_op; go_big_quiet_on)
  iterate 3 (refine wpG_skip rfl rfl ?_ hw10; intro K hK; go_big_quiet_op; go_big_quiet_on)
  iterate 2 (refine wpG_op rfl rfl rfl ?_; intro K hK; go_big_quiet_op; go_big_quiet_on)
  iterate 3 (refine wpG_skip rfl rfl ?_ hw10; intro K hK; go_big_quiet_op; go_big_quiet_on)
  (refine wpG_op rfl rfl rfl ?_; intro K hK; go_big_quiet_op; go_big_quiet_on)
  clear hone hw10
  refine wpG_nil ?_
  intro u12 E2'
  have EX11 := Lib.hid E2'
  clear E2'
  go_upto_region 5 with (fail)
  refine wp_region_Hx (w0 := w) [0, 1] [(w.heap.size, Obj.cells (txA t) 26 (0, 0))] rfl EX11.out ?_
  refine lexH_phase [0, 1] [] ?_
  have hw13 : EnvX w _ [(w.heap.size, Obj.cells (txA t) 26 (0, 0))] := EX11.out
  have hone := @EnvC.one _ _ _ hw13
  iterate 2 (refine wpG_op rfl rfl rfl ?_; intro K hK; go_big_quiet_op; go_big_quiet_on)
  clear hone hw13
  refine wpG_nil ?_
  intro u15 E2'
  have EX14 := Lib.hid E2'
  clear E2'
  have HBE := Lib.hid (EnvX.bel EX14.out)
  go_wp2
  go_ret
  exact ⟨rfl, HBE.out⟩
set_option maxRecDepth 20000 in
set_option maxHeartbeats 8000000 in
theorem law_tells10_fewl (H : PurseC) (p q : List CoinR) (t : TxM) (l : List TxM) (A : Option Addr) (n c : Nat) (Aq : Option Addr) (m cq : Nat) (A' : Option Addr) (n' c' : Nat) (w : World) (hl : p.length = n) (hnc : n ≤ c) (hcm : c ≤ maxLen) (hI : okP p) (hA : CoinsIn w w.heap.size A p) (hlq : q.length = m) (hncq : m ≤ cq) (hcmq : cq ≤ maxLen) (hIq : okP q) (hAq : CoinsIn w w.heap.size Aq q) (kt : TxOk w t) (hl' : l.length = n') (hnc' : n' ≤ c') (hcm' : c' ≤ maxLen) (hA' : TxsIn w A' l) (ht : Tables w) (k1 : fewX t.r = true) (k2 : fewAll l 6 = false) :
    Calls Tryd.prog 3 #[.slice A n c, .slice Aq m cq, txV t, .slice A' n' c'] w fun e w' => e = .returned (.bool true) ∧ Below w.heap.size w w' := by
  have HT := Lib.hid ht
  have HH := Lib.hid H
  have HN63 : Hid (n < 9223372036854775808) := by show _ < _; unfold maxLen at hcm; omega
  have HL := Lib.hid hl
  have HNC := Lib.hid (And.intro hnc hcm)
  have HPP := Lib.hid hI
  have HAA : Hid (CoinsIn w w.heap.size A p) := hA
  have HN63q : Hid (m < 9223372036854775808) := by show _ < _; unfold maxLen at hcmq; omega
  have HLq := Lib.hid hlq
  have HNCq := Lib.hid (And.intro hncq hcmq)
  have HPPq := Lib.hid hIq
  have HAAq : Hid (CoinsIn w w.heap.size Aq q) := hAq
  have HM63 : Hid (n' < 9223372036854775808) := by show _ < _; unfold maxLen at hcm'; omega
  have HL' := Lib.hid hl'
  have HNC' := Lib.hid (And.intro hnc' hcm')
  have HTI := Lib.hid hA'
  have K_t := Lib.hid kt
  have HAW : Hid (∀ u, EnvX w u [] → Calls Tryd.prog 9 #[] u fun e w' => e = .returned (.bool true) ∧ Below u.heap.size u w') := fun u hu => pawake_any H u (ht.below (EnvX.bel hu))
  have E1 : Hid (EnvX w (w.alloc (.cells (txA t) 26)) [(w.heap.size, Obj.cells (txA t) 26 (0, 0))]) := (EnvX.start w).new _
  have HF_t : Hid (fewX t.r = true) := k1
  have HF_l : Hid (fewAll l 6 = false) := k2
  clear k1 k2
  clear ht H hl hnc hcm hI hA hlq hncq hcmq hIq hAq hl' hnc' hcm' hA' kt
  unfold txV
  go_enter Tryd.func3, Tryd.ntmps3
  go_upto_region 1 with (fail)
  generalize w.alloc (.cells (txA t) 26) = W at *
  refine wp_region_Hx (w0 := w) [0, 1] [(w.heap.size, Obj.cells (txA t) 26 (0, 0))] rfl E1.out ?_
  refine lexH_phase [0, 1] [] ?_
  have hw1 : EnvX w _ [(w.heap.size, Obj.cells (txA t) 26 (0, 0))] := E1.out
  have hone := @EnvC.one _ _ _ hw1
  (refine wpG_call (f := 9) (args := #[]) (v := .bool true) rfl rfl rfl Tryd.func9 rfl rfl (fun u hu => HAW.out u (EnvX.sub hu (fun _ h => by cases h))) ?_ hw1; intro K hK; go_big_quiet_op; go_big_quiet_on)
  (refine wpG_op rfl rfl rfl ?_; intro K hK; go_big_quiet_op; go_big_quiet_on)
  clear hone hw1
  refine wpG_nil ?_
  intro u3 E2'
  have EX2 := Lib.hid E2'
  clear E2'
  go_upto_region 2 with (fail)
  refine wp_region_Hx (w0 := w) [0, 1, 2] [(w.heap.size, Obj.cells (txA t) 26 (0, 0))] rfl EX2.out ?_
  refine lexH_phase [0, 1, 2] [] ?_
  have hw4 : EnvX w _ [(w.heap.size, Obj.cells (txA t) 26 (0, 0))] := EX2.out
  have hone := @EnvC.one _ _ _ hw4
  (refine wpG_val (v := txV t) rfl rfl (fun u hu => load_any_op u (box_tx hu (List.Mem.head _)) rfl) ?_ hw4; intro K hK; go_big_quiet_op; go_big_quiet_on)
  (refine wpG_call (f := 10) (args := #[txV t]) (v := .bool true) rfl rfl rfl Tryd.func10 rfl rfl (fun u hu => by have h1 := few_any t u (K_t.out.up (EnvX.bel hu)); rwa [HF_t.out] at h1) ?_ hw4; intro K hK; go_big_quiet_op; go_big_quiet_on)
  (refine wpG_op rfl rfl rfl ?_; intro K hK; go_big_quiet_op; go_big_quiet_on)
  clear hone hw4
  refine wpG_nil ?_
  intro u6 E2'
  have EX5 := Lib.hid E2'
  clear E2'
  go_upto_region 3 with (fail)
  refine wp_region_Hx (w0 := w) [0, 1, 2] [(w.heap.size, Obj.cells (txA t) 26 (0, 0))] rfl EX5.out ?_
  refine lexH_phase [0, 1, 2] [] ?_
  have hw7 : EnvX w _ [(w.heap.size, Obj.cells (txA t) 26 (0, 0))] := EX5.out
  have hone := @EnvC.one _ _ _ hw7
  (refine wpG_op rfl rfl rfl ?_; intro K hK; go_big_quiet_op; go_big_quiet_on)
  (refine wpG_call (f := 11) (args := #[.slice A' n' c', .int .i64 6]) (v := .bool false) rfl rfl rfl Tryd.func11 rfl rfl (fun u hu => by have h1 := fewall_any l 6 A' n' c' u HL'.out HM63.out (HTI.out.up (EnvX.bel hu)); rwa [HF_l.out] at h1) ?_ hw7; intro K hK; go_big_quiet_op; go_big_quiet_on)
  (refine wpG_op rfl rfl rfl ?_; intro K hK; go_big_quiet_op; go_big_quiet_on)
  clear hone hw7
  refine wpG_nil ?_
  intro u9 E2'
  have EX8 := Lib.hid E2'
  clear E2'
  go_upto_region 4 with (fail)
  refine wp_region_Hx (w0 := w) [0, 1, 2, 3, 4, 5, 6, 7, 8, 9, 10, 11, 12, 13, 14, 15, 16, 17, 18, 19] [(w.heap.size, Obj.cells (txA t) 26 (0, 0))] rfl EX8.out ?_
  refine lexH_phase [0, 1, 2, 3, 4, 5, 6, 7, 8, 9, 10, 11, 12, 13, 14, 15, 16, 17, 18, 19] [] ?_
  have hw10 : EnvX w _ [(w.heap.size, Obj.cells (txA t) 26 (0, 0))] := EX8.out
  have hone := @EnvC.one _ _ _ hw10
  iterate 11 (refine wpG_op rfl rfl rfl ?_; intro K hK; go_big_quiet_op; go_big_quiet_on)
  iterate 3 (refine wpG_skip rfl rfl ?_ hw10; intro K hK; go_big_quiet_op; go_big_quiet_on)
  iterate 2 (refine wpG_op rfl rfl rfl ?_; intro K hK; go_big_quiet_op; go_big_quiet_on)
  iterate 3 (refine wpG_skip rfl rfl ?_ hw10; intro K hK; go_big_quiet_op; go_big_quiet_on)
  (refine wpG_op rfl rfl rfl ?_; intro K hK; go_big_quiet_op; go_big_quiet_on)
  clear hone hw10
  refine wpG_nil ?_
  intro u12 E2'
  have EX11 := Lib.hid E2'
  clear E2'
  go_upto_region 5 with (fail)
  refine wp_region_Hx (w0 := w) [0, 1] [(w.heap.size, Obj.cells (txA t) 26 (0, 0))] rfl EX11.out ?_
  refine lexH_phase [0, 1] [] ?_
  have hw13 : EnvX w _ [(w.heap.size, Obj.cells (txA t) 26 (0, 0))] := EX11.out
  have hone := @EnvC.one _ _ _ hw13
  iterate 2 (refine wpG_op rfl rfl rfl ?_; intro K hK; go_big_quiet_op; go_big_quiet_on)
  clear hone hw13
  refine wpG_nil ?_
  intro u15 E2'
  have EX14 := Lib.hid E2'
  clear E2'
  have HBE := Lib.hid (EnvX.bel EX14.out)
  go_wp2
  go_ret
  exact ⟨rfl, HBE.out⟩
set_option maxRecDepth 20000 in
set_option maxHeartbeats 8000000 in
theorem law_tells10_manyp (H : PurseC) (p q : List CoinR) (t : TxM) (l : List TxM) (A : Option Addr) (n c : Nat) (Aq : Option Addr) (m cq : Nat) (A' : Option Addr) (n' c' : Nat) (w : World) (hl : p.length = n) (hnc : n ≤ c) (hcm : c ≤ maxLen) (hI : okP p) (hA : CoinsIn w w.heap.size A p) (hlq : q.length = m) (hncq : m ≤ cq) (hcmq : cq ≤ maxLen) (hIq : okP q) (hAq : CoinsIn w w.heap.size Aq q) (kt : TxOk w t) (hl' : l.length = n') (hnc' : n' ≤ c') (hcm' : c' ≤ maxLen) (hA' : TxsIn w A' l) (ht : Tables w) (k1 : fewX t.r = true) (k2 : fewAll l 6 = true) (k3 : 60 < n) :
    Calls Tryd.prog 3 #[.slice A n c, .slice Aq m cq, txV t, .slice A' n' c'] w fun e w' => e = .returned (.bool true) ∧ Below w.heap.size w w' := by
  have HT := Lib.hid ht
  have HH := Lib.hid H
  have HN63 : Hid (n < 9223372036854775808) := by show _ < _; unfold maxLen at hcm; omega
  have HL := Lib.hid hl
  have HNC := Lib.hid (And.intro hnc hcm)
  have HPP := Lib.hid hI
  have HAA : Hid (CoinsIn w w.heap.size A p) := hA
  have HN63q : Hid (m < 9223372036854775808) := by show _ < _; unfold maxLen at hcmq; omega
  have HLq := Lib.hid hlq
  have HNCq := Lib.hid (And.intro hncq hcmq)
  have HPPq := Lib.hid hIq
  have HAAq : Hid (CoinsIn w w.heap.size Aq q) := hAq
  have HM63 : Hid (n' < 9223372036854775808) := by show _ < _; unfold maxLen at hcm'; omega
  have HL' := Lib.hid hl'
  have HNC' := Lib.hid (And.intro hnc' hcm')
  have HTI := Lib.hid hA'
  have K_t := Lib.hid kt
  have HAW : Hid (∀ u, EnvX w u [] → Calls Tryd.prog 9 #[] u fun e w' => e = .returned (.bool true) ∧ Below u.heap.size u w') := fun u hu => pawake_any H u (ht.below (EnvX.bel hu))
  have E1 : Hid (EnvX w (w.alloc (.cells (txA t) 26)) [(w.heap.size, Obj.cells (txA t) 26 (0, 0))]) := (EnvX.start w).new _
  have HF_t : Hid (fewX t.r = true) := k1
  have HF_l : Hid (fewAll l 6 = true) := k2
  have D60 : Hid (decide ((60 : Int) < (n : Int)) = true) := decide_eq_true (by omega)
  clear k1 k2 k3
  clear ht H hl hnc hcm hI hA hlq hncq hcmq hIq hAq hl' hnc' hcm' hA' kt
  unfold txV
  go_enter Tryd.func3, Tryd.ntmps3
  go_upto_region 1 with (fail)
  generalize w.alloc (.cells (txA t) 26) = W at *
  refine wp_region_Hx (w0 := w) [0, 1] [(w.heap.size, Obj.cells (txA t) 26 (0, 0))] rfl E1.out ?_
  refine lexH_phase [0, 1] [] ?_
  have hw1 : EnvX w _ [(w.heap.size, Obj.cells (txA t) 26 (0, 0))] := E1.out
  have hone := @EnvC.one _ _ _ hw1
  (refine wpG_call (f := 9) (args := #[]) (v := .bool true) rfl rfl rfl Tryd.func9 rfl rfl (fun u hu => HAW.out u (EnvX.sub hu (fun _ h => by cases h))) ?_ hw1; intro K hK; go_big_quiet_op; go_big_quiet_on)
  (refine wpG_op rfl rfl rfl ?_; intro K hK; go_big_quiet_op; go_big_quiet_on)
  clear hone hw1
  refine wpG_nil ?_
  intro u3 E2'
  have EX2 := Lib.hid E2'
  clear E2'
  go_upto_region 2 with (fail)
  refine wp_region_Hx (w0 := w) [0, 1, 2] [(w.heap.size, Obj.cells (txA t) 26 (0, 0))] rfl EX2.out ?_
  refine lexH_phase [0, 1, 2] [] ?_
  have hw4 : EnvX w _ [(w.heap.size, Obj.cells (txA t) 26 (0, 0))] := EX2.out
  have hone := @EnvC.one _ _ _ hw4
  (refine wpG_val (v := txV t) rfl rfl (fun u hu => load_any_op u (box_tx hu (List.Mem.head _)) rfl) ?_ hw4; intro K hK; go_big_quiet_op; go_big_quiet_on)
  (refine wpG_call (f := 10) (args := #[txV t]) (v := .bool true) rfl rfl rfl Tryd.func10 rfl rfl (fun u hu => by have h1 := few_any t u (K_t.out.up (EnvX.bel hu)); rwa [HF_t.out] at h1) ?_ hw4; intro K hK; go_big_quiet_op; go_big_quiet_on)
  (refine wpG_op rfl rfl rfl ?_; intro K hK; go_big_quiet_op; go_big_quiet_on)
  clear hone hw4
  refine wpG_nil ?_
  intro u6 E2'
  have EX5 := Lib.hid E2'
  clear E2'
  go_upto_region 3 with (fail)
  refine wp_region_Hx (w0 := w) [0, 1, 2] [(w.heap.size, Obj.cells (txA t) 26 (0, 0))] rfl EX5.out ?_
  refine lexH_phase [0, 1, 2] [] ?_
  have hw7 : EnvX w _ [(w.heap.size, Obj.cells (txA t) 26 (0, 0))] := EX5.out
  have hone := @EnvC.one _ _ _ hw7
  (refine wpG_op rfl rfl rfl ?_; intro K hK; go_big_quiet_op; go_big_quiet_on)
  (refine wpG_call (f := 11) (args := #[.slice A' n' c', .int .i64 6]) (v := .bool true) rfl rfl rfl Tryd.func11 rfl rfl (fun u hu => by have h1 := fewall_any l 6 A' n' c' u HL'.out HM63.out (HTI.out.up (EnvX.bel hu)); rwa [HF_l.out] at h1) ?_ hw7; intro K hK; go_big_quiet_op; go_big_quiet_on)
  (refine wpG_op rfl rfl rfl ?_; intro K hK; go_big_quiet_op; go_big_quiet_on)
  clear hone hw7
  refine wpG_nil ?_
  intro u9 E2'
  have EX8 := Lib.hid E2'
  clear E2'
  go_upto_region 4 with (fail)
  refine wp_region_Hx (w0 := w) [0, 1, 2, 3, 4, 5, 6, 7, 8, 9, 10, 11, 12, 13, 14, 15, 16, 17, 18, 19] [(w.heap.size, Obj.cells (txA t) 26 (0, 0))] rfl EX8.out ?_
  refine lexH_phase [0, 1, 2, 3, 4, 5, 6, 7, 8, 9, 10, 11, 12, 13, 14, 15, 16, 17, 18, 19] [] ?_
  have hw10 : EnvX w _ [(w.heap.size, Obj.cells (txA t) 26 (0, 0))] := EX8.out
  have hone := @EnvC.one _ _ _ hw10
  iterate 12 (refine wpG_op rfl rfl rfl ?_; intro K hK; go_big_quiet_op; go_big_quiet_on)
  (refine wpG_val (v := .int .i64 (n : Int)) rfl rfl (fun u hu => len_op Tryd.underlying22 HN63.out u rfl) ?_ hw10; intro K hK; go_big_quiet_op; go_big_quiet_on)
  (refine wpG_val (v := .bool true) rfl rfl (fun u hu => gtZ_op u D60.out rfl rfl) ?_ hw10; intro K hK; go_big_quiet_op; go_big_quiet_on)
  iterate 2 (refine wpG_op rfl rfl rfl ?_; intro K hK; go_big_quiet_op; go_big_quiet_on)
  iterate 3 (refine wpG_skip rfl rfl ?_ hw10; intro K hK; go_big_quiet_op; go_big_quiet_on)
  (refine wpG_op rfl rfl rfl ?_; intro K hK; go_big_quiet_op; go_big_quiet_on)
  clear hone hw10
  refine wpG_nil ?_
  intro u12 E2'
  have EX11 := Lib.hid E2'
  clear E2'
  go_upto_region 5 with (fail)
  refine wp_region_Hx (w0 := w) [0, 1] [(w.heap.size, Obj.cells (txA t) 26 (0, 0))] rfl EX11.out ?_
  refine lexH_phase [0, 1] [] ?_
  have hw13 : EnvX w _ [(w.heap.size, Obj.cells (txA t) 26 (0, 0))] := EX11.out
  have hone := @EnvC.one _ _ _ hw13
  iterate 2 (refine wpG_op rfl rfl rfl ?_; intro K hK; go_big_quiet_op; go_big_quiet_on)
  clear hone hw13
  refine wpG_nil ?_
  intro u15 E2'
  have EX14 := Lib.hid E2'
  clear E2'
  have HBE := Lib.hid (EnvX.bel EX14.out)
  go_wp2
  go_ret
  exact ⟨rfl, HBE.out⟩
set_option maxRecDepth 20000 in
set_option maxHeartbeats 8000000 in
theorem law_tells10_manyq (H : PurseC) (p q : List CoinR) (t : TxM) (l : List TxM) (A : Option Addr) (n c : Nat) (Aq : Option Addr) (m cq : Nat) (A' : Option Addr) (n' c' : Nat) (w : World) (hl : p.length = n) (hnc : n ≤ c) (hcm : c ≤ maxLen) (hI : okP p) (hA : CoinsIn w w.heap.size A p) (hlq : q.length = m) (hncq : m ≤ cq) (hcmq : cq ≤ maxLen) (hIq : okP q) (hAq : CoinsIn w w.heap.size Aq q) (kt : TxOk w t) (hl' : l.length = n') (hnc' : n' ≤ c') (hcm' : c' ≤ maxLen) (hA' : TxsIn w A' l) (ht : Tables w) (k1 : fewX t.r = true) (k2 : fewAll l 6 = true) (k3 : ¬ 60 < n) (k4 : 60 < m) :
    Calls Tryd.prog 3 #[.slice A n c, .slice Aq m cq, txV t, .slice A' n' c'] w fun e w' => e = .returned (.bool true) ∧ Below w.heap.size w w' := by
  have HT := Lib.hid ht
  have HH := Lib.hid H
  have HN63 : Hid (n < 9223372036854775808) := by show _ < _; unfold maxLen at hcm; omega
  have HL := Lib.hid hl
  have HNC := Lib.hid (And.intro hnc hcm)
  have HPP := Lib.hid hI
  have HAA : Hid (CoinsIn w w.heap.size A p) := hA
  have HN63q : Hid (m < 9223372036854775808) := by show _ < _; unfold maxLen at hcmq; omega
  have HLq := Lib.hid hlq
  have HNCq := Lib.hid (And.intro hncq hcmq)
  have HPPq := Lib.hid hIq
  have HAAq : Hid (CoinsIn w w.heap.size Aq q) := hAq
  have HM63 : Hid (n' < 9223372036854775808) := by show _ < _; unfold maxLen at hcm'; omega
  have HL' := Lib.hid hl'
  have HNC' := Lib.hid (And.intro hnc' hcm')
  have HTI := Lib.hid hA'
  have K_t := Lib.hid kt
  have HAW : Hid (∀ u, EnvX w u [] → Calls Tryd.prog 9 #[] u fun e w' => e = .returned (.bool true) ∧ Below u.heap.size u w') := fun u hu => pawake_any H u (ht.below (EnvX.bel hu))
  have E1 : Hid (EnvX w (w.alloc (.cells (txA t) 26)) [(w.heap.size, Obj.cells (txA t) 26 (0, 0))]) := (EnvX.start w).new _
  have HF_t : Hid (fewX t.r = true) := k1
  have HF_l : Hid (fewAll l 6 = true) := k2
  have D60 : Hid (decide ((60 : Int) < (n : Int)) = false) := decide_eq_false (by omega)
  have D61 : Hid (decide ((60 : Int) < (m : Int)) = true) := decide_eq_true (by omega)
  clear k1 k2 k3 k4
  clear ht H hl hnc hcm hI hA hlq hncq hcmq hIq hAq hl' hnc' hcm' hA' kt
  unfold txV
  go_enter Tryd.func3, Tryd.ntmps3
  go_upto_region 1 with (fail)
  generalize w.alloc (.cells (txA t) 26) = W at *
  refine wp_region_Hx (w0 := w) [0, 1] [(w.heap.size, Obj.cells (txA t) 26 (0, 0))] rfl E1.out ?_
  refine lexH_phase [0, 1] [] ?_
  have hw1 : EnvX w _ [(w.heap.size, Obj.cells (txA t) 26 (0, 0))] := E1.out
  have hone := @EnvC.one _ _ _ hw1
  (refine wpG_call (f := 9) (args := #[]) (v := .bool true) rfl rfl rfl Tryd.func9 rfl rfl (fun u hu => HAW.out u (EnvX.sub hu (fun _ h => by cases h))) ?_ hw1; intro K hK; go_big_quiet_op; go_big_quiet_on)
  (refine wpG_op rfl rfl rfl ?_; intro K hK; go_big_quiet_op; go_big_quiet_on)
  clear hone hw1
  refine wpG_nil ?_
  intro u3 E2'
  have EX2 := Lib.hid E2'
  clear E2'
  go_upto_region 2 with (fail)
  refine wp_region_Hx (w0 := w) [0, 1, 2] [(w.heap.size, Obj.cells (txA t) 26 (0, 0))] rfl EX2.out ?_
  refine lexH_phase [0, 1, 2] [] ?_
  have hw4 : EnvX w _ [(w.heap.size, Obj.cells (txA t) 26 (0, 0))] := EX2.out
  have hone := @EnvC.one _ _ _ hw4
  (refine wpG_val (v := txV t) rfl rfl (fun u hu => load_any_op u (box_tx hu (List.Mem.head _)) rfl) ?_ hw4; intro K hK; go_big_quiet_op; go_big_quiet_on)
  (refine wpG_call (f := 10) (args := #[txV t]) (v := .bool true) rfl rfl rfl Tryd.func10 rfl rfl (fun u hu => by have h1 := few_any t u (K_t.out.up (EnvX.bel hu)); rwa [HF_t.out] at h1) ?_ hw4; intro K hK; go_big_quiet_op; go_big_quiet_on)
  (refine wpG_op rfl rfl rfl ?_; intro K hK; go_big_quiet_op; go_big_quiet_on)
  clear hone hw4
  refine wpG_nil ?_
  intro u6 E2'
  have EX5 := Lib.hid E2'
  clear E2'
  go_upto_region 3 with (fail)
  refine wp_region_Hx (w0 := w) [0, 1, 2] [(w.heap.size, Obj.cells (txA t) 26 (0, 0))] rfl EX5.out ?_
  refine lexH_phase [0, 1, 2] [] ?_
  have hw7 : EnvX w _ [(w.heap.size, Obj.cells (txA t) 26 (0, 0))] := EX5.out
  have hone := @EnvC.one _ _ _ hw7
  (refine wpG_op rfl rfl rfl ?_; intro K hK; go_big_quiet_op; go_big_quiet_on)
  (refine wpG_call (f := 11) (args := #[.slice A' n' c', .int .i64 6]) (v := .bool true) rfl rfl rfl Tryd.func11 rfl rfl (fun u hu => by have h1 := fewall_any l 6 A' n' c' u HL'.out HM63.out (HTI.out.up (EnvX.bel hu)); rwa [HF_l.out] at h1) ?_ hw7; intro K hK; go_big_quiet_op; go_big_quiet_on)
  (refine wpG_op rfl rfl rfl ?_; intro K hK; go_big_quiet_op; go_big_quiet_on)
  clear hone hw7
  refine wpG_nil ?_
  intro u9 E2'
  have EX8 := Lib.hid E2'
  clear E2'
  go_upto_region 4 with (fail)
  refine wp_region_Hx (w0 := w) [0, 1, 2, 3, 4, 5, 6, 7, 8, 9, 10, 11, 12, 13, 14, 15, 16, 17, 18, 19] [(w.heap.size, Obj.cells (txA t) 26 (0, 0))] rfl EX8.out ?_
  refine lexH_phase [0, 1, 2, 3, 4, 5, 6, 7, 8, 9, 10, 11, 12, 13, 14, 15, 16, 17, 18, 19] [] ?_
  have hw10 : EnvX w _ [(w.heap.size, Obj.cells (txA t) 26 (0, 0))] := EX8.out
  have hone := @EnvC.one _ _ _ hw10
  iterate 12 (refine wpG_op rfl rfl rfl ?_; intro K hK; go_big_quiet_op; go_big_quiet_on)
  (refine wpG_val (v := .int .i64 (n : Int)) rfl rfl (fun u hu => len_op Tryd.underlying22 HN63.out u rfl) ?_ hw10; intro K hK; go_big_quiet_op; go_big_quiet_on)
  (refine wpG_val (v := .bool false) rfl rfl (fun u hu => gtZ_op u D60.out rfl rfl) ?_ hw10; intro K hK; go_big_quiet_op; go_big_quiet_on)
  iterate 3 (refine wpG_op rfl rfl rfl ?_; intro K hK; go_big_quiet_op; go_big_quiet_on)
  (refine wpG_val (v := .int .i64 (m : Int)) rfl rfl (fun u hu => len_op Tryd.underlying22 HN63q.out u rfl) ?_ hw10; intro K hK; go_big_quiet_op; go_big_quiet_on)
  (refine wpG_val (v := .bool true) rfl rfl (fun u hu => gtZ_op u D61.out rfl rfl) ?_ hw10; intro K hK; go_big_quiet_op; go_big_quiet_on)
  (refine wpG_op rfl rfl rfl ?_; intro K hK; go_big_quiet_op; go_big_quiet_on)
  clear hone hw10
  refine wpG_nil ?_
  intro u12 E2'
  have EX11 := Lib.hid E2'
  clear E2'
  go_upto_region 5 with (fail)
  refine wp_region_Hx (w0 := w) [0, 1] [(w.heap.size, Obj.cells (txA t) 26 (0, 0))] rfl EX11.out ?_
  refine lexH_phase [0, 1] [] ?_
  have hw13 : EnvX w _ [(w.heap.size, Obj.cells (txA t) 26 (0, 0))] := EX11.out
  have hone := @EnvC.one _ _ _ hw13
  iterate 2 (refine wpG_op rfl rfl rfl ?_; intro K hK; go_big_quiet_op; go_big_quiet_on)
  clear hone hw13
  refine wpG_nil ?_
  intro u15 E2'
  have EX14 := Lib.hid E2'
  clear E2'
  have HBE := Lib.hid (EnvX.bel EX14.out)
  go_wp2
  go_ret
  exact ⟨rfl, HBE.out⟩
set_option maxRecDepth 20000 in
set_option maxHeartbeats 8000000 in
theorem law_tells10_main (H : PurseC) (p q : List CoinR) (t : TxM) (l : List TxM) (A : Option Addr) (n c : Nat) (Aq : Option Addr) (m cq : Nat) (A' : Option Addr) (n' c' : Nat) (w : World) (hl : p.length = n) (hnc : n ≤ c) (hcm : c ≤ maxLen) (hI : okP p) (hA : CoinsIn w w.heap.size A p) (hlq : q.length = m) (hncq : m ≤ cq) (hcmq : cq ≤ maxLen) (hIq : okP q) (hAq : CoinsIn w w.heap.size Aq q) (kt : TxOk w t) (hl' : l.length = n') (hnc' : n' ≤ c') (hcm' : c' ≤ maxLen) (hA' : TxsIn w A' l) (ht : Tables w) (k1 : fewX t.r = true) (k2 : fewAll l 6 = true) (k3 : ¬ 60 < n) (k4 : ¬ 60 < m) :
    Calls Tryd.prog 3 #[.slice A n c, .slice Aq m cq, txV t, .slice A' n' c'] w fun e w' => e = .returned (.bool true) ∧ Below w.heap.size w w' := by
  have HT := Lib.hid ht
  have HH := Lib.hid H
  have HN63 : Hid (n < 9223372036854775808) := by show _ < _; unfold maxLen at hcm; omega
  have HL := Lib.hid hl
  have HNC := Lib.hid (And.intro hnc hcm)
  have HPP := Lib.hid hI
  have HAA : Hid (CoinsIn w w.heap.size A p) := hA
  have HN63q : Hid (m < 9223372036854775808) := by show _ < _; unfold maxLen at hcmq; omega
  have HLq := Lib.hid hlq
  have HNCq := Lib.hid (And.intro hncq hcmq)
  have HPPq := Lib.hid hIq
  have HAAq : Hid (CoinsIn w w.heap.size Aq q) := hAq
  have HM63 : Hid (n' < 9223372036854775808) := by show _ < _; unfold maxLen at hcm'; omega
  have HL' := Lib.hid hl'
  have HNC' := Lib.hid (And.intro hnc' hcm')
  have HTI := Lib.hid hA'
  have K_t := Lib.hid kt
  have HAW : Hid (∀ u, EnvX w u [] → Calls Tryd.prog 9 #[] u fun e w' => e = .returned (.bool true) ∧ Below u.heap.size u w') := fun u hu => pawake_any H u (ht.below (EnvX.bel hu))
  have E1 : Hid (EnvX w (w.alloc (.cells (txA t) 26)) [(w.heap.size, Obj.cells (txA t) 26 (0, 0))]) := (EnvX.start w).new _
  have HF_t : Hid (fewX t.r = true) := k1
  have HF_l : Hid (fewAll l 6 = true) := k2
  have D60 : Hid (decide ((60 : Int) < (n : Int)) = false) := decide_eq_false (by omega)
  have D61 : Hid (decide ((60 : Int) < (m : Int)) = false) := decide_eq_false (by omega)
  have HN60 : Hid (n ≤ 60 ∧ m ≤ 60) := by show _ ∧ _; omega
  clear k1 k2 k3 k4
  clear ht H hl hnc hcm hI hA hlq hncq hcmq hIq hAq hl' hnc' hcm' hA' kt
  unfold txV
  go_enter Tryd.func3, Tryd.ntmps3
  go_upto_region 1 with (fail)
  generalize w.alloc (.cells (txA t) 26) = W at *
  have HN48 : Hid (n ≤ 1000) := by have := HN60.out; show _ ≤ _; omega
  have HM48 : Hid (m ≤ 1000) := by have := HN60.out; show _ ≤ _; omega
  have HM1 : Hid (t.n1 < 9223372036854775808) := K_t.out.n63.1
  have HFW : Hid (n' ≤ 6 ∧ ∀ x ∈ l, fewX x.r = true) := by
    have h := HF_l.out
    have h2 := fewAll_len h
    unfold fewAll at h
    rw [Bool.and_eq_true, List.all_eq_true] at h
    exact ⟨by rw [← HL'.out]; omega, h.1⟩
  rcases hsp : spendP p t.r with ⟨a, na, ea⟩
  rcases hap : applyP p (rsT l) with ⟨d, eb⟩
  have hsl := spend_len HPP.out (by rw [HL.out]; exact HN60.out.1) t.r hsp
  have hal := apply_len HPP.out (by rw [HL.out]; exact HN60.out.1) (rsT l) hap
  have HAO := Lib.hid hsl.1
  have HDO := Lib.hid hal.1
  have HA48 := Lib.hid hsl.2
  have HD48 := Lib.hid hal.2
  have HSP := Lib.hid hsp
  have HAP := Lib.hid hap
  obtain ⟨bm, hbm⟩ : ∃ bm, mayP p = bm := ⟨_, rfl⟩
  obtain ⟨bs, hbs⟩ : ∃ bs, samePu p q = bs := ⟨_, rfl⟩
  obtain ⟨sp, hsv⟩ : ∃ sp, sumP p = sp := ⟨_, rfl⟩
  have HBM := Lib.hid hbm
  have HBS := Lib.hid hbs
  have HSV := Lib.hid hsv
  have HSAA : Hid (samePu a a = true) := decide_eq_true rfl
  have HSDD : Hid (samePu d d = true) := decide_eq_true rfl
  clear hsp hap hsl hal hbm hbs hsv
  refine wp_region_Hx (w0 := w) [0, 1] [(w.heap.size, Obj.cells (txA t) 26 (0, 0))] rfl E1.out ?_
  refine lexH_phase [0, 1] [] ?_
  have hw1 : EnvX w _ [(w.heap.size, Obj.cells (txA t) 26 (0, 0))] := E1.out
  have hone := @EnvC.one _ _ _ hw1
  (refine wpG_call (f := 9) (args := #[]) (v := .bool true) rfl rfl rfl Tryd.func9 rfl rfl (fun u hu => HAW.out u (EnvX.sub hu (fun _ h => by cases h))) ?_ hw1; intro K hK; go_big_quiet_op; go_big_quiet_on)
  (refine wpG_op rfl rfl rfl ?_; intro K hK; go_big_quiet_op; go_big_quiet_on)
  clear hone hw1
  refine wpG_nil ?_
  intro u3 E2'
  have EX2 := Lib.hid E2'
  clear E2'
  go_upto_region 2 with (fail)
  refine wp_region_Hx (w0 := w) [0, 1, 2] [(w.heap.size, Obj.cells (txA t) 26 (0, 0))] rfl EX2.out ?_
  refine lexH_phase [0, 1, 2] [] ?_
  have hw4 : EnvX w _ [(w.heap.size, Obj.cells (txA t) 26 (0, 0))] := EX2.out
  have hone := @EnvC.one _ _ _ hw4
  (refine wpG_val (v := txV t) rfl rfl (fun u hu => load_any_op u (box_tx hu (List.Mem.head _)) rfl) ?_ hw4; intro K hK; go_big_quiet_op; go_big_quiet_on)
  (refine wpG_call (f := 10) (args := #[txV t]) (v := .bool true) rfl rfl rfl Tryd.func10 rfl rfl (fun u hu => by have h1 := few_any t u (K_t.out.up (EnvX.bel hu)); rwa [HF_t.out] at h1) ?_ hw4; intro K hK; go_big_quiet_op; go_big_quiet_on)
  (refine wpG_op rfl rfl rfl ?_; intro K hK; go_big_quiet_op; go_big_quiet_on)
  clear hone hw4
  refine wpG_nil ?_
  intro u6 E2'
  have EX5 := Lib.hid E2'
  clear E2'
  go_upto_region 3 with (fail)
  refine wp_region_Hx (w0 := w) [0, 1, 2] [(w.heap.size, Obj.cells (txA t) 26 (0, 0))] rfl EX5.out ?_
  refine lexH_phase [0, 1, 2] [] ?_
  have hw7 : EnvX w _ [(w.heap.size, Obj.cells (txA t) 26 (0, 0))] := EX5.out
  have hone := @EnvC.one _ _ _ hw7
  (refine wpG_op rfl rfl rfl ?_; intro K hK; go_big_quiet_op; go_big_quiet_on)
  (refine wpG_call (f := 11) (args := #[.slice A' n' c', .int .i64 6]) (v := .bool true) rfl rfl rfl Tryd.func11 rfl rfl (fun u hu => by have h1 := fewall_any l 6 A' n' c' u HL'.out HM63.out (HTI.out.up (EnvX.bel hu)); rwa [HF_l.out] at h1) ?_ hw7; intro K hK; go_big_quiet_op; go_big_quiet_on)
  (refine wpG_op rfl rfl rfl ?_; intro K hK; go_big_quiet_op; go_big_quiet_on)
  clear hone hw7
  refine wpG_nil ?_
  intro u9 E2'
  have EX8 := Lib.hid E2'
  clear E2'
  go_upto_region 4 with (fail)
  refine wp_region_Hx (w0 := w) [0, 1, 2, 3, 4, 5, 6, 7, 8, 9, 10, 11, 12, 13, 14, 15, 16, 17, 18, 19] [(w.heap.size, Obj.cells (txA t) 26 (0, 0))] rfl EX8.out ?_
  refine lexH_phase [0, 1, 2, 3, 4, 5, 6, 7, 8, 9, 10, 11, 12, 13, 14, 15, 16, 17, 18, 19] [] ?_
  have hw10 : EnvX w _ [(w.heap.size, Obj.cells (txA t) 26 (0, 0))] := EX8.out
  have hone := @EnvC.one _ _ _ hw10
  iterate 12 (refine wpG_op rfl rfl rfl ?_; intro K hK; go_big_quiet_op; go_big_quiet_on)
  (refine wpG_val (v := .int .i64 (n : Int)) rfl rfl (fun u hu => len_op Tryd.underlying22 HN63.out u rfl) ?_ hw10; intro K hK; go_big_quiet_op; go_big_quiet_on)
  (refine wpG_val (v := .bool false) rfl rfl (fun u hu => gtZ_op u D60.out rfl rfl) ?_ hw10; intro K hK; go_big_quiet_op; go_big_quiet_on)
  iterate 3 (refine wpG_op rfl rfl rfl ?_; intro K hK; go_big_quiet_op; go_big_quiet_on)
  (refine wpG_val (v := .int .i64 (m : Int)) rfl rfl (fun u hu => len_op Tryd.underlying22 HN63q.out u rfl) ?_ hw10; intro K hK; go_big_quiet_op; go_big_quiet_on)
  (refine wpG_val (v := .bool false) rfl rfl (fun u hu => gtZ_op u D61.out rfl rfl) ?_ hw10; intro K hK; go_big_quiet_op; go_big_quiet_on)
  (refine wpG_op rfl rfl rfl ?_; intro K hK; go_big_quiet_op; go_big_quiet_on)
  clear hone hw10
  refine wpG_nil ?_
  intro u12 E2'
  have EX11 := Lib.hid E2'
  clear E2'
  go_upto_region 6 with (fail)
  refine wp_region_Hx (w0 := w) [0, 1, 2, 3, 4, 5, 6, 7, 8, 9] [(w.heap.size, Obj.cells (txA t) 26 (0, 0))] rfl EX11.out ?_
  refine lexH_phase [0, 1] [2, 3, 4, 5, 6, 7, 8, 9] ?_
  have hw13 : EnvX w _ [(w.heap.size, Obj.cells (txA t) 26 (0, 0))] := EX11.out
  have hone := @EnvC.one _ _ _ hw13
  (refine wpG_op rfl rfl rfl ?_; intro K hK; go_big_quiet_op; go_big_quiet_on)
  (refine wpG_val (v := txV t) rfl rfl (fun u hu => load_any_op u (box_tx hu (List.Mem.head _)) rfl) ?_ hw13; intro K hK; go_big_quiet_op; go_big_quiet_on)
  clear hone hw13
  refine wpG_nil ?_
  refine (hOp_turn (gd := none) (R := fun x M' => ∃ A c N, x = .tuple #[.slice A (a).length c, .int .i64 na, .int .i64 ((ea : Nat) : Int)] ∧ M' = N ++ [(w.heap.size, Obj.cells (txA t) 26 (0, 0))] ∧ ((a).length ≤ c ∧ c ≤ maxLen) ∧ CoB (a) A N) rfl rfl rfl rfl (fun u hu => OUpon_call (fid := 12) (xs := #[.tmp 54, .tmp 55]) (args := #[.slice A n c, txV t]) rfl Tryd.func12 rfl rfl u (co_turn3 (by have h := HH.out.spend p A n c t u HL.out HN48.out HNC.out.1 HNC.out.2 HPP.out (CellsIn.up HAA.out (EnvX.bel hu)) (K_t.out.up (EnvX.bel hu)) HF_t.out (HT.out.below (EnvX.bel hu)); rwa [HSP.out] at h) hu)) ?_)
  rintro _ _ ⟨A6, c6, N6, rfl, rfl, hc6, hb6⟩ he14; intro K' hK'; go_big_quiet_op; go_big_quiet_on
  have HC6 := Lib.hid hc6
  have HB6 := Lib.hid hb6
  clear hc6 hb6
  change lexH _ _ _ _ _ _ (N6 ++ ((w.heap.size, Obj.cells (txA t) 26 (0, 0)) :: []))
  refine lexH_phase [3, 4, 5, 6, 7, 8, 9] [] ?_
  have hw15 : EnvX w _ (N6 ++ ((w.heap.size, Obj.cells (txA t) 26 (0, 0)) :: [])) := he14.choose_spec
  have hone := @EnvC.one _ _ _ hw15
  iterate 7 (refine wpG_op rfl rfl rfl ?_; intro K hK; go_big_quiet_op; go_big_quiet_on)
  clear hone hw15
  refine wpG_nil ?_
  intro u17 E2'
  have EX16 := Lib.hid E2'
  clear E2'
  go_upto_region 7 with (fail)
  refine wp_region_Hx (w0 := w) [0, 1, 2, 3, 4, 5, 6, 7, 8, 9] (N6 ++ ((w.heap.size, Obj.cells (txA t) 26 (0, 0)) :: [])) rfl EX16.out ?_
  refine lexH_phase [0, 1] [2, 3, 4, 5, 6, 7, 8, 9] ?_
  have hw18 : EnvX w _ (N6 ++ ((w.heap.size, Obj.cells (txA t) 26 (0, 0)) :: [])) := EX16.out
  have hone := @EnvC.one _ _ _ hw18
  (refine wpG_op rfl rfl rfl ?_; intro K hK; go_big_quiet_op; go_big_quiet_on)
  (refine wpG_val (v := txV t) rfl rfl (fun u hu => load_any_op u (box_tx hu (List.mem_append_right _ (List.Mem.head _))) rfl) ?_ hw18; intro K hK; go_big_quiet_op; go_big_quiet_on)
  clear hone hw18
  refine wpG_nil ?_
  refine (hOp_turn (gd := none) (R := fun x M' => ∃ A c N, x = .tuple #[.slice A (a).length c, .int .i64 na, .int .i64 ((ea : Nat) : Int)] ∧ M' = N ++ (N6 ++ ((w.heap.size, Obj.cells (txA t) 26 (0, 0)) :: [])) ∧ ((a).length ≤ c ∧ c ≤ maxLen) ∧ CoB (a) A N) rfl rfl rfl rfl (fun u hu => OUpon_call (fid := 13) (xs := #[.tmp 61, .tmp 62]) (args := #[.slice A n c, txV t]) rfl Tryd.func13 rfl rfl u (co_turn3 (by have h := rspendP p A n c t u HL.out HNC.out.1 HNC.out.2 HPP.out (CellsIn.up HAA.out (EnvX.bel hu)) (K_t.out.up (EnvX.bel hu)); rwa [HSP.out] at h) hu)) ?_)
  rintro _ _ ⟨A7, c7, N7, rfl, rfl, hc7, hb7⟩ he19; intro K' hK'; go_big_quiet_op; go_big_quiet_on
  have HC7 := Lib.hid hc7
  have HB7 := Lib.hid hb7
  clear hc7 hb7
  change lexH _ _ _ _ _ _ (N7 ++ (N6 ++ ((w.heap.size, Obj.cells (txA t) 26 (0, 0)) :: [])))
  refine lexH_phase [3, 4, 5, 6, 7, 8, 9] [] ?_
  have hw20 : EnvX w _ (N7 ++ (N6 ++ ((w.heap.size, Obj.cells (txA t) 26 (0, 0)) :: []))) := he19.choose_spec
  have hone := @EnvC.one _ _ _ hw20
  iterate 7 (refine wpG_op rfl rfl rfl ?_; intro K hK; go_big_quiet_op; go_big_quiet_on)
  clear hone hw20
  refine wpG_nil ?_
  intro u22 E2'
  have EX21 := Lib.hid E2'
  clear E2'
  go_upto_region 8 with (fail)
  refine wp_region_Hx (w0 := w) [0, 1, 2, 3, 4, 5, 6, 7] (N7 ++ (N6 ++ ((w.heap.size, Obj.cells (txA t) 26 (0, 0)) :: []))) rfl EX21.out ?_
  refine lexH_phase [0, 1] [2, 3, 4, 5, 6, 7] ?_
  have hw23 : EnvX w _ (N7 ++ (N6 ++ ((w.heap.size, Obj.cells (txA t) 26 (0, 0)) :: []))) := EX21.out
  have hone := @EnvC.one _ _ _ hw23
  iterate 2 (refine wpG_op rfl rfl rfl ?_; intro K hK; go_big_quiet_op; go_big_quiet_on)
  clear hone hw23
  refine wpG_nil ?_
  refine (hOp_turn (gd := none) (R := fun x M' => ∃ A c N, x = .tuple #[.slice A (d).length c, .int .i64 ((eb : Nat) : Int)] ∧ M' = N ++ (N7 ++ (N6 ++ ((w.heap.size, Obj.cells (txA t) 26 (0, 0)) :: []))) ∧ ((d).length ≤ c ∧ c ≤ maxLen) ∧ CoB (d) A N) rfl rfl rfl rfl (fun u hu => OUpon_call (fid := 14) (xs := #[.tmp 68, .tmp 69]) (args := #[.slice A n c, .slice A' n' c']) rfl Tryd.func14 rfl rfl u (co_turn2 (by have h := HH.out.apply p A n c l A' n' c' u HL.out HN48.out HNC.out.1 HNC.out.2 HPP.out (CellsIn.up HAA.out (EnvX.bel hu)) HL'.out HFW.out.1 HNC'.out.1 HNC'.out.2 (HTI.out.up (EnvX.bel hu)) HFW.out.2 (HT.out.below (EnvX.bel hu)); rwa [HAP.out] at h) hu)) ?_)
  rintro _ _ ⟨A8, c8, N8, rfl, rfl, hc8, hb8⟩ he24; intro K' hK'; go_big_quiet_op; go_big_quiet_on
  have HC8 := Lib.hid hc8
  have HB8 := Lib.hid hb8
  clear hc8 hb8
  change lexH _ _ _ _ _ _ (N8 ++ (N7 ++ (N6 ++ ((w.heap.size, Obj.cells (txA t) 26 (0, 0)) :: []))))
  refine lexH_phase [3, 4, 5, 6, 7] [] ?_
  have hw25 : EnvX w _ (N8 ++ (N7 ++ (N6 ++ ((w.heap.size, Obj.cells (txA t) 26 (0, 0)) :: [])))) := he24.choose_spec
  have hone := @EnvC.one _ _ _ hw25
  iterate 5 (refine wpG_op rfl rfl rfl ?_; intro K hK; go_big_quiet_op; go_big_quiet_on)
  clear hone hw25
  refine wpG_nil ?_
  intro u27 E2'
  have EX26 := Lib.hid E2'
  clear E2'
  go_upto_region 9 with (fail)
  refine wp_region_Hx (w0 := w) [0, 1, 2, 3, 4, 5, 6, 7] (N8 ++ (N7 ++ (N6 ++ ((w.heap.size, Obj.cells (txA t) 26 (0, 0)) :: [])))) rfl EX26.out ?_
  refine lexH_phase [0, 1] [2, 3, 4, 5, 6, 7] ?_
  have hw28 : EnvX w _ (N8 ++ (N7 ++ (N6 ++ ((w.heap.size, Obj.cells (txA t) 26 (0, 0)) :: [])))) := EX26.out
  have hone := @EnvC.one _ _ _ hw28
  iterate 2 (refine wpG_op rfl rfl rfl ?_; intro K hK; go_big_quiet_op; go_big_quiet_on)
  clear hone hw28
  refine wpG_nil ?_
  refine (hOp_turn (gd := none) (R := fun x M' => ∃ A c N, x = .tuple #[.slice A (d).length c, .int .i64 ((eb : Nat) : Int)] ∧ M' = N ++ (N8 ++ (N7 ++ (N6 ++ ((w.heap.size, Obj.cells (txA t) 26 (0, 0)) :: [])))) ∧ ((d).length ≤ c ∧ c ≤ maxLen) ∧ CoB (d) A N) rfl rfl rfl rfl (fun u hu => OUpon_call (fid := 15) (xs := #[.tmp 74, .tmp 75]) (args := #[.slice A n c, .slice A' n' c']) rfl Tryd.func15 rfl rfl u (co_turn2 (by have h := rapplyP p A n c l A' n' c' u HL.out HNC.out.1 HNC.out.2 HPP.out (CellsIn.up HAA.out (EnvX.bel hu)) HL'.out HNC'.out.1 HNC'.out.2 (HTI.out.up (EnvX.bel hu)); rwa [HAP.out] at h) hu)) ?_)
  rintro _ _ ⟨A9, c9, N9, rfl, rfl, hc9, hb9⟩ he29; intro K' hK'; go_big_quiet_op; go_big_quiet_on
  have HC9 := Lib.hid hc9
  have HB9 := Lib.hid hb9
  clear hc9 hb9
  change lexH _ _ _ _ _ _ (N9 ++ (N8 ++ (N7 ++ (N6 ++ ((w.heap.size, Obj.cells (txA t) 26 (0, 0)) :: [])))))
  refine lexH_phase [3, 4, 5, 6, 7] [] ?_
  have hw30 : EnvX w _ (N9 ++ (N8 ++ (N7 ++ (N6 ++ ((w.heap.size, Obj.cells (txA t) 26 (0, 0)) :: []))))) := he29.choose_spec
  have hone := @EnvC.one _ _ _ hw30
  iterate 5 (refine wpG_op rfl rfl rfl ?_; intro K hK; go_big_quiet_op; go_big_quiet_on)
  clear hone hw30
  refine wpG_nil ?_
  intro u32 E2'
  have EX31 := Lib.hid E2'
  clear E2'
  go_upto_region 10 with (fail)
  refine wp_region_Hx (w0 := w) [0, 1, 2, 3] (N9 ++ (N8 ++ (N7 ++ (N6 ++ ((w.heap.size, Obj.cells (txA t) 26 (0, 0)) :: []))))) rfl EX31.out ?_
  refine lexH_phase [0, 1, 2, 3] [] ?_
  have hw33 : EnvX w _ (N9 ++ (N8 ++ (N7 ++ (N6 ++ ((w.heap.size, Obj.cells (txA t) 26 (0, 0)) :: []))))) := EX31.out
  have hone := @EnvC.one _ _ _ hw33
  iterate 2 (refine wpG_op rfl rfl rfl ?_; intro K hK; go_big_quiet_op; go_big_quiet_on)
  (refine wpG_call (f := 16) (args := #[.slice A6 a.length c6, .slice A7 a.length c7]) (v := .bool true) rfl rfl rfl Tryd.func16 rfl rfl (fun u hu => by have h := rsameP_any a a A6 A7 a.length c6 a.length c7 u rfl HC6.out.1 HC6.out.2 HAO.out (CoB.read HB6.out hu (fun y MEM => (List.mem_append_right _ (List.mem_append_right _ (List.mem_append_right _ (List.mem_append_left _ MEM)))))) rfl HC7.out.1 HC7.out.2 HAO.out (CoB.read HB7.out hu (fun y MEM => (List.mem_append_right _ (List.mem_append_right _ (List.mem_append_left _ MEM))))); rwa [HSAA.out] at h) ?_ hw33; intro K hK; go_big_quiet_op; go_big_quiet_on)
  (refine wpG_op rfl rfl rfl ?_; intro K hK; go_big_quiet_op; go_big_quiet_on)
  clear hone hw33
  refine wpG_nil ?_
  intro u35 E2'
  have EX34 := Lib.hid E2'
  clear E2'
  go_upto_region 11 with (fail)
  refine wp_region_Hx (w0 := w) [0, 1, 2, 3] (N9 ++ (N8 ++ (N7 ++ (N6 ++ ((w.heap.size, Obj.cells (txA t) 26 (0, 0)) :: []))))) rfl EX34.out ?_
  refine lexH_phase [0, 1, 2, 3] [] ?_
  have hw36 : EnvX w _ (N9 ++ (N8 ++ (N7 ++ (N6 ++ ((w.heap.size, Obj.cells (txA t) 26 (0, 0)) :: []))))) := EX34.out
  have hone := @EnvC.one _ _ _ hw36
  iterate 2 (refine wpG_op rfl rfl rfl ?_; intro K hK; go_big_quiet_op; go_big_quiet_on)
  (refine wpG_call (f := 16) (args := #[.slice A8 d.length c8, .slice A9 d.length c9]) (v := .bool true) rfl rfl rfl Tryd.func16 rfl rfl (fun u hu => by have h := rsameP_any d d A8 A9 d.length c8 d.length c9 u rfl HC8.out.1 HC8.out.2 HDO.out (CoB.read HB8.out hu (fun y MEM => (List.mem_append_right _ (List.mem_append_left _ MEM)))) rfl HC9.out.1 HC9.out.2 HDO.out (CoB.read HB9.out hu (fun y MEM => (List.mem_append_left _ MEM))); rwa [HSDD.out] at h) ?_ hw36; intro K hK; go_big_quiet_op; go_big_quiet_on)
  (refine wpG_op rfl rfl rfl ?_; intro K hK; go_big_quiet_op; go_big_quiet_on)
  clear hone hw36
  refine wpG_nil ?_
  intro u38 E2'
  have EX37 := Lib.hid E2'
  clear E2'
  go_upto_region 12 with (fail)
  refine wp_region_Hx (w0 := w) [0, 1, 2] (N9 ++ (N8 ++ (N7 ++ (N6 ++ ((w.heap.size, Obj.cells (txA t) 26 (0, 0)) :: []))))) rfl EX37.out ?_
  refine lexH_phase [0, 1, 2] [] ?_
  have hw39 : EnvX w _ (N9 ++ (N8 ++ (N7 ++ (N6 ++ ((w.heap.size, Obj.cells (txA t) 26 (0, 0)) :: []))))) := EX37.out
  have hone := @EnvC.one _ _ _ hw39
  (refine wpG_op rfl rfl rfl ?_; intro K hK; go_big_quiet_op; go_big_quiet_on)
  (refine wpG_call (f := 17) (args := #[.slice A n c]) (v := .bool bm) rfl rfl rfl Tryd.func17 rfl rfl (fun u hu => by have h := rmayP_any p A n c u HL.out HNC.out.1 HNC.out.2 HPP.out (CellsIn.up HAA.out (EnvX.bel hu)); rwa [HBM.out] at h) ?_ hw39; intro K hK; go_big_quiet_op; go_big_quiet_on)
  (refine wpG_op rfl rfl rfl ?_; intro K hK; go_big_quiet_op; go_big_quiet_on)
  clear hone hw39
  refine wpG_nil ?_
  intro u41 E2'
  have EX40 := Lib.hid E2'
  clear E2'
  go_upto_region 13 with (fail)
  refine wp_region_Hx (w0 := w) [0, 1, 2, 3] (N9 ++ (N8 ++ (N7 ++ (N6 ++ ((w.heap.size, Obj.cells (txA t) 26 (0, 0)) :: []))))) rfl EX40.out ?_
  refine lexH_phase [0, 1, 2, 3] [] ?_
  have hw42 : EnvX w _ (N9 ++ (N8 ++ (N7 ++ (N6 ++ ((w.heap.size, Obj.cells (txA t) 26 (0, 0)) :: []))))) := EX40.out
  have hone := @EnvC.one _ _ _ hw42
  iterate 2 (refine wpG_op rfl rfl rfl ?_; intro K hK; go_big_quiet_op; go_big_quiet_on)
  (refine wpG_call (f := 16) (args := #[.slice A n c, .slice Aq m cq]) (v := .bool bs) rfl rfl rfl Tryd.func16 rfl rfl (fun u hu => by have h := rsameP_any p q A Aq n c m cq u HL.out HNC.out.1 HNC.out.2 HPP.out (CellsIn.up HAA.out (EnvX.bel hu)) HLq.out HNCq.out.1 HNCq.out.2 HPPq.out (CellsIn.up HAAq.out (EnvX.bel hu)); rwa [HBS.out] at h) ?_ hw42; intro K hK; go_big_quiet_op; go_big_quiet_on)
  (refine wpG_op rfl rfl rfl ?_; intro K hK; go_big_quiet_op; go_big_quiet_on)
  clear hone hw42
  refine wpG_nil ?_
  intro u44 E2'
  have EX43 := Lib.hid E2'
  clear E2'
  have EJ : Hid (EnvX w u44 [(w.heap.size, Obj.cells (txA t) 26 (0, 0))]) := EX43.out.sub (fun y h => by cases List.mem_singleton.1 h; exact (List.mem_append_right _ (List.mem_append_right _ (List.mem_append_right _ (List.mem_append_right _ (List.Mem.head _))))))
  clear EX43
  obtain ⟨A1, hA1⟩ : ∃ A1, t.A1 = A1 := ⟨_, rfl⟩
  obtain ⟨n1, hn1⟩ : ∃ n1, t.n1 = n1 := ⟨_, rfl⟩
  obtain ⟨c1, hc1⟩ : ∃ c1, t.c1 = c1 := ⟨_, rfl⟩
  have HLI : Hid (∀ u, EnvX w u [(w.heap.size, Obj.cells (txA t) 26 (0, 0))] → (loadVar 23 ⟨w.heap.size, 0, none⟩).run Tryd.prog u = .ok (.slice A1 n1 c1) u) := fun u hu => by
    have h := box_tx_ins hu (List.Mem.head _)
    rwa [hA1, hn1, hc1] at h
  have HL1 : Hid (t.r.ins.length = n1) := by show _ = _; rw [← hn1]; exact K_t.out.l1
  rw [hn1] at HM1
  have HA1 := Lib.hid hA1
  clear hA1 hn1 hc1
  go_upto_region 15 with (fail)
  go_loopw [26] (fun iv u => ∃ i : Nat, i ≤ n1 ∧ iv = .int .i64 (i : Int) ∧ Hid (EnvX w u [(w.heap.size, Obj.cells (txA t) 26 (0, 0))])) (fun iv _ => n1 - (intOf iv).toNat)
  case atStart => exact ⟨0, by omega, rfl, EJ.out⟩
  case round =>
    obtain ⟨i, hi, rfl, hinv⟩ := hrel
    have EK := Lib.hid hinv.out
    clear hinv EJ
    by_cases hlt : i < n1
    · have C8 : Hid (decide ((i : Int) < (n1 : Int)) = true) := decide_eq_true (by omega)
      have HI := Lib.hid hlt
      have hil : i < t.r.ins.length := by rw [HL1.out]; exact hlt
      obtain ⟨ad, hA1, -, hld⟩ := K_t.out.m1.loads K_t.out.o1 hil
      have hA1' : A1 = some ad := by rw [← HA1.out]; exact hA1
      subst hA1'
      have HLD : Hid (∀ u, EnvX w u [(w.heap.size, Obj.cells (txA t) 26 (0, 0))] → (loadVar 42 (ad.add (i * 33))).run Tryd.prog u = .ok (inV (t.r.ins.getD i noIn)) u) := fun u hu => (hld u (hu.sub (fun _ h => by cases h))).1
      have HX : Hid (okIn (t.r.ins.getD i noIn)) := K_t.out.o1.get hil
      obtain ⟨x, hx⟩ : ∃ x, t.r.ins.getD i noIn = x := ⟨_, rfl⟩
      rw [hx] at HLD HX
      obtain ⟨kf, hkf⟩ : ∃ kf, findP p x = kf := ⟨_, rfl⟩
      have HKF := Lib.hid hkf
      clear hld hil hlt hx hkf hA1
      go_upto_region 15 with (fail)
      refine wp_region_Hx (w0 := w) [0, 1, 2, 3, 4] [(w.heap.size, Obj.cells (txA t) 26 (0, 0))] rfl EK.out ?_
      refine lexH_phase [0, 1, 2, 3, 4] [] ?_
      have hw301 : EnvX w _ [(w.heap.size, Obj.cells (txA t) 26 (0, 0))] := EK.out
      have hone := @EnvC.one _ _ _ hw301
      (refine wpG_op rfl rfl rfl ?_; intro K hK; go_big_quiet_op; go_big_quiet_on)
      (refine wpG_val (v := .pointer (some ⟨w.heap.size, 0, none⟩)) rfl rfl (fun u hu => fieldTx_op (k := 0) (off := 0) (ad := ⟨w.heap.size, 0, none⟩) rfl u rfl) ?_ hw301; intro K hK; go_big_quiet_op; go_big_quiet_on)
      (refine wpG_val (v := .slice (some ad) n1 c1) rfl rfl (fun u hu => load_any_op u (HLI.out u hu) rfl) ?_ hw301; intro K hK; go_big_quiet_op; go_big_quiet_on)
      (refine wpG_val (v := .int .i64 (n1 : Int)) rfl rfl (fun u hu => len_op Tryd.underlying23 HM1.out u rfl) ?_ hw301; intro K hK; go_big_quiet_op; go_big_quiet_on)
      (refine wpG_val (v := .bool true) rfl rfl (fun u hu => ltZ_op u C8.out rfl rfl) ?_ hw301; intro K hK; go_big_quiet_op; go_big_quiet_on)
      clear hone hw301
      refine wpG_nil ?_
      intro u303 E2'
      have EX302 := Lib.hid E2'
      clear E2'
      go_upto_region 17 with (fail)
      refine wp_region_H (w0 := w) [(w.heap.size, Obj.cells (txA t) 26 (0, 0))] (by kernel_rfl) EX302.out ?_
      refine anyH_phase [0, 1, 2, 3, 4, 5, 6, 7, 8, 9, 10, 11, 12, 13, 14] 0 rfl ⟨_, (EnvX.drew EX302.out)⟩ (by kernel_rfl) ?_
      have hw304 : EnvX w _ [(w.heap.size, Obj.cells (txA t) 26 (0, 0))] := (EnvX.drew EX302.out)
      have hone := @EnvC.one _ _ _ hw304
      (refine wpG_op rfl rfl rfl ?_; intro K hK; go_big_quiet_op; go_big_quiet_on)
      (refine wpG_val (v := .pointer (some ⟨w.heap.size, 0, none⟩)) rfl rfl (fun u hu => fieldTx_op (k := 0) (off := 0) (ad := ⟨w.heap.size, 0, none⟩) rfl u rfl) ?_ hw304; intro K hK; go_big_quiet_op; go_big_quiet_on)
      (refine wpG_val (v := .slice (some ad) n1 c1) rfl rfl (fun u hu => load_any_op u (HLI.out u hu) rfl) ?_ hw304; intro K hK; go_big_quiet_op; go_big_quiet_on)
      (refine wpG_op rfl rfl rfl ?_; intro K hK; go_big_quiet_op; go_big_quiet_on)
      (refine wpG_val (v := .pointer (some (ad.add (i * 33)))) rfl rfl (fun u hu => idxSl_op (i := i) Tryd.underlying23 aggIn.size HI.out u rfl rfl) ?_ hw304; intro K hK; go_big_quiet_op; go_big_quiet_on)
      (refine wpG_val (v := inV x) rfl rfl (fun u hu => load_any_op u (HLD.out u hu) rfl) ?_ hw304; intro K hK; go_big_quiet_op; go_big_quiet_on)
      (refine wpG_call (f := 18) (args := #[.slice A n c, inV x]) (v := .int .i64 kf) rfl rfl rfl Tryd.func18 rfl rfl (fun u hu => by have h := HH.out.find p A n c x u HL.out HN48.out HNC.out.1 HNC.out.2 HPP.out (CellsIn.up HAA.out (EnvX.bel hu)) HX.out (HT.out.below (EnvX.bel hu)); rwa [HKF.out] at h) ?_ hw304; intro K hK; go_big_quiet_op; go_big_quiet_on)
      (refine wpG_op rfl rfl rfl ?_; intro K hK; go_big_quiet_op; go_big_quiet_on)
      (refine wpG_val (v := .pointer (some ⟨w.heap.size, 0, none⟩)) rfl rfl (fun u hu => fieldTx_op (k := 0) (off := 0) (ad := ⟨w.heap.size, 0, none⟩) rfl u rfl) ?_ hw304; intro K hK; go_big_quiet_op; go_big_quiet_on)
      (refine wpG_val (v := .slice (some ad) n1 c1) rfl rfl (fun u hu => load_any_op u (HLI.out u hu) rfl) ?_ hw304; intro K hK; go_big_quiet_op; go_big_quiet_on)
      (refine wpG_op rfl rfl rfl ?_; intro K hK; go_big_quiet_op; go_big_quiet_on)
      (refine wpG_val (v := .pointer (some (ad.add (i * 33)))) rfl rfl (fun u hu => idxSl_op (i := i) Tryd.underlying23 aggIn.size HI.out u rfl rfl) ?_ hw304; intro K hK; go_big_quiet_op; go_big_quiet_on)
      (refine wpG_val (v := inV x) rfl rfl (fun u hu => load_any_op u (HLD.out u hu) rfl) ?_ hw304; intro K hK; go_big_quiet_op; go_big_quiet_on)
      (refine wpG_call (f := 19) (args := #[.slice A n c, inV x]) (v := .int .i64 kf) rfl rfl rfl Tryd.func19 rfl rfl (fun u hu => by have h := rfindP_any p A n c x u HL.out HNC.out.1 HNC.out.2 HPP.out (CellsIn.up HAA.out (EnvX.bel hu)) HX.out.len; rwa [HKF.out] at h) ?_ hw304; intro K hK; go_big_quiet_op; go_big_quiet_on)
      (refine wpG_val (v := .bool false) rfl rfl (fun u hu => neZ_op u (show decide (kf ≠ kf) = false from decide_eq_false (fun h => h rfl)) rfl rfl) ?_ hw304; intro K hK; go_big_quiet_op; go_big_quiet_on)
      clear hone hw304
      refine wpG_nil ?_
      refine anyH_done (by kernel_rfl) ?_
      intro u306 E2'
      have EX305 := Lib.hid E2'
      clear E2'
      have hii := HI.out
      have hn := HM1.out
      go_wp2
      go_roundw
      case rel => exact ⟨i + 1, by omega, by go_num, EX305.out⟩
      case measure => simp [intOf]; omega
    · obtain rfl : i = n1 := by omega
      have C8 : Hid (decide ((i : Int) < (i : Int)) = false) := decide_eq_false (by omega)
      go_upto_region 15 with (fail)
      refine wp_region_Hx (w0 := w) [0, 1, 2, 3, 4] [(w.heap.size, Obj.cells (txA t) 26 (0, 0))] rfl EK.out ?_
      refine lexH_phase [0, 1, 2, 3, 4] [] ?_
      have hw501 : EnvX w _ [(w.heap.size, Obj.cells (txA t) 26 (0, 0))] := EK.out
      have hone := @EnvC.one _ _ _ hw501
      (refine wpG_op rfl rfl rfl ?_; intro K hK; go_big_quiet_op; go_big_quiet_on)
      (refine wpG_val (v := .pointer (some ⟨w.heap.size, 0, none⟩)) rfl rfl (fun u hu => fieldTx_op (k := 0) (off := 0) (ad := ⟨w.heap.size, 0, none⟩) rfl u rfl) ?_ hw501; intro K hK; go_big_quiet_op; go_big_quiet_on)
      (refine wpG_val (v := .slice A1 i c1) rfl rfl (fun u hu => load_any_op u (HLI.out u hu) rfl) ?_ hw501; intro K hK; go_big_quiet_op; go_big_quiet_on)
      (refine wpG_val (v := .int .i64 (i : Int)) rfl rfl (fun u hu => len_op Tryd.underlying23 HM1.out u rfl) ?_ hw501; intro K hK; go_big_quiet_op; go_big_quiet_on)
      (refine wpG_val (v := .bool false) rfl rfl (fun u hu => ltZ_op u C8.out rfl rfl) ?_ hw501; intro K hK; go_big_quiet_op; go_big_quiet_on)
      clear hone hw501
      refine wpG_nil ?_
      intro u503 E2'
      have EX502 := Lib.hid E2'
      clear E2'
      go_upto_region 19 with (fail)
      refine wp_region_Hx (w0 := w) [0, 1, 2, 3, 4, 5, 6, 7, 8, 9, 10, 11, 12, 13, 14, 15, 16, 17, 18, 19, 20, 21, 22, 23, 24, 25, 26, 27, 28, 29, 30, 31, 32, 33, 34, 35, 36, 37, 38, 39] [(w.heap.size, Obj.cells (txA t) 26 (0, 0))] rfl EX502.out ?_
      refine lexH_phase [0, 1, 2, 3, 4, 5, 6, 7, 8, 9, 10, 11, 12, 13, 14, 15, 16, 17, 18, 19, 20, 21, 22, 23, 24, 25, 26, 27, 28, 29, 30, 31, 32, 33, 34, 35, 36, 37, 38, 39] [] ?_
      have hw504 : EnvX w _ [(w.heap.size, Obj.cells (txA t) 26 (0, 0))] := EX502.out
      have hone := @EnvC.one _ _ _ hw504
      iterate 4 (refine wpG_op rfl rfl rfl ?_; intro K hK; go_big_quiet_op; go_big_quiet_on)
      (refine wpG_val (v := .bool true) rfl rfl (fun u hu => eqlI_op u (decide_eq_true rfl) rfl rfl) ?_ hw504; intro K hK; go_big_quiet_op; go_big_quiet_on)
      iterate 4 (refine wpG_op rfl rfl rfl ?_; intro K hK; go_big_quiet_op; go_big_quiet_on)
      (refine wpG_val (v := .bool true) rfl rfl (fun u hu => eqErr_op u (decide_eq_true rfl) rfl rfl) ?_ hw504; intro K hK; go_big_quiet_op; go_big_quiet_on)
      iterate 7 (refine wpG_op rfl rfl rfl ?_; intro K hK; go_big_quiet_op; go_big_quiet_on)
      (refine wpG_val (v := .bool true) rfl rfl (fun u hu => eqErr_op u (decide_eq_true rfl) rfl rfl) ?_ hw504; intro K hK; go_big_quiet_op; go_big_quiet_on)
      iterate 3 (refine wpG_op rfl rfl rfl ?_; intro K hK; go_big_quiet_op; go_big_quiet_on)
      (refine wpG_call (f := 20) (args := #[.slice A n c]) (v := .bool bm) rfl rfl rfl Tryd.func20 rfl rfl (fun u hu => by have h := HH.out.may p A n c u HL.out HNC.out.1 HNC.out.2 HPP.out (CellsIn.up HAA.out (EnvX.bel hu)) (HT.out.below (EnvX.bel hu)); rwa [HBM.out] at h) ?_ hw504; intro K hK; go_big_quiet_op; go_big_quiet_on)
      (refine wpG_op rfl rfl rfl ?_; intro K hK; go_big_quiet_op; go_big_quiet_on)
      (refine wpG_val (v := .bool true) rfl rfl (fun u hu => eqlBp_op u (by cases bm <;> rfl) rfl rfl) ?_ hw504; intro K hK; go_big_quiet_op; go_big_quiet_on)
      iterate 4 (refine wpG_op rfl rfl rfl ?_; intro K hK; go_big_quiet_op; go_big_quiet_on)
      (refine wpG_call (f := 21) (args := #[.slice A n c, .slice Aq m cq]) (v := .bool bs) rfl rfl rfl Tryd.func21 rfl rfl (fun u hu => by have h := HH.out.same p q A Aq n c m cq u HL.out HN48.out HNC.out.1 HNC.out.2 HPP.out (CellsIn.up HAA.out (EnvX.bel hu)) HLq.out HM48.out HNCq.out.1 HNCq.out.2 HPPq.out (CellsIn.up HAAq.out (EnvX.bel hu)) (HT.out.below (EnvX.bel hu)); rwa [HBS.out] at h) ?_ hw504; intro K hK; go_big_quiet_op; go_big_quiet_on)
      (refine wpG_op rfl rfl rfl ?_; intro K hK; go_big_quiet_op; go_big_quiet_on)
      (refine wpG_val (v := .bool true) rfl rfl (fun u hu => eqlBp_op u (by cases bs <;> rfl) rfl rfl) ?_ hw504; intro K hK; go_big_quiet_op; go_big_quiet_on)
      iterate 3 (refine wpG_op rfl rfl rfl ?_; intro K hK; go_big_quiet_op; go_big_quiet_on)
      (refine wpG_call (f := 22) (args := #[.slice A n c]) (v := .int .i64 sp) rfl rfl rfl Tryd.func22 rfl rfl (fun u hu => by have h := HH.out.sum p A n c u HL.out HN48.out HNC.out.1 HNC.out.2 HPP.out (CellsIn.up HAA.out (EnvX.bel hu)) (HT.out.below (EnvX.bel hu)); rwa [HSV.out] at h) ?_ hw504; intro K hK; go_big_quiet_op; go_big_quiet_on)
      (refine wpG_op rfl rfl rfl ?_; intro K hK; go_big_quiet_op; go_big_quiet_on)
      (refine wpG_call (f := 23) (args := #[.slice A n c]) (v := .int .i64 sp) rfl rfl rfl Tryd.func23 rfl rfl (fun u hu => by have h := rsumP_any p A n c u HL.out HNC.out.1 HNC.out.2 HPP.out (CellsIn.up HAA.out (EnvX.bel hu)); rwa [HSV.out] at h) ?_ hw504; intro K hK; go_big_quiet_op; go_big_quiet_on)
      (refine wpG_val (v := .bool true) rfl rfl (fun u hu => eqlI_op u (decide_eq_true rfl) rfl rfl) ?_ hw504; intro K hK; go_big_quiet_op; go_big_quiet_on)
      iterate 2 (refine wpG_op rfl rfl rfl ?_; intro K hK; go_big_quiet_op; go_big_quiet_on)
      clear hone hw504
      refine wpG_nil ?_
      intro u506 E2'
      have EX505 := Lib.hid E2'
      clear E2'
      have HBE := Lib.hid (EnvX.bel EX505.out)
      go_wp2
      go_ret
      exact ⟨rfl, HBE.out⟩
theorem law_tells10 (H : PurseC) (p q : List CoinR) (t : TxM) (l : List TxM) (A : Option Addr) (n c : Nat) (Aq : Option Addr) (m cq : Nat) (A' : Option Addr) (n' c' : Nat) (w : World) (hl : p.length = n) (hnc : n ≤ c) (hcm : c ≤ maxLen) (hI : okP p) (hA : CoinsIn w w.heap.size A p) (hlq : q.length = m) (hncq : m ≤ cq) (hcmq : cq ≤ maxLen) (hIq : okP q) (hAq : CoinsIn w w.heap.size Aq q) (kt : TxOk w t) (hl' : l.length = n') (hnc' : n' ≤ c') (hcm' : c' ≤ maxLen) (hA' : TxsIn w A' l) (ht : Tables w) :
    Calls Tryd.prog 3 #[.slice A n c, .slice Aq m cq, txV t, .slice A' n' c'] w fun e w' => e = .returned (.bool true) ∧ Below w.heap.size w w' := by
  cases k1 : fewX t.r with
  | false => exact law_tells10_fewt H p q t l A n c Aq m cq A' n' c' w hl hnc hcm hI hA hlq hncq hcmq hIq hAq kt hl' hnc' hcm' hA' ht k1
  | true =>
    cases k2 : fewAll l 6 with
    | false => exact law_tells10_fewl H p q t l A n c Aq m cq A' n' c' w hl hnc hcm hI hA hlq hncq hcmq hIq hAq kt hl' hnc' hcm' hA' ht k1 k2
    | true =>
      by_cases k3 : 60 < n
      · exact law_tells10_manyp H p q t l A n c Aq m cq A' n' c' w hl hnc hcm hI hA hlq hncq hcmq hIq hAq kt hl' hnc' hcm' hA' ht k1 k2 k3
      · by_cases k4 : 60 < m
        · exact law_tells10_manyq H p q t l A n c Aq m cq A' n' c' w hl hnc hcm hI hA hlq hncq hcmq hIq hAq kt hl' hnc' hcm' hA' ht k1 k2 k3 k4
        · exact law_tells10_main H p q t l A n c Aq m cq A' n' c' w hl hnc hcm hI hA hlq hncq hcmq hIq hAq kt hl' hnc' hcm' hA' ht k1 k2 k3 k4
end Go.Proofs.YtabhhbdbkeeblaaDoor
namespace Go.Proofs.YtabhhbdbkeeblaaDoor.purseTells
set_option maxRecDepth 8000
open Go.ChangeShapes Go.WideShapes Go.ChangeAt Go.RowKit
theorem contract (H : Type) (enc : TypeId × Value → H) (W : World) (base : Nat) (args : Array Value) (ds gs : List (DataW H)) (before : List MemPlace)
    (hval : ∀ (j : Nat) t v, Tryd.f3.params[j]? = some t → args[j]? = some v → Value.okWide Tryd.prog W .any base t v)
    (hW : DataW.Whole enc Tryd.prog Tryd.f3.params.toList Rows.purseTellsSpec.vars false W args.toList ds gs before) (hL : laidMetH Tryd.prog Rows.purseTellsRow.laid W) :
    Calls Tryd.prog 3 args W fun e W' => ∃ v, e = .returned v ∧ Rows.purseTellsSpec.post enc Tryd.prog Tryd.f3 false true false false W args v W' := by
  have hW' := hW
  obtain ⟨p, q, hA0, hV, rfl, hfz, hnd⟩ := hW
  have hA : DataW.TrodAll enc Tryd.prog W 0 (fun _ => true) true Tryd.f3.params.toList args.toList ds p := hA0
  rw [Tryd.params3] at hA hval
  obtain ⟨v0, vs0, d0, ds0, p0, q0, hargs, rfl, rfl, h0, r0⟩ := trodAll_cons hA
  obtain ⟨v1, vs1, d1, ds1, p1, q1, rfl, rfl, rfl, h1, r1⟩ := trodAll_cons r0
  obtain ⟨v2, vs2, d2, ds2, p2, q2, rfl, rfl, rfl, h2, r2⟩ := trodAll_cons r1
  obtain ⟨v3, vs3, d3, ds3, p3, q3, rfl, rfl, rfl, h3, r3⟩ := trodAll_cons r2
  obtain ⟨rfl, rfl, rfl⟩ := trodAll_nil r3
  obtain rfl : args = #[v0, v1, v2, v3] := by cases args; simp_all
  obtain ⟨rfl, rfl⟩ := trodVars_none hV
  have lt0 : ∀ x ∈ p0, x.block < W.heap.size := by obtain ⟨m, hm⟩ := h0; exact DataW.trod_lt m _ _ _ hm
  obtain ⟨a0, n0, c0, x0, rfl, lx0, nc0, cm0, kx0, px0⟩ := open_coins (hval 0 22 v0 rfl rfl) h0
  have lt1 : ∀ x ∈ p1, x.block < W.heap.size := by obtain ⟨m, hm⟩ := h1; exact DataW.trod_lt m _ _ _ hm
  obtain ⟨a1, n1, c1, x1, rfl, lx1, nc1, cm1, kx1, px1⟩ := open_coins (hval 1 22 v1 rfl rfl) h1
  have lt2 : ∀ x ∈ p2, x.block < W.heap.size := by obtain ⟨m, hm⟩ := h2; exact DataW.trod_lt m _ _ _ hm
  obtain ⟨x2, rfl, kx2⟩ := open_tx (hval 2 26 v2 rfl rfl) h2
  have lt3 : ∀ x ∈ p3, x.block < W.heap.size := by obtain ⟨m, hm⟩ := h3; exact DataW.trod_lt m _ _ _ hm
  obtain ⟨a3, n3, c3, x3, rfl, lx3, nc3, cm3, px3⟩ := open_txs (hval 3 27 v3 rfl rfl) h3
  clear hA0
  refine (law_tells10 purseC x0 x1 x2 x3 a0 n0 c0 a1 n1 c1 a3 n3 c3 W lx0 nc0 cm0 kx0 px0 lx1 nc1 cm1 kx1 px1 kx2 lx3 nc3 cm3 px3 (tables_of_laid hL)).mono fun e W' ⟨he, bel⟩ => ?_
  subst he
  exact ⟨_, rfl, _, _, _, [], _, [], hW', trodAll_mk1 (shut_bool Tryd.underlying4 _), (trodAll_cons_mk (Below.trod laidOut (by kernel_rfl) (of_decide_eq_true (by kernel_rfl)) h0 bel lt0) (trodAll_cons_mk (Below.trod laidOut (by kernel_rfl) (of_decide_eq_true (by kernel_rfl)) h1 bel lt1) (trodAll_cons_mk (Below.trod laidOut (by kernel_rfl) (of_decide_eq_true (by kernel_rfl)) h2 bel lt2) (trodAll_cons_mk (Below.trod laidOut (by kernel_rfl) (of_decide_eq_true (by kernel_rfl)) h3 bel lt3) trodAll_mk0)))), rfl, bel.frame _, fun h => by cases h⟩
def start : Array Value := #[.slice none 0 0, .slice none 0 0, zeroX, .slice none 0 0]
theorem reads (os : Os) {H : Type} (enc : TypeId × Value → H) : ∃ places, DataW.whole enc Tryd.prog ((laidWorld os).forCall (fun _ _ => 0) ⟨#[], start, []⟩).memory Tryd.f3.params.toList Rows.purseTellsSpec.vars false start.toList 8 = some ([.nil, .nil, zeroXD, .nil], [], places) :=
  ⟨[], by kernel_rfl⟩
set_option maxRecDepth 100000 in
theorem lifted (os : Os) (started : os.Started) (H : Type) (enc : TypeId × Value → H) (F : Stop.Interp) :
    ReturnsInHanded {} Tryd.checked os 3 .any ((OpenSpec.ofChange Rows.purseTellsSpec).preRow enc Tryd.prog Tryd.f3 Rows.purseTellsRow.domain false Rows.purseTellsRow.laid) (((OpenSpec.ofChange Rows.purseTellsSpec).at F).post enc Tryd.prog Tryd.f3 false true false false) := by
  obtain ⟨places, hx⟩ := reads os enc
  refine returnsInHanded_of_row (C := Tryd.checked) (s := OpenSpec.ofChange Rows.purseTellsSpec) own started (by kernel_rfl) Tryd.func3
    (witness_row_at (enc := enc) (C := Tryd.checked) false (laidWorld os) start rfl (by kernel_rfl) (by kernel_rfl) (by kernel_rfl)
      (OpenSpec.preRow_of_cond 8 hx (by kernel_rfl) (fun k hk => by cases hk) (by kernel_rfl) (laidMet_of_run' 8 (by kernel_rfl) (by kernel_rfl)))) ?_
  intro W base args ds gs before hval hW _ _ _ hL _ _
  exact contract H enc W base args ds gs before hval hW hL
theorem said : Rows.PurseTellsSaid :=
  OpenClaim.holds_of_cond 3 Tryd.f3 rfl rfl rfl rfl rfl rfl rfl ⟨rfl, rfl, rfl, rfl, rfl⟩ rfl rfl rfl rfl rfl (by kernel_rfl) Tryd.func3 (by kernel_rfl)
    (of_decide_eq_true (by kernel_rfl)) (by unfold Func.isWrapper; first | (rw [if_pos (by decide +kernel)]; kernel_rfl) | (rw [if_neg (by decide +kernel)]; exact ⟨rfl, rfl⟩))
    (fun os started H enc _ F => by rw [OpenClaim.pre_eq_preRow]; exact lifted os started H enc F)
theorem plain (f : FuncId) (fn : Func) (hf : Tryd.pinned.checked.prog.funcNamed "stepladder/stepladderlaw10.PurseTells" = some f) (hfn : Tryd.pinned.checked.prog.funcs[f]? = some fn) :
    false = Tryd.pinned.checked.prog.looks [] ∧ ∀ (j : Nat) t, fn.params[j]? = some t → Tryd.pinned.checked.prog.wantsStandIn t = false := by
  obtain rfl : f = 3 := Option.some.inj ((show Tryd.prog.funcNamed "stepladder/stepladderlaw10.PurseTells" = some 3 by kernel_rfl).symm.trans hf) |>.symm
  obtain rfl : fn = Tryd.f3 := (Option.some.inj (Tryd.func3.symm.trans hfn)).symm
  refine ⟨by kernel_rfl, fun j t ht => ?_⟩
  rw [Tryd.params3] at ht
  have hm : t = 22 ∨ t = 22 ∨ t = 26 ∨ t = 27 := by simpa using Array.mem_of_getElem? ht
  rcases hm with rfl | rfl | rfl | rfl
  · exact (show Tryd.prog.wantsStandIn 22 = false by kernel_rfl)
  · exact (show Tryd.prog.wantsStandIn 22 = false by kernel_rfl)
  · exact (show Tryd.prog.wantsStandIn 26 = false by kernel_rfl)
  · exact (show Tryd.prog.wantsStandIn 27 = false by kernel_rfl)
theorem card : Rows.PurseTellsCardSaid :=
  Claim7.holds_tied_plain_at .later [] _ _ _ _ said (fun _ h => by cases h) (by kernel_rfl) (fun _ h => by cases h) purseTells_row_tie rfl ⟨rfl, rfl⟩ (by kernel_rfl) rfl plain (by kernel_rfl)
end Go.Proofs.YtabhhbdbkeeblaaDoor.purseTells
