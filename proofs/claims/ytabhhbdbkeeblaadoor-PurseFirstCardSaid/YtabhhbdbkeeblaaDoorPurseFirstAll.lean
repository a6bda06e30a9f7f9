/-
  PROVED: the law stepladderlaw10.PurseFirst answers true for every input, and leaves its arguments as they were.
  Conditions: the two package-level tables of package sha hold at the call what their initialisers lay; the card ties that to the text of the program (a pruned copy of the project: the packages that the roots of this seat load).
-/
import Derived.Test.YtabhhbdbkeeblaaDoorZp
namespace Go.Proofs.YtabhhbdbkeeblaaDoor
set_option maxRecDepth 8000
open Go.RowKit
theorem mayX_bad {r : TxR} {i : Nat} (hi : i < r.outs.length) (h : (r.outs.getD i noOut).v < 0 ∨ 2199023255552 < (r.outs.getD i noOut).v) : mayX r = false := by
  refine may_badOut hi (decide_eq_false ?_)
  omega
theorem worthL_wide : ∀ {l : List OutR}, (∀ o ∈ l, 0 ≤ o.v ∧ o.v ≤ 2199023255552) → 0 ≤ worthL l ∧ worthL l ≤ 2199023255552 * l.length
  | [], _ => by simp [worthL]
  | c :: p, h => by
    have h1 := worthL_wide (l := p) (fun d hd => h d (List.mem_cons_of_mem _ hd))
    have h2 := h c (List.mem_cons_self ..)
    have e : worthL (c :: p) = c.v + worthL p := by unfold worthL; rw [List.map_cons, List.sum_cons]
    rw [e, List.length_cons]
    push_cast
    omega
theorem take_all {l : List OutR} {i : Nat} {Q : OutR → Prop} (hi : i ≤ l.length) (h : ∀ j, j < i → Q (l.getD j noOut)) : ∀ o ∈ l.take i, Q o := fun o ho => by
  obtain ⟨j, hj, rfl⟩ := List.getElem_of_mem ho
  rw [List.length_take] at hj
  have := h j (by omega)
  rw [List.getD_eq_getElem?_getD, List.getElem?_eq_getElem (by omega)] at this
  rwa [List.getElem_take]
set_option maxRecDepth 20000 in
set_option maxHeartbeats 8000000 in
theorem law_first_few (H : PurseC) (p : List CoinR) (r : TxR) (A1 : Option Addr) (n1 c1 : Nat) (A2 : Option Addr) (n2 c2 : Nat) (A : Option Addr) (n c : Nat) (w : World) (hl : p.length = n) (hnc : n ≤ c) (hcm : c ≤ maxLen) (hI : okP p) (hA : CoinsIn w w.heap.size A p) (kt : TxOk w ⟨r, A1, n1, c1, A2, n2, c2⟩) (ht : Tables w) (k1 : fewX r = false) :
    Calls Tryd.prog 7 #[.slice A n c, txV ⟨r, A1, n1, c1, A2, n2, c2⟩] w fun e w' => e = .returned (.bool true) ∧ Below w.heap.size w w' := by
  have HT := Lib.hid ht
  have HH := Lib.hid H
  have HN63 : Hid (n < 9223372036854775808) := by show _ < _; unfold maxLen at hcm; omega
  have HL := Lib.hid hl
  have HNC := Lib.hid (And.intro hnc hcm)
  have HPP := Lib.hid hI
  have HAA : Hid (CoinsIn w w.heap.size A p) := hA
  have HAW : Hid (∀ u, EnvX w u [] → Calls Tryd.prog 9 #[] u fun e w' => e = .returned (.bool true) ∧ Below u.heap.size u w') := fun u hu => pawake_any H u (ht.below (EnvX.bel hu))
  have E1 : Hid (EnvX w (w.alloc (.cells (txA ⟨r, A1, n1, c1, A2, n2, c2⟩) 26)) [(w.heap.size, Obj.cells (txA ⟨r, A1, n1, c1, A2, n2, c2⟩) 26 (0, 0))]) := (EnvX.start w).new _
  have HF_t : Hid (fewX r = false) := k1
  have HM1 : Hid (n1 < 9223372036854775808) := kt.n63.1
  have HM2 : Hid (n2 < 9223372036854775808) := kt.n63.2
  have HL1 : Hid (r.ins.length = n1) := kt.l1
  have HL2 : Hid (r.outs.length = n2) := kt.l2
  have K_t := Lib.hid kt
  clear k1 kt
  clear ht H hl hnc hcm hI hA
  unfold txV
  go_enter Tryd.func7, Tryd.ntmps7
  go_upto_region 1 with (fail)
  generalize w.alloc (.cells (txA ⟨r, A1, n1, c1, A2, n2, c2⟩) 26) = W at *
  refine wp_region_Hx (w0 := w) [0, 1] [(w.heap.size, Obj.cells (txA ⟨r, A1, n1, c1, A2, n2, c2⟩) 26 (0, 0))] rfl E1.out ?_
  refine lexH_phase [0, 1] [] ?_
  have hw1 : EnvX w _ [(w.heap.size, Obj.cells (txA ⟨r, A1, n1, c1, A2, n2, c2⟩) 26 (0, 0))] := E1.out
  have hone := @EnvC.one _ _ _ hw1
  (refine wpG_call (f := 9) (args := #[]) (v := .bool true) rfl rfl rfl Tryd.func9 rfl rfl (fun u hu => HAW.out u (EnvX.sub hu (fun _ h => by cases h))) ?_ hw1; intro K hK; go_big_quiet_op; go_big_quiet_on)
  (refine wpG_op rfl rfl rfl ?_; intro K hK; go_big_quiet_op; go_big_quiet_on)
  clear hone hw1
  refine wpG_nil ?_
  intro u3 E2'
  have EX2 := Lib.hid E2'
  clear E2'
  go_upto_region 2 with (fail)
  refine wp_region_Hx (w0 := w) [0, 1, 2] [(w.heap.size, Obj.cells (txA ⟨r, A1, n1, c1, A2, n2, c2⟩) 26 (0, 0))] rfl EX2.out ?_
  refine lexH_phase [0, 1, 2] [] ?_
  have hw4 : EnvX w _ [(w.heap.size, Obj.cells (txA ⟨r, A1, n1, c1, A2, n2, c2⟩) 26 (0, 0))] := EX2.out
  have hone := @EnvC.one _ _ _ hw4
  (refine wpG_val (v := txV ⟨r, A1, n1, c1, A2, n2, c2⟩) rfl rfl (fun u hu => load_any_op u (box_tx hu (List.Mem.head _)) rfl) ?_ hw4; intro K hK; go_big_quiet_op; go_big_quiet_on)
  (refine wpG_call (f := 10) (args := #[txV ⟨r, A1, n1, c1, A2, n2, c2⟩]) (v := .bool false) rfl rfl rfl Tryd.func10 rfl rfl (fun u hu => by have h1 := few_any ⟨r, A1, n1, c1, A2, n2, c2⟩ u (K_t.out.up (EnvX.bel hu)); rwa [HF_t.out] at h1) ?_ hw4; intro K hK; go_big_quiet_op; go_big_quiet_on)
  (refine wpG_op rfl rfl rfl ?_; intro K hK; go_big_quiet_op; go_big_quiet_on)
  clear hone hw4
  refine wpG_nil ?_
  intro u6 E2'
  have EX5 := Lib.hid E2'
  clear E2'
  go_upto_region 3 with (fail)
  refine wp_region_Hx (w0 := w) [0, 1, 2, 3, 4, 5, 6, 7, 8, 9, 10, 11, 12, 13, 14, 15, 16] [(w.heap.size, Obj.cells (txA ⟨r, A1, n1, c1, A2, n2, c2⟩) 26 (0, 0))] rfl EX5.out ?_
  refine lexH_phase [0, 1, 2, 3, 4, 5, 6, 7, 8, 9, 10, 11, 12, 13, 14, 15, 16] [] ?_
  have hw7 : EnvX w _ [(w.heap.size, Obj.cells (txA ⟨r, A1, n1, c1, A2, n2, c2⟩) 26 (0, 0))] := EX5.out
  have hone := @EnvC.one _ _ _ hw7
  iterate 7 (refine wpG_op rfl rfl rfl ?_; intro K hK; go_big_quiet_op; go_big_quiet_on)
  iterate 3 (refine wpG_skip rfl rfl ?_ hw7; intro K hK; go_big_quiet_op; go_big_quiet_on)
  iterate 2 (refine wpG_op rfl rfl rfl ?_; intro K hK; go_big_quiet_op; go_big_quiet_on)
  iterate 4 (refine wpG_skip rfl rfl ?_ hw7; intro K hK; go_big_quiet_op; go_big_quiet_on)
  (refine wpG_op rfl rfl rfl ?_; intro K hK; go_big_quiet_op; go_big_quiet_on)
  clear hone hw7
  refine wpG_nil ?_
  intro u9 E2'
  have EX8 := Lib.hid E2'
  clear E2'
  go_upto_region 4 with (fail)
  refine wp_region_Hx (w0 := w) [0, 1] [(w.heap.size, Obj.cells (txA ⟨r, A1, n1, c1, A2, n2, c2⟩) 26 (0, 0))] rfl EX8.out ?_
  refine lexH_phase [0, 1] [] ?_
  have hw10 : EnvX w _ [(w.heap.size, Obj.cells (txA ⟨r, A1, n1, c1, A2, n2, c2⟩) 26 (0, 0))] := EX8.out
  have hone := @EnvC.one _ _ _ hw10
  iterate 2 (refine wpG_op rfl rfl rfl ?_; intro K hK; go_big_quiet_op; go_big_quiet_on)
  clear hone hw10
  refine wpG_nil ?_
  intro u12 E2'
  have EX11 := Lib.hid E2'
  clear E2'
  have HBE := Lib.hid (EnvX.bel EX11.out)
  go_wp2
  go_ret
  exact ⟨rfl, HBE.out⟩
set_option maxRecDepth 20000 in
set_option maxHeartbeats 8000000 in
theorem law_first_may (H : PurseC) (p : List CoinR) (r : TxR) (A1 : Option Addr) (n1 c1 : Nat) (A2 : Option Addr) (n2 c2 : Nat) (A : Option Addr) (n c : Nat) (w : World) (hl : p.length = n) (hnc : n ≤ c) (hcm : c ≤ maxLen) (hI : okP p) (hA : CoinsIn w w.heap.size A p) (kt : TxOk w ⟨r, A1, n1, c1, A2, n2, c2⟩) (ht : Tables w) (k1 : fewX r = true) (k3 : mayP p = false) :
    Calls Tryd.prog 7 #[.slice A n c, txV ⟨r, A1, n1, c1, A2, n2, c2⟩] w fun e w' => e = .returned (.bool true) ∧ Below w.heap.size w w' := by
  have HT := Lib.hid ht
  have HH := Lib.hid H
  have HN63 : Hid (n < 9223372036854775808) := by show _ < _; unfold maxLen at hcm; omega
  have HL := Lib.hid hl
  have HNC := Lib.hid (And.intro hnc hcm)
  have HPP := Lib.hid hI
  have HAA : Hid (CoinsIn w w.heap.size A p) := hA
  have HAW : Hid (∀ u, EnvX w u [] → Calls Tryd.prog 9 #[] u fun e w' => e = .returned (.bool true) ∧ Below u.heap.size u w') := fun u hu => pawake_any H u (ht.below (EnvX.bel hu))
  have E1 : Hid (EnvX w (w.alloc (.cells (txA ⟨r, A1, n1, c1, A2, n2, c2⟩) 26)) [(w.heap.size, Obj.cells (txA ⟨r, A1, n1, c1, A2, n2, c2⟩) 26 (0, 0))]) := (EnvX.start w).new _
  have HF_t : Hid (fewX r = true) := k1
  have HM1 : Hid (n1 < 9223372036854775808) := kt.n63.1
  have HM2 : Hid (n2 < 9223372036854775808) := kt.n63.2
  have HL1 : Hid (r.ins.length = n1) := kt.l1
  have HL2 : Hid (r.outs.length = n2) := kt.l2
  have HF_p : Hid (mayP p = false) := k3
  have HMY : Hid (∀ u, Below w.heap.size w u → Calls Tryd.prog 20 #[.slice A n c] u fun e w' => e = .returned (.bool false) ∧ Below u.heap.size u w') := fun u hu => by
    have h := HH.out.may p A n c u HL.out HNC.out.1 HNC.out.2 HPP.out (CellsIn.up HAA.out hu) (HT.out.below hu)
    rwa [HF_p.out] at h
  have K_t := Lib.hid kt
  clear k1 k3 kt
  clear ht H hl hnc hcm hI hA
  unfold txV
  go_enter Tryd.func7, Tryd.ntmps7
  go_upto_region 1 with (fail)
  generalize w.alloc (.cells (txA ⟨r, A1, n1, c1, A2, n2, c2⟩) 26) = W at *
  refine wp_region_Hx (w0 := w) [0, 1] [(w.heap.size, Obj.cells (txA ⟨r, A1, n1, c1, A2, n2, c2⟩) 26 (0, 0))] rfl E1.out ?_
  refine lexH_phase [0, 1] [] ?_
  have hw1 : EnvX w _ [(w.heap.size, Obj.cells (txA ⟨r, A1, n1, c1, A2, n2, c2⟩) 26 (0, 0))] := E1.out
  have hone := @EnvC.one _ _ _ hw1
  (refine wpG_call (f := 9) (args := #[]) (v := .bool true) rfl rfl rfl Tryd.func9 rfl rfl (fun u hu => HAW.out u (EnvX.sub hu (fun _ h => by cases h))) ?_ hw1; intro K hK; go_big_quiet_op; go_big_quiet_on)
  (refine wpG_op rfl rfl rfl ?_; intro K hK; go_big_quiet_op; go_big_quiet_on)
  clear hone hw1
  refine wpG_nil ?_
  intro u3 E2'
  have EX2 := Lib.hid E2'
  clear E2'
  go_upto_region 2 with (fail)
  refine wp_region_Hx (w0 := w) [0, 1, 2] [(w.heap.size, Obj.cells (txA ⟨r, A1, n1, c1, A2, n2, c2⟩) 26 (0, 0))] rfl EX2.out ?_
  refine lexH_phase [0, 1, 2] [] ?_
  have hw4 : EnvX w _ [(w.heap.size, Obj.cells (txA ⟨r, A1, n1, c1, A2, n2, c2⟩) 26 (0, 0))] := EX2.out
  have hone := @EnvC.one _ _ _ hw4
  (refine wpG_val (v := txV ⟨r, A1, n1, c1, A2, n2, c2⟩) rfl rfl (fun u hu => load_any_op u (box_tx hu (List.Mem.head _)) rfl) ?_ hw4; intro K hK; go_big_quiet_op; go_big_quiet_on)
  (refine wpG_call (f := 10) (args := #[txV ⟨r, A1, n1, c1, A2, n2, c2⟩]) (v := .bool true) rfl rfl rfl Tryd.func10 rfl rfl (fun u hu => by have h1 := few_any ⟨r, A1, n1, c1, A2, n2, c2⟩ u (K_t.out.up (EnvX.bel hu)); rwa [HF_t.out] at h1) ?_ hw4; intro K hK; go_big_quiet_op; go_big_quiet_on)
  (refine wpG_op rfl rfl rfl ?_; intro K hK; go_big_quiet_op; go_big_quiet_on)
  clear hone hw4
  refine wpG_nil ?_
  intro u6 E2'
  have EX5 := Lib.hid E2'
  clear E2'
  go_upto_region 3 with (fail)
  refine wp_region_Hx (w0 := w) [0, 1, 2, 3, 4, 5, 6, 7, 8, 9, 10, 11, 12, 13, 14, 15, 16] [(w.heap.size, Obj.cells (txA ⟨r, A1, n1, c1, A2, n2, c2⟩) 26 (0, 0))] rfl EX5.out ?_
  refine lexH_phase [0, 1, 2, 3, 4, 5, 6, 7, 8, 9, 10, 11, 12, 13, 14, 15, 16] [] ?_
  have hw7 : EnvX w _ [(w.heap.size, Obj.cells (txA ⟨r, A1, n1, c1, A2, n2, c2⟩) 26 (0, 0))] := EX5.out
  have hone := @EnvC.one _ _ _ hw7
  iterate 8 (refine wpG_op rfl rfl rfl ?_; intro K hK; go_big_quiet_op; go_big_quiet_on)
  (refine wpG_call (f := 20) (args := #[.slice A n c]) (v := .bool false) rfl rfl rfl Tryd.func20 rfl rfl (fun u hu => HMY.out u (EnvX.bel hu)) ?_ hw7; intro K hK; go_big_quiet_op; go_big_quiet_on)
  iterate 3 (refine wpG_op rfl rfl rfl ?_; intro K hK; go_big_quiet_op; go_big_quiet_on)
  iterate 4 (refine wpG_skip rfl rfl ?_ hw7; intro K hK; go_big_quiet_op; go_big_quiet_on)
  (refine wpG_op rfl rfl rfl ?_; intro K hK; go_big_quiet_op; go_big_quiet_on)
  clear hone hw7
  refine wpG_nil ?_
  intro u9 E2'
  have EX8 := Lib.hid E2'
  clear E2'
  go_upto_region 4 with (fail)
  refine wp_region_Hx (w0 := w) [0, 1] [(w.heap.size, Obj.cells (txA ⟨r, A1, n1, c1, A2, n2, c2⟩) 26 (0, 0))] rfl EX8.out ?_
  refine lexH_phase [0, 1] [] ?_
  have hw10 : EnvX w _ [(w.heap.size, Obj.cells (txA ⟨r, A1, n1, c1, A2, n2, c2⟩) 26 (0, 0))] := EX8.out
  have hone := @EnvC.one _ _ _ hw10
  iterate 2 (refine wpG_op rfl rfl rfl ?_; intro K hK; go_big_quiet_op; go_big_quiet_on)
  clear hone hw10
  refine wpG_nil ?_
  intro u12 E2'
  have EX11 := Lib.hid E2'
  clear E2'
  have HBE := Lib.hid (EnvX.bel EX11.out)
  go_wp2
  go_ret
  exact ⟨rfl, HBE.out⟩
set_option maxRecDepth 20000 in
set_option maxHeartbeats 8000000 in
theorem law_first_ins (H : PurseC) (p : List CoinR) (r : TxR) (A1 : Option Addr) (n1 c1 : Nat) (A2 : Option Addr) (n2 c2 : Nat) (A : Option Addr) (n c : Nat) (w : World) (hl : p.length = n) (hnc : n ≤ c) (hcm : c ≤ maxLen) (hI : okP p) (hA : CoinsIn w w.heap.size A p) (kt : TxOk w ⟨r, A1, n1, c1, A2, n2, c2⟩) (ht : Tables w) (k1 : fewX r = true) (k3 : mayP p = true) (k4 : 0 < n1) :
    Calls Tryd.prog 7 #[.slice A n c, txV ⟨r, A1, n1, c1, A2, n2, c2⟩] w fun e w' => e = .returned (.bool true) ∧ Below w.heap.size w w' := by
  have HT := Lib.hid ht
  have HH := Lib.hid H
  have HN63 : Hid (n < 9223372036854775808) := by show _ < _; unfold maxLen at hcm; omega
  have HL := Lib.hid hl
  have HNC := Lib.hid (And.intro hnc hcm)
  have HPP := Lib.hid hI
  have HAA : Hid (CoinsIn w w.heap.size A p) := hA
  have HAW : Hid (∀ u, EnvX w u [] → Calls Tryd.prog 9 #[] u fun e w' => e = .returned (.bool true) ∧ Below u.heap.size u w') := fun u hu => pawake_any H u (ht.below (EnvX.bel hu))
  have E1 : Hid (EnvX w (w.alloc (.cells (txA ⟨r, A1, n1, c1, A2, n2, c2⟩) 26)) [(w.heap.size, Obj.cells (txA ⟨r, A1, n1, c1, A2, n2, c2⟩) 26 (0, 0))]) := (EnvX.start w).new _
  have HF_t : Hid (fewX r = true) := k1
  have HM1 : Hid (n1 < 9223372036854775808) := kt.n63.1
  have HM2 : Hid (n2 < 9223372036854775808) := kt.n63.2
  have HL1 : Hid (r.ins.length = n1) := kt.l1
  have HL2 : Hid (r.outs.length = n2) := kt.l2
  have HF_p : Hid (mayP p = true) := k3
  have HMY : Hid (∀ u, Below w.heap.size w u → Calls Tryd.prog 20 #[.slice A n c] u fun e w' => e = .returned (.bool true) ∧ Below u.heap.size u w') := fun u hu => by
    have h := HH.out.may p A n c u HL.out HNC.out.1 HNC.out.2 HPP.out (CellsIn.up HAA.out hu) (HT.out.below hu)
    rwa [HF_p.out] at h
  have D15 : Hid (decide ((0 : Int) < (n1 : Int)) = true) := decide_eq_true (by omega)
  have _ := k4
  have K_t := Lib.hid kt
  clear k1 k3 k4 kt
  clear ht H hl hnc hcm hI hA
  unfold txV
  go_enter Tryd.func7, Tryd.ntmps7
  go_upto_region 1 with (fail)
  generalize w.alloc (.cells (txA ⟨r, A1, n1, c1, A2, n2, c2⟩) 26) = W at *
  refine wp_region_Hx (w0 := w) [0, 1] [(w.heap.size, Obj.cells (txA ⟨r, A1, n1, c1, A2, n2, c2⟩) 26 (0, 0))] rfl E1.out ?_
  refine lexH_phase [0, 1] [] ?_
  have hw1 : EnvX w _ [(w.heap.size, Obj.cells (txA ⟨r, A1, n1, c1, A2, n2, c2⟩) 26 (0, 0))] := E1.out
  have hone := @EnvC.one _ _ _ hw1
  (refine wpG_call (f := 9) (args := #[]) (v := .bool true) rfl rfl rfl Tryd.func9 rfl rfl (fun u hu => HAW.out u (EnvX.sub hu (fun _ h => by cases h))) ?_ hw1; intro K hK; go_big_quiet_op; go_big_quiet_on)
  (refine wpG_op rfl rfl rfl ?_; intro K hK; go_big_quiet_op; go_big_quiet_on)
  clear hone hw1
  refine wpG_nil ?_
  intro u3 E2'
  have EX2 := Lib.hid E2'
  clear E2'
  go_upto_region 2 with (fail)
  refine wp_region_Hx (w0 := w) [0, 1, 2] [(w.heap.size, Obj.cells (txA ⟨r, A1, n1, c1, A2, n2, c2⟩) 26 (0, 0))] rfl EX2.out ?_
  refine lexH_phase [0, 1, 2] [] ?_
  have hw4 : EnvX w _ [(w.heap.size, Obj.cells (txA ⟨r, A1, n1, c1, A2, n2, c2⟩) 26 (0, 0))] := EX2.out
  have hone := @EnvC.one _ _ _ hw4
  (refine wpG_val (v := txV ⟨r, A1, n1, c1, A2, n2, c2⟩) rfl rfl (fun u hu => load_any_op u (box_tx hu (List.Mem.head _)) rfl) ?_ hw4; intro K hK; go_big_quiet_op; go_big_quiet_on)
  (refine wpG_call (f := 10) (args := #[txV ⟨r, A1, n1, c1, A2, n2, c2⟩]) (v := .bool true) rfl rfl rfl Tryd.func10 rfl rfl (fun u hu => by have h1 := few_any ⟨r, A1, n1, c1, A2, n2, c2⟩ u (K_t.out.up (EnvX.bel hu)); rwa [HF_t.out] at h1) ?_ hw4; intro K hK; go_big_quiet_op; go_big_quiet_on)
  (refine wpG_op rfl rfl rfl ?_; intro K hK; go_big_quiet_op; go_big_quiet_on)
  clear hone hw4
  refine wpG_nil ?_
  intro u6 E2'
  have EX5 := Lib.hid E2'
  clear E2'
  go_upto_region 3 with (fail)
  refine wp_region_Hx (w0 := w) [0, 1, 2, 3, 4, 5, 6, 7, 8, 9, 10, 11, 12, 13, 14, 15, 16] [(w.heap.size, Obj.cells (txA ⟨r, A1, n1, c1, A2, n2, c2⟩) 26 (0, 0))] rfl EX5.out ?_
  refine lexH_phase [0, 1, 2, 3, 4, 5, 6, 7, 8, 9, 10, 11, 12, 13, 14, 15, 16] [] ?_
  have hw7 : EnvX w _ [(w.heap.size, Obj.cells (txA ⟨r, A1, n1, c1, A2, n2, c2⟩) 26 (0, 0))] := EX5.out
  have hone := @EnvC.one _ _ _ hw7
  iterate 8 (refine wpG_op rfl rfl rfl ?_; intro K hK; go_big_quiet_op; go_big_quiet_on)
  (refine wpG_call (f := 20) (args := #[.slice A n c]) (v := .bool true) rfl rfl rfl Tryd.func20 rfl rfl (fun u hu => HMY.out u (EnvX.bel hu)) ?_ hw7; intro K hK; go_big_quiet_op; go_big_quiet_on)
  iterate 3 (refine wpG_op rfl rfl rfl ?_; intro K hK; go_big_quiet_op; go_big_quiet_on)
  (refine wpG_val (v := .pointer (some ⟨w.heap.size, 0, none⟩)) rfl rfl (fun u hu => fieldTx_op (k := 0) (off := 0) (ad := ⟨w.heap.size, 0, none⟩) rfl u rfl) ?_ hw7; intro K hK; go_big_quiet_op; go_big_quiet_on)
  (refine wpG_val (v := .slice A1 n1 c1) rfl rfl (fun u hu => load_any_op u (box_tx_ins hu (List.Mem.head _)) rfl) ?_ hw7; intro K hK; go_big_quiet_op; go_big_quiet_on)
  (refine wpG_val (v := .int .i64 (n1 : Int)) rfl rfl (fun u hu => len_op Tryd.underlying23 HM1.out u rfl) ?_ hw7; intro K hK; go_big_quiet_op; go_big_quiet_on)
  (refine wpG_val (v := .bool true) rfl rfl (fun u hu => gtZ_op u D15.out rfl rfl) ?_ hw7; intro K hK; go_big_quiet_op; go_big_quiet_on)
  (refine wpG_op rfl rfl rfl ?_; intro K hK; go_big_quiet_op; go_big_quiet_on)
  clear hone hw7
  refine wpG_nil ?_
  intro u9 E2'
  have EX8 := Lib.hid E2'
  clear E2'
  go_upto_region 4 with (fail)
  refine wp_region_Hx (w0 := w) [0, 1] [(w.heap.size, Obj.cells (txA ⟨r, A1, n1, c1, A2, n2, c2⟩) 26 (0, 0))] rfl EX8.out ?_
  refine lexH_phase [0, 1] [] ?_
  have hw10 : EnvX w _ [(w.heap.size, Obj.cells (txA ⟨r, A1, n1, c1, A2, n2, c2⟩) 26 (0, 0))] := EX8.out
  have hone := @EnvC.one _ _ _ hw10
  iterate 2 (refine wpG_op rfl rfl rfl ?_; intro K hK; go_big_quiet_op; go_big_quiet_on)
  clear hone hw10
  refine wpG_nil ?_
  intro u12 E2'
  have EX11 := Lib.hid E2'
  clear E2'
  have HBE := Lib.hid (EnvX.bel EX11.out)
  go_wp2
  go_ret
  exact ⟨rfl, HBE.out⟩
set_option maxRecDepth 20000 in
set_option maxHeartbeats 8000000 in
theorem law_first_main (H : PurseC) (p : List CoinR) (r : TxR) (A1 : Option Addr) (n1 c1 : Nat) (A2 : Option Addr) (n2 c2 : Nat) (A : Option Addr) (n c : Nat) (w : World) (hl : p.length = n) (hnc : n ≤ c) (hcm : c ≤ maxLen) (hI : okP p) (hA : CoinsIn w w.heap.size A p) (kt : TxOk w ⟨r, A1, n1, c1, A2, n2, c2⟩) (ht : Tables w) (k1 : fewX r = true) (k3 : mayP p = true) (k4 : n1 = 0) :
    Calls Tryd.prog 7 #[.slice A n c, txV ⟨r, A1, n1, c1, A2, n2, c2⟩] w fun e w' => e = .returned (.bool true) ∧ Below w.heap.size w w' := by
  have HT := Lib.hid ht
  have HH := Lib.hid H
  have HN63 : Hid (n < 9223372036854775808) := by show _ < _; unfold maxLen at hcm; omega
  have HL := Lib.hid hl
  have HNC := Lib.hid (And.intro hnc hcm)
  have HPP := Lib.hid hI
  have HAA : Hid (CoinsIn w w.heap.size A p) := hA
  have HAW : Hid (∀ u, EnvX w u [] → Calls Tryd.prog 9 #[] u fun e w' => e = .returned (.bool true) ∧ Below u.heap.size u w') := fun u hu => pawake_any H u (ht.below (EnvX.bel hu))
  have E1 : Hid (EnvX w (w.alloc (.cells (txA ⟨r, A1, n1, c1, A2, n2, c2⟩) 26)) [(w.heap.size, Obj.cells (txA ⟨r, A1, n1, c1, A2, n2, c2⟩) 26 (0, 0))]) := (EnvX.start w).new _
  have HF_t : Hid (fewX r = true) := k1
  have HM1 : Hid (n1 < 9223372036854775808) := kt.n63.1
  have HM2 : Hid (n2 < 9223372036854775808) := kt.n63.2
  have HL1 : Hid (r.ins.length = n1) := kt.l1
  have HL2 : Hid (r.outs.length = n2) := kt.l2
  have HF_p : Hid (mayP p = true) := k3
  have HMY : Hid (∀ u, Below w.heap.size w u → Calls Tryd.prog 20 #[.slice A n c] u fun e w' => e = .returned (.bool true) ∧ Below u.heap.size u w') := fun u hu => by
    have h := HH.out.may p A n c u HL.out HNC.out.1 HNC.out.2 HPP.out (CellsIn.up HAA.out hu) (HT.out.below hu)
    rwa [HF_p.out] at h
  have D15 : Hid (decide ((0 : Int) < (n1 : Int)) = false) := decide_eq_false (by omega)
  have HINS : Hid (r.ins = []) := List.eq_nil_of_length_eq_zero (by rw [HL1.out]; exact k4)
  have K_t := Lib.hid kt
  clear k1 k3 k4 kt
  clear ht H hl hnc hcm hI hA
  unfold txV
  go_enter Tryd.func7, Tryd.ntmps7
  go_upto_region 1 with (fail)
  generalize w.alloc (.cells (txA ⟨r, A1, n1, c1, A2, n2, c2⟩) 26) = W at *
  refine wp_region_Hx (w0 := w) [0, 1] [(w.heap.size, Obj.cells (txA ⟨r, A1, n1, c1, A2, n2, c2⟩) 26 (0, 0))] rfl E1.out ?_
  refine lexH_phase [0, 1] [] ?_
  have hw1 : EnvX w _ [(w.heap.size, Obj.cells (txA ⟨r, A1, n1, c1, A2, n2, c2⟩) 26 (0, 0))] := E1.out
  have hone := @EnvC.one _ _ _ hw1
  (refine wpG_call (f := 9) (args := #[]) (v := .bool true) rfl rfl rfl Tryd.func9 rfl rfl (fun u hu => HAW.out u (EnvX.sub hu (fun _ h => by cases h))) ?_ hw1; intro K hK; go_big_quiet_op; go_big_quiet_on)
  (refine wpG_op rfl rfl rfl ?_; intro K hK; go_big_quiet_op; go_big_quiet_on)
  clear hone hw1
  refine wpG_nil ?_
  intro u3 E2'
  have EX2 := Lib.hid E2'
  clear E2'
  go_upto_region 2 with (fail)
  refine wp_region_Hx (w0 := w) [0, 1, 2] [(w.heap.size, Obj.cells (txA ⟨r, A1, n1, c1, A2, n2, c2⟩) 26 (0, 0))] rfl EX2.out ?_
  refine lexH_phase [0, 1, 2] [] ?_
  have hw4 : EnvX w _ [(w.heap.size, Obj.cells (txA ⟨r, A1, n1, c1, A2, n2, c2⟩) 26 (0, 0))] := EX2.out
  have hone := @EnvC.one _ _ _ hw4
  (refine wpG_val (v := txV ⟨r, A1, n1, c1, A2, n2, c2⟩) rfl rfl (fun u hu => load_any_op u (box_tx hu (List.Mem.head _)) rfl) ?_ hw4; intro K hK; go_big_quiet_op; go_big_quiet_on)
  (refine wpG_call (f := 10) (args := #[txV ⟨r, A1, n1, c1, A2, n2, c2⟩]) (v := .bool true) rfl rfl rfl Tryd.func10 rfl rfl (fun u hu => by have h1 := few_any ⟨r, A1, n1, c1, A2, n2, c2⟩ u (K_t.out.up (EnvX.bel hu)); rwa [HF_t.out] at h1) ?_ hw4; intro K hK; go_big_quiet_op; go_big_quiet_on)
  (refine wpG_op rfl rfl rfl ?_; intro K hK; go_big_quiet_op; go_big_quiet_on)
  clear hone hw4
  refine wpG_nil ?_
  intro u6 E2'
  have EX5 := Lib.hid E2'
  clear E2'
  go_upto_region 3 with (fail)
  refine wp_region_Hx (w0 := w) [0, 1, 2, 3, 4, 5, 6, 7, 8, 9, 10, 11, 12, 13, 14, 15, 16] [(w.heap.size, Obj.cells (txA ⟨r, A1, n1, c1, A2, n2, c2⟩) 26 (0, 0))] rfl EX5.out ?_
  refine lexH_phase [0, 1, 2, 3, 4, 5, 6, 7, 8, 9, 10, 11, 12, 13, 14, 15, 16] [] ?_
  have hw7 : EnvX w _ [(w.heap.size, Obj.cells (txA ⟨r, A1, n1, c1, A2, n2, c2⟩) 26 (0, 0))] := EX5.out
  have hone := @EnvC.one _ _ _ hw7
  iterate 8 (refine wpG_op rfl rfl rfl ?_; intro K hK; go_big_quiet_op; go_big_quiet_on)
  (refine wpG_call (f := 20) (args := #[.slice A n c]) (v := .bool true) rfl rfl rfl Tryd.func20 rfl rfl (fun u hu => HMY.out u (EnvX.bel hu)) ?_ hw7; intro K hK; go_big_quiet_op; go_big_quiet_on)
  iterate 3 (refine wpG_op rfl rfl rfl ?_; intro K hK; go_big_quiet_op; go_big_quiet_on)
  (refine wpG_val (v := .pointer (some ⟨w.heap.size, 0, none⟩)) rfl rfl (fun u hu => fieldTx_op (k := 0) (off := 0) (ad := ⟨w.heap.size, 0, none⟩) rfl u rfl) ?_ hw7; intro K hK; go_big_quiet_op; go_big_quiet_on)
  (refine wpG_val (v := .slice A1 n1 c1) rfl rfl (fun u hu => load_any_op u (box_tx_ins hu (List.Mem.head _)) rfl) ?_ hw7; intro K hK; go_big_quiet_op; go_big_quiet_on)
  (refine wpG_val (v := .int .i64 (n1 : Int)) rfl rfl (fun u hu => len_op Tryd.underlying23 HM1.out u rfl) ?_ hw7; intro K hK; go_big_quiet_op; go_big_quiet_on)
  (refine wpG_val (v := .bool false) rfl rfl (fun u hu => gtZ_op u D15.out rfl rfl) ?_ hw7; intro K hK; go_big_quiet_op; go_big_quiet_on)
  (refine wpG_op rfl rfl rfl ?_; intro K hK; go_big_quiet_op; go_big_quiet_on)
  clear hone hw7
  refine wpG_nil ?_
  intro u9 E2'
  have EX8 := Lib.hid E2'
  clear E2'
  have hn48 := (mayP_iff.1 HF_p.out).1
  rw [HL.out] at hn48
  have HN48 : Hid (n ≤ 1000 ∧ n ≤ 48) := by show _ ∧ _; omega
  have HO6 : Hid (n2 ≤ 6) := by
    have h := HF_t.out
    unfold fewX at h
    rw [decide_eq_true_eq, HL2.out] at h
    exact h.2
  rcases hap : applyP p [r] with ⟨d, e⟩
  have haa := apply_all HPP.out.id HF_p.out [r]
  have haf := apply_first HF_p.out HINS.out
  rw [hap] at haa haf
  simp only at haa
  have HDO : Hid (okP d) := okP_of haa.2.1 (mayP_iff.1 haa.1).2.1
  have HD48 : Hid (d.length ≤ 1000) := by have := (mayP_iff.1 haa.1).1; show _ ≤ _; omega
  have HDA := Lib.hid haa
  have HAP := Lib.hid hap
  have HARG : Hid (mayX r = false → e = 1 ∧ d = p) := fun h => by
    rw [if_pos h] at haf
    cases haf
    exact ⟨rfl, rfl⟩
  have HALL : Hid ((e = 0 ∧ mayX r = true ∧ worthX r ≤ 50 ∧ d.length = p.length + r.outs.length ∧ sumV d = sumV p + worthX r) ∨ (e ≠ 0 ∧ d = p ∧ (50 < worthX r ∨ e = 1 ∨ e = 10 ∨ e = 11))) := by
    show _ ∨ _
    cases hm : mayX r with
    | false => exact .inr ⟨by rw [(HARG.out hm).1]; decide, (HARG.out hm).2, .inr (.inl (HARG.out hm).1)⟩
    | true =>
      rw [if_neg (by rw [hm]; decide)] at haf
      split at haf
      · cases haf; exact .inr ⟨by decide, rfl, .inr (.inr (.inl rfl))⟩
      · split at haf
        · rename_i h; cases haf; exact .inr ⟨by decide, rfl, .inl h⟩
        · rename_i h
          split at haf
          · cases haf; exact .inr ⟨by decide, rfl, .inr (.inr (.inr rfl))⟩
          · cases haf
            exact .inl ⟨rfl, rfl, by omega, made_len _ _, by rw [made_sum]; omega⟩
  have b1 := sumV_bound (mayP_iff.1 HF_p.out).2.1
  have HSB : Hid (0 ≤ sumV p ∧ sumV p ≤ 52776558133248) := by show _ ∧ _; rw [HL.out] at b1; omega
  clear hn48 hap haa haf b1
  go_upto_region 5 with (fail)
  refine wp_region_Hx (w0 := w) [0, 1, 2, 3, 4, 5, 6, 7, 8] [(w.heap.size, Obj.cells (txA ⟨r, A1, n1, c1, A2, n2, c2⟩) 26 (0, 0))] rfl EX8.out ?_
  refine lexH_phase [0, 1] [2, 3, 4, 5, 6, 7, 8] ?_
  have hw10 : EnvX w _ [(w.heap.size, Obj.cells (txA ⟨r, A1, n1, c1, A2, n2, c2⟩) 26 (0, 0))] := EX8.out
  have hone := @EnvC.one _ _ _ hw10
  (refine wpG_op rfl rfl rfl ?_; intro K hK; go_big_quiet_op; go_big_quiet_on)
  (refine wpG_val (v := .agg (txC ⟨r, A1, n1, c1, A2, n2, c2⟩).toArray) rfl rfl (fun u hu => load_any_op u (box_tx hu (List.Mem.head _)) rfl) ?_ hw10; intro K hK; go_big_quiet_op; go_big_quiet_on)
  clear hone hw10
  refine wpG_nil ?_
  refine (hOp_fresh (R := BuiltR 26 (txC ⟨r, A1, n1, c1, A2, n2, c2⟩)) (M0 := [(w.heap.size, Obj.cells (txA ⟨r, A1, n1, c1, A2, n2, c2⟩) 26 (0, 0))]) rfl rfl (fun _ h => h) (fun u hu => FAt_buildR elTx rfl (txC_one _) rfl u) ?_)
  rintro _ _ ⟨gl, rfl, rfl⟩ hf he11; intro K' hK'; go_big_quiet_op; go_big_quiet_on
  clear hf
  change lexH _ _ _ _ _ _ [(gl, Obj.cells (txC ⟨r, A1, n1, c1, A2, n2, c2⟩).toArray 26 (0, 0)), (w.heap.size, Obj.cells (txA ⟨r, A1, n1, c1, A2, n2, c2⟩) 26 (0, 0))]
  refine (hOp_turn (gd := none) (R := fun x M' => ∃ A c N, x = .tuple #[.slice A (d).length c, .int .i64 ((e : Nat) : Int)] ∧ M' = N ++ [(gl, Obj.cells (txC ⟨r, A1, n1, c1, A2, n2, c2⟩).toArray 26 (0, 0)), (w.heap.size, Obj.cells (txA ⟨r, A1, n1, c1, A2, n2, c2⟩) 26 (0, 0))] ∧ ((d).length ≤ c ∧ c ≤ maxLen) ∧ CoB (d) A N) rfl rfl rfl rfl (fun u hu => OUpon_call (fid := 14) (xs := #[.tmp 33, .tmp 35]) (args := #[.slice A n c, .slice (some ⟨gl, 0, none⟩) 1 1]) rfl Tryd.func14 rfl rfl u (co_turn2 (by have h := HH.out.apply p A n c [⟨r, A1, n1, c1, A2, n2, c2⟩] (some ⟨gl, 0, none⟩) 1 1 u HL.out HN48.out.1 HNC.out.1 HNC.out.2 HPP.out (CellsIn.up HAA.out (EnvX.bel hu)) rfl (by decide) (Nat.le_refl _) (by decide) ⟨cells_box hu (List.Mem.head _) rfl, fun t ht => by cases List.mem_singleton.1 ht; exact K_t.out.up (EnvX.bel hu)⟩ (fun t ht => by cases List.mem_singleton.1 ht; exact HF_t.out) (HT.out.below (EnvX.bel hu)); rwa [show rsT [(⟨r, A1, n1, c1, A2, n2, c2⟩ : TxM)] = [r] from rfl, HAP.out] at h) hu)) ?_)
  rintro _ _ ⟨A3, c3, N3, rfl, rfl, hc3, hb3⟩ he12; intro K' hK'; go_big_quiet_op; go_big_quiet_on
  have HC3 := Lib.hid hc3
  have HB3 := Lib.hid hb3
  clear hc3 hb3
  change lexH _ _ _ _ _ _ (N3 ++ ((gl, Obj.cells (txC ⟨r, A1, n1, c1, A2, n2, c2⟩).toArray 26 (0, 0)) :: ((w.heap.size, Obj.cells (txA ⟨r, A1, n1, c1, A2, n2, c2⟩) 26 (0, 0)) :: [])))
  refine lexH_phase [4, 5, 6, 7, 8] [] ?_
  have hw13 : EnvX w _ (N3 ++ ((gl, Obj.cells (txC ⟨r, A1, n1, c1, A2, n2, c2⟩).toArray 26 (0, 0)) :: ((w.heap.size, Obj.cells (txA ⟨r, A1, n1, c1, A2, n2, c2⟩) 26 (0, 0)) :: []))) := he12.choose_spec
  have hone := @EnvC.one _ _ _ hw13
  iterate 5 (refine wpG_op rfl rfl rfl ?_; intro K hK; go_big_quiet_op; go_big_quiet_on)
  clear hone hw13
  refine wpG_nil ?_
  intro u15 E2'
  have EX14 := Lib.hid E2'
  clear E2'
  have HINV : Hid (EnvX w u15 (N3 ++ ((w.heap.size, Obj.cells (txA ⟨r, A1, n1, c1, A2, n2, c2⟩) 26 (0, 0)) :: []))) := EX14.out.sub (by
    intro y hy
    simp only [List.mem_append, List.mem_cons, List.not_mem_nil, or_false] at *
    rcases hy with h | h
    · exact .inl h
    · exact .inr (.inr h))
  clear EX14
  go_upto_region 8 with (fail)
  go_loopw [9, 10] (fun nv iv u => ∃ i : Nat, i ≤ n2 ∧ iv = .int .i64 (i : Int) ∧ nv = .int .i64 (worthL (r.outs.take i)) ∧ Hid ((∀ j, j < i → 0 ≤ (r.outs.getD j noOut).v ∧ (r.outs.getD j noOut).v ≤ 2199023255552) ∧ EnvX w u (N3 ++ ((w.heap.size, Obj.cells (txA ⟨r, A1, n1, c1, A2, n2, c2⟩) 26 (0, 0)) :: [])))) (fun _ iv _ => n2 - (intOf iv).toNat)
  case atStart => exact ⟨0, by omega, rfl, rfl, (fun j hj => by omega), HINV.out⟩
  case round =>
    obtain ⟨i, hi, rfl, rfl, hinv⟩ := hrel
    have H1 := Lib.hid hinv.out.1
    have EK := Lib.hid hinv.out.2
    clear hinv HINV
    have hwb := worthL_wide (l := r.outs.take i) (take_all (by rw [HL2.out]; exact hi) H1.out)
    rw [List.length_take, HL2.out, Nat.min_eq_left hi] at hwb
    have HWB := Lib.hid hwb
    clear hwb
    by_cases hlt : i < n2
    · have C8 : Hid (decide ((i : Int) < (n2 : Int)) = true) := decide_eq_true (by omega)
      have HI := Lib.hid hlt
      have hil : i < r.outs.length := by rw [HL2.out]; exact hlt
      have HIL := Lib.hid hil
      obtain ⟨ad, hA2, -, hld⟩ := K_t.out.m2.loads hil
      have hA2' : A2 = some ad := hA2
      subst hA2'
      have HLD : Hid (∀ u, EnvX w u [] → (loadVar 3 ((ad.add (i * 2)).add 0)).run Tryd.prog u = .ok (.int .i64 (r.outs.getD i noOut).v) u) := fun u hu => by
        have h := (hld u hu).2.1
        rwa [show ((ad.add (i * 2)).add 0) = ad.add (i * 2) by unfold Addr.add; rfl]
      have hst := worthL_step noOut hil
      obtain ⟨y, hy⟩ : ∃ y, r.outs.getD i noOut = y := ⟨_, rfl⟩
      have HYE := Lib.hid hy
      rw [hy] at HLD hst
      have HST := Lib.hid hst
      clear hld hil hlt hst hy hA2
      go_upto_region 8 with (fail)
      refine wp_region_Hx (w0 := w) [0, 1, 2, 3, 4] (N3 ++ ((w.heap.size, Obj.cells (txA ⟨r, A1, n1, c1, some ad, n2, c2⟩) 26 (0, 0)) :: [])) rfl EK.out ?_
      refine lexH_phase [0, 1, 2, 3, 4] [] ?_
      have hw41 : EnvX w _ (N3 ++ ((w.heap.size, Obj.cells (txA ⟨r, A1, n1, c1, some ad, n2, c2⟩) 26 (0, 0)) :: [])) := EK.out
      have hone := @EnvC.one _ _ _ hw41
      (refine wpG_op rfl rfl rfl ?_; intro K hK; go_big_quiet_op; go_big_quiet_on)
      (refine wpG_val (v := .pointer (some ⟨w.heap.size, 1, none⟩)) rfl rfl (fun u hu => fieldTx_op (k := 1) (off := 1) (ad := ⟨w.heap.size, 0, none⟩) rfl u rfl) ?_ hw41; intro K hK; go_big_quiet_op; go_big_quiet_on)
      (refine wpG_val (v := .slice (some ad) n2 c2) rfl rfl (fun u hu => load_any_op u (box_tx_outs hu (List.mem_append_right _ (List.Mem.head _))) rfl) ?_ hw41; intro K hK; go_big_quiet_op; go_big_quiet_on)
      (refine wpG_val (v := .int .i64 (n2 : Int)) rfl rfl (fun u hu => len_op Tryd.underlying24 HM2.out u rfl) ?_ hw41; intro K hK; go_big_quiet_op; go_big_quiet_on)
      (refine wpG_val (v := .bool true) rfl rfl (fun u hu => ltZ_op u C8.out rfl rfl) ?_ hw41; intro K hK; go_big_quiet_op; go_big_quiet_on)
      clear hone hw41
      refine wpG_nil ?_
      intro u43 E2'
      have EX42 := Lib.hid E2'
      clear E2'
      by_cases v1 : y.v < 0
      · have V1 : Hid (decide (y.v < 0) = true) := decide_eq_true v1
        have hb := HARG.out (mayX_bad HIL.out (by rw [HYE.out]; omega))
        have HSM : Hid (samePu d p = true) := decide_eq_true hb.2
        have CE1 : Hid (decide (((e : Nat) : Int) = 1) = true) := by show _ = _; rw [hb.1]; rfl
        clear hb v1
        go_upto_region 10 with (fail)
        refine wp_region_Hx (w0 := w) [0, 1, 2, 3, 4, 5, 6, 7, 8, 9, 10, 11, 12, 13, 14, 15] (N3 ++ ((w.heap.size, Obj.cells (txA ⟨r, A1, n1, c1, some ad, n2, c2⟩) 26 (0, 0)) :: [])) rfl EX42.out ?_
        refine lexH_phase [0, 1, 2, 3, 4, 5, 6, 7, 8, 9, 10, 11, 12, 13, 14, 15] [] ?_
        have hw44 : EnvX w _ (N3 ++ ((w.heap.size, Obj.cells (txA ⟨r, A1, n1, c1, some ad, n2, c2⟩) 26 (0, 0)) :: [])) := EX42.out
        have hone := @EnvC.one _ _ _ hw44
        (refine wpG_val (v := .pointer (some ⟨w.heap.size, 1, none⟩)) rfl rfl (fun u hu => fieldTx_op (k := 1) (off := 1) (ad := ⟨w.heap.size, 0, none⟩) rfl u rfl) ?_ hw44; intro K hK; go_big_quiet_op; go_big_quiet_on)
        (refine wpG_val (v := .slice (some ad) n2 c2) rfl rfl (fun u hu => load_any_op u (box_tx_outs hu (List.mem_append_right _ (List.Mem.head _))) rfl) ?_ hw44; intro K hK; go_big_quiet_op; go_big_quiet_on)
        (refine wpG_op rfl rfl rfl ?_; intro K hK; go_big_quiet_op; go_big_quiet_on)
        (refine wpG_val (v := .pointer (some (ad.add (i * 2)))) rfl rfl (fun u hu => idxSl_op (i := i) Tryd.underlying24 aggOut.size HI.out u rfl rfl) ?_ hw44; intro K hK; go_big_quiet_op; go_big_quiet_on)
        (refine wpG_val (v := .pointer (some ((ad.add (i * 2)).add 0))) rfl rfl (fun u hu => fieldOut_op (k := 0) (off := 0) rfl u rfl) ?_ hw44; intro K hK; go_big_quiet_op; go_big_quiet_on)
        (refine wpG_val (v := .int .i64 y.v) rfl rfl (fun u hu => load_any_op u (HLD.out u (EnvX.sub hu (fun _ h => by cases h))) rfl) ?_ hw44; intro K hK; go_big_quiet_op; go_big_quiet_on)
        (refine wpG_val (v := .bool true) rfl rfl (fun u hu => ltZ_op u V1.out rfl rfl) ?_ hw44; intro K hK; go_big_quiet_op; go_big_quiet_on)
        (refine wpG_op rfl rfl rfl ?_; intro K hK; go_big_quiet_op; go_big_quiet_on)
        iterate 7 (refine wpG_skip rfl rfl ?_ hw44; intro K hK; go_big_quiet_op; go_big_quiet_on)
        (refine wpG_op rfl rfl rfl ?_; intro K hK; go_big_quiet_op; go_big_quiet_on)
        clear hone hw44
        refine wpG_nil ?_
        intro u46 E2'
        have EX45 := Lib.hid E2'
        clear E2'
        go_upto_region 11 with (fail)
        refine wp_region_Hx (w0 := w) [0, 1, 2, 3, 4, 5, 6, 7] (N3 ++ ((w.heap.size, Obj.cells (txA ⟨r, A1, n1, c1, some ad, n2, c2⟩) 26 (0, 0)) :: [])) rfl EX45.out ?_
        refine lexH_phase [0, 1, 2, 3, 4, 5, 6, 7] [] ?_
        have hw47 : EnvX w _ (N3 ++ ((w.heap.size, Obj.cells (txA ⟨r, A1, n1, c1, some ad, n2, c2⟩) 26 (0, 0)) :: [])) := EX45.out
        have hone := @EnvC.one _ _ _ hw47
        (refine wpG_op rfl rfl rfl ?_; intro K hK; go_big_quiet_op; go_big_quiet_on)
        (refine wpG_val (v := .bool true) rfl rfl (fun u hu => eqErr_op u CE1.out rfl rfl) ?_ hw47; intro K hK; go_big_quiet_op; go_big_quiet_on)
        iterate 3 (refine wpG_op rfl rfl rfl ?_; intro K hK; go_big_quiet_op; go_big_quiet_on)
        (refine wpG_call (f := 21) (args := #[.slice A3 d.length c3, .slice A n c]) (v := .bool true) rfl rfl rfl Tryd.func21 rfl rfl (fun u hu => by have h := HH.out.same d p A3 A d.length c3 n c u rfl HD48.out HC3.out.1 HC3.out.2 HDO.out (CoB.read HB3.out hu (fun y MEM => (List.mem_append_left _ MEM))) HL.out HN48.out.1 HNC.out.1 HNC.out.2 HPP.out (CellsIn.up HAA.out (EnvX.bel hu)) (HT.out.below (EnvX.bel hu)); rwa [HSM.out] at h) ?_ hw47; intro K hK; go_big_quiet_op; go_big_quiet_on)
        iterate 2 (refine wpG_op rfl rfl rfl ?_; intro K hK; go_big_quiet_op; go_big_quiet_on)
        clear hone hw47
        refine wpG_nil ?_
        intro u49 E2'
        have EX48 := Lib.hid E2'
        clear E2'
        have HBE := Lib.hid (EnvX.bel EX48.out)
        go_wp2
        go_ret
        exact ⟨rfl, HBE.out⟩
      have V1 : Hid (decide (y.v < 0) = false) := decide_eq_false v1
      by_cases v2 : 2199023255552 < y.v
      · have V2 : Hid (decide (2199023255552 < y.v) = true) := decide_eq_true v2
        have hb := HARG.out (mayX_bad HIL.out (by rw [HYE.out]; omega))
        have HSM : Hid (samePu d p = true) := decide_eq_true hb.2
        have CE1 : Hid (decide (((e : Nat) : Int) = 1) = true) := by show _ = _; rw [hb.1]; rfl
        clear hb v1 v2
        go_upto_region 10 with (fail)
        refine wp_region_Hx (w0 := w) [0, 1, 2, 3, 4, 5, 6, 7, 8, 9, 10, 11, 12, 13, 14, 15] (N3 ++ ((w.heap.size, Obj.cells (txA ⟨r, A1, n1, c1, some ad, n2, c2⟩) 26 (0, 0)) :: [])) rfl EX42.out ?_
        refine lexH_phase [0, 1, 2, 3, 4, 5, 6, 7, 8, 9, 10, 11, 12, 13, 14, 15] [] ?_
        have hw44 : EnvX w _ (N3 ++ ((w.heap.size, Obj.cells (txA ⟨r, A1, n1, c1, some ad, n2, c2⟩) 26 (0, 0)) :: [])) := EX42.out
        have hone := @EnvC.one _ _ _ hw44
        (refine wpG_val (v := .pointer (some ⟨w.heap.size, 1, none⟩)) rfl rfl (fun u hu => fieldTx_op (k := 1) (off := 1) (ad := ⟨w.heap.size, 0, none⟩) rfl u rfl) ?_ hw44; intro K hK; go_big_quiet_op; go_big_quiet_on)
        (refine wpG_val (v := .slice (some ad) n2 c2) rfl rfl (fun u hu => load_any_op u (box_tx_outs hu (List.mem_append_right _ (List.Mem.head _))) rfl) ?_ hw44; intro K hK; go_big_quiet_op; go_big_quiet_on)
        (refine wpG_op rfl rfl rfl ?_; intro K hK; go_big_quiet_op; go_big_quiet_on)
        (refine wpG_val (v := .pointer (some (ad.add (i * 2)))) rfl rfl (fun u hu => idxSl_op (i := i) Tryd.underlying24 aggOut.size HI.out u rfl rfl) ?_ hw44; intro K hK; go_big_quiet_op; go_big_quiet_on)
        (refine wpG_val (v := .pointer (some ((ad.add (i * 2)).add 0))) rfl rfl (fun u hu => fieldOut_op (k := 0) (off := 0) rfl u rfl) ?_ hw44; intro K hK; go_big_quiet_op; go_big_quiet_on)
        (refine wpG_val (v := .int .i64 y.v) rfl rfl (fun u hu => load_any_op u (HLD.out u (EnvX.sub hu (fun _ h => by cases h))) rfl) ?_ hw44; intro K hK; go_big_quiet_op; go_big_quiet_on)
        (refine wpG_val (v := .bool false) rfl rfl (fun u hu => ltZ_op u V1.out rfl rfl) ?_ hw44; intro K hK; go_big_quiet_op; go_big_quiet_on)
        (refine wpG_op rfl rfl rfl ?_; intro K hK; go_big_quiet_op; go_big_quiet_on)
        (refine wpG_val (v := .pointer (some ⟨w.heap.size, 1, none⟩)) rfl rfl (fun u hu => fieldTx_op (k := 1) (off := 1) (ad := ⟨w.heap.size, 0, none⟩) rfl u rfl) ?_ hw44; intro K hK; go_big_quiet_op; go_big_quiet_on)
        (refine wpG_val (v := .slice (some ad) n2 c2) rfl rfl (fun u hu => load_any_op u (box_tx_outs hu (List.mem_append_right _ (List.Mem.head _))) rfl) ?_ hw44; intro K hK; go_big_quiet_op; go_big_quiet_on)
        (refine wpG_op rfl rfl rfl ?_; intro K hK; go_big_quiet_op; go_big_quiet_on)
        (refine wpG_val (v := .pointer (some (ad.add (i * 2)))) rfl rfl (fun u hu => idxSl_op (i := i) Tryd.underlying24 aggOut.size HI.out u rfl rfl) ?_ hw44; intro K hK; go_big_quiet_op; go_big_quiet_on)
        (refine wpG_val (v := .pointer (some ((ad.add (i * 2)).add 0))) rfl rfl (fun u hu => fieldOut_op (k := 0) (off := 0) rfl u rfl) ?_ hw44; intro K hK; go_big_quiet_op; go_big_quiet_on)
        (refine wpG_val (v := .int .i64 y.v) rfl rfl (fun u hu => load_any_op u (HLD.out u (EnvX.sub hu (fun _ h => by cases h))) rfl) ?_ hw44; intro K hK; go_big_quiet_op; go_big_quiet_on)
        (refine wpG_val (v := .bool true) rfl rfl (fun u hu => gtZ_op u V2.out rfl rfl) ?_ hw44; intro K hK; go_big_quiet_op; go_big_quiet_on)
        (refine wpG_op rfl rfl rfl ?_; intro K hK; go_big_quiet_op; go_big_quiet_on)
        clear hone hw44
        refine wpG_nil ?_
        intro u46 E2'
        have EX45 := Lib.hid E2'
        clear E2'
        go_upto_region 11 with (fail)
        refine wp_region_Hx (w0 := w) [0, 1, 2, 3, 4, 5, 6, 7] (N3 ++ ((w.heap.size, Obj.cells (txA ⟨r, A1, n1, c1, some ad, n2, c2⟩) 26 (0, 0)) :: [])) rfl EX45.out ?_
        refine lexH_phase [0, 1, 2, 3, 4, 5, 6, 7] [] ?_
        have hw47 : EnvX w _ (N3 ++ ((w.heap.size, Obj.cells (txA ⟨r, A1, n1, c1, some ad, n2, c2⟩) 26 (0, 0)) :: [])) := EX45.out
        have hone := @EnvC.one _ _ _ hw47
        (refine wpG_op rfl rfl rfl ?_; intro K hK; go_big_quiet_op; go_big_quiet_on)
        (refine wpG_val (v := .bool true) rfl rfl (fun u hu => eqErr_op u CE1.out rfl rfl) ?_ hw47; intro K hK; go_big_quiet_op; go_big_quiet_on)
        iterate 3 (refine wpG_op rfl rfl rfl ?_; intro K hK; go_big_quiet_op; go_big_quiet_on)
        (refine wpG_call (f := 21) (args := #[.slice A3 d.length c3, .slice A n c]) (v := .bool true) rfl rfl rfl Tryd.func21 rfl rfl (fun u hu => by have h := HH.out.same d p A3 A d.length c3 n c u rfl HD48.out HC3.out.1 HC3.out.2 HDO.out (CoB.read HB3.out hu (fun y MEM => (List.mem_append_left _ MEM))) HL.out HN48.out.1 HNC.out.1 HNC.out.2 HPP.out (CellsIn.up HAA.out (EnvX.bel hu)) (HT.out.below (EnvX.bel hu)); rwa [HSM.out] at h) ?_ hw47; intro K hK; go_big_quiet_op; go_big_quiet_on)
        iterate 2 (refine wpG_op rfl rfl rfl ?_; intro K hK; go_big_quiet_op; go_big_quiet_on)
        clear hone hw47
        refine wpG_nil ?_
        intro u49 E2'
        have EX48 := Lib.hid E2'
        clear E2'
        have HBE := Lib.hid (EnvX.bel EX48.out)
        go_wp2
        go_ret
        exact ⟨rfl, HBE.out⟩
      have V2 : Hid (decide (2199023255552 < y.v) = false) := decide_eq_false v2
      have H3 : Hid (∀ j, j < i + 1 → 0 ≤ (r.outs.getD j noOut).v ∧ (r.outs.getD j noOut).v ≤ 2199023255552) := fun j hj => by
        rcases Nat.lt_or_ge j i with h | h
        · exact H1.out j h
        · rw [show j = i by omega, HYE.out]; omega
      have hwb := HWB.out
      have hi6 := HO6.out
      have hii := HI.out
      have HADD : Hid (IntKind.i64.wrap (worthL (r.outs.take i) + y.v) = worthL (r.outs.take (i + 1))) := by show _ = _; rw [HST.out, wrapS (by omega)]
      clear v1 v2 hwb hi6 hii
      generalize worthL (r.outs.take i) = s0 at *
      obtain ⟨s1, hs1⟩ : ∃ s1, worthL (r.outs.take (i + 1)) = s1 := ⟨_, rfl⟩
      rw [hs1] at HADD
      have HS1 := Lib.hid hs1
      clear hs1
      go_upto_region 10 with (fail)
      refine wp_region_Hx (w0 := w) [0, 1, 2, 3, 4, 5, 6, 7, 8, 9, 10, 11, 12, 13, 14, 15] (N3 ++ ((w.heap.size, Obj.cells (txA ⟨r, A1, n1, c1, some ad, n2, c2⟩) 26 (0, 0)) :: [])) rfl EX42.out ?_
      refine lexH_phase [0, 1, 2, 3, 4, 5, 6, 7, 8, 9, 10, 11, 12, 13, 14, 15] [] ?_
      have hw44 : EnvX w _ (N3 ++ ((w.heap.size, Obj.cells (txA ⟨r, A1, n1, c1, some ad, n2, c2⟩) 26 (0, 0)) :: [])) := EX42.out
      have hone := @EnvC.one _ _ _ hw44
      (refine wpG_val (v := .pointer (some ⟨w.heap.size, 1, none⟩)) rfl rfl (fun u hu => fieldTx_op (k := 1) (off := 1) (ad := ⟨w.heap.size, 0, none⟩) rfl u rfl) ?_ hw44; intro K hK; go_big_quiet_op; go_big_quiet_on)
      (refine wpG_val (v := .slice (some ad) n2 c2) rfl rfl (fun u hu => load_any_op u (box_tx_outs hu (List.mem_append_right _ (List.Mem.head _))) rfl) ?_ hw44; intro K hK; go_big_quiet_op; go_big_quiet_on)
      (refine wpG_op rfl rfl rfl ?_; intro K hK; go_big_quiet_op; go_big_quiet_on)
      (refine wpG_val (v := .pointer (some (ad.add (i * 2)))) rfl rfl (fun u hu => idxSl_op (i := i) Tryd.underlying24 aggOut.size HI.out u rfl rfl) ?_ hw44; intro K hK; go_big_quiet_op; go_big_quiet_on)
      (refine wpG_val (v := .pointer (some ((ad.add (i * 2)).add 0))) rfl rfl (fun u hu => fieldOut_op (k := 0) (off := 0) rfl u rfl) ?_ hw44; intro K hK; go_big_quiet_op; go_big_quiet_on)
      (refine wpG_val (v := .int .i64 y.v) rfl rfl (fun u hu => load_any_op u (HLD.out u (EnvX.sub hu (fun _ h => by cases h))) rfl) ?_ hw44; intro K hK; go_big_quiet_op; go_big_quiet_on)
      (refine wpG_val (v := .bool false) rfl rfl (fun u hu => ltZ_op u V1.out rfl rfl) ?_ hw44; intro K hK; go_big_quiet_op; go_big_quiet_on)
      (refine wpG_op rfl rfl rfl ?_; intro K hK; go_big_quiet_op; go_big_quiet_on)
      (refine wpG_val (v := .pointer (some ⟨w.heap.size, 1, none⟩)) rfl rfl (fun u hu => fieldTx_op (k := 1) (off := 1) (ad := ⟨w.heap.size, 0, none⟩) rfl u rfl) ?_ hw44; intro K hK; go_big_quiet_op; go_big_quiet_on)
      (refine wpG_val (v := .slice (some ad) n2 c2) rfl rfl (fun u hu => load_any_op u (box_tx_outs hu (List.mem_append_right _ (List.Mem.head _))) rfl) ?_ hw44; intro K hK; go_big_quiet_op; go_big_quiet_on)
      (refine wpG_op rfl rfl rfl ?_; intro K hK; go_big_quiet_op; go_big_quiet_on)
      (refine wpG_val (v := .pointer (some (ad.add (i * 2)))) rfl rfl (fun u hu => idxSl_op (i := i) Tryd.underlying24 aggOut.size HI.out u rfl rfl) ?_ hw44; intro K hK; go_big_quiet_op; go_big_quiet_on)
      (refine wpG_val (v := .pointer (some ((ad.add (i * 2)).add 0))) rfl rfl (fun u hu => fieldOut_op (k := 0) (off := 0) rfl u rfl) ?_ hw44; intro K hK; go_big_quiet_op; go_big_quiet_on)
      (refine wpG_val (v := .int .i64 y.v) rfl rfl (fun u hu => load_any_op u (HLD.out u (EnvX.sub hu (fun _ h => by cases h))) rfl) ?_ hw44; intro K hK; go_big_quiet_op; go_big_quiet_on)
      (refine wpG_val (v := .bool false) rfl rfl (fun u hu => gtZ_op u V2.out rfl rfl) ?_ hw44; intro K hK; go_big_quiet_op; go_big_quiet_on)
      (refine wpG_op rfl rfl rfl ?_; intro K hK; go_big_quiet_op; go_big_quiet_on)
      clear hone hw44
      refine wpG_nil ?_
      intro u46 E2'
      have EX45 := Lib.hid E2'
      clear E2'
      go_upto_region 12 with (fail)
      refine wp_region_Hx (w0 := w) [0, 1, 2, 3, 4, 5, 6, 7, 8] (N3 ++ ((w.heap.size, Obj.cells (txA ⟨r, A1, n1, c1, some ad, n2, c2⟩) 26 (0, 0)) :: [])) rfl EX45.out ?_
      refine lexH_phase [0, 1, 2, 3, 4, 5, 6, 7, 8] [] ?_
      have hw47 : EnvX w _ (N3 ++ ((w.heap.size, Obj.cells (txA ⟨r, A1, n1, c1, some ad, n2, c2⟩) 26 (0, 0)) :: [])) := EX45.out
      have hone := @EnvC.one _ _ _ hw47
      (refine wpG_op rfl rfl rfl ?_; intro K hK; go_big_quiet_op; go_big_quiet_on)
      (refine wpG_val (v := .pointer (some ⟨w.heap.size, 1, none⟩)) rfl rfl (fun u hu => fieldTx_op (k := 1) (off := 1) (ad := ⟨w.heap.size, 0, none⟩) rfl u rfl) ?_ hw47; intro K hK; go_big_quiet_op; go_big_quiet_on)
      (refine wpG_val (v := .slice (some ad) n2 c2) rfl rfl (fun u hu => load_any_op u (box_tx_outs hu (List.mem_append_right _ (List.Mem.head _))) rfl) ?_ hw47; intro K hK; go_big_quiet_op; go_big_quiet_on)
      (refine wpG_op rfl rfl rfl ?_; intro K hK; go_big_quiet_op; go_big_quiet_on)
      (refine wpG_val (v := .pointer (some (ad.add (i * 2)))) rfl rfl (fun u hu => idxSl_op (i := i) Tryd.underlying24 aggOut.size HI.out u rfl rfl) ?_ hw47; intro K hK; go_big_quiet_op; go_big_quiet_on)
      (refine wpG_val (v := .pointer (some ((ad.add (i * 2)).add 0))) rfl rfl (fun u hu => fieldOut_op (k := 0) (off := 0) rfl u rfl) ?_ hw47; intro K hK; go_big_quiet_op; go_big_quiet_on)
      (refine wpG_val (v := .int .i64 y.v) rfl rfl (fun u hu => load_any_op u (HLD.out u (EnvX.sub hu (fun _ h => by cases h))) rfl) ?_ hw47; intro K hK; go_big_quiet_op; go_big_quiet_on)
      (refine wpG_val (v := .int .i64 s1) rfl rfl (fun u hu => addZ_op u HADD.out rfl rfl) ?_ hw47; intro K hK; go_big_quiet_op; go_big_quiet_on)
      (refine wpG_op rfl rfl rfl ?_; intro K hK; go_big_quiet_op; go_big_quiet_on)
      clear hone hw47
      refine wpG_nil ?_
      intro u49 E2'
      have EX48 := Lib.hid E2'
      clear E2'
      have hi6 := HO6.out
      have hii := HI.out
      go_wp2
      go_roundw
      case rel => exact ⟨i + 1, by omega, by go_num, by rw [HS1.out], H3.out, EX48.out⟩
      case measure => simp [intOf]; omega
    · obtain rfl : i = n2 := by omega
      have C8 : Hid (decide ((i : Int) < (i : Int)) = false) := decide_eq_false (by omega)
      have HWX : Hid (worthL (r.outs.take i) = worthX r) := by show _ = _; rw [List.take_of_length_le (by rw [HL2.out]; exact Nat.le_refl _)]; rfl
      rw [HWX.out] at HWB ⊢
      clear hlt
      go_upto_region 8 with (fail)
      refine wp_region_Hx (w0 := w) [0, 1, 2, 3, 4] (N3 ++ ((w.heap.size, Obj.cells (txA ⟨r, A1, n1, c1, A2, i, c2⟩) 26 (0, 0)) :: [])) rfl EK.out ?_
      refine lexH_phase [0, 1, 2, 3, 4] [] ?_
      have hw601 : EnvX w _ (N3 ++ ((w.heap.size, Obj.cells (txA ⟨r, A1, n1, c1, A2, i, c2⟩) 26 (0, 0)) :: [])) := EK.out
      have hone := @EnvC.one _ _ _ hw601
      (refine wpG_op rfl rfl rfl ?_; intro K hK; go_big_quiet_op; go_big_quiet_on)
      (refine wpG_val (v := .pointer (some ⟨w.heap.size, 1, none⟩)) rfl rfl (fun u hu => fieldTx_op (k := 1) (off := 1) (ad := ⟨w.heap.size, 0, none⟩) rfl u rfl) ?_ hw601; intro K hK; go_big_quiet_op; go_big_quiet_on)
      (refine wpG_val (v := .slice A2 i c2) rfl rfl (fun u hu => load_any_op u (box_tx_outs hu (List.mem_append_right _ (List.Mem.head _))) rfl) ?_ hw601; intro K hK; go_big_quiet_op; go_big_quiet_on)
      (refine wpG_val (v := .int .i64 (i : Int)) rfl rfl (fun u hu => len_op Tryd.underlying24 HM2.out u rfl) ?_ hw601; intro K hK; go_big_quiet_op; go_big_quiet_on)
      (refine wpG_val (v := .bool false) rfl rfl (fun u hu => ltZ_op u C8.out rfl rfl) ?_ hw601; intro K hK; go_big_quiet_op; go_big_quiet_on)
      clear hone hw601
      refine wpG_nil ?_
      intro u603 E2'
      have EX602 := Lib.hid E2'
      clear E2'
      obtain ⟨wx, hwx⟩ : ∃ wx, worthX r = wx := ⟨_, rfl⟩
      rw [hwx] at HWB HALL ⊢
      clear hwx HWX
      rcases HALL.out with ⟨rfl, hmx, hw5, hln, hsu⟩ | ⟨he0, hdp, hee⟩
      · have CE : Hid (decide (((0 : Nat) : Int) ≠ 0) = false) := decide_eq_false (by omega)
        have H50 : Hid (decide (wx ≤ 50) = true) := decide_eq_true hw5
        have HLL : Hid (IntKind.i64.wrap ((n : Int) + (i : Int)) = ((d.length : Nat) : Int)) := by
          show _ = _
          have h1 := HN48.out.2
          have h2 := HO6.out
          rw [hln, HL.out, HL2.out, wrapS (by omega)]
          push_cast
          rfl
        have HAD : Hid (IntKind.i64.wrap (sumV p + wx) = sumV d) := by show _ = _; have h1 := HSB.out; have h2 := HWB.out; rw [hsu, wrapS (by omega)]
        clear HALL hmx hw5 hln hsu
        go_upto_region 13 with (fail)
        refine wp_region_Hx (w0 := w) [0, 1] (N3 ++ ((w.heap.size, Obj.cells (txA ⟨r, A1, n1, c1, A2, i, c2⟩) 26 (0, 0)) :: [])) rfl EX602.out ?_
        refine lexH_phase [0, 1] [] ?_
        have hw604 : EnvX w _ (N3 ++ ((w.heap.size, Obj.cells (txA ⟨r, A1, n1, c1, A2, i, c2⟩) 26 (0, 0)) :: [])) := EX602.out
        have hone := @EnvC.one _ _ _ hw604
        (refine wpG_op rfl rfl rfl ?_; intro K hK; go_big_quiet_op; go_big_quiet_on)
        (refine wpG_val (v := .bool false) rfl rfl (fun u hu => neErr_op u CE.out rfl rfl) ?_ hw604; intro K hK; go_big_quiet_op; go_big_quiet_on)
        clear hone hw604
        refine wpG_nil ?_
        intro u606 E2'
        have EX605 := Lib.hid E2'
        clear E2'
        go_upto_region 15 with (fail)
        have HDL : Hid (d.length < 9223372036854775808) := by have := HD48.out; show _ < _; omega
        refine wp_region_Hx (w0 := w) [0, 1, 2, 3, 4, 5, 6, 7, 8, 9, 10, 11, 12, 13, 14, 15, 16, 17, 18, 19, 20, 21, 22] (N3 ++ ((w.heap.size, Obj.cells (txA ⟨r, A1, n1, c1, A2, i, c2⟩) 26 (0, 0)) :: [])) rfl EX605.out ?_
        refine lexH_phase [0, 1, 2, 3, 4, 5, 6, 7, 8, 9, 10, 11, 12, 13, 14, 15, 16, 17, 18, 19, 20, 21, 22] [] ?_
        have hw607 : EnvX w _ (N3 ++ ((w.heap.size, Obj.cells (txA ⟨r, A1, n1, c1, A2, i, c2⟩) 26 (0, 0)) :: [])) := EX605.out
        have hone := @EnvC.one _ _ _ hw607
        (refine wpG_op rfl rfl rfl ?_; intro K hK; go_big_quiet_op; go_big_quiet_on)
        (refine wpG_val (v := .bool true) rfl rfl (fun u hu => leZ_op u H50.out rfl rfl) ?_ hw607; intro K hK; go_big_quiet_op; go_big_quiet_on)
        iterate 2 (refine wpG_op rfl rfl rfl ?_; intro K hK; go_big_quiet_op; go_big_quiet_on)
        (refine wpG_val (v := .int .i64 ((d.length : Nat) : Int)) rfl rfl (fun u hu => len_op Tryd.underlying22 HDL.out u rfl) ?_ hw607; intro K hK; go_big_quiet_op; go_big_quiet_on)
        (refine wpG_op rfl rfl rfl ?_; intro K hK; go_big_quiet_op; go_big_quiet_on)
        (refine wpG_val (v := .int .i64 (n : Int)) rfl rfl (fun u hu => len_op Tryd.underlying22 HN63.out u rfl) ?_ hw607; intro K hK; go_big_quiet_op; go_big_quiet_on)
        (refine wpG_val (v := .pointer (some ⟨w.heap.size, 1, none⟩)) rfl rfl (fun u hu => fieldTx_op (k := 1) (off := 1) (ad := ⟨w.heap.size, 0, none⟩) rfl u rfl) ?_ hw607; intro K hK; go_big_quiet_op; go_big_quiet_on)
        (refine wpG_val (v := .slice A2 i c2) rfl rfl (fun u hu => load_any_op u (box_tx_outs hu (List.mem_append_right _ (List.Mem.head _))) rfl) ?_ hw607; intro K hK; go_big_quiet_op; go_big_quiet_on)
        (refine wpG_val (v := .int .i64 (i : Int)) rfl rfl (fun u hu => len_op Tryd.underlying24 HM2.out u rfl) ?_ hw607; intro K hK; go_big_quiet_op; go_big_quiet_on)
        (refine wpG_val (v := .int .i64 ((d.length : Nat) : Int)) rfl rfl (fun u hu => addZ_op u HLL.out rfl rfl) ?_ hw607; intro K hK; go_big_quiet_op; go_big_quiet_on)
        (refine wpG_val (v := .bool true) rfl rfl (fun u hu => eqlI_op u (decide_eq_true rfl) rfl rfl) ?_ hw607; intro K hK; go_big_quiet_op; go_big_quiet_on)
        iterate 3 (refine wpG_op rfl rfl rfl ?_; intro K hK; go_big_quiet_op; go_big_quiet_on)
        (refine wpG_call (f := 22) (args := #[.slice A3 d.length c3]) (v := .int .i64 (sumV d)) rfl rfl rfl Tryd.func22 rfl rfl (fun u hu => by have h := HH.out.sum d A3 d.length c3 u rfl HD48.out HC3.out.1 HC3.out.2 HDO.out (CoB.read HB3.out hu (fun y MEM => (List.mem_append_left _ MEM))) (HT.out.below (EnvX.bel hu)); rwa [sumP_may HDA.out.1] at h) ?_ hw607; intro K hK; go_big_quiet_op; go_big_quiet_on)
        (refine wpG_op rfl rfl rfl ?_; intro K hK; go_big_quiet_op; go_big_quiet_on)
        (refine wpG_call (f := 22) (args := #[.slice A n c]) (v := .int .i64 (sumV p)) rfl rfl rfl Tryd.func22 rfl rfl (fun u hu => by have h := HH.out.sum p A n c u HL.out HN48.out.1 HNC.out.1 HNC.out.2 HPP.out (CellsIn.up HAA.out (EnvX.bel hu)) (HT.out.below (EnvX.bel hu)); rwa [sumP_may HF_p.out] at h) ?_ hw607; intro K hK; go_big_quiet_op; go_big_quiet_on)
        (refine wpG_op rfl rfl rfl ?_; intro K hK; go_big_quiet_op; go_big_quiet_on)
        (refine wpG_val (v := .int .i64 (sumV d)) rfl rfl (fun u hu => addZ_op u HAD.out rfl rfl) ?_ hw607; intro K hK; go_big_quiet_op; go_big_quiet_on)
        (refine wpG_val (v := .bool true) rfl rfl (fun u hu => eqlI_op u (decide_eq_true rfl) rfl rfl) ?_ hw607; intro K hK; go_big_quiet_op; go_big_quiet_on)
        iterate 2 (refine wpG_op rfl rfl rfl ?_; intro K hK; go_big_quiet_op; go_big_quiet_on)
        clear hone hw607
        refine wpG_nil ?_
        intro u609 E2'
        have EX608 := Lib.hid E2'
        clear E2'
        have HBE := Lib.hid (EnvX.bel EX608.out)
        go_wp2
        go_ret
        exact ⟨rfl, HBE.out⟩
      · have CE : Hid (decide (((e : Nat) : Int) ≠ 0) = true) := decide_eq_true (by omega)
        have HSM : Hid (samePu d p = true) := decide_eq_true hdp
        have HEE := Lib.hid hee
        clear HALL he0 hdp hee
        go_upto_region 13 with (fail)
        refine wp_region_Hx (w0 := w) [0, 1] (N3 ++ ((w.heap.size, Obj.cells (txA ⟨r, A1, n1, c1, A2, i, c2⟩) 26 (0, 0)) :: [])) rfl EX602.out ?_
        refine lexH_phase [0, 1] [] ?_
        have hw604 : EnvX w _ (N3 ++ ((w.heap.size, Obj.cells (txA ⟨r, A1, n1, c1, A2, i, c2⟩) 26 (0, 0)) :: [])) := EX602.out
        have hone := @EnvC.one _ _ _ hw604
        (refine wpG_op rfl rfl rfl ?_; intro K hK; go_big_quiet_op; go_big_quiet_on)
        (refine wpG_val (v := .bool true) rfl rfl (fun u hu => neErr_op u CE.out rfl rfl) ?_ hw604; intro K hK; go_big_quiet_op; go_big_quiet_on)
        clear hone hw604
        refine wpG_nil ?_
        intro u606 E2'
        have EX605 := Lib.hid E2'
        clear E2'
        by_cases g : 50 < wx
        · have G50 : Hid (decide (50 < wx) = true) := decide_eq_true g
          clear g
          go_upto_region 14 with (fail)
          refine wp_region_Hx (w0 := w) [0, 1, 2, 3, 4, 5, 6, 7, 8, 9, 10, 11, 12, 13, 14, 15, 16, 17, 18, 19] (N3 ++ ((w.heap.size, Obj.cells (txA ⟨r, A1, n1, c1, A2, i, c2⟩) 26 (0, 0)) :: [])) rfl EX605.out ?_
          refine lexH_phase [0, 1, 2, 3, 4, 5, 6, 7, 8, 9, 10, 11, 12, 13, 14, 15, 16, 17, 18, 19] [] ?_
          have hw607 : EnvX w _ (N3 ++ ((w.heap.size, Obj.cells (txA ⟨r, A1, n1, c1, A2, i, c2⟩) 26 (0, 0)) :: [])) := EX605.out
          have hone := @EnvC.one _ _ _ hw607
          iterate 2 (refine wpG_op rfl rfl rfl ?_; intro K hK; go_big_quiet_op; go_big_quiet_on)
          (refine wpG_call (f := 21) (args := #[.slice A3 d.length c3, .slice A n c]) (v := .bool true) rfl rfl rfl Tryd.func21 rfl rfl (fun u hu => by have h := HH.out.same d p A3 A d.length c3 n c u rfl HD48.out HC3.out.1 HC3.out.2 HDO.out (CoB.read HB3.out hu (fun y MEM => (List.mem_append_left _ MEM))) HL.out HN48.out.1 HNC.out.1 HNC.out.2 HPP.out (CellsIn.up HAA.out (EnvX.bel hu)) (HT.out.below (EnvX.bel hu)); rwa [HSM.out] at h) ?_ hw607; intro K hK; go_big_quiet_op; go_big_quiet_on)
          iterate 2 (refine wpG_op rfl rfl rfl ?_; intro K hK; go_big_quiet_op; go_big_quiet_on)
          (refine wpG_val (v := .bool true) rfl rfl (fun u hu => gtZ_op u G50.out rfl rfl) ?_ hw607; intro K hK; go_big_quiet_op; go_big_quiet_on)
          (refine wpG_op rfl rfl rfl ?_; intro K hK; go_big_quiet_op; go_big_quiet_on)
          iterate 2 (refine wpG_skip rfl rfl ?_ hw607; intro K hK; go_big_quiet_op; go_big_quiet_on)
          iterate 2 (refine wpG_op rfl rfl rfl ?_; intro K hK; go_big_quiet_op; go_big_quiet_on)
          iterate 2 (refine wpG_skip rfl rfl ?_ hw607; intro K hK; go_big_quiet_op; go_big_quiet_on)
          iterate 2 (refine wpG_op rfl rfl rfl ?_; intro K hK; go_big_quiet_op; go_big_quiet_on)
          iterate 2 (refine wpG_skip rfl rfl ?_ hw607; intro K hK; go_big_quiet_op; go_big_quiet_on)
          iterate 3 (refine wpG_op rfl rfl rfl ?_; intro K hK; go_big_quiet_op; go_big_quiet_on)
          clear hone hw607
          refine wpG_nil ?_
          intro u609 E2'
          have EX608 := Lib.hid E2'
          clear E2'
          have HBE := Lib.hid (EnvX.bel EX608.out)
          go_wp2
          go_ret
          exact ⟨rfl, HBE.out⟩
        · have G50 : Hid (decide (50 < wx) = false) := decide_eq_false g
          rcases HEE.out with h | rfl | rfl | rfl
          · exact absurd h g
          · clear g
            go_upto_region 14 with (fail)
            refine wp_region_Hx (w0 := w) [0, 1, 2, 3, 4, 5, 6, 7, 8, 9, 10, 11, 12, 13, 14, 15, 16, 17, 18, 19] (N3 ++ ((w.heap.size, Obj.cells (txA ⟨r, A1, n1, c1, A2, i, c2⟩) 26 (0, 0)) :: [])) rfl EX605.out ?_
            refine lexH_phase [0, 1, 2, 3, 4, 5, 6, 7, 8, 9, 10, 11, 12, 13, 14, 15, 16, 17, 18, 19] [] ?_
            have hw607 : EnvX w _ (N3 ++ ((w.heap.size, Obj.cells (txA ⟨r, A1, n1, c1, A2, i, c2⟩) 26 (0, 0)) :: [])) := EX605.out
            have hone := @EnvC.one _ _ _ hw607
            iterate 2 (refine wpG_op rfl rfl rfl ?_; intro K hK; go_big_quiet_op; go_big_quiet_on)
            (refine wpG_call (f := 21) (args := #[.slice A3 d.length c3, .slice A n c]) (v := .bool true) rfl rfl rfl Tryd.func21 rfl rfl (fun u hu => by have h := HH.out.same d p A3 A d.length c3 n c u rfl HD48.out HC3.out.1 HC3.out.2 HDO.out (CoB.read HB3.out hu (fun y MEM => (List.mem_append_left _ MEM))) HL.out HN48.out.1 HNC.out.1 HNC.out.2 HPP.out (CellsIn.up HAA.out (EnvX.bel hu)) (HT.out.below (EnvX.bel hu)); rwa [HSM.out] at h) ?_ hw607; intro K hK; go_big_quiet_op; go_big_quiet_on)
            iterate 2 (refine wpG_op rfl rfl rfl ?_; intro K hK; go_big_quiet_op; go_big_quiet_on)
            (refine wpG_val (v := .bool false) rfl rfl (fun u hu => gtZ_op u G50.out rfl rfl) ?_ hw607; intro K hK; go_big_quiet_op; go_big_quiet_on)
            iterate 2 (refine wpG_op rfl rfl rfl ?_; intro K hK; go_big_quiet_op; go_big_quiet_on)
            (refine wpG_val (v := .bool true) rfl rfl (fun u hu => eqErr_op u (by decide) rfl rfl) ?_ hw607; intro K hK; go_big_quiet_op; go_big_quiet_on)
            iterate 2 (refine wpG_op rfl rfl rfl ?_; intro K hK; go_big_quiet_op; go_big_quiet_on)
            iterate 2 (refine wpG_skip rfl rfl ?_ hw607; intro K hK; go_big_quiet_op; go_big_quiet_on)
            iterate 2 (refine wpG_op rfl rfl rfl ?_; intro K hK; go_big_quiet_op; go_big_quiet_on)
            iterate 2 (refine wpG_skip rfl rfl ?_ hw607; intro K hK; go_big_quiet_op; go_big_quiet_on)
            iterate 3 (refine wpG_op rfl rfl rfl ?_; intro K hK; go_big_quiet_op; go_big_quiet_on)
            clear hone hw607
            refine wpG_nil ?_
            intro u609 E2'
            have EX608 := Lib.hid E2'
            clear E2'
            have HBE := Lib.hid (EnvX.bel EX608.out)
            go_wp2
            go_ret
            exact ⟨rfl, HBE.out⟩
          · clear g
            go_upto_region 14 with (fail)
            refine wp_region_Hx (w0 := w) [0, 1, 2, 3, 4, 5, 6, 7, 8, 9, 10, 11, 12, 13, 14, 15, 16, 17, 18, 19] (N3 ++ ((w.heap.size, Obj.cells (txA ⟨r, A1, n1, c1, A2, i, c2⟩) 26 (0, 0)) :: [])) rfl EX605.out ?_
            refine lexH_phase [0, 1, 2, 3, 4, 5, 6, 7, 8, 9, 10, 11, 12, 13, 14, 15, 16, 17, 18, 19] [] ?_
            have hw607 : EnvX w _ (N3 ++ ((w.heap.size, Obj.cells (txA ⟨r, A1, n1, c1, A2, i, c2⟩) 26 (0, 0)) :: [])) := EX605.out
            have hone := @EnvC.one _ _ _ hw607
            iterate 2 (refine wpG_op rfl rfl rfl ?_; intro K hK; go_big_quiet_op; go_big_quiet_on)
            (refine wpG_call (f := 21) (args := #[.slice A3 d.length c3, .slice A n c]) (v := .bool true) rfl rfl rfl Tryd.func21 rfl rfl (fun u hu => by have h := HH.out.same d p A3 A d.length c3 n c u rfl HD48.out HC3.out.1 HC3.out.2 HDO.out (CoB.read HB3.out hu (fun y MEM => (List.mem_append_left _ MEM))) HL.out HN48.out.1 HNC.out.1 HNC.out.2 HPP.out (CellsIn.up HAA.out (EnvX.bel hu)) (HT.out.below (EnvX.bel hu)); rwa [HSM.out] at h) ?_ hw607; intro K hK; go_big_quiet_op; go_big_quiet_on)
            iterate 2 (refine wpG_op rfl rfl rfl ?_; intro K hK; go_big_quiet_op; go_big_quiet_on)
            (refine wpG_val (v := .bool false) rfl rfl (fun u hu => gtZ_op u G50.out rfl rfl) ?_ hw607; intro K hK; go_big_quiet_op; go_big_quiet_on)
            iterate 2 (refine wpG_op rfl rfl rfl ?_; intro K hK; go_big_quiet_op; go_big_quiet_on)
            (refine wpG_val (v := .bool false) rfl rfl (fun u hu => eqErr_op u (by decide) rfl rfl) ?_ hw607; intro K hK; go_big_quiet_op; go_big_quiet_on)
            iterate 3 (refine wpG_op rfl rfl rfl ?_; intro K hK; go_big_quiet_op; go_big_quiet_on)
            (refine wpG_val (v := .bool true) rfl rfl (fun u hu => eqErr_op u (by decide) rfl rfl) ?_ hw607; intro K hK; go_big_quiet_op; go_big_quiet_on)
            iterate 2 (refine wpG_op rfl rfl rfl ?_; intro K hK; go_big_quiet_op; go_big_quiet_on)
            iterate 2 (refine wpG_skip rfl rfl ?_ hw607; intro K hK; go_big_quiet_op; go_big_quiet_on)
            iterate 3 (refine wpG_op rfl rfl rfl ?_; intro K hK; go_big_quiet_op; go_big_quiet_on)
            clear hone hw607
            refine wpG_nil ?_
            intro u609 E2'
            have EX608 := Lib.hid E2'
            clear E2'
            have HBE := Lib.hid (EnvX.bel EX608.out)
            go_wp2
            go_ret
            exact ⟨rfl, HBE.out⟩
          · clear g
            go_upto_region 14 with (fail)
            refine wp_region_Hx (w0 := w) [0, 1, 2, 3, 4, 5, 6, 7, 8, 9, 10, 11, 12, 13, 14, 15, 16, 17, 18, 19] (N3 ++ ((w.heap.size, Obj.cells (txA ⟨r, A1, n1, c1, A2, i, c2⟩) 26 (0, 0)) :: [])) rfl EX605.out ?_
            refine lexH_phase [0, 1, 2, 3, 4, 5, 6, 7, 8, 9, 10, 11, 12, 13, 14, 15, 16, 17, 18, 19] [] ?_
            have hw607 : EnvX w _ (N3 ++ ((w.heap.size, Obj.cells (txA ⟨r, A1, n1, c1, A2, i, c2⟩) 26 (0, 0)) :: [])) := EX605.out
            have hone := @EnvC.one _ _ _ hw607
            iterate 2 (refine wpG_op rfl rfl rfl ?_; intro K hK; go_big_quiet_op; go_big_quiet_on)
            (refine wpG_call (f := 21) (args := #[.slice A3 d.length c3, .slice A n c]) (v := .bool true) rfl rfl rfl Tryd.func21 rfl rfl (fun u hu => by have h := HH.out.same d p A3 A d.length c3 n c u rfl HD48.out HC3.out.1 HC3.out.2 HDO.out (CoB.read HB3.out hu (fun y MEM => (List.mem_append_left _ MEM))) HL.out HN48.out.1 HNC.out.1 HNC.out.2 HPP.out (CellsIn.up HAA.out (EnvX.bel hu)) (HT.out.below (EnvX.bel hu)); rwa [HSM.out] at h) ?_ hw607; intro K hK; go_big_quiet_op; go_big_quiet_on)
            iterate 2 (refine wpG_op rfl rfl rfl ?_; intro K hK; go_big_quiet_op; go_big_quiet_on)
            (refine wpG_val (v := .bool false) rfl rfl (fun u hu => gtZ_op u G50.out rfl rfl) ?_ hw607; intro K hK; go_big_quiet_op; go_big_quiet_on)
            iterate 2 (refine wpG_op rfl rfl rfl ?_; intro K hK; go_big_quiet_op; go_big_quiet_on)
            (refine wpG_val (v := .bool false) rfl rfl (fun u hu => eqErr_op u (by decide) rfl rfl) ?_ hw607; intro K hK; go_big_quiet_op; go_big_quiet_on)
            iterate 3 (refine wpG_op rfl rfl rfl ?_; intro K hK; go_big_quiet_op; go_big_quiet_on)
            (refine wpG_val (v := .bool false) rfl rfl (fun u hu => eqErr_op u (by decide) rfl rfl) ?_ hw607; intro K hK; go_big_quiet_op; go_big_quiet_on)
            iterate 3 (refine wpG_op rfl rfl rfl ?_; intro K hK; go_big_quiet_op; go_big_quiet_on)
            (refine wpG_val (v := .bool true) rfl rfl (fun u hu => eqErr_op u (by decide) rfl rfl) ?_ hw607; intro K hK; go_big_quiet_op; go_big_quiet_on)
            iterate 3 (refine wpG_op rfl rfl rfl ?_; intro K hK; go_big_quiet_op; go_big_quiet_on)
            clear hone hw607
            refine wpG_nil ?_
            intro u609 E2'
            have EX608 := Lib.hid E2'
            clear E2'
            have HBE := Lib.hid (EnvX.bel EX608.out)
            go_wp2
            go_ret
            exact ⟨rfl, HBE.out⟩
theorem law_first (H : PurseC) (p : List CoinR) (t : TxM) (A : Option Addr) (n c : Nat) (w : World) (hl : p.length = n) (hnc : n ≤ c) (hcm : c ≤ maxLen) (hI : okP p) (hA : CoinsIn w w.heap.size A p) (kt : TxOk w t) (ht : Tables w) :
    Calls Tryd.prog 7 #[.slice A n c, txV t] w fun e w' => e = .returned (.bool true) ∧ Below w.heap.size w w' := by
  obtain ⟨r, A1, n1, c1, A2, n2, c2⟩ := t
  cases k1 : fewX r with
  | false => exact law_first_few H p r A1 n1 c1 A2 n2 c2 A n c w hl hnc hcm hI hA kt ht k1
  | true =>
    cases k3 : mayP p with
    | false => exact law_first_may H p r A1 n1 c1 A2 n2 c2 A n c w hl hnc hcm hI hA kt ht k1 k3
    | true =>
      by_cases k4 : n1 = 0
      · exact law_first_main H p r A1 n1 c1 A2 n2 c2 A n c w hl hnc hcm hI hA kt ht k1 k3 k4
      · exact law_first_ins H p r A1 n1 c1 A2 n2 c2 A n c w hl hnc hcm hI hA kt ht k1 k3 (by omega)
end Go.Proofs.YtabhhbdbkeeblaaDoor
namespace Go.Proofs.YtabhhbdbkeeblaaDoor.purseFirst
set_option maxRecDepth 8000
open Go.ChangeShapes Go.WideShapes Go.ChangeAt Go.RowKit
theorem contract (H : Type) (enc : TypeId × Value → H) (W : World) (base : Nat) (args : Array Value) (ds gs : List (DataW H)) (before : List MemPlace)
    (hval : ∀ (j : Nat) t v, Tryd.f7.params[j]? = some t → args[j]? = some v → Value.okWide Tryd.prog W .any base t v)
    (hW : DataW.Whole enc Tryd.prog Tryd.f7.params.toList Rows.purseFirstSpec.vars false W args.toList ds gs before) (hL : laidMetH Tryd.prog Rows.purseFirstRow.laid W) :
    Calls Tryd.prog 7 args W fun e W' => ∃ v, e = .returned v ∧ Rows.purseFirstSpec.post enc Tryd.prog Tryd.f7 false true false false W args v W' := by
  have hW' := hW
  obtain ⟨p, q, hA0, hV, rfl, hfz, hnd⟩ := hW
  have hA : DataW.TrodAll enc Tryd.prog W 0 (fun _ => true) true Tryd.f7.params.toList args.toList ds p := hA0
  rw [Tryd.params7] at hA hval
  obtain ⟨v0, vs0, d0, ds0, p0, q0, hargs, rfl, rfl, h0, r0⟩ := trodAll_cons hA
  obtain ⟨v1, vs1, d1, ds1, p1, q1, rfl, rfl, rfl, h1, r1⟩ := trodAll_cons r0
  obtain ⟨rfl, rfl, rfl⟩ := trodAll_nil r1
  obtain rfl : args = #[v0, v1] := by cases args; simp_all
  obtain ⟨rfl, rfl⟩ := trodVars_none hV
  have lt0 : ∀ x ∈ p0, x.block < W.heap.size := by obtain ⟨m, hm⟩ := h0; exact DataW.trod_lt m _ _ _ hm
  obtain ⟨a0, n0, c0, x0, rfl, lx0, nc0, cm0, kx0, px0⟩ := open_coins (hval 0 22 v0 rfl rfl) h0
  have lt1 : ∀ x ∈ p1, x.block < W.heap.size := by obtain ⟨m, hm⟩ := h1; exact DataW.trod_lt m _ _ _ hm
  obtain ⟨x1, rfl, kx1⟩ := open_tx (hval 1 26 v1 rfl rfl) h1
  clear hA0
  refine (law_first purseC x0 x1 a0 n0 c0 W lx0 nc0 cm0 kx0 px0 kx1 (tables_of_laid hL)).mono fun e W' ⟨he, bel⟩ => ?_
  subst he
  exact ⟨_, rfl, _, _, _, [], _, [], hW', trodAll_mk1 (shut_bool Tryd.underlying4 _), (trodAll_cons_mk (Below.trod laidOut (by kernel_rfl) (of_decide_eq_true (by kernel_rfl)) h0 bel lt0) (trodAll_cons_mk (Below.trod laidOut (by kernel_rfl) (of_decide_eq_true (by kernel_rfl)) h1 bel lt1) trodAll_mk0)), rfl, bel.frame _, fun h => by cases h⟩
def start : Array Value := #[.slice none 0 0, zeroX]
theorem reads (os : Os) {H : Type} (enc : TypeId × Value → H) : ∃ places, DataW.whole enc Tryd.prog ((laidWorld os).forCall (fun _ _ => 0) ⟨#[], start, []⟩).memory Tryd.f7.params.toList Rows.purseFirstSpec.vars false start.toList 8 = some ([.nil, zeroXD], [], places) :=
  ⟨[], by kernel_rfl⟩
set_option maxRecDepth 100000 in
theorem lifted (os : Os) (started : os.Started) (H : Type) (enc : TypeId × Value → H) (F : Stop.Interp) :
    ReturnsInHanded {} Tryd.checked os 7 .any ((OpenSpec.ofChange Rows.purseFirstSpec).preRow enc Tryd.prog Tryd.f7 Rows.purseFirstRow.domain false Rows.purseFirstRow.laid) (((OpenSpec.ofChange Rows.purseFirstSpec).at F).post enc Tryd.prog Tryd.f7 false true false false) := by
  obtain ⟨places, hx⟩ := reads os enc
  refine returnsInHanded_of_row (C := Tryd.checked) (s := OpenSpec.ofChange Rows.purseFirstSpec) own started (by kernel_rfl) Tryd.func7
    (witness_row_at (enc := enc) (C := Tryd.checked) false (laidWorld os) start rfl (by kernel_rfl) (by kernel_rfl) (by kernel_rfl)
      (OpenSpec.preRow_of_cond 8 hx (by kernel_rfl) (fun k hk => by cases hk) (by kernel_rfl) (laidMet_of_run' 8 (by kernel_rfl) (by kernel_rfl)))) ?_
  intro W base args ds gs before hval hW _ _ _ hL _ _
  exact contract H enc W base args ds gs before hval hW hL
theorem said : Rows.PurseFirstSaid :=
  OpenClaim.holds_of_cond 7 Tryd.f7 rfl rfl rfl rfl rfl rfl rfl ⟨rfl, rfl, rfl, rfl, rfl⟩ rfl rfl rfl rfl rfl (by kernel_rfl) Tryd.func7 (by kernel_rfl)
    (of_decide_eq_true (by kernel_rfl)) (by unfold Func.isWrapper; first | (rw [if_pos (by decide +kernel)]; kernel_rfl) | (rw [if_neg (by decide +kernel)]; exact ⟨rfl, rfl⟩))
    (fun os started H enc _ F => by rw [OpenClaim.pre_eq_preRow]; exact lifted os started H enc F)
theorem plain (f : FuncId) (fn : Func) (hf : Tryd.pinned.checked.prog.funcNamed "stepladder/stepladderlaw10.PurseFirst" = some f) (hfn : Tryd.pinned.checked.prog.funcs[f]? = some fn) :
    false = Tryd.pinned.checked.prog.looks [] ∧ ∀ (j : Nat) t, fn.params[j]? = some t → Tryd.pinned.checked.prog.wantsStandIn t = false := by
  obtain rfl : f = 7 := Option.some.inj ((show Tryd.prog.funcNamed "stepladder/stepladderlaw10.PurseFirst" = some 7 by kernel_rfl).symm.trans hf) |>.symm
  obtain rfl : fn = Tryd.f7 := (Option.some.inj (Tryd.func7.symm.trans hfn)).symm
  refine ⟨by kernel_rfl, fun j t ht => ?_⟩
  rw [Tryd.params7] at ht
  have hm : t = 22 ∨ t = 26 := by simpa using Array.mem_of_getElem? ht
  rcases hm with rfl | rfl
  · exact (show Tryd.prog.wantsStandIn 22 = false by kernel_rfl)
  · exact (show Tryd.prog.wantsStandIn 26 = false by kernel_rfl)
theorem card : Rows.PurseFirstCardSaid :=
  Claim7.holds_tied_plain_at .later [] _ _ _ _ said (fun _ h => by cases h) (by kernel_rfl) (fun _ h => by cases h) purseFirst_row_tie rfl ⟨rfl, rfl⟩ (by kernel_rfl) rfl plain (by kernel_rfl)
end Go.Proofs.YtabhhbdbkeeblaaDoor.purseFirst
