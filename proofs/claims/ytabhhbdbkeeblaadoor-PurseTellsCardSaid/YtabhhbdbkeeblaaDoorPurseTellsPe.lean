/- Part of a proof. -/
import Derived.Test.YtabhhbdbkeeblaaDoorPurseTellsPd
namespace Go.Proofs.YtabhhbdbkeeblaaDoor
set_option maxRecDepth 8000
open Go.RowKit
set_option maxRecDepth 20000 in
set_option maxHeartbeats 8000000 in
theorem rspendP_arg (p : List CoinR) (A : Option Addr) (n c : Nat) (r : TxR) (A1 : Option Addr) (n1 c1 : Nat) (A2 : Option Addr) (n2 c2 : Nat) (w : World) (hl : p.length = n) (hnc : n ≤ c) (hcm : c ≤ maxLen) (hI : okP p) (hA : CoinsIn w w.heap.size A p) (ht : TxOk w ⟨r, A1, n1, c1, A2, n2, c2⟩) (hbad : mayP p = false ∨ mayX r = false ∨ r.ins = []) :
    Calls Tryd.prog 13 #[.slice A n c, txV ⟨r, A1, n1, c1, A2, n2, c2⟩] w fun e w' => (∃ v, e = .returned (.tuple #[v, .int .i64 (spendP p r).2.1, .int .i64 ((spendP p r).2.2 : Int)]) ∧ CoSl w' v (spendP p r).1) ∧ Below w.heap.size w w' := by
  have HN63 : Hid (n < 9223372036854775808) := by show _ < _; unfold maxLen at hcm; omega
  have HM1 : Hid (n1 < 9223372036854775808) := ht.n63.1
  have E1 : Hid (EnvX w (w.alloc (.cells (txA ⟨r, A1, n1, c1, A2, n2, c2⟩) 26)) [(w.heap.size, Obj.cells (txA ⟨r, A1, n1, c1, A2, n2, c2⟩) 26 (0, 0))]) := (EnvX.start w).new _
  have HP0 : Hid (∀ u, Below w.heap.size w u → CoSl u (.slice A n c) p) := fun u hu => ⟨A, c, by rw [hl], by rw [hl]; exact hnc, hcm, CellsIn.up hA hu⟩
  have HMY : Hid (∀ u, Below w.heap.size w u → Calls Tryd.prog 17 #[.slice A n c] u fun e w' => e = .returned (.bool (mayP p)) ∧ Below u.heap.size u w') := fun u hu => rmayP_any p A n c u hl hnc hcm hI (CellsIn.up hA hu)
  have HTM : Hid (∀ u, Below w.heap.size w u → Calls Tryd.prog 27 #[txV ⟨r, A1, n1, c1, A2, n2, c2⟩] u fun e w' => e = .returned (.bool (mayX r)) ∧ Below u.heap.size u w') := fun u hu => rmayX_any r A1 n1 c1 A2 n2 c2 u (ht.up hu)
  have HF : Hid (spendP p r = (p, 0, 1)) := by
    rcases hbad with h | h | h
    · exact spend_arg1 h
    · exact spend_arg2 h
    · exact spend_arg3 h
  have hl1 : r.ins.length = n1 := ht.l1
  have D10 : Hid (mayP p = true → mayX r = true → decide ((n1 : Int) = 0) = true) := fun h1 h2 => by
    rcases hbad with h | h | h
    · rw [h] at h1; cases h1
    · rw [h] at h2; cases h2
    · rw [h] at hl1; exact decide_eq_true (by simp at hl1; omega)
  clear hbad hl hnc hcm hI hA ht hl1
  cases k1 : mayP p with
  | false =>
    rw [k1] at HMY
    cases k2 : mayX r with
    | false =>
      rw [k2] at HTM
      clear D10 k1 k2
      unfold txV at *
      go_enter Tryd.func13, Tryd.ntmps13
      go_upto_region 1 with (fail)
      generalize w.alloc (.cells (txA ⟨r, A1, n1, c1, A2, n2, c2⟩) 26) = W at *
      go_upto_region 1 with (fail)
      refine wp_region_Hx (w0 := w) [0, 1, 2] [(w.heap.size, Obj.cells (txA ⟨r, A1, n1, c1, A2, n2, c2⟩) 26 (0, 0))] rfl E1.out ?_
      refine lexH_phase [0, 1, 2] [] ?_
      have hw1 : EnvX w _ [(w.heap.size, Obj.cells (txA ⟨r, A1, n1, c1, A2, n2, c2⟩) 26 (0, 0))] := E1.out
      have hone := @EnvC.one _ _ _ hw1
      (refine wpG_op rfl rfl rfl ?_; intro K hK; go_big_quiet_op; go_big_quiet_on)
      (refine wpG_call (f := 17) (args := #[.slice A n c]) (v := .bool false) rfl rfl rfl Tryd.func17 rfl rfl (fun u hu => HMY.out u (EnvX.bel hu)) ?_ hw1; intro K hK; go_big_quiet_op; go_big_quiet_on)
      (refine wpG_op rfl rfl rfl ?_; intro K hK; go_big_quiet_op; go_big_quiet_on)
      clear hone hw1
      refine wpG_nil ?_
      intro u3 E2'
      have EX2 := Lib.hid E2'
      clear E2'
      go_upto_region 2 with (fail)
      refine wp_region_Hx (w0 := w) [0, 1, 2] [(w.heap.size, Obj.cells (txA ⟨r, A1, n1, c1, A2, n2, c2⟩) 26 (0, 0))] rfl EX2.out ?_
      refine lexH_phase [0, 1, 2] [] ?_
      have hw4 : EnvX w _ [(w.heap.size, Obj.cells (txA ⟨r, A1, n1, c1, A2, n2, c2⟩) 26 (0, 0))] := EX2.out
      have hone := @EnvC.one _ _ _ hw4
      (refine wpG_val (v := .agg (txA ⟨r, A1, n1, c1, A2, n2, c2⟩)) rfl rfl (fun u hu => load_any_op u (box_tx hu (List.Mem.head _)) rfl) ?_ hw4; intro K hK; go_big_quiet_op; go_big_quiet_on)
      (refine wpG_call (f := 27) (args := #[.agg (txA ⟨r, A1, n1, c1, A2, n2, c2⟩)]) (v := .bool false) rfl rfl rfl Tryd.func27 rfl rfl (fun u hu => HTM.out u (EnvX.bel hu)) ?_ hw4; intro K hK; go_big_quiet_op; go_big_quiet_on)
      (refine wpG_op rfl rfl rfl ?_; intro K hK; go_big_quiet_op; go_big_quiet_on)
      clear hone hw4
      refine wpG_nil ?_
      intro u6 E2'
      have EX5 := Lib.hid E2'
      clear E2'
      go_upto_region 3 with (fail)
      refine wp_region_Hx (w0 := w) [0, 1, 2, 3, 4, 5, 6, 7, 8, 9, 10, 11] [(w.heap.size, Obj.cells (txA ⟨r, A1, n1, c1, A2, n2, c2⟩) 26 (0, 0))] rfl EX5.out ?_
      refine lexH_phase [0, 1, 2, 3, 4, 5, 6, 7, 8, 9, 10, 11] [] ?_
      have hw7 : EnvX w _ [(w.heap.size, Obj.cells (txA ⟨r, A1, n1, c1, A2, n2, c2⟩) 26 (0, 0))] := EX5.out
      have hone := @EnvC.one _ _ _ hw7
      iterate 3 (refine wpG_op rfl rfl rfl ?_; intro K hK; go_big_quiet_op; go_big_quiet_on)
      iterate 2 (refine wpG_skip rfl rfl ?_ hw7; intro K hK; go_big_quiet_op; go_big_quiet_on)
      iterate 2 (refine wpG_op rfl rfl rfl ?_; intro K hK; go_big_quiet_op; go_big_quiet_on)
      iterate 4 (refine wpG_skip rfl rfl ?_ hw7; intro K hK; go_big_quiet_op; go_big_quiet_on)
      (refine wpG_op rfl rfl rfl ?_; intro K hK; go_big_quiet_op; go_big_quiet_on)
      clear hone hw7
      refine wpG_nil ?_
      intro u9 E2'
      have EX8 := Lib.hid E2'
      clear E2'
      go_upto_region 4 with (fail)
      refine wp_region_Hx (w0 := w) [0, 1, 2, 3] [(w.heap.size, Obj.cells (txA ⟨r, A1, n1, c1, A2, n2, c2⟩) 26 (0, 0))] rfl EX8.out ?_
      refine lexH_phase [0, 1, 2, 3] [] ?_
      have hw10 : EnvX w _ [(w.heap.size, Obj.cells (txA ⟨r, A1, n1, c1, A2, n2, c2⟩) 26 (0, 0))] := EX8.out
      have hone := @EnvC.one _ _ _ hw10
      iterate 4 (refine wpG_op rfl rfl rfl ?_; intro K hK; go_big_quiet_op; go_big_quiet_on)
      clear hone hw10
      refine wpG_nil ?_
      intro u12 E2'
      have EX11 := Lib.hid E2'
      clear E2'
      have HBE : Hid (Below w.heap.size w u12) := EnvX.bel EX11.out
      have HR0 := Lib.hid (HP0.out _ HBE.out)
      go_wp2
      go_returns
      exact ⟨⟨.slice A n c, by rw [HF.out]; rfl, by rw [HF.out]; exact HR0.out⟩, HBE.out⟩
    | true =>
      rw [k2] at HTM
      clear D10 k1 k2
      unfold txV at *
      go_enter Tryd.func13, Tryd.ntmps13
      go_upto_region 1 with (fail)
      generalize w.alloc (.cells (txA ⟨r, A1, n1, c1, A2, n2, c2⟩) 26) = W at *
      go_upto_region 1 with (fail)
      refine wp_region_Hx (w0 := w) [0, 1, 2] [(w.heap.size, Obj.cells (txA ⟨r, A1, n1, c1, A2, n2, c2⟩) 26 (0, 0))] rfl E1.out ?_
      refine lexH_phase [0, 1, 2] [] ?_
      have hw1 : EnvX w _ [(w.heap.size, Obj.cells (txA ⟨r, A1, n1, c1, A2, n2, c2⟩) 26 (0, 0))] := E1.out
      have hone := @EnvC.one _ _ _ hw1
      (refine wpG_op rfl rfl rfl ?_; intro K hK; go_big_quiet_op; go_big_quiet_on)
      (refine wpG_call (f := 17) (args := #[.slice A n c]) (v := .bool false) rfl rfl rfl Tryd.func17 rfl rfl (fun u hu => HMY.out u (EnvX.bel hu)) ?_ hw1; intro K hK; go_big_quiet_op; go_big_quiet_on)
      (refine wpG_op rfl rfl rfl ?_; intro K hK; go_big_quiet_op; go_big_quiet_on)
      clear hone hw1
      refine wpG_nil ?_
      intro u3 E2'
      have EX2 := Lib.hid E2'
      clear E2'
      go_upto_region 2 with (fail)
      refine wp_region_Hx (w0 := w) [0, 1, 2] [(w.heap.size, Obj.cells (txA ⟨r, A1, n1, c1, A2, n2, c2⟩) 26 (0, 0))] rfl EX2.out ?_
      refine lexH_phase [0, 1, 2] [] ?_
      have hw4 : EnvX w _ [(w.heap.size, Obj.cells (txA ⟨r, A1, n1, c1, A2, n2, c2⟩) 26 (0, 0))] := EX2.out
      have hone := @EnvC.one _ _ _ hw4
      (refine wpG_val (v := .agg (txA ⟨r, A1, n1, c1, A2, n2, c2⟩)) rfl rfl (fun u hu => load_any_op u (box_tx hu (List.Mem.head _)) rfl) ?_ hw4; intro K hK; go_big_quiet_op; go_big_quiet_on)
      (refine wpG_call (f := 27) (args := #[.agg (txA ⟨r, A1, n1, c1, A2, n2, c2⟩)]) (v := .bool true) rfl rfl rfl Tryd.func27 rfl rfl (fun u hu => HTM.out u (EnvX.bel hu)) ?_ hw4; intro K hK; go_big_quiet_op; go_big_quiet_on)
      (refine wpG_op rfl rfl rfl ?_; intro K hK; go_big_quiet_op; go_big_quiet_on)
      clear hone hw4
      refine wpG_nil ?_
      intro u6 E2'
      have EX5 := Lib.hid E2'
      clear E2'
      go_upto_region 3 with (fail)
      refine wp_region_Hx (w0 := w) [0, 1, 2, 3, 4, 5, 6, 7, 8, 9, 10, 11] [(w.heap.size, Obj.cells (txA ⟨r, A1, n1, c1, A2, n2, c2⟩) 26 (0, 0))] rfl EX5.out ?_
      refine lexH_phase [0, 1, 2, 3, 4, 5, 6, 7, 8, 9, 10, 11] [] ?_
      have hw7 : EnvX w _ [(w.heap.size, Obj.cells (txA ⟨r, A1, n1, c1, A2, n2, c2⟩) 26 (0, 0))] := EX5.out
      have hone := @EnvC.one _ _ _ hw7
      iterate 3 (refine wpG_op rfl rfl rfl ?_; intro K hK; go_big_quiet_op; go_big_quiet_on)
      iterate 2 (refine wpG_skip rfl rfl ?_ hw7; intro K hK; go_big_quiet_op; go_big_quiet_on)
      iterate 2 (refine wpG_op rfl rfl rfl ?_; intro K hK; go_big_quiet_op; go_big_quiet_on)
      iterate 4 (refine wpG_skip rfl rfl ?_ hw7; intro K hK; go_big_quiet_op; go_big_quiet_on)
      (refine wpG_op rfl rfl rfl ?_; intro K hK; go_big_quiet_op; go_big_quiet_on)
      clear hone hw7
      refine wpG_nil ?_
      intro u9 E2'
      have EX8 := Lib.hid E2'
      clear E2'
      go_upto_region 4 with (fail)
      refine wp_region_Hx (w0 := w) [0, 1, 2, 3] [(w.heap.size, Obj.cells (txA ⟨r, A1, n1, c1, A2, n2, c2⟩) 26 (0, 0))] rfl EX8.out ?_
      refine lexH_phase [0, 1, 2, 3] [] ?_
      have hw10 : EnvX w _ [(w.heap.size, Obj.cells (txA ⟨r, A1, n1, c1, A2, n2, c2⟩) 26 (0, 0))] := EX8.out
      have hone := @EnvC.one _ _ _ hw10
      iterate 4 (refine wpG_op rfl rfl rfl ?_; intro K hK; go_big_quiet_op; go_big_quiet_on)
      clear hone hw10
      refine wpG_nil ?_
      intro u12 E2'
      have EX11 := Lib.hid E2'
      clear E2'
      have HBE : Hid (Below w.heap.size w u12) := EnvX.bel EX11.out
      have HR0 := Lib.hid (HP0.out _ HBE.out)
      go_wp2
      go_returns
      exact ⟨⟨.slice A n c, by rw [HF.out]; rfl, by rw [HF.out]; exact HR0.out⟩, HBE.out⟩
  | true =>
    rw [k1] at HMY
    cases k2 : mayX r with
    | false =>
      rw [k2] at HTM
      clear D10 k1 k2
      unfold txV at *
      go_enter Tryd.func13, Tryd.ntmps13
      go_upto_region 1 with (fail)
      generalize w.alloc (.cells (txA ⟨r, A1, n1, c1, A2, n2, c2⟩) 26) = W at *
      go_upto_region 1 with (fail)
      refine wp_region_Hx (w0 := w) [0, 1, 2] [(w.heap.size, Obj.cells (txA ⟨r, A1, n1, c1, A2, n2, c2⟩) 26 (0, 0))] rfl E1.out ?_
      refine lexH_phase [0, 1, 2] [] ?_
      have hw1 : EnvX w _ [(w.heap.size, Obj.cells (txA ⟨r, A1, n1, c1, A2, n2, c2⟩) 26 (0, 0))] := E1.out
      have hone := @EnvC.one _ _ _ hw1
      (refine wpG_op rfl rfl rfl ?_; intro K hK; go_big_quiet_op; go_big_quiet_on)
      (refine wpG_call (f := 17) (args := #[.slice A n c]) (v := .bool true) rfl rfl rfl Tryd.func17 rfl rfl (fun u hu => HMY.out u (EnvX.bel hu)) ?_ hw1; intro K hK; go_big_quiet_op; go_big_quiet_on)
      (refine wpG_op rfl rfl rfl ?_; intro K hK; go_big_quiet_op; go_big_quiet_on)
      clear hone hw1
      refine wpG_nil ?_
      intro u3 E2'
      have EX2 := Lib.hid E2'
      clear E2'
      go_upto_region 2 with (fail)
      refine wp_region_Hx (w0 := w) [0, 1, 2] [(w.heap.size, Obj.cells (txA ⟨r, A1, n1, c1, A2, n2, c2⟩) 26 (0, 0))] rfl EX2.out ?_
      refine lexH_phase [0, 1, 2] [] ?_
      have hw4 : EnvX w _ [(w.heap.size, Obj.cells (txA ⟨r, A1, n1, c1, A2, n2, c2⟩) 26 (0, 0))] := EX2.out
      have hone := @EnvC.one _ _ _ hw4
      (refine wpG_val (v := .agg (txA ⟨r, A1, n1, c1, A2, n2, c2⟩)) rfl rfl (fun u hu => load_any_op u (box_tx hu (List.Mem.head _)) rfl) ?_ hw4; intro K hK; go_big_quiet_op; go_big_quiet_on)
      (refine wpG_call (f := 27) (args := #[.agg (txA ⟨r, A1, n1, c1, A2, n2, c2⟩)]) (v := .bool false) rfl rfl rfl Tryd.func27 rfl rfl (fun u hu => HTM.out u (EnvX.bel hu)) ?_ hw4; intro K hK; go_big_quiet_op; go_big_quiet_on)
      (refine wpG_op rfl rfl rfl ?_; intro K hK; go_big_quiet_op; go_big_quiet_on)
      clear hone hw4
      refine wpG_nil ?_
      intro u6 E2'
      have EX5 := Lib.hid E2'
      clear E2'
      go_upto_region 3 with (fail)
      refine wp_region_Hx (w0 := w) [0, 1, 2, 3, 4, 5, 6, 7, 8, 9, 10, 11] [(w.heap.size, Obj.cells (txA ⟨r, A1, n1, c1, A2, n2, c2⟩) 26 (0, 0))] rfl EX5.out ?_
      refine lexH_phase [0, 1, 2, 3, 4, 5, 6, 7, 8, 9, 10, 11] [] ?_
      have hw7 : EnvX w _ [(w.heap.size, Obj.cells (txA ⟨r, A1, n1, c1, A2, n2, c2⟩) 26 (0, 0))] := EX5.out
      have hone := @EnvC.one _ _ _ hw7
      iterate 7 (refine wpG_op rfl rfl rfl ?_; intro K hK; go_big_quiet_op; go_big_quiet_on)
      iterate 4 (refine wpG_skip rfl rfl ?_ hw7; intro K hK; go_big_quiet_op; go_big_quiet_on)
      (refine wpG_op rfl rfl rfl ?_; intro K hK; go_big_quiet_op; go_big_quiet_on)
      clear hone hw7
      refine wpG_nil ?_
      intro u9 E2'
      have EX8 := Lib.hid E2'
      clear E2'
      go_upto_region 4 with (fail)
      refine wp_region_Hx (w0 := w) [0, 1, 2, 3] [(w.heap.size, Obj.cells (txA ⟨r, A1, n1, c1, A2, n2, c2⟩) 26 (0, 0))] rfl EX8.out ?_
      refine lexH_phase [0, 1, 2, 3] [] ?_
      have hw10 : EnvX w _ [(w.heap.size, Obj.cells (txA ⟨r, A1, n1, c1, A2, n2, c2⟩) 26 (0, 0))] := EX8.out
      have hone := @EnvC.one _ _ _ hw10
      iterate 4 (refine wpG_op rfl rfl rfl ?_; intro K hK; go_big_quiet_op; go_big_quiet_on)
      clear hone hw10
      refine wpG_nil ?_
      intro u12 E2'
      have EX11 := Lib.hid E2'
      clear E2'
      have HBE : Hid (Below w.heap.size w u12) := EnvX.bel EX11.out
      have HR0 := Lib.hid (HP0.out _ HBE.out)
      go_wp2
      go_returns
      exact ⟨⟨.slice A n c, by rw [HF.out]; rfl, by rw [HF.out]; exact HR0.out⟩, HBE.out⟩
    | true =>
      rw [k2] at HTM
      replace D10 : Hid (decide ((n1 : Int) = 0) = true) := D10.out k1 k2
      clear k1 k2
      unfold txV at *
      go_enter Tryd.func13, Tryd.ntmps13
      go_upto_region 1 with (fail)
      generalize w.alloc (.cells (txA ⟨r, A1, n1, c1, A2, n2, c2⟩) 26) = W at *
      go_upto_region 1 with (fail)
      refine wp_region_Hx (w0 := w) [0, 1, 2] [(w.heap.size, Obj.cells (txA ⟨r, A1, n1, c1, A2, n2, c2⟩) 26 (0, 0))] rfl E1.out ?_
      refine lexH_phase [0, 1, 2] [] ?_
      have hw1 : EnvX w _ [(w.heap.size, Obj.cells (txA ⟨r, A1, n1, c1, A2, n2, c2⟩) 26 (0, 0))] := E1.out
      have hone := @EnvC.one _ _ _ hw1
      (refine wpG_op rfl rfl rfl ?_; intro K hK; go_big_quiet_op; go_big_quiet_on)
      (refine wpG_call (f := 17) (args := #[.slice A n c]) (v := .bool true) rfl rfl rfl Tryd.func17 rfl rfl (fun u hu => HMY.out u (EnvX.bel hu)) ?_ hw1; intro K hK; go_big_quiet_op; go_big_quiet_on)
      (refine wpG_op rfl rfl rfl ?_; intro K hK; go_big_quiet_op; go_big_quiet_on)
      clear hone hw1
      refine wpG_nil ?_
      intro u3 E2'
      have EX2 := Lib.hid E2'
      clear E2'
      go_upto_region 2 with (fail)
      refine wp_region_Hx (w0 := w) [0, 1, 2] [(w.heap.size, Obj.cells (txA ⟨r, A1, n1, c1, A2, n2, c2⟩) 26 (0, 0))] rfl EX2.out ?_
      refine lexH_phase [0, 1, 2] [] ?_
      have hw4 : EnvX w _ [(w.heap.size, Obj.cells (txA ⟨r, A1, n1, c1, A2, n2, c2⟩) 26 (0, 0))] := EX2.out
      have hone := @EnvC.one _ _ _ hw4
      (refine wpG_val (v := .agg (txA ⟨r, A1, n1, c1, A2, n2, c2⟩)) rfl rfl (fun u hu => load_any_op u (box_tx hu (List.Mem.head _)) rfl) ?_ hw4; intro K hK; go_big_quiet_op; go_big_quiet_on)
      (refine wpG_call (f := 27) (args := #[.agg (txA ⟨r, A1, n1, c1, A2, n2, c2⟩)]) (v := .bool true) rfl rfl rfl Tryd.func27 rfl rfl (fun u hu => HTM.out u (EnvX.bel hu)) ?_ hw4; intro K hK; go_big_quiet_op; go_big_quiet_on)
      (refine wpG_op rfl rfl rfl ?_; intro K hK; go_big_quiet_op; go_big_quiet_on)
      clear hone hw4
      refine wpG_nil ?_
      intro u6 E2'
      have EX5 := Lib.hid E2'
      clear E2'
      go_upto_region 3 with (fail)
      refine wp_region_Hx (w0 := w) [0, 1, 2, 3, 4, 5, 6, 7, 8, 9, 10, 11] [(w.heap.size, Obj.cells (txA ⟨r, A1, n1, c1, A2, n2, c2⟩) 26 (0, 0))] rfl EX5.out ?_
      refine lexH_phase [0, 1, 2, 3, 4, 5, 6, 7, 8, 9, 10, 11] [] ?_
      have hw7 : EnvX w _ [(w.heap.size, Obj.cells (txA ⟨r, A1, n1, c1, A2, n2, c2⟩) 26 (0, 0))] := EX5.out
      have hone := @EnvC.one _ _ _ hw7
      iterate 7 (refine wpG_op rfl rfl rfl ?_; intro K hK; go_big_quiet_op; go_big_quiet_on)
      (refine wpG_val (v := .pointer (some ⟨w.heap.size, 0, none⟩)) rfl rfl (fun u hu => fieldTx_op (k := 0) (off := 0) (ad := ⟨w.heap.size, 0, none⟩) rfl u rfl) ?_ hw7; intro K hK; go_big_quiet_op; go_big_quiet_on)
      (refine wpG_val (v := .slice A1 n1 c1) rfl rfl (fun u hu => load_any_op u (box_tx_ins hu (List.Mem.head _)) rfl) ?_ hw7; intro K hK; go_big_quiet_op; go_big_quiet_on)
      (refine wpG_val (v := .int .i64 (n1 : Int)) rfl rfl (fun u hu => len_op Tryd.underlying23 HM1.out u rfl) ?_ hw7; intro K hK; go_big_quiet_op; go_big_quiet_on)
      (refine wpG_val (v := .bool true) rfl rfl (fun u hu => eqlI_op u D10.out rfl rfl) ?_ hw7; intro K hK; go_big_quiet_op; go_big_quiet_on)
      (refine wpG_op rfl rfl rfl ?_; intro K hK; go_big_quiet_op; go_big_quiet_on)
      clear hone hw7
      refine wpG_nil ?_
      intro u9 E2'
      have EX8 := Lib.hid E2'
      clear E2'
      go_upto_region 4 with (fail)
      refine wp_region_Hx (w0 := w) [0, 1, 2, 3] [(w.heap.size, Obj.cells (txA ⟨r, A1, n1, c1, A2, n2, c2⟩) 26 (0, 0))] rfl EX8.out ?_
      refine lexH_phase [0, 1, 2, 3] [] ?_
      have hw10 : EnvX w _ [(w.heap.size, Obj.cells (txA ⟨r, A1, n1, c1, A2, n2, c2⟩) 26 (0, 0))] := EX8.out
      have hone := @EnvC.one _ _ _ hw10
      iterate 4 (refine wpG_op rfl rfl rfl ?_; intro K hK; go_big_quiet_op; go_big_quiet_on)
      clear hone hw10
      refine wpG_nil ?_
      intro u12 E2'
      have EX11 := Lib.hid E2'
      clear E2'
      have HBE : Hid (Below w.heap.size w u12) := EnvX.bel EX11.out
      have HR0 := Lib.hid (HP0.out _ HBE.out)
      go_wp2
      go_returns
      exact ⟨⟨.slice A n c, by rw [HF.out]; rfl, by rw [HF.out]; exact HR0.out⟩, HBE.out⟩
set_option maxRecDepth 20000 in
set_option maxHeartbeats 16000000 in
theorem rspendP_main (p : List CoinR) (A : Option Addr) (n c : Nat) (r : TxR) (A1 : Option Addr) (n1 c1 : Nat) (A2 : Option Addr) (n2 c2 : Nat) (w : World) (hl : p.length = n) (hnc : n ≤ c) (hcm : c ≤ maxLen) (hI : okP p) (hA : CoinsIn w w.heap.size A p) (ht : TxOk w ⟨r, A1, n1, c1, A2, n2, c2⟩) (k1 : mayP p = true) (k2 : mayX r = true) (k3 : r.ins ≠ []) :
    Calls Tryd.prog 13 #[.slice A n c, txV ⟨r, A1, n1, c1, A2, n2, c2⟩] w fun e w' => (∃ v, e = .returned (.tuple #[v, .int .i64 (spendP p r).2.1, .int .i64 ((spendP p r).2.2 : Int)]) ∧ CoSl w' v (spendP p r).1) ∧ Below w.heap.size w w' := by
  have HN63 : Hid (n < 9223372036854775808) := by show _ < _; unfold maxLen at hcm; omega
  have HM1 : Hid (n1 < 9223372036854775808) := ht.n63.1
  have E1 : Hid (EnvX w (w.alloc (.cells (txA ⟨r, A1, n1, c1, A2, n2, c2⟩) 26)) [(w.heap.size, Obj.cells (txA ⟨r, A1, n1, c1, A2, n2, c2⟩) 26 (0, 0))]) := (EnvX.start w).new _
  have HP0 : Hid (∀ u, Below w.heap.size w u → CoSl u (.slice A n c) p) := fun u hu => ⟨A, c, by rw [hl], by rw [hl]; exact hnc, hcm, CellsIn.up hA hu⟩
  have HMY : Hid (∀ u, Below w.heap.size w u → Calls Tryd.prog 17 #[.slice A n c] u fun e w' => e = .returned (.bool (mayP p)) ∧ Below u.heap.size u w') := fun u hu => rmayP_any p A n c u hl hnc hcm hI (CellsIn.up hA hu)
  have HTM : Hid (∀ u, Below w.heap.size w u → Calls Tryd.prog 27 #[txV ⟨r, A1, n1, c1, A2, n2, c2⟩] u fun e w' => e = .returned (.bool (mayX r)) ∧ Below u.heap.size u w') := fun u hu => rmayX_any r A1 n1 c1 A2 n2 c2 u (ht.up hu)
  rw [k1] at HMY
  rw [k2] at HTM
  have hl1 : r.ins.length = n1 := ht.l1
  have hn1 : 0 < n1 := by
    rcases Nat.eq_zero_or_pos n1 with h | h
    · rw [h] at hl1; exact absurd (List.eq_nil_of_length_eq_zero hl1) k3
    · exact h
  have hm3 := (mayX_iff.1 k2).1
  rw [hl1] at hm3
  have HM3 : Hid (n1 ≤ 3) := hm3
  have D10 : Hid (decide ((n1 : Int) = 0) = false) := decide_eq_false (by omega)
  have HK := Lib.hid (And.intro k1 (And.intro k2 k3))
  have HL1 := Lib.hid hl1
  have HT := Lib.hid ht
  have HPP := Lib.hid hI
  have HN48 : Hid (n ≤ 48) := by show _ ≤ _; rw [← hl]; exact (mayP_iff.1 k1).1
  have HLN := Lib.hid hl
  have HCP : Hid (CoinsIn w w.heap.size A p) := hA
  clear hl hnc hcm hI hA ht hl1 hn1 hm3 k1 k2 k3
  unfold txV at *
  go_enter Tryd.func13, Tryd.ntmps13
  go_upto_region 1 with (fail)
  generalize w.alloc (.cells (txA ⟨r, A1, n1, c1, A2, n2, c2⟩) 26) = W at *
  go_upto_region 1 with (fail)
  refine wp_region_Hx (w0 := w) [0, 1, 2] [(w.heap.size, Obj.cells (txA ⟨r, A1, n1, c1, A2, n2, c2⟩) 26 (0, 0))] rfl E1.out ?_
  refine lexH_phase [0, 1, 2] [] ?_
  have hw1 : EnvX w _ [(w.heap.size, Obj.cells (txA ⟨r, A1, n1, c1, A2, n2, c2⟩) 26 (0, 0))] := E1.out
  have hone := @EnvC.one _ _ _ hw1
  (refine wpG_op rfl rfl rfl ?_; intro K hK; go_big_quiet_op; go_big_quiet_on)
  (refine wpG_call (f := 17) (args := #[.slice A n c]) (v := .bool true) rfl rfl rfl Tryd.func17 rfl rfl (fun u hu => HMY.out u (EnvX.bel hu)) ?_ hw1; intro K hK; go_big_quiet_op; go_big_quiet_on)
  (refine wpG_op rfl rfl rfl ?_; intro K hK; go_big_quiet_op; go_big_quiet_on)
  clear hone hw1
  refine wpG_nil ?_
  intro u3 E2'
  have EX2 := Lib.hid E2'
  clear E2'
  go_upto_region 2 with (fail)
  refine wp_region_Hx (w0 := w) [0, 1, 2] [(w.heap.size, Obj.cells (txA ⟨r, A1, n1, c1, A2, n2, c2⟩) 26 (0, 0))] rfl EX2.out ?_
  refine lexH_phase [0, 1, 2] [] ?_
  have hw4 : EnvX w _ [(w.heap.size, Obj.cells (txA ⟨r, A1, n1, c1, A2, n2, c2⟩) 26 (0, 0))] := EX2.out
  have hone := @EnvC.one _ _ _ hw4
  (refine wpG_val (v := .agg (txA ⟨r, A1, n1, c1, A2, n2, c2⟩)) rfl rfl (fun u hu => load_any_op u (box_tx hu (List.Mem.head _)) rfl) ?_ hw4; intro K hK; go_big_quiet_op; go_big_quiet_on)
  (refine wpG_call (f := 27) (args := #[.agg (txA ⟨r, A1, n1, c1, A2, n2, c2⟩)]) (v := .bool true) rfl rfl rfl Tryd.func27 rfl rfl (fun u hu => HTM.out u (EnvX.bel hu)) ?_ hw4; intro K hK; go_big_quiet_op; go_big_quiet_on)
  (refine wpG_op rfl rfl rfl ?_; intro K hK; go_big_quiet_op; go_big_quiet_on)
  clear hone hw4
  refine wpG_nil ?_
  intro u6 E2'
  have EX5 := Lib.hid E2'
  clear E2'
  go_upto_region 3 with (fail)
  refine wp_region_Hx (w0 := w) [0, 1, 2, 3, 4, 5, 6, 7, 8, 9, 10, 11] [(w.heap.size, Obj.cells (txA ⟨r, A1, n1, c1, A2, n2, c2⟩) 26 (0, 0))] rfl EX5.out ?_
  refine lexH_phase [0, 1, 2, 3, 4, 5, 6, 7, 8, 9, 10, 11] [] ?_
  have hw7 : EnvX w _ [(w.heap.size, Obj.cells (txA ⟨r, A1, n1, c1, A2, n2, c2⟩) 26 (0, 0))] := EX5.out
  have hone := @EnvC.one _ _ _ hw7
  iterate 7 (refine wpG_op rfl rfl rfl ?_; intro K hK; go_big_quiet_op; go_big_quiet_on)
  (refine wpG_val (v := .pointer (some ⟨w.heap.size, 0, none⟩)) rfl rfl (fun u hu => fieldTx_op (k := 0) (off := 0) (ad := ⟨w.heap.size, 0, none⟩) rfl u rfl) ?_ hw7; intro K hK; go_big_quiet_op; go_big_quiet_on)
  (refine wpG_val (v := .slice A1 n1 c1) rfl rfl (fun u hu => load_any_op u (box_tx_ins hu (List.Mem.head _)) rfl) ?_ hw7; intro K hK; go_big_quiet_op; go_big_quiet_on)
  (refine wpG_val (v := .int .i64 (n1 : Int)) rfl rfl (fun u hu => len_op Tryd.underlying23 HM1.out u rfl) ?_ hw7; intro K hK; go_big_quiet_op; go_big_quiet_on)
  (refine wpG_val (v := .bool false) rfl rfl (fun u hu => eqlI_op u D10.out rfl rfl) ?_ hw7; intro K hK; go_big_quiet_op; go_big_quiet_on)
  (refine wpG_op rfl rfl rfl ?_; intro K hK; go_big_quiet_op; go_big_quiet_on)
  clear hone hw7
  refine wpG_nil ?_
  intro u9 E2'
  have EX8 := Lib.hid E2'
  clear E2'
  go_upto_region 5 with (fail)
  refine wp_region_Hx (w0 := w) [0, 1, 2] [(w.heap.size, Obj.cells (txA ⟨r, A1, n1, c1, A2, n2, c2⟩) 26 (0, 0))] rfl EX8.out ?_
  refine lexH_phase [0] [1, 2] ?_
  have hw10 : EnvX w _ [(w.heap.size, Obj.cells (txA ⟨r, A1, n1, c1, A2, n2, c2⟩) 26 (0, 0))] := EX8.out
  have hone := @EnvC.one _ _ _ hw10
  (refine wpG_op rfl rfl rfl ?_; intro K hK; go_big_quiet_op; go_big_quiet_on)
  clear hone hw10
  refine wpG_nil ?_
  refine (hOp_fresh (R := FreshR 50 35 n (p.map coC).flatten) (M0 := [(w.heap.size, Obj.cells (txA ⟨r, A1, n1, c1, A2, n2, c2⟩) 26 (0, 0))]) rfl rfl (fun _ h => h) (fun u hu => FAt_appC elCo (by rw [flat35 HPP.out.lens, HLN.out]) (coins_one _) (CellsIn.up HCP.out (EnvX.bel hu)) (by have := HN48.out; omega) rfl) ?_)
  rintro x0 N0 hF hf he11; intro K' hK'; go_big_quiet_op; go_big_quiet_on
  have HF0 := Lib.hid hF
  clear hF
  clear hf
  change lexH _ _ _ _ _ _ (N0 ++ ((w.heap.size, Obj.cells (txA ⟨r, A1, n1, c1, A2, n2, c2⟩) 26 (0, 0)) :: []))
  refine lexH_phase [2] [] ?_
  have hw12 : EnvX w _ (N0 ++ ((w.heap.size, Obj.cells (txA ⟨r, A1, n1, c1, A2, n2, c2⟩) 26 (0, 0)) :: [])) := he11.choose_spec
  have hone := @EnvC.one _ _ _ hw12
  (refine wpG_op rfl rfl rfl ?_; intro K hK; go_big_quiet_op; go_big_quiet_on)
  clear hone hw12
  refine wpG_nil ?_
  intro u14 E2'
  have EX13 := Lib.hid E2'
  clear E2'
  have HINV : Hid (takeP p (r.ins.take 0) = some (p, 0) ∧ CoSl u14 x0 p ∧ EnvX w u14 [(w.heap.size, Obj.cells (txA ⟨r, A1, n1, c1, A2, n2, c2⟩) 26 (0, 0))]) := by
    refine ⟨rfl, ?_, EX13.out.sub (fun _ h => List.mem_append_right _ h)⟩
    obtain ⟨A3, c3, rfl, k1, k2⟩ := FreshR.formC HF0.out
    refine ⟨A3, c3, by rw [HLN.out], by rw [HLN.out]; exact k1, k2, own_cells (HF0.out.own (B := 0) (by rw [flat35 HPP.out.lens, HLN.out]) (fun y hy => ⟨Nat.zero_le _, EnvX.box EX13.out _ _ (List.mem_append_left _ hy)⟩))⟩
  clear EX13 E1 HF0
  go_upto_region 8 with (fail)
  go_loopw [9, 10, 11] (fun lv nv iv u => ∃ (i : Nat) (l : List CoinR) (m : Int), i ≤ n1 ∧ iv = .int .i64 (i : Int) ∧ nv = .int .i64 m ∧ Hid (takeP p (r.ins.take i) = some (l, m) ∧ CoSl u lv l ∧ EnvX w u [(w.heap.size, Obj.cells (txA ⟨r, A1, n1, c1, A2, n2, c2⟩) 26 (0, 0))])) (fun _ _ iv _ => n1 - (intOf iv).toNat)
  case atStart => exact ⟨0, p, 0, by omega, rfl, rfl, HINV⟩
  case round =>
    obtain ⟨i, l, m, hi, rfl, rfl, hinv⟩ := hrel
    obtain ⟨htk, ⟨A3, c3, rfl, hc1, hc2, hc3⟩, hE⟩ := hinv.out
    have EB := Lib.hid hE
    have EK : Hid (EnvX wr wr []) := EnvX.start wr
    have htb := take_bounds HK.out.1 HPP.out htk
    have HTB := Lib.hid htb
    have HTK := Lib.hid htk
    have HC3 : Hid (CoinsIn wr wr.heap.size A3 l) := hc3
    have HCC := Lib.hid (And.intro hc1 hc2)
    have HLC : Hid (l.length < 9223372036854775808) := by show _ < _; omega
    have HBL : Hid (∀ u, EnvX wr u [] → Below w.heap.size w u) := fun u hu => (EnvX.below EB.out (EnvX.bel hu)).bel
    have HLT : Hid (∀ u, EnvX wr u [] → (loadVar 26 ⟨w.heap.size, 0, none⟩).run Tryd.prog u = .ok (.agg (txA ⟨r, A1, n1, c1, A2, n2, c2⟩)) u) := fun u hu => box_tx (EnvX.below EB.out (EnvX.bel hu)) (List.Mem.head _)
    have HLI : Hid (∀ u, EnvX wr u [] → (loadVar 23 ⟨w.heap.size, 0, none⟩).run Tryd.prog u = .ok (.slice A1 n1 c1) u) := fun u hu => box_tx_ins (EnvX.below EB.out (EnvX.bel hu)) (List.Mem.head _)
    clear hinv HINV hE hc1 hc2 hc3 htk htb
    by_cases hlt : i < n1
    · have C8 : Hid (decide ((i : Int) < (n1 : Int)) = true) := decide_eq_true (by omega)
      have HI := Lib.hid hlt
      have hil : i < r.ins.length := by rw [HL1.out]; exact hlt
      have HIL := Lib.hid hil
      obtain ⟨ad, hA1, -, hld⟩ := HT.out.m1.loads HT.out.o1 hil
      have hA1' : A1 = some ad := hA1
      subst hA1'
      have HLD : Hid (∀ u, EnvX wr u [] → (loadVar 42 (ad.add (i * 33))).run Tryd.prog u = .ok (inV (r.ins.getD i noIn)) u) := fun u hu => (hld u ((EnvX.below EB.out (EnvX.bel hu)).sub (fun _ h => by cases h))).1
      have HX : Hid (lenI (r.ins.getD i noIn)) := (HT.out.o1.get hil).len
      have HFD : Hid (∀ u, Below wr.heap.size wr u → Calls Tryd.prog 19 #[.slice A3 l.length c3, inV (r.ins.getD i noIn)] u fun e w' => e = .returned (.int .i64 (findP l (r.ins.getD i noIn))) ∧ Below u.heap.size u w') := fun u hu =>
        rfindP_any l A3 l.length c3 (r.ins.getD i noIn) u rfl HCC.out.1 HCC.out.2 HTB.out.1 (CellsIn.up HC3.out hu) HX.out
      obtain ⟨x, hx⟩ : ∃ x, r.ins.getD i noIn = x := ⟨_, rfl⟩
      have HXE := Lib.hid hx
      rw [hx] at HLD HX HFD
      obtain ⟨kf, hkf⟩ : ∃ kf, findP l x = kf := ⟨_, rfl⟩
      have HKF := Lib.hid hkf
      rw [hkf] at HFD
      clear hld hil hlt hx hkf hA1
      go_upto_region 8 with (fail)
      refine wp_region_Hx (w0 := wr) [0, 1, 2, 3, 4] [] rfl EK.out ?_
      refine lexH_phase [0, 1, 2, 3, 4] [] ?_
      have hw21 : EnvX wr _ [] := EK.out
      have hone := @EnvC.one _ _ _ hw21
      (refine wpG_op rfl rfl rfl ?_; intro K hK; go_big_quiet_op; go_big_quiet_on)
      (refine wpG_val (v := .pointer (some ⟨w.heap.size, 0, none⟩)) rfl rfl (fun u hu => fieldTx_op (k := 0) (off := 0) (ad := ⟨w.heap.size, 0, none⟩) rfl u rfl) ?_ hw21; intro K hK; go_big_quiet_op; go_big_quiet_on)
      (refine wpG_val (v := .slice (some ad) n1 c1) rfl rfl (fun u hu => load_any_op u (HLI.out u (EnvX.sub hu (fun _ h => by cases h))) rfl) ?_ hw21; intro K hK; go_big_quiet_op; go_big_quiet_on)
      (refine wpG_val (v := .int .i64 (n1 : Int)) rfl rfl (fun u hu => len_op Tryd.underlying23 HM1.out u rfl) ?_ hw21; intro K hK; go_big_quiet_op; go_big_quiet_on)
      (refine wpG_val (v := .bool true) rfl rfl (fun u hu => ltZ_op u C8.out rfl rfl) ?_ hw21; intro K hK; go_big_quiet_op; go_big_quiet_on)
      clear hone hw21
      refine wpG_nil ?_
      intro u23 E2'
      have EX22 := Lib.hid E2'
      clear E2'
      go_upto_region 10 with (fail)
      refine wp_region_Hx (w0 := wr) [0, 1, 2, 3, 4, 5, 6, 7] [] rfl EX22.out ?_
      refine lexH_phase [0, 1, 2, 3, 4, 5, 6, 7] [] ?_
      have hw24 : EnvX wr _ [] := EX22.out
      have hone := @EnvC.one _ _ _ hw24
      (refine wpG_op rfl rfl rfl ?_; intro K hK; go_big_quiet_op; go_big_quiet_on)
      (refine wpG_val (v := .pointer (some ⟨w.heap.size, 0, none⟩)) rfl rfl (fun u hu => fieldTx_op (k := 0) (off := 0) (ad := ⟨w.heap.size, 0, none⟩) rfl u rfl) ?_ hw24; intro K hK; go_big_quiet_op; go_big_quiet_on)
      (refine wpG_val (v := .slice (some ad) n1 c1) rfl rfl (fun u hu => load_any_op u (HLI.out u (EnvX.sub hu (fun _ h => by cases h))) rfl) ?_ hw24; intro K hK; go_big_quiet_op; go_big_quiet_on)
      (refine wpG_op rfl rfl rfl ?_; intro K hK; go_big_quiet_op; go_big_quiet_on)
      (refine wpG_val (v := .pointer (some (ad.add (i * 33)))) rfl rfl (fun u hu => idxSl_op (i := i) Tryd.underlying23 aggIn.size HI.out u rfl rfl) ?_ hw24; intro K hK; go_big_quiet_op; go_big_quiet_on)
      (refine wpG_val (v := inV x) rfl rfl (fun u hu => load_any_op u (HLD.out u (EnvX.sub hu (fun _ h => by cases h))) rfl) ?_ hw24; intro K hK; go_big_quiet_op; go_big_quiet_on)
      (refine wpG_call (f := 19) (args := #[.slice A3 l.length c3, inV x]) (v := .int .i64 kf) rfl rfl rfl Tryd.func19 rfl rfl (fun u hu => HFD.out u (EnvX.bel hu)) ?_ hw24; intro K hK; go_big_quiet_op; go_big_quiet_on)
      (refine wpG_op rfl rfl rfl ?_; intro K hK; go_big_quiet_op; go_big_quiet_on)
      clear hone hw24
      refine wpG_nil ?_
      intro u26 E2'
      have EX25 := Lib.hid E2'
      clear E2'
      by_cases hk : kf < 0
      · have C11 : Hid (decide (kf < 0) = true) := decide_eq_true hk
        have HF : Hid (spendP p r = (p, 0, 8)) := spend_none HK.out.1 HK.out.2.1 HK.out.2.2 (take_stopC noIn HIL.out HTK.out (by
          rw [HXE.out]
          rcases findP_cases l x with ⟨e, _⟩ | ⟨j, _, e, _⟩
          · exact e
          · rw [HKF.out] at e; omega))
        clear hk
        go_upto_region 11 with (fail)
        refine wp_region_Hx (w0 := wr) [0, 1] [] rfl EX25.out ?_
        refine lexH_phase [0, 1] [] ?_
        have hw27 : EnvX wr _ [] := EX25.out
        have hone := @EnvC.one _ _ _ hw27
        (refine wpG_op rfl rfl rfl ?_; intro K hK; go_big_quiet_op; go_big_quiet_on)
        (refine wpG_val (v := .bool true) rfl rfl (fun u hu => ltZ_op u C11.out rfl rfl) ?_ hw27; intro K hK; go_big_quiet_op; go_big_quiet_on)
        clear hone hw27
        refine wpG_nil ?_
        intro u29 E2'
        have EX28 := Lib.hid E2'
        clear E2'
        go_upto_region 12 with (fail)
        refine wp_region_Hx (w0 := wr) [0, 1, 2, 3] [] rfl EX28.out ?_
        refine lexH_phase [0, 1, 2, 3] [] ?_
        have hw30 : EnvX wr _ [] := EX28.out
        have hone := @EnvC.one _ _ _ hw30
        iterate 4 (refine wpG_op rfl rfl rfl ?_; intro K hK; go_big_quiet_op; go_big_quiet_on)
        clear hone hw30
        refine wpG_nil ?_
        intro u32 E2'
        have EX31 := Lib.hid E2'
        clear E2'
        have HBE : Hid (Below w.heap.size w u32) := HBL.out _ EX31.out
        have HR0 := Lib.hid (HP0.out _ HBE.out)
        go_wp2
        go_returns
        exact ⟨⟨.slice A n c, by rw [HF.out]; rfl, by rw [HF.out]; exact HR0.out⟩, HBE.out⟩
      · obtain ⟨k, rfl⟩ : ∃ k : Nat, kf = (k : Int) := Int.eq_ofNat_of_zero_le (by omega)
        have C11 : Hid (decide ((k : Int) < 0) = false) := decide_eq_false (by omega)
        have hpl := find_place noC0 HKF.out
        have hkl := hpl.1
        have hst := take_stepC (xs := r.ins) noIn noC0 HIL.out HTK.out (by rw [HXE.out]; exact HKF.out)
        have htb2 := take_bounds HK.out.1 HPP.out hst
        obtain ⟨ad3, hA3, -, hld3⟩ := CoinsIn.loads HC3.out HTB.out.1 hkl
        have hA3' : A3 = some ad3 := hA3
        subst hA3'
        have HLD3 := Lib.hid hld3
        obtain ⟨y, hy⟩ : ∃ y, l.getD k noC0 = y := ⟨_, rfl⟩
        rw [hy] at HLD3 hst htb2
        have HKL : Hid (k < l.length) := hkl
        have HKC : Hid (k ≤ c3) := by have := HCC.out.1; show _ ≤ _; omega
        have HK1 : Hid (k + 1 ≤ l.length) := hkl
        have h48 := HTB.out.2.1
        have HW1 : Hid (IntKind.i64.wrap ((k : Int) + 1) = ((k + 1 : Nat) : Int)) := by show _ = _; rw [wrapS (by omega)]; rfl
        have HADD : Hid (IntKind.i64.wrap (m + y.v) = m + y.v) := wrapS (by omega)
        have HST := Lib.hid hst
        have HOK2 := Lib.hid htb2.1
        have HTL : Hid (((l.take k).map coC).flatten.length = k * 35) := by show _ = _; rw [flat35 (HTB.out.1.take k).lens, List.length_take, Nat.min_eq_left (by omega)]
        have HDL : Hid (((l.drop (k + 1)).map coC).flatten.length = (l.length - (k + 1)) * 35) := by show _ = _; rw [flat35 (HTB.out.1.drop (k + 1)).lens, List.length_drop]
        have HBD : Hid (k + (l.length - (k + 1)) ≤ 48) := by show _ ≤ _; omega
        clear hk hpl hkl hst htb2 hld3 hy h48 hA3
        go_upto_region 11 with (fail)
        refine wp_region_Hx (w0 := wr) [0, 1] [] rfl EX25.out ?_
        refine lexH_phase [0, 1] [] ?_
        have hw27 : EnvX wr _ [] := EX25.out
        have hone := @EnvC.one _ _ _ hw27
        (refine wpG_op rfl rfl rfl ?_; intro K hK; go_big_quiet_op; go_big_quiet_on)
        (refine wpG_val (v := .bool false) rfl rfl (fun u hu => ltZ_op u C11.out rfl rfl) ?_ hw27; intro K hK; go_big_quiet_op; go_big_quiet_on)
        clear hone hw27
        refine wpG_nil ?_
        intro u29 E2'
        have EX28 := Lib.hid E2'
        clear E2'
        go_upto_region 13 with (fail)
        refine wp_region_Hx (w0 := wr) [0, 1, 2, 3, 4, 5, 6, 7, 8] [] rfl EX28.out ?_
        refine lexH_phase [0, 1, 2, 3, 4, 5, 6, 7, 8] [] ?_
        have hw30 : EnvX wr _ [] := EX28.out
        have hone := @EnvC.one _ _ _ hw30
        iterate 3 (refine wpG_op rfl rfl rfl ?_; intro K hK; go_big_quiet_op; go_big_quiet_on)
        (refine wpG_val (v := .pointer (some (ad3.add (k * 35)))) rfl rfl (fun u hu => idxSl_op (i := k) Tryd.underlying22 aggCo.size HKL.out u rfl rfl) ?_ hw30; intro K hK; go_big_quiet_op; go_big_quiet_on)
        (refine wpG_val (v := .pointer (some ((ad3.add (k * 35)).add 33))) rfl rfl (fun u hu => fieldCo_op (k := 1) (off := 33) rfl u rfl) ?_ hw30; intro K hK; go_big_quiet_op; go_big_quiet_on)
        (refine wpG_val (v := .pointer (some (((ad3.add (k * 35)).add 33).add 0))) rfl rfl (fun u hu => fieldOut_op (k := 0) (off := 0) rfl u rfl) ?_ hw30; intro K hK; go_big_quiet_op; go_big_quiet_on)
        (refine wpG_val (v := .int .i64 y.v) rfl rfl (fun u hu => load_any_op u (by have h := (HLD3.out u (EnvX.sub hu (fun _ h => by cases h))).2.2.2.2.2.1; rwa [show (((ad3.add (k * 35)).add 33).add 0) = (ad3.add (k * 35)).add 33 by unfold Addr.add; rfl]) rfl) ?_ hw30; intro K hK; go_big_quiet_op; go_big_quiet_on)
        (refine wpG_val (v := .int .i64 (m + y.v)) rfl rfl (fun u hu => addZ_op u HADD.out rfl rfl) ?_ hw30; intro K hK; go_big_quiet_op; go_big_quiet_on)
        (refine wpG_op rfl rfl rfl ?_; intro K hK; go_big_quiet_op; go_big_quiet_on)
        clear hone hw30
        refine wpG_nil ?_
        intro u32 E2'
        have EX31 := Lib.hid E2'
        clear E2'
        go_upto_region 14 with (fail)
        refine wp_region_H (w0 := wr) [] (by kernel_rfl) EX31.out ?_
        refine anyH_phaseN [0, 1, 2, 4, 5, 6, 7] 3 rfl (by kernel_rfl) ?_
        have hw33 : EnvX wr _ [] := EnvX.sub (EnvX.drew EX31.out) (fun _ h => by cases h)
        have hone := @EnvC.one _ _ _ hw33
        iterate 2 (refine wpG_op rfl rfl rfl ?_; intro K hK; go_big_quiet_op; go_big_quiet_on)
        (refine wpG_val (v := .slice (some ad3) k c3) rfl rfl (fun u hu => cutXh_op elCo u HKC.out rfl rfl) ?_ hw33; intro K hK; go_big_quiet_op; go_big_quiet_on)
        iterate 2 (refine wpG_op rfl rfl rfl ?_; intro K hK; go_big_quiet_op; go_big_quiet_on)
        (refine wpG_val (v := .int .i64 ((k + 1 : Nat) : Int)) rfl rfl (fun u hu => addZ_op u HW1.out rfl rfl) ?_ hw33; intro K hK; go_big_quiet_op; go_big_quiet_on)
        (refine wpG_val (v := .slice (cutX 35 (some ad3) (k + 1) c3) (l.length - (k + 1)) (c3 - (k + 1))) rfl rfl (fun u hu => cutXl_op elCo u HK1.out rfl rfl) ?_ hw33; intro K hK; go_big_quiet_op; go_big_quiet_on)
        clear hone hw33
        refine wpG_nil ?_
        refine anyH_one (i := 3) (by kernel_rfl) (hOp_fresh (R := FreshR 50 35 k ((l.take k).map coC).flatten) (M0 := []) rfl rfl (fun _ h => h) (fun u hu => FAt_appC elCo HTL.out (coins_one _) (CellsIn.up (CoinsIn.first HC3.out k) (EnvX.bel hu)) (by have := HBD.out; omega) rfl) ?_)
        rintro x8 N8 hF hf he34; intro K' hK'; go_big_quiet_op; go_big_quiet_on
        have HF8 := Lib.hid hF
        have HN8 := Lib.hid hf
        clear hF
        clear hf
        change anyH _ _ _ _ _ _ _ _ (N8 ++ [])
        refine anyH_one (i := 8) (by kernel_rfl) (hOp_own (gd := none) (R := GrownR wr 50 35 (k + (l.length - (k + 1))) (((l.take k).map coC).flatten ++ ((l.drop (k + 1)).map coC).flatten) []) rfl rfl rfl rfl (fun u hu => appC_op elCo [] hu HTL.out HDL.out (coins_one _) HF8.out (fun y hy => ⟨List.mem_append_left _ hy, (HN8.out y hy).1⟩) (CellsIn.up (CoinsIn.rest HC3.out HTB.out.1.lens HK1.out HCC.out.1) (EnvX.bel hu)) (fun _ h => by cases h) (by have := HBD.out; omega) rfl rfl) ?_)
        rintro x9 M' ⟨N9, rfl, hF9, hn9⟩ he35; intro K' hK'; go_big_quiet_op; go_big_quiet_on
        have HF9 := Lib.hid hF9
        have HN9 := Lib.hid hn9
        clear hF9 hn9
        change anyH _ _ _ _ _ _ _ _ (N9 ++ [])
        refine anyH_phaseN [9] 0 rfl (by kernel_rfl) ?_
        have hw36 : EnvX wr _ [] := EnvX.sub he35.choose_spec (fun _ h => by cases h)
        have hone := @EnvC.one _ _ _ hw36
        (refine wpG_op rfl rfl rfl ?_; intro K hK; go_big_quiet_op; go_big_quiet_on)
        clear hone hw36
        refine wpG_nil ?_
        refine anyH_done (by kernel_rfl) ?_
        intro u38 E2'
        have EX37 := Lib.hid E2'
        clear E2'
        have HNX : Hid (takeP p (r.ins.take (i + 1)) = some ((l.take k ++ l.drop (k + 1)), (m + y.v)) ∧ CoSl u38 x9 (l.take k ++ l.drop (k + 1)) ∧ EnvX w u38 [(w.heap.size, Obj.cells (txA ⟨r, some ad, n1, c1, A2, n2, c2⟩) 26 (0, 0))]) := by
          refine ⟨HST.out, ?_, EnvX.below EB.out (EnvX.bel EX37.out)⟩
          have e1 : ((l.take k ++ l.drop (k + 1)).map coC).flatten = ((l.take k).map coC).flatten ++ ((l.drop (k + 1)).map coC).flatten := by rw [List.map_append, List.flatten_append]
          have e2 : (l.take k ++ l.drop (k + 1)).length = k + (l.length - (k + 1)) := by rw [List.length_append, List.length_take, List.length_drop, Nat.min_eq_left (by have := HKL.out; omega)]
          have hx9 := HF9.out
          rw [← e1, ← e2] at hx9
          obtain ⟨A4, c4, rfl, k1, k2⟩ := FreshR.formC hx9
          exact ⟨A4, c4, rfl, k1, k2, own_cells (hx9.own (B := 0) (flat35 HOK2.out.lens) (fun y hy => ⟨Nat.zero_le _, EnvX.box EX37.out _ _ (List.mem_append_left _ hy)⟩))⟩
        have hii := HI.out
        have hm3 := HM3.out
        go_wp2
        go_roundw
        case rel => exact ⟨i + 1, _, _, by omega, by go_num, rfl, HNX⟩
        case measure => simp [intOf]; omega
    · obtain rfl : i = n1 := by omega
      have C8 : Hid (decide ((i : Int) < (i : Int)) = false) := decide_eq_false (by omega)
      have HTA : Hid (takeP p r.ins = some (l, m)) := by
        have h := HTK.out
        rwa [List.take_of_length_le (by rw [HL1.out]; exact Nat.le_refl _)] at h
      have HSP := Lib.hid (spend_some HK.out.1 HK.out.2.1 HK.out.2.2 HTA.out)
      have HWO : Hid (∀ u, EnvX wr u [] → Calls Tryd.prog 28 #[.agg (txA ⟨r, A1, i, c1, A2, n2, c2⟩)] u fun e w' => e = .returned (.int .i64 (worthX r)) ∧ Below u.heap.size u w') := fun u hu => rworthP_any ⟨r, A1, i, c1, A2, n2, c2⟩ u (HT.out.up (HBL.out u hu)) HK.out.2.1
      have HIDC : Hid (∀ u, EnvX wr u [] → Calls Tryd.prog 30 #[.agg (txA ⟨r, A1, i, c1, A2, n2, c2⟩)] u fun e w' => e = .returned (idv (idX r)) ∧ Below u.heap.size u w') := fun u hu => ridX_any ⟨r, A1, i, c1, A2, n2, c2⟩ u (HT.out.up (HBL.out u hu))
      have hidl := (idX_id r).1
      have HTH : Hid (∀ u, EnvX wr u [] → Calls Tryd.prog 29 #[.slice A3 l.length c3, idv (idX r)] u fun e w' => e = .returned (.bool (thereP l (idX r))) ∧ Below u.heap.size u w') := fun u hu => rthereP_any l A3 l.length c3 (idX r) u rfl HCC.out.1 HCC.out.2 HTB.out.1 (CellsIn.up HC3.out (EnvX.bel hu)) (idX_id r).1
      have HMD : Hid (∀ u, EnvX wr u [] → Calls Tryd.prog 31 #[.slice A3 l.length c3, .agg (txA ⟨r, A1, i, c1, A2, n2, c2⟩)] u fun e w' => (∃ v, e = .returned v ∧ CoSl w' v (madeP l (newC (idX r) 0 r.outs))) ∧ Below u.heap.size u w') := fun u hu => rmadeP_any l A3 l.length c3 ⟨r, A1, i, c1, A2, n2, c2⟩ u rfl HCC.out.1 HCC.out.2 HTB.out.1 (CellsIn.up HC3.out (EnvX.bel hu)) (by have := HTB.out.2.1; omega) (HT.out.up (HBL.out u hu)) HK.out.2.1
      have hwb := worthL_bound (l := r.outs) (fun o ho => decide_eq_true ((mayX_iff.1 HK.out.2.1).2.2.2.2.2 o ho))
      have h3o := (mayX_iff.1 HK.out.2.1).2.2.1
      have hwe : worthX r = worthL r.outs := rfl
      rw [← hwe] at hwb
      have hmb := HTB.out.2.2
      obtain ⟨wx, hwx⟩ : ∃ wx, worthX r = wx := ⟨_, rfl⟩
      rw [hwx] at HWO HSP hwb
      have HSB : Hid (IntKind.i64.wrap (m - wx) = m - wx) := wrapS (by omega)
      obtain ⟨id, hide⟩ : ∃ id, idX r = id := ⟨_, rfl⟩
      rw [hide] at HIDC HTH HMD HSP
      have HR48 : Hid (l.length + r.outs.length ≤ 60 ∧ (madeP l (newC id 0 r.outs)).length = r.outs.length + l.length) := ⟨by have := HTB.out.2.1; omega, by rw [madeP_len, newC_len]⟩
      clear hwb h3o hwe hmb hwx hide hlt hidl
      go_upto_region 8 with (fail)
      refine wp_region_Hx (w0 := wr) [0, 1, 2, 3, 4] [] rfl EK.out ?_
      refine lexH_phase [0, 1, 2, 3, 4] [] ?_
      have hw501 : EnvX wr _ [] := EK.out
      have hone := @EnvC.one _ _ _ hw501
      (refine wpG_op rfl rfl rfl ?_; intro K hK; go_big_quiet_op; go_big_quiet_on)
      (refine wpG_val (v := .pointer (some ⟨w.heap.size, 0, none⟩)) rfl rfl (fun u hu => fieldTx_op (k := 0) (off := 0) (ad := ⟨w.heap.size, 0, none⟩) rfl u rfl) ?_ hw501; intro K hK; go_big_quiet_op; go_big_quiet_on)
      (refine wpG_val (v := .slice A1 i c1) rfl rfl (fun u hu => load_any_op u (HLI.out u (EnvX.sub hu (fun _ h => by cases h))) rfl) ?_ hw501; intro K hK; go_big_quiet_op; go_big_quiet_on)
      (refine wpG_val (v := .int .i64 (i : Int)) rfl rfl (fun u hu => len_op Tryd.underlying23 HM1.out u rfl) ?_ hw501; intro K hK; go_big_quiet_op; go_big_quiet_on)
      (refine wpG_val (v := .bool false) rfl rfl (fun u hu => ltZ_op u C8.out rfl rfl) ?_ hw501; intro K hK; go_big_quiet_op; go_big_quiet_on)
      clear hone hw501
      refine wpG_nil ?_
      intro u503 E2'
      have EX502 := Lib.hid E2'
      clear E2'
      by_cases hw : m < wx
      · have C15 : Hid (decide (m < wx) = true) := decide_eq_true hw
        have HF : Hid (spendP p r = (p, 0, 8)) := by show _ = _; rw [HSP.out, if_pos hw]
        clear hw
        go_upto_region 15 with (fail)
        refine wp_region_Hx (w0 := wr) [0, 1, 2, 3] [] rfl EX502.out ?_
        refine lexH_phase [0, 1, 2, 3] [] ?_
        have hw504 : EnvX wr _ [] := EX502.out
        have hone := @EnvC.one _ _ _ hw504
        (refine wpG_val (v := .agg (txA ⟨r, A1, i, c1, A2, n2, c2⟩)) rfl rfl (fun u hu => load_any_op u (HLT.out u (EnvX.sub hu (fun _ h => by cases h))) rfl) ?_ hw504; intro K hK; go_big_quiet_op; go_big_quiet_on)
        (refine wpG_call (f := 28) (args := #[.agg (txA ⟨r, A1, i, c1, A2, n2, c2⟩)]) (v := .int .i64 wx) rfl rfl rfl Tryd.func28 rfl rfl (fun u hu => HWO.out u hu) ?_ hw504; intro K hK; go_big_quiet_op; go_big_quiet_on)
        (refine wpG_op rfl rfl rfl ?_; intro K hK; go_big_quiet_op; go_big_quiet_on)
        (refine wpG_val (v := .bool true) rfl rfl (fun u hu => gtZ_op u C15.out rfl rfl) ?_ hw504; intro K hK; go_big_quiet_op; go_big_quiet_on)
        clear hone hw504
        refine wpG_nil ?_
        intro u506 E2'
        have EX505 := Lib.hid E2'
        clear E2'
        go_upto_region 16 with (fail)
        refine wp_region_Hx (w0 := wr) [0, 1, 2, 3] [] rfl EX505.out ?_
        refine lexH_phase [0, 1, 2, 3] [] ?_
        have hw507 : EnvX wr _ [] := EX505.out
        have hone := @EnvC.one _ _ _ hw507
        iterate 4 (refine wpG_op rfl rfl rfl ?_; intro K hK; go_big_quiet_op; go_big_quiet_on)
        clear hone hw507
        refine wpG_nil ?_
        intro u509 E2'
        have EX508 := Lib.hid E2'
        clear E2'
        have HBE : Hid (Below w.heap.size w u509) := HBL.out _ EX508.out
        have HR0 := Lib.hid (HP0.out _ HBE.out)
        go_wp2
        go_returns
        exact ⟨⟨.slice A n c, by rw [HF.out]; rfl, by rw [HF.out]; exact HR0.out⟩, HBE.out⟩
      have C15 : Hid (decide (m < wx) = false) := decide_eq_false hw
      have HSP2 := HSP.out
      rw [if_neg hw] at HSP2
      have HSP3 := Lib.hid HSP2
      clear HSP HSP2 hw
      go_upto_region 15 with (fail)
      refine wp_region_Hx (w0 := wr) [0, 1, 2, 3] [] rfl EX502.out ?_
      refine lexH_phase [0, 1, 2, 3] [] ?_
      have hw504 : EnvX wr _ [] := EX502.out
      have hone := @EnvC.one _ _ _ hw504
      (refine wpG_val (v := .agg (txA ⟨r, A1, i, c1, A2, n2, c2⟩)) rfl rfl (fun u hu => load_any_op u (HLT.out u (EnvX.sub hu (fun _ h => by cases h))) rfl) ?_ hw504; intro K hK; go_big_quiet_op; go_big_quiet_on)
      (refine wpG_call (f := 28) (args := #[.agg (txA ⟨r, A1, i, c1, A2, n2, c2⟩)]) (v := .int .i64 wx) rfl rfl rfl Tryd.func28 rfl rfl (fun u hu => HWO.out u hu) ?_ hw504; intro K hK; go_big_quiet_op; go_big_quiet_on)
      (refine wpG_op rfl rfl rfl ?_; intro K hK; go_big_quiet_op; go_big_quiet_on)
      (refine wpG_val (v := .bool false) rfl rfl (fun u hu => gtZ_op u C15.out rfl rfl) ?_ hw504; intro K hK; go_big_quiet_op; go_big_quiet_on)
      clear hone hw504
      refine wpG_nil ?_
      intro u506 E2'
      have EX505 := Lib.hid E2'
      clear E2'
      obtain ⟨bt, hbt⟩ : ∃ bt, thereP l id = bt := ⟨_, rfl⟩
      rw [hbt] at HTH HSP3
      clear hbt
      go_upto_region 17 with (fail)
      refine wp_region_Hx (w0 := wr) [0, 1, 2, 3, 4] [] rfl EX505.out ?_
      refine lexH_phase [0, 1, 2, 3, 4] [] ?_
      have hw507 : EnvX wr _ [] := EX505.out
      have hone := @EnvC.one _ _ _ hw507
      (refine wpG_op rfl rfl rfl ?_; intro K hK; go_big_quiet_op; go_big_quiet_on)
      (refine wpG_val (v := .agg (txA ⟨r, A1, i, c1, A2, n2, c2⟩)) rfl rfl (fun u hu => load_any_op u (HLT.out u (EnvX.sub hu (fun _ h => by cases h))) rfl) ?_ hw507; intro K hK; go_big_quiet_op; go_big_quiet_on)
      (refine wpG_call (f := 30) (args := #[.agg (txA ⟨r, A1, i, c1, A2, n2, c2⟩)]) (v := idv id) rfl rfl rfl Tryd.func30 rfl rfl (fun u hu => HIDC.out u hu) ?_ hw507; intro K hK; go_big_quiet_op; go_big_quiet_on)
      (refine wpG_call (f := 29) (args := #[.slice A3 l.length c3, idv id]) (v := .bool bt) rfl rfl rfl Tryd.func29 rfl rfl (fun u hu => HTH.out u hu) ?_ hw507; intro K hK; go_big_quiet_op; go_big_quiet_on)
      (refine wpG_op rfl rfl rfl ?_; intro K hK; go_big_quiet_op; go_big_quiet_on)
      clear hone hw507
      refine wpG_nil ?_
      intro u509 E2'
      have EX508 := Lib.hid E2'
      clear E2'
      cases bt with
      | true =>
        have HF : Hid (spendP p r = (p, 0, 10)) := HSP3.out
        go_upto_region 18 with (fail)
        refine wp_region_Hx (w0 := wr) [0] [] rfl EX508.out ?_
        refine lexH_phase [0] [] ?_
        have hw510 : EnvX wr _ [] := EX508.out
        have hone := @EnvC.one _ _ _ hw510
        (refine wpG_op rfl rfl rfl ?_; intro K hK; go_big_quiet_op; go_big_quiet_on)
        clear hone hw510
        refine wpG_nil ?_
        intro u512 E2'
        have EX511 := Lib.hid E2'
        clear E2'
        go_upto_region 19 with (fail)
        refine wp_region_Hx (w0 := wr) [0, 1, 2, 3] [] rfl EX511.out ?_
        refine lexH_phase [0, 1, 2, 3] [] ?_
        have hw513 : EnvX wr _ [] := EX511.out
        have hone := @EnvC.one _ _ _ hw513
        iterate 4 (refine wpG_op rfl rfl rfl ?_; intro K hK; go_big_quiet_op; go_big_quiet_on)
        clear hone hw513
        refine wpG_nil ?_
        intro u515 E2'
        have EX514 := Lib.hid E2'
        clear E2'
        have HBE : Hid (Below w.heap.size w u515) := HBL.out _ EX514.out
        have HR0 := Lib.hid (HP0.out _ HBE.out)
        go_wp2
        go_returns
        exact ⟨⟨.slice A n c, by rw [HF.out]; rfl, by rw [HF.out]; exact HR0.out⟩, HBE.out⟩
      | false =>
        go_upto_region 18 with (fail)
        refine wp_region_Hx (w0 := wr) [0] [] rfl EX508.out ?_
        refine lexH_phase [0] [] ?_
        have hw510 : EnvX wr _ [] := EX508.out
        have hone := @EnvC.one _ _ _ hw510
        (refine wpG_op rfl rfl rfl ?_; intro K hK; go_big_quiet_op; go_big_quiet_on)
        clear hone hw510
        refine wpG_nil ?_
        intro u512 E2'
        have EX511 := Lib.hid E2'
        clear E2'
        have HFS : Hid (spendP p r = if 48 < (madeP l (newC id 0 r.outs)).length then (p, 0, 11) else (madeP l (newC id 0 r.outs), m - wx, 0)) := HSP3.out
        clear HSP3
        go_upto_region 20 with (fail)
        have HLD0 : Hid ((loadVar 26 ⟨w.heap.size, 0, none⟩).run Tryd.prog u512 = .ok (.agg (txA ⟨r, A1, i, c1, A2, n2, c2⟩)) u512) := HLT.out _ EX511.out
        go_wp2_with ((with_reducible refine wpList_load_run (o := ⟨some 80, _, _, _, _, _⟩) ?_ 26 (.tmp 3) ?_ ⟨w.heap.size, 0, none⟩ ?_ HLD0.out ?_); (rfl); (rfl); (rfl))
        refine (HMD.out u512 EX511.out).mono ?_
        rintro e u9 ⟨⟨v9, rfl, A9, c9, rfl, k1, k2, k3⟩, hb⟩
        have HB9 : Hid (Below w.heap.size w u9) := (HBL.out _ EX511.out).trans (hb.mono (HBL.out _ EX511.out).size)
        have HR9 : Hid (CoinsIn u9 u9.heap.size A9 (madeP l (newC id 0 r.outs))) := k3
        have HC9 := Lib.hid (And.intro k1 k2)
        have E9 : Hid (EnvX u9 u9 []) := EnvX.start u9
        have HL9 : Hid ((madeP l (newC id 0 r.outs)).length < 9223372036854775808) := by have := HR48.out; show _ < _; omega
        have HWO9 : Hid (∀ u, EnvX u9 u [] → Calls Tryd.prog 28 #[.agg (txA ⟨r, A1, i, c1, A2, n2, c2⟩)] u fun e w' => e = .returned (.int .i64 wx) ∧ Below u.heap.size u w') := fun u hu => HWO.out u (EnvX.below (EnvX.below EX511.out hb) (EnvX.bel hu))
        have HLT9 : Hid (∀ u, EnvX u9 u [] → (loadVar 26 ⟨w.heap.size, 0, none⟩).run Tryd.prog u = .ok (.agg (txA ⟨r, A1, i, c1, A2, n2, c2⟩)) u) := fun u hu => HLT.out u (EnvX.below (EnvX.below EX511.out hb) (EnvX.bel hu))
        clear EX511 HLD0 hb k1 k2 k3
        obtain ⟨q, hq⟩ : ∃ q, madeP l (newC id 0 r.outs) = q := ⟨_, rfl⟩
        rw [hq] at HFS HR9 HC9 HL9 ⊢
        clear hq
        by_cases hf : 48 < q.length
        · have C21 : Hid (decide ((48 : Int) < (q.length : Int)) = true) := decide_eq_true (by omega)
          have HF : Hid (spendP p r = (p, 0, 11)) := by show _ = _; rw [HFS.out, if_pos hf]
          clear hf
          go_upto_region 21 with (fail)
          refine wp_region_Hx (w0 := u9) [0, 1, 2] [] rfl E9.out ?_
          refine lexH_phase [0, 1, 2] [] ?_
          have hw701 : EnvX u9 _ [] := E9.out
          have hone := @EnvC.one _ _ _ hw701
          (refine wpG_op rfl rfl rfl ?_; intro K hK; go_big_quiet_op; go_big_quiet_on)
          (refine wpG_val (v := .int .i64 (q.length : Int)) rfl rfl (fun u hu => len_op Tryd.underlying22 HL9.out u rfl) ?_ hw701; intro K hK; go_big_quiet_op; go_big_quiet_on)
          (refine wpG_val (v := .bool true) rfl rfl (fun u hu => gtZ_op u C21.out rfl rfl) ?_ hw701; intro K hK; go_big_quiet_op; go_big_quiet_on)
          clear hone hw701
          refine wpG_nil ?_
          intro u703 E2'
          have EX702 := Lib.hid E2'
          clear E2'
          go_upto_region 22 with (fail)
          refine wp_region_Hx (w0 := u9) [0, 1, 2, 3] [] rfl EX702.out ?_
          refine lexH_phase [0, 1, 2, 3] [] ?_
          have hw704 : EnvX u9 _ [] := EX702.out
          have hone := @EnvC.one _ _ _ hw704
          iterate 4 (refine wpG_op rfl rfl rfl ?_; intro K hK; go_big_quiet_op; go_big_quiet_on)
          clear hone hw704
          refine wpG_nil ?_
          intro u706 E2'
          have EX705 := Lib.hid E2'
          clear E2'
          have HBE : Hid (Below w.heap.size w u706) := HB9.out.trans ((EnvX.bel EX705.out).mono HB9.out.size)
          have HR0 := Lib.hid (HP0.out _ HBE.out)
          go_wp2
          go_returns
          exact ⟨⟨.slice A n c, by rw [HF.out]; rfl, by rw [HF.out]; exact HR0.out⟩, HBE.out⟩
        · have C21 : Hid (decide ((48 : Int) < (q.length : Int)) = false) := decide_eq_false (by omega)
          have HF : Hid (spendP p r = (q, m - wx, 0)) := by show _ = _; rw [HFS.out, if_neg hf]
          clear hf
          go_upto_region 21 with (fail)
          refine wp_region_Hx (w0 := u9) [0, 1, 2] [] rfl E9.out ?_
          refine lexH_phase [0, 1, 2] [] ?_
          have hw701 : EnvX u9 _ [] := E9.out
          have hone := @EnvC.one _ _ _ hw701
          (refine wpG_op rfl rfl rfl ?_; intro K hK; go_big_quiet_op; go_big_quiet_on)
          (refine wpG_val (v := .int .i64 (q.length : Int)) rfl rfl (fun u hu => len_op Tryd.underlying22 HL9.out u rfl) ?_ hw701; intro K hK; go_big_quiet_op; go_big_quiet_on)
          (refine wpG_val (v := .bool false) rfl rfl (fun u hu => gtZ_op u C21.out rfl rfl) ?_ hw701; intro K hK; go_big_quiet_op; go_big_quiet_on)
          clear hone hw701
          refine wpG_nil ?_
          intro u703 E2'
          have EX702 := Lib.hid E2'
          clear E2'
          go_upto_region 23 with (fail)
          refine wp_region_Hx (w0 := u9) [0, 1, 2, 3, 4, 5, 6, 7] [] rfl EX702.out ?_
          refine lexH_phase [0, 1, 2, 3, 4, 5, 6, 7] [] ?_
          have hw704 : EnvX u9 _ [] := EX702.out
          have hone := @EnvC.one _ _ _ hw704
          iterate 2 (refine wpG_op rfl rfl rfl ?_; intro K hK; go_big_quiet_op; go_big_quiet_on)
          (refine wpG_val (v := .agg (txA ⟨r, A1, i, c1, A2, n2, c2⟩)) rfl rfl (fun u hu => load_any_op u (HLT9.out u (EnvX.sub hu (fun _ h => by cases h))) rfl) ?_ hw704; intro K hK; go_big_quiet_op; go_big_quiet_on)
          (refine wpG_call (f := 28) (args := #[.agg (txA ⟨r, A1, i, c1, A2, n2, c2⟩)]) (v := .int .i64 wx) rfl rfl rfl Tryd.func28 rfl rfl (fun u hu => HWO9.out u hu) ?_ hw704; intro K hK; go_big_quiet_op; go_big_quiet_on)
          (refine wpG_val (v := .int .i64 (m - wx)) rfl rfl (fun u hu => subZ_op u HSB.out rfl rfl) ?_ hw704; intro K hK; go_big_quiet_op; go_big_quiet_on)
          iterate 3 (refine wpG_op rfl rfl rfl ?_; intro K hK; go_big_quiet_op; go_big_quiet_on)
          clear hone hw704
          refine wpG_nil ?_
          intro u706 E2'
          have EX705 := Lib.hid E2'
          clear E2'
          have HBE : Hid (Below w.heap.size w u706) := HB9.out.trans ((EnvX.bel EX705.out).mono HB9.out.size)
          have HRR : Hid (CoSl u706 (.slice A9 q.length c9) q) := ⟨A9, c9, rfl, HC9.out.1, HC9.out.2, CellsIn.up HR9.out (EnvX.bel EX705.out)⟩
          go_wp2
          go_returns
          exact ⟨⟨.slice A9 q.length c9, by rw [HF.out]; rfl, by rw [HF.out]; exact HRR.out⟩, HBE.out⟩
theorem rspendP (p : List CoinR) (A : Option Addr) (n c : Nat) (t : TxM) (w : World) (hl : p.length = n) (hnc : n ≤ c) (hcm : c ≤ maxLen) (hI : okP p) (hA : CoinsIn w w.heap.size A p) (ht : TxOk w t) :
    Calls Tryd.prog 13 #[.slice A n c, txV t] w fun e w' => (∃ v, e = .returned (.tuple #[v, .int .i64 (spendP p t.r).2.1, .int .i64 ((spendP p t.r).2.2 : Int)]) ∧ CoSl w' v (spendP p t.r).1) ∧ Below w.heap.size w w' := by
  obtain ⟨r, A1, n1, c1, A2, n2, c2⟩ := t
  by_cases k : mayP p = true ∧ mayX r = true ∧ r.ins ≠ []
  · exact rspendP_main p A n c r A1 n1 c1 A2 n2 c2 w hl hnc hcm hI hA ht k.1 k.2.1 k.2.2
  · refine rspendP_arg p A n c r A1 n1 c1 A2 n2 c2 w hl hnc hcm hI hA ht ?_
    cases h1 : mayP p with
    | false => exact .inl rfl
    | true =>
      cases h2 : mayX r with
      | false => exact .inr (.inl rfl)
      | true => exact .inr (.inr (Classical.byContradiction fun h3 => k ⟨h1, h2, h3⟩))
def NotLone (l : List TxR) (i : Nat) : Prop := ¬ (i = 0 ∧ loneX l = true)
section
variable {a : Act} {dst : Option Tmp} {x y : Operand} {ty : TypeId} {pos : String} {after : Array Edge} {gd : Option (Nat × Bool)}
end
theorem run_idxTx {ad : Addr} {n c i : Nat} (hi : i < n) (u : World) : (Instr.indexAt 27 (.slice (some ad) n c) (.int .i64 (i : Int))).run Tryd.prog u = .ok (.pointer (some (ad.add (i * 2)))) u := by
  have h := idxSl_op (t := 27) (e := 26) (z := 2) (dst := none) (ty := 26) (pos := "") (after := #[]) (gd := none) (x := .const (.slice (some ad) n c)) (y := .const (.int .i64 (i : Int))) (a := ⟨#[], []⟩) Tryd.underlying27 aggTx.size hi u rfl rfl
  unfold execOp at h
  simp only [Sem.run_bind] at h
  revert h
  cases hr : (Instr.indexAt 27 (Act.eval ⟨#[], []⟩ (.const (.slice (some ad) n c))) (Act.eval ⟨#[], []⟩ (.const (.int .i64 (i : Int))))).run Tryd.prog u with
  | ok v w => intro h; simp [Result.andThen] at h; obtain ⟨rfl, rfl⟩ := h; exact hr
  | halt s w => intro h; simp [Result.andThen] at h
set_option maxRecDepth 20000 in
set_option maxHeartbeats 8000000 in
theorem rapplyP_arg (p : List CoinR) (A : Option Addr) (n c : Nat) (l : List TxM) (A' : Option Addr) (n' c' : Nat) (w : World) (hl : p.length = n) (hnc : n ≤ c) (hcm : c ≤ maxLen) (hI : okP p) (hA : CoinsIn w w.heap.size A p) (hl' : l.length = n') (hnc' : n' ≤ c') (hcm' : c' ≤ maxLen) (hA' : TxsIn w A' l) (k1 : mayP p = false) :
    Calls Tryd.prog 15 #[.slice A n c, .slice A' n' c'] w fun e w' => (∃ v, e = .returned (.tuple #[v, .int .i64 ((applyP p (rsT l)).2 : Int)]) ∧ CoSl w' v (applyP p (rsT l)).1) ∧ Below w.heap.size w w' := by
  have HN63 : Hid (n < 9223372036854775808) := by show _ < _; unfold maxLen at hcm; omega
  have HM63 : Hid (n' < 9223372036854775808) := by show _ < _; unfold maxLen at hcm'; omega
  have E1 : Hid (EnvX w w []) := EnvX.start w
  have HP0 : Hid (∀ u, Below w.heap.size w u → CoSl u (.slice A n c) p) := fun u hu => ⟨A, c, by rw [hl], by rw [hl]; exact hnc, hcm, CellsIn.up hA hu⟩
  have HMY : Hid (∀ u, Below w.heap.size w u → Calls Tryd.prog 17 #[.slice A n c] u fun e w' => e = .returned (.bool (mayP p)) ∧ Below u.heap.size u w') := fun u hu => rmayP_any p A n c u hl hnc hcm hI (CellsIn.up hA hu)
  have HF : Hid (applyP p (rsT l) = (p, 1)) := apply_arg k1
  rw [k1] at HMY
  clear k1 hl hnc hcm hI hA hl' hnc' hcm' hA'
  go_enter Tryd.func15, Tryd.ntmps15
  go_upto_region 1 with (fail)
  refine wp_region_Hx (w0 := w) [0, 1, 2] [] rfl E1.out ?_
  refine lexH_phase [0, 1, 2] [] ?_
  have hw1 : EnvX w _ [] := E1.out
  have hone := @EnvC.one _ _ _ hw1
  (refine wpG_op rfl rfl rfl ?_; intro K hK; go_big_quiet_op; go_big_quiet_on)
  (refine wpG_call (f := 17) (args := #[.slice A n c]) (v := .bool false) rfl rfl rfl Tryd.func17 rfl rfl (fun u hu => HMY.out u (EnvX.bel hu)) ?_ hw1; intro K hK; go_big_quiet_op; go_big_quiet_on)
  (refine wpG_op rfl rfl rfl ?_; intro K hK; go_big_quiet_op; go_big_quiet_on)
  clear hone hw1
  refine wpG_nil ?_
  intro u3 E2'
  have EX2 := Lib.hid E2'
  clear E2'
  go_upto_region 2 with (fail)
  refine wp_region_Hx (w0 := w) [0, 1] [] rfl EX2.out ?_
  refine lexH_phase [0, 1] [] ?_
  have hw4 : EnvX w _ [] := EX2.out
  have hone := @EnvC.one _ _ _ hw4
  iterate 2 (refine wpG_op rfl rfl rfl ?_; intro K hK; go_big_quiet_op; go_big_quiet_on)
  clear hone hw4
  refine wpG_nil ?_
  intro u6 E2'
  have EX5 := Lib.hid E2'
  clear E2'
  go_upto_region 3 with (fail)
  refine wp_region_Hx (w0 := w) [0, 1, 2] [] rfl EX5.out ?_
  refine lexH_phase [0, 1, 2] [] ?_
  have hw7 : EnvX w _ [] := EX5.out
  have hone := @EnvC.one _ _ _ hw7
  iterate 3 (refine wpG_op rfl rfl rfl ?_; intro K hK; go_big_quiet_op; go_big_quiet_on)
  clear hone hw7
  refine wpG_nil ?_
  intro u9 E2'
  have EX8 := Lib.hid E2'
  clear E2'
  have HBE : Hid (Below w.heap.size w u9) := EnvX.bel EX8.out
  have HR0 := Lib.hid (HP0.out _ HBE.out)
  go_wp2
  go_returns
  exact ⟨⟨.slice A n c, by rw [HF.out]; first | done | rfl, by rw [HF.out]; exact HR0.out⟩, HBE.out⟩
set_option maxRecDepth 20000 in
set_option maxHeartbeats 8000000 in
theorem rapplyP_size (p : List CoinR) (A : Option Addr) (n c : Nat) (l : List TxM) (A' : Option Addr) (n' c' : Nat) (w : World) (hl : p.length = n) (hnc : n ≤ c) (hcm : c ≤ maxLen) (hI : okP p) (hA : CoinsIn w w.heap.size A p) (hl' : l.length = n') (hnc' : n' ≤ c') (hcm' : c' ≤ maxLen) (hA' : TxsIn w A' l) (k1 : mayP p = true) (k2 : 4 < n') :
    Calls Tryd.prog 15 #[.slice A n c, .slice A' n' c'] w fun e w' => (∃ v, e = .returned (.tuple #[v, .int .i64 ((applyP p (rsT l)).2 : Int)]) ∧ CoSl w' v (applyP p (rsT l)).1) ∧ Below w.heap.size w w' := by
  have HN63 : Hid (n < 9223372036854775808) := by show _ < _; unfold maxLen at hcm; omega
  have HM63 : Hid (n' < 9223372036854775808) := by show _ < _; unfold maxLen at hcm'; omega
  have E1 : Hid (EnvX w w []) := EnvX.start w
  have HP0 : Hid (∀ u, Below w.heap.size w u → CoSl u (.slice A n c) p) := fun u hu => ⟨A, c, by rw [hl], by rw [hl]; exact hnc, hcm, CellsIn.up hA hu⟩
  have HMY : Hid (∀ u, Below w.heap.size w u → Calls Tryd.prog 17 #[.slice A n c] u fun e w' => e = .returned (.bool (mayP p)) ∧ Below u.heap.size u w') := fun u hu => rmayP_any p A n c u hl hnc hcm hI (CellsIn.up hA hu)
  have HF : Hid (applyP p (rsT l) = (p, 3)) := apply_size k1 (by unfold rsT; rw [List.length_map, hl']; exact k2)
  have D4 : Hid (decide ((4 : Int) < (n' : Int)) = true) := decide_eq_true (by omega)
  rw [k1] at HMY
  clear k1 k2 hl hnc hcm hI hA hl' hnc' hcm' hA'
  go_enter Tryd.func15, Tryd.ntmps15
  go_upto_region 1 with (fail)
  refine wp_region_Hx (w0 := w) [0, 1, 2] [] rfl E1.out ?_
  refine lexH_phase [0, 1, 2] [] ?_
  have hw1 : EnvX w _ [] := E1.out
  have hone := @EnvC.one _ _ _ hw1
  (refine wpG_op rfl rfl rfl ?_; intro K hK; go_big_quiet_op; go_big_quiet_on)
  (refine wpG_call (f := 17) (args := #[.slice A n c]) (v := .bool true) rfl rfl rfl Tryd.func17 rfl rfl (fun u hu => HMY.out u (EnvX.bel hu)) ?_ hw1; intro K hK; go_big_quiet_op; go_big_quiet_on)
  (refine wpG_op rfl rfl rfl ?_; intro K hK; go_big_quiet_op; go_big_quiet_on)
  clear hone hw1
  refine wpG_nil ?_
  intro u3 E2'
  have EX2 := Lib.hid E2'
  clear E2'
  go_upto_region 2 with (fail)
  refine wp_region_Hx (w0 := w) [0, 1] [] rfl EX2.out ?_
  refine lexH_phase [0, 1] [] ?_
  have hw4 : EnvX w _ [] := EX2.out
  have hone := @EnvC.one _ _ _ hw4
  iterate 2 (refine wpG_op rfl rfl rfl ?_; intro K hK; go_big_quiet_op; go_big_quiet_on)
  clear hone hw4
  refine wpG_nil ?_
  intro u6 E2'
  have EX5 := Lib.hid E2'
  clear E2'
  go_upto_region 4 with (fail)
  refine wp_region_Hx (w0 := w) [0, 1, 2] [] rfl EX5.out ?_
  refine lexH_phase [0, 1, 2] [] ?_
  have hw7 : EnvX w _ [] := EX5.out
  have hone := @EnvC.one _ _ _ hw7
  (refine wpG_op rfl rfl rfl ?_; intro K hK; go_big_quiet_op; go_big_quiet_on)
  (refine wpG_val (v := .int .i64 (n' : Int)) rfl rfl (fun u hu => len_op Tryd.underlying27 HM63.out u rfl) ?_ hw7; intro K hK; go_big_quiet_op; go_big_quiet_on)
  (refine wpG_val (v := .bool true) rfl rfl (fun u hu => gtZ_op u D4.out rfl rfl) ?_ hw7; intro K hK; go_big_quiet_op; go_big_quiet_on)
  clear hone hw7
  refine wpG_nil ?_
  intro u9 E2'
  have EX8 := Lib.hid E2'
  clear E2'
  go_upto_region 5 with (fail)
  refine wp_region_Hx (w0 := w) [0, 1, 2] [] rfl EX8.out ?_
  refine lexH_phase [0, 1, 2] [] ?_
  have hw10 : EnvX w _ [] := EX8.out
  have hone := @EnvC.one _ _ _ hw10
  iterate 3 (refine wpG_op rfl rfl rfl ?_; intro K hK; go_big_quiet_op; go_big_quiet_on)
  clear hone hw10
  refine wpG_nil ?_
  intro u12 E2'
  have EX11 := Lib.hid E2'
  clear E2'
  have HBE : Hid (Below w.heap.size w u12) := EnvX.bel EX11.out
  have HR0 := Lib.hid (HP0.out _ HBE.out)
  go_wp2
  go_returns
  exact ⟨⟨.slice A n c, by rw [HF.out]; first | done | rfl, by rw [HF.out]; exact HR0.out⟩, HBE.out⟩
set_option maxRecDepth 20000 in
set_option maxHeartbeats 16000000 in
theorem rapplyP_main (p : List CoinR) (A : Option Addr) (n c : Nat) (l : List TxM) (A' : Option Addr) (n' c' : Nat) (w : World) (hl : p.length = n) (hnc : n ≤ c) (hcm : c ≤ maxLen) (hI : okP p) (hA : CoinsIn w w.heap.size A p) (hl' : l.length = n') (hnc' : n' ≤ c') (hcm' : c' ≤ maxLen) (hA' : TxsIn w A' l) (k1 : mayP p = true) (k2 : ¬ 4 < n') :
    Calls Tryd.prog 15 #[.slice A n c, .slice A' n' c'] w fun e w' => (∃ v, e = .returned (.tuple #[v, .int .i64 ((applyP p (rsT l)).2 : Int)]) ∧ CoSl w' v (applyP p (rsT l)).1) ∧ Below w.heap.size w w' := by
  have HN63 : Hid (n < 9223372036854775808) := by show _ < _; unfold maxLen at hcm; omega
  have HM63 : Hid (n' < 9223372036854775808) := by show _ < _; unfold maxLen at hcm'; omega
  have E1 : Hid (EnvX w w []) := EnvX.start w
  have HP0 : Hid (∀ u, Below w.heap.size w u → CoSl u (.slice A n c) p) := fun u hu => ⟨A, c, by rw [hl], by rw [hl]; exact hnc, hcm, CellsIn.up hA hu⟩
  have HMY : Hid (∀ u, Below w.heap.size w u → Calls Tryd.prog 17 #[.slice A n c] u fun e w' => e = .returned (.bool (mayP p)) ∧ Below u.heap.size u w') := fun u hu => rmayP_any p A n c u hl hnc hcm hI (CellsIn.up hA hu)
  have D4 : Hid (decide ((4 : Int) < (n' : Int)) = false) := decide_eq_false (by omega)
  have HK := Lib.hid k1
  have HK2 : Hid (n' ≤ 4) := by show _ ≤ _; omega
  have HRL : Hid ((rsT l).length = n') := by show _ = _; unfold rsT; rw [List.length_map, hl']
  have HRG : Hid (∀ i, i < n' → (rsT l).getD i noTx = (l.getD i noTxM).r) := fun i hi => by
    unfold rsT
    rw [List.getD_eq_getElem?_getD, List.getElem?_map, List.getD_eq_getElem?_getD, List.getElem?_eq_getElem (by omega)]
    rfl
  have HL' := Lib.hid hl'
  have HTI := Lib.hid hA'
  have HPP := Lib.hid hI
  rw [k1] at HMY
  clear k1 k2 hl hnc hcm hI hA hl' hnc' hcm' hA'
  go_enter Tryd.func15, Tryd.ntmps15
  go_upto_region 1 with (fail)
  refine wp_region_Hx (w0 := w) [0, 1, 2] [] rfl E1.out ?_
  refine lexH_phase [0, 1, 2] [] ?_
  have hw1 : EnvX w _ [] := E1.out
  have hone := @EnvC.one _ _ _ hw1
  (refine wpG_op rfl rfl rfl ?_; intro K hK; go_big_quiet_op; go_big_quiet_on)
  (refine wpG_call (f := 17) (args := #[.slice A n c]) (v := .bool true) rfl rfl rfl Tryd.func17 rfl rfl (fun u hu => HMY.out u (EnvX.bel hu)) ?_ hw1; intro K hK; go_big_quiet_op; go_big_quiet_on)
  (refine wpG_op rfl rfl rfl ?_; intro K hK; go_big_quiet_op; go_big_quiet_on)
  clear hone hw1
  refine wpG_nil ?_
  intro u3 E2'
  have EX2 := Lib.hid E2'
  clear E2'
  go_upto_region 2 with (fail)
  refine wp_region_Hx (w0 := w) [0, 1] [] rfl EX2.out ?_
  refine lexH_phase [0, 1] [] ?_
  have hw4 : EnvX w _ [] := EX2.out
  have hone := @EnvC.one _ _ _ hw4
  iterate 2 (refine wpG_op rfl rfl rfl ?_; intro K hK; go_big_quiet_op; go_big_quiet_on)
  clear hone hw4
  refine wpG_nil ?_
  intro u6 E2'
  have EX5 := Lib.hid E2'
  clear E2'
  go_upto_region 4 with (fail)
  refine wp_region_Hx (w0 := w) [0, 1, 2] [] rfl EX5.out ?_
  refine lexH_phase [0, 1, 2] [] ?_
  have hw7 : EnvX w _ [] := EX5.out
  have hone := @EnvC.one _ _ _ hw7
  (refine wpG_op rfl rfl rfl ?_; intro K hK; go_big_quiet_op; go_big_quiet_on)
  (refine wpG_val (v := .int .i64 (n' : Int)) rfl rfl (fun u hu => len_op Tryd.underlying27 HM63.out u rfl) ?_ hw7; intro K hK; go_big_quiet_op; go_big_quiet_on)
  (refine wpG_val (v := .bool false) rfl rfl (fun u hu => gtZ_op u D4.out rfl rfl) ?_ hw7; intro K hK; go_big_quiet_op; go_big_quiet_on)
  clear hone hw7
  refine wpG_nil ?_
  intro u9 E2'
  have EX8 := Lib.hid E2'
  clear E2'
  go_upto_region 6 with (fail)
  refine wp_region_Hx (w0 := w) [0, 1] [] rfl EX8.out ?_
  refine lexH_phase [0, 1] [] ?_
  have hw10 : EnvX w _ [] := EX8.out
  have hone := @EnvC.one _ _ _ hw10
  iterate 2 (refine wpG_op rfl rfl rfl ?_; intro K hK; go_big_quiet_op; go_big_quiet_on)
  clear hone hw10
  refine wpG_nil ?_
  intro u12 E2'
  have EX11 := Lib.hid E2'
  clear E2'
  have HINV : Hid (runP p 0 (skipX (rsT l) 0) = .ok (p, 0) ∧ CoSl u12 (.slice A n c) p ∧ Below w.heap.size w u12) := ⟨by rw [skipX_zero]; rfl, HP0.out _ (EnvX.bel EX11.out), EnvX.bel EX11.out⟩
  clear EX11 E1
  go_upto_region 9 with (fail)
  go_loopw [7, 8, 9] (fun ov nv iv u => ∃ (i : Nat) (q : List CoinR) (m : Int), i ≤ n' ∧ iv = .int .i64 (i : Int) ∧ nv = .int .i64 m ∧ Hid (runP p 0 (skipX (rsT l) i) = .ok (q, m) ∧ CoSl u ov q ∧ Below w.heap.size w u)) (fun _ _ iv _ => n' - (intOf iv).toNat)
  case atStart => exact ⟨0, p, 0, by omega, rfl, rfl, HINV⟩
  case round =>
    obtain ⟨i, q, m, hi, rfl, rfl, hinv⟩ := hrel
    obtain ⟨hrun, ⟨A3, c3, rfl, hc1, hc2, hc3⟩, hB⟩ := hinv.out
    have HB := Lib.hid hB
    have EK : Hid (EnvX wr wr []) := EnvX.start wr
    have hrb := run_bounds HK.out HPP.out hrun
    have HRB := Lib.hid hrb
    have HRUN := Lib.hid hrun
    have HC3 : Hid (CoinsIn wr wr.heap.size A3 q) := hc3
    have HCC := Lib.hid (And.intro hc1 hc2)
    have HLC : Hid (q.length < 9223372036854775808) := by show _ < _; omega
    have HBL : Hid (∀ u, EnvX wr u [] → Below w.heap.size w u) := fun u hu => HB.out.trans ((EnvX.bel hu).mono HB.out.size)
    clear hinv HINV hB hc1 hc2 hc3 hrb hrun
    by_cases hlt : i < n'
    · have C9 : Hid (decide ((i : Int) < (n' : Int)) = true) := decide_eq_true (by omega)
      have HI := Lib.hid hlt
      have hil : i < l.length := by rw [HL'.out]; exact hlt
      obtain ⟨ad, hA1, -, hld⟩ := HTI.out.loads hil
      obtain ⟨ad0, hA0, -, hld0⟩ := HTI.out.loads (k := 0) (by omega)
      have e0 : ad0 = ad := by rw [hA1] at hA0; exact (Option.some.inj hA0).symm
      subst e0
      subst hA1
      have HLD : Hid (∀ u, EnvX wr u [] → (loadVar 26 (ad0.add (i * 2))).run Tryd.prog u = .ok (txV (l.getD i noTxM)) u) := fun u hu => (hld u ⟨HBL.out u hu, fun _ _ h => by cases h⟩).1
      have HL0 : Hid (∀ u, EnvX wr u [] → (loadVar 23 ((ad0.add (0 * 2)).add 0)).run Tryd.prog u = .ok (.slice (l.getD 0 noTxM).A1 (l.getD 0 noTxM).n1 (l.getD 0 noTxM).c1) u) := fun u hu => by
        have h := (hld0 u ⟨HBL.out u hu, fun _ _ h => by cases h⟩).2.1
        rwa [show ((ad0.add (0 * 2)).add 0) = ad0.add (0 * 2) by unfold Addr.add; rfl]
      have HTX : Hid (TxOk w (l.getD i noTxM)) := HTI.out.get hil
      have ht0 := HTI.out.get (i := 0) (by omega)
      have hn0 := ht0.n63.1
      have hl0 := ht0.l1
      have HIL : Hid (i < (rsT l).length) := by show _ < _; rw [HRL.out]; exact hlt
      have HSPD : Hid (∀ u, EnvX wr u [] → Calls Tryd.prog 13 #[.slice A3 q.length c3, txV (l.getD i noTxM)] u fun e w' => (∃ v, e = .returned (.tuple #[v, .int .i64 (spendP q (l.getD i noTxM).r).2.1, .int .i64 ((spendP q (l.getD i noTxM).r).2.2 : Int)]) ∧ CoSl w' v (spendP q (l.getD i noTxM).r).1) ∧ Below u.heap.size u w') := fun u hu =>
        rspendP q A3 q.length c3 (l.getD i noTxM) u rfl HCC.out.1 HCC.out.2 HRB.out.1 (CellsIn.up HC3.out (EnvX.bel hu)) (HTX.out.up (HBL.out u hu))
      have hrg := HRG.out i hlt
      have hrg0 := HRG.out 0 (by omega)
      obtain ⟨k0, hk0⟩ : ∃ k0, (l.getD 0 noTxM).n1 = k0 := ⟨_, rfl⟩
      rw [hk0] at HL0 hn0 hl0
      have HLONE : Hid (loneX (rsT l) = decide (k0 = 0)) := by
        show _ = _
        rw [lone_get noTx (by rw [HRL.out]; omega), hrg0]
        refine decide_eq_decide.2 ⟨fun h => ?_, fun h => ?_⟩
        · rw [h] at hl0; exact hl0.symm
        · rw [h] at hl0; exact List.eq_nil_of_length_eq_zero hl0
      have HN0 : Hid (k0 < 9223372036854775808) := hn0
      obtain ⟨a0, ha0⟩ : ∃ a0, (l.getD 0 noTxM).A1 = a0 := ⟨_, rfl⟩
      obtain ⟨d0, hd0⟩ : ∃ d0, (l.getD 0 noTxM).c1 = d0 := ⟨_, rfl⟩
      rw [ha0, hd0] at HL0
      obtain ⟨t, ht⟩ : ∃ t, l.getD i noTxM = t := ⟨_, rfl⟩
      rw [ht] at HLD HTX HSPD hrg
      have HRT : Hid ((rsT l).getD i noTx = t.r) := hrg
      clear hld hld0 hil hlt ht0 hn0 hl0 hrg hrg0 hk0 ha0 hd0 ht hA0
      go_upto_region 9 with (fail)
      refine wp_region_Hx (w0 := wr) [0, 1, 2, 3] [] rfl EK.out ?_
      refine lexH_phase [0, 1, 2, 3] [] ?_
      have hw21 : EnvX wr _ [] := EK.out
      have hone := @EnvC.one _ _ _ hw21
      iterate 2 (refine wpG_op rfl rfl rfl ?_; intro K hK; go_big_quiet_op; go_big_quiet_on)
      (refine wpG_val (v := .int .i64 (n' : Int)) rfl rfl (fun u hu => len_op Tryd.underlying27 HM63.out u rfl) ?_ hw21; intro K hK; go_big_quiet_op; go_big_quiet_on)
      (refine wpG_val (v := .bool true) rfl rfl (fun u hu => ltZ_op u C9.out rfl rfl) ?_ hw21; intro K hK; go_big_quiet_op; go_big_quiet_on)
      clear hone hw21
      refine wpG_nil ?_
      intro u23 E2'
      have EX22 := Lib.hid E2'
      clear E2'
      by_cases h0 : i = 0
      · subst h0
        have C11 : Hid (decide (((0 : Nat) : Int) = 0) = true) := decide_eq_true rfl
        have HI0 : Hid (0 < n') := HI.out
        by_cases hk : k0 = 0
        · subst hk
          have C12 : Hid (decide (((0 : Nat) : Int) = 0) = true) := decide_eq_true rfl
          go_upto_region 11 with (fail)
          refine wp_region_Hx (w0 := wr) [0, 1, 2, 3, 4, 5, 6, 7, 8, 9] [] rfl EX22.out ?_
          refine lexH_phase [0, 1, 2, 3, 4, 5, 6, 7, 8, 9] [] ?_
          have hw41 : EnvX wr _ [] := EX22.out
          have hone := @EnvC.one _ _ _ hw41
          (refine wpG_op rfl rfl rfl ?_; intro K hK; go_big_quiet_op; go_big_quiet_on)
          (refine wpG_val (v := .bool true) rfl rfl (fun u hu => eqlI_op u C11.out rfl rfl) ?_ hw41; intro K hK; go_big_quiet_op; go_big_quiet_on)
          iterate 2 (refine wpG_op rfl rfl rfl ?_; intro K hK; go_big_quiet_op; go_big_quiet_on)
          (refine wpG_val (v := .pointer (some (ad0.add (0 * 2)))) rfl rfl (fun u hu => idxSl_op (i := 0) Tryd.underlying27 aggTx.size HI0.out u rfl rfl) ?_ hw41; intro K hK; go_big_quiet_op; go_big_quiet_on)
          (refine wpG_val (v := .pointer (some ((ad0.add (0 * 2)).add 0))) rfl rfl (fun u hu => fieldTx_op (k := 0) (off := 0) rfl u rfl) ?_ hw41; intro K hK; go_big_quiet_op; go_big_quiet_on)
          (refine wpG_val (v := .slice a0 0 d0) rfl rfl (fun u hu => load_any_op u (HL0.out u (EnvX.sub hu (fun _ h => by cases h))) rfl) ?_ hw41; intro K hK; go_big_quiet_op; go_big_quiet_on)
          (refine wpG_val (v := .int .i64 (0 : Int)) rfl rfl (fun u hu => len_op Tryd.underlying23 HN0.out u rfl) ?_ hw41; intro K hK; go_big_quiet_op; go_big_quiet_on)
          (refine wpG_val (v := .bool true) rfl rfl (fun u hu => eqlI_op u C12.out rfl rfl) ?_ hw41; intro K hK; go_big_quiet_op; go_big_quiet_on)
          (refine wpG_op rfl rfl rfl ?_; intro K hK; go_big_quiet_op; go_big_quiet_on)
          clear hone hw41
          refine wpG_nil ?_
          intro u43 E2'
          have EX42 := Lib.hid E2'
          clear E2'
          have hlone : loneX (rsT l) = true := by rw [HLONE.out]; rfl
          have hq : q = p ∧ m = 0 := by
            have h := HRUN.out
            rw [skipX_zero] at h
            cases h
            exact ⟨rfl, rfl⟩
          have HNX : Hid (runP p 0 (skipX (rsT l) 1) = .ok (q, m) ∧ CoSl u43 (.slice A3 q.length c3) q ∧ Below w.heap.size w u43) := ⟨by rw [skipX_lone hlone, hq.1, hq.2]; rfl, ⟨A3, c3, rfl, HCC.out.1, HCC.out.2, CellsIn.up HC3.out (EnvX.bel EX42.out)⟩, HBL.out _ EX42.out⟩
          have hii := HI.out
          have hk2 := HK2.out
          clear hlone hq
          go_wp2
          go_roundw
          case rel => exact ⟨1, _, _, by omega, by go_num, rfl, HNX⟩
          case measure => simp [intOf]; omega
        · have C12 : Hid (decide ((k0 : Int) = 0) = false) := decide_eq_false (by omega)
          have HNL : Hid (NotLone (rsT l) 0) := fun h => by
            rw [HLONE.out] at h
            exact hk (of_decide_eq_true h.2)
          clear hk
          go_upto_region 11 with (fail)
          refine wp_region_Hx (w0 := wr) [0, 1, 2, 3, 4, 5, 6, 7, 8, 9] [] rfl EX22.out ?_
          refine lexH_phase [0, 1, 2, 3, 4, 5, 6, 7, 8, 9] [] ?_
          have hw81 : EnvX wr _ [] := EX22.out
          have hone := @EnvC.one _ _ _ hw81
          (refine wpG_op rfl rfl rfl ?_; intro K hK; go_big_quiet_op; go_big_quiet_on)
          (refine wpG_val (v := .bool true) rfl rfl (fun u hu => eqlI_op u C11.out rfl rfl) ?_ hw81; intro K hK; go_big_quiet_op; go_big_quiet_on)
          iterate 2 (refine wpG_op rfl rfl rfl ?_; intro K hK; go_big_quiet_op; go_big_quiet_on)
          (refine wpG_val (v := .pointer (some (ad0.add (0 * 2)))) rfl rfl (fun u hu => idxSl_op (i := 0) Tryd.underlying27 aggTx.size HI0.out u rfl rfl) ?_ hw81; intro K hK; go_big_quiet_op; go_big_quiet_on)
          (refine wpG_val (v := .pointer (some ((ad0.add (0 * 2)).add 0))) rfl rfl (fun u hu => fieldTx_op (k := 0) (off := 0) rfl u rfl) ?_ hw81; intro K hK; go_big_quiet_op; go_big_quiet_on)
          (refine wpG_val (v := .slice a0 k0 d0) rfl rfl (fun u hu => load_any_op u (HL0.out u (EnvX.sub hu (fun _ h => by cases h))) rfl) ?_ hw81; intro K hK; go_big_quiet_op; go_big_quiet_on)
          (refine wpG_val (v := .int .i64 (k0 : Int)) rfl rfl (fun u hu => len_op Tryd.underlying23 HN0.out u rfl) ?_ hw81; intro K hK; go_big_quiet_op; go_big_quiet_on)
          (refine wpG_val (v := .bool false) rfl rfl (fun u hu => eqlI_op u C12.out rfl rfl) ?_ hw81; intro K hK; go_big_quiet_op; go_big_quiet_on)
          (refine wpG_op rfl rfl rfl ?_; intro K hK; go_big_quiet_op; go_big_quiet_on)
          clear hone hw81
          refine wpG_nil ?_
          intro u83 E2'
          have EX82 := Lib.hid E2'
          clear E2'
          go_upto_region 12 with (fail)
          have HLD0 : Hid ((loadVar 26 (ad0.add (0 * 2))).run Tryd.prog u83 = .ok (txV t) u83) := HLD.out _ EX82.out
          have hidx : ∀ (v : World), (Instr.indexAt 27 (.slice (some ad0) n' c') (.int .i64 ((0 : Nat) : Int))).run Tryd.prog v = .ok (.pointer (some (ad0.add (0 * 2)))) v := fun v => run_idxTx HI.out v
          go_wp2_with ((with_reducible refine wpList_load_run (o := ⟨some 46, _, _, _, _, _⟩) ?_ 26 (.tmp 45) ?_ (ad0.add (0 * 2)) ?_ HLD0.out ?_); (rfl); (rfl); (rfl))
          refine (HSPD.out u83 EX82.out).mono ?_
          rintro e u9 ⟨⟨v9, rfl, A9, c9, rfl, k1, k2, k3⟩, hb⟩
          have HB9 : Hid (Below w.heap.size w u9) := (HBL.out _ EX82.out).trans (hb.mono (HBL.out _ EX82.out).size)
          have E9 : Hid (EnvX u9 u9 []) := EnvX.start u9
          rcases hsp : spendP q t.r with ⟨q2, m2, e2⟩
          rw [hsp] at k1 k3
          simp only at k1 k3 ⊢
          have HSP := Lib.hid hsp
          have HR9 : Hid (CoinsIn u9 u9.heap.size A9 q2) := k3
          have HC9 := Lib.hid (And.intro k1 k2)
          clear EX82 HLD0 hidx hb k1 k2 k3 hsp
          cases e2 with
          | succ e =>
            have C13 : Hid (decide (((e + 1 : Nat) : Int) ≠ 0) = true) := decide_eq_true (by omega)
            have HF : Hid (applyP p (rsT l) = (p, e + 1)) := apply_err HK.out (by rw [HRL.out]; have := HK2.out; omega) (run_stopR noTx HIL.out HNL.out HRUN.out (by rw [HRT.out]; exact HSP.out))
            go_upto_region 13 with (fail)
            refine wp_region_Hx (w0 := u9) [0, 1] [] rfl E9.out ?_
            refine lexH_phase [0, 1] [] ?_
            have hw121 : EnvX u9 _ [] := E9.out
            have hone := @EnvC.one _ _ _ hw121
            (refine wpG_op rfl rfl rfl ?_; intro K hK; go_big_quiet_op; go_big_quiet_on)
            (refine wpG_val (v := .bool true) rfl rfl (fun u hu => neErr_op u C13.out rfl rfl) ?_ hw121; intro K hK; go_big_quiet_op; go_big_quiet_on)
            clear hone hw121
            refine wpG_nil ?_
            intro u123 E2'
            have EX122 := Lib.hid E2'
            clear E2'
            go_upto_region 14 with (fail)
            refine wp_region_Hx (w0 := u9) [0, 1, 2, 3] [] rfl EX122.out ?_
            refine lexH_phase [0, 1, 2, 3] [] ?_
            have hw124 : EnvX u9 _ [] := EX122.out
            have hone := @EnvC.one _ _ _ hw124
            iterate 4 (refine wpG_op rfl rfl rfl ?_; intro K hK; go_big_quiet_op; go_big_quiet_on)
            clear hone hw124
            refine wpG_nil ?_
            intro u126 E2'
            have EX125 := Lib.hid E2'
            clear E2'
            have HBE : Hid (Below w.heap.size w u126) := HB9.out.trans ((EnvX.bel EX125.out).mono HB9.out.size)
            have HR0 := Lib.hid (HP0.out _ HBE.out)
            go_wp2
            go_returns
            exact ⟨⟨.slice A n c, by rw [HF.out]; first | done | rfl, by rw [HF.out]; exact HR0.out⟩, HBE.out⟩
          | zero =>
            have C13 : Hid (decide (((0 : Nat) : Int) ≠ 0) = false) := decide_eq_false (by omega)
            have hstp := run_stepR noTx HIL.out HNL.out HRUN.out (by rw [HRT.out]; exact HSP.out)
            have hrb2 := run_bounds HK.out HPP.out hstp
            have hrb := HRB.out
            have hsa := spend_all HRB.out.1.id HRB.out.2.2.2.2 t.r
            rw [HSP.out] at hsa
            have HADD : Hid (IntKind.i64.wrap (m + m2) = m + m2) := wrapS (by omega)
            have HSTP := Lib.hid hstp
            clear hstp hrb2 hrb hsa
            go_upto_region 13 with (fail)
            refine wp_region_Hx (w0 := u9) [0, 1] [] rfl E9.out ?_
            refine lexH_phase [0, 1] [] ?_
            have hw141 : EnvX u9 _ [] := E9.out
            have hone := @EnvC.one _ _ _ hw141
            (refine wpG_op rfl rfl rfl ?_; intro K hK; go_big_quiet_op; go_big_quiet_on)
            (refine wpG_val (v := .bool false) rfl rfl (fun u hu => neErr_op u C13.out rfl rfl) ?_ hw141; intro K hK; go_big_quiet_op; go_big_quiet_on)
            clear hone hw141
            refine wpG_nil ?_
            intro u143 E2'
            have EX142 := Lib.hid E2'
            clear E2'
            go_upto_region 15 with (fail)
            refine wp_region_Hx (w0 := u9) [0, 1] [] rfl EX142.out ?_
            refine lexH_phase [0, 1] [] ?_
            have hw144 : EnvX u9 _ [] := EX142.out
            have hone := @EnvC.one _ _ _ hw144
            iterate 2 (refine wpG_op rfl rfl rfl ?_; intro K hK; go_big_quiet_op; go_big_quiet_on)
            clear hone hw144
            refine wpG_nil ?_
            intro u146 E2'
            have EX145 := Lib.hid E2'
            clear E2'
            go_upto_region 16 with (fail)
            refine wp_region_Hx (w0 := u9) [0, 1, 2, 3] [] rfl EX145.out ?_
            refine lexH_phase [0, 1, 2, 3] [] ?_
            have hw147 : EnvX u9 _ [] := EX145.out
            have hone := @EnvC.one _ _ _ hw147
            iterate 2 (refine wpG_op rfl rfl rfl ?_; intro K hK; go_big_quiet_op; go_big_quiet_on)
            (refine wpG_val (v := .int .i64 (m + m2)) rfl rfl (fun u hu => addZ_op u HADD.out rfl rfl) ?_ hw147; intro K hK; go_big_quiet_op; go_big_quiet_on)
            (refine wpG_op rfl rfl rfl ?_; intro K hK; go_big_quiet_op; go_big_quiet_on)
            clear hone hw147
            refine wpG_nil ?_
            intro u149 E2'
            have EX148 := Lib.hid E2'
            clear E2'
            have HNX : Hid (runP p 0 (skipX (rsT l) (0 + 1)) = .ok (q2, (m + m2)) ∧ CoSl u149 (.slice A9 q2.length c9) q2 ∧ Below w.heap.size w u149) := ⟨HSTP.out, ⟨A9, c9, rfl, HC9.out.1, HC9.out.2, CellsIn.up HR9.out (EnvX.bel EX148.out)⟩, HB9.out.trans ((EnvX.bel EX148.out).mono HB9.out.size)⟩
            have hii := HI.out
            have hk2 := HK2.out
            go_wp2
            go_roundw
            case rel => exact ⟨0 + 1, _, _, by omega, by go_num, rfl, HNX⟩
            case measure => simp [intOf]; omega
      · have C11 : Hid (decide ((i : Int) = 0) = false) := decide_eq_false (by omega)
        have HNL : Hid (NotLone (rsT l) i) := fun h => h0 h.1
        clear h0
        go_upto_region 11 with (fail)
        refine wp_region_Hx (w0 := wr) [0, 1, 2, 3, 4, 5, 6, 7, 8, 9] [] rfl EX22.out ?_
        refine lexH_phase [0, 1, 2, 3, 4, 5, 6, 7, 8, 9] [] ?_
        have hw201 : EnvX wr _ [] := EX22.out
        have hone := @EnvC.one _ _ _ hw201
        (refine wpG_op rfl rfl rfl ?_; intro K hK; go_big_quiet_op; go_big_quiet_on)
        (refine wpG_val (v := .bool false) rfl rfl (fun u hu => eqlI_op u C11.out rfl rfl) ?_ hw201; intro K hK; go_big_quiet_op; go_big_quiet_on)
        (refine wpG_op rfl rfl rfl ?_; intro K hK; go_big_quiet_op; go_big_quiet_on)
        iterate 6 (refine wpG_skip rfl rfl ?_ hw201; intro K hK; go_big_quiet_op; go_big_quiet_on)
        (refine wpG_op rfl rfl rfl ?_; intro K hK; go_big_quiet_op; go_big_quiet_on)
        clear hone hw201
        refine wpG_nil ?_
        intro u203 E2'
        have EX202 := Lib.hid E2'
        clear E2'
        go_upto_region 12 with (fail)
        have HLD0 : Hid ((loadVar 26 (ad0.add (i * 2))).run Tryd.prog u203 = .ok (txV t) u203) := HLD.out _ EX202.out
        have hidx : ∀ (v : World), (Instr.indexAt 27 (.slice (some ad0) n' c') (.int .i64 (i : Int))).run Tryd.prog v = .ok (.pointer (some (ad0.add (i * 2)))) v := fun v => run_idxTx HI.out v
        go_wp2_with ((with_reducible refine wpList_load_run (o := ⟨some 46, _, _, _, _, _⟩) ?_ 26 (.tmp 45) ?_ (ad0.add (i * 2)) ?_ HLD0.out ?_); (rfl); (rfl); (rfl))
        refine (HSPD.out u203 EX202.out).mono ?_
        rintro e u9 ⟨⟨v9, rfl, A9, c9, rfl, k1, k2, k3⟩, hb⟩
        have HB9 : Hid (Below w.heap.size w u9) := (HBL.out _ EX202.out).trans (hb.mono (HBL.out _ EX202.out).size)
        have E9 : Hid (EnvX u9 u9 []) := EnvX.start u9
        rcases hsp : spendP q t.r with ⟨q2, m2, e2⟩
        rw [hsp] at k1 k3
        simp only at k1 k3 ⊢
        have HSP := Lib.hid hsp
        have HR9 : Hid (CoinsIn u9 u9.heap.size A9 q2) := k3
        have HC9 := Lib.hid (And.intro k1 k2)
        clear EX202 HLD0 hidx hb k1 k2 k3 hsp
        cases e2 with
        | succ e =>
          have C13 : Hid (decide (((e + 1 : Nat) : Int) ≠ 0) = true) := decide_eq_true (by omega)
          have HF : Hid (applyP p (rsT l) = (p, e + 1)) := apply_err HK.out (by rw [HRL.out]; have := HK2.out; omega) (run_stopR noTx HIL.out HNL.out HRUN.out (by rw [HRT.out]; exact HSP.out))
          go_upto_region 13 with (fail)
          refine wp_region_Hx (w0 := u9) [0, 1] [] rfl E9.out ?_
          refine lexH_phase [0, 1] [] ?_
          have hw241 : EnvX u9 _ [] := E9.out
          have hone := @EnvC.one _ _ _ hw241
          (refine wpG_op rfl rfl rfl ?_; intro K hK; go_big_quiet_op; go_big_quiet_on)
          (refine wpG_val (v := .bool true) rfl rfl (fun u hu => neErr_op u C13.out rfl rfl) ?_ hw241; intro K hK; go_big_quiet_op; go_big_quiet_on)
          clear hone hw241
          refine wpG_nil ?_
          intro u243 E2'
          have EX242 := Lib.hid E2'
          clear E2'
          go_upto_region 14 with (fail)
          refine wp_region_Hx (w0 := u9) [0, 1, 2, 3] [] rfl EX242.out ?_
          refine lexH_phase [0, 1, 2, 3] [] ?_
          have hw244 : EnvX u9 _ [] := EX242.out
          have hone := @EnvC.one _ _ _ hw244
          iterate 4 (refine wpG_op rfl rfl rfl ?_; intro K hK; go_big_quiet_op; go_big_quiet_on)
          clear hone hw244
          refine wpG_nil ?_
          intro u246 E2'
          have EX245 := Lib.hid E2'
          clear E2'
          have HBE : Hid (Below w.heap.size w u246) := HB9.out.trans ((EnvX.bel EX245.out).mono HB9.out.size)
          have HR0 := Lib.hid (HP0.out _ HBE.out)
          go_wp2
          go_returns
          exact ⟨⟨.slice A n c, by rw [HF.out]; first | done | rfl, by rw [HF.out]; exact HR0.out⟩, HBE.out⟩
        | zero =>
          have C13 : Hid (decide (((0 : Nat) : Int) ≠ 0) = false) := decide_eq_false (by omega)
          have hstp := run_stepR noTx HIL.out HNL.out HRUN.out (by rw [HRT.out]; exact HSP.out)
          have hrb2 := run_bounds HK.out HPP.out hstp
          have hrb := HRB.out
          have hsa := spend_all HRB.out.1.id HRB.out.2.2.2.2 t.r
          rw [HSP.out] at hsa
          have HADD : Hid (IntKind.i64.wrap (m + m2) = m + m2) := wrapS (by omega)
          have HSTP := Lib.hid hstp
          clear hstp hrb2 hrb hsa
          go_upto_region 13 with (fail)
          refine wp_region_Hx (w0 := u9) [0, 1] [] rfl E9.out ?_
          refine lexH_phase [0, 1] [] ?_
          have hw261 : EnvX u9 _ [] := E9.out
          have hone := @EnvC.one _ _ _ hw261
          (refine wpG_op rfl rfl rfl ?_; intro K hK; go_big_quiet_op; go_big_quiet_on)
          (refine wpG_val (v := .bool false) rfl rfl (fun u hu => neErr_op u C13.out rfl rfl) ?_ hw261; intro K hK; go_big_quiet_op; go_big_quiet_on)
          clear hone hw261
          refine wpG_nil ?_
          intro u263 E2'
          have EX262 := Lib.hid E2'
          clear E2'
          go_upto_region 15 with (fail)
          refine wp_region_Hx (w0 := u9) [0, 1] [] rfl EX262.out ?_
          refine lexH_phase [0, 1] [] ?_
          have hw264 : EnvX u9 _ [] := EX262.out
          have hone := @EnvC.one _ _ _ hw264
          iterate 2 (refine wpG_op rfl rfl rfl ?_; intro K hK; go_big_quiet_op; go_big_quiet_on)
          clear hone hw264
          refine wpG_nil ?_
          intro u266 E2'
          have EX265 := Lib.hid E2'
          clear E2'
          go_upto_region 16 with (fail)
          refine wp_region_Hx (w0 := u9) [0, 1, 2, 3] [] rfl EX265.out ?_
          refine lexH_phase [0, 1, 2, 3] [] ?_
          have hw267 : EnvX u9 _ [] := EX265.out
          have hone := @EnvC.one _ _ _ hw267
          iterate 2 (refine wpG_op rfl rfl rfl ?_; intro K hK; go_big_quiet_op; go_big_quiet_on)
          (refine wpG_val (v := .int .i64 (m + m2)) rfl rfl (fun u hu => addZ_op u HADD.out rfl rfl) ?_ hw267; intro K hK; go_big_quiet_op; go_big_quiet_on)
          (refine wpG_op rfl rfl rfl ?_; intro K hK; go_big_quiet_op; go_big_quiet_on)
          clear hone hw267
          refine wpG_nil ?_
          intro u269 E2'
          have EX268 := Lib.hid E2'
          clear E2'
          have HNX : Hid (runP p 0 (skipX (rsT l) (i + 1)) = .ok (q2, (m + m2)) ∧ CoSl u269 (.slice A9 q2.length c9) q2 ∧ Below w.heap.size w u269) := ⟨HSTP.out, ⟨A9, c9, rfl, HC9.out.1, HC9.out.2, CellsIn.up HR9.out (EnvX.bel EX268.out)⟩, HB9.out.trans ((EnvX.bel EX268.out).mono HB9.out.size)⟩
          have hii := HI.out
          have hk2 := HK2.out
          go_wp2
          go_roundw
          case rel => exact ⟨i + 1, _, _, by omega, by go_num, rfl, HNX⟩
          case measure => simp [intOf]; omega
    · obtain rfl : i = n' := by omega
      have C9 : Hid (decide ((i : Int) < (i : Int)) = false) := decide_eq_false (by omega)
      have HRA : Hid (runP p 0 (if loneX (rsT l) then (rsT l).tail else rsT l) = .ok (q, m)) := by
        have h := HRUN.out
        rw [← HRL.out, skipX_all] at h
        exact h
      clear hlt
      go_upto_region 9 with (fail)
      refine wp_region_Hx (w0 := wr) [0, 1, 2, 3] [] rfl EK.out ?_
      refine lexH_phase [0, 1, 2, 3] [] ?_
      have hw601 : EnvX wr _ [] := EK.out
      have hone := @EnvC.one _ _ _ hw601
      iterate 2 (refine wpG_op rfl rfl rfl ?_; intro K hK; go_big_quiet_op; go_big_quiet_on)
      (refine wpG_val (v := .int .i64 (i : Int)) rfl rfl (fun u hu => len_op Tryd.underlying27 HM63.out u rfl) ?_ hw601; intro K hK; go_big_quiet_op; go_big_quiet_on)
      (refine wpG_val (v := .bool false) rfl rfl (fun u hu => ltZ_op u C9.out rfl rfl) ?_ hw601; intro K hK; go_big_quiet_op; go_big_quiet_on)
      clear hone hw601
      refine wpG_nil ?_
      intro u603 E2'
      have EX602 := Lib.hid E2'
      clear E2'
      by_cases h0 : i = 0
      · subst h0
        have C17 : Hid (decide (((0 : Nat) : Int) = 0) = true) := decide_eq_true rfl
        have HF : Hid (applyP p (rsT l) = (q, 0)) := apply_out HK.out (by rw [HRL.out]; decide) HRA.out (by
          have h : rsT l = [] := List.eq_nil_of_length_eq_zero HRL.out
          rw [h]
          rfl)
        go_upto_region 17 with (fail)
        refine wp_region_Hx (w0 := wr) [0, 1, 2, 3, 4, 5, 6, 7, 8, 9, 10] [] rfl EX602.out ?_
        refine lexH_phase [0, 1, 2, 3, 4, 5, 6, 7, 8, 9, 10] [] ?_
        have hw621 : EnvX wr _ [] := EX602.out
        have hone := @EnvC.one _ _ _ hw621
        (refine wpG_op rfl rfl rfl ?_; intro K hK; go_big_quiet_op; go_big_quiet_on)
        (refine wpG_val (v := .int .i64 ((0 : Nat) : Int)) rfl rfl (fun u hu => len_op Tryd.underlying27 HM63.out u rfl) ?_ hw621; intro K hK; go_big_quiet_op; go_big_quiet_on)
        (refine wpG_val (v := .bool true) rfl rfl (fun u hu => eqlI_op u C17.out rfl rfl) ?_ hw621; intro K hK; go_big_quiet_op; go_big_quiet_on)
        (refine wpG_op rfl rfl rfl ?_; intro K hK; go_big_quiet_op; go_big_quiet_on)
        iterate 6 (refine wpG_skip rfl rfl ?_ hw621; intro K hK; go_big_quiet_op; go_big_quiet_on)
        (refine wpG_op rfl rfl rfl ?_; intro K hK; go_big_quiet_op; go_big_quiet_on)
        clear hone hw621
        refine wpG_nil ?_
        intro u623 E2'
        have EX622 := Lib.hid E2'
        clear E2'
        go_upto_region 18 with (fail)
        refine wp_region_Hx (w0 := wr) [0, 1, 2] [] rfl EX622.out ?_
        refine lexH_phase [0, 1, 2] [] ?_
        have hw624 : EnvX wr _ [] := EX622.out
        have hone := @EnvC.one _ _ _ hw624
        iterate 3 (refine wpG_op rfl rfl rfl ?_; intro K hK; go_big_quiet_op; go_big_quiet_on)
        clear hone hw624
        refine wpG_nil ?_
        intro u626 E2'
        have EX625 := Lib.hid E2'
        clear E2'
        have HBE := Lib.hid (HBL.out _ EX625.out)
        have HRR : Hid (CoSl u626 (.slice A3 q.length c3) q) := ⟨A3, c3, rfl, HCC.out.1, HCC.out.2, CellsIn.up HC3.out (EnvX.bel EX625.out)⟩
        go_wp2
        go_returns
        exact ⟨⟨.slice A3 q.length c3, by rw [HF.out]; rfl, by rw [HF.out]; exact HRR.out⟩, HBE.out⟩
      have C17 : Hid (decide ((i : Int) = 0) = false) := decide_eq_false (by omega)
      have HI0 : Hid (0 < i) := by show _ < _; omega
      obtain ⟨ad0, hA0, -, hld0⟩ := HTI.out.loads (k := 0) (by rw [HL'.out]; omega)
      subst hA0
      have HLD0 : Hid (∀ u, EnvX wr u [] → (loadVar 26 (ad0.add (0 * 2))).run Tryd.prog u = .ok (txV (l.getD 0 noTxM)) u) := fun u hu => (hld0 u ⟨HBL.out u hu, fun _ _ h => by cases h⟩).1
      have HL0 : Hid (∀ u, EnvX wr u [] → (loadVar 23 ((ad0.add (0 * 2)).add 0)).run Tryd.prog u = .ok (.slice (l.getD 0 noTxM).A1 (l.getD 0 noTxM).n1 (l.getD 0 noTxM).c1) u) := fun u hu => by
        have h := (hld0 u ⟨HBL.out u hu, fun _ _ h => by cases h⟩).2.1
        rwa [show ((ad0.add (0 * 2)).add 0) = ad0.add (0 * 2) by unfold Addr.add; rfl]
      have hrg0 := HRG.out 0 (by omega)
      have HT0 : Hid (TxOk w (l.getD 0 noTxM)) := HTI.out.get (i := 0) (by rw [HL'.out]; omega)
      have hlone := lone_get (l := rsT l) noTx (by rw [HRL.out]; omega)
      have hlone2 := apply_lone (p := p) (l := rsT l) HK.out (by rw [HRL.out]; have := HK2.out; omega) HRA.out
      obtain ⟨t, ht⟩ : ∃ t, l.getD 0 noTxM = t := ⟨_, rfl⟩
      rw [ht] at HLD0 HL0 HT0 hrg0
      obtain ⟨r, a0, k0, d0, A2, n2, c2⟩ := t
      have HN0 : Hid (k0 < 9223372036854775808) := HT0.out.n63.1
      have hl0 : r.ins.length = k0 := HT0.out.l1
      rw [hrg0] at hlone
      have hlk : loneX (rsT l) = decide (k0 = 0) := by
        rw [hlone]
        refine decide_eq_decide.2 ⟨fun h => ?_, fun h => ?_⟩
        · rw [show r.ins = [] from h] at hl0; exact hl0.symm
        · exact List.eq_nil_of_length_eq_zero (by rw [show r.ins.length = k0 from hl0, h])
      by_cases hk : 0 < k0
      · have C18 : Hid (decide ((0 : Int) < (k0 : Int)) = true) := decide_eq_true (by omega)
        have HF : Hid (applyP p (rsT l) = (q, 0)) := apply_out HK.out (by rw [HRL.out]; have := HK2.out; omega) HRA.out (by rw [hlk]; exact decide_eq_false (by omega))
        clear hk hlk hlone hlone2 hl0 hrg0 ht h0 hld0
        go_upto_region 17 with (fail)
        refine wp_region_Hx (w0 := wr) [0, 1, 2, 3, 4, 5, 6, 7, 8, 9, 10] [] rfl EX602.out ?_
        refine lexH_phase [0, 1, 2, 3, 4, 5, 6, 7, 8, 9, 10] [] ?_
        have hw661 : EnvX wr _ [] := EX602.out
        have hone := @EnvC.one _ _ _ hw661
        (refine wpG_op rfl rfl rfl ?_; intro K hK; go_big_quiet_op; go_big_quiet_on)
        (refine wpG_val (v := .int .i64 (i : Int)) rfl rfl (fun u hu => len_op Tryd.underlying27 HM63.out u rfl) ?_ hw661; intro K hK; go_big_quiet_op; go_big_quiet_on)
        (refine wpG_val (v := .bool false) rfl rfl (fun u hu => eqlI_op u C17.out rfl rfl) ?_ hw661; intro K hK; go_big_quiet_op; go_big_quiet_on)
        iterate 2 (refine wpG_op rfl rfl rfl ?_; intro K hK; go_big_quiet_op; go_big_quiet_on)
        (refine wpG_val (v := .pointer (some (ad0.add (0 * 2)))) rfl rfl (fun u hu => idxSl_op (i := 0) Tryd.underlying27 aggTx.size HI0.out u rfl rfl) ?_ hw661; intro K hK; go_big_quiet_op; go_big_quiet_on)
        (refine wpG_val (v := .pointer (some ((ad0.add (0 * 2)).add 0))) rfl rfl (fun u hu => fieldTx_op (k := 0) (off := 0) rfl u rfl) ?_ hw661; intro K hK; go_big_quiet_op; go_big_quiet_on)
        (refine wpG_val (v := .slice a0 k0 d0) rfl rfl (fun u hu => load_any_op u (HL0.out u (EnvX.sub hu (fun _ h => by cases h))) rfl) ?_ hw661; intro K hK; go_big_quiet_op; go_big_quiet_on)
        (refine wpG_val (v := .int .i64 (k0 : Int)) rfl rfl (fun u hu => len_op Tryd.underlying23 HN0.out u rfl) ?_ hw661; intro K hK; go_big_quiet_op; go_big_quiet_on)
        (refine wpG_val (v := .bool true) rfl rfl (fun u hu => gtZ_op u C18.out rfl rfl) ?_ hw661; intro K hK; go_big_quiet_op; go_big_quiet_on)
        (refine wpG_op rfl rfl rfl ?_; intro K hK; go_big_quiet_op; go_big_quiet_on)
        clear hone hw661
        refine wpG_nil ?_
        intro u663 E2'
        have EX662 := Lib.hid E2'
        clear E2'
        go_upto_region 18 with (fail)
        refine wp_region_Hx (w0 := wr) [0, 1, 2] [] rfl EX662.out ?_
        refine lexH_phase [0, 1, 2] [] ?_
        have hw664 : EnvX wr _ [] := EX662.out
        have hone := @EnvC.one _ _ _ hw664
        iterate 3 (refine wpG_op rfl rfl rfl ?_; intro K hK; go_big_quiet_op; go_big_quiet_on)
        clear hone hw664
        refine wpG_nil ?_
        intro u666 E2'
        have EX665 := Lib.hid E2'
        clear E2'
        have HBE := Lib.hid (HBL.out _ EX665.out)
        have HRR : Hid (CoSl u666 (.slice A3 q.length c3) q) := ⟨A3, c3, rfl, HCC.out.1, HCC.out.2, CellsIn.up HC3.out (EnvX.bel EX665.out)⟩
        go_wp2
        go_returns
        exact ⟨⟨.slice A3 q.length c3, by rw [HF.out]; rfl, by rw [HF.out]; exact HRR.out⟩, HBE.out⟩
      · obtain rfl : k0 = 0 := by omega
        have C18 : Hid (decide ((0 : Int) < ((0 : Nat) : Int)) = false) := decide_eq_false (by omega)
        have hap := hlone2 (by rw [hlk]; rfl) noTx
        rw [hrg0] at hap
        have HAP : Hid (applyP p (rsT l) = if mayX r = false then (p, 1) else if thereP q (idX r) then (p, 10) else if 50 + m < worthX r then (p, 8) else if 48 < (madeP q (newC (idX r) 0 r.outs)).length then (p, 11) else (madeP q (newC (idX r) 0 r.outs), 0)) := hap
        have HTM : Hid (∀ u, EnvX wr u [] → Calls Tryd.prog 27 #[txV ⟨r, a0, 0, d0, A2, n2, c2⟩] u fun e w' => e = .returned (.bool (mayX r)) ∧ Below u.heap.size u w') := fun u hu => rmayX_any r a0 0 d0 A2 n2 c2 u (HT0.out.up (HBL.out u hu))
        clear hk hlk hlone hlone2 hl0 hrg0 ht h0 hld0 hap
        obtain ⟨bm, hbm⟩ : ∃ bm, mayX r = bm := ⟨_, rfl⟩
        rw [hbm] at HTM HAP
        have HBM := Lib.hid hbm
        clear hbm
        go_upto_region 17 with (fail)
        refine wp_region_Hx (w0 := wr) [0, 1, 2, 3, 4, 5, 6, 7, 8, 9, 10] [] rfl EX602.out ?_
        refine lexH_phase [0, 1, 2, 3, 4, 5, 6, 7, 8, 9, 10] [] ?_
        have hw701 : EnvX wr _ [] := EX602.out
        have hone := @EnvC.one _ _ _ hw701
        (refine wpG_op rfl rfl rfl ?_; intro K hK; go_big_quiet_op; go_big_quiet_on)
        (refine wpG_val (v := .int .i64 (i : Int)) rfl rfl (fun u hu => len_op Tryd.underlying27 HM63.out u rfl) ?_ hw701; intro K hK; go_big_quiet_op; go_big_quiet_on)
        (refine wpG_val (v := .bool false) rfl rfl (fun u hu => eqlI_op u C17.out rfl rfl) ?_ hw701; intro K hK; go_big_quiet_op; go_big_quiet_on)
        iterate 2 (refine wpG_op rfl rfl rfl ?_; intro K hK; go_big_quiet_op; go_big_quiet_on)
        (refine wpG_val (v := .pointer (some (ad0.add (0 * 2)))) rfl rfl (fun u hu => idxSl_op (i := 0) Tryd.underlying27 aggTx.size HI0.out u rfl rfl) ?_ hw701; intro K hK; go_big_quiet_op; go_big_quiet_on)
        (refine wpG_val (v := .pointer (some ((ad0.add (0 * 2)).add 0))) rfl rfl (fun u hu => fieldTx_op (k := 0) (off := 0) rfl u rfl) ?_ hw701; intro K hK; go_big_quiet_op; go_big_quiet_on)
        (refine wpG_val (v := .slice a0 0 d0) rfl rfl (fun u hu => load_any_op u (HL0.out u (EnvX.sub hu (fun _ h => by cases h))) rfl) ?_ hw701; intro K hK; go_big_quiet_op; go_big_quiet_on)
        (refine wpG_val (v := .int .i64 (0 : Int)) rfl rfl (fun u hu => len_op Tryd.underlying23 HN0.out u rfl) ?_ hw701; intro K hK; go_big_quiet_op; go_big_quiet_on)
        (refine wpG_val (v := .bool false) rfl rfl (fun u hu => gtZ_op u C18.out rfl rfl) ?_ hw701; intro K hK; go_big_quiet_op; go_big_quiet_on)
        (refine wpG_op rfl rfl rfl ?_; intro K hK; go_big_quiet_op; go_big_quiet_on)
        clear hone hw701
        refine wpG_nil ?_
        intro u703 E2'
        have EX702 := Lib.hid E2'
        clear E2'
        go_upto_region 19 with (fail)
        refine wp_region_Hx (w0 := wr) [0, 1, 2, 3, 4] [] rfl EX702.out ?_
        refine lexH_phase [0, 1, 2, 3, 4] [] ?_
        have hw704 : EnvX wr _ [] := EX702.out
        have hone := @EnvC.one _ _ _ hw704
        (refine wpG_op rfl rfl rfl ?_; intro K hK; go_big_quiet_op; go_big_quiet_on)
        (refine wpG_val (v := .pointer (some (ad0.add (0 * 2)))) rfl rfl (fun u hu => idxSl_op (i := 0) Tryd.underlying27 aggTx.size HI0.out u rfl rfl) ?_ hw704; intro K hK; go_big_quiet_op; go_big_quiet_on)
        (refine wpG_val (v := txV ⟨r, a0, 0, d0, A2, n2, c2⟩) rfl rfl (fun u hu => load_any_op u (HLD0.out u (EnvX.sub hu (fun _ h => by cases h))) rfl) ?_ hw704; intro K hK; go_big_quiet_op; go_big_quiet_on)
        (refine wpG_call (f := 27) (args := #[txV ⟨r, a0, 0, d0, A2, n2, c2⟩]) (v := .bool bm) rfl rfl rfl Tryd.func27 rfl rfl (fun u hu => HTM.out u hu) ?_ hw704; intro K hK; go_big_quiet_op; go_big_quiet_on)
        (refine wpG_op rfl rfl rfl ?_; intro K hK; go_big_quiet_op; go_big_quiet_on)
        clear hone hw704
        refine wpG_nil ?_
        intro u706 E2'
        have EX705 := Lib.hid E2'
        clear E2'
        cases bm with
        | false =>
          have HF : Hid (applyP p (rsT l) = (p, 1)) := HAP.out
          go_upto_region 20 with (fail)
          refine wp_region_Hx (w0 := wr) [0, 1] [] rfl EX705.out ?_
          refine lexH_phase [0, 1] [] ?_
          have hw707 : EnvX wr _ [] := EX705.out
          have hone := @EnvC.one _ _ _ hw707
          iterate 2 (refine wpG_op rfl rfl rfl ?_; intro K hK; go_big_quiet_op; go_big_quiet_on)
          clear hone hw707
          refine wpG_nil ?_
          intro u709 E2'
          have EX708 := Lib.hid E2'
          clear E2'
          go_upto_region 21 with (fail)
          refine wp_region_Hx (w0 := wr) [0, 1, 2] [] rfl EX708.out ?_
          refine lexH_phase [0, 1, 2] [] ?_
          have hw710 : EnvX wr _ [] := EX708.out
          have hone := @EnvC.one _ _ _ hw710
          iterate 3 (refine wpG_op rfl rfl rfl ?_; intro K hK; go_big_quiet_op; go_big_quiet_on)
          clear hone hw710
          refine wpG_nil ?_
          intro u712 E2'
          have EX711 := Lib.hid E2'
          clear E2'
          have HBE : Hid (Below w.heap.size w u712) := HBL.out _ EX711.out
          have HR0 := Lib.hid (HP0.out _ HBE.out)
          go_wp2
          go_returns
          exact ⟨⟨.slice A n c, by rw [HF.out]; first | done | rfl, by rw [HF.out]; exact HR0.out⟩, HBE.out⟩
        | true =>
          go_upto_region 20 with (fail)
          refine wp_region_Hx (w0 := wr) [0, 1] [] rfl EX705.out ?_
          refine lexH_phase [0, 1] [] ?_
          have hw707 : EnvX wr _ [] := EX705.out
          have hone := @EnvC.one _ _ _ hw707
          iterate 2 (refine wpG_op rfl rfl rfl ?_; intro K hK; go_big_quiet_op; go_big_quiet_on)
          clear hone hw707
          refine wpG_nil ?_
          intro u709 E2'
          have EX708 := Lib.hid E2'
          clear E2'
          have HAP2 : Hid (applyP p (rsT l) = if thereP q (idX r) then (p, 10) else if 50 + m < worthX r then (p, 8) else if 48 < (madeP q (newC (idX r) 0 r.outs)).length then (p, 11) else (madeP q (newC (idX r) 0 r.outs), 0)) := HAP.out
          have HWO : Hid (∀ u, EnvX wr u [] → Calls Tryd.prog 28 #[txV ⟨r, a0, 0, d0, A2, n2, c2⟩] u fun e w' => e = .returned (.int .i64 (worthX r)) ∧ Below u.heap.size u w') := fun u hu => rworthP_any ⟨r, a0, 0, d0, A2, n2, c2⟩ u (HT0.out.up (HBL.out u hu)) HBM.out
          have HIDC : Hid (∀ u, EnvX wr u [] → Calls Tryd.prog 30 #[txV ⟨r, a0, 0, d0, A2, n2, c2⟩] u fun e w' => e = .returned (idv (idX r)) ∧ Below u.heap.size u w') := fun u hu => ridX_any ⟨r, a0, 0, d0, A2, n2, c2⟩ u (HT0.out.up (HBL.out u hu))
          have HTH : Hid (∀ u, EnvX wr u [] → Calls Tryd.prog 29 #[.slice A3 q.length c3, idv (idX r)] u fun e w' => e = .returned (.bool (thereP q (idX r))) ∧ Below u.heap.size u w') := fun u hu => rthereP_any q A3 q.length c3 (idX r) u rfl HCC.out.1 HCC.out.2 HRB.out.1 (CellsIn.up HC3.out (EnvX.bel hu)) (idX_id r).1
          have HMD : Hid (∀ u, EnvX wr u [] → Calls Tryd.prog 31 #[.slice A3 q.length c3, txV ⟨r, a0, 0, d0, A2, n2, c2⟩] u fun e w' => (∃ v, e = .returned v ∧ CoSl w' v (madeP q (newC (idX r) 0 r.outs))) ∧ Below u.heap.size u w') := fun u hu => rmadeP_any q A3 q.length c3 ⟨r, a0, 0, d0, A2, n2, c2⟩ u rfl HCC.out.1 HCC.out.2 HRB.out.1 (CellsIn.up HC3.out (EnvX.bel hu)) (by have := HRB.out.2.1; omega) (HT0.out.up (HBL.out u hu)) HBM.out
          have hwb := worthL_bound (l := r.outs) (fun o ho => decide_eq_true ((mayX_iff.1 HBM.out).2.2.2.2.2 o ho))
          have h3o := (mayX_iff.1 HBM.out).2.2.1
          have hwe : worthX r = worthL r.outs := rfl
          rw [← hwe] at hwb
          have hmb := HRB.out.2.2
          obtain ⟨wx, hwx⟩ : ∃ wx, worthX r = wx := ⟨_, rfl⟩
          rw [hwx] at HWO HAP2 hwb
          have HAD : Hid (IntKind.i64.wrap (50 + m) = 50 + m) := wrapS (by omega)
          obtain ⟨id, hide⟩ : ∃ id, idX r = id := ⟨_, rfl⟩
          rw [hide] at HIDC HTH HMD HAP2
          have HR48 : Hid (q.length + r.outs.length ≤ 60 ∧ (madeP q (newC id 0 r.outs)).length = r.outs.length + q.length) := ⟨by have := HRB.out.2.1; omega, by rw [madeP_len, newC_len]⟩
          obtain ⟨bt, hbt⟩ : ∃ bt, thereP q id = bt := ⟨_, rfl⟩
          rw [hbt] at HTH HAP2
          clear hwb h3o hwe hmb hwx hide hbt HAP
          go_upto_region 22 with (fail)
          refine wp_region_Hx (w0 := wr) [0, 1, 2, 3, 4, 5, 6] [] rfl EX708.out ?_
          refine lexH_phase [0, 1, 2, 3, 4, 5, 6] [] ?_
          have hw710 : EnvX wr _ [] := EX708.out
          have hone := @EnvC.one _ _ _ hw710
          iterate 2 (refine wpG_op rfl rfl rfl ?_; intro K hK; go_big_quiet_op; go_big_quiet_on)
          (refine wpG_val (v := .pointer (some (ad0.add (0 * 2)))) rfl rfl (fun u hu => idxSl_op (i := 0) Tryd.underlying27 aggTx.size HI0.out u rfl rfl) ?_ hw710; intro K hK; go_big_quiet_op; go_big_quiet_on)
          (refine wpG_val (v := txV ⟨r, a0, 0, d0, A2, n2, c2⟩) rfl rfl (fun u hu => load_any_op u (HLD0.out u (EnvX.sub hu (fun _ h => by cases h))) rfl) ?_ hw710; intro K hK; go_big_quiet_op; go_big_quiet_on)
          (refine wpG_call (f := 30) (args := #[txV ⟨r, a0, 0, d0, A2, n2, c2⟩]) (v := idv id) rfl rfl rfl Tryd.func30 rfl rfl (fun u hu => HIDC.out u hu) ?_ hw710; intro K hK; go_big_quiet_op; go_big_quiet_on)
          (refine wpG_call (f := 29) (args := #[.slice A3 q.length c3, idv id]) (v := .bool bt) rfl rfl rfl Tryd.func29 rfl rfl (fun u hu => HTH.out u hu) ?_ hw710; intro K hK; go_big_quiet_op; go_big_quiet_on)
          (refine wpG_op rfl rfl rfl ?_; intro K hK; go_big_quiet_op; go_big_quiet_on)
          clear hone hw710
          refine wpG_nil ?_
          intro u712 E2'
          have EX711 := Lib.hid E2'
          clear E2'
          cases bt with
          | true =>
            have HF : Hid (applyP p (rsT l) = (p, 10)) := HAP2.out
            go_upto_region 23 with (fail)
            refine wp_region_Hx (w0 := wr) [0] [] rfl EX711.out ?_
            refine lexH_phase [0] [] ?_
            have hw713 : EnvX wr _ [] := EX711.out
            have hone := @EnvC.one _ _ _ hw713
            (refine wpG_op rfl rfl rfl ?_; intro K hK; go_big_quiet_op; go_big_quiet_on)
            clear hone hw713
            refine wpG_nil ?_
            intro u715 E2'
            have EX714 := Lib.hid E2'
            clear E2'
            go_upto_region 24 with (fail)
            refine wp_region_Hx (w0 := wr) [0, 1, 2] [] rfl EX714.out ?_
            refine lexH_phase [0, 1, 2] [] ?_
            have hw716 : EnvX wr _ [] := EX714.out
            have hone := @EnvC.one _ _ _ hw716
            iterate 3 (refine wpG_op rfl rfl rfl ?_; intro K hK; go_big_quiet_op; go_big_quiet_on)
            clear hone hw716
            refine wpG_nil ?_
            intro u718 E2'
            have EX717 := Lib.hid E2'
            clear E2'
            have HBE : Hid (Below w.heap.size w u718) := HBL.out _ EX717.out
            have HR0 := Lib.hid (HP0.out _ HBE.out)
            go_wp2
            go_returns
            exact ⟨⟨.slice A n c, by rw [HF.out]; first | done | rfl, by rw [HF.out]; exact HR0.out⟩, HBE.out⟩
          | false =>
            go_upto_region 23 with (fail)
            refine wp_region_Hx (w0 := wr) [0] [] rfl EX711.out ?_
            refine lexH_phase [0] [] ?_
            have hw713 : EnvX wr _ [] := EX711.out
            have hone := @EnvC.one _ _ _ hw713
            (refine wpG_op rfl rfl rfl ?_; intro K hK; go_big_quiet_op; go_big_quiet_on)
            clear hone hw713
            refine wpG_nil ?_
            intro u715 E2'
            have EX714 := Lib.hid E2'
            clear E2'
            have HAP3 : Hid (applyP p (rsT l) = if 50 + m < wx then (p, 8) else if 48 < (madeP q (newC id 0 r.outs)).length then (p, 11) else (madeP q (newC id 0 r.outs), 0)) := HAP2.out
            clear HAP2
            by_cases hw : 50 + m < wx
            · have C25 : Hid (decide (50 + m < wx) = true) := decide_eq_true hw
              have HF : Hid (applyP p (rsT l) = (p, 8)) := by show _ = _; rw [HAP3.out, if_pos hw]
              clear hw
              go_upto_region 25 with (fail)
              refine wp_region_Hx (w0 := wr) [0, 1, 2, 3, 4, 5, 6] [] rfl EX714.out ?_
              refine lexH_phase [0, 1, 2, 3, 4, 5, 6] [] ?_
              have hw716 : EnvX wr _ [] := EX714.out
              have hone := @EnvC.one _ _ _ hw716
              (refine wpG_op rfl rfl rfl ?_; intro K hK; go_big_quiet_op; go_big_quiet_on)
              (refine wpG_val (v := .pointer (some (ad0.add (0 * 2)))) rfl rfl (fun u hu => idxSl_op (i := 0) Tryd.underlying27 aggTx.size HI0.out u rfl rfl) ?_ hw716; intro K hK; go_big_quiet_op; go_big_quiet_on)
              (refine wpG_val (v := txV ⟨r, a0, 0, d0, A2, n2, c2⟩) rfl rfl (fun u hu => load_any_op u (HLD0.out u (EnvX.sub hu (fun _ h => by cases h))) rfl) ?_ hw716; intro K hK; go_big_quiet_op; go_big_quiet_on)
              (refine wpG_call (f := 28) (args := #[txV ⟨r, a0, 0, d0, A2, n2, c2⟩]) (v := .int .i64 wx) rfl rfl rfl Tryd.func28 rfl rfl (fun u hu => HWO.out u hu) ?_ hw716; intro K hK; go_big_quiet_op; go_big_quiet_on)
              (refine wpG_op rfl rfl rfl ?_; intro K hK; go_big_quiet_op; go_big_quiet_on)
              (refine wpG_val (v := .int .i64 (50 + m)) rfl rfl (fun u hu => addZ_op u HAD.out rfl rfl) ?_ hw716; intro K hK; go_big_quiet_op; go_big_quiet_on)
              (refine wpG_val (v := .bool true) rfl rfl (fun u hu => gtZ_op u C25.out rfl rfl) ?_ hw716; intro K hK; go_big_quiet_op; go_big_quiet_on)
              clear hone hw716
              refine wpG_nil ?_
              intro u718 E2'
              have EX717 := Lib.hid E2'
              clear E2'
              go_upto_region 26 with (fail)
              refine wp_region_Hx (w0 := wr) [0, 1, 2] [] rfl EX717.out ?_
              refine lexH_phase [0, 1, 2] [] ?_
              have hw719 : EnvX wr _ [] := EX717.out
              have hone := @EnvC.one _ _ _ hw719
              iterate 3 (refine wpG_op rfl rfl rfl ?_; intro K hK; go_big_quiet_op; go_big_quiet_on)
              clear hone hw719
              refine wpG_nil ?_
              intro u721 E2'
              have EX720 := Lib.hid E2'
              clear E2'
              have HBE : Hid (Below w.heap.size w u721) := HBL.out _ EX720.out
              have HR0 := Lib.hid (HP0.out _ HBE.out)
              go_wp2
              go_returns
              exact ⟨⟨.slice A n c, by rw [HF.out]; first | done | rfl, by rw [HF.out]; exact HR0.out⟩, HBE.out⟩
            have C25 : Hid (decide (50 + m < wx) = false) := decide_eq_false hw
            have HAP4 : Hid (applyP p (rsT l) = if 48 < (madeP q (newC id 0 r.outs)).length then (p, 11) else (madeP q (newC id 0 r.outs), 0)) := by show _ = _; rw [HAP3.out, if_neg hw]
            clear hw HAP3
            go_upto_region 25 with (fail)
            refine wp_region_Hx (w0 := wr) [0, 1, 2, 3, 4, 5, 6] [] rfl EX714.out ?_
            refine lexH_phase [0, 1, 2, 3, 4, 5, 6] [] ?_
            have hw716 : EnvX wr _ [] := EX714.out
            have hone := @EnvC.one _ _ _ hw716
            (refine wpG_op rfl rfl rfl ?_; intro K hK; go_big_quiet_op; go_big_quiet_on)
            (refine wpG_val (v := .pointer (some (ad0.add (0 * 2)))) rfl rfl (fun u hu => idxSl_op (i := 0) Tryd.underlying27 aggTx.size HI0.out u rfl rfl) ?_ hw716; intro K hK; go_big_quiet_op; go_big_quiet_on)
            (refine wpG_val (v := txV ⟨r, a0, 0, d0, A2, n2, c2⟩) rfl rfl (fun u hu => load_any_op u (HLD0.out u (EnvX.sub hu (fun _ h => by cases h))) rfl) ?_ hw716; intro K hK; go_big_quiet_op; go_big_quiet_on)
            (refine wpG_call (f := 28) (args := #[txV ⟨r, a0, 0, d0, A2, n2, c2⟩]) (v := .int .i64 wx) rfl rfl rfl Tryd.func28 rfl rfl (fun u hu => HWO.out u hu) ?_ hw716; intro K hK; go_big_quiet_op; go_big_quiet_on)
            (refine wpG_op rfl rfl rfl ?_; intro K hK; go_big_quiet_op; go_big_quiet_on)
            (refine wpG_val (v := .int .i64 (50 + m)) rfl rfl (fun u hu => addZ_op u HAD.out rfl rfl) ?_ hw716; intro K hK; go_big_quiet_op; go_big_quiet_on)
            (refine wpG_val (v := .bool false) rfl rfl (fun u hu => gtZ_op u C25.out rfl rfl) ?_ hw716; intro K hK; go_big_quiet_op; go_big_quiet_on)
            clear hone hw716
            refine wpG_nil ?_
            intro u718 E2'
            have EX717 := Lib.hid E2'
            clear E2'
            go_upto_region 27 with (fail)
            have HLDW : Hid ((loadVar 26 (ad0.add (0 * 2))).run Tryd.prog u718 = .ok (txV ⟨r, a0, 0, d0, A2, n2, c2⟩) u718) := HLD0.out _ EX717.out
            have hidx : ∀ (v : World), (Instr.indexAt 27 (.slice (some ad0) i c') (.int .i64 ((0 : Nat) : Int))).run Tryd.prog v = .ok (.pointer (some (ad0.add (0 * 2)))) v := fun v => run_idxTx HI0.out v
            go_wp2_with ((with_reducible refine wpList_load_run (o := ⟨some 97, _, _, _, _, _⟩) ?_ 26 (.tmp 96) ?_ (ad0.add (0 * 2)) ?_ HLDW.out ?_); (rfl); (rfl); (rfl))
            refine (HMD.out u718 EX717.out).mono ?_
            rintro e u9 ⟨⟨v9, rfl, A9, c9, rfl, k1, k2, k3⟩, hb⟩
            have HB9 : Hid (Below w.heap.size w u9) := (HBL.out _ EX717.out).trans (hb.mono (HBL.out _ EX717.out).size)
            have HR9 : Hid (CoinsIn u9 u9.heap.size A9 (madeP q (newC id 0 r.outs))) := k3
            have HC9 := Lib.hid (And.intro k1 k2)
            have E9 : Hid (EnvX u9 u9 []) := EnvX.start u9
            have HL9 : Hid ((madeP q (newC id 0 r.outs)).length < 9223372036854775808) := by have := HR48.out; show _ < _; omega
            clear EX717 HLDW hidx hb k1 k2 k3
            obtain ⟨q2, hq⟩ : ∃ q2, madeP q (newC id 0 r.outs) = q2 := ⟨_, rfl⟩
            rw [hq] at HAP4 HR9 HC9 HL9 ⊢
            clear hq
            by_cases hf : 48 < q2.length
            · have C28 : Hid (decide ((48 : Int) < (q2.length : Int)) = true) := decide_eq_true (by omega)
              have HF : Hid (applyP p (rsT l) = (p, 11)) := by show _ = _; rw [HAP4.out, if_pos hf]
              clear hf
              go_upto_region 28 with (fail)
              refine wp_region_Hx (w0 := u9) [0, 1, 2] [] rfl E9.out ?_
              refine lexH_phase [0, 1, 2] [] ?_
              have hw901 : EnvX u9 _ [] := E9.out
              have hone := @EnvC.one _ _ _ hw901
              (refine wpG_op rfl rfl rfl ?_; intro K hK; go_big_quiet_op; go_big_quiet_on)
              (refine wpG_val (v := .int .i64 (q2.length : Int)) rfl rfl (fun u hu => len_op Tryd.underlying22 HL9.out u rfl) ?_ hw901; intro K hK; go_big_quiet_op; go_big_quiet_on)
              (refine wpG_val (v := .bool true) rfl rfl (fun u hu => gtZ_op u C28.out rfl rfl) ?_ hw901; intro K hK; go_big_quiet_op; go_big_quiet_on)
              clear hone hw901
              refine wpG_nil ?_
              intro u903 E2'
              have EX902 := Lib.hid E2'
              clear E2'
              go_upto_region 29 with (fail)
              refine wp_region_Hx (w0 := u9) [0, 1, 2] [] rfl EX902.out ?_
              refine lexH_phase [0, 1, 2] [] ?_
              have hw904 : EnvX u9 _ [] := EX902.out
              have hone := @EnvC.one _ _ _ hw904
              iterate 3 (refine wpG_op rfl rfl rfl ?_; intro K hK; go_big_quiet_op; go_big_quiet_on)
              clear hone hw904
              refine wpG_nil ?_
              intro u906 E2'
              have EX905 := Lib.hid E2'
              clear E2'
              have HBE : Hid (Below w.heap.size w u906) := HB9.out.trans ((EnvX.bel EX905.out).mono HB9.out.size)
              have HR0 := Lib.hid (HP0.out _ HBE.out)
              go_wp2
              go_returns
              exact ⟨⟨.slice A n c, by rw [HF.out]; first | done | rfl, by rw [HF.out]; exact HR0.out⟩, HBE.out⟩
            · have C28 : Hid (decide ((48 : Int) < (q2.length : Int)) = false) := decide_eq_false (by omega)
              have HF : Hid (applyP p (rsT l) = (q2, 0)) := by show _ = _; rw [HAP4.out, if_neg hf]
              clear hf
              go_upto_region 28 with (fail)
              refine wp_region_Hx (w0 := u9) [0, 1, 2] [] rfl E9.out ?_
              refine lexH_phase [0, 1, 2] [] ?_
              have hw901 : EnvX u9 _ [] := E9.out
              have hone := @EnvC.one _ _ _ hw901
              (refine wpG_op rfl rfl rfl ?_; intro K hK; go_big_quiet_op; go_big_quiet_on)
              (refine wpG_val (v := .int .i64 (q2.length : Int)) rfl rfl (fun u hu => len_op Tryd.underlying22 HL9.out u rfl) ?_ hw901; intro K hK; go_big_quiet_op; go_big_quiet_on)
              (refine wpG_val (v := .bool false) rfl rfl (fun u hu => gtZ_op u C28.out rfl rfl) ?_ hw901; intro K hK; go_big_quiet_op; go_big_quiet_on)
              clear hone hw901
              refine wpG_nil ?_
              intro u903 E2'
              have EX902 := Lib.hid E2'
              clear E2'
              go_upto_region 30 with (fail)
              refine wp_region_Hx (w0 := u9) [0, 1, 2] [] rfl EX902.out ?_
              refine lexH_phase [0, 1, 2] [] ?_
              have hw904 : EnvX u9 _ [] := EX902.out
              have hone := @EnvC.one _ _ _ hw904
              iterate 3 (refine wpG_op rfl rfl rfl ?_; intro K hK; go_big_quiet_op; go_big_quiet_on)
              clear hone hw904
              refine wpG_nil ?_
              intro u906 E2'
              have EX905 := Lib.hid E2'
              clear E2'
              have HBE : Hid (Below w.heap.size w u906) := HB9.out.trans ((EnvX.bel EX905.out).mono HB9.out.size)
              have HRR : Hid (CoSl u906 (.slice A9 q2.length c9) q2) := ⟨A9, c9, rfl, HC9.out.1, HC9.out.2, CellsIn.up HR9.out (EnvX.bel EX905.out)⟩
              go_wp2
              go_returns
              exact ⟨⟨.slice A9 q2.length c9, by rw [HF.out]; rfl, by rw [HF.out]; exact HRR.out⟩, HBE.out⟩
theorem rapplyP (p : List CoinR) (A : Option Addr) (n c : Nat) (l : List TxM) (A' : Option Addr) (n' c' : Nat) (w : World) (hl : p.length = n) (hnc : n ≤ c) (hcm : c ≤ maxLen) (hI : okP p) (hA : CoinsIn w w.heap.size A p) (hl' : l.length = n') (hnc' : n' ≤ c') (hcm' : c' ≤ maxLen) (hA' : TxsIn w A' l) :
    Calls Tryd.prog 15 #[.slice A n c, .slice A' n' c'] w fun e w' => (∃ v, e = .returned (.tuple #[v, .int .i64 ((applyP p (rsT l)).2 : Int)]) ∧ CoSl w' v (applyP p (rsT l)).1) ∧ Below w.heap.size w w' := by
  by_cases k : mayP p = true
  · by_cases k2 : 4 < n'
    · exact rapplyP_size p A n c l A' n' c' w hl hnc hcm hI hA hl' hnc' hcm' hA' k k2
    · exact rapplyP_main p A n c l A' n' c' w hl hnc hcm hI hA hl' hnc' hcm' hA' k k2
  · exact rapplyP_arg p A n c l A' n' c' w hl hnc hcm hI hA hl' hnc' hcm' hA' (by simpa using k)
theorem eqlBp_op {a : Act} {dst : Option Tmp} {x y : Operand} {ty : TypeId} {pos : String} {after : Array Edge} {gd : Option (Nat × Bool)} {p q b : Bool} (u : World) (hb : (p == q) = b) (hx : a.eval x = .bool p) (hy : a.eval y = .bool q) :
    (execOp a.eval ⟨dst, .binOp .eql 4 x y 4, ty, pos, after, gd⟩).run Tryd.prog u = .ok (.value (.bool b)) u := by
  subst hb
  unfold execOp
  simp only [hx, hy]
  cases p <;> cases q <;> go_simp
theorem apply_len {p : List CoinR} (hp : okP p) (hn : p.length ≤ 60) (l : List TxR) {d : List CoinR} {e : Nat} (h : applyP p l = (d, e)) : okP d ∧ d.length ≤ 1000 := by
  cases hm : mayP p with
  | false =>
    unfold applyP at h
    rw [if_pos hm] at h
    cases h
    exact ⟨hp, by omega⟩
  | true =>
    have h1 := apply_all hp.id hm l
    rw [h] at h1
    simp only at h1
    have h2 := mayP_iff.1 h1.1
    exact ⟨okP_of h1.2.1 h2.2.1, by omega⟩
end Go.Proofs.YtabhhbdbkeeblaaDoor
