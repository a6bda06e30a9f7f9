/- Part of a proof. -/
import Derived.Test.YtabhhbdbkeeblaaDoorPurseTellsPb
namespace Go.Proofs.YtabhhbdbkeeblaaDoor
set_option maxRecDepth 8000
open Go.RowKit
set_option maxRecDepth 20000 in
set_option maxHeartbeats 8000000 in
theorem rbefore_any (a b : CoinR) (w : World) (ha : lenC a) (hb : lenC b) :
    Calls Tryd.prog 33 #[coV a, coV b] w fun e w' => e = .returned (.bool (beforeK (keyC a) (keyC b))) ∧ Below w.heap.size w w' := by
  have HA := Lib.hid ha
  have HB := Lib.hid hb
  obtain ⟨b1, h1⟩ : ∃ b1, lessL a.tx b.tx = b1 := ⟨_, rfl⟩
  obtain ⟨b2, h2⟩ : ∃ b2, eqL a.tx b.tx = b2 := ⟨_, rfl⟩
  obtain ⟨b3, h3⟩ : ∃ b3, decide (a.i < b.i) = b3 := ⟨_, rfl⟩
  have HE := Lib.hid h2
  have HI := Lib.hid h3
  have HLS : Hid (∀ u, Calls Tryd.prog 49 #[idv a.tx, idv b.tx] u fun e w' => e = .returned (.bool b1) ∧ Below u.heap.size u w') := fun u => by
    have h := rless_any a.tx b.tx u ha hb
    rwa [h1] at h
  have HF : Hid (beforeK (keyC a) (keyC b) = (b1 || (b2 && b3))) := by
    show _ = _
    unfold beforeK keyC
    simp only
    rw [h1, h3, ← h2]
    rfl
  have E1 : Hid (EnvX w ((w.alloc (.cells (coA a) 50)).alloc (.cells (coA b) 50)) [(w.heap.size + 1, Obj.cells (coA b) 50 (0, 0)), (w.heap.size, Obj.cells (coA a) 50 (0, 0))]) := (EnvX.start w).two _ _
  clear ha hb h1 h2 h3
  unfold coV
  cases b1 with
  | true =>
    go_enter Tryd.func33, Tryd.ntmps33
    go_upto_region 1 with (fail)
    generalize (w.alloc (.cells (coA a) 50)).alloc (.cells (coA b) 50) = W at *
    refine wp_region_Hx (w0 := w) [0, 1, 2, 3, 4, 5, 6, 7] [(w.heap.size + 1, Obj.cells (coA b) 50 (0, 0)), (w.heap.size, Obj.cells (coA a) 50 (0, 0))] rfl E1.out ?_
    refine lexH_phase [0, 1, 2, 3, 4, 5, 6, 7] [] ?_
    have hw1 : EnvX w _ [(w.heap.size + 1, Obj.cells (coA b) 50 (0, 0)), (w.heap.size, Obj.cells (coA a) 50 (0, 0))] := E1.out
    have hone := @EnvC.one _ _ _ hw1
    (refine wpG_val (v := .pointer (some ⟨w.heap.size, 0, none⟩)) rfl rfl (fun u hu => fieldCo_op (k := 0) (off := 0) (ad := ⟨w.heap.size, 0, none⟩) rfl u rfl) ?_ hw1; intro K hK; go_big_quiet_op; go_big_quiet_on)
    (refine wpG_val (v := .pointer (some ⟨w.heap.size, 0, none⟩)) rfl rfl (fun u hu => fieldIn_op (k := 0) (off := 0) (ad := ⟨w.heap.size, 0, none⟩) rfl u rfl) ?_ hw1; intro K hK; go_big_quiet_op; go_big_quiet_on)
    (refine wpG_val (v := idv a.tx) rfl rfl (fun u hu => load_any_op u (box_co_tx hu (List.Mem.tail _ (List.Mem.head _)) HA.out) rfl) ?_ hw1; intro K hK; go_big_quiet_op; go_big_quiet_on)
    (refine wpG_val (v := .pointer (some ⟨w.heap.size + 1, 0, none⟩)) rfl rfl (fun u hu => fieldCo_op (k := 0) (off := 0) (ad := ⟨w.heap.size + 1, 0, none⟩) rfl u rfl) ?_ hw1; intro K hK; go_big_quiet_op; go_big_quiet_on)
    (refine wpG_val (v := .pointer (some ⟨w.heap.size + 1, 0, none⟩)) rfl rfl (fun u hu => fieldIn_op (k := 0) (off := 0) (ad := ⟨w.heap.size + 1, 0, none⟩) rfl u rfl) ?_ hw1; intro K hK; go_big_quiet_op; go_big_quiet_on)
    (refine wpG_val (v := idv b.tx) rfl rfl (fun u hu => load_any_op u (box_co_tx hu (List.Mem.head _) HB.out) rfl) ?_ hw1; intro K hK; go_big_quiet_op; go_big_quiet_on)
    (refine wpG_call (f := 49) (args := #[idv a.tx, idv b.tx]) (v := .bool true) rfl rfl rfl Tryd.func49 rfl rfl (fun u hu => HLS.out u) ?_ hw1; intro K hK; go_big_quiet_op; go_big_quiet_on)
    (refine wpG_op rfl rfl rfl ?_; intro K hK; go_big_quiet_op; go_big_quiet_on)
    clear hone hw1
    refine wpG_nil ?_
    intro u3 E2'
    have EX2 := Lib.hid E2'
    clear E2'
    go_upto_region 2 with (fail)
    refine wp_region_Hx (w0 := w) [0, 1, 2, 3, 4, 5, 6, 7, 8, 9, 10, 11, 12, 13, 14, 15, 16, 17, 18, 19] [(w.heap.size + 1, Obj.cells (coA b) 50 (0, 0)), (w.heap.size, Obj.cells (coA a) 50 (0, 0))] rfl EX2.out ?_
    refine lexH_phase [0, 1, 2, 3, 4, 5, 6, 7, 8, 9, 10, 11, 12, 13, 14, 15, 16, 17, 18, 19] [] ?_
    have hw4 : EnvX w _ [(w.heap.size + 1, Obj.cells (coA b) 50 (0, 0)), (w.heap.size, Obj.cells (coA a) 50 (0, 0))] := EX2.out
    have hone := @EnvC.one _ _ _ hw4
    iterate 2 (refine wpG_op rfl rfl rfl ?_; intro K hK; go_big_quiet_op; go_big_quiet_on)
    iterate 16 (refine wpG_skip rfl rfl ?_ hw4; intro K hK; go_big_quiet_op; go_big_quiet_on)
    iterate 2 (refine wpG_op rfl rfl rfl ?_; intro K hK; go_big_quiet_op; go_big_quiet_on)
    clear hone hw4
    refine wpG_nil ?_
    intro u6 E2'
    have EX5 := Lib.hid E2'
    clear E2'
    have HBE := Lib.hid (EnvX.bel EX5.out)
    go_wp2
    go_ret
    exact ⟨by rw [HF.out]; first | done | rfl, HBE.out⟩
  | false =>
    cases b2 with
    | false =>
      go_enter Tryd.func33, Tryd.ntmps33
      go_upto_region 1 with (fail)
      generalize (w.alloc (.cells (coA a) 50)).alloc (.cells (coA b) 50) = W at *
      refine wp_region_Hx (w0 := w) [0, 1, 2, 3, 4, 5, 6, 7] [(w.heap.size + 1, Obj.cells (coA b) 50 (0, 0)), (w.heap.size, Obj.cells (coA a) 50 (0, 0))] rfl E1.out ?_
      refine lexH_phase [0, 1, 2, 3, 4, 5, 6, 7] [] ?_
      have hw1 : EnvX w _ [(w.heap.size + 1, Obj.cells (coA b) 50 (0, 0)), (w.heap.size, Obj.cells (coA a) 50 (0, 0))] := E1.out
      have hone := @EnvC.one _ _ _ hw1
      (refine wpG_val (v := .pointer (some ⟨w.heap.size, 0, none⟩)) rfl rfl (fun u hu => fieldCo_op (k := 0) (off := 0) (ad := ⟨w.heap.size, 0, none⟩) rfl u rfl) ?_ hw1; intro K hK; go_big_quiet_op; go_big_quiet_on)
      (refine wpG_val (v := .pointer (some ⟨w.heap.size, 0, none⟩)) rfl rfl (fun u hu => fieldIn_op (k := 0) (off := 0) (ad := ⟨w.heap.size, 0, none⟩) rfl u rfl) ?_ hw1; intro K hK; go_big_quiet_op; go_big_quiet_on)
      (refine wpG_val (v := idv a.tx) rfl rfl (fun u hu => load_any_op u (box_co_tx hu (List.Mem.tail _ (List.Mem.head _)) HA.out) rfl) ?_ hw1; intro K hK; go_big_quiet_op; go_big_quiet_on)
      (refine wpG_val (v := .pointer (some ⟨w.heap.size + 1, 0, none⟩)) rfl rfl (fun u hu => fieldCo_op (k := 0) (off := 0) (ad := ⟨w.heap.size + 1, 0, none⟩) rfl u rfl) ?_ hw1; intro K hK; go_big_quiet_op; go_big_quiet_on)
      (refine wpG_val (v := .pointer (some ⟨w.heap.size + 1, 0, none⟩)) rfl rfl (fun u hu => fieldIn_op (k := 0) (off := 0) (ad := ⟨w.heap.size + 1, 0, none⟩) rfl u rfl) ?_ hw1; intro K hK; go_big_quiet_op; go_big_quiet_on)
      (refine wpG_val (v := idv b.tx) rfl rfl (fun u hu => load_any_op u (box_co_tx hu (List.Mem.head _) HB.out) rfl) ?_ hw1; intro K hK; go_big_quiet_op; go_big_quiet_on)
      (refine wpG_call (f := 49) (args := #[idv a.tx, idv b.tx]) (v := .bool false) rfl rfl rfl Tryd.func49 rfl rfl (fun u hu => HLS.out u) ?_ hw1; intro K hK; go_big_quiet_op; go_big_quiet_on)
      (refine wpG_op rfl rfl rfl ?_; intro K hK; go_big_quiet_op; go_big_quiet_on)
      clear hone hw1
      refine wpG_nil ?_
      intro u3 E2'
      have EX2 := Lib.hid E2'
      clear E2'
      go_upto_region 2 with (fail)
      refine wp_region_Hx (w0 := w) [0, 1, 2, 3, 4, 5, 6, 7, 8, 9, 10, 11, 12, 13, 14, 15, 16, 17, 18, 19] [(w.heap.size + 1, Obj.cells (coA b) 50 (0, 0)), (w.heap.size, Obj.cells (coA a) 50 (0, 0))] rfl EX2.out ?_
      refine lexH_phase [0, 1, 2, 3, 4, 5, 6, 7, 8, 9, 10, 11, 12, 13, 14, 15, 16, 17, 18, 19] [] ?_
      have hw4 : EnvX w _ [(w.heap.size + 1, Obj.cells (coA b) 50 (0, 0)), (w.heap.size, Obj.cells (coA a) 50 (0, 0))] := EX2.out
      have hone := @EnvC.one _ _ _ hw4
      iterate 2 (refine wpG_op rfl rfl rfl ?_; intro K hK; go_big_quiet_op; go_big_quiet_on)
      (refine wpG_val (v := .pointer (some ⟨w.heap.size, 0, none⟩)) rfl rfl (fun u hu => fieldCo_op (k := 0) (off := 0) (ad := ⟨w.heap.size, 0, none⟩) rfl u rfl) ?_ hw4; intro K hK; go_big_quiet_op; go_big_quiet_on)
      (refine wpG_val (v := .pointer (some ⟨w.heap.size, 0, none⟩)) rfl rfl (fun u hu => fieldIn_op (k := 0) (off := 0) (ad := ⟨w.heap.size, 0, none⟩) rfl u rfl) ?_ hw4; intro K hK; go_big_quiet_op; go_big_quiet_on)
      (refine wpG_val (v := idv a.tx) rfl rfl (fun u hu => load_any_op u (box_co_tx hu (List.Mem.tail _ (List.Mem.head _)) HA.out) rfl) ?_ hw4; intro K hK; go_big_quiet_op; go_big_quiet_on)
      (refine wpG_val (v := .pointer (some ⟨w.heap.size + 1, 0, none⟩)) rfl rfl (fun u hu => fieldCo_op (k := 0) (off := 0) (ad := ⟨w.heap.size + 1, 0, none⟩) rfl u rfl) ?_ hw4; intro K hK; go_big_quiet_op; go_big_quiet_on)
      (refine wpG_val (v := .pointer (some ⟨w.heap.size + 1, 0, none⟩)) rfl rfl (fun u hu => fieldIn_op (k := 0) (off := 0) (ad := ⟨w.heap.size + 1, 0, none⟩) rfl u rfl) ?_ hw4; intro K hK; go_big_quiet_op; go_big_quiet_on)
      (refine wpG_val (v := idv b.tx) rfl rfl (fun u hu => load_any_op u (box_co_tx hu (List.Mem.head _) HB.out) rfl) ?_ hw4; intro K hK; go_big_quiet_op; go_big_quiet_on)
      (refine wpG_val (v := .bool false) rfl rfl (fun u hu => eqlb_op HA.out HB.out HE.out u rfl rfl) ?_ hw4; intro K hK; go_big_quiet_op; go_big_quiet_on)
      (refine wpG_op rfl rfl rfl ?_; intro K hK; go_big_quiet_op; go_big_quiet_on)
      iterate 7 (refine wpG_skip rfl rfl ?_ hw4; intro K hK; go_big_quiet_op; go_big_quiet_on)
      iterate 3 (refine wpG_op rfl rfl rfl ?_; intro K hK; go_big_quiet_op; go_big_quiet_on)
      clear hone hw4
      refine wpG_nil ?_
      intro u6 E2'
      have EX5 := Lib.hid E2'
      clear E2'
      have HBE := Lib.hid (EnvX.bel EX5.out)
      go_wp2
      go_ret
      exact ⟨by rw [HF.out]; first | done | rfl, HBE.out⟩
    | true =>
      cases b3 with
      | false =>
        go_enter Tryd.func33, Tryd.ntmps33
        go_upto_region 1 with (fail)
        generalize (w.alloc (.cells (coA a) 50)).alloc (.cells (coA b) 50) = W at *
        refine wp_region_Hx (w0 := w) [0, 1, 2, 3, 4, 5, 6, 7] [(w.heap.size + 1, Obj.cells (coA b) 50 (0, 0)), (w.heap.size, Obj.cells (coA a) 50 (0, 0))] rfl E1.out ?_
        refine lexH_phase [0, 1, 2, 3, 4, 5, 6, 7] [] ?_
        have hw1 : EnvX w _ [(w.heap.size + 1, Obj.cells (coA b) 50 (0, 0)), (w.heap.size, Obj.cells (coA a) 50 (0, 0))] := E1.out
        have hone := @EnvC.one _ _ _ hw1
        (refine wpG_val (v := .pointer (some ⟨w.heap.size, 0, none⟩)) rfl rfl (fun u hu => fieldCo_op (k := 0) (off := 0) (ad := ⟨w.heap.size, 0, none⟩) rfl u rfl) ?_ hw1; intro K hK; go_big_quiet_op; go_big_quiet_on)
        (refine wpG_val (v := .pointer (some ⟨w.heap.size, 0, none⟩)) rfl rfl (fun u hu => fieldIn_op (k := 0) (off := 0) (ad := ⟨w.heap.size, 0, none⟩) rfl u rfl) ?_ hw1; intro K hK; go_big_quiet_op; go_big_quiet_on)
        (refine wpG_val (v := idv a.tx) rfl rfl (fun u hu => load_any_op u (box_co_tx hu (List.Mem.tail _ (List.Mem.head _)) HA.out) rfl) ?_ hw1; intro K hK; go_big_quiet_op; go_big_quiet_on)
        (refine wpG_val (v := .pointer (some ⟨w.heap.size + 1, 0, none⟩)) rfl rfl (fun u hu => fieldCo_op (k := 0) (off := 0) (ad := ⟨w.heap.size + 1, 0, none⟩) rfl u rfl) ?_ hw1; intro K hK; go_big_quiet_op; go_big_quiet_on)
        (refine wpG_val (v := .pointer (some ⟨w.heap.size + 1, 0, none⟩)) rfl rfl (fun u hu => fieldIn_op (k := 0) (off := 0) (ad := ⟨w.heap.size + 1, 0, none⟩) rfl u rfl) ?_ hw1; intro K hK; go_big_quiet_op; go_big_quiet_on)
        (refine wpG_val (v := idv b.tx) rfl rfl (fun u hu => load_any_op u (box_co_tx hu (List.Mem.head _) HB.out) rfl) ?_ hw1; intro K hK; go_big_quiet_op; go_big_quiet_on)
        (refine wpG_call (f := 49) (args := #[idv a.tx, idv b.tx]) (v := .bool false) rfl rfl rfl Tryd.func49 rfl rfl (fun u hu => HLS.out u) ?_ hw1; intro K hK; go_big_quiet_op; go_big_quiet_on)
        (refine wpG_op rfl rfl rfl ?_; intro K hK; go_big_quiet_op; go_big_quiet_on)
        clear hone hw1
        refine wpG_nil ?_
        intro u3 E2'
        have EX2 := Lib.hid E2'
        clear E2'
        go_upto_region 2 with (fail)
        refine wp_region_Hx (w0 := w) [0, 1, 2, 3, 4, 5, 6, 7, 8, 9, 10, 11, 12, 13, 14, 15, 16, 17, 18, 19] [(w.heap.size + 1, Obj.cells (coA b) 50 (0, 0)), (w.heap.size, Obj.cells (coA a) 50 (0, 0))] rfl EX2.out ?_
        refine lexH_phase [0, 1, 2, 3, 4, 5, 6, 7, 8, 9, 10, 11, 12, 13, 14, 15, 16, 17, 18, 19] [] ?_
        have hw4 : EnvX w _ [(w.heap.size + 1, Obj.cells (coA b) 50 (0, 0)), (w.heap.size, Obj.cells (coA a) 50 (0, 0))] := EX2.out
        have hone := @EnvC.one _ _ _ hw4
        iterate 2 (refine wpG_op rfl rfl rfl ?_; intro K hK; go_big_quiet_op; go_big_quiet_on)
        (refine wpG_val (v := .pointer (some ⟨w.heap.size, 0, none⟩)) rfl rfl (fun u hu => fieldCo_op (k := 0) (off := 0) (ad := ⟨w.heap.size, 0, none⟩) rfl u rfl) ?_ hw4; intro K hK; go_big_quiet_op; go_big_quiet_on)
        (refine wpG_val (v := .pointer (some ⟨w.heap.size, 0, none⟩)) rfl rfl (fun u hu => fieldIn_op (k := 0) (off := 0) (ad := ⟨w.heap.size, 0, none⟩) rfl u rfl) ?_ hw4; intro K hK; go_big_quiet_op; go_big_quiet_on)
        (refine wpG_val (v := idv a.tx) rfl rfl (fun u hu => load_any_op u (box_co_tx hu (List.Mem.tail _ (List.Mem.head _)) HA.out) rfl) ?_ hw4; intro K hK; go_big_quiet_op; go_big_quiet_on)
        (refine wpG_val (v := .pointer (some ⟨w.heap.size + 1, 0, none⟩)) rfl rfl (fun u hu => fieldCo_op (k := 0) (off := 0) (ad := ⟨w.heap.size + 1, 0, none⟩) rfl u rfl) ?_ hw4; intro K hK; go_big_quiet_op; go_big_quiet_on)
        (refine wpG_val (v := .pointer (some ⟨w.heap.size + 1, 0, none⟩)) rfl rfl (fun u hu => fieldIn_op (k := 0) (off := 0) (ad := ⟨w.heap.size + 1, 0, none⟩) rfl u rfl) ?_ hw4; intro K hK; go_big_quiet_op; go_big_quiet_on)
        (refine wpG_val (v := idv b.tx) rfl rfl (fun u hu => load_any_op u (box_co_tx hu (List.Mem.head _) HB.out) rfl) ?_ hw4; intro K hK; go_big_quiet_op; go_big_quiet_on)
        (refine wpG_val (v := .bool true) rfl rfl (fun u hu => eqlb_op HA.out HB.out HE.out u rfl rfl) ?_ hw4; intro K hK; go_big_quiet_op; go_big_quiet_on)
        (refine wpG_op rfl rfl rfl ?_; intro K hK; go_big_quiet_op; go_big_quiet_on)
        (refine wpG_val (v := .pointer (some ⟨w.heap.size, 0, none⟩)) rfl rfl (fun u hu => fieldCo_op (k := 0) (off := 0) (ad := ⟨w.heap.size, 0, none⟩) rfl u rfl) ?_ hw4; intro K hK; go_big_quiet_op; go_big_quiet_on)
        (refine wpG_val (v := .pointer (some ⟨w.heap.size, 32, none⟩)) rfl rfl (fun u hu => fieldIn_op (k := 1) (off := 32) (ad := ⟨w.heap.size, 0, none⟩) rfl u rfl) ?_ hw4; intro K hK; go_big_quiet_op; go_big_quiet_on)
        (refine wpG_val (v := .int .i64 a.i) rfl rfl (fun u hu => load_any_op u (box_co_i hu (List.Mem.tail _ (List.Mem.head _)) HA.out) rfl) ?_ hw4; intro K hK; go_big_quiet_op; go_big_quiet_on)
        (refine wpG_val (v := .pointer (some ⟨w.heap.size + 1, 0, none⟩)) rfl rfl (fun u hu => fieldCo_op (k := 0) (off := 0) (ad := ⟨w.heap.size + 1, 0, none⟩) rfl u rfl) ?_ hw4; intro K hK; go_big_quiet_op; go_big_quiet_on)
        (refine wpG_val (v := .pointer (some ⟨w.heap.size + 1, 32, none⟩)) rfl rfl (fun u hu => fieldIn_op (k := 1) (off := 32) (ad := ⟨w.heap.size + 1, 0, none⟩) rfl u rfl) ?_ hw4; intro K hK; go_big_quiet_op; go_big_quiet_on)
        (refine wpG_val (v := .int .i64 b.i) rfl rfl (fun u hu => load_any_op u (box_co_i hu (List.Mem.head _) HB.out) rfl) ?_ hw4; intro K hK; go_big_quiet_op; go_big_quiet_on)
        (refine wpG_val (v := .bool false) rfl rfl (fun u hu => ltZ_op u HI.out rfl rfl) ?_ hw4; intro K hK; go_big_quiet_op; go_big_quiet_on)
        iterate 3 (refine wpG_op rfl rfl rfl ?_; intro K hK; go_big_quiet_op; go_big_quiet_on)
        clear hone hw4
        refine wpG_nil ?_
        intro u6 E2'
        have EX5 := Lib.hid E2'
        clear E2'
        have HBE := Lib.hid (EnvX.bel EX5.out)
        go_wp2
        go_ret
        exact ⟨by rw [HF.out]; first | done | rfl, HBE.out⟩
      | true =>
        go_enter Tryd.func33, Tryd.ntmps33
        go_upto_region 1 with (fail)
        generalize (w.alloc (.cells (coA a) 50)).alloc (.cells (coA b) 50) = W at *
        refine wp_region_Hx (w0 := w) [0, 1, 2, 3, 4, 5, 6, 7] [(w.heap.size + 1, Obj.cells (coA b) 50 (0, 0)), (w.heap.size, Obj.cells (coA a) 50 (0, 0))] rfl E1.out ?_
        refine lexH_phase [0, 1, 2, 3, 4, 5, 6, 7] [] ?_
        have hw1 : EnvX w _ [(w.heap.size + 1, Obj.cells (coA b) 50 (0, 0)), (w.heap.size, Obj.cells (coA a) 50 (0, 0))] := E1.out
        have hone := @EnvC.one _ _ _ hw1
        (refine wpG_val (v := .pointer (some ⟨w.heap.size, 0, none⟩)) rfl rfl (fun u hu => fieldCo_op (k := 0) (off := 0) (ad := ⟨w.heap.size, 0, none⟩) rfl u rfl) ?_ hw1; intro K hK; go_big_quiet_op; go_big_quiet_on)
        (refine wpG_val (v := .pointer (some ⟨w.heap.size, 0, none⟩)) rfl rfl (fun u hu => fieldIn_op (k := 0) (off := 0) (ad := ⟨w.heap.size, 0, none⟩) rfl u rfl) ?_ hw1; intro K hK; go_big_quiet_op; go_big_quiet_on)
        (refine wpG_val (v := idv a.tx) rfl rfl (fun u hu => load_any_op u (box_co_tx hu (List.Mem.tail _ (List.Mem.head _)) HA.out) rfl) ?_ hw1; intro K hK; go_big_quiet_op; go_big_quiet_on)
        (refine wpG_val (v := .pointer (some ⟨w.heap.size + 1, 0, none⟩)) rfl rfl (fun u hu => fieldCo_op (k := 0) (off := 0) (ad := ⟨w.heap.size + 1, 0, none⟩) rfl u rfl) ?_ hw1; intro K hK; go_big_quiet_op; go_big_quiet_on)
        (refine wpG_val (v := .pointer (some ⟨w.heap.size + 1, 0, none⟩)) rfl rfl (fun u hu => fieldIn_op (k := 0) (off := 0) (ad := ⟨w.heap.size + 1, 0, none⟩) rfl u rfl) ?_ hw1; intro K hK; go_big_quiet_op; go_big_quiet_on)
        (refine wpG_val (v := idv b.tx) rfl rfl (fun u hu => load_any_op u (box_co_tx hu (List.Mem.head _) HB.out) rfl) ?_ hw1; intro K hK; go_big_quiet_op; go_big_quiet_on)
        (refine wpG_call (f := 49) (args := #[idv a.tx, idv b.tx]) (v := .bool false) rfl rfl rfl Tryd.func49 rfl rfl (fun u hu => HLS.out u) ?_ hw1; intro K hK; go_big_quiet_op; go_big_quiet_on)
        (refine wpG_op rfl rfl rfl ?_; intro K hK; go_big_quiet_op; go_big_quiet_on)
        clear hone hw1
        refine wpG_nil ?_
        intro u3 E2'
        have EX2 := Lib.hid E2'
        clear E2'
        go_upto_region 2 with (fail)
        refine wp_region_Hx (w0 := w) [0, 1, 2, 3, 4, 5, 6, 7, 8, 9, 10, 11, 12, 13, 14, 15, 16, 17, 18, 19] [(w.heap.size + 1, Obj.cells (coA b) 50 (0, 0)), (w.heap.size, Obj.cells (coA a) 50 (0, 0))] rfl EX2.out ?_
        refine lexH_phase [0, 1, 2, 3, 4, 5, 6, 7, 8, 9, 10, 11, 12, 13, 14, 15, 16, 17, 18, 19] [] ?_
        have hw4 : EnvX w _ [(w.heap.size + 1, Obj.cells (coA b) 50 (0, 0)), (w.heap.size, Obj.cells (coA a) 50 (0, 0))] := EX2.out
        have hone := @EnvC.one _ _ _ hw4
        iterate 2 (refine wpG_op rfl rfl rfl ?_; intro K hK; go_big_quiet_op; go_big_quiet_on)
        (refine wpG_val (v := .pointer (some ⟨w.heap.size, 0, none⟩)) rfl rfl (fun u hu => fieldCo_op (k := 0) (off := 0) (ad := ⟨w.heap.size, 0, none⟩) rfl u rfl) ?_ hw4; intro K hK; go_big_quiet_op; go_big_quiet_on)
        (refine wpG_val (v := .pointer (some ⟨w.heap.size, 0, none⟩)) rfl rfl (fun u hu => fieldIn_op (k := 0) (off := 0) (ad := ⟨w.heap.size, 0, none⟩) rfl u rfl) ?_ hw4; intro K hK; go_big_quiet_op; go_big_quiet_on)
        (refine wpG_val (v := idv a.tx) rfl rfl (fun u hu => load_any_op u (box_co_tx hu (List.Mem.tail _ (List.Mem.head _)) HA.out) rfl) ?_ hw4; intro K hK; go_big_quiet_op; go_big_quiet_on)
        (refine wpG_val (v := .pointer (some ⟨w.heap.size + 1, 0, none⟩)) rfl rfl (fun u hu => fieldCo_op (k := 0) (off := 0) (ad := ⟨w.heap.size + 1, 0, none⟩) rfl u rfl) ?_ hw4; intro K hK; go_big_quiet_op; go_big_quiet_on)
        (refine wpG_val (v := .pointer (some ⟨w.heap.size + 1, 0, none⟩)) rfl rfl (fun u hu => fieldIn_op (k := 0) (off := 0) (ad := ⟨w.heap.size + 1, 0, none⟩) rfl u rfl) ?_ hw4; intro K hK; go_big_quiet_op; go_big_quiet_on)
        (refine wpG_val (v := idv b.tx) rfl rfl (fun u hu => load_any_op u (box_co_tx hu (List.Mem.head _) HB.out) rfl) ?_ hw4; intro K hK; go_big_quiet_op; go_big_quiet_on)
        (refine wpG_val (v := .bool true) rfl rfl (fun u hu => eqlb_op HA.out HB.out HE.out u rfl rfl) ?_ hw4; intro K hK; go_big_quiet_op; go_big_quiet_on)
        (refine wpG_op rfl rfl rfl ?_; intro K hK; go_big_quiet_op; go_big_quiet_on)
        (refine wpG_val (v := .pointer (some ⟨w.heap.size, 0, none⟩)) rfl rfl (fun u hu => fieldCo_op (k := 0) (off := 0) (ad := ⟨w.heap.size, 0, none⟩) rfl u rfl) ?_ hw4; intro K hK; go_big_quiet_op; go_big_quiet_on)
        (refine wpG_val (v := .pointer (some ⟨w.heap.size, 32, none⟩)) rfl rfl (fun u hu => fieldIn_op (k := 1) (off := 32) (ad := ⟨w.heap.size, 0, none⟩) rfl u rfl) ?_ hw4; intro K hK; go_big_quiet_op; go_big_quiet_on)
        (refine wpG_val (v := .int .i64 a.i) rfl rfl (fun u hu => load_any_op u (box_co_i hu (List.Mem.tail _ (List.Mem.head _)) HA.out) rfl) ?_ hw4; intro K hK; go_big_quiet_op; go_big_quiet_on)
        (refine wpG_val (v := .pointer (some ⟨w.heap.size + 1, 0, none⟩)) rfl rfl (fun u hu => fieldCo_op (k := 0) (off := 0) (ad := ⟨w.heap.size + 1, 0, none⟩) rfl u rfl) ?_ hw4; intro K hK; go_big_quiet_op; go_big_quiet_on)
        (refine wpG_val (v := .pointer (some ⟨w.heap.size + 1, 32, none⟩)) rfl rfl (fun u hu => fieldIn_op (k := 1) (off := 32) (ad := ⟨w.heap.size + 1, 0, none⟩) rfl u rfl) ?_ hw4; intro K hK; go_big_quiet_op; go_big_quiet_on)
        (refine wpG_val (v := .int .i64 b.i) rfl rfl (fun u hu => load_any_op u (box_co_i hu (List.Mem.head _) HB.out) rfl) ?_ hw4; intro K hK; go_big_quiet_op; go_big_quiet_on)
        (refine wpG_val (v := .bool true) rfl rfl (fun u hu => ltZ_op u HI.out rfl rfl) ?_ hw4; intro K hK; go_big_quiet_op; go_big_quiet_on)
        iterate 3 (refine wpG_op rfl rfl rfl ?_; intro K hK; go_big_quiet_op; go_big_quiet_on)
        clear hone hw4
        refine wpG_nil ?_
        intro u6 E2'
        have EX5 := Lib.hid E2'
        clear E2'
        have HBE := Lib.hid (EnvX.bel EX5.out)
        go_wp2
        go_ret
        exact ⟨by rw [HF.out]; first | done | rfl, HBE.out⟩
theorem may_badC {p : List CoinR} {i : Nat} (hi : i < p.length) (h : boundC (p.getD i noC0) = false) : mayP p = false := by
  unfold mayP
  rw [decide_eq_false_iff_not]
  intro hh
  have hm : p.getD i noC0 ∈ p := by rw [List.getD_eq_getElem?_getD, List.getElem?_eq_getElem hi]; exact List.getElem_mem hi
  have := hh.2.1 _ hm
  rw [h] at this
  cases this
theorem may_down {p : List CoinR} {i : Nat} (hi : i + 1 < p.length) (h : beforeK (keyC (p.getD i noC0)) (keyC (p.getD (i + 1) noC0)) = false) : mayP p = false := by
  unfold mayP
  rw [decide_eq_false_iff_not]
  intro hh
  have hn := (List.pairwise_iff_getElem.1 hh.2.2) i (i + 1) (by omega) hi (by omega)
  rw [List.getD_eq_getElem?_getD, List.getElem?_eq_getElem (show i < p.length by omega), List.getD_eq_getElem?_getD, List.getElem?_eq_getElem hi] at h
  simp only [Option.getD_some] at h
  rw [h] at hn
  cases hn
theorem may_restP {p : List CoinR} (hp : idP p) (h1 : ∀ j, j < p.length → boundC (p.getD j noC0) = true) (h2 : ∀ i, i + 1 < p.length → beforeK (keyC (p.getD i noC0)) (keyC (p.getD (i + 1) noC0)) = true) : mayP p = decide (p.length ≤ 48) := by
  unfold mayP
  refine decide_eq_decide.2 ⟨fun h => h.1, fun h => ⟨h, fun c hc => ?_, up_steps hp h2⟩⟩
  obtain ⟨j, hj, rfl⟩ := List.getElem_of_mem hc
  have := h1 j hj
  rwa [List.getD_eq_getElem?_getD, List.getElem?_eq_getElem hj] at this
section
variable {dst : Option Tmp} {ty : TypeId} {pos : String} {after : Array Edge} {gd : Option (Nat × Bool)}
end
set_option maxRecDepth 20000 in
set_option maxHeartbeats 8000000 in
theorem rmayP_any (p : List CoinR) (A : Option Addr) (n c : Nat) (w : World) (hl : p.length = n) (hnc : n ≤ c) (hcm : c ≤ maxLen) (hI : okP p) (hA : CoinsIn w w.heap.size A p) :
    Calls Tryd.prog 17 #[.slice A n c] w fun e w' => e = .returned (.bool (mayP p)) ∧ Below w.heap.size w w' := by
  have HL := Lib.hid hl
  have HPP := Lib.hid hI
  have HAA := Lib.hid hA
  have HN63 : Hid (n < 9223372036854775808) := by show _ < _; unfold maxLen at hcm; omega
  clear hl hnc hcm hI hA
  go_enter Tryd.func17, Tryd.ntmps17
  go_upto_region 2 with (fail)
  go_loopw [3] (fun iv u => ∃ i : Nat, i ≤ n ∧ iv = .int .i64 (i : Int) ∧ Hid ((∀ j, j < i → boundC (p.getD j noC0) = true) ∧ (∀ j, j + 1 < i → beforeK (keyC (p.getD j noC0)) (keyC (p.getD (j + 1) noC0)) = true) ∧ EnvX w u [])) (fun iv _ => n - (intOf iv).toNat)
  case atStart => exact ⟨0, by omega, rfl, (fun j hj => by omega), (fun j hj => by omega), EnvX.start w⟩
  case round =>
    obtain ⟨i, hi, rfl, hinv⟩ := hrel
    have H1 := Lib.hid hinv.out.1
    have H2 := Lib.hid hinv.out.2.1
    have EK := Lib.hid hinv.out.2.2
    clear hinv
    by_cases hlt : i < n
    · have C2 : Hid (decide ((i : Int) < (n : Int)) = true) := decide_eq_true (by omega)
      have HI := Lib.hid hlt
      have hil : i < p.length := by rw [HL.out]; exact hlt
      have HIL := Lib.hid hil
      obtain ⟨ad, rfl, -, hld⟩ := HAA.out.loads HPP.out hil
      have HLD := Lib.hid hld
      have HX : Hid (lenC (p.getD i noC0)) := (getP HPP.out hil).len
      obtain ⟨x, hx⟩ : ∃ x, p.getD i noC0 = x := ⟨_, rfl⟩
      have HXE := Lib.hid hx
      rw [hx] at HLD HX
      clear hld hil hlt hx
      go_upto_region 2 with (fail)
      refine wp_region_Hx (w0 := w) [0, 1, 2, 3] [] rfl EK.out ?_
      refine lexH_phase [0, 1, 2, 3] [] ?_
      have hw11 : EnvX w _ [] := EK.out
      have hone := @EnvC.one _ _ _ hw11
      iterate 2 (refine wpG_op rfl rfl rfl ?_; intro K hK; go_big_quiet_op; go_big_quiet_on)
      (refine wpG_val (v := .int .i64 (n : Int)) rfl rfl (fun u hu => len_op Tryd.underlying22 HN63.out u rfl) ?_ hw11; intro K hK; go_big_quiet_op; go_big_quiet_on)
      (refine wpG_val (v := .bool true) rfl rfl (fun u hu => ltZ_op u C2.out rfl rfl) ?_ hw11; intro K hK; go_big_quiet_op; go_big_quiet_on)
      clear hone hw11
      refine wpG_nil ?_
      intro u13 E2'
      have EX12 := Lib.hid E2'
      clear E2'
      go_upto_region 4 with (fail)
      refine wp_region_Hx (w0 := w) [0, 1, 2, 3, 4, 5] [] rfl EX12.out ?_
      refine lexH_phase [0, 1, 2, 3] [4, 5] ?_
      have hw14 : EnvX w _ [] := EX12.out
      have hone := @EnvC.one _ _ _ hw14
      iterate 2 (refine wpG_op rfl rfl rfl ?_; intro K hK; go_big_quiet_op; go_big_quiet_on)
      (refine wpG_val (v := .pointer (some (ad.add (i * 35)))) rfl rfl (fun u hu => idxSl_op (i := i) Tryd.underlying22 aggCo.size HI.out u rfl rfl) ?_ hw14; intro K hK; go_big_quiet_op; go_big_quiet_on)
      (refine wpG_val (v := coV x) rfl rfl (fun u hu => load_any_op u (HLD.out u (EnvX.sub hu (fun _ h => by cases h))).1 rfl) ?_ hw14; intro K hK; go_big_quiet_op; go_big_quiet_on)
      clear hone hw14
      refine wpG_nil ?_
      refine (hOp_fresh (R := fun x N => ∃ g, x = .pointer (some ⟨g, 0, none⟩) ∧ N = [(g, Obj.cells (coA noC0) 50 (0, 0))]) (M0 := []) rfl rfl (fun _ h => h) (fun u hu => FAt_new (new_co _) u) ?_)
      rintro _ _ ⟨gc, rfl, rfl⟩ hf he15; intro K' hK'; go_big_quiet_op; go_big_quiet_on
      have HG6 := Lib.hid (hf _ (List.mem_singleton.2 rfl))
      clear hf
      change lexH _ _ _ _ _ _ [(gc, Obj.cells (coA noC0) 50 (0, 0))]
      refine (hOp_store rfl (gc) (coA x) rfl rfl HG6.out.1 50 ((coA noC0)) (List.Mem.head _) (infoCo _ (coA_size HX.out)) ((coA_size' (Nat.zero_le _)).trans (coA_size HX.out).symm) (coA_one _) [(gc, Obj.cells (coA x) 50 (0, 0))] (List.forall_mem_cons.2 ⟨.inl rfl, fun _ h => by cases h⟩) ?_)
      intro he16
      intro u18 E2'
      have EX17 := Lib.hid E2'
      clear E2'
      by_cases c0 : x.i < 0
      · have B0 : Hid (decide (x.i < 0) = true) := decide_eq_true c0
        have HF : Hid (mayP p = false) := may_badC HIL.out (by rw [HXE.out]; exact decide_eq_false (by omega))
        clear c0
        go_upto_region 5 with (fail)
        refine wp_region_Hx (w0 := w) [0, 1, 2, 3, 4, 5, 6, 7, 8, 9, 10, 11, 12, 13, 14, 15, 16, 17, 18, 19, 20, 21, 22, 23, 24, 25, 26, 27, 28, 29, 30, 31, 32, 33] [(gc, Obj.cells (coA x) 50 (0, 0))] rfl EX17.out ?_
        refine lexH_phase [0, 1, 2, 3, 4, 5, 6, 7, 8, 9, 10, 11, 12, 13, 14, 15, 16, 17, 18, 19, 20, 21, 22, 23, 24, 25, 26, 27, 28, 29, 30, 31, 32, 33] [] ?_
        have hw19 : EnvX w _ [(gc, Obj.cells (coA x) 50 (0, 0))] := EX17.out
        have hone := @EnvC.one _ _ _ hw19
        (refine wpG_val (v := .pointer (some ⟨gc, 0, none⟩)) rfl rfl (fun u hu => fieldCo_op (k := 0) (off := 0) (ad := ⟨gc, 0, none⟩) rfl u rfl) ?_ hw19; intro K hK; go_big_quiet_op; go_big_quiet_on)
        (refine wpG_val (v := .pointer (some ⟨gc, 32, none⟩)) rfl rfl (fun u hu => fieldIn_op (k := 1) (off := 32) (ad := ⟨gc, 0, none⟩) rfl u rfl) ?_ hw19; intro K hK; go_big_quiet_op; go_big_quiet_on)
        (refine wpG_val (v := .int .i64 x.i) rfl rfl (fun u hu => load_any_op u (box_co_i hu (List.Mem.head _) HX.out) rfl) ?_ hw19; intro K hK; go_big_quiet_op; go_big_quiet_on)
        (refine wpG_val (v := .bool true) rfl rfl (fun u hu => ltZ_op u B0.out rfl rfl) ?_ hw19; intro K hK; go_big_quiet_op; go_big_quiet_on)
        (refine wpG_op rfl rfl rfl ?_; intro K hK; go_big_quiet_op; go_big_quiet_on)
        iterate 4 (refine wpG_skip rfl rfl ?_ hw19; intro K hK; go_big_quiet_op; go_big_quiet_on)
        iterate 2 (refine wpG_op rfl rfl rfl ?_; intro K hK; go_big_quiet_op; go_big_quiet_on)
        iterate 4 (refine wpG_skip rfl rfl ?_ hw19; intro K hK; go_big_quiet_op; go_big_quiet_on)
        iterate 2 (refine wpG_op rfl rfl rfl ?_; intro K hK; go_big_quiet_op; go_big_quiet_on)
        iterate 4 (refine wpG_skip rfl rfl ?_ hw19; intro K hK; go_big_quiet_op; go_big_quiet_on)
        iterate 2 (refine wpG_op rfl rfl rfl ?_; intro K hK; go_big_quiet_op; go_big_quiet_on)
        iterate 4 (refine wpG_skip rfl rfl ?_ hw19; intro K hK; go_big_quiet_op; go_big_quiet_on)
        iterate 2 (refine wpG_op rfl rfl rfl ?_; intro K hK; go_big_quiet_op; go_big_quiet_on)
        iterate 4 (refine wpG_skip rfl rfl ?_ hw19; intro K hK; go_big_quiet_op; go_big_quiet_on)
        (refine wpG_op rfl rfl rfl ?_; intro K hK; go_big_quiet_op; go_big_quiet_on)
        clear hone hw19
        refine wpG_nil ?_
        intro u21 E2'
        have EX20 := Lib.hid E2'
        clear E2'
        have HBE := Lib.hid (EnvX.bel EX20.out)
        go_wp2
        go_ret
        exact ⟨by rw [HF.out]; first | done | rfl, HBE.out⟩
      have B0 : Hid (decide (x.i < 0) = false) := decide_eq_false c0
      by_cases c1 : 3 ≤ x.i
      · have B1 : Hid (decide (3 ≤ x.i) = true) := decide_eq_true c1
        have HF : Hid (mayP p = false) := may_badC HIL.out (by rw [HXE.out]; exact decide_eq_false (by omega))
        clear c0 c1
        go_upto_region 5 with (fail)
        refine wp_region_Hx (w0 := w) [0, 1, 2, 3, 4, 5, 6, 7, 8, 9, 10, 11, 12, 13, 14, 15, 16, 17, 18, 19, 20, 21, 22, 23, 24, 25, 26, 27, 28, 29, 30, 31, 32, 33] [(gc, Obj.cells (coA x) 50 (0, 0))] rfl EX17.out ?_
        refine lexH_phase [0, 1, 2, 3, 4, 5, 6, 7, 8, 9, 10, 11, 12, 13, 14, 15, 16, 17, 18, 19, 20, 21, 22, 23, 24, 25, 26, 27, 28, 29, 30, 31, 32, 33] [] ?_
        have hw19 : EnvX w _ [(gc, Obj.cells (coA x) 50 (0, 0))] := EX17.out
        have hone := @EnvC.one _ _ _ hw19
        (refine wpG_val (v := .pointer (some ⟨gc, 0, none⟩)) rfl rfl (fun u hu => fieldCo_op (k := 0) (off := 0) (ad := ⟨gc, 0, none⟩) rfl u rfl) ?_ hw19; intro K hK; go_big_quiet_op; go_big_quiet_on)
        (refine wpG_val (v := .pointer (some ⟨gc, 32, none⟩)) rfl rfl (fun u hu => fieldIn_op (k := 1) (off := 32) (ad := ⟨gc, 0, none⟩) rfl u rfl) ?_ hw19; intro K hK; go_big_quiet_op; go_big_quiet_on)
        (refine wpG_val (v := .int .i64 x.i) rfl rfl (fun u hu => load_any_op u (box_co_i hu (List.Mem.head _) HX.out) rfl) ?_ hw19; intro K hK; go_big_quiet_op; go_big_quiet_on)
        (refine wpG_val (v := .bool false) rfl rfl (fun u hu => ltZ_op u B0.out rfl rfl) ?_ hw19; intro K hK; go_big_quiet_op; go_big_quiet_on)
        (refine wpG_op rfl rfl rfl ?_; intro K hK; go_big_quiet_op; go_big_quiet_on)
        (refine wpG_val (v := .pointer (some ⟨gc, 0, none⟩)) rfl rfl (fun u hu => fieldCo_op (k := 0) (off := 0) (ad := ⟨gc, 0, none⟩) rfl u rfl) ?_ hw19; intro K hK; go_big_quiet_op; go_big_quiet_on)
        (refine wpG_val (v := .pointer (some ⟨gc, 32, none⟩)) rfl rfl (fun u hu => fieldIn_op (k := 1) (off := 32) (ad := ⟨gc, 0, none⟩) rfl u rfl) ?_ hw19; intro K hK; go_big_quiet_op; go_big_quiet_on)
        (refine wpG_val (v := .int .i64 x.i) rfl rfl (fun u hu => load_any_op u (box_co_i hu (List.Mem.head _) HX.out) rfl) ?_ hw19; intro K hK; go_big_quiet_op; go_big_quiet_on)
        (refine wpG_val (v := .bool true) rfl rfl (fun u hu => geZ_op u B1.out rfl rfl) ?_ hw19; intro K hK; go_big_quiet_op; go_big_quiet_on)
        iterate 2 (refine wpG_op rfl rfl rfl ?_; intro K hK; go_big_quiet_op; go_big_quiet_on)
        iterate 4 (refine wpG_skip rfl rfl ?_ hw19; intro K hK; go_big_quiet_op; go_big_quiet_on)
        iterate 2 (refine wpG_op rfl rfl rfl ?_; intro K hK; go_big_quiet_op; go_big_quiet_on)
        iterate 4 (refine wpG_skip rfl rfl ?_ hw19; intro K hK; go_big_quiet_op; go_big_quiet_on)
        iterate 2 (refine wpG_op rfl rfl rfl ?_; intro K hK; go_big_quiet_op; go_big_quiet_on)
        iterate 4 (refine wpG_skip rfl rfl ?_ hw19; intro K hK; go_big_quiet_op; go_big_quiet_on)
        iterate 2 (refine wpG_op rfl rfl rfl ?_; intro K hK; go_big_quiet_op; go_big_quiet_on)
        iterate 4 (refine wpG_skip rfl rfl ?_ hw19; intro K hK; go_big_quiet_op; go_big_quiet_on)
        (refine wpG_op rfl rfl rfl ?_; intro K hK; go_big_quiet_op; go_big_quiet_on)
        clear hone hw19
        refine wpG_nil ?_
        intro u21 E2'
        have EX20 := Lib.hid E2'
        clear E2'
        have HBE := Lib.hid (EnvX.bel EX20.out)
        go_wp2
        go_ret
        exact ⟨by rw [HF.out]; first | done | rfl, HBE.out⟩
      have B1 : Hid (decide (3 ≤ x.i) = false) := decide_eq_false c1
      by_cases c2 : x.v < 1
      · have B2 : Hid (decide (x.v < 1) = true) := decide_eq_true c2
        have HF : Hid (mayP p = false) := may_badC HIL.out (by rw [HXE.out]; exact decide_eq_false (by omega))
        clear c0 c1 c2
        go_upto_region 5 with (fail)
        refine wp_region_Hx (w0 := w) [0, 1, 2, 3, 4, 5, 6, 7, 8, 9, 10, 11, 12, 13, 14, 15, 16, 17, 18, 19, 20, 21, 22, 23, 24, 25, 26, 27, 28, 29, 30, 31, 32, 33] [(gc, Obj.cells (coA x) 50 (0, 0))] rfl EX17.out ?_
        refine lexH_phase [0, 1, 2, 3, 4, 5, 6, 7, 8, 9, 10, 11, 12, 13, 14, 15, 16, 17, 18, 19, 20, 21, 22, 23, 24, 25, 26, 27, 28, 29, 30, 31, 32, 33] [] ?_
        have hw19 : EnvX w _ [(gc, Obj.cells (coA x) 50 (0, 0))] := EX17.out
        have hone := @EnvC.one _ _ _ hw19
        (refine wpG_val (v := .pointer (some ⟨gc, 0, none⟩)) rfl rfl (fun u hu => fieldCo_op (k := 0) (off := 0) (ad := ⟨gc, 0, none⟩) rfl u rfl) ?_ hw19; intro K hK; go_big_quiet_op; go_big_quiet_on)
        (refine wpG_val (v := .pointer (some ⟨gc, 32, none⟩)) rfl rfl (fun u hu => fieldIn_op (k := 1) (off := 32) (ad := ⟨gc, 0, none⟩) rfl u rfl) ?_ hw19; intro K hK; go_big_quiet_op; go_big_quiet_on)
        (refine wpG_val (v := .int .i64 x.i) rfl rfl (fun u hu => load_any_op u (box_co_i hu (List.Mem.head _) HX.out) rfl) ?_ hw19; intro K hK; go_big_quiet_op; go_big_quiet_on)
        (refine wpG_val (v := .bool false) rfl rfl (fun u hu => ltZ_op u B0.out rfl rfl) ?_ hw19; intro K hK; go_big_quiet_op; go_big_quiet_on)
        (refine wpG_op rfl rfl rfl ?_; intro K hK; go_big_quiet_op; go_big_quiet_on)
        (refine wpG_val (v := .pointer (some ⟨gc, 0, none⟩)) rfl rfl (fun u hu => fieldCo_op (k := 0) (off := 0) (ad := ⟨gc, 0, none⟩) rfl u rfl) ?_ hw19; intro K hK; go_big_quiet_op; go_big_quiet_on)
        (refine wpG_val (v := .pointer (some ⟨gc, 32, none⟩)) rfl rfl (fun u hu => fieldIn_op (k := 1) (off := 32) (ad := ⟨gc, 0, none⟩) rfl u rfl) ?_ hw19; intro K hK; go_big_quiet_op; go_big_quiet_on)
        (refine wpG_val (v := .int .i64 x.i) rfl rfl (fun u hu => load_any_op u (box_co_i hu (List.Mem.head _) HX.out) rfl) ?_ hw19; intro K hK; go_big_quiet_op; go_big_quiet_on)
        (refine wpG_val (v := .bool false) rfl rfl (fun u hu => geZ_op u B1.out rfl rfl) ?_ hw19; intro K hK; go_big_quiet_op; go_big_quiet_on)
        iterate 2 (refine wpG_op rfl rfl rfl ?_; intro K hK; go_big_quiet_op; go_big_quiet_on)
        (refine wpG_val (v := .pointer (some ⟨gc, 33, none⟩)) rfl rfl (fun u hu => fieldCo_op (k := 1) (off := 33) (ad := ⟨gc, 0, none⟩) rfl u rfl) ?_ hw19; intro K hK; go_big_quiet_op; go_big_quiet_on)
        (refine wpG_val (v := .pointer (some ⟨gc, 33, none⟩)) rfl rfl (fun u hu => fieldOut_op (k := 0) (off := 0) (ad := ⟨gc, 33, none⟩) rfl u rfl) ?_ hw19; intro K hK; go_big_quiet_op; go_big_quiet_on)
        (refine wpG_val (v := .int .i64 x.v) rfl rfl (fun u hu => load_any_op u (box_co_v hu (List.Mem.head _) HX.out) rfl) ?_ hw19; intro K hK; go_big_quiet_op; go_big_quiet_on)
        (refine wpG_val (v := .bool true) rfl rfl (fun u hu => ltZ_op u B2.out rfl rfl) ?_ hw19; intro K hK; go_big_quiet_op; go_big_quiet_on)
        iterate 2 (refine wpG_op rfl rfl rfl ?_; intro K hK; go_big_quiet_op; go_big_quiet_on)
        iterate 4 (refine wpG_skip rfl rfl ?_ hw19; intro K hK; go_big_quiet_op; go_big_quiet_on)
        iterate 2 (refine wpG_op rfl rfl rfl ?_; intro K hK; go_big_quiet_op; go_big_quiet_on)
        iterate 4 (refine wpG_skip rfl rfl ?_ hw19; intro K hK; go_big_quiet_op; go_big_quiet_on)
        iterate 2 (refine wpG_op rfl rfl rfl ?_; intro K hK; go_big_quiet_op; go_big_quiet_on)
        iterate 4 (refine wpG_skip rfl rfl ?_ hw19; intro K hK; go_big_quiet_op; go_big_quiet_on)
        (refine wpG_op rfl rfl rfl ?_; intro K hK; go_big_quiet_op; go_big_quiet_on)
        clear hone hw19
        refine wpG_nil ?_
        intro u21 E2'
        have EX20 := Lib.hid E2'
        clear E2'
        have HBE := Lib.hid (EnvX.bel EX20.out)
        go_wp2
        go_ret
        exact ⟨by rw [HF.out]; first | done | rfl, HBE.out⟩
      have B2 : Hid (decide (x.v < 1) = false) := decide_eq_false c2
      by_cases c3 : 1099511627776 < x.v
      · have B3 : Hid (decide (1099511627776 < x.v) = true) := decide_eq_true c3
        have HF : Hid (mayP p = false) := may_badC HIL.out (by rw [HXE.out]; exact decide_eq_false (by omega))
        clear c0 c1 c2 c3
        go_upto_region 5 with (fail)
        refine wp_region_Hx (w0 := w) [0, 1, 2, 3, 4, 5, 6, 7, 8, 9, 10, 11, 12, 13, 14, 15, 16, 17, 18, 19, 20, 21, 22, 23, 24, 25, 26, 27, 28, 29, 30, 31, 32, 33] [(gc, Obj.cells (coA x) 50 (0, 0))] rfl EX17.out ?_
        refine lexH_phase [0, 1, 2, 3, 4, 5, 6, 7, 8, 9, 10, 11, 12, 13, 14, 15, 16, 17, 18, 19, 20, 21, 22, 23, 24, 25, 26, 27, 28, 29, 30, 31, 32, 33] [] ?_
        have hw19 : EnvX w _ [(gc, Obj.cells (coA x) 50 (0, 0))] := EX17.out
        have hone := @EnvC.one _ _ _ hw19
        (refine wpG_val (v := .pointer (some ⟨gc, 0, none⟩)) rfl rfl (fun u hu => fieldCo_op (k := 0) (off := 0) (ad := ⟨gc, 0, none⟩) rfl u rfl) ?_ hw19; intro K hK; go_big_quiet_op; go_big_quiet_on)
        (refine wpG_val (v := .pointer (some ⟨gc, 32, none⟩)) rfl rfl (fun u hu => fieldIn_op (k := 1) (off := 32) (ad := ⟨gc, 0, none⟩) rfl u rfl) ?_ hw19; intro K hK; go_big_quiet_op; go_big_quiet_on)
        (refine wpG_val (v := .int .i64 x.i) rfl rfl (fun u hu => load_any_op u (box_co_i hu (List.Mem.head _) HX.out) rfl) ?_ hw19; intro K hK; go_big_quiet_op; go_big_quiet_on)
        (refine wpG_val (v := .bool false) rfl rfl (fun u hu => ltZ_op u B0.out rfl rfl) ?_ hw19; intro K hK; go_big_quiet_op; go_big_quiet_on)
        (refine wpG_op rfl rfl rfl ?_; intro K hK; go_big_quiet_op; go_big_quiet_on)
        (refine wpG_val (v := .pointer (some ⟨gc, 0, none⟩)) rfl rfl (fun u hu => fieldCo_op (k := 0) (off := 0) (ad := ⟨gc, 0, none⟩) rfl u rfl) ?_ hw19; intro K hK; go_big_quiet_op; go_big_quiet_on)
        (refine wpG_val (v := .pointer (some ⟨gc, 32, none⟩)) rfl rfl (fun u hu => fieldIn_op (k := 1) (off := 32) (ad := ⟨gc, 0, none⟩) rfl u rfl) ?_ hw19; intro K hK; go_big_quiet_op; go_big_quiet_on)
        (refine wpG_val (v := .int .i64 x.i) rfl rfl (fun u hu => load_any_op u (box_co_i hu (List.Mem.head _) HX.out) rfl) ?_ hw19; intro K hK; go_big_quiet_op; go_big_quiet_on)
        (refine wpG_val (v := .bool false) rfl rfl (fun u hu => geZ_op u B1.out rfl rfl) ?_ hw19; intro K hK; go_big_quiet_op; go_big_quiet_on)
        iterate 2 (refine wpG_op rfl rfl rfl ?_; intro K hK; go_big_quiet_op; go_big_quiet_on)
        (refine wpG_val (v := .pointer (some ⟨gc, 33, none⟩)) rfl rfl (fun u hu => fieldCo_op (k := 1) (off := 33) (ad := ⟨gc, 0, none⟩) rfl u rfl) ?_ hw19; intro K hK; go_big_quiet_op; go_big_quiet_on)
        (refine wpG_val (v := .pointer (some ⟨gc, 33, none⟩)) rfl rfl (fun u hu => fieldOut_op (k := 0) (off := 0) (ad := ⟨gc, 33, none⟩) rfl u rfl) ?_ hw19; intro K hK; go_big_quiet_op; go_big_quiet_on)
        (refine wpG_val (v := .int .i64 x.v) rfl rfl (fun u hu => load_any_op u (box_co_v hu (List.Mem.head _) HX.out) rfl) ?_ hw19; intro K hK; go_big_quiet_op; go_big_quiet_on)
        (refine wpG_val (v := .bool false) rfl rfl (fun u hu => ltZ_op u B2.out rfl rfl) ?_ hw19; intro K hK; go_big_quiet_op; go_big_quiet_on)
        iterate 2 (refine wpG_op rfl rfl rfl ?_; intro K hK; go_big_quiet_op; go_big_quiet_on)
        (refine wpG_val (v := .pointer (some ⟨gc, 33, none⟩)) rfl rfl (fun u hu => fieldCo_op (k := 1) (off := 33) (ad := ⟨gc, 0, none⟩) rfl u rfl) ?_ hw19; intro K hK; go_big_quiet_op; go_big_quiet_on)
        (refine wpG_val (v := .pointer (some ⟨gc, 33, none⟩)) rfl rfl (fun u hu => fieldOut_op (k := 0) (off := 0) (ad := ⟨gc, 33, none⟩) rfl u rfl) ?_ hw19; intro K hK; go_big_quiet_op; go_big_quiet_on)
        (refine wpG_val (v := .int .i64 x.v) rfl rfl (fun u hu => load_any_op u (box_co_v hu (List.Mem.head _) HX.out) rfl) ?_ hw19; intro K hK; go_big_quiet_op; go_big_quiet_on)
        (refine wpG_val (v := .bool true) rfl rfl (fun u hu => gtZ_op u B3.out rfl rfl) ?_ hw19; intro K hK; go_big_quiet_op; go_big_quiet_on)
        iterate 2 (refine wpG_op rfl rfl rfl ?_; intro K hK; go_big_quiet_op; go_big_quiet_on)
        iterate 4 (refine wpG_skip rfl rfl ?_ hw19; intro K hK; go_big_quiet_op; go_big_quiet_on)
        iterate 2 (refine wpG_op rfl rfl rfl ?_; intro K hK; go_big_quiet_op; go_big_quiet_on)
        iterate 4 (refine wpG_skip rfl rfl ?_ hw19; intro K hK; go_big_quiet_op; go_big_quiet_on)
        (refine wpG_op rfl rfl rfl ?_; intro K hK; go_big_quiet_op; go_big_quiet_on)
        clear hone hw19
        refine wpG_nil ?_
        intro u21 E2'
        have EX20 := Lib.hid E2'
        clear E2'
        have HBE := Lib.hid (EnvX.bel EX20.out)
        go_wp2
        go_ret
        exact ⟨by rw [HF.out]; first | done | rfl, HBE.out⟩
      have B3 : Hid (decide (1099511627776 < x.v) = false) := decide_eq_false c3
      by_cases c4 : x.to < 0
      · have B4 : Hid (decide (x.to < 0) = true) := decide_eq_true c4
        have HF : Hid (mayP p = false) := may_badC HIL.out (by rw [HXE.out]; exact decide_eq_false (by omega))
        clear c0 c1 c2 c3 c4
        go_upto_region 5 with (fail)
        refine wp_region_Hx (w0 := w) [0, 1, 2, 3, 4, 5, 6, 7, 8, 9, 10, 11, 12, 13, 14, 15, 16, 17, 18, 19, 20, 21, 22, 23, 24, 25, 26, 27, 28, 29, 30, 31, 32, 33] [(gc, Obj.cells (coA x) 50 (0, 0))] rfl EX17.out ?_
        refine lexH_phase [0, 1, 2, 3, 4, 5, 6, 7, 8, 9, 10, 11, 12, 13, 14, 15, 16, 17, 18, 19, 20, 21, 22, 23, 24, 25, 26, 27, 28, 29, 30, 31, 32, 33] [] ?_
        have hw19 : EnvX w _ [(gc, Obj.cells (coA x) 50 (0, 0))] := EX17.out
        have hone := @EnvC.one _ _ _ hw19
        (refine wpG_val (v := .pointer (some ⟨gc, 0, none⟩)) rfl rfl (fun u hu => fieldCo_op (k := 0) (off := 0) (ad := ⟨gc, 0, none⟩) rfl u rfl) ?_ hw19; intro K hK; go_big_quiet_op; go_big_quiet_on)
        (refine wpG_val (v := .pointer (some ⟨gc, 32, none⟩)) rfl rfl (fun u hu => fieldIn_op (k := 1) (off := 32) (ad := ⟨gc, 0, none⟩) rfl u rfl) ?_ hw19; intro K hK; go_big_quiet_op; go_big_quiet_on)
        (refine wpG_val (v := .int .i64 x.i) rfl rfl (fun u hu => load_any_op u (box_co_i hu (List.Mem.head _) HX.out) rfl) ?_ hw19; intro K hK; go_big_quiet_op; go_big_quiet_on)
        (refine wpG_val (v := .bool false) rfl rfl (fun u hu => ltZ_op u B0.out rfl rfl) ?_ hw19; intro K hK; go_big_quiet_op; go_big_quiet_on)
        (refine wpG_op rfl rfl rfl ?_; intro K hK; go_big_quiet_op; go_big_quiet_on)
        (refine wpG_val (v := .pointer (some ⟨gc, 0, none⟩)) rfl rfl (fun u hu => fieldCo_op (k := 0) (off := 0) (ad := ⟨gc, 0, none⟩) rfl u rfl) ?_ hw19; intro K hK; go_big_quiet_op; go_big_quiet_on)
        (refine wpG_val (v := .pointer (some ⟨gc, 32, none⟩)) rfl rfl (fun u hu => fieldIn_op (k := 1) (off := 32) (ad := ⟨gc, 0, none⟩) rfl u rfl) ?_ hw19; intro K hK; go_big_quiet_op; go_big_quiet_on)
        (refine wpG_val (v := .int .i64 x.i) rfl rfl (fun u hu => load_any_op u (box_co_i hu (List.Mem.head _) HX.out) rfl) ?_ hw19; intro K hK; go_big_quiet_op; go_big_quiet_on)
        (refine wpG_val (v := .bool false) rfl rfl (fun u hu => geZ_op u B1.out rfl rfl) ?_ hw19; intro K hK; go_big_quiet_op; go_big_quiet_on)
        iterate 2 (refine wpG_op rfl rfl rfl ?_; intro K hK; go_big_quiet_op; go_big_quiet_on)
        (refine wpG_val (v := .pointer (some ⟨gc, 33, none⟩)) rfl rfl (fun u hu => fieldCo_op (k := 1) (off := 33) (ad := ⟨gc, 0, none⟩) rfl u rfl) ?_ hw19; intro K hK; go_big_quiet_op; go_big_quiet_on)
        (refine wpG_val (v := .pointer (some ⟨gc, 33, none⟩)) rfl rfl (fun u hu => fieldOut_op (k := 0) (off := 0) (ad := ⟨gc, 33, none⟩) rfl u rfl) ?_ hw19; intro K hK; go_big_quiet_op; go_big_quiet_on)
        (refine wpG_val (v := .int .i64 x.v) rfl rfl (fun u hu => load_any_op u (box_co_v hu (List.Mem.head _) HX.out) rfl) ?_ hw19; intro K hK; go_big_quiet_op; go_big_quiet_on)
        (refine wpG_val (v := .bool false) rfl rfl (fun u hu => ltZ_op u B2.out rfl rfl) ?_ hw19; intro K hK; go_big_quiet_op; go_big_quiet_on)
        iterate 2 (refine wpG_op rfl rfl rfl ?_; intro K hK; go_big_quiet_op; go_big_quiet_on)
        (refine wpG_val (v := .pointer (some ⟨gc, 33, none⟩)) rfl rfl (fun u hu => fieldCo_op (k := 1) (off := 33) (ad := ⟨gc, 0, none⟩) rfl u rfl) ?_ hw19; intro K hK; go_big_quiet_op; go_big_quiet_on)
        (refine wpG_val (v := .pointer (some ⟨gc, 33, none⟩)) rfl rfl (fun u hu => fieldOut_op (k := 0) (off := 0) (ad := ⟨gc, 33, none⟩) rfl u rfl) ?_ hw19; intro K hK; go_big_quiet_op; go_big_quiet_on)
        (refine wpG_val (v := .int .i64 x.v) rfl rfl (fun u hu => load_any_op u (box_co_v hu (List.Mem.head _) HX.out) rfl) ?_ hw19; intro K hK; go_big_quiet_op; go_big_quiet_on)
        (refine wpG_val (v := .bool false) rfl rfl (fun u hu => gtZ_op u B3.out rfl rfl) ?_ hw19; intro K hK; go_big_quiet_op; go_big_quiet_on)
        iterate 2 (refine wpG_op rfl rfl rfl ?_; intro K hK; go_big_quiet_op; go_big_quiet_on)
        (refine wpG_val (v := .pointer (some ⟨gc, 33, none⟩)) rfl rfl (fun u hu => fieldCo_op (k := 1) (off := 33) (ad := ⟨gc, 0, none⟩) rfl u rfl) ?_ hw19; intro K hK; go_big_quiet_op; go_big_quiet_on)
        (refine wpG_val (v := .pointer (some ⟨gc, 34, none⟩)) rfl rfl (fun u hu => fieldOut_op (k := 1) (off := 1) (ad := ⟨gc, 33, none⟩) rfl u rfl) ?_ hw19; intro K hK; go_big_quiet_op; go_big_quiet_on)
        (refine wpG_val (v := .int .i64 x.to) rfl rfl (fun u hu => load_any_op u (box_co_to hu (List.Mem.head _) HX.out) rfl) ?_ hw19; intro K hK; go_big_quiet_op; go_big_quiet_on)
        (refine wpG_val (v := .bool true) rfl rfl (fun u hu => ltZ_op u B4.out rfl rfl) ?_ hw19; intro K hK; go_big_quiet_op; go_big_quiet_on)
        iterate 2 (refine wpG_op rfl rfl rfl ?_; intro K hK; go_big_quiet_op; go_big_quiet_on)
        iterate 4 (refine wpG_skip rfl rfl ?_ hw19; intro K hK; go_big_quiet_op; go_big_quiet_on)
        (refine wpG_op rfl rfl rfl ?_; intro K hK; go_big_quiet_op; go_big_quiet_on)
        clear hone hw19
        refine wpG_nil ?_
        intro u21 E2'
        have EX20 := Lib.hid E2'
        clear E2'
        have HBE := Lib.hid (EnvX.bel EX20.out)
        go_wp2
        go_ret
        exact ⟨by rw [HF.out]; first | done | rfl, HBE.out⟩
      have B4 : Hid (decide (x.to < 0) = false) := decide_eq_false c4
      by_cases c5 : 255 < x.to
      · have B5 : Hid (decide (255 < x.to) = true) := decide_eq_true c5
        have HF : Hid (mayP p = false) := may_badC HIL.out (by rw [HXE.out]; exact decide_eq_false (by omega))
        clear c0 c1 c2 c3 c4 c5
        go_upto_region 5 with (fail)
        refine wp_region_Hx (w0 := w) [0, 1, 2, 3, 4, 5, 6, 7, 8, 9, 10, 11, 12, 13, 14, 15, 16, 17, 18, 19, 20, 21, 22, 23, 24, 25, 26, 27, 28, 29, 30, 31, 32, 33] [(gc, Obj.cells (coA x) 50 (0, 0))] rfl EX17.out ?_
        refine lexH_phase [0, 1, 2, 3, 4, 5, 6, 7, 8, 9, 10, 11, 12, 13, 14, 15, 16, 17, 18, 19, 20, 21, 22, 23, 24, 25, 26, 27, 28, 29, 30, 31, 32, 33] [] ?_
        have hw19 : EnvX w _ [(gc, Obj.cells (coA x) 50 (0, 0))] := EX17.out
        have hone := @EnvC.one _ _ _ hw19
        (refine wpG_val (v := .pointer (some ⟨gc, 0, none⟩)) rfl rfl (fun u hu => fieldCo_op (k := 0) (off := 0) (ad := ⟨gc, 0, none⟩) rfl u rfl) ?_ hw19; intro K hK; go_big_quiet_op; go_big_quiet_on)
        (refine wpG_val (v := .pointer (some ⟨gc, 32, none⟩)) rfl rfl (fun u hu => fieldIn_op (k := 1) (off := 32) (ad := ⟨gc, 0, none⟩) rfl u rfl) ?_ hw19; intro K hK; go_big_quiet_op; go_big_quiet_on)
        (refine wpG_val (v := .int .i64 x.i) rfl rfl (fun u hu => load_any_op u (box_co_i hu (List.Mem.head _) HX.out) rfl) ?_ hw19; intro K hK; go_big_quiet_op; go_big_quiet_on)
        (refine wpG_val (v := .bool false) rfl rfl (fun u hu => ltZ_op u B0.out rfl rfl) ?_ hw19; intro K hK; go_big_quiet_op; go_big_quiet_on)
        (refine wpG_op rfl rfl rfl ?_; intro K hK; go_big_quiet_op; go_big_quiet_on)
        (refine wpG_val (v := .pointer (some ⟨gc, 0, none⟩)) rfl rfl (fun u hu => fieldCo_op (k := 0) (off := 0) (ad := ⟨gc, 0, none⟩) rfl u rfl) ?_ hw19; intro K hK; go_big_quiet_op; go_big_quiet_on)
        (refine wpG_val (v := .pointer (some ⟨gc, 32, none⟩)) rfl rfl (fun u hu => fieldIn_op (k := 1) (off := 32) (ad := ⟨gc, 0, none⟩) rfl u rfl) ?_ hw19; intro K hK; go_big_quiet_op; go_big_quiet_on)
        (refine wpG_val (v := .int .i64 x.i) rfl rfl (fun u hu => load_any_op u (box_co_i hu (List.Mem.head _) HX.out) rfl) ?_ hw19; intro K hK; go_big_quiet_op; go_big_quiet_on)
        (refine wpG_val (v := .bool false) rfl rfl (fun u hu => geZ_op u B1.out rfl rfl) ?_ hw19; intro K hK; go_big_quiet_op; go_big_quiet_on)
        iterate 2 (refine wpG_op rfl rfl rfl ?_; intro K hK; go_big_quiet_op; go_big_quiet_on)
        (refine wpG_val (v := .pointer (some ⟨gc, 33, none⟩)) rfl rfl (fun u hu => fieldCo_op (k := 1) (off := 33) (ad := ⟨gc, 0, none⟩) rfl u rfl) ?_ hw19; intro K hK; go_big_quiet_op; go_big_quiet_on)
        (refine wpG_val (v := .pointer (some ⟨gc, 33, none⟩)) rfl rfl (fun u hu => fieldOut_op (k := 0) (off := 0) (ad := ⟨gc, 33, none⟩) rfl u rfl) ?_ hw19; intro K hK; go_big_quiet_op; go_big_quiet_on)
        (refine wpG_val (v := .int .i64 x.v) rfl rfl (fun u hu => load_any_op u (box_co_v hu (List.Mem.head _) HX.out) rfl) ?_ hw19; intro K hK; go_big_quiet_op; go_big_quiet_on)
        (refine wpG_val (v := .bool false) rfl rfl (fun u hu => ltZ_op u B2.out rfl rfl) ?_ hw19; intro K hK; go_big_quiet_op; go_big_quiet_on)
        iterate 2 (refine wpG_op rfl rfl rfl ?_; intro K hK; go_big_quiet_op; go_big_quiet_on)
        (refine wpG_val (v := .pointer (some ⟨gc, 33, none⟩)) rfl rfl (fun u hu => fieldCo_op (k := 1) (off := 33) (ad := ⟨gc, 0, none⟩) rfl u rfl) ?_ hw19; intro K hK; go_big_quiet_op; go_big_quiet_on)
        (refine wpG_val (v := .pointer (some ⟨gc, 33, none⟩)) rfl rfl (fun u hu => fieldOut_op (k := 0) (off := 0) (ad := ⟨gc, 33, none⟩) rfl u rfl) ?_ hw19; intro K hK; go_big_quiet_op; go_big_quiet_on)
        (refine wpG_val (v := .int .i64 x.v) rfl rfl (fun u hu => load_any_op u (box_co_v hu (List.Mem.head _) HX.out) rfl) ?_ hw19; intro K hK; go_big_quiet_op; go_big_quiet_on)
        (refine wpG_val (v := .bool false) rfl rfl (fun u hu => gtZ_op u B3.out rfl rfl) ?_ hw19; intro K hK; go_big_quiet_op; go_big_quiet_on)
        iterate 2 (refine wpG_op rfl rfl rfl ?_; intro K hK; go_big_quiet_op; go_big_quiet_on)
        (refine wpG_val (v := .pointer (some ⟨gc, 33, none⟩)) rfl rfl (fun u hu => fieldCo_op (k := 1) (off := 33) (ad := ⟨gc, 0, none⟩) rfl u rfl) ?_ hw19; intro K hK; go_big_quiet_op; go_big_quiet_on)
        (refine wpG_val (v := .pointer (some ⟨gc, 34, none⟩)) rfl rfl (fun u hu => fieldOut_op (k := 1) (off := 1) (ad := ⟨gc, 33, none⟩) rfl u rfl) ?_ hw19; intro K hK; go_big_quiet_op; go_big_quiet_on)
        (refine wpG_val (v := .int .i64 x.to) rfl rfl (fun u hu => load_any_op u (box_co_to hu (List.Mem.head _) HX.out) rfl) ?_ hw19; intro K hK; go_big_quiet_op; go_big_quiet_on)
        (refine wpG_val (v := .bool false) rfl rfl (fun u hu => ltZ_op u B4.out rfl rfl) ?_ hw19; intro K hK; go_big_quiet_op; go_big_quiet_on)
        iterate 2 (refine wpG_op rfl rfl rfl ?_; intro K hK; go_big_quiet_op; go_big_quiet_on)
        (refine wpG_val (v := .pointer (some ⟨gc, 33, none⟩)) rfl rfl (fun u hu => fieldCo_op (k := 1) (off := 33) (ad := ⟨gc, 0, none⟩) rfl u rfl) ?_ hw19; intro K hK; go_big_quiet_op; go_big_quiet_on)
        (refine wpG_val (v := .pointer (some ⟨gc, 34, none⟩)) rfl rfl (fun u hu => fieldOut_op (k := 1) (off := 1) (ad := ⟨gc, 33, none⟩) rfl u rfl) ?_ hw19; intro K hK; go_big_quiet_op; go_big_quiet_on)
        (refine wpG_val (v := .int .i64 x.to) rfl rfl (fun u hu => load_any_op u (box_co_to hu (List.Mem.head _) HX.out) rfl) ?_ hw19; intro K hK; go_big_quiet_op; go_big_quiet_on)
        (refine wpG_val (v := .bool true) rfl rfl (fun u hu => gtZ_op u B5.out rfl rfl) ?_ hw19; intro K hK; go_big_quiet_op; go_big_quiet_on)
        (refine wpG_op rfl rfl rfl ?_; intro K hK; go_big_quiet_op; go_big_quiet_on)
        clear hone hw19
        refine wpG_nil ?_
        intro u21 E2'
        have EX20 := Lib.hid E2'
        clear E2'
        have HBE := Lib.hid (EnvX.bel EX20.out)
        go_wp2
        go_ret
        exact ⟨by rw [HF.out]; first | done | rfl, HBE.out⟩
      have B5 : Hid (decide (255 < x.to) = false) := decide_eq_false c5
      have HBO : Hid (boundC (p.getD i noC0) = true) := by show _ = _; rw [HXE.out]; exact decide_eq_true (by omega)
      clear c0 c1 c2 c3 c4 c5
      go_upto_region 5 with (fail)
      refine wp_region_Hx (w0 := w) [0, 1, 2, 3, 4, 5, 6, 7, 8, 9, 10, 11, 12, 13, 14, 15, 16, 17, 18, 19, 20, 21, 22, 23, 24, 25, 26, 27, 28, 29, 30, 31, 32, 33] [(gc, Obj.cells (coA x) 50 (0, 0))] rfl EX17.out ?_
      refine lexH_phase [0, 1, 2, 3, 4, 5, 6, 7, 8, 9, 10, 11, 12, 13, 14, 15, 16, 17, 18, 19, 20, 21, 22, 23, 24, 25, 26, 27, 28, 29, 30, 31, 32, 33] [] ?_
      have hw19 : EnvX w _ [(gc, Obj.cells (coA x) 50 (0, 0))] := EX17.out
      have hone := @EnvC.one _ _ _ hw19
      (refine wpG_val (v := .pointer (some ⟨gc, 0, none⟩)) rfl rfl (fun u hu => fieldCo_op (k := 0) (off := 0) (ad := ⟨gc, 0, none⟩) rfl u rfl) ?_ hw19; intro K hK; go_big_quiet_op; go_big_quiet_on)
      (refine wpG_val (v := .pointer (some ⟨gc, 32, none⟩)) rfl rfl (fun u hu => fieldIn_op (k := 1) (off := 32) (ad := ⟨gc, 0, none⟩) rfl u rfl) ?_ hw19; intro K hK; go_big_quiet_op; go_big_quiet_on)
      (refine wpG_val (v := .int .i64 x.i) rfl rfl (fun u hu => load_any_op u (box_co_i hu (List.Mem.head _) HX.out) rfl) ?_ hw19; intro K hK; go_big_quiet_op; go_big_quiet_on)
      (refine wpG_val (v := .bool false) rfl rfl (fun u hu => ltZ_op u B0.out rfl rfl) ?_ hw19; intro K hK; go_big_quiet_op; go_big_quiet_on)
      (refine wpG_op rfl rfl rfl ?_; intro K hK; go_big_quiet_op; go_big_quiet_on)
      (refine wpG_val (v := .pointer (some ⟨gc, 0, none⟩)) rfl rfl (fun u hu => fieldCo_op (k := 0) (off := 0) (ad := ⟨gc, 0, none⟩) rfl u rfl) ?_ hw19; intro K hK; go_big_quiet_op; go_big_quiet_on)
      (refine wpG_val (v := .pointer (some ⟨gc, 32, none⟩)) rfl rfl (fun u hu => fieldIn_op (k := 1) (off := 32) (ad := ⟨gc, 0, none⟩) rfl u rfl) ?_ hw19; intro K hK; go_big_quiet_op; go_big_quiet_on)
      (refine wpG_val (v := .int .i64 x.i) rfl rfl (fun u hu => load_any_op u (box_co_i hu (List.Mem.head _) HX.out) rfl) ?_ hw19; intro K hK; go_big_quiet_op; go_big_quiet_on)
      (refine wpG_val (v := .bool false) rfl rfl (fun u hu => geZ_op u B1.out rfl rfl) ?_ hw19; intro K hK; go_big_quiet_op; go_big_quiet_on)
      iterate 2 (refine wpG_op rfl rfl rfl ?_; intro K hK; go_big_quiet_op; go_big_quiet_on)
      (refine wpG_val (v := .pointer (some ⟨gc, 33, none⟩)) rfl rfl (fun u hu => fieldCo_op (k := 1) (off := 33) (ad := ⟨gc, 0, none⟩) rfl u rfl) ?_ hw19; intro K hK; go_big_quiet_op; go_big_quiet_on)
      (refine wpG_val (v := .pointer (some ⟨gc, 33, none⟩)) rfl rfl (fun u hu => fieldOut_op (k := 0) (off := 0) (ad := ⟨gc, 33, none⟩) rfl u rfl) ?_ hw19; intro K hK; go_big_quiet_op; go_big_quiet_on)
      (refine wpG_val (v := .int .i64 x.v) rfl rfl (fun u hu => load_any_op u (box_co_v hu (List.Mem.head _) HX.out) rfl) ?_ hw19; intro K hK; go_big_quiet_op; go_big_quiet_on)
      (refine wpG_val (v := .bool false) rfl rfl (fun u hu => ltZ_op u B2.out rfl rfl) ?_ hw19; intro K hK; go_big_quiet_op; go_big_quiet_on)
      iterate 2 (refine wpG_op rfl rfl rfl ?_; intro K hK; go_big_quiet_op; go_big_quiet_on)
      (refine wpG_val (v := .pointer (some ⟨gc, 33, none⟩)) rfl rfl (fun u hu => fieldCo_op (k := 1) (off := 33) (ad := ⟨gc, 0, none⟩) rfl u rfl) ?_ hw19; intro K hK; go_big_quiet_op; go_big_quiet_on)
      (refine wpG_val (v := .pointer (some ⟨gc, 33, none⟩)) rfl rfl (fun u hu => fieldOut_op (k := 0) (off := 0) (ad := ⟨gc, 33, none⟩) rfl u rfl) ?_ hw19; intro K hK; go_big_quiet_op; go_big_quiet_on)
      (refine wpG_val (v := .int .i64 x.v) rfl rfl (fun u hu => load_any_op u (box_co_v hu (List.Mem.head _) HX.out) rfl) ?_ hw19; intro K hK; go_big_quiet_op; go_big_quiet_on)
      (refine wpG_val (v := .bool false) rfl rfl (fun u hu => gtZ_op u B3.out rfl rfl) ?_ hw19; intro K hK; go_big_quiet_op; go_big_quiet_on)
      iterate 2 (refine wpG_op rfl rfl rfl ?_; intro K hK; go_big_quiet_op; go_big_quiet_on)
      (refine wpG_val (v := .pointer (some ⟨gc, 33, none⟩)) rfl rfl (fun u hu => fieldCo_op (k := 1) (off := 33) (ad := ⟨gc, 0, none⟩) rfl u rfl) ?_ hw19; intro K hK; go_big_quiet_op; go_big_quiet_on)
      (refine wpG_val (v := .pointer (some ⟨gc, 34, none⟩)) rfl rfl (fun u hu => fieldOut_op (k := 1) (off := 1) (ad := ⟨gc, 33, none⟩) rfl u rfl) ?_ hw19; intro K hK; go_big_quiet_op; go_big_quiet_on)
      (refine wpG_val (v := .int .i64 x.to) rfl rfl (fun u hu => load_any_op u (box_co_to hu (List.Mem.head _) HX.out) rfl) ?_ hw19; intro K hK; go_big_quiet_op; go_big_quiet_on)
      (refine wpG_val (v := .bool false) rfl rfl (fun u hu => ltZ_op u B4.out rfl rfl) ?_ hw19; intro K hK; go_big_quiet_op; go_big_quiet_on)
      iterate 2 (refine wpG_op rfl rfl rfl ?_; intro K hK; go_big_quiet_op; go_big_quiet_on)
      (refine wpG_val (v := .pointer (some ⟨gc, 33, none⟩)) rfl rfl (fun u hu => fieldCo_op (k := 1) (off := 33) (ad := ⟨gc, 0, none⟩) rfl u rfl) ?_ hw19; intro K hK; go_big_quiet_op; go_big_quiet_on)
      (refine wpG_val (v := .pointer (some ⟨gc, 34, none⟩)) rfl rfl (fun u hu => fieldOut_op (k := 1) (off := 1) (ad := ⟨gc, 33, none⟩) rfl u rfl) ?_ hw19; intro K hK; go_big_quiet_op; go_big_quiet_on)
      (refine wpG_val (v := .int .i64 x.to) rfl rfl (fun u hu => load_any_op u (box_co_to hu (List.Mem.head _) HX.out) rfl) ?_ hw19; intro K hK; go_big_quiet_op; go_big_quiet_on)
      (refine wpG_val (v := .bool false) rfl rfl (fun u hu => gtZ_op u B5.out rfl rfl) ?_ hw19; intro K hK; go_big_quiet_op; go_big_quiet_on)
      (refine wpG_op rfl rfl rfl ?_; intro K hK; go_big_quiet_op; go_big_quiet_on)
      clear hone hw19
      refine wpG_nil ?_
      intro u21 E2'
      have EX20 := Lib.hid E2'
      clear E2'
      by_cases h0 : i = 0
      · subst h0
        have C7 : Hid (decide (((0 : Nat) : Int) = 0) = true) := decide_eq_true rfl
        have H3 : Hid (∀ j, j < 0 + 1 → boundC (p.getD j noC0) = true) := fun j hj => by
          rcases Nat.lt_or_ge j 0 with h | h
          · exact H1.out j h
          · rw [show j = 0 by omega]; exact HBO.out
        have H4 : Hid (∀ j, j + 1 < 0 + 1 → beforeK (keyC (p.getD j noC0)) (keyC (p.getD (j + 1) noC0)) = true) := fun j hj => by omega
        go_upto_region 7 with (fail)
        refine wp_region_H (w0 := w) [(gc, Obj.cells (coA x) 50 (0, 0))] (by kernel_rfl) EX20.out ?_
        refine anyH_phase [0, 1, 2, 3, 4, 5, 6, 7, 8, 9, 10, 11] 0 rfl ⟨_, (EnvX.drew EX20.out)⟩ (by kernel_rfl) ?_
        have hw201 : EnvX w _ [(gc, Obj.cells (coA x) 50 (0, 0))] := (EnvX.drew EX20.out)
        have hone := @EnvC.one _ _ _ hw201
        (refine wpG_op rfl rfl rfl ?_; intro K hK; go_big_quiet_op; go_big_quiet_on)
        (refine wpG_val (v := .bool true) rfl rfl (fun u hu => eqlI_op u C7.out rfl rfl) ?_ hw201; intro K hK; go_big_quiet_op; go_big_quiet_on)
        (refine wpG_op rfl rfl rfl ?_; intro K hK; go_big_quiet_op; go_big_quiet_on)
        iterate 7 (refine wpG_skip rfl rfl ?_ hw201; intro K hK; go_big_quiet_op; go_big_quiet_on)
        iterate 2 (refine wpG_op rfl rfl rfl ?_; intro K hK; go_big_quiet_op; go_big_quiet_on)
        clear hone hw201
        refine wpG_nil ?_
        refine anyH_done (by kernel_rfl) ?_
        intro u203 E2'
        have EX202 := Lib.hid E2'
        clear E2'
        go_upto_region 8 with (fail)
        refine wp_region_Hx (w0 := w) [0, 1] [(gc, Obj.cells (coA x) 50 (0, 0))] rfl EX202.out ?_
        refine lexH_phase [0, 1] [] ?_
        have hw204 : EnvX w _ [(gc, Obj.cells (coA x) 50 (0, 0))] := EX202.out
        have hone := @EnvC.one _ _ _ hw204
        iterate 2 (refine wpG_op rfl rfl rfl ?_; intro K hK; go_big_quiet_op; go_big_quiet_on)
        clear hone hw204
        refine wpG_nil ?_
        intro u206 E2'
        have EX205 := Lib.hid E2'
        clear E2'
        have hii := HI.out
        have hn := HN63.out
        go_wp2
        go_roundw
        case rel => exact ⟨0 + 1, by omega, by go_num, H3.out, H4.out, EX205.out.sub (fun _ h => by cases h)⟩
        case measure => simp [intOf]; omega
      · obtain ⟨k, rfl⟩ : ∃ k, i = k + 1 := ⟨i - 1, by omega⟩
        have C7 : Hid (decide (((k + 1 : Nat) : Int) = 0) = false) := decide_eq_false (by omega)
        have HSB : Hid (IntKind.i64.wrap (((k + 1 : Nat) : Int) - 1) = (k : Int)) := by show _ = _; have h1 := HI.out; have h2 := HN63.out; rw [wrapS (by omega)]; omega
        have HK : Hid (k < n) := by show _ < _; have := HI.out; omega
        obtain ⟨ad2, e2, -, hld2⟩ := HAA.out.loads HPP.out (k := k) (by rw [HL.out]; exact HK.out)
        cases e2
        have HLY := Lib.hid hld2
        have HY : Hid (lenC (p.getD k noC0)) := (getP HPP.out (by rw [HL.out]; exact HK.out)).len
        obtain ⟨y, hy⟩ : ∃ y, p.getD k noC0 = y := ⟨_, rfl⟩
        have HYE := Lib.hid hy
        rw [hy] at HLY HY
        obtain ⟨bf, hbf⟩ : ∃ bf, beforeK (keyC y) (keyC x) = bf := ⟨_, rfl⟩
        have HBV := Lib.hid hbf
        have HBF : Hid (∀ u, Calls Tryd.prog 33 #[coV y, coV x] u fun e w' => e = .returned (.bool bf) ∧ Below u.heap.size u w') := fun u => by
          have h := rbefore_any y x u HY.out HX.out
          rwa [hbf] at h
        clear hld2 hy hbf h0
        cases bf with
        | false =>
          have HF : Hid (mayP p = false) := may_down HIL.out (by rw [HYE.out, HXE.out]; exact HBV.out)
          go_upto_region 7 with (fail)
          refine wp_region_H (w0 := w) [(gc, Obj.cells (coA x) 50 (0, 0))] (by kernel_rfl) EX20.out ?_
          refine anyH_phase [0, 1, 2, 3, 4, 5, 6, 7, 8, 9, 10, 11] 0 rfl ⟨_, (EnvX.drew EX20.out)⟩ (by kernel_rfl) ?_
          have hw241 : EnvX w _ [(gc, Obj.cells (coA x) 50 (0, 0))] := (EnvX.drew EX20.out)
          have hone := @EnvC.one _ _ _ hw241
          (refine wpG_op rfl rfl rfl ?_; intro K hK; go_big_quiet_op; go_big_quiet_on)
          (refine wpG_val (v := .bool false) rfl rfl (fun u hu => eqlI_op u C7.out rfl rfl) ?_ hw241; intro K hK; go_big_quiet_op; go_big_quiet_on)
          iterate 3 (refine wpG_op rfl rfl rfl ?_; intro K hK; go_big_quiet_op; go_big_quiet_on)
          (refine wpG_val (v := .int .i64 (k : Int)) rfl rfl (fun u hu => subZ_op u HSB.out rfl rfl) ?_ hw241; intro K hK; go_big_quiet_op; go_big_quiet_on)
          (refine wpG_val (v := .pointer (some (ad.add (k * 35)))) rfl rfl (fun u hu => idxSl_op (i := k) Tryd.underlying22 aggCo.size HK.out u rfl rfl) ?_ hw241; intro K hK; go_big_quiet_op; go_big_quiet_on)
          (refine wpG_val (v := coV y) rfl rfl (fun u hu => load_any_op u (HLY.out u (EnvX.sub hu (fun _ h => by cases h))).1 rfl) ?_ hw241; intro K hK; go_big_quiet_op; go_big_quiet_on)
          (refine wpG_val (v := coV x) rfl rfl (fun u hu => load_any_op u (box_co hu (List.Mem.head _) HX.out) rfl) ?_ hw241; intro K hK; go_big_quiet_op; go_big_quiet_on)
          (refine wpG_call (f := 33) (args := #[coV y, coV x]) (v := .bool false) rfl rfl rfl Tryd.func33 rfl rfl (fun u hu => HBF.out u) ?_ hw241; intro K hK; go_big_quiet_op; go_big_quiet_on)
          iterate 2 (refine wpG_op rfl rfl rfl ?_; intro K hK; go_big_quiet_op; go_big_quiet_on)
          clear hone hw241
          refine wpG_nil ?_
          refine anyH_done (by kernel_rfl) ?_
          intro u243 E2'
          have EX242 := Lib.hid E2'
          clear E2'
          go_upto_region 8 with (fail)
          refine wp_region_Hx (w0 := w) [0, 1] [(gc, Obj.cells (coA x) 50 (0, 0))] rfl EX242.out ?_
          refine lexH_phase [0, 1] [] ?_
          have hw244 : EnvX w _ [(gc, Obj.cells (coA x) 50 (0, 0))] := EX242.out
          have hone := @EnvC.one _ _ _ hw244
          iterate 2 (refine wpG_op rfl rfl rfl ?_; intro K hK; go_big_quiet_op; go_big_quiet_on)
          clear hone hw244
          refine wpG_nil ?_
          intro u246 E2'
          have EX245 := Lib.hid E2'
          clear E2'
          have HBE := Lib.hid (EnvX.bel EX245.out)
          go_wp2
          go_ret
          exact ⟨by rw [HF.out]; first | done | rfl, HBE.out⟩
        | true =>
          have H3 : Hid (∀ j, j < k + 1 + 1 → boundC (p.getD j noC0) = true) := fun j hj => by
            rcases Nat.lt_or_ge j (k + 1) with h | h
            · exact H1.out j h
            · rw [show j = k + 1 by omega]; exact HBO.out
          have H4 : Hid (∀ j, j + 1 < k + 1 + 1 → beforeK (keyC (p.getD j noC0)) (keyC (p.getD (j + 1) noC0)) = true) := fun j hj => by
            rcases Nat.lt_or_ge (j + 1) (k + 1) with h | h
            · exact H2.out j h
            · obtain rfl : j = k := by omega
              rw [HYE.out, HXE.out]
              exact HBV.out
          go_upto_region 7 with (fail)
          refine wp_region_H (w0 := w) [(gc, Obj.cells (coA x) 50 (0, 0))] (by kernel_rfl) EX20.out ?_
          refine anyH_phase [0, 1, 2, 3, 4, 5, 6, 7, 8, 9, 10, 11] 0 rfl ⟨_, (EnvX.drew EX20.out)⟩ (by kernel_rfl) ?_
          have hw281 : EnvX w _ [(gc, Obj.cells (coA x) 50 (0, 0))] := (EnvX.drew EX20.out)
          have hone := @EnvC.one _ _ _ hw281
          (refine wpG_op rfl rfl rfl ?_; intro K hK; go_big_quiet_op; go_big_quiet_on)
          (refine wpG_val (v := .bool false) rfl rfl (fun u hu => eqlI_op u C7.out rfl rfl) ?_ hw281; intro K hK; go_big_quiet_op; go_big_quiet_on)
          iterate 3 (refine wpG_op rfl rfl rfl ?_; intro K hK; go_big_quiet_op; go_big_quiet_on)
          (refine wpG_val (v := .int .i64 (k : Int)) rfl rfl (fun u hu => subZ_op u HSB.out rfl rfl) ?_ hw281; intro K hK; go_big_quiet_op; go_big_quiet_on)
          (refine wpG_val (v := .pointer (some (ad.add (k * 35)))) rfl rfl (fun u hu => idxSl_op (i := k) Tryd.underlying22 aggCo.size HK.out u rfl rfl) ?_ hw281; intro K hK; go_big_quiet_op; go_big_quiet_on)
          (refine wpG_val (v := coV y) rfl rfl (fun u hu => load_any_op u (HLY.out u (EnvX.sub hu (fun _ h => by cases h))).1 rfl) ?_ hw281; intro K hK; go_big_quiet_op; go_big_quiet_on)
          (refine wpG_val (v := coV x) rfl rfl (fun u hu => load_any_op u (box_co hu (List.Mem.head _) HX.out) rfl) ?_ hw281; intro K hK; go_big_quiet_op; go_big_quiet_on)
          (refine wpG_call (f := 33) (args := #[coV y, coV x]) (v := .bool true) rfl rfl rfl Tryd.func33 rfl rfl (fun u hu => HBF.out u) ?_ hw281; intro K hK; go_big_quiet_op; go_big_quiet_on)
          iterate 2 (refine wpG_op rfl rfl rfl ?_; intro K hK; go_big_quiet_op; go_big_quiet_on)
          clear hone hw281
          refine wpG_nil ?_
          refine anyH_done (by kernel_rfl) ?_
          intro u283 E2'
          have EX282 := Lib.hid E2'
          clear E2'
          go_upto_region 8 with (fail)
          refine wp_region_Hx (w0 := w) [0, 1] [(gc, Obj.cells (coA x) 50 (0, 0))] rfl EX282.out ?_
          refine lexH_phase [0, 1] [] ?_
          have hw284 : EnvX w _ [(gc, Obj.cells (coA x) 50 (0, 0))] := EX282.out
          have hone := @EnvC.one _ _ _ hw284
          iterate 2 (refine wpG_op rfl rfl rfl ?_; intro K hK; go_big_quiet_op; go_big_quiet_on)
          clear hone hw284
          refine wpG_nil ?_
          intro u286 E2'
          have EX285 := Lib.hid E2'
          clear E2'
          have hii := HI.out
          have hn := HN63.out
          go_wp2
          go_roundw
          case rel => exact ⟨k + 1 + 1, by omega, by go_num, H3.out, H4.out, EX285.out.sub (fun _ h => by cases h)⟩
          case measure => simp [intOf]; omega
    · obtain rfl : i = n := by omega
      have C2 : Hid (decide ((i : Int) < (i : Int)) = false) := decide_eq_false (by omega)
      obtain ⟨b48, hb48⟩ : ∃ b48, decide (i ≤ 48) = b48 := ⟨_, rfl⟩
      have C10 : Hid (decide ((i : Int) ≤ 48) = b48) := by show _ = _; rw [← hb48]; exact decide_eq_decide.2 ⟨fun h => by omega, fun h => by omega⟩
      have HF : Hid (mayP p = b48) := by show _ = _; rw [may_restP HPP.out.id (by rw [HL.out]; exact H1.out) (by rw [HL.out]; exact H2.out), HL.out]; exact hb48
      clear hb48
      go_upto_region 2 with (fail)
      refine wp_region_Hx (w0 := w) [0, 1, 2, 3] [] rfl EK.out ?_
      refine lexH_phase [0, 1, 2, 3] [] ?_
      have hw401 : EnvX w _ [] := EK.out
      have hone := @EnvC.one _ _ _ hw401
      iterate 2 (refine wpG_op rfl rfl rfl ?_; intro K hK; go_big_quiet_op; go_big_quiet_on)
      (refine wpG_val (v := .int .i64 (i : Int)) rfl rfl (fun u hu => len_op Tryd.underlying22 HN63.out u rfl) ?_ hw401; intro K hK; go_big_quiet_op; go_big_quiet_on)
      (refine wpG_val (v := .bool false) rfl rfl (fun u hu => ltZ_op u C2.out rfl rfl) ?_ hw401; intro K hK; go_big_quiet_op; go_big_quiet_on)
      clear hone hw401
      refine wpG_nil ?_
      intro u403 E2'
      have EX402 := Lib.hid E2'
      clear E2'
      go_upto_region 10 with (fail)
      refine wp_region_Hx (w0 := w) [0, 1, 2, 3] [] rfl EX402.out ?_
      refine lexH_phase [0, 1, 2, 3] [] ?_
      have hw404 : EnvX w _ [] := EX402.out
      have hone := @EnvC.one _ _ _ hw404
      (refine wpG_op rfl rfl rfl ?_; intro K hK; go_big_quiet_op; go_big_quiet_on)
      (refine wpG_val (v := .int .i64 (i : Int)) rfl rfl (fun u hu => len_op Tryd.underlying22 HN63.out u rfl) ?_ hw404; intro K hK; go_big_quiet_op; go_big_quiet_on)
      (refine wpG_val (v := .bool b48) rfl rfl (fun u hu => leZ_op u C10.out rfl rfl) ?_ hw404; intro K hK; go_big_quiet_op; go_big_quiet_on)
      (refine wpG_op rfl rfl rfl ?_; intro K hK; go_big_quiet_op; go_big_quiet_on)
      clear hone hw404
      refine wpG_nil ?_
      intro u406 E2'
      have EX405 := Lib.hid E2'
      clear E2'
      have HBE := Lib.hid (EnvX.bel EX405.out)
      go_wp2
      go_ret
      exact ⟨by rw [HF.out]; first | done | rfl, HBE.out⟩
/-- a step: what is laid, and whether the coin is -/
def wStep (c : CoinR) (s : List CoinR × Bool) (d : CoinR) : List CoinR × Bool := if beforeK (keyC c) (keyC d) && !s.2 then (s.1 ++ [c] ++ [d], true) else (s.1 ++ [d], s.2)
def wState (p : List CoinR) (c : CoinR) : List CoinR × Bool := p.foldl (wStep c) ([], false)
theorem wFold_true (c : CoinR) : ∀ (p acc : List CoinR), p.foldl (wStep c) (acc, true) = (acc ++ p, true)
  | [], acc => by simp
  | d :: p, acc => by
    rw [List.foldl_cons]
    have : wStep c (acc, true) d = (acc ++ [d], true) := by unfold wStep; simp
    rw [this, wFold_true c p]
    simp
theorem wFold_end (c : CoinR) : ∀ (p acc : List CoinR), (if (p.foldl (wStep c) (acc, false)).2 then (p.foldl (wStep c) (acc, false)).1 else (p.foldl (wStep c) (acc, false)).1 ++ [c]) = acc ++ withP p c
  | [], acc => by simp [withP]
  | d :: p, acc => by
    rw [List.foldl_cons]
    unfold withP
    cases hb : beforeK (keyC c) (keyC d) with
    | true =>
      have : wStep c (acc, false) d = (acc ++ [c] ++ [d], true) := by unfold wStep; rw [hb]; simp
      rw [this, wFold_true]
      simp
    | false =>
      have : wStep c (acc, false) d = (acc ++ [d], false) := by unfold wStep; rw [hb]; simp
      rw [this, wFold_end c p]
      simp
theorem wState_end (p : List CoinR) (c : CoinR) : (if (wState p c).2 then (wState p c).1 else (wState p c).1 ++ [c]) = withP p c := by
  have := wFold_end c p []
  rw [List.nil_append] at this
  exact this
theorem wState_step {p : List CoinR} {c : CoinR} {i : Nat} (d : CoinR) (hi : i < p.length) : wState (p.take (i + 1)) c = wStep c (wState (p.take i) c) (p.getD i d) := by
  unfold wState
  rw [take_snocC d hi, List.foldl_append]
  rfl
theorem wState_len (c : CoinR) : ∀ (p : List CoinR) (s : List CoinR × Bool), (p.foldl (wStep c) s).1.length ≤ s.1.length + p.length + (if s.2 then 0 else 1)
  | [], s => by simp
  | d :: p, s => by
    rw [List.foldl_cons]
    have h := wState_len c p (wStep c s d)
    have h2 : (wStep c s d).1.length + (if (wStep c s d).2 then 0 else 1) ≤ s.1.length + 1 + (if s.2 then 0 else 1) := by
      unfold wStep
      split
      · rename_i hc
        simp only [Bool.and_eq_true, Bool.not_eq_true'] at hc
        simp [hc.2]
      · simp
    rw [List.length_cons]
    omega
theorem wState_le (p : List CoinR) (c : CoinR) : (wState p c).1.length ≤ p.length + 1 := by
  have := wState_len c p ([], false)
  simp at this
  unfold wState
  omega
theorem wFold_mem (c : CoinR) : ∀ (p : List CoinR) (s : List CoinR × Bool) (d : CoinR), d ∈ (p.foldl (wStep c) s).1 → d ∈ s.1 ∨ d ∈ p ∨ d = c
  | [], s, d, h => .inl h
  | x :: p, s, d, h => by
    rw [List.foldl_cons] at h
    rcases wFold_mem c p _ d h with h | h | h
    · unfold wStep at h
      split at h
      · simp only [List.append_assoc, List.mem_append, List.mem_singleton] at h
        rcases h with h | h | h
        · exact .inl h
        · exact .inr (.inr h)
        · exact .inr (.inl (by rw [h]; exact List.mem_cons_self ..))
      · simp only [List.mem_append, List.mem_singleton] at h
        rcases h with h | h
        · exact .inl h
        · exact .inr (.inl (by rw [h]; exact List.mem_cons_self ..))
    · exact .inr (.inl (List.mem_cons_of_mem _ h))
    · exact .inr (.inr h)
theorem wState_ok {p : List CoinR} {c : CoinR} (hp : okP p) (hc : okCoin c) : okP (wState p c).1 := fun d hd => by
  rcases wFold_mem c p _ d hd with h | h | h
  · cases h
  · exact hp d h
  · rw [h]; exact hc
theorem withP_ok {p : List CoinR} {c : CoinR} (hp : okP p) (hc : okCoin c) : okP (withP p c) := fun d hd => by
  rcases List.mem_cons.1 ((withP_perm p c).mem_iff.1 hd) with h | h
  · rw [h]; exact hc
  · exact hp d h
theorem made_step {p : List CoinR} {id : List Int} {os : List OutR} {i : Nat} (d : OutR) (hi : i < os.length) : madeP p (newC id 0 (os.take (i + 1))) = withP (madeP p (newC id 0 (os.take i))) ⟨id, i, (os.getD i d).v, (os.getD i d).to⟩ := by
  rw [take_snocC d hi, newC_snoc]
  unfold madeP
  rw [List.foldl_append]
  simp only [List.foldl_cons, List.foldl_nil]
  congr 2
  rw [List.length_take, Nat.min_eq_left (by omega)]
  simp
/-- of the first ones, those that are spent -/
def skipX (l : List TxR) (i : Nat) : List TxR := if loneX l then (l.take i).tail else l.take i
theorem skipX_all (l : List TxR) : skipX l l.length = if loneX l then l.tail else l := by unfold skipX; rw [List.take_length]
theorem skipX_zero (l : List TxR) : skipX l 0 = [] := by unfold skipX; simp
theorem skipX_lone {l : List TxR} (h : loneX l = true) : skipX l 1 = [] := by
  unfold skipX
  rw [if_pos h]
  cases l <;> rfl
theorem skipX_step {l : List TxR} {i : Nat} (d : TxR) (hi : i < l.length) (h : ¬ (i = 0 ∧ loneX l = true)) : skipX l (i + 1) = skipX l i ++ [l.getD i d] := by
  unfold skipX
  rw [take_snocC d hi]
  split
  · rename_i hl
    cases i with
    | zero => exact absurd ⟨rfl, hl⟩ h
    | succ i =>
      cases l with
      | nil => cases hi
      | cons x l => rfl
  · rfl
theorem skipX_rest {l : List TxR} {i : Nat} (hi : i < l.length) (h : ¬ (i = 0 ∧ loneX l = true)) (d : TxR) : ∃ ys, (if loneX l then l.tail else l) = skipX l i ++ [l.getD i d] ++ ys := by
  rw [← skipX_step d hi h, ← skipX_all]
  unfold skipX
  split
  · cases l with
    | nil => cases hi
    | cons x l =>
      refine ⟨l.drop i, ?_⟩
      simp
  · exact ⟨l.drop (i + 1), by simp⟩
theorem run_stepR {p : List CoinR} {l : List TxR} {i : Nat} (d : TxR) (hi : i < l.length) (hn : ¬ (i = 0 ∧ loneX l = true)) {q : List CoinR} {n : Int} (h : runP p 0 (skipX l i) = .ok (q, n)) {q2 : List CoinR} {m : Int} (hs : spendP q (l.getD i d) = (q2, m, 0)) : runP p 0 (skipX l (i + 1)) = .ok (q2, n + m) := by
  rw [skipX_step d hi hn, runP_app, h]
  simp only
  unfold runP
  rw [hs]
  rfl
theorem run_stopR {p : List CoinR} {l : List TxR} {i : Nat} (d : TxR) (hi : i < l.length) (hn : ¬ (i = 0 ∧ loneX l = true)) {q : List CoinR} {n : Int} (h : runP p 0 (skipX l i) = .ok (q, n)) {q2 : List CoinR} {m : Int} {e : Nat} (hs : spendP q (l.getD i d) = (q2, m, e + 1)) : runP p 0 (if loneX l then l.tail else l) = .error (e + 1) := by
  obtain ⟨ys, hy⟩ := skipX_rest hi hn d
  rw [hy, List.append_assoc, runP_app, h]
  simp only
  show runP q n (l.getD i d :: ys) = _
  unfold runP
  rw [hs]
end Go.Proofs.YtabhhbdbkeeblaaDoor
