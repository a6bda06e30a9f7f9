/- Part of a proof. -/
import Derived.Test.YtabhhbdbkeeblaaDoorZg
namespace Go.Proofs.YtabhhbdbkeeblaaDoor
set_option maxRecDepth 8000
open Go.RowKit
set_option maxRecDepth 20000 in
set_option maxHeartbeats 8000000 in
theorem pahead_any (a b : InR) (w : World) (ha : lenI a) (hb : lenI b) :
    Calls Tryd.prog 50 #[inV a, inV b] w fun e w' => e = .returned (.bool (beforeK a b)) ∧ Below w.heap.size w w' := by
  have HA := Lib.hid ha
  have HB := Lib.hid hb
  have HLS : Hid (∀ u, Calls Tryd.prog 63 #[idv a.tx, idv b.tx] u fun e w' => e = .returned (.bool (lessL a.tx b.tx)) ∧ Below u.heap.size u w') := fun u => less_any a.tx b.tx u ha hb
  have E1 : Hid (EnvX w ((w.alloc (.cells (inA a) 42)).alloc (.cells (inA b) 42)) [(w.heap.size + 1, Obj.cells (inA b) 42 (0, 0)), (w.heap.size, Obj.cells (inA a) 42 (0, 0))]) := (EnvX.start w).two _ _
  obtain ⟨b2, h2⟩ : ∃ b2, eqL a.tx b.tx = b2 := ⟨_, rfl⟩
  have HE := Lib.hid h2
  have hirr : eqL a.tx b.tx = true → lessL a.tx b.tx = false := fun h => by rw [of_decide_eq_true h]; exact less_irr hb
  have HF1 : Hid (b2 = true → beforeK a b = decide (a.i < b.i)) := fun h => by
    rw [← h2] at h
    unfold beforeK
    rw [hirr h, show decide (a.tx = b.tx) = true from h]
    simp
  have HF2 : Hid (b2 = false → beforeK a b = lessL a.tx b.tx) := fun h => by
    rw [← h2] at h
    unfold beforeK
    rw [show decide (a.tx = b.tx) = false from h]
    simp
  clear ha hb h2 hirr
  unfold inV
  cases b2 with
  | true =>
    obtain ⟨b3, h3⟩ : ∃ b3, decide (a.i < b.i) = b3 := ⟨_, rfl⟩
    have HI := Lib.hid h3
    have HF : Hid (beforeK a b = b3) := by show _ = _; rw [HF1.out rfl, h3]
    clear h3
    go_enter Tryd.func50, Tryd.ntmps50
    go_upto_region 1 with (fail)
    generalize (w.alloc (.cells (inA a) 42)).alloc (.cells (inA b) 42) = W at *
    refine wp_region_Hx (w0 := w) [0, 1, 2, 3, 4] [(w.heap.size + 1, Obj.cells (inA b) 42 (0, 0)), (w.heap.size, Obj.cells (inA a) 42 (0, 0))] rfl E1.out ?_
    refine lexH_phase [0, 1, 2, 3, 4] [] ?_
    have hw1 : EnvX w _ [(w.heap.size + 1, Obj.cells (inA b) 42 (0, 0)), (w.heap.size, Obj.cells (inA a) 42 (0, 0))] := E1.out
    have hone := @EnvC.one _ _ _ hw1
    (refine wpG_val (v := .pointer (some ⟨w.heap.size, 0, none⟩)) rfl rfl (fun u hu => fieldIn_op (k := 0) (off := 0) (ad := ⟨w.heap.size, 0, none⟩) rfl u rfl) ?_ hw1; intro K hK; go_big_quiet_op; go_big_quiet_on)
    (refine wpG_val (v := idv a.tx) rfl rfl (fun u hu => load_any_op u (box_in_tx hu (List.Mem.tail _ (List.Mem.head _)) HA.out) rfl) ?_ hw1; intro K hK; go_big_quiet_op; go_big_quiet_on)
    (refine wpG_val (v := .pointer (some ⟨w.heap.size + 1, 0, none⟩)) rfl rfl (fun u hu => fieldIn_op (k := 0) (off := 0) (ad := ⟨w.heap.size + 1, 0, none⟩) rfl u rfl) ?_ hw1; intro K hK; go_big_quiet_op; go_big_quiet_on)
    (refine wpG_val (v := idv b.tx) rfl rfl (fun u hu => load_any_op u (box_in_tx hu (List.Mem.head _) HB.out) rfl) ?_ hw1; intro K hK; go_big_quiet_op; go_big_quiet_on)
    (refine wpG_val (v := .bool true) rfl rfl (fun u hu => eqlb_op HA.out HB.out HE.out u rfl rfl) ?_ hw1; intro K hK; go_big_quiet_op; go_big_quiet_on)
    clear hone hw1
    refine wpG_nil ?_
    intro u3 E2'
    have EX2 := Lib.hid E2'
    clear E2'
    go_upto_region 2 with (fail)
    refine wp_region_Hx (w0 := w) [0, 1, 2, 3, 4, 5] [(w.heap.size + 1, Obj.cells (inA b) 42 (0, 0)), (w.heap.size, Obj.cells (inA a) 42 (0, 0))] rfl EX2.out ?_
    refine lexH_phase [0, 1, 2, 3, 4, 5] [] ?_
    have hw4 : EnvX w _ [(w.heap.size + 1, Obj.cells (inA b) 42 (0, 0)), (w.heap.size, Obj.cells (inA a) 42 (0, 0))] := EX2.out
    have hone := @EnvC.one _ _ _ hw4
    (refine wpG_val (v := .pointer (some ⟨w.heap.size, 32, none⟩)) rfl rfl (fun u hu => fieldIn_op (k := 1) (off := 32) (ad := ⟨w.heap.size, 0, none⟩) rfl u rfl) ?_ hw4; intro K hK; go_big_quiet_op; go_big_quiet_on)
    (refine wpG_val (v := .int .i64 a.i) rfl rfl (fun u hu => load_any_op u (box_in_i hu (List.Mem.tail _ (List.Mem.head _)) HA.out) rfl) ?_ hw4; intro K hK; go_big_quiet_op; go_big_quiet_on)
    (refine wpG_val (v := .pointer (some ⟨w.heap.size + 1, 32, none⟩)) rfl rfl (fun u hu => fieldIn_op (k := 1) (off := 32) (ad := ⟨w.heap.size + 1, 0, none⟩) rfl u rfl) ?_ hw4; intro K hK; go_big_quiet_op; go_big_quiet_on)
    (refine wpG_val (v := .int .i64 b.i) rfl rfl (fun u hu => load_any_op u (box_in_i hu (List.Mem.head _) HB.out) rfl) ?_ hw4; intro K hK; go_big_quiet_op; go_big_quiet_on)
    (refine wpG_val (v := .bool b3) rfl rfl (fun u hu => ltZ_op u HI.out rfl rfl) ?_ hw4; intro K hK; go_big_quiet_op; go_big_quiet_on)
    (refine wpG_op rfl rfl rfl ?_; intro K hK; go_big_quiet_op; go_big_quiet_on)
    clear hone hw4
    refine wpG_nil ?_
    intro u6 E2'
    have EX5 := Lib.hid E2'
    clear E2'
    have HBE := Lib.hid (EnvX.bel EX5.out)
    go_wp2
    go_ret
    exact ⟨by rw [HF.out]; first | done | rfl, HBE.out⟩
  | false =>
    have HF : Hid (beforeK a b = lessL a.tx b.tx) := HF2.out rfl
    generalize lessL a.tx b.tx = b3 at *
    go_enter Tryd.func50, Tryd.ntmps50
    go_upto_region 1 with (fail)
    generalize (w.alloc (.cells (inA a) 42)).alloc (.cells (inA b) 42) = W at *
    refine wp_region_Hx (w0 := w) [0, 1, 2, 3, 4] [(w.heap.size + 1, Obj.cells (inA b) 42 (0, 0)), (w.heap.size, Obj.cells (inA a) 42 (0, 0))] rfl E1.out ?_
    refine lexH_phase [0, 1, 2, 3, 4] [] ?_
    have hw1 : EnvX w _ [(w.heap.size + 1, Obj.cells (inA b) 42 (0, 0)), (w.heap.size, Obj.cells (inA a) 42 (0, 0))] := E1.out
    have hone := @EnvC.one _ _ _ hw1
    (refine wpG_val (v := .pointer (some ⟨w.heap.size, 0, none⟩)) rfl rfl (fun u hu => fieldIn_op (k := 0) (off := 0) (ad := ⟨w.heap.size, 0, none⟩) rfl u rfl) ?_ hw1; intro K hK; go_big_quiet_op; go_big_quiet_on)
    (refine wpG_val (v := idv a.tx) rfl rfl (fun u hu => load_any_op u (box_in_tx hu (List.Mem.tail _ (List.Mem.head _)) HA.out) rfl) ?_ hw1; intro K hK; go_big_quiet_op; go_big_quiet_on)
    (refine wpG_val (v := .pointer (some ⟨w.heap.size + 1, 0, none⟩)) rfl rfl (fun u hu => fieldIn_op (k := 0) (off := 0) (ad := ⟨w.heap.size + 1, 0, none⟩) rfl u rfl) ?_ hw1; intro K hK; go_big_quiet_op; go_big_quiet_on)
    (refine wpG_val (v := idv b.tx) rfl rfl (fun u hu => load_any_op u (box_in_tx hu (List.Mem.head _) HB.out) rfl) ?_ hw1; intro K hK; go_big_quiet_op; go_big_quiet_on)
    (refine wpG_val (v := .bool false) rfl rfl (fun u hu => eqlb_op HA.out HB.out HE.out u rfl rfl) ?_ hw1; intro K hK; go_big_quiet_op; go_big_quiet_on)
    clear hone hw1
    refine wpG_nil ?_
    intro u3 E2'
    have EX2 := Lib.hid E2'
    clear E2'
    go_upto_region 3 with (fail)
    refine wp_region_Hx (w0 := w) [0, 1, 2, 3, 4, 5] [(w.heap.size + 1, Obj.cells (inA b) 42 (0, 0)), (w.heap.size, Obj.cells (inA a) 42 (0, 0))] rfl EX2.out ?_
    refine lexH_phase [0, 1, 2, 3, 4, 5] [] ?_
    have hw4 : EnvX w _ [(w.heap.size + 1, Obj.cells (inA b) 42 (0, 0)), (w.heap.size, Obj.cells (inA a) 42 (0, 0))] := EX2.out
    have hone := @EnvC.one _ _ _ hw4
    (refine wpG_val (v := .pointer (some ⟨w.heap.size, 0, none⟩)) rfl rfl (fun u hu => fieldIn_op (k := 0) (off := 0) (ad := ⟨w.heap.size, 0, none⟩) rfl u rfl) ?_ hw4; intro K hK; go_big_quiet_op; go_big_quiet_on)
    (refine wpG_val (v := idv a.tx) rfl rfl (fun u hu => load_any_op u (box_in_tx hu (List.Mem.tail _ (List.Mem.head _)) HA.out) rfl) ?_ hw4; intro K hK; go_big_quiet_op; go_big_quiet_on)
    (refine wpG_val (v := .pointer (some ⟨w.heap.size + 1, 0, none⟩)) rfl rfl (fun u hu => fieldIn_op (k := 0) (off := 0) (ad := ⟨w.heap.size + 1, 0, none⟩) rfl u rfl) ?_ hw4; intro K hK; go_big_quiet_op; go_big_quiet_on)
    (refine wpG_val (v := idv b.tx) rfl rfl (fun u hu => load_any_op u (box_in_tx hu (List.Mem.head _) HB.out) rfl) ?_ hw4; intro K hK; go_big_quiet_op; go_big_quiet_on)
    (refine wpG_call (f := 63) (args := #[idv a.tx, idv b.tx]) (v := .bool b3) rfl rfl rfl Tryd.func63 rfl rfl (fun u hu => HLS.out u) ?_ hw4; intro K hK; go_big_quiet_op; go_big_quiet_on)
    (refine wpG_op rfl rfl rfl ?_; intro K hK; go_big_quiet_op; go_big_quiet_on)
    clear hone hw4
    refine wpG_nil ?_
    intro u6 E2'
    have EX5 := Lib.hid E2'
    clear E2'
    have HBE := Lib.hid (EnvX.bel EX5.out)
    go_wp2
    go_ret
    exact ⟨by rw [HF.out]; first | done | rfl, HBE.out⟩
set_option maxRecDepth 20000 in
set_option maxHeartbeats 8000000 in
theorem pinOrder_any (p : List CoinR) (A : Option Addr) (n c : Nat) (w : World) (hl : p.length = n) (hnc : n ≤ c) (hcm : c ≤ maxLen) (hI : okP p) (hA : CoinsIn w w.heap.size A p) :
    Calls Tryd.prog 34 #[.slice A n c] w fun e w' => e = .returned (.bool (decide (upP p))) ∧ Below w.heap.size w w' := by
  have HL := Lib.hid hl
  have HPP := Lib.hid hI
  have HAA := Lib.hid hA
  have HN63 : Hid (n < 9223372036854775808) := by show _ < _; unfold maxLen at hcm; omega
  have E1 : Hid (EnvX w w []) := EnvX.start w
  clear hl hnc hcm hI hA
  go_enter Tryd.func34, Tryd.ntmps34
  go_upto_region 2 with (fail)
  go_loopw [3] (fun iv u => ∃ i : Nat, 1 ≤ i ∧ (i ≤ n ∨ i = 1) ∧ iv = .int .i64 (i : Int) ∧ Hid ((∀ j, j + 1 < i → beforeK (keyC (p.getD j noC0)) (keyC (p.getD (j + 1) noC0)) = true) ∧ EnvX w u [])) (fun iv _ => n - (intOf iv).toNat)
  case atStart => exact ⟨1, by omega, .inr rfl, rfl, (fun j hj => by omega), E1.out⟩
  case round =>
    obtain ⟨i, hi1, hi, rfl, hinv⟩ := hrel
    have H1 := Lib.hid hinv.out.1
    have EK := Lib.hid hinv.out.2
    clear hinv E1
    by_cases hlt : i < n
    · obtain ⟨k, rfl⟩ : ∃ k, i = k + 1 := ⟨i - 1, by omega⟩
      have C2 : Hid (decide (((k + 1 : Nat) : Int) < (n : Int)) = true) := decide_eq_true (by omega)
      have HI : Hid (k + 1 < n) := hlt
      have HK : Hid (k < n) := by show _ < _; omega
      have hil : k + 1 < p.length := by rw [HL.out]; exact hlt
      have HIL := Lib.hid hil
      obtain ⟨ad, rfl, -, hld⟩ := HAA.out.loads HPP.out hil
      have HLD := Lib.hid hld
      obtain ⟨ad2, e2, -, hld2⟩ := HAA.out.loads HPP.out (show k < p.length by omega)
      cases e2
      have HLK := Lib.hid hld2
      have HX : Hid (lenC (p.getD (k + 1) noC0)) := (getP HPP.out hil).len
      have HY : Hid (lenC (p.getD k noC0)) := (getP HPP.out (show k < p.length by omega)).len
      have HSB : Hid (IntKind.i64.wrap (((k + 1 : Nat) : Int) - 1) = (k : Int)) := by show _ = _; have h2 := HN63.out; rw [wrapS (by omega)]; omega
      obtain ⟨b, hb⟩ : ∃ b, beforeK (keyC (p.getD k noC0)) (keyC (p.getD (k + 1) noC0)) = b := ⟨_, rfl⟩
      have HBV := Lib.hid hb
      have HBF : Hid (∀ u, Calls Tryd.prog 50 #[inV (keyC (p.getD k noC0)), inV (keyC (p.getD (k + 1) noC0))] u fun e w' => e = .returned (.bool b) ∧ Below u.heap.size u w') := fun u => by
        have h := pahead_any (keyC (p.getD k noC0)) (keyC (p.getD (k + 1) noC0)) u HY.out HX.out
        rwa [hb] at h
      clear hld hld2 hb hil hlt hi hi1
      generalize hx : p.getD (k + 1) noC0 = x at HLD HX HBF HBV
      generalize hy : p.getD k noC0 = y at HLK HY HBF HBV
      have HXE := Lib.hid hx
      have HYE := Lib.hid hy
      clear hx hy
      go_upto_region 2 with (fail)
      refine wp_region_Hx (w0 := w) [0, 1, 2, 3] [] rfl EK.out ?_
      refine lexH_phase [0, 1, 2, 3] [] ?_
      have hw11 : EnvX w _ [] := EK.out
      have hone := @EnvC.one _ _ _ hw11
      iterate 2 (refine wpG_op rfl rfl rfl ?_; intro K hK; go_big_quiet_op; go_big_quiet_on)
      (refine wpG_val (v := .int .i64 (n : Int)) rfl rfl (fun u hu => len_op Tryd.underlying22 HN63.out u rfl) ?_ hw11; intro K hK; go_big_quiet_op; go_big_quiet_on)
      (refine wpG_val (v := .bool true) rfl rfl (fun u hu => ltZ_op u C2.out rfl rfl) ?_ hw11; intro K hK; go_big_quiet_op; go_big_quiet_on)
      clear hone hw11
      refine wpG_nil ?_
      intro u13 E2'
      have EX12 := Lib.hid E2'
      clear E2'
      cases b with
      | false =>
        have HF : Hid (decide (upP p) = false) := decide_eq_false fun hu => by
          have h := up_getP hu (i := k) (j := k + 1) (by omega) HIL.out
          rw [HXE.out, HYE.out, HBV.out] at h
          cases h
        go_upto_region 4 with (fail)
        refine wp_region_H (w0 := w) [] (by kernel_rfl) EX12.out ?_
        refine anyH_phase [0, 1, 2, 3, 4, 5, 6, 7, 8, 9, 10, 11, 12] 0 rfl ⟨_, (EnvX.drew EX12.out)⟩ (by kernel_rfl) ?_
        have hw14 : EnvX w _ [] := (EnvX.drew EX12.out)
        have hone := @EnvC.one _ _ _ hw14
        iterate 2 (refine wpG_op rfl rfl rfl ?_; intro K hK; go_big_quiet_op; go_big_quiet_on)
        (refine wpG_val (v := .int .i64 (k : Int)) rfl rfl (fun u hu => subZ_op u HSB.out rfl rfl) ?_ hw14; intro K hK; go_big_quiet_op; go_big_quiet_on)
        (refine wpG_val (v := .pointer (some (ad.add (k * 35)))) rfl rfl (fun u hu => idxSl_op (i := k) Tryd.underlying22 aggCo.size HK.out u rfl rfl) ?_ hw14; intro K hK; go_big_quiet_op; go_big_quiet_on)
        (refine wpG_val (v := .pointer (some ((ad.add (k * 35)).add 0))) rfl rfl (fun u hu => fieldCo_op (k := 0) (off := 0) rfl u rfl) ?_ hw14; intro K hK; go_big_quiet_op; go_big_quiet_on)
        (refine wpG_val (v := inV (keyC y)) rfl rfl (fun u hu => load_any_op u (by have h := (HLK.out u (EnvX.sub hu (fun _ h => by cases h))).2.1; rwa [show ((ad.add (k * 35)).add 0) = ad.add (k * 35) by unfold Addr.add; rfl]) rfl) ?_ hw14; intro K hK; go_big_quiet_op; go_big_quiet_on)
        iterate 2 (refine wpG_op rfl rfl rfl ?_; intro K hK; go_big_quiet_op; go_big_quiet_on)
        (refine wpG_val (v := .pointer (some (ad.add ((k + 1) * 35)))) rfl rfl (fun u hu => idxSl_op (i := (k + 1)) Tryd.underlying22 aggCo.size HI.out u rfl rfl) ?_ hw14; intro K hK; go_big_quiet_op; go_big_quiet_on)
        (refine wpG_val (v := .pointer (some ((ad.add ((k + 1) * 35)).add 0))) rfl rfl (fun u hu => fieldCo_op (k := 0) (off := 0) rfl u rfl) ?_ hw14; intro K hK; go_big_quiet_op; go_big_quiet_on)
        (refine wpG_val (v := inV (keyC x)) rfl rfl (fun u hu => load_any_op u (by have h := (HLD.out u (EnvX.sub hu (fun _ h => by cases h))).2.1; rwa [show ((ad.add ((k + 1) * 35)).add 0) = ad.add ((k + 1) * 35) by unfold Addr.add; rfl]) rfl) ?_ hw14; intro K hK; go_big_quiet_op; go_big_quiet_on)
        (refine wpG_call (f := 50) (args := #[inV (keyC y), inV (keyC x)]) (v := .bool false) rfl rfl rfl Tryd.func50 rfl rfl (fun u hu => HBF.out u) ?_ hw14; intro K hK; go_big_quiet_op; go_big_quiet_on)
        (refine wpG_op rfl rfl rfl ?_; intro K hK; go_big_quiet_op; go_big_quiet_on)
        clear hone hw14
        refine wpG_nil ?_
        refine anyH_done (by kernel_rfl) ?_
        intro u16 E2'
        have EX15 := Lib.hid E2'
        clear E2'
        go_upto_region 5 with (fail)
        refine wp_region_Hx (w0 := w) [0] [] rfl EX15.out ?_
        refine lexH_phase [0] [] ?_
        have hw17 : EnvX w _ [] := EX15.out
        have hone := @EnvC.one _ _ _ hw17
        (refine wpG_op rfl rfl rfl ?_; intro K hK; go_big_quiet_op; go_big_quiet_on)
        clear hone hw17
        refine wpG_nil ?_
        intro u19 E2'
        have EX18 := Lib.hid E2'
        clear E2'
        have HBE := Lib.hid (EnvX.bel EX18.out)
        go_wp2
        go_ret
        exact ⟨by rw [HF.out]; first | done | rfl, HBE.out⟩
      | true =>
        have H3 : Hid (∀ j, j + 1 < k + 1 + 1 → beforeK (keyC (p.getD j noC0)) (keyC (p.getD (j + 1) noC0)) = true) := fun j hj => by
          rcases Nat.lt_or_ge (j + 1) (k + 1) with h | h
          · exact H1.out j h
          · obtain rfl : j = k := by omega
            rw [HYE.out, HXE.out]
            exact HBV.out
        go_upto_region 4 with (fail)
        refine wp_region_H (w0 := w) [] (by kernel_rfl) EX12.out ?_
        refine anyH_phase [0, 1, 2, 3, 4, 5, 6, 7, 8, 9, 10, 11, 12] 0 rfl ⟨_, (EnvX.drew EX12.out)⟩ (by kernel_rfl) ?_
        have hw14 : EnvX w _ [] := (EnvX.drew EX12.out)
        have hone := @EnvC.one _ _ _ hw14
        iterate 2 (refine wpG_op rfl rfl rfl ?_; intro K hK; go_big_quiet_op; go_big_quiet_on)
        (refine wpG_val (v := .int .i64 (k : Int)) rfl rfl (fun u hu => subZ_op u HSB.out rfl rfl) ?_ hw14; intro K hK; go_big_quiet_op; go_big_quiet_on)
        (refine wpG_val (v := .pointer (some (ad.add (k * 35)))) rfl rfl (fun u hu => idxSl_op (i := k) Tryd.underlying22 aggCo.size HK.out u rfl rfl) ?_ hw14; intro K hK; go_big_quiet_op; go_big_quiet_on)
        (refine wpG_val (v := .pointer (some ((ad.add (k * 35)).add 0))) rfl rfl (fun u hu => fieldCo_op (k := 0) (off := 0) rfl u rfl) ?_ hw14; intro K hK; go_big_quiet_op; go_big_quiet_on)
        (refine wpG_val (v := inV (keyC y)) rfl rfl (fun u hu => load_any_op u (by have h := (HLK.out u (EnvX.sub hu (fun _ h => by cases h))).2.1; rwa [show ((ad.add (k * 35)).add 0) = ad.add (k * 35) by unfold Addr.add; rfl]) rfl) ?_ hw14; intro K hK; go_big_quiet_op; go_big_quiet_on)
        iterate 2 (refine wpG_op rfl rfl rfl ?_; intro K hK; go_big_quiet_op; go_big_quiet_on)
        (refine wpG_val (v := .pointer (some (ad.add ((k + 1) * 35)))) rfl rfl (fun u hu => idxSl_op (i := (k + 1)) Tryd.underlying22 aggCo.size HI.out u rfl rfl) ?_ hw14; intro K hK; go_big_quiet_op; go_big_quiet_on)
        (refine wpG_val (v := .pointer (some ((ad.add ((k + 1) * 35)).add 0))) rfl rfl (fun u hu => fieldCo_op (k := 0) (off := 0) rfl u rfl) ?_ hw14; intro K hK; go_big_quiet_op; go_big_quiet_on)
        (refine wpG_val (v := inV (keyC x)) rfl rfl (fun u hu => load_any_op u (by have h := (HLD.out u (EnvX.sub hu (fun _ h => by cases h))).2.1; rwa [show ((ad.add ((k + 1) * 35)).add 0) = ad.add ((k + 1) * 35) by unfold Addr.add; rfl]) rfl) ?_ hw14; intro K hK; go_big_quiet_op; go_big_quiet_on)
        (refine wpG_call (f := 50) (args := #[inV (keyC y), inV (keyC x)]) (v := .bool true) rfl rfl rfl Tryd.func50 rfl rfl (fun u hu => HBF.out u) ?_ hw14; intro K hK; go_big_quiet_op; go_big_quiet_on)
        (refine wpG_op rfl rfl rfl ?_; intro K hK; go_big_quiet_op; go_big_quiet_on)
        clear hone hw14
        refine wpG_nil ?_
        refine anyH_done (by kernel_rfl) ?_
        intro u16 E2'
        have EX15 := Lib.hid E2'
        clear E2'
        have hii := HI.out
        have hn := HN63.out
        go_wp2
        go_roundw
        case rel => exact ⟨k + 1 + 1, by omega, .inl (by omega), by go_num, H3.out, EX15.out⟩
        case measure => simp [intOf]; omega
    · have C2 : Hid (decide ((i : Int) < (n : Int)) = false) := decide_eq_false (by omega)
      have HF : Hid (decide (upP p) = true) := decide_eq_true (up_steps HPP.out.id (fun j hj => H1.out j (by have := HL.out; omega)))
      clear hlt hi hi1
      go_upto_region 2 with (fail)
      refine wp_region_Hx (w0 := w) [0, 1, 2, 3] [] rfl EK.out ?_
      refine lexH_phase [0, 1, 2, 3] [] ?_
      have hw201 : EnvX w _ [] := EK.out
      have hone := @EnvC.one _ _ _ hw201
      iterate 2 (refine wpG_op rfl rfl rfl ?_; intro K hK; go_big_quiet_op; go_big_quiet_on)
      (refine wpG_val (v := .int .i64 (n : Int)) rfl rfl (fun u hu => len_op Tryd.underlying22 HN63.out u rfl) ?_ hw201; intro K hK; go_big_quiet_op; go_big_quiet_on)
      (refine wpG_val (v := .bool false) rfl rfl (fun u hu => ltZ_op u C2.out rfl rfl) ?_ hw201; intro K hK; go_big_quiet_op; go_big_quiet_on)
      clear hone hw201
      refine wpG_nil ?_
      intro u203 E2'
      have EX202 := Lib.hid E2'
      clear E2'
      go_upto_region 6 with (fail)
      refine wp_region_Hx (w0 := w) [0] [] rfl EX202.out ?_
      refine lexH_phase [0] [] ?_
      have hw204 : EnvX w _ [] := EX202.out
      have hone := @EnvC.one _ _ _ hw204
      (refine wpG_op rfl rfl rfl ?_; intro K hK; go_big_quiet_op; go_big_quiet_on)
      clear hone hw204
      refine wpG_nil ?_
      intro u206 E2'
      have EX205 := Lib.hid E2'
      clear E2'
      have HBE := Lib.hid (EnvX.bel EX205.out)
      go_wp2
      go_ret
      exact ⟨by rw [HF.out]; first | done | rfl, HBE.out⟩
set_option maxRecDepth 20000 in
set_option maxHeartbeats 8000000 in
theorem pmayNot_any (x : CoinR) (w : World) (hx : lenC x) :
    Calls Tryd.prog 39 #[coV x] w fun e w' => e = .returned (.bool (!boundC x)) ∧ Below w.heap.size w w' := by
  have HX := Lib.hid hx
  have E1 : Hid (EnvX w (w.alloc (.cells (coA x) 50)) [(w.heap.size, Obj.cells (coA x) 50 (0, 0))]) := (EnvX.start w).new _
  clear hx
  unfold coV
  by_cases c0 : x.i < 0
  · have B0 : Hid (decide (x.i < 0) = true) := decide_eq_true c0
    have HF : Hid ((!boundC x) = true) := by
      have h : boundC x = false := decide_eq_false (by omega)
      show _ = _
      rw [h]
      rfl
    clear c0
    go_enter Tryd.func39, Tryd.ntmps39
    go_upto_region 1 with (fail)
    generalize w.alloc (.cells (coA x) 50) = W at *
    refine wp_region_Hx (w0 := w) [0, 1, 2, 3, 4, 5, 6, 7, 8, 9, 10, 11, 12, 13, 14, 15, 16, 17, 18, 19, 20, 21, 22, 23, 24, 25, 26, 27, 28, 29, 30, 31, 32, 33, 34] [(w.heap.size, Obj.cells (coA x) 50 (0, 0))] rfl E1.out ?_
    refine lexH_phase [0, 1, 2, 3, 4, 5, 6, 7, 8, 9, 10, 11, 12, 13, 14, 15, 16, 17, 18, 19, 20, 21, 22, 23, 24, 25, 26, 27, 28, 29, 30, 31, 32, 33, 34] [] ?_
    have hw1 : EnvX w _ [(w.heap.size, Obj.cells (coA x) 50 (0, 0))] := E1.out
    have hone := @EnvC.one _ _ _ hw1
    (refine wpG_val (v := .pointer (some ⟨w.heap.size, 0, none⟩)) rfl rfl (fun u hu => fieldCo_op (k := 0) (off := 0) (ad := ⟨w.heap.size, 0, none⟩) rfl u rfl) ?_ hw1; intro K hK; go_big_quiet_op; go_big_quiet_on)
    (refine wpG_val (v := .pointer (some ⟨w.heap.size, 32, none⟩)) rfl rfl (fun u hu => fieldIn_op (k := 1) (off := 32) (ad := ⟨w.heap.size, 0, none⟩) rfl u rfl) ?_ hw1; intro K hK; go_big_quiet_op; go_big_quiet_on)
    (refine wpG_val (v := .int .i64 x.i) rfl rfl (fun u hu => load_any_op u (box_co_i hu (List.Mem.head _) HX.out) rfl) ?_ hw1; intro K hK; go_big_quiet_op; go_big_quiet_on)
    (refine wpG_val (v := .bool true) rfl rfl (fun u hu => ltZ_op u B0.out rfl rfl) ?_ hw1; intro K hK; go_big_quiet_op; go_big_quiet_on)
    (refine wpG_op rfl rfl rfl ?_; intro K hK; go_big_quiet_op; go_big_quiet_on)
    iterate 4 (refine wpG_skip rfl rfl ?_ hw1; intro K hK; go_big_quiet_op; go_big_quiet_on)
    iterate 2 (refine wpG_op rfl rfl rfl ?_; intro K hK; go_big_quiet_op; go_big_quiet_on)
    iterate 4 (refine wpG_skip rfl rfl ?_ hw1; intro K hK; go_big_quiet_op; go_big_quiet_on)
    iterate 2 (refine wpG_op rfl rfl rfl ?_; intro K hK; go_big_quiet_op; go_big_quiet_on)
    iterate 4 (refine wpG_skip rfl rfl ?_ hw1; intro K hK; go_big_quiet_op; go_big_quiet_on)
    iterate 2 (refine wpG_op rfl rfl rfl ?_; intro K hK; go_big_quiet_op; go_big_quiet_on)
    iterate 4 (refine wpG_skip rfl rfl ?_ hw1; intro K hK; go_big_quiet_op; go_big_quiet_on)
    iterate 2 (refine wpG_op rfl rfl rfl ?_; intro K hK; go_big_quiet_op; go_big_quiet_on)
    iterate 4 (refine wpG_skip rfl rfl ?_ hw1; intro K hK; go_big_quiet_op; go_big_quiet_on)
    iterate 2 (refine wpG_op rfl rfl rfl ?_; intro K hK; go_big_quiet_op; go_big_quiet_on)
    clear hone hw1
    refine wpG_nil ?_
    intro u3 E2'
    have EX2 := Lib.hid E2'
    clear E2'
    have HBE := Lib.hid (EnvX.bel EX2.out)
    go_wp2
    go_ret
    exact ⟨by rw [HF.out]; first | done | rfl, HBE.out⟩
  have B0 : Hid (decide (x.i < 0) = false) := decide_eq_false c0
  by_cases c1 : 2 < x.i
  · have B1 : Hid (decide (2 < x.i) = true) := decide_eq_true c1
    have HF : Hid ((!boundC x) = true) := by
      have h : boundC x = false := decide_eq_false (by omega)
      show _ = _
      rw [h]
      rfl
    clear c0 c1
    go_enter Tryd.func39, Tryd.ntmps39
    go_upto_region 1 with (fail)
    generalize w.alloc (.cells (coA x) 50) = W at *
    refine wp_region_Hx (w0 := w) [0, 1, 2, 3, 4, 5, 6, 7, 8, 9, 10, 11, 12, 13, 14, 15, 16, 17, 18, 19, 20, 21, 22, 23, 24, 25, 26, 27, 28, 29, 30, 31, 32, 33, 34] [(w.heap.size, Obj.cells (coA x) 50 (0, 0))] rfl E1.out ?_
    refine lexH_phase [0, 1, 2, 3, 4, 5, 6, 7, 8, 9, 10, 11, 12, 13, 14, 15, 16, 17, 18, 19, 20, 21, 22, 23, 24, 25, 26, 27, 28, 29, 30, 31, 32, 33, 34] [] ?_
    have hw1 : EnvX w _ [(w.heap.size, Obj.cells (coA x) 50 (0, 0))] := E1.out
    have hone := @EnvC.one _ _ _ hw1
    (refine wpG_val (v := .pointer (some ⟨w.heap.size, 0, none⟩)) rfl rfl (fun u hu => fieldCo_op (k := 0) (off := 0) (ad := ⟨w.heap.size, 0, none⟩) rfl u rfl) ?_ hw1; intro K hK; go_big_quiet_op; go_big_quiet_on)
    (refine wpG_val (v := .pointer (some ⟨w.heap.size, 32, none⟩)) rfl rfl (fun u hu => fieldIn_op (k := 1) (off := 32) (ad := ⟨w.heap.size, 0, none⟩) rfl u rfl) ?_ hw1; intro K hK; go_big_quiet_op; go_big_quiet_on)
    (refine wpG_val (v := .int .i64 x.i) rfl rfl (fun u hu => load_any_op u (box_co_i hu (List.Mem.head _) HX.out) rfl) ?_ hw1; intro K hK; go_big_quiet_op; go_big_quiet_on)
    (refine wpG_val (v := .bool false) rfl rfl (fun u hu => ltZ_op u B0.out rfl rfl) ?_ hw1; intro K hK; go_big_quiet_op; go_big_quiet_on)
    (refine wpG_op rfl rfl rfl ?_; intro K hK; go_big_quiet_op; go_big_quiet_on)
    (refine wpG_val (v := .pointer (some ⟨w.heap.size, 0, none⟩)) rfl rfl (fun u hu => fieldCo_op (k := 0) (off := 0) (ad := ⟨w.heap.size, 0, none⟩) rfl u rfl) ?_ hw1; intro K hK; go_big_quiet_op; go_big_quiet_on)
    (refine wpG_val (v := .pointer (some ⟨w.heap.size, 32, none⟩)) rfl rfl (fun u hu => fieldIn_op (k := 1) (off := 32) (ad := ⟨w.heap.size, 0, none⟩) rfl u rfl) ?_ hw1; intro K hK; go_big_quiet_op; go_big_quiet_on)
    (refine wpG_val (v := .int .i64 x.i) rfl rfl (fun u hu => load_any_op u (box_co_i hu (List.Mem.head _) HX.out) rfl) ?_ hw1; intro K hK; go_big_quiet_op; go_big_quiet_on)
    (refine wpG_val (v := .bool true) rfl rfl (fun u hu => gtZ_op u B1.out rfl rfl) ?_ hw1; intro K hK; go_big_quiet_op; go_big_quiet_on)
    iterate 2 (refine wpG_op rfl rfl rfl ?_; intro K hK; go_big_quiet_op; go_big_quiet_on)
    iterate 4 (refine wpG_skip rfl rfl ?_ hw1; intro K hK; go_big_quiet_op; go_big_quiet_on)
    iterate 2 (refine wpG_op rfl rfl rfl ?_; intro K hK; go_big_quiet_op; go_big_quiet_on)
    iterate 4 (refine wpG_skip rfl rfl ?_ hw1; intro K hK; go_big_quiet_op; go_big_quiet_on)
    iterate 2 (refine wpG_op rfl rfl rfl ?_; intro K hK; go_big_quiet_op; go_big_quiet_on)
    iterate 4 (refine wpG_skip rfl rfl ?_ hw1; intro K hK; go_big_quiet_op; go_big_quiet_on)
    iterate 2 (refine wpG_op rfl rfl rfl ?_; intro K hK; go_big_quiet_op; go_big_quiet_on)
    iterate 4 (refine wpG_skip rfl rfl ?_ hw1; intro K hK; go_big_quiet_op; go_big_quiet_on)
    iterate 2 (refine wpG_op rfl rfl rfl ?_; intro K hK; go_big_quiet_op; go_big_quiet_on)
    clear hone hw1
    refine wpG_nil ?_
    intro u3 E2'
    have EX2 := Lib.hid E2'
    clear E2'
    have HBE := Lib.hid (EnvX.bel EX2.out)
    go_wp2
    go_ret
    exact ⟨by rw [HF.out]; first | done | rfl, HBE.out⟩
  have B1 : Hid (decide (2 < x.i) = false) := decide_eq_false c1
  by_cases c2 : x.v < 1
  · have B2 : Hid (decide (x.v < 1) = true) := decide_eq_true c2
    have HF : Hid ((!boundC x) = true) := by
      have h : boundC x = false := decide_eq_false (by omega)
      show _ = _
      rw [h]
      rfl
    clear c0 c1 c2
    go_enter Tryd.func39, Tryd.ntmps39
    go_upto_region 1 with (fail)
    generalize w.alloc (.cells (coA x) 50) = W at *
    refine wp_region_Hx (w0 := w) [0, 1, 2, 3, 4, 5, 6, 7, 8, 9, 10, 11, 12, 13, 14, 15, 16, 17, 18, 19, 20, 21, 22, 23, 24, 25, 26, 27, 28, 29, 30, 31, 32, 33, 34] [(w.heap.size, Obj.cells (coA x) 50 (0, 0))] rfl E1.out ?_
    refine lexH_phase [0, 1, 2, 3, 4, 5, 6, 7, 8, 9, 10, 11, 12, 13, 14, 15, 16, 17, 18, 19, 20, 21, 22, 23, 24, 25, 26, 27, 28, 29, 30, 31, 32, 33, 34] [] ?_
    have hw1 : EnvX w _ [(w.heap.size, Obj.cells (coA x) 50 (0, 0))] := E1.out
    have hone := @EnvC.one _ _ _ hw1
    (refine wpG_val (v := .pointer (some ⟨w.heap.size, 0, none⟩)) rfl rfl (fun u hu => fieldCo_op (k := 0) (off := 0) (ad := ⟨w.heap.size, 0, none⟩) rfl u rfl) ?_ hw1; intro K hK; go_big_quiet_op; go_big_quiet_on)
    (refine wpG_val (v := .pointer (some ⟨w.heap.size, 32, none⟩)) rfl rfl (fun u hu => fieldIn_op (k := 1) (off := 32) (ad := ⟨w.heap.size, 0, none⟩) rfl u rfl) ?_ hw1; intro K hK; go_big_quiet_op; go_big_quiet_on)
    (refine wpG_val (v := .int .i64 x.i) rfl rfl (fun u hu => load_any_op u (box_co_i hu (List.Mem.head _) HX.out) rfl) ?_ hw1; intro K hK; go_big_quiet_op; go_big_quiet_on)
    (refine wpG_val (v := .bool false) rfl rfl (fun u hu => ltZ_op u B0.out rfl rfl) ?_ hw1; intro K hK; go_big_quiet_op; go_big_quiet_on)
    (refine wpG_op rfl rfl rfl ?_; intro K hK; go_big_quiet_op; go_big_quiet_on)
    (refine wpG_val (v := .pointer (some ⟨w.heap.size, 0, none⟩)) rfl rfl (fun u hu => fieldCo_op (k := 0) (off := 0) (ad := ⟨w.heap.size, 0, none⟩) rfl u rfl) ?_ hw1; intro K hK; go_big_quiet_op; go_big_quiet_on)
    (refine wpG_val (v := .pointer (some ⟨w.heap.size, 32, none⟩)) rfl rfl (fun u hu => fieldIn_op (k := 1) (off := 32) (ad := ⟨w.heap.size, 0, none⟩) rfl u rfl) ?_ hw1; intro K hK; go_big_quiet_op; go_big_quiet_on)
    (refine wpG_val (v := .int .i64 x.i) rfl rfl (fun u hu => load_any_op u (box_co_i hu (List.Mem.head _) HX.out) rfl) ?_ hw1; intro K hK; go_big_quiet_op; go_big_quiet_on)
    (refine wpG_val (v := .bool false) rfl rfl (fun u hu => gtZ_op u B1.out rfl rfl) ?_ hw1; intro K hK; go_big_quiet_op; go_big_quiet_on)
    iterate 2 (refine wpG_op rfl rfl rfl ?_; intro K hK; go_big_quiet_op; go_big_quiet_on)
    (refine wpG_val (v := .pointer (some ⟨w.heap.size, 33, none⟩)) rfl rfl (fun u hu => fieldCo_op (k := 1) (off := 33) (ad := ⟨w.heap.size, 0, none⟩) rfl u rfl) ?_ hw1; intro K hK; go_big_quiet_op; go_big_quiet_on)
    (refine wpG_val (v := .pointer (some ⟨w.heap.size, 33, none⟩)) rfl rfl (fun u hu => fieldOut_op (k := 0) (off := 0) (ad := ⟨w.heap.size, 33, none⟩) rfl u rfl) ?_ hw1; intro K hK; go_big_quiet_op; go_big_quiet_on)
    (refine wpG_val (v := .int .i64 x.v) rfl rfl (fun u hu => load_any_op u (box_co_v hu (List.Mem.head _) HX.out) rfl) ?_ hw1; intro K hK; go_big_quiet_op; go_big_quiet_on)
    (refine wpG_val (v := .bool true) rfl rfl (fun u hu => ltZ_op u B2.out rfl rfl) ?_ hw1; intro K hK; go_big_quiet_op; go_big_quiet_on)
    iterate 2 (refine wpG_op rfl rfl rfl ?_; intro K hK; go_big_quiet_op; go_big_quiet_on)
    iterate 4 (refine wpG_skip rfl rfl ?_ hw1; intro K hK; go_big_quiet_op; go_big_quiet_on)
    iterate 2 (refine wpG_op rfl rfl rfl ?_; intro K hK; go_big_quiet_op; go_big_quiet_on)
    iterate 4 (refine wpG_skip rfl rfl ?_ hw1; intro K hK; go_big_quiet_op; go_big_quiet_on)
    iterate 2 (refine wpG_op rfl rfl rfl ?_; intro K hK; go_big_quiet_op; go_big_quiet_on)
    iterate 4 (refine wpG_skip rfl rfl ?_ hw1; intro K hK; go_big_quiet_op; go_big_quiet_on)
    iterate 2 (refine wpG_op rfl rfl rfl ?_; intro K hK; go_big_quiet_op; go_big_quiet_on)
    clear hone hw1
    refine wpG_nil ?_
    intro u3 E2'
    have EX2 := Lib.hid E2'
    clear E2'
    have HBE := Lib.hid (EnvX.bel EX2.out)
    go_wp2
    go_ret
    exact ⟨by rw [HF.out]; first | done | rfl, HBE.out⟩
  have B2 : Hid (decide (x.v < 1) = false) := decide_eq_false c2
  by_cases c3 : 1099511627776 < x.v
  · have B3 : Hid (decide (1099511627776 < x.v) = true) := decide_eq_true c3
    have HF : Hid ((!boundC x) = true) := by
      have h : boundC x = false := decide_eq_false (by omega)
      show _ = _
      rw [h]
      rfl
    clear c0 c1 c2 c3
    go_enter Tryd.func39, Tryd.ntmps39
    go_upto_region 1 with (fail)
    generalize w.alloc (.cells (coA x) 50) = W at *
    refine wp_region_Hx (w0 := w) [0, 1, 2, 3, 4, 5, 6, 7, 8, 9, 10, 11, 12, 13, 14, 15, 16, 17, 18, 19, 20, 21, 22, 23, 24, 25, 26, 27, 28, 29, 30, 31, 32, 33, 34] [(w.heap.size, Obj.cells (coA x) 50 (0, 0))] rfl E1.out ?_
    refine lexH_phase [0, 1, 2, 3, 4, 5, 6, 7, 8, 9, 10, 11, 12, 13, 14, 15, 16, 17, 18, 19, 20, 21, 22, 23, 24, 25, 26, 27, 28, 29, 30, 31, 32, 33, 34] [] ?_
    have hw1 : EnvX w _ [(w.heap.size, Obj.cells (coA x) 50 (0, 0))] := E1.out
    have hone := @EnvC.one _ _ _ hw1
    (refine wpG_val (v := .pointer (some ⟨w.heap.size, 0, none⟩)) rfl rfl (fun u hu => fieldCo_op (k := 0) (off := 0) (ad := ⟨w.heap.size, 0, none⟩) rfl u rfl) ?_ hw1; intro K hK; go_big_quiet_op; go_big_quiet_on)
    (refine wpG_val (v := .pointer (some ⟨w.heap.size, 32, none⟩)) rfl rfl (fun u hu => fieldIn_op (k := 1) (off := 32) (ad := ⟨w.heap.size, 0, none⟩) rfl u rfl) ?_ hw1; intro K hK; go_big_quiet_op; go_big_quiet_on)
    (refine wpG_val (v := .int .i64 x.i) rfl rfl (fun u hu => load_any_op u (box_co_i hu (List.Mem.head _) HX.out) rfl) ?_ hw1; intro K hK; go_big_quiet_op; go_big_quiet_on)
    (refine wpG_val (v := .bool false) rfl rfl (fun u hu => ltZ_op u B0.out rfl rfl) ?_ hw1; intro K hK; go_big_quiet_op; go_big_quiet_on)
    (refine wpG_op rfl rfl rfl ?_; intro K hK; go_big_quiet_op; go_big_quiet_on)
    (refine wpG_val (v := .pointer (some ⟨w.heap.size, 0, none⟩)) rfl rfl (fun u hu => fieldCo_op (k := 0) (off := 0) (ad := ⟨w.heap.size, 0, none⟩) rfl u rfl) ?_ hw1; intro K hK; go_big_quiet_op; go_big_quiet_on)
    (refine wpG_val (v := .pointer (some ⟨w.heap.size, 32, none⟩)) rfl rfl (fun u hu => fieldIn_op (k := 1) (off := 32) (ad := ⟨w.heap.size, 0, none⟩) rfl u rfl) ?_ hw1; intro K hK; go_big_quiet_op; go_big_quiet_on)
    (refine wpG_val (v := .int .i64 x.i) rfl rfl (fun u hu => load_any_op u (box_co_i hu (List.Mem.head _) HX.out) rfl) ?_ hw1; intro K hK; go_big_quiet_op; go_big_quiet_on)
    (refine wpG_val (v := .bool false) rfl rfl (fun u hu => gtZ_op u B1.out rfl rfl) ?_ hw1; intro K hK; go_big_quiet_op; go_big_quiet_on)
    iterate 2 (refine wpG_op rfl rfl rfl ?_; intro K hK; go_big_quiet_op; go_big_quiet_on)
    (refine wpG_val (v := .pointer (some ⟨w.heap.size, 33, none⟩)) rfl rfl (fun u hu => fieldCo_op (k := 1) (off := 33) (ad := ⟨w.heap.size, 0, none⟩) rfl u rfl) ?_ hw1; intro K hK; go_big_quiet_op; go_big_quiet_on)
    (refine wpG_val (v := .pointer (some ⟨w.heap.size, 33, none⟩)) rfl rfl (fun u hu => fieldOut_op (k := 0) (off := 0) (ad := ⟨w.heap.size, 33, none⟩) rfl u rfl) ?_ hw1; intro K hK; go_big_quiet_op; go_big_quiet_on)
    (refine wpG_val (v := .int .i64 x.v) rfl rfl (fun u hu => load_any_op u (box_co_v hu (List.Mem.head _) HX.out) rfl) ?_ hw1; intro K hK; go_big_quiet_op; go_big_quiet_on)
    (refine wpG_val (v := .bool false) rfl rfl (fun u hu => ltZ_op u B2.out rfl rfl) ?_ hw1; intro K hK; go_big_quiet_op; go_big_quiet_on)
    iterate 2 (refine wpG_op rfl rfl rfl ?_; intro K hK; go_big_quiet_op; go_big_quiet_on)
    (refine wpG_val (v := .pointer (some ⟨w.heap.size, 33, none⟩)) rfl rfl (fun u hu => fieldCo_op (k := 1) (off := 33) (ad := ⟨w.heap.size, 0, none⟩) rfl u rfl) ?_ hw1; intro K hK; go_big_quiet_op; go_big_quiet_on)
    (refine wpG_val (v := .pointer (some ⟨w.heap.size, 33, none⟩)) rfl rfl (fun u hu => fieldOut_op (k := 0) (off := 0) (ad := ⟨w.heap.size, 33, none⟩) rfl u rfl) ?_ hw1; intro K hK; go_big_quiet_op; go_big_quiet_on)
    (refine wpG_val (v := .int .i64 x.v) rfl rfl (fun u hu => load_any_op u (box_co_v hu (List.Mem.head _) HX.out) rfl) ?_ hw1; intro K hK; go_big_quiet_op; go_big_quiet_on)
    (refine wpG_val (v := .bool true) rfl rfl (fun u hu => gtZ_op u B3.out rfl rfl) ?_ hw1; intro K hK; go_big_quiet_op; go_big_quiet_on)
    iterate 2 (refine wpG_op rfl rfl rfl ?_; intro K hK; go_big_quiet_op; go_big_quiet_on)
    iterate 4 (refine wpG_skip rfl rfl ?_ hw1; intro K hK; go_big_quiet_op; go_big_quiet_on)
    iterate 2 (refine wpG_op rfl rfl rfl ?_; intro K hK; go_big_quiet_op; go_big_quiet_on)
    iterate 4 (refine wpG_skip rfl rfl ?_ hw1; intro K hK; go_big_quiet_op; go_big_quiet_on)
    iterate 2 (refine wpG_op rfl rfl rfl ?_; intro K hK; go_big_quiet_op; go_big_quiet_on)
    clear hone hw1
    refine wpG_nil ?_
    intro u3 E2'
    have EX2 := Lib.hid E2'
    clear E2'
    have HBE := Lib.hid (EnvX.bel EX2.out)
    go_wp2
    go_ret
    exact ⟨by rw [HF.out]; first | done | rfl, HBE.out⟩
  have B3 : Hid (decide (1099511627776 < x.v) = false) := decide_eq_false c3
  by_cases c4 : x.to < 0
  · have B4 : Hid (decide (x.to < 0) = true) := decide_eq_true c4
    have HF : Hid ((!boundC x) = true) := by
      have h : boundC x = false := decide_eq_false (by omega)
      show _ = _
      rw [h]
      rfl
    clear c0 c1 c2 c3 c4
    go_enter Tryd.func39, Tryd.ntmps39
    go_upto_region 1 with (fail)
    generalize w.alloc (.cells (coA x) 50) = W at *
    refine wp_region_Hx (w0 := w) [0, 1, 2, 3, 4, 5, 6, 7, 8, 9, 10, 11, 12, 13, 14, 15, 16, 17, 18, 19, 20, 21, 22, 23, 24, 25, 26, 27, 28, 29, 30, 31, 32, 33, 34] [(w.heap.size, Obj.cells (coA x) 50 (0, 0))] rfl E1.out ?_
    refine lexH_phase [0, 1, 2, 3, 4, 5, 6, 7, 8, 9, 10, 11, 12, 13, 14, 15, 16, 17, 18, 19, 20, 21, 22, 23, 24, 25, 26, 27, 28, 29, 30, 31, 32, 33, 34] [] ?_
    have hw1 : EnvX w _ [(w.heap.size, Obj.cells (coA x) 50 (0, 0))] := E1.out
    have hone := @EnvC.one _ _ _ hw1
    (refine wpG_val (v := .pointer (some ⟨w.heap.size, 0, none⟩)) rfl rfl (fun u hu => fieldCo_op (k := 0) (off := 0) (ad := ⟨w.heap.size, 0, none⟩) rfl u rfl) ?_ hw1; intro K hK; go_big_quiet_op; go_big_quiet_on)
    (refine wpG_val (v := .pointer (some ⟨w.heap.size, 32, none⟩)) rfl rfl (fun u hu => fieldIn_op (k := 1) (off := 32) (ad := ⟨w.heap.size, 0, none⟩) rfl u rfl) ?_ hw1; intro K hK; go_big_quiet_op; go_big_quiet_on)
    (refine wpG_val (v := .int .i64 x.i) rfl rfl (fun u hu => load_any_op u (box_co_i hu (List.Mem.head _) HX.out) rfl) ?_ hw1; intro K hK; go_big_quiet_op; go_big_quiet_on)
    (refine wpG_val (v := .bool false) rfl rfl (fun u hu => ltZ_op u B0.out rfl rfl) ?_ hw1; intro K hK; go_big_quiet_op; go_big_quiet_on)
    (refine wpG_op rfl rfl rfl ?_; intro K hK; go_big_quiet_op; go_big_quiet_on)
    (refine wpG_val (v := .pointer (some ⟨w.heap.size, 0, none⟩)) rfl rfl (fun u hu => fieldCo_op (k := 0) (off := 0) (ad := ⟨w.heap.size, 0, none⟩) rfl u rfl) ?_ hw1; intro K hK; go_big_quiet_op; go_big_quiet_on)
    (refine wpG_val (v := .pointer (some ⟨w.heap.size, 32, none⟩)) rfl rfl (fun u hu => fieldIn_op (k := 1) (off := 32) (ad := ⟨w.heap.size, 0, none⟩) rfl u rfl) ?_ hw1; intro K hK; go_big_quiet_op; go_big_quiet_on)
    (refine wpG_val (v := .int .i64 x.i) rfl rfl (fun u hu => load_any_op u (box_co_i hu (List.Mem.head _) HX.out) rfl) ?_ hw1; intro K hK; go_big_quiet_op; go_big_quiet_on)
    (refine wpG_val (v := .bool false) rfl rfl (fun u hu => gtZ_op u B1.out rfl rfl) ?_ hw1; intro K hK; go_big_quiet_op; go_big_quiet_on)
    iterate 2 (refine wpG_op rfl rfl rfl ?_; intro K hK; go_big_quiet_op; go_big_quiet_on)
    (refine wpG_val (v := .pointer (some ⟨w.heap.size, 33, none⟩)) rfl rfl (fun u hu => fieldCo_op (k := 1) (off := 33) (ad := ⟨w.heap.size, 0, none⟩) rfl u rfl) ?_ hw1; intro K hK; go_big_quiet_op; go_big_quiet_on)
    (refine wpG_val (v := .pointer (some ⟨w.heap.size, 33, none⟩)) rfl rfl (fun u hu => fieldOut_op (k := 0) (off := 0) (ad := ⟨w.heap.size, 33, none⟩) rfl u rfl) ?_ hw1; intro K hK; go_big_quiet_op; go_big_quiet_on)
    (refine wpG_val (v := .int .i64 x.v) rfl rfl (fun u hu => load_any_op u (box_co_v hu (List.Mem.head _) HX.out) rfl) ?_ hw1; intro K hK; go_big_quiet_op; go_big_quiet_on)
    (refine wpG_val (v := .bool false) rfl rfl (fun u hu => ltZ_op u B2.out rfl rfl) ?_ hw1; intro K hK; go_big_quiet_op; go_big_quiet_on)
    iterate 2 (refine wpG_op rfl rfl rfl ?_; intro K hK; go_big_quiet_op; go_big_quiet_on)
    (refine wpG_val (v := .pointer (some ⟨w.heap.size, 33, none⟩)) rfl rfl (fun u hu => fieldCo_op (k := 1) (off := 33) (ad := ⟨w.heap.size, 0, none⟩) rfl u rfl) ?_ hw1; intro K hK; go_big_quiet_op; go_big_quiet_on)
    (refine wpG_val (v := .pointer (some ⟨w.heap.size, 33, none⟩)) rfl rfl (fun u hu => fieldOut_op (k := 0) (off := 0) (ad := ⟨w.heap.size, 33, none⟩) rfl u rfl) ?_ hw1; intro K hK; go_big_quiet_op; go_big_quiet_on)
    (refine wpG_val (v := .int .i64 x.v) rfl rfl (fun u hu => load_any_op u (box_co_v hu (List.Mem.head _) HX.out) rfl) ?_ hw1; intro K hK; go_big_quiet_op; go_big_quiet_on)
    (refine wpG_val (v := .bool false) rfl rfl (fun u hu => gtZ_op u B3.out rfl rfl) ?_ hw1; intro K hK; go_big_quiet_op; go_big_quiet_on)
    iterate 2 (refine wpG_op rfl rfl rfl ?_; intro K hK; go_big_quiet_op; go_big_quiet_on)
    (refine wpG_val (v := .pointer (some ⟨w.heap.size, 33, none⟩)) rfl rfl (fun u hu => fieldCo_op (k := 1) (off := 33) (ad := ⟨w.heap.size, 0, none⟩) rfl u rfl) ?_ hw1; intro K hK; go_big_quiet_op; go_big_quiet_on)
    (refine wpG_val (v := .pointer (some ⟨w.heap.size, 34, none⟩)) rfl rfl (fun u hu => fieldOut_op (k := 1) (off := 1) (ad := ⟨w.heap.size, 33, none⟩) rfl u rfl) ?_ hw1; intro K hK; go_big_quiet_op; go_big_quiet_on)
    (refine wpG_val (v := .int .i64 x.to) rfl rfl (fun u hu => load_any_op u (box_co_to hu (List.Mem.head _) HX.out) rfl) ?_ hw1; intro K hK; go_big_quiet_op; go_big_quiet_on)
    (refine wpG_val (v := .bool true) rfl rfl (fun u hu => ltZ_op u B4.out rfl rfl) ?_ hw1; intro K hK; go_big_quiet_op; go_big_quiet_on)
    iterate 2 (refine wpG_op rfl rfl rfl ?_; intro K hK; go_big_quiet_op; go_big_quiet_on)
    iterate 4 (refine wpG_skip rfl rfl ?_ hw1; intro K hK; go_big_quiet_op; go_big_quiet_on)
    iterate 2 (refine wpG_op rfl rfl rfl ?_; intro K hK; go_big_quiet_op; go_big_quiet_on)
    clear hone hw1
    refine wpG_nil ?_
    intro u3 E2'
    have EX2 := Lib.hid E2'
    clear E2'
    have HBE := Lib.hid (EnvX.bel EX2.out)
    go_wp2
    go_ret
    exact ⟨by rw [HF.out]; first | done | rfl, HBE.out⟩
  have B4 : Hid (decide (x.to < 0) = false) := decide_eq_false c4
  by_cases c5 : 255 < x.to
  · have B5 : Hid (decide (255 < x.to) = true) := decide_eq_true c5
    have HF : Hid ((!boundC x) = true) := by
      have h : boundC x = false := decide_eq_false (by omega)
      show _ = _
      rw [h]
      rfl
    clear c0 c1 c2 c3 c4 c5
    go_enter Tryd.func39, Tryd.ntmps39
    go_upto_region 1 with (fail)
    generalize w.alloc (.cells (coA x) 50) = W at *
    refine wp_region_Hx (w0 := w) [0, 1, 2, 3, 4, 5, 6, 7, 8, 9, 10, 11, 12, 13, 14, 15, 16, 17, 18, 19, 20, 21, 22, 23, 24, 25, 26, 27, 28, 29, 30, 31, 32, 33, 34] [(w.heap.size, Obj.cells (coA x) 50 (0, 0))] rfl E1.out ?_
    refine lexH_phase [0, 1, 2, 3, 4, 5, 6, 7, 8, 9, 10, 11, 12, 13, 14, 15, 16, 17, 18, 19, 20, 21, 22, 23, 24, 25, 26, 27, 28, 29, 30, 31, 32, 33, 34] [] ?_
    have hw1 : EnvX w _ [(w.heap.size, Obj.cells (coA x) 50 (0, 0))] := E1.out
    have hone := @EnvC.one _ _ _ hw1
    (refine wpG_val (v := .pointer (some ⟨w.heap.size, 0, none⟩)) rfl rfl (fun u hu => fieldCo_op (k := 0) (off := 0) (ad := ⟨w.heap.size, 0, none⟩) rfl u rfl) ?_ hw1; intro K hK; go_big_quiet_op; go_big_quiet_on)
    (refine wpG_val (v := .pointer (some ⟨w.heap.size, 32, none⟩)) rfl rfl (fun u hu => fieldIn_op (k := 1) (off := 32) (ad := ⟨w.heap.size, 0, none⟩) rfl u rfl) ?_ hw1; intro K hK; go_big_quiet_op; go_big_quiet_on)
    (refine wpG_val (v := .int .i64 x.i) rfl rfl (fun u hu => load_any_op u (box_co_i hu (List.Mem.head _) HX.out) rfl) ?_ hw1; intro K hK; go_big_quiet_op; go_big_quiet_on)
    (refine wpG_val (v := .bool false) rfl rfl (fun u hu => ltZ_op u B0.out rfl rfl) ?_ hw1; intro K hK; go_big_quiet_op; go_big_quiet_on)
    (refine wpG_op rfl rfl rfl ?_; intro K hK; go_big_quiet_op; go_big_quiet_on)
    (refine wpG_val (v := .pointer (some ⟨w.heap.size, 0, none⟩)) rfl rfl (fun u hu => fieldCo_op (k := 0) (off := 0) (ad := ⟨w.heap.size, 0, none⟩) rfl u rfl) ?_ hw1; intro K hK; go_big_quiet_op; go_big_quiet_on)
    (refine wpG_val (v := .pointer (some ⟨w.heap.size, 32, none⟩)) rfl rfl (fun u hu => fieldIn_op (k := 1) (off := 32) (ad := ⟨w.heap.size, 0, none⟩) rfl u rfl) ?_ hw1; intro K hK; go_big_quiet_op; go_big_quiet_on)
    (refine wpG_val (v := .int .i64 x.i) rfl rfl (fun u hu => load_any_op u (box_co_i hu (List.Mem.head _) HX.out) rfl) ?_ hw1; intro K hK; go_big_quiet_op; go_big_quiet_on)
    (refine wpG_val (v := .bool false) rfl rfl (fun u hu => gtZ_op u B1.out rfl rfl) ?_ hw1; intro K hK; go_big_quiet_op; go_big_quiet_on)
    iterate 2 (refine wpG_op rfl rfl rfl ?_; intro K hK; go_big_quiet_op; go_big_quiet_on)
    (refine wpG_val (v := .pointer (some ⟨w.heap.size, 33, none⟩)) rfl rfl (fun u hu => fieldCo_op (k := 1) (off := 33) (ad := ⟨w.heap.size, 0, none⟩) rfl u rfl) ?_ hw1; intro K hK; go_big_quiet_op; go_big_quiet_on)
    (refine wpG_val (v := .pointer (some ⟨w.heap.size, 33, none⟩)) rfl rfl (fun u hu => fieldOut_op (k := 0) (off := 0) (ad := ⟨w.heap.size, 33, none⟩) rfl u rfl) ?_ hw1; intro K hK; go_big_quiet_op; go_big_quiet_on)
    (refine wpG_val (v := .int .i64 x.v) rfl rfl (fun u hu => load_any_op u (box_co_v hu (List.Mem.head _) HX.out) rfl) ?_ hw1; intro K hK; go_big_quiet_op; go_big_quiet_on)
    (refine wpG_val (v := .bool false) rfl rfl (fun u hu => ltZ_op u B2.out rfl rfl) ?_ hw1; intro K hK; go_big_quiet_op; go_big_quiet_on)
    iterate 2 (refine wpG_op rfl rfl rfl ?_; intro K hK; go_big_quiet_op; go_big_quiet_on)
    (refine wpG_val (v := .pointer (some ⟨w.heap.size, 33, none⟩)) rfl rfl (fun u hu => fieldCo_op (k := 1) (off := 33) (ad := ⟨w.heap.size, 0, none⟩) rfl u rfl) ?_ hw1; intro K hK; go_big_quiet_op; go_big_quiet_on)
    (refine wpG_val (v := .pointer (some ⟨w.heap.size, 33, none⟩)) rfl rfl (fun u hu => fieldOut_op (k := 0) (off := 0) (ad := ⟨w.heap.size, 33, none⟩) rfl u rfl) ?_ hw1; intro K hK; go_big_quiet_op; go_big_quiet_on)
    (refine wpG_val (v := .int .i64 x.v) rfl rfl (fun u hu => load_any_op u (box_co_v hu (List.Mem.head _) HX.out) rfl) ?_ hw1; intro K hK; go_big_quiet_op; go_big_quiet_on)
    (refine wpG_val (v := .bool false) rfl rfl (fun u hu => gtZ_op u B3.out rfl rfl) ?_ hw1; intro K hK; go_big_quiet_op; go_big_quiet_on)
    iterate 2 (refine wpG_op rfl rfl rfl ?_; intro K hK; go_big_quiet_op; go_big_quiet_on)
    (refine wpG_val (v := .pointer (some ⟨w.heap.size, 33, none⟩)) rfl rfl (fun u hu => fieldCo_op (k := 1) (off := 33) (ad := ⟨w.heap.size, 0, none⟩) rfl u rfl) ?_ hw1; intro K hK; go_big_quiet_op; go_big_quiet_on)
    (refine wpG_val (v := .pointer (some ⟨w.heap.size, 34, none⟩)) rfl rfl (fun u hu => fieldOut_op (k := 1) (off := 1) (ad := ⟨w.heap.size, 33, none⟩) rfl u rfl) ?_ hw1; intro K hK; go_big_quiet_op; go_big_quiet_on)
    (refine wpG_val (v := .int .i64 x.to) rfl rfl (fun u hu => load_any_op u (box_co_to hu (List.Mem.head _) HX.out) rfl) ?_ hw1; intro K hK; go_big_quiet_op; go_big_quiet_on)
    (refine wpG_val (v := .bool false) rfl rfl (fun u hu => ltZ_op u B4.out rfl rfl) ?_ hw1; intro K hK; go_big_quiet_op; go_big_quiet_on)
    iterate 2 (refine wpG_op rfl rfl rfl ?_; intro K hK; go_big_quiet_op; go_big_quiet_on)
    (refine wpG_val (v := .pointer (some ⟨w.heap.size, 33, none⟩)) rfl rfl (fun u hu => fieldCo_op (k := 1) (off := 33) (ad := ⟨w.heap.size, 0, none⟩) rfl u rfl) ?_ hw1; intro K hK; go_big_quiet_op; go_big_quiet_on)
    (refine wpG_val (v := .pointer (some ⟨w.heap.size, 34, none⟩)) rfl rfl (fun u hu => fieldOut_op (k := 1) (off := 1) (ad := ⟨w.heap.size, 33, none⟩) rfl u rfl) ?_ hw1; intro K hK; go_big_quiet_op; go_big_quiet_on)
    (refine wpG_val (v := .int .i64 x.to) rfl rfl (fun u hu => load_any_op u (box_co_to hu (List.Mem.head _) HX.out) rfl) ?_ hw1; intro K hK; go_big_quiet_op; go_big_quiet_on)
    (refine wpG_val (v := .bool true) rfl rfl (fun u hu => gtZ_op u B5.out rfl rfl) ?_ hw1; intro K hK; go_big_quiet_op; go_big_quiet_on)
    iterate 2 (refine wpG_op rfl rfl rfl ?_; intro K hK; go_big_quiet_op; go_big_quiet_on)
    clear hone hw1
    refine wpG_nil ?_
    intro u3 E2'
    have EX2 := Lib.hid E2'
    clear E2'
    have HBE := Lib.hid (EnvX.bel EX2.out)
    go_wp2
    go_ret
    exact ⟨by rw [HF.out]; first | done | rfl, HBE.out⟩
  have B5 : Hid (decide (255 < x.to) = false) := decide_eq_false c5
  have HF : Hid ((!boundC x) = false) := by
    have h : boundC x = true := decide_eq_true (by omega)
    show _ = _
    rw [h]
    rfl
  clear c0 c1 c2 c3 c4 c5
  go_enter Tryd.func39, Tryd.ntmps39
  go_upto_region 1 with (fail)
  generalize w.alloc (.cells (coA x) 50) = W at *
  refine wp_region_Hx (w0 := w) [0, 1, 2, 3, 4, 5, 6, 7, 8, 9, 10, 11, 12, 13, 14, 15, 16, 17, 18, 19, 20, 21, 22, 23, 24, 25, 26, 27, 28, 29, 30, 31, 32, 33, 34] [(w.heap.size, Obj.cells (coA x) 50 (0, 0))] rfl E1.out ?_
  refine lexH_phase [0, 1, 2, 3, 4, 5, 6, 7, 8, 9, 10, 11, 12, 13, 14, 15, 16, 17, 18, 19, 20, 21, 22, 23, 24, 25, 26, 27, 28, 29, 30, 31, 32, 33, 34] [] ?_
  have hw1 : EnvX w _ [(w.heap.size, Obj.cells (coA x) 50 (0, 0))] := E1.out
  have hone := @EnvC.one _ _ _ hw1
  (refine wpG_val (v := .pointer (some ⟨w.heap.size, 0, none⟩)) rfl rfl (fun u hu => fieldCo_op (k := 0) (off := 0) (ad := ⟨w.heap.size, 0, none⟩) rfl u rfl) ?_ hw1; intro K hK; go_big_quiet_op; go_big_quiet_on)
  (refine wpG_val (v := .pointer (some ⟨w.heap.size, 32, none⟩)) rfl rfl (fun u hu => fieldIn_op (k := 1) (off := 32) (ad := ⟨w.heap.size, 0, none⟩) rfl u rfl) ?_ hw1; intro K hK; go_big_quiet_op; go_big_quiet_on)
  (refine wpG_val (v := .int .i64 x.i) rfl rfl (fun u hu => load_any_op u (box_co_i hu (List.Mem.head _) HX.out) rfl) ?_ hw1; intro K hK; go_big_quiet_op; go_big_quiet_on)
  (refine wpG_val (v := .bool false) rfl rfl (fun u hu => ltZ_op u B0.out rfl rfl) ?_ hw1; intro K hK; go_big_quiet_op; go_big_quiet_on)
  (refine wpG_op rfl rfl rfl ?_; intro K hK; go_big_quiet_op; go_big_quiet_on)
  (refine wpG_val (v := .pointer (some ⟨w.heap.size, 0, none⟩)) rfl rfl (fun u hu => fieldCo_op (k := 0) (off := 0) (ad := ⟨w.heap.size, 0, none⟩) rfl u rfl) ?_ hw1; intro K hK; go_big_quiet_op; go_big_quiet_on)
  (refine wpG_val (v := .pointer (some ⟨w.heap.size, 32, none⟩)) rfl rfl (fun u hu => fieldIn_op (k := 1) (off := 32) (ad := ⟨w.heap.size, 0, none⟩) rfl u rfl) ?_ hw1; intro K hK; go_big_quiet_op; go_big_quiet_on)
  (refine wpG_val (v := .int .i64 x.i) rfl rfl (fun u hu => load_any_op u (box_co_i hu (List.Mem.head _) HX.out) rfl) ?_ hw1; intro K hK; go_big_quiet_op; go_big_quiet_on)
  (refine wpG_val (v := .bool false) rfl rfl (fun u hu => gtZ_op u B1.out rfl rfl) ?_ hw1; intro K hK; go_big_quiet_op; go_big_quiet_on)
  iterate 2 (refine wpG_op rfl rfl rfl ?_; intro K hK; go_big_quiet_op; go_big_quiet_on)
  (refine wpG_val (v := .pointer (some ⟨w.heap.size, 33, none⟩)) rfl rfl (fun u hu => fieldCo_op (k := 1) (off := 33) (ad := ⟨w.heap.size, 0, none⟩) rfl u rfl) ?_ hw1; intro K hK; go_big_quiet_op; go_big_quiet_on)
  (refine wpG_val (v := .pointer (some ⟨w.heap.size, 33, none⟩)) rfl rfl (fun u hu => fieldOut_op (k := 0) (off := 0) (ad := ⟨w.heap.size, 33, none⟩) rfl u rfl) ?_ hw1; intro K hK; go_big_quiet_op; go_big_quiet_on)
  (refine wpG_val (v := .int .i64 x.v) rfl rfl (fun u hu => load_any_op u (box_co_v hu (List.Mem.head _) HX.out) rfl) ?_ hw1; intro K hK; go_big_quiet_op; go_big_quiet_on)
  (refine wpG_val (v := .bool false) rfl rfl (fun u hu => ltZ_op u B2.out rfl rfl) ?_ hw1; intro K hK; go_big_quiet_op; go_big_quiet_on)
  iterate 2 (refine wpG_op rfl rfl rfl ?_; intro K hK; go_big_quiet_op; go_big_quiet_on)
  (refine wpG_val (v := .pointer (some ⟨w.heap.size, 33, none⟩)) rfl rfl (fun u hu => fieldCo_op (k := 1) (off := 33) (ad := ⟨w.heap.size, 0, none⟩) rfl u rfl) ?_ hw1; intro K hK; go_big_quiet_op; go_big_quiet_on)
  (refine wpG_val (v := .pointer (some ⟨w.heap.size, 33, none⟩)) rfl rfl (fun u hu => fieldOut_op (k := 0) (off := 0) (ad := ⟨w.heap.size, 33, none⟩) rfl u rfl) ?_ hw1; intro K hK; go_big_quiet_op; go_big_quiet_on)
  (refine wpG_val (v := .int .i64 x.v) rfl rfl (fun u hu => load_any_op u (box_co_v hu (List.Mem.head _) HX.out) rfl) ?_ hw1; intro K hK; go_big_quiet_op; go_big_quiet_on)
  (refine wpG_val (v := .bool false) rfl rfl (fun u hu => gtZ_op u B3.out rfl rfl) ?_ hw1; intro K hK; go_big_quiet_op; go_big_quiet_on)
  iterate 2 (refine wpG_op rfl rfl rfl ?_; intro K hK; go_big_quiet_op; go_big_quiet_on)
  (refine wpG_val (v := .pointer (some ⟨w.heap.size, 33, none⟩)) rfl rfl (fun u hu => fieldCo_op (k := 1) (off := 33) (ad := ⟨w.heap.size, 0, none⟩) rfl u rfl) ?_ hw1; intro K hK; go_big_quiet_op; go_big_quiet_on)
  (refine wpG_val (v := .pointer (some ⟨w.heap.size, 34, none⟩)) rfl rfl (fun u hu => fieldOut_op (k := 1) (off := 1) (ad := ⟨w.heap.size, 33, none⟩) rfl u rfl) ?_ hw1; intro K hK; go_big_quiet_op; go_big_quiet_on)
  (refine wpG_val (v := .int .i64 x.to) rfl rfl (fun u hu => load_any_op u (box_co_to hu (List.Mem.head _) HX.out) rfl) ?_ hw1; intro K hK; go_big_quiet_op; go_big_quiet_on)
  (refine wpG_val (v := .bool false) rfl rfl (fun u hu => ltZ_op u B4.out rfl rfl) ?_ hw1; intro K hK; go_big_quiet_op; go_big_quiet_on)
  iterate 2 (refine wpG_op rfl rfl rfl ?_; intro K hK; go_big_quiet_op; go_big_quiet_on)
  (refine wpG_val (v := .pointer (some ⟨w.heap.size, 33, none⟩)) rfl rfl (fun u hu => fieldCo_op (k := 1) (off := 33) (ad := ⟨w.heap.size, 0, none⟩) rfl u rfl) ?_ hw1; intro K hK; go_big_quiet_op; go_big_quiet_on)
  (refine wpG_val (v := .pointer (some ⟨w.heap.size, 34, none⟩)) rfl rfl (fun u hu => fieldOut_op (k := 1) (off := 1) (ad := ⟨w.heap.size, 33, none⟩) rfl u rfl) ?_ hw1; intro K hK; go_big_quiet_op; go_big_quiet_on)
  (refine wpG_val (v := .int .i64 x.to) rfl rfl (fun u hu => load_any_op u (box_co_to hu (List.Mem.head _) HX.out) rfl) ?_ hw1; intro K hK; go_big_quiet_op; go_big_quiet_on)
  (refine wpG_val (v := .bool false) rfl rfl (fun u hu => gtZ_op u B5.out rfl rfl) ?_ hw1; intro K hK; go_big_quiet_op; go_big_quiet_on)
  iterate 2 (refine wpG_op rfl rfl rfl ?_; intro K hK; go_big_quiet_op; go_big_quiet_on)
  clear hone hw1
  refine wpG_nil ?_
  intro u3 E2'
  have EX2 := Lib.hid E2'
  clear E2'
  have HBE := Lib.hid (EnvX.bel EX2.out)
  go_wp2
  go_ret
  exact ⟨by rw [HF.out]; first | done | rfl, HBE.out⟩
def idxW (pf : CoinR → Bool) (p : List CoinR) : Int := match p.findIdx? pf with
  | some k => k
  | none => -1
theorem idxW_none {pf : CoinR → Bool} {p : List CoinR} (h : ∀ j, j < p.length → pf (p.getD j noC0) = false) : idxW pf p = -1 := by
  have e : p.findIdx? pf = none := List.findIdx?_eq_none_iff.2 fun c hc => by
    obtain ⟨j, hj, rfl⟩ := List.getElem_of_mem hc
    have := h j hj
    rw [List.getD_eq_getElem?_getD, List.getElem?_eq_getElem hj] at this
    simpa using this
  unfold idxW
  rw [e]
theorem idxW_hit {pf : CoinR → Bool} {p : List CoinR} {k : Nat} (hk : k < p.length) (h : pf (p.getD k noC0) = true) (hn : ∀ j, j < k → pf (p.getD j noC0) = false) : idxW pf p = (k : Int) := by
  have e : p.findIdx? pf = some k := List.findIdx?_eq_some_iff_getElem.2 ⟨hk, by
    rw [List.getD_eq_getElem?_getD, List.getElem?_eq_getElem hk] at h
    exact h, fun j hj => by
    have := hn j hj
    rw [List.getD_eq_getElem?_getD, List.getElem?_eq_getElem (show j < p.length by omega)] at this
    simpa using this⟩
  unfold idxW
  rw [e]
theorem idxW_any (pf : CoinR → Bool) (p : List CoinR) : decide (0 ≤ idxW pf p) = p.any pf := by
  unfold idxW
  cases h : p.findIdx? pf with
  | none =>
    have := List.findIdx?_eq_none_iff.1 h
    symm
    simp only [List.any_eq_false]
    show p.any pf = decide ((0 : Int) ≤ -1)
    rw [show decide ((0 : Int) ≤ -1) = false by decide, List.any_eq_false]
    exact fun c hc => by have := this c hc; simpa using this
  | some k =>
    obtain ⟨hk, h1, _⟩ := List.findIdx?_eq_some_iff_getElem.1 h
    symm
    show p.any pf = decide ((0 : Int) ≤ (k : Int))
    rw [decide_eq_true (by omega : (0 : Int) ≤ (k : Int)), List.any_eq_true]
    exact ⟨_, List.getElem_mem hk, h1⟩
set_option maxRecDepth 20000 in
set_option maxHeartbeats 8000000 in
theorem pindex_any (pf : CoinR → Bool) (p : List CoinR) (A : Option Addr) (n c : Nat) (w : World) (hl : p.length = n) (hnc : n ≤ c) (hcm : c ≤ maxLen) (hI : okP p) (hA : CoinsIn w w.heap.size A p)
    (hf : ∀ u, Below w.heap.size w u → ∀ y, lenC y → Calls Tryd.prog 39 #[coV y] u fun e w' => e = .returned (.bool (pf y)) ∧ Below u.heap.size u w') :
    Calls Tryd.prog 36 #[.slice A n c, .func (.func 39) #[] #[]] w fun e w' => e = .returned (.int .i64 (idxW pf p)) ∧ Below w.heap.size w w' := by
  have HL := Lib.hid hl
  have HPP := Lib.hid hI
  have HAA := Lib.hid hA
  have HN63 : Hid (n < 9223372036854775808) := by show _ < _; unfold maxLen at hcm; omega
  have HFN := Lib.hid hf
  have E1 : Hid (EnvX w w []) := EnvX.start w
  clear hl hnc hcm hI hA hf
  go_enter Tryd.func36, Tryd.ntmps36
  go_upto_region 1 with (fail)
  refine wp_region_Hx (w0 := w) [0, 1, 2] [] rfl E1.out ?_
  refine lexH_phase [0, 1, 2] [] ?_
  have hw1 : EnvX w _ [] := E1.out
  have hone := @EnvC.one _ _ _ hw1
  (refine wpG_op rfl rfl rfl ?_; intro K hK; go_big_quiet_op; go_big_quiet_on)
  (refine wpG_val (v := .int .i64 (n : Int)) rfl rfl (fun u hu => len_op Tryd.underlying22 HN63.out u rfl) ?_ hw1; intro K hK; go_big_quiet_op; go_big_quiet_on)
  (refine wpG_op rfl rfl rfl ?_; intro K hK; go_big_quiet_op; go_big_quiet_on)
  clear hone hw1
  refine wpG_nil ?_
  intro u3 E2'
  have EX2 := Lib.hid E2'
  clear E2'
  go_upto_region 2 with (fail)
  go_loopw [8] (fun iv u => ∃ i : Nat, i ≤ n ∧ iv = .int .i64 (i : Int) ∧ Hid ((∀ j, j < i → pf (p.getD j noC0) = false) ∧ EnvX w u [])) (fun iv _ => n - (intOf iv).toNat)
  case atStart => exact ⟨0, by omega, rfl, (fun j hj => by omega), EX2.out⟩
  case round =>
    obtain ⟨i, hi, rfl, hinv⟩ := hrel
    have H1 := Lib.hid hinv.out.1
    have EK := Lib.hid hinv.out.2
    clear hinv EX2 E1
    by_cases hlt : i < n
    · have C2 : Hid (decide ((i : Int) < (n : Int)) = true) := decide_eq_true (by omega)
      have HI := Lib.hid hlt
      have hil : i < p.length := by rw [HL.out]; exact hlt
      have HIL := Lib.hid hil
      obtain ⟨ad, rfl, -, hld⟩ := HAA.out.loads HPP.out hil
      have HLD := Lib.hid hld
      have HY : Hid (lenC (p.getD i noC0)) := (getP HPP.out hil).len
      obtain ⟨y, hy⟩ : ∃ y, p.getD i noC0 = y := ⟨_, rfl⟩
      have HYE := Lib.hid hy
      rw [hy] at HLD HY
      obtain ⟨b, hb⟩ : ∃ b, pf y = b := ⟨_, rfl⟩
      have HBV := Lib.hid hb
      have HBF : Hid (∀ u, Below w.heap.size w u → Calls Tryd.prog 39 #[coV y] u fun e w' => e = .returned (.bool b) ∧ Below u.heap.size u w') := fun u hu => by
        have h := HFN.out u hu y HY.out
        rwa [hb] at h
      clear hld hil hlt hy hb
      go_upto_region 2 with (fail)
      refine wp_region_Hx (w0 := w) [0] [] rfl EK.out ?_
      refine lexH_phase [0] [] ?_
      have hw31 : EnvX w _ [] := EK.out
      have hone := @EnvC.one _ _ _ hw31
      (refine wpG_val (v := .bool true) rfl rfl (fun u hu => ltZ_op u C2.out rfl rfl) ?_ hw31; intro K hK; go_big_quiet_op; go_big_quiet_on)
      clear hone hw31
      refine wpG_nil ?_
      intro u33 E2'
      have EX32 := Lib.hid E2'
      clear E2'
      go_upto_region 3 with (fail)
      refine wp_region_Hx (w0 := w) [0, 1] [] rfl EX32.out ?_
      refine lexH_phase [0, 1] [] ?_
      have hw34 : EnvX w _ [] := EX32.out
      have hone := @EnvC.one _ _ _ hw34
      iterate 2 (refine wpG_op rfl rfl rfl ?_; intro K hK; go_big_quiet_op; go_big_quiet_on)
      clear hone hw34
      refine wpG_nil ?_
      intro u36 E2'
      have EX35 := Lib.hid E2'
      clear E2'
      cases b with
      | true =>
        have HF : Hid (idxW pf p = (i : Int)) := idxW_hit HIL.out (by rw [HYE.out]; exact HBV.out) H1.out
        go_upto_region 4 with (fail)
        refine wp_region_Hx (w0 := w) [0, 1, 2, 3, 4, 5] [] rfl EX35.out ?_
        refine lexH_phase [0, 1, 2, 3, 4, 5] [] ?_
        have hw37 : EnvX w _ [] := EX35.out
        have hone := @EnvC.one _ _ _ hw37
        iterate 3 (refine wpG_op rfl rfl rfl ?_; intro K hK; go_big_quiet_op; go_big_quiet_on)
        (refine wpG_val (v := .pointer (some (ad.add (i * 35)))) rfl rfl (fun u hu => idxSl_op (i := i) Tryd.underlying22 aggCo.size HI.out u rfl rfl) ?_ hw37; intro K hK; go_big_quiet_op; go_big_quiet_on)
        (refine wpG_val (v := coV y) rfl rfl (fun u hu => load_any_op u (HLD.out u (EnvX.sub hu (fun _ h => by cases h))).1 rfl) ?_ hw37; intro K hK; go_big_quiet_op; go_big_quiet_on)
        (refine wpG_callV (f := 39) (args := #[coV y]) (caps := #[]) (all := #[coV y]) (v := .bool true) rfl rfl rfl rfl rfl Tryd.func39 rfl rfl (fun u hu => HBF.out u (EnvX.bel hu)) ?_ hw37; intro K hK; go_big_quiet_op; go_big_quiet_on)
        clear hone hw37
        refine wpG_nil ?_
        intro u39 E2'
        have EX38 := Lib.hid E2'
        clear E2'
        go_upto_region 5 with (fail)
        refine wp_region_Hx (w0 := w) [0, 1] [] rfl EX38.out ?_
        refine lexH_phase [0, 1] [] ?_
        have hw40 : EnvX w _ [] := EX38.out
        have hone := @EnvC.one _ _ _ hw40
        iterate 2 (refine wpG_op rfl rfl rfl ?_; intro K hK; go_big_quiet_op; go_big_quiet_on)
        clear hone hw40
        refine wpG_nil ?_
        intro u42 E2'
        have EX41 := Lib.hid E2'
        clear E2'
        have HBE := Lib.hid (EnvX.bel EX41.out)
        go_wp2
        go_ret
        exact ⟨by rw [HF.out]; first | done | rfl, HBE.out⟩
      | false =>
        have H3 : Hid (∀ j, j < i + 1 → pf (p.getD j noC0) = false) := fun j hj => by
          rcases Nat.lt_or_ge j i with h | h
          · exact H1.out j h
          · rw [show j = i by omega, HYE.out]; exact HBV.out
        go_upto_region 4 with (fail)
        refine wp_region_Hx (w0 := w) [0, 1, 2, 3, 4, 5] [] rfl EX35.out ?_
        refine lexH_phase [0, 1, 2, 3, 4, 5] [] ?_
        have hw37 : EnvX w _ [] := EX35.out
        have hone := @EnvC.one _ _ _ hw37
        iterate 3 (refine wpG_op rfl rfl rfl ?_; intro K hK; go_big_quiet_op; go_big_quiet_on)
        (refine wpG_val (v := .pointer (some (ad.add (i * 35)))) rfl rfl (fun u hu => idxSl_op (i := i) Tryd.underlying22 aggCo.size HI.out u rfl rfl) ?_ hw37; intro K hK; go_big_quiet_op; go_big_quiet_on)
        (refine wpG_val (v := coV y) rfl rfl (fun u hu => load_any_op u (HLD.out u (EnvX.sub hu (fun _ h => by cases h))).1 rfl) ?_ hw37; intro K hK; go_big_quiet_op; go_big_quiet_on)
        (refine wpG_callV (f := 39) (args := #[coV y]) (caps := #[]) (all := #[coV y]) (v := .bool false) rfl rfl rfl rfl rfl Tryd.func39 rfl rfl (fun u hu => HBF.out u (EnvX.bel hu)) ?_ hw37; intro K hK; go_big_quiet_op; go_big_quiet_on)
        clear hone hw37
        refine wpG_nil ?_
        intro u39 E2'
        have EX38 := Lib.hid E2'
        clear E2'
        have hii := HI.out
        have hn := HN63.out
        go_wp2
        go_roundw
        case rel => exact ⟨i + 1, by omega, by go_num, H3.out, EX38.out⟩
        case measure => simp [intOf]; omega
    · obtain rfl : i = n := by omega
      have C2 : Hid (decide ((i : Int) < (i : Int)) = false) := decide_eq_false (by omega)
      have HF : Hid (idxW pf p = -1) := idxW_none (by rw [HL.out]; exact H1.out)
      go_upto_region 2 with (fail)
      refine wp_region_Hx (w0 := w) [0] [] rfl EK.out ?_
      refine lexH_phase [0] [] ?_
      have hw201 : EnvX w _ [] := EK.out
      have hone := @EnvC.one _ _ _ hw201
      (refine wpG_val (v := .bool false) rfl rfl (fun u hu => ltZ_op u C2.out rfl rfl) ?_ hw201; intro K hK; go_big_quiet_op; go_big_quiet_on)
      clear hone hw201
      refine wpG_nil ?_
      intro u203 E2'
      have EX202 := Lib.hid E2'
      clear E2'
      go_upto_region 7 with (fail)
      refine wp_region_Hx (w0 := w) [0] [] rfl EX202.out ?_
      refine lexH_phase [0] [] ?_
      have hw204 : EnvX w _ [] := EX202.out
      have hone := @EnvC.one _ _ _ hw204
      (refine wpG_op rfl rfl rfl ?_; intro K hK; go_big_quiet_op; go_big_quiet_on)
      clear hone hw204
      refine wpG_nil ?_
      intro u206 E2'
      have EX205 := Lib.hid E2'
      clear E2'
      have HBE := Lib.hid (EnvX.bel EX205.out)
      go_wp2
      go_ret
      exact ⟨by rw [HF.out]; first | done | rfl, HBE.out⟩
set_option maxRecDepth 20000 in
set_option maxHeartbeats 8000000 in
theorem pcontains_any (p : List CoinR) (A : Option Addr) (n c : Nat) (w : World) (hl : p.length = n) (hnc : n ≤ c) (hcm : c ≤ maxLen) (hI : okP p) (hA : CoinsIn w w.heap.size A p) :
    Calls Tryd.prog 38 #[.slice A n c, .func (.func 39) #[] #[]] w fun e w' => e = .returned (.bool (p.any fun y => !boundC y)) ∧ Below w.heap.size w w' := by
  have HIX : Hid (∀ u, Below w.heap.size w u → Calls Tryd.prog 36 #[.slice A n c, .func (.func 39) #[] #[]] u fun e w' => e = .returned (.int .i64 (idxW (fun y => !boundC y) p)) ∧ Below u.heap.size u w') := fun u hu =>
    pindex_any _ p A n c u hl hnc hcm hI (CellsIn.up hA hu) (fun v _ y hy => pmayNot_any y v hy)
  have E1 : Hid (EnvX w w []) := EnvX.start w
  obtain ⟨b, hb⟩ : ∃ b, (p.any fun y => !boundC y) = b := ⟨_, rfl⟩
  have h1 := idxW_any (fun y => !boundC y) p
  rw [hb] at h1
  have HG := Lib.hid h1
  have HF := Lib.hid hb
  clear hl hnc hcm hI hA hb h1
  generalize idxW (fun y => !boundC y) p = k at *
  go_enter Tryd.func38, Tryd.ntmps38
  go_upto_region 1 with (fail)
  refine wp_region_Hx (w0 := w) [0, 1, 2, 3, 4] [] rfl E1.out ?_
  refine lexH_phase [0, 1, 2, 3, 4] [] ?_
  have hw1 : EnvX w _ [] := E1.out
  have hone := @EnvC.one _ _ _ hw1
  iterate 2 (refine wpG_op rfl rfl rfl ?_; intro K hK; go_big_quiet_op; go_big_quiet_on)
  (refine wpG_call (f := 36) (args := #[.slice A n c, .func (.func 39) #[] #[]]) (v := .int .i64 k) rfl rfl rfl Tryd.func36 rfl rfl (fun u hu => HIX.out u (EnvX.bel hu)) ?_ hw1; intro K hK; go_big_quiet_op; go_big_quiet_on)
  (refine wpG_val (v := .bool b) rfl rfl (fun u hu => geZ_op u HG.out rfl rfl) ?_ hw1; intro K hK; go_big_quiet_op; go_big_quiet_on)
  (refine wpG_op rfl rfl rfl ?_; intro K hK; go_big_quiet_op; go_big_quiet_on)
  clear hone hw1
  refine wpG_nil ?_
  intro u3 E2'
  have EX2 := Lib.hid E2'
  clear E2'
  have HBE := Lib.hid (EnvX.bel EX2.out)
  go_wp2
  go_ret
  exact ⟨by rw [HF.out]; first | done | rfl, HBE.out⟩
set_option maxRecDepth 20000 in
set_option maxHeartbeats 8000000 in
theorem pmayP_any (p : List CoinR) (A : Option Addr) (n c : Nat) (w : World) (hl : p.length = n) (hnc : n ≤ c) (hcm : c ≤ maxLen) (hI : okP p) (hA : CoinsIn w w.heap.size A p) :
    Calls Tryd.prog 20 #[.slice A n c] w fun e w' => e = .returned (.bool (mayP p)) ∧ Below w.heap.size w w' := by
  have HN63 : Hid (n < 9223372036854775808) := by show _ < _; unfold maxLen at hcm; omega
  have E1 : Hid (EnvX w w []) := EnvX.start w
  have hp := may_partsP p
  obtain ⟨b1, h1⟩ : ∃ b1, decide (p.length ≤ 48) = b1 := ⟨_, rfl⟩
  obtain ⟨b2, h2⟩ : ∃ b2, decide (upP p) = b2 := ⟨_, rfl⟩
  obtain ⟨b3, h3⟩ : ∃ b3, (p.any fun y => !boundC y) = b3 := ⟨_, rfl⟩
  rw [h1, h2, h3] at hp
  have HF := Lib.hid hp
  have C2 : Hid (decide ((n : Int) ≤ 48) = b1) := by show _ = _; rw [← h1, hl]; exact decide_eq_decide.2 ⟨fun h => by omega, fun h => by omega⟩
  have HIN : Hid (∀ u, Below w.heap.size w u → Calls Tryd.prog 34 #[.slice A n c] u fun e w' => e = .returned (.bool b2) ∧ Below u.heap.size u w') := fun u hu => by
    have h := pinOrder_any p A n c u hl hnc hcm hI (CellsIn.up hA hu)
    rwa [h2] at h
  have HCN : Hid (∀ u, Below w.heap.size w u → Calls Tryd.prog 38 #[.slice A n c, .func (.func 39) #[] #[]] u fun e w' => e = .returned (.bool b3) ∧ Below u.heap.size u w') := fun u hu => by
    have h := pcontains_any p A n c u hl hnc hcm hI (CellsIn.up hA hu)
    rwa [h3] at h
  clear hl hnc hcm hI hA h1 h2 h3 hp
  cases b1 with
  | false =>
    go_enter Tryd.func20, Tryd.ntmps20
    go_upto_region 1 with (fail)
    refine wp_region_Hx (w0 := w) [0, 1, 2, 3, 4, 5, 6, 7, 8, 9, 10, 11, 12] [] rfl E1.out ?_
    refine lexH_phase [0, 1, 2, 3, 4, 5, 6, 7, 8, 9, 10, 11, 12] [] ?_
    have hw1 : EnvX w _ [] := E1.out
    have hone := @EnvC.one _ _ _ hw1
    (refine wpG_op rfl rfl rfl ?_; intro K hK; go_big_quiet_op; go_big_quiet_on)
    (refine wpG_val (v := .int .i64 (n : Int)) rfl rfl (fun u hu => len_op Tryd.underlying22 HN63.out u rfl) ?_ hw1; intro K hK; go_big_quiet_op; go_big_quiet_on)
    (refine wpG_val (v := .bool false) rfl rfl (fun u hu => leZ_op u C2.out rfl rfl) ?_ hw1; intro K hK; go_big_quiet_op; go_big_quiet_on)
    (refine wpG_op rfl rfl rfl ?_; intro K hK; go_big_quiet_op; go_big_quiet_on)
    iterate 2 (refine wpG_skip rfl rfl ?_ hw1; intro K hK; go_big_quiet_op; go_big_quiet_on)
    iterate 2 (refine wpG_op rfl rfl rfl ?_; intro K hK; go_big_quiet_op; go_big_quiet_on)
    iterate 3 (refine wpG_skip rfl rfl ?_ hw1; intro K hK; go_big_quiet_op; go_big_quiet_on)
    iterate 2 (refine wpG_op rfl rfl rfl ?_; intro K hK; go_big_quiet_op; go_big_quiet_on)
    clear hone hw1
    refine wpG_nil ?_
    intro u3 E2'
    have EX2 := Lib.hid E2'
    clear E2'
    have HBE := Lib.hid (EnvX.bel EX2.out)
    go_wp2
    go_ret
    exact ⟨by rw [HF.out]; first | done | rfl, HBE.out⟩
  | true =>
    cases b2 with
    | false =>
      go_enter Tryd.func20, Tryd.ntmps20
      go_upto_region 1 with (fail)
      refine wp_region_Hx (w0 := w) [0, 1, 2, 3, 4, 5, 6, 7, 8, 9, 10, 11, 12] [] rfl E1.out ?_
      refine lexH_phase [0, 1, 2, 3, 4, 5, 6, 7, 8, 9, 10, 11, 12] [] ?_
      have hw1 : EnvX w _ [] := E1.out
      have hone := @EnvC.one _ _ _ hw1
      (refine wpG_op rfl rfl rfl ?_; intro K hK; go_big_quiet_op; go_big_quiet_on)
      (refine wpG_val (v := .int .i64 (n : Int)) rfl rfl (fun u hu => len_op Tryd.underlying22 HN63.out u rfl) ?_ hw1; intro K hK; go_big_quiet_op; go_big_quiet_on)
      (refine wpG_val (v := .bool true) rfl rfl (fun u hu => leZ_op u C2.out rfl rfl) ?_ hw1; intro K hK; go_big_quiet_op; go_big_quiet_on)
      iterate 2 (refine wpG_op rfl rfl rfl ?_; intro K hK; go_big_quiet_op; go_big_quiet_on)
      (refine wpG_call (f := 34) (args := #[.slice A n c]) (v := .bool false) rfl rfl rfl Tryd.func34 rfl rfl (fun u hu => HIN.out u (EnvX.bel hu)) ?_ hw1; intro K hK; go_big_quiet_op; go_big_quiet_on)
      iterate 2 (refine wpG_op rfl rfl rfl ?_; intro K hK; go_big_quiet_op; go_big_quiet_on)
      iterate 3 (refine wpG_skip rfl rfl ?_ hw1; intro K hK; go_big_quiet_op; go_big_quiet_on)
      iterate 2 (refine wpG_op rfl rfl rfl ?_; intro K hK; go_big_quiet_op; go_big_quiet_on)
      clear hone hw1
      refine wpG_nil ?_
      intro u3 E2'
      have EX2 := Lib.hid E2'
      clear E2'
      have HBE := Lib.hid (EnvX.bel EX2.out)
      go_wp2
      go_ret
      exact ⟨by rw [HF.out]; first | done | rfl, HBE.out⟩
    | true =>
      cases b3 with
      | false =>
        go_enter Tryd.func20, Tryd.ntmps20
        go_upto_region 1 with (fail)
        refine wp_region_Hx (w0 := w) [0, 1, 2, 3, 4, 5, 6, 7, 8, 9, 10, 11, 12] [] rfl E1.out ?_
        refine lexH_phase [0, 1, 2, 3, 4, 5, 6, 7, 8, 9, 10, 11, 12] [] ?_
        have hw1 : EnvX w _ [] := E1.out
        have hone := @EnvC.one _ _ _ hw1
        (refine wpG_op rfl rfl rfl ?_; intro K hK; go_big_quiet_op; go_big_quiet_on)
        (refine wpG_val (v := .int .i64 (n : Int)) rfl rfl (fun u hu => len_op Tryd.underlying22 HN63.out u rfl) ?_ hw1; intro K hK; go_big_quiet_op; go_big_quiet_on)
        (refine wpG_val (v := .bool true) rfl rfl (fun u hu => leZ_op u C2.out rfl rfl) ?_ hw1; intro K hK; go_big_quiet_op; go_big_quiet_on)
        iterate 2 (refine wpG_op rfl rfl rfl ?_; intro K hK; go_big_quiet_op; go_big_quiet_on)
        (refine wpG_call (f := 34) (args := #[.slice A n c]) (v := .bool true) rfl rfl rfl Tryd.func34 rfl rfl (fun u hu => HIN.out u (EnvX.bel hu)) ?_ hw1; intro K hK; go_big_quiet_op; go_big_quiet_on)
        iterate 3 (refine wpG_op rfl rfl rfl ?_; intro K hK; go_big_quiet_op; go_big_quiet_on)
        (refine wpG_call (f := 38) (args := #[.slice A n c, .func (.func 39) #[] #[]]) (v := .bool false) rfl rfl rfl Tryd.func38 rfl rfl (fun u hu => HCN.out u (EnvX.bel hu)) ?_ hw1; intro K hK; go_big_quiet_op; go_big_quiet_on)
        iterate 3 (refine wpG_op rfl rfl rfl ?_; intro K hK; go_big_quiet_op; go_big_quiet_on)
        clear hone hw1
        refine wpG_nil ?_
        intro u3 E2'
        have EX2 := Lib.hid E2'
        clear E2'
        have HBE := Lib.hid (EnvX.bel EX2.out)
        go_wp2
        go_ret
        exact ⟨by rw [HF.out]; first | done | rfl, HBE.out⟩
      | true =>
        go_enter Tryd.func20, Tryd.ntmps20
        go_upto_region 1 with (fail)
        refine wp_region_Hx (w0 := w) [0, 1, 2, 3, 4, 5, 6, 7, 8, 9, 10, 11, 12] [] rfl E1.out ?_
        refine lexH_phase [0, 1, 2, 3, 4, 5, 6, 7, 8, 9, 10, 11, 12] [] ?_
        have hw1 : EnvX w _ [] := E1.out
        have hone := @EnvC.one _ _ _ hw1
        (refine wpG_op rfl rfl rfl ?_; intro K hK; go_big_quiet_op; go_big_quiet_on)
        (refine wpG_val (v := .int .i64 (n : Int)) rfl rfl (fun u hu => len_op Tryd.underlying22 HN63.out u rfl) ?_ hw1; intro K hK; go_big_quiet_op; go_big_quiet_on)
        (refine wpG_val (v := .bool true) rfl rfl (fun u hu => leZ_op u C2.out rfl rfl) ?_ hw1; intro K hK; go_big_quiet_op; go_big_quiet_on)
        iterate 2 (refine wpG_op rfl rfl rfl ?_; intro K hK; go_big_quiet_op; go_big_quiet_on)
        (refine wpG_call (f := 34) (args := #[.slice A n c]) (v := .bool true) rfl rfl rfl Tryd.func34 rfl rfl (fun u hu => HIN.out u (EnvX.bel hu)) ?_ hw1; intro K hK; go_big_quiet_op; go_big_quiet_on)
        iterate 3 (refine wpG_op rfl rfl rfl ?_; intro K hK; go_big_quiet_op; go_big_quiet_on)
        (refine wpG_call (f := 38) (args := #[.slice A n c, .func (.func 39) #[] #[]]) (v := .bool true) rfl rfl rfl Tryd.func38 rfl rfl (fun u hu => HCN.out u (EnvX.bel hu)) ?_ hw1; intro K hK; go_big_quiet_op; go_big_quiet_on)
        iterate 3 (refine wpG_op rfl rfl rfl ?_; intro K hK; go_big_quiet_op; go_big_quiet_on)
        clear hone hw1
        refine wpG_nil ?_
        intro u3 E2'
        have EX2 := Lib.hid E2'
        clear E2'
        have HBE := Lib.hid (EnvX.bel EX2.out)
        go_wp2
        go_ret
        exact ⟨by rw [HF.out]; first | done | rfl, HBE.out⟩
end Go.Proofs.YtabhhbdbkeeblaaDoor
