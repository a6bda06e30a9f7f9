/- Part of a proof. -/
import Derived.Test.YtabhhbdbkeeblaaDoorPurseTellsPc
namespace Go.Proofs.YtabhhbdbkeeblaaDoor
set_option maxRecDepth 8000
open Go.RowKit
theorem thereP_none {p : List CoinR} {id : List Int} (h : ∀ j, j < p.length → (p.getD j noC0).tx ≠ id) : thereP p id = false := by
  unfold thereP
  rw [List.any_eq_false]
  intro c hc
  obtain ⟨j, hj, rfl⟩ := List.getElem_of_mem hc
  have := h j hj
  rw [List.getD_eq_getElem?_getD, List.getElem?_eq_getElem hj] at this
  simpa using this
set_option maxRecDepth 20000 in
set_option maxHeartbeats 8000000 in
theorem rfindP_any (p : List CoinR) (A : Option Addr) (n c : Nat) (x : InR) (w : World) (hl : p.length = n) (hnc : n ≤ c) (hcm : c ≤ maxLen) (hI : okP p) (hA : CoinsIn w w.heap.size A p) (hx : lenI x) :
    Calls Tryd.prog 19 #[.slice A n c, inV x] w fun e w' => e = .returned (.int .i64 (findP p x)) ∧ Below w.heap.size w w' := by
  have HL := Lib.hid hl
  have HPP := Lib.hid hI
  have HAA := Lib.hid hA
  have HN63 : Hid (n < 9223372036854775808) := by show _ < _; unfold maxLen at hcm; omega
  have HX := Lib.hid hx
  have E1 : Hid (EnvX w (w.alloc (.cells (inA x) 42)) [(w.heap.size, Obj.cells (inA x) 42 (0, 0))]) := (EnvX.start w).new _
  clear hl hnc hcm hI hA hx
  unfold inV
  go_enter Tryd.func19, Tryd.ntmps19
  go_upto_region 2 with (fail)
  generalize w.alloc (.cells (inA x) 42) = W at *
  go_loopw [5] (fun iv u => ∃ i : Nat, i ≤ n ∧ iv = .int .i64 (i : Int) ∧ Hid ((∀ j, j < i → keyC (p.getD j noC0) ≠ x) ∧ EnvX w u [(w.heap.size, Obj.cells (inA x) 42 (0, 0))])) (fun iv _ => n - (intOf iv).toNat)
  case atStart => exact ⟨0, by omega, rfl, (fun j hj => by omega), E1.out⟩
  case round =>
    obtain ⟨i, hi, rfl, hinv⟩ := hrel
    have H1 := Lib.hid hinv.out.1
    have EK := Lib.hid hinv.out.2
    clear hinv E1
    by_cases hlt : i < n
    · have C2 : Hid (decide ((i : Int) < (n : Int)) = true) := decide_eq_true (by omega)
      have HI := Lib.hid hlt
      have hil : i < p.length := by rw [HL.out]; exact hlt
      have HIL := Lib.hid hil
      obtain ⟨ad, rfl, -, hld⟩ := HAA.out.loads HPP.out hil
      have HLD := Lib.hid hld
      have HY : Hid (lenC (p.getD i noC0)) := (getP HPP.out hil).len
      obtain ⟨y, hy⟩ : ∃ y, p.getD i noC0 = y := ⟨_, rfl⟩
      have HYE := Lib.hid hy
      rw [hy] at HLD HY
      obtain ⟨b, hb⟩ : ∃ b, eqI (keyC y) x = b := ⟨_, rfl⟩
      have HEQ := Lib.hid hb
      clear hld hil hlt hy hb
      go_upto_region 2 with (fail)
      refine wp_region_Hx (w0 := w) [0, 1, 2, 3] [(w.heap.size, Obj.cells (inA x) 42 (0, 0))] rfl EK.out ?_
      refine lexH_phase [0, 1, 2, 3] [] ?_
      have hw11 : EnvX w _ [(w.heap.size, Obj.cells (inA x) 42 (0, 0))] := EK.out
      have hone := @EnvC.one _ _ _ hw11
      iterate 2 (refine wpG_op rfl rfl rfl ?_; intro K hK; go_big_quiet_op; go_big_quiet_on)
      (refine wpG_val (v := .int .i64 (n : Int)) rfl rfl (fun u hu => len_op Tryd.underlying22 HN63.out u rfl) ?_ hw11; intro K hK; go_big_quiet_op; go_big_quiet_on)
      (refine wpG_val (v := .bool true) rfl rfl (fun u hu => ltZ_op u C2.out rfl rfl) ?_ hw11; intro K hK; go_big_quiet_op; go_big_quiet_on)
      clear hone hw11
      refine wpG_nil ?_
      intro u13 E2'
      have EX12 := Lib.hid E2'
      clear E2'
      cases b with
      | true =>
        have HF : Hid (findP p x = (i : Int)) := findP_hit0 HIL.out (by rw [HYE.out]; exact of_decide_eq_true HEQ.out) H1.out
        go_upto_region 4 with (fail)
        refine wp_region_H (w0 := w) [(w.heap.size, Obj.cells (inA x) 42 (0, 0))] (by kernel_rfl) EX12.out ?_
        refine anyH_phase [0, 1, 2, 3, 4, 5, 6] 0 rfl ⟨_, (EnvX.drew EX12.out)⟩ (by kernel_rfl) ?_
        have hw14 : EnvX w _ [(w.heap.size, Obj.cells (inA x) 42 (0, 0))] := (EnvX.drew EX12.out)
        have hone := @EnvC.one _ _ _ hw14
        iterate 2 (refine wpG_op rfl rfl rfl ?_; intro K hK; go_big_quiet_op; go_big_quiet_on)
        (refine wpG_val (v := .pointer (some (ad.add (i * 35)))) rfl rfl (fun u hu => idxSl_op (i := i) Tryd.underlying22 aggCo.size HI.out u rfl rfl) ?_ hw14; intro K hK; go_big_quiet_op; go_big_quiet_on)
        (refine wpG_val (v := .pointer (some ((ad.add (i * 35)).add 0))) rfl rfl (fun u hu => fieldCo_op (k := 0) (off := 0) rfl u rfl) ?_ hw14; intro K hK; go_big_quiet_op; go_big_quiet_on)
        (refine wpG_val (v := inV (keyC y)) rfl rfl (fun u hu => load_any_op u (by have h := (HLD.out u (EnvX.sub hu (fun _ h => by cases h))).2.1; rwa [show ((ad.add (i * 35)).add 0) = ad.add (i * 35) by unfold Addr.add; rfl]) rfl) ?_ hw14; intro K hK; go_big_quiet_op; go_big_quiet_on)
        (refine wpG_val (v := inV x) rfl rfl (fun u hu => load_any_op u (box_in hu (List.Mem.head _) HX.out) rfl) ?_ hw14; intro K hK; go_big_quiet_op; go_big_quiet_on)
        (refine wpG_val (v := .bool true) rfl rfl (fun u hu => eqlIn_op (show lenI (keyC y) from HY.out) HX.out HEQ.out u rfl rfl) ?_ hw14; intro K hK; go_big_quiet_op; go_big_quiet_on)
        clear hone hw14
        refine wpG_nil ?_
        refine anyH_done (by kernel_rfl) ?_
        intro u16 E2'
        have EX15 := Lib.hid E2'
        clear E2'
        go_upto_region 5 with (fail)
        refine wp_region_Hx (w0 := w) [0, 1] [(w.heap.size, Obj.cells (inA x) 42 (0, 0))] rfl EX15.out ?_
        refine lexH_phase [0, 1] [] ?_
        have hw17 : EnvX w _ [(w.heap.size, Obj.cells (inA x) 42 (0, 0))] := EX15.out
        have hone := @EnvC.one _ _ _ hw17
        iterate 2 (refine wpG_op rfl rfl rfl ?_; intro K hK; go_big_quiet_op; go_big_quiet_on)
        clear hone hw17
        refine wpG_nil ?_
        intro u19 E2'
        have EX18 := Lib.hid E2'
        clear E2'
        have HBE := Lib.hid (EnvX.bel EX18.out)
        go_wp2
        go_ret
        exact ⟨by rw [HF.out]; first | done | rfl, HBE.out⟩
      | false =>
        have H3 : Hid (∀ j, j < i + 1 → keyC (p.getD j noC0) ≠ x) := fun j hj => by
          rcases Nat.lt_or_ge j i with h | h
          · exact H1.out j h
          · rw [show j = i by omega, HYE.out]; exact of_decide_eq_false HEQ.out
        go_upto_region 4 with (fail)
        refine wp_region_H (w0 := w) [(w.heap.size, Obj.cells (inA x) 42 (0, 0))] (by kernel_rfl) EX12.out ?_
        refine anyH_phase [0, 1, 2, 3, 4, 5, 6] 0 rfl ⟨_, (EnvX.drew EX12.out)⟩ (by kernel_rfl) ?_
        have hw14 : EnvX w _ [(w.heap.size, Obj.cells (inA x) 42 (0, 0))] := (EnvX.drew EX12.out)
        have hone := @EnvC.one _ _ _ hw14
        iterate 2 (refine wpG_op rfl rfl rfl ?_; intro K hK; go_big_quiet_op; go_big_quiet_on)
        (refine wpG_val (v := .pointer (some (ad.add (i * 35)))) rfl rfl (fun u hu => idxSl_op (i := i) Tryd.underlying22 aggCo.size HI.out u rfl rfl) ?_ hw14; intro K hK; go_big_quiet_op; go_big_quiet_on)
        (refine wpG_val (v := .pointer (some ((ad.add (i * 35)).add 0))) rfl rfl (fun u hu => fieldCo_op (k := 0) (off := 0) rfl u rfl) ?_ hw14; intro K hK; go_big_quiet_op; go_big_quiet_on)
        (refine wpG_val (v := inV (keyC y)) rfl rfl (fun u hu => load_any_op u (by have h := (HLD.out u (EnvX.sub hu (fun _ h => by cases h))).2.1; rwa [show ((ad.add (i * 35)).add 0) = ad.add (i * 35) by unfold Addr.add; rfl]) rfl) ?_ hw14; intro K hK; go_big_quiet_op; go_big_quiet_on)
        (refine wpG_val (v := inV x) rfl rfl (fun u hu => load_any_op u (box_in hu (List.Mem.head _) HX.out) rfl) ?_ hw14; intro K hK; go_big_quiet_op; go_big_quiet_on)
        (refine wpG_val (v := .bool false) rfl rfl (fun u hu => eqlIn_op (show lenI (keyC y) from HY.out) HX.out HEQ.out u rfl rfl) ?_ hw14; intro K hK; go_big_quiet_op; go_big_quiet_on)
        clear hone hw14
        refine wpG_nil ?_
        refine anyH_done (by kernel_rfl) ?_
        intro u16 E2'
        have EX15 := Lib.hid E2'
        clear E2'
        have hii := HI.out
        have hn := HN63.out
        go_wp2
        go_roundw
        case rel => exact ⟨i + 1, by omega, by go_num, H3.out, EX15.out⟩
        case measure => simp [intOf]; omega
    · obtain rfl : i = n := by omega
      have C2 : Hid (decide ((i : Int) < (i : Int)) = false) := decide_eq_false (by omega)
      have HF : Hid (findP p x = -1) := findP_none0 (by rw [HL.out]; exact H1.out)
      go_upto_region 2 with (fail)
      refine wp_region_Hx (w0 := w) [0, 1, 2, 3] [(w.heap.size, Obj.cells (inA x) 42 (0, 0))] rfl EK.out ?_
      refine lexH_phase [0, 1, 2, 3] [] ?_
      have hw201 : EnvX w _ [(w.heap.size, Obj.cells (inA x) 42 (0, 0))] := EK.out
      have hone := @EnvC.one _ _ _ hw201
      iterate 2 (refine wpG_op rfl rfl rfl ?_; intro K hK; go_big_quiet_op; go_big_quiet_on)
      (refine wpG_val (v := .int .i64 (i : Int)) rfl rfl (fun u hu => len_op Tryd.underlying22 HN63.out u rfl) ?_ hw201; intro K hK; go_big_quiet_op; go_big_quiet_on)
      (refine wpG_val (v := .bool false) rfl rfl (fun u hu => ltZ_op u C2.out rfl rfl) ?_ hw201; intro K hK; go_big_quiet_op; go_big_quiet_on)
      clear hone hw201
      refine wpG_nil ?_
      intro u203 E2'
      have EX202 := Lib.hid E2'
      clear E2'
      have HBE := Lib.hid (EnvX.bel EX202.out)
      go_wp2
      go_ret
      exact ⟨by rw [HF.out]; first | done | rfl, HBE.out⟩
set_option maxRecDepth 20000 in
set_option maxHeartbeats 8000000 in
theorem rsameP_any (p q : List CoinR) (A A' : Option Addr) (n c m c' : Nat) (w : World) (hl : p.length = n) (hnc : n ≤ c) (hcm : c ≤ maxLen) (hI : okP p) (hA : CoinsIn w w.heap.size A p) (hl' : q.length = m) (hnc' : m ≤ c') (hcm' : c' ≤ maxLen) (hI' : okP q) (hA' : CoinsIn w w.heap.size A' q) :
    Calls Tryd.prog 16 #[.slice A n c, .slice A' m c'] w fun e w' => e = .returned (.bool (samePu p q)) ∧ Below w.heap.size w w' := by
  have HL := Lib.hid hl
  have HPP := Lib.hid hI
  have HAA := Lib.hid hA
  have HN63 : Hid (n < 9223372036854775808) := by show _ < _; unfold maxLen at hcm; omega
  have HL' := Lib.hid hl'
  have HPP' := Lib.hid hI'
  have HAA' := Lib.hid hA'
  have HM63 : Hid (m < 9223372036854775808) := by show _ < _; unfold maxLen at hcm'; omega
  have E1 : Hid (EnvX w w []) := EnvX.start w
  clear hl hnc hcm hI hA hl' hnc' hcm' hI' hA'
  by_cases d4 : n = m
  case neg =>
    have D4 : Hid (decide ((n : Int) ≠ (m : Int)) = true) := decide_eq_true (by omega)
    have HF : Hid (samePu p q = false) := decide_eq_false fun e => d4 (by rw [← HL.out, ← HL'.out, e])
    clear d4
    go_enter Tryd.func16, Tryd.ntmps16
    go_upto_region 1 with (fail)
    refine wp_region_Hx (w0 := w) [0, 1, 2, 3, 4] [] rfl E1.out ?_
    refine lexH_phase [0, 1, 2, 3, 4] [] ?_
    have hw1 : EnvX w _ [] := E1.out
    have hone := @EnvC.one _ _ _ hw1
    (refine wpG_op rfl rfl rfl ?_; intro K hK; go_big_quiet_op; go_big_quiet_on)
    (refine wpG_val (v := .int .i64 (n : Int)) rfl rfl (fun u hu => len_op Tryd.underlying22 HN63.out u rfl) ?_ hw1; intro K hK; go_big_quiet_op; go_big_quiet_on)
    (refine wpG_op rfl rfl rfl ?_; intro K hK; go_big_quiet_op; go_big_quiet_on)
    (refine wpG_val (v := .int .i64 (m : Int)) rfl rfl (fun u hu => len_op Tryd.underlying22 HM63.out u rfl) ?_ hw1; intro K hK; go_big_quiet_op; go_big_quiet_on)
    (refine wpG_val (v := .bool true) rfl rfl (fun u hu => neZ_op u D4.out rfl rfl) ?_ hw1; intro K hK; go_big_quiet_op; go_big_quiet_on)
    clear hone hw1
    refine wpG_nil ?_
    intro u3 E2'
    have EX2 := Lib.hid E2'
    clear E2'
    have HBE := Lib.hid (EnvX.bel EX2.out)
    go_wp2
    go_ret
    exact ⟨by rw [HF.out]; first | done | rfl, HBE.out⟩
  have D4 : Hid (decide ((n : Int) ≠ (m : Int)) = false) := decide_eq_false (by omega)
  subst d4
  go_enter Tryd.func16, Tryd.ntmps16
  go_upto_region 1 with (fail)
  refine wp_region_Hx (w0 := w) [0, 1, 2, 3, 4] [] rfl E1.out ?_
  refine lexH_phase [0, 1, 2, 3, 4] [] ?_
  have hw1 : EnvX w _ [] := E1.out
  have hone := @EnvC.one _ _ _ hw1
  (refine wpG_op rfl rfl rfl ?_; intro K hK; go_big_quiet_op; go_big_quiet_on)
  (refine wpG_val (v := .int .i64 (n : Int)) rfl rfl (fun u hu => len_op Tryd.underlying22 HN63.out u rfl) ?_ hw1; intro K hK; go_big_quiet_op; go_big_quiet_on)
  (refine wpG_op rfl rfl rfl ?_; intro K hK; go_big_quiet_op; go_big_quiet_on)
  (refine wpG_val (v := .int .i64 (n : Int)) rfl rfl (fun u hu => len_op Tryd.underlying22 HM63.out u rfl) ?_ hw1; intro K hK; go_big_quiet_op; go_big_quiet_on)
  (refine wpG_val (v := .bool false) rfl rfl (fun u hu => neZ_op u D4.out rfl rfl) ?_ hw1; intro K hK; go_big_quiet_op; go_big_quiet_on)
  clear hone hw1
  refine wpG_nil ?_
  intro u3 E2'
  have EX2 := Lib.hid E2'
  clear E2'
  have EJ := Lib.hid EX2.out
  clear EX2 E1
  go_upto_region 4 with (fail)
  go_loopw [5] (fun iv u => ∃ i : Nat, i ≤ n ∧ iv = .int .i64 (i : Int) ∧ Hid ((∀ j, j < i → p.getD j noC0 = q.getD j noC0) ∧ EnvX w u [])) (fun iv _ => n - (intOf iv).toNat)
  case atStart => exact ⟨0, by omega, rfl, (fun j hj => by omega), EJ.out⟩
  case round =>
    obtain ⟨i, hi, rfl, hinv⟩ := hrel
    have H1 := Lib.hid hinv.out.1
    have EK := Lib.hid hinv.out.2
    clear hinv EJ
    by_cases hlt : i < n
    · have C4 : Hid (decide ((i : Int) < (n : Int)) = true) := decide_eq_true (by omega)
      have HI := Lib.hid hlt
      have hil : i < p.length := by rw [HL.out]; exact hlt
      have HIL := Lib.hid hil
      obtain ⟨ad, rfl, -, hld⟩ := HAA.out.loads HPP.out hil
      have HLD := Lib.hid hld
      have HY : Hid (lenC (p.getD i noC0)) := (getP HPP.out hil).len
      obtain ⟨y, hy⟩ : ∃ y, p.getD i noC0 = y := ⟨_, rfl⟩
      have HYE := Lib.hid hy
      rw [hy] at HLD HY
      have hil2 : i < q.length := by rw [HL'.out]; exact hlt
      obtain ⟨ad2, rfl, -, hld2⟩ := HAA'.out.loads HPP'.out hil2
      have HLD2 := Lib.hid hld2
      have HZ : Hid (lenC (q.getD i noC0)) := (getP HPP'.out hil2).len
      obtain ⟨z, hz⟩ : ∃ z, q.getD i noC0 = z := ⟨_, rfl⟩
      have HZE := Lib.hid hz
      rw [hz] at HLD2 HZ
      obtain ⟨b, hb⟩ : ∃ b, (!eqC y z) = b := ⟨_, rfl⟩
      have HEQ := Lib.hid hb
      clear hld hil hlt hy hb hil2 hld2 hz
      go_upto_region 4 with (fail)
      refine wp_region_Hx (w0 := w) [0, 1, 2, 3] [] rfl EK.out ?_
      refine lexH_phase [0, 1, 2, 3] [] ?_
      have hw41 : EnvX w _ [] := EK.out
      have hone := @EnvC.one _ _ _ hw41
      iterate 2 (refine wpG_op rfl rfl rfl ?_; intro K hK; go_big_quiet_op; go_big_quiet_on)
      (refine wpG_val (v := .int .i64 (n : Int)) rfl rfl (fun u hu => len_op Tryd.underlying22 HN63.out u rfl) ?_ hw41; intro K hK; go_big_quiet_op; go_big_quiet_on)
      (refine wpG_val (v := .bool true) rfl rfl (fun u hu => ltZ_op u C4.out rfl rfl) ?_ hw41; intro K hK; go_big_quiet_op; go_big_quiet_on)
      clear hone hw41
      refine wpG_nil ?_
      intro u43 E2'
      have EX42 := Lib.hid E2'
      clear E2'
      cases b with
      | true =>
        have HF : Hid (samePu p q = false) := decide_eq_false fun e => by
          have h1 := HEQ.out
          rw [← HYE.out, ← HZE.out, e] at h1
          unfold eqC at h1
          simp at h1
        go_upto_region 6 with (fail)
        refine wp_region_H (w0 := w) [] (by kernel_rfl) EX42.out ?_
        refine anyH_phase [0, 1, 2, 3, 4, 5, 6, 7, 8] 0 rfl ⟨_, (EnvX.drew EX42.out)⟩ (by kernel_rfl) ?_
        have hw44 : EnvX w _ [] := (EnvX.drew EX42.out)
        have hone := @EnvC.one _ _ _ hw44
        iterate 2 (refine wpG_op rfl rfl rfl ?_; intro K hK; go_big_quiet_op; go_big_quiet_on)
        (refine wpG_val (v := .pointer (some (ad.add (i * 35)))) rfl rfl (fun u hu => idxSl_op (i := i) Tryd.underlying22 aggCo.size HI.out u rfl rfl) ?_ hw44; intro K hK; go_big_quiet_op; go_big_quiet_on)
        (refine wpG_val (v := coV y) rfl rfl (fun u hu => load_any_op u (HLD.out u (EnvX.sub hu (fun _ h => by cases h))).1 rfl) ?_ hw44; intro K hK; go_big_quiet_op; go_big_quiet_on)
        iterate 2 (refine wpG_op rfl rfl rfl ?_; intro K hK; go_big_quiet_op; go_big_quiet_on)
        (refine wpG_val (v := .pointer (some (ad2.add (i * 35)))) rfl rfl (fun u hu => idxSl_op (i := i) Tryd.underlying22 aggCo.size HI.out u rfl rfl) ?_ hw44; intro K hK; go_big_quiet_op; go_big_quiet_on)
        (refine wpG_val (v := coV z) rfl rfl (fun u hu => load_any_op u (HLD2.out u (EnvX.sub hu (fun _ h => by cases h))).1 rfl) ?_ hw44; intro K hK; go_big_quiet_op; go_big_quiet_on)
        (refine wpG_val (v := .bool true) rfl rfl (fun u hu => neqCo_op HY.out HZ.out HEQ.out u rfl rfl) ?_ hw44; intro K hK; go_big_quiet_op; go_big_quiet_on)
        clear hone hw44
        refine wpG_nil ?_
        refine anyH_done (by kernel_rfl) ?_
        intro u46 E2'
        have EX45 := Lib.hid E2'
        clear E2'
        have HBE := Lib.hid (EnvX.bel EX45.out)
        go_wp2
        go_ret
        exact ⟨by rw [HF.out]; first | done | rfl, HBE.out⟩
      | false =>
        have H3 : Hid (∀ j, j < i + 1 → p.getD j noC0 = q.getD j noC0) := fun j hj => by
          rcases Nat.lt_or_ge j i with h | h
          · exact H1.out j h
          · rw [show j = i by omega, HYE.out, HZE.out]
            have h1 := HEQ.out
            unfold eqC at h1
            simpa using h1
        go_upto_region 6 with (fail)
        refine wp_region_H (w0 := w) [] (by kernel_rfl) EX42.out ?_
        refine anyH_phase [0, 1, 2, 3, 4, 5, 6, 7, 8] 0 rfl ⟨_, (EnvX.drew EX42.out)⟩ (by kernel_rfl) ?_
        have hw44 : EnvX w _ [] := (EnvX.drew EX42.out)
        have hone := @EnvC.one _ _ _ hw44
        iterate 2 (refine wpG_op rfl rfl rfl ?_; intro K hK; go_big_quiet_op; go_big_quiet_on)
        (refine wpG_val (v := .pointer (some (ad.add (i * 35)))) rfl rfl (fun u hu => idxSl_op (i := i) Tryd.underlying22 aggCo.size HI.out u rfl rfl) ?_ hw44; intro K hK; go_big_quiet_op; go_big_quiet_on)
        (refine wpG_val (v := coV y) rfl rfl (fun u hu => load_any_op u (HLD.out u (EnvX.sub hu (fun _ h => by cases h))).1 rfl) ?_ hw44; intro K hK; go_big_quiet_op; go_big_quiet_on)
        iterate 2 (refine wpG_op rfl rfl rfl ?_; intro K hK; go_big_quiet_op; go_big_quiet_on)
        (refine wpG_val (v := .pointer (some (ad2.add (i * 35)))) rfl rfl (fun u hu => idxSl_op (i := i) Tryd.underlying22 aggCo.size HI.out u rfl rfl) ?_ hw44; intro K hK; go_big_quiet_op; go_big_quiet_on)
        (refine wpG_val (v := coV z) rfl rfl (fun u hu => load_any_op u (HLD2.out u (EnvX.sub hu (fun _ h => by cases h))).1 rfl) ?_ hw44; intro K hK; go_big_quiet_op; go_big_quiet_on)
        (refine wpG_val (v := .bool false) rfl rfl (fun u hu => neqCo_op HY.out HZ.out HEQ.out u rfl rfl) ?_ hw44; intro K hK; go_big_quiet_op; go_big_quiet_on)
        clear hone hw44
        refine wpG_nil ?_
        refine anyH_done (by kernel_rfl) ?_
        intro u46 E2'
        have EX45 := Lib.hid E2'
        clear E2'
        have hii := HI.out
        have hn := HN63.out
        go_wp2
        go_roundw
        case rel => exact ⟨i + 1, by omega, by go_num, H3.out, EX45.out⟩
        case measure => simp [intOf]; omega
    · obtain rfl : i = n := by omega
      have C4 : Hid (decide ((i : Int) < (i : Int)) = false) := decide_eq_false (by omega)
      have HF : Hid (samePu p q = true) := decide_eq_true (getD_ext (by rw [HL.out, HL'.out]) (by rw [HL.out]; exact H1.out))
      go_upto_region 4 with (fail)
      refine wp_region_Hx (w0 := w) [0, 1, 2, 3] [] rfl EK.out ?_
      refine lexH_phase [0, 1, 2, 3] [] ?_
      have hw201 : EnvX w _ [] := EK.out
      have hone := @EnvC.one _ _ _ hw201
      iterate 2 (refine wpG_op rfl rfl rfl ?_; intro K hK; go_big_quiet_op; go_big_quiet_on)
      (refine wpG_val (v := .int .i64 (i : Int)) rfl rfl (fun u hu => len_op Tryd.underlying22 HN63.out u rfl) ?_ hw201; intro K hK; go_big_quiet_op; go_big_quiet_on)
      (refine wpG_val (v := .bool false) rfl rfl (fun u hu => ltZ_op u C4.out rfl rfl) ?_ hw201; intro K hK; go_big_quiet_op; go_big_quiet_on)
      clear hone hw201
      refine wpG_nil ?_
      intro u203 E2'
      have EX202 := Lib.hid E2'
      clear E2'
      have HBE := Lib.hid (EnvX.bel EX202.out)
      go_wp2
      go_ret
      exact ⟨by rw [HF.out]; first | done | rfl, HBE.out⟩
set_option maxRecDepth 20000 in
set_option maxHeartbeats 8000000 in
theorem rthereP_any (p : List CoinR) (A : Option Addr) (n c : Nat) (id : List Int) (w : World) (hl : p.length = n) (hnc : n ≤ c) (hcm : c ≤ maxLen) (hI : okP p) (hA : CoinsIn w w.heap.size A p) (hx : id.length = 32) :
    Calls Tryd.prog 29 #[.slice A n c, idv id] w fun e w' => e = .returned (.bool (thereP p id)) ∧ Below w.heap.size w w' := by
  have HL := Lib.hid hl
  have HPP := Lib.hid hI
  have HAA := Lib.hid hA
  have HN63 : Hid (n < 9223372036854775808) := by show _ < _; unfold maxLen at hcm; omega
  have HX := Lib.hid hx
  have E1 : Hid (EnvX w (w.alloc (.cells (arrB 32 id) 40)) [(w.heap.size, Obj.cells (arrB 32 id) 40 (0, 0))]) := (EnvX.start w).new _
  clear hl hnc hcm hI hA hx
  unfold idv
  go_enter Tryd.func29, Tryd.ntmps29
  go_upto_region 2 with (fail)
  generalize w.alloc (.cells (arrB 32 id) 40) = W at *
  go_loopw [5] (fun iv u => ∃ i : Nat, i ≤ n ∧ iv = .int .i64 (i : Int) ∧ Hid ((∀ j, j < i → (p.getD j noC0).tx ≠ id) ∧ EnvX w u [(w.heap.size, Obj.cells (arrB 32 id) 40 (0, 0))])) (fun iv _ => n - (intOf iv).toNat)
  case atStart => exact ⟨0, by omega, rfl, (fun j hj => by omega), E1.out⟩
  case round =>
    obtain ⟨i, hi, rfl, hinv⟩ := hrel
    have H1 := Lib.hid hinv.out.1
    have EK := Lib.hid hinv.out.2
    clear hinv E1
    by_cases hlt : i < n
    · have C2 : Hid (decide ((i : Int) < (n : Int)) = true) := decide_eq_true (by omega)
      have HI := Lib.hid hlt
      have hil : i < p.length := by rw [HL.out]; exact hlt
      have HIL := Lib.hid hil
      obtain ⟨ad, rfl, -, hld⟩ := HAA.out.loads HPP.out hil
      have HLD := Lib.hid hld
      have HY : Hid (lenC (p.getD i noC0)) := (getP HPP.out hil).len
      obtain ⟨y, hy⟩ : ∃ y, p.getD i noC0 = y := ⟨_, rfl⟩
      have HYE := Lib.hid hy
      rw [hy] at HLD HY
      obtain ⟨b, hb⟩ : ∃ b, eqL y.tx id = b := ⟨_, rfl⟩
      have HEQ := Lib.hid hb
      clear hld hil hlt hy hb
      go_upto_region 2 with (fail)
      refine wp_region_Hx (w0 := w) [0, 1, 2, 3] [(w.heap.size, Obj.cells (arrB 32 id) 40 (0, 0))] rfl EK.out ?_
      refine lexH_phase [0, 1, 2, 3] [] ?_
      have hw11 : EnvX w _ [(w.heap.size, Obj.cells (arrB 32 id) 40 (0, 0))] := EK.out
      have hone := @EnvC.one _ _ _ hw11
      iterate 2 (refine wpG_op rfl rfl rfl ?_; intro K hK; go_big_quiet_op; go_big_quiet_on)
      (refine wpG_val (v := .int .i64 (n : Int)) rfl rfl (fun u hu => len_op Tryd.underlying22 HN63.out u rfl) ?_ hw11; intro K hK; go_big_quiet_op; go_big_quiet_on)
      (refine wpG_val (v := .bool true) rfl rfl (fun u hu => ltZ_op u C2.out rfl rfl) ?_ hw11; intro K hK; go_big_quiet_op; go_big_quiet_on)
      clear hone hw11
      refine wpG_nil ?_
      intro u13 E2'
      have EX12 := Lib.hid E2'
      clear E2'
      cases b with
      | true =>
        have HF : Hid (thereP p id = true) := thereP_hit HIL.out (by rw [HYE.out]; exact of_decide_eq_true HEQ.out)
        go_upto_region 4 with (fail)
        refine wp_region_H (w0 := w) [(w.heap.size, Obj.cells (arrB 32 id) 40 (0, 0))] (by kernel_rfl) EX12.out ?_
        refine anyH_phase [0, 1, 2, 3, 4, 5, 6, 7] 0 rfl ⟨_, (EnvX.drew EX12.out)⟩ (by kernel_rfl) ?_
        have hw14 : EnvX w _ [(w.heap.size, Obj.cells (arrB 32 id) 40 (0, 0))] := (EnvX.drew EX12.out)
        have hone := @EnvC.one _ _ _ hw14
        iterate 2 (refine wpG_op rfl rfl rfl ?_; intro K hK; go_big_quiet_op; go_big_quiet_on)
        (refine wpG_val (v := .pointer (some (ad.add (i * 35)))) rfl rfl (fun u hu => idxSl_op (i := i) Tryd.underlying22 aggCo.size HI.out u rfl rfl) ?_ hw14; intro K hK; go_big_quiet_op; go_big_quiet_on)
        (refine wpG_val (v := .pointer (some ((ad.add (i * 35)).add 0))) rfl rfl (fun u hu => fieldCo_op (k := 0) (off := 0) rfl u rfl) ?_ hw14; intro K hK; go_big_quiet_op; go_big_quiet_on)
        (refine wpG_val (v := .pointer (some (((ad.add (i * 35)).add 0).add 0))) rfl rfl (fun u hu => fieldIn_op (k := 0) (off := 0) rfl u rfl) ?_ hw14; intro K hK; go_big_quiet_op; go_big_quiet_on)
        (refine wpG_val (v := idv y.tx) rfl rfl (fun u hu => load_any_op u (by have h := (HLD.out u (EnvX.sub hu (fun _ h => by cases h))).2.2.1; rwa [show ((((ad.add (i * 35)).add 0)).add 0) = ad.add (i * 35) by unfold Addr.add; rfl]) rfl) ?_ hw14; intro K hK; go_big_quiet_op; go_big_quiet_on)
        (refine wpG_val (v := idv id) rfl rfl (fun u hu => load_any_op u (box_idvP hu (List.Mem.head _) HX.out) rfl) ?_ hw14; intro K hK; go_big_quiet_op; go_big_quiet_on)
        (refine wpG_val (v := .bool true) rfl rfl (fun u hu => eqlb_op HY.out HX.out HEQ.out u rfl rfl) ?_ hw14; intro K hK; go_big_quiet_op; go_big_quiet_on)
        clear hone hw14
        refine wpG_nil ?_
        refine anyH_done (by kernel_rfl) ?_
        intro u16 E2'
        have EX15 := Lib.hid E2'
        clear E2'
        have HBE := Lib.hid (EnvX.bel EX15.out)
        go_wp2
        go_ret
        exact ⟨by rw [HF.out]; first | done | rfl, HBE.out⟩
      | false =>
        have H3 : Hid (∀ j, j < i + 1 → (p.getD j noC0).tx ≠ id) := fun j hj => by
          rcases Nat.lt_or_ge j i with h | h
          · exact H1.out j h
          · rw [show j = i by omega, HYE.out]; exact of_decide_eq_false HEQ.out
        go_upto_region 4 with (fail)
        refine wp_region_H (w0 := w) [(w.heap.size, Obj.cells (arrB 32 id) 40 (0, 0))] (by kernel_rfl) EX12.out ?_
        refine anyH_phase [0, 1, 2, 3, 4, 5, 6, 7] 0 rfl ⟨_, (EnvX.drew EX12.out)⟩ (by kernel_rfl) ?_
        have hw14 : EnvX w _ [(w.heap.size, Obj.cells (arrB 32 id) 40 (0, 0))] := (EnvX.drew EX12.out)
        have hone := @EnvC.one _ _ _ hw14
        iterate 2 (refine wpG_op rfl rfl rfl ?_; intro K hK; go_big_quiet_op; go_big_quiet_on)
        (refine wpG_val (v := .pointer (some (ad.add (i * 35)))) rfl rfl (fun u hu => idxSl_op (i := i) Tryd.underlying22 aggCo.size HI.out u rfl rfl) ?_ hw14; intro K hK; go_big_quiet_op; go_big_quiet_on)
        (refine wpG_val (v := .pointer (some ((ad.add (i * 35)).add 0))) rfl rfl (fun u hu => fieldCo_op (k := 0) (off := 0) rfl u rfl) ?_ hw14; intro K hK; go_big_quiet_op; go_big_quiet_on)
        (refine wpG_val (v := .pointer (some (((ad.add (i * 35)).add 0).add 0))) rfl rfl (fun u hu => fieldIn_op (k := 0) (off := 0) rfl u rfl) ?_ hw14; intro K hK; go_big_quiet_op; go_big_quiet_on)
        (refine wpG_val (v := idv y.tx) rfl rfl (fun u hu => load_any_op u (by have h := (HLD.out u (EnvX.sub hu (fun _ h => by cases h))).2.2.1; rwa [show ((((ad.add (i * 35)).add 0)).add 0) = ad.add (i * 35) by unfold Addr.add; rfl]) rfl) ?_ hw14; intro K hK; go_big_quiet_op; go_big_quiet_on)
        (refine wpG_val (v := idv id) rfl rfl (fun u hu => load_any_op u (box_idvP hu (List.Mem.head _) HX.out) rfl) ?_ hw14; intro K hK; go_big_quiet_op; go_big_quiet_on)
        (refine wpG_val (v := .bool false) rfl rfl (fun u hu => eqlb_op HY.out HX.out HEQ.out u rfl rfl) ?_ hw14; intro K hK; go_big_quiet_op; go_big_quiet_on)
        clear hone hw14
        refine wpG_nil ?_
        refine anyH_done (by kernel_rfl) ?_
        intro u16 E2'
        have EX15 := Lib.hid E2'
        clear E2'
        have hii := HI.out
        have hn := HN63.out
        go_wp2
        go_roundw
        case rel => exact ⟨i + 1, by omega, by go_num, H3.out, EX15.out⟩
        case measure => simp [intOf]; omega
    · obtain rfl : i = n := by omega
      have C2 : Hid (decide ((i : Int) < (i : Int)) = false) := decide_eq_false (by omega)
      have HF : Hid (thereP p id = false) := thereP_none (by rw [HL.out]; exact H1.out)
      go_upto_region 2 with (fail)
      refine wp_region_Hx (w0 := w) [0, 1, 2, 3] [(w.heap.size, Obj.cells (arrB 32 id) 40 (0, 0))] rfl EK.out ?_
      refine lexH_phase [0, 1, 2, 3] [] ?_
      have hw201 : EnvX w _ [(w.heap.size, Obj.cells (arrB 32 id) 40 (0, 0))] := EK.out
      have hone := @EnvC.one _ _ _ hw201
      iterate 2 (refine wpG_op rfl rfl rfl ?_; intro K hK; go_big_quiet_op; go_big_quiet_on)
      (refine wpG_val (v := .int .i64 (i : Int)) rfl rfl (fun u hu => len_op Tryd.underlying22 HN63.out u rfl) ?_ hw201; intro K hK; go_big_quiet_op; go_big_quiet_on)
      (refine wpG_val (v := .bool false) rfl rfl (fun u hu => ltZ_op u C2.out rfl rfl) ?_ hw201; intro K hK; go_big_quiet_op; go_big_quiet_on)
      clear hone hw201
      refine wpG_nil ?_
      intro u203 E2'
      have EX202 := Lib.hid E2'
      clear E2'
      have HBE := Lib.hid (EnvX.bel EX202.out)
      go_wp2
      go_ret
      exact ⟨by rw [HF.out]; first | done | rfl, HBE.out⟩
set_option maxRecDepth 20000 in
set_option maxHeartbeats 8000000 in
theorem rworthP_any (t : TxM) (w : World) (ht : TxOk w t) (hm : mayX t.r = true) :
    Calls Tryd.prog 28 #[txV t] w fun e w' => e = .returned (.int .i64 (worthX t.r)) ∧ Below w.heap.size w w' := by
  obtain ⟨r, A1, n1, c1, A2, n, c2⟩ := t
  have HN63 : Hid (n < 9223372036854775808) := ht.n63.2
  have HT := Lib.hid ht
  obtain ⟨_, _, hm3, _, _, hmo⟩ := mayX_iff.1 hm
  have HMO := Lib.hid hmo
  have HL : Hid (r.outs.length = n) := ht.l2
  have HN3 : Hid (n ≤ 3) := by show _ ≤ _; rw [← HL.out]; exact hm3
  have E1 : Hid (EnvX w (w.alloc (.cells (txA ⟨r, A1, n1, c1, A2, n, c2⟩) 26)) [(w.heap.size, Obj.cells (txA ⟨r, A1, n1, c1, A2, n, c2⟩) 26 (0, 0))]) := (EnvX.start w).new _
  clear ht hm hm3 hmo
  unfold txV
  go_enter Tryd.func28, Tryd.ntmps28
  go_upto_region 3 with (fail)
  generalize w.alloc (.cells (txA ⟨r, A1, n1, c1, A2, n, c2⟩) 26) = W at *
  go_loopw [3, 4] (fun sv iv u => ∃ i : Nat, i ≤ n ∧ iv = .int .i64 (i : Int) ∧ sv = .int .i64 (worthL (r.outs.take i)) ∧ Hid (EnvX w u [(w.heap.size, Obj.cells (txA ⟨r, A1, n1, c1, A2, n, c2⟩) 26 (0, 0))])) (fun _ iv _ => n - (intOf iv).toNat)
  case atStart => exact ⟨0, by omega, rfl, rfl, E1.out⟩
  case round =>
    obtain ⟨i, hi, rfl, rfl, hinv⟩ := hrel
    have EK := Lib.hid hinv.out
    clear hinv E1
    by_cases hlt : i < n
    · have C3 : Hid (decide ((i : Int) < (n : Int)) = true) := decide_eq_true (by omega)
      have HI := Lib.hid hlt
      have hil : i < r.outs.length := by rw [HL.out]; exact hlt
      obtain ⟨ad, rfl, -, hld⟩ := HT.out.m2.loads hil
      have HLD := Lib.hid hld
      have hst := worthL_step noOut hil
      have hbs := worthL_bound (l := r.outs.take i) (fun o ho => decide_eq_true (HMO.out o (List.mem_of_mem_take ho)))
      rw [List.length_take, Nat.min_eq_left (by omega)] at hbs
      have hby := outV_bound (decide_eq_true (HMO.out (r.outs.getD i noOut) (by rw [List.getD_eq_getElem?_getD, List.getElem?_eq_getElem hil]; exact List.getElem_mem hil)))
      have hn3 := HN3.out
      obtain ⟨y, hy⟩ : ∃ y, r.outs.getD i noOut = y := ⟨_, rfl⟩
      rw [hy] at HLD hst hby
      have HADD : Hid (IntKind.i64.wrap (worthL (r.outs.take i) + y.v) = worthL (r.outs.take (i + 1))) := by show _ = _; rw [hst, wrapS (by omega)]
      clear hld hil hlt hy hst hbs hby hn3
      generalize worthL (r.outs.take i) = s0 at *
      obtain ⟨s1, hs1⟩ : ∃ s1, worthL (r.outs.take (i + 1)) = s1 := ⟨_, rfl⟩
      rw [hs1] at HADD
      have HS1 := Lib.hid hs1
      clear hs1
      go_upto_region 3 with (fail)
      refine wp_region_Hx (w0 := w) [0, 1, 2, 3, 4] [(w.heap.size, Obj.cells (txA ⟨r, A1, n1, c1, some ad, n, c2⟩) 26 (0, 0))] rfl EK.out ?_
      refine lexH_phase [0, 1, 2, 3, 4] [] ?_
      have hw21 : EnvX w _ [(w.heap.size, Obj.cells (txA ⟨r, A1, n1, c1, some ad, n, c2⟩) 26 (0, 0))] := EK.out
      have hone := @EnvC.one _ _ _ hw21
      (refine wpG_op rfl rfl rfl ?_; intro K hK; go_big_quiet_op; go_big_quiet_on)
      (refine wpG_val (v := .pointer (some ⟨w.heap.size, 1, none⟩)) rfl rfl (fun u hu => fieldTx_op (k := 1) (off := 1) (ad := ⟨w.heap.size, 0, none⟩) rfl u rfl) ?_ hw21; intro K hK; go_big_quiet_op; go_big_quiet_on)
      (refine wpG_val (v := .slice (some ad) n c2) rfl rfl (fun u hu => load_any_op u (box_tx_outs hu (List.Mem.head _)) rfl) ?_ hw21; intro K hK; go_big_quiet_op; go_big_quiet_on)
      (refine wpG_val (v := .int .i64 (n : Int)) rfl rfl (fun u hu => len_op Tryd.underlying24 HN63.out u rfl) ?_ hw21; intro K hK; go_big_quiet_op; go_big_quiet_on)
      (refine wpG_val (v := .bool true) rfl rfl (fun u hu => ltZ_op u C3.out rfl rfl) ?_ hw21; intro K hK; go_big_quiet_op; go_big_quiet_on)
      clear hone hw21
      refine wpG_nil ?_
      intro u23 E2'
      have EX22 := Lib.hid E2'
      clear E2'
      go_upto_region 5 with (fail)
      refine wp_region_Hx (w0 := w) [0, 1, 2, 3, 4, 5, 6, 7, 8] [(w.heap.size, Obj.cells (txA ⟨r, A1, n1, c1, some ad, n, c2⟩) 26 (0, 0))] rfl EX22.out ?_
      refine lexH_phase [0, 1, 2, 3, 4, 5, 6, 7, 8] [] ?_
      have hw24 : EnvX w _ [(w.heap.size, Obj.cells (txA ⟨r, A1, n1, c1, some ad, n, c2⟩) 26 (0, 0))] := EX22.out
      have hone := @EnvC.one _ _ _ hw24
      (refine wpG_op rfl rfl rfl ?_; intro K hK; go_big_quiet_op; go_big_quiet_on)
      (refine wpG_val (v := .pointer (some ⟨w.heap.size, 1, none⟩)) rfl rfl (fun u hu => fieldTx_op (k := 1) (off := 1) (ad := ⟨w.heap.size, 0, none⟩) rfl u rfl) ?_ hw24; intro K hK; go_big_quiet_op; go_big_quiet_on)
      (refine wpG_val (v := .slice (some ad) n c2) rfl rfl (fun u hu => load_any_op u (box_tx_outs hu (List.Mem.head _)) rfl) ?_ hw24; intro K hK; go_big_quiet_op; go_big_quiet_on)
      (refine wpG_op rfl rfl rfl ?_; intro K hK; go_big_quiet_op; go_big_quiet_on)
      (refine wpG_val (v := .pointer (some (ad.add (i * 2)))) rfl rfl (fun u hu => idxSl_op (i := i) Tryd.underlying24 aggOut.size HI.out u rfl rfl) ?_ hw24; intro K hK; go_big_quiet_op; go_big_quiet_on)
      (refine wpG_val (v := .pointer (some ((ad.add (i * 2)).add 0))) rfl rfl (fun u hu => fieldOut_op (k := 0) (off := 0) rfl u rfl) ?_ hw24; intro K hK; go_big_quiet_op; go_big_quiet_on)
      (refine wpG_val (v := .int .i64 y.v) rfl rfl (fun u hu => load_any_op u (by have h := (HLD.out u (EnvX.sub hu (fun _ h => by cases h))).2.1; rwa [show ((ad.add (i * 2)).add 0) = ad.add (i * 2) by unfold Addr.add; rfl]) rfl) ?_ hw24; intro K hK; go_big_quiet_op; go_big_quiet_on)
      (refine wpG_val (v := .int .i64 s1) rfl rfl (fun u hu => addZ_op u HADD.out rfl rfl) ?_ hw24; intro K hK; go_big_quiet_op; go_big_quiet_on)
      (refine wpG_op rfl rfl rfl ?_; intro K hK; go_big_quiet_op; go_big_quiet_on)
      clear hone hw24
      refine wpG_nil ?_
      intro u26 E2'
      have EX25 := Lib.hid E2'
      clear E2'
      have hii := HI.out
      have hn := HN63.out
      go_wp2
      go_roundw
      case rel => exact ⟨i + 1, by omega, by go_num, by rw [HS1.out], EX25.out⟩
      case measure => simp [intOf]; omega
    · obtain rfl : i = n := by omega
      have C3 : Hid (decide ((i : Int) < (i : Int)) = false) := decide_eq_false (by omega)
      have HTK : Hid (r.outs.take i = r.outs) := List.take_of_length_le (by rw [HL.out]; exact Nat.le_refl _)
      have HF : Hid (worthX r = worthL r.outs) := rfl
      rw [HTK.out]
      go_upto_region 3 with (fail)
      refine wp_region_Hx (w0 := w) [0, 1, 2, 3, 4] [(w.heap.size, Obj.cells (txA ⟨r, A1, n1, c1, A2, i, c2⟩) 26 (0, 0))] rfl EK.out ?_
      refine lexH_phase [0, 1, 2, 3, 4] [] ?_
      have hw121 : EnvX w _ [(w.heap.size, Obj.cells (txA ⟨r, A1, n1, c1, A2, i, c2⟩) 26 (0, 0))] := EK.out
      have hone := @EnvC.one _ _ _ hw121
      (refine wpG_op rfl rfl rfl ?_; intro K hK; go_big_quiet_op; go_big_quiet_on)
      (refine wpG_val (v := .pointer (some ⟨w.heap.size, 1, none⟩)) rfl rfl (fun u hu => fieldTx_op (k := 1) (off := 1) (ad := ⟨w.heap.size, 0, none⟩) rfl u rfl) ?_ hw121; intro K hK; go_big_quiet_op; go_big_quiet_on)
      (refine wpG_val (v := .slice A2 i c2) rfl rfl (fun u hu => load_any_op u (box_tx_outs hu (List.Mem.head _)) rfl) ?_ hw121; intro K hK; go_big_quiet_op; go_big_quiet_on)
      (refine wpG_val (v := .int .i64 (i : Int)) rfl rfl (fun u hu => len_op Tryd.underlying24 HN63.out u rfl) ?_ hw121; intro K hK; go_big_quiet_op; go_big_quiet_on)
      (refine wpG_val (v := .bool false) rfl rfl (fun u hu => ltZ_op u C3.out rfl rfl) ?_ hw121; intro K hK; go_big_quiet_op; go_big_quiet_on)
      clear hone hw121
      refine wpG_nil ?_
      intro u123 E2'
      have EX122 := Lib.hid E2'
      clear E2'
      go_upto_region 6 with (fail)
      refine wp_region_Hx (w0 := w) [0, 1] [(w.heap.size, Obj.cells (txA ⟨r, A1, n1, c1, A2, i, c2⟩) 26 (0, 0))] rfl EX122.out ?_
      refine lexH_phase [0, 1] [] ?_
      have hw124 : EnvX w _ [(w.heap.size, Obj.cells (txA ⟨r, A1, n1, c1, A2, i, c2⟩) 26 (0, 0))] := EX122.out
      have hone := @EnvC.one _ _ _ hw124
      iterate 2 (refine wpG_op rfl rfl rfl ?_; intro K hK; go_big_quiet_op; go_big_quiet_on)
      clear hone hw124
      refine wpG_nil ?_
      intro u126 E2'
      have EX125 := Lib.hid E2'
      clear E2'
      have HBE := Lib.hid (EnvX.bel EX125.out)
      go_wp2
      go_ret
      exact ⟨by rw [HF.out]; first | done | rfl, HBE.out⟩
set_option maxRecDepth 20000 in
set_option maxHeartbeats 8000000 in
theorem rsumP_any (p : List CoinR) (A : Option Addr) (n c : Nat) (w : World) (hl : p.length = n) (hnc : n ≤ c) (hcm : c ≤ maxLen) (hI : okP p) (hA : CoinsIn w w.heap.size A p) :
    Calls Tryd.prog 23 #[.slice A n c] w fun e w' => e = .returned (.int .i64 (sumP p)) ∧ Below w.heap.size w w' := by
  have HL := Lib.hid hl
  have HPP := Lib.hid hI
  have HAA := Lib.hid hA
  have HN63 : Hid (n < 9223372036854775808) := by show _ < _; unfold maxLen at hcm; omega
  obtain ⟨bm, hbm⟩ : ∃ bm, mayP p = bm := ⟨_, rfl⟩
  have HBM := Lib.hid hbm
  have HMY : Hid (∀ u, Below w.heap.size w u → Calls Tryd.prog 17 #[.slice A n c] u fun e w' => e = .returned (.bool bm) ∧ Below u.heap.size u w') := fun u hu => by
    have h := rmayP_any p A n c u hl hnc hcm hI (hA.up hu)
    rwa [hbm] at h
  have E1 : Hid (EnvX w w []) := EnvX.start w
  clear hl hnc hcm hI hA hbm
  cases bm with
  | false =>
    have HF : Hid (sumP p = 0) := by show _ = _; unfold sumP; rw [if_neg (by rw [HBM.out]; decide)]
    go_enter Tryd.func23, Tryd.ntmps23
    go_upto_region 2 with (fail)
    refine wp_region_Hx (w0 := w) [0, 1, 2] [] rfl E1.out ?_
    refine lexH_phase [0, 1, 2] [] ?_
    have hw1 : EnvX w _ [] := E1.out
    have hone := @EnvC.one _ _ _ hw1
    (refine wpG_op rfl rfl rfl ?_; intro K hK; go_big_quiet_op; go_big_quiet_on)
    (refine wpG_call (f := 17) (args := #[.slice A n c]) (v := .bool false) rfl rfl rfl Tryd.func17 rfl rfl (fun u hu => HMY.out u (EnvX.bel hu)) ?_ hw1; intro K hK; go_big_quiet_op; go_big_quiet_on)
    (refine wpG_op rfl rfl rfl ?_; intro K hK; go_big_quiet_op; go_big_quiet_on)
    clear hone hw1
    refine wpG_nil ?_
    intro u3 E2'
    have EX2 := Lib.hid E2'
    clear E2'
    obtain ⟨lt, hlt⟩ : ∃ lt, decide (((0 : Nat) : Int) < (n : Int)) = lt := ⟨_, rfl⟩
    have C4 := Lib.hid hlt
    clear hlt
    go_upto_region 3 with (fail)
    refine wp_region_Hx (w0 := w) [0] [] rfl EX2.out ?_
    refine lexH_phase [0] [] ?_
    have hw4 : EnvX w _ [] := EX2.out
    have hone := @EnvC.one _ _ _ hw4
    (refine wpG_op rfl rfl rfl ?_; intro K hK; go_big_quiet_op; go_big_quiet_on)
    clear hone hw4
    refine wpG_nil ?_
    intro u6 E2'
    have EX5 := Lib.hid E2'
    clear E2'
    have EJ := Lib.hid EX5.out
    clear EX5 E1
    go_upto_region 4 with (fail)
    go_loopw [3, 5] (fun sv iv u => sv = .int .i64 0 ∧ iv = .int .i64 ((0 : Nat) : Int) ∧ Hid (EnvX w u [])) (fun _ _ _ => 0)
    case atStart => exact ⟨rfl, rfl, EJ.out⟩
    case round =>
      obtain ⟨rfl, rfl, hinv⟩ := hrel
      have EK := Lib.hid hinv.out
      clear hinv EJ
      cases lt with
      | false =>
        go_upto_region 4 with (fail)
        refine wp_region_Hx (w0 := w) [0, 1, 2, 3, 4, 5, 6] [] rfl EK.out ?_
        refine lexH_phase [0, 1, 2, 3, 4, 5, 6] [] ?_
        have hw61 : EnvX w _ [] := EK.out
        have hone := @EnvC.one _ _ _ hw61
        iterate 2 (refine wpG_op rfl rfl rfl ?_; intro K hK; go_big_quiet_op; go_big_quiet_on)
        (refine wpG_val (v := .int .i64 (n : Int)) rfl rfl (fun u hu => len_op Tryd.underlying22 HN63.out u rfl) ?_ hw61; intro K hK; go_big_quiet_op; go_big_quiet_on)
        (refine wpG_val (v := .bool false) rfl rfl (fun u hu => ltZ_op (m := 0) u C4.out rfl rfl) ?_ hw61; intro K hK; go_big_quiet_op; go_big_quiet_on)
        (refine wpG_op rfl rfl rfl ?_; intro K hK; go_big_quiet_op; go_big_quiet_on)
        (refine wpG_skip rfl rfl ?_ hw61; intro K hK; go_big_quiet_op; go_big_quiet_on)
        (refine wpG_op rfl rfl rfl ?_; intro K hK; go_big_quiet_op; go_big_quiet_on)
        clear hone hw61
        refine wpG_nil ?_
        intro u63 E2'
        have EX62 := Lib.hid E2'
        clear E2'
        go_upto_region 7 with (fail)
        refine wp_region_Hx (w0 := w) [0, 1] [] rfl EX62.out ?_
        refine lexH_phase [0, 1] [] ?_
        have hw64 : EnvX w _ [] := EX62.out
        have hone := @EnvC.one _ _ _ hw64
        iterate 2 (refine wpG_op rfl rfl rfl ?_; intro K hK; go_big_quiet_op; go_big_quiet_on)
        clear hone hw64
        refine wpG_nil ?_
        intro u66 E2'
        have EX65 := Lib.hid E2'
        clear E2'
        have HBE := Lib.hid (EnvX.bel EX65.out)
        go_wp2
        go_ret
        exact ⟨by rw [HF.out]; first | done | rfl, HBE.out⟩
      | true =>
        go_upto_region 4 with (fail)
        refine wp_region_Hx (w0 := w) [0, 1, 2, 3, 4, 5, 6] [] rfl EK.out ?_
        refine lexH_phase [0, 1, 2, 3, 4, 5, 6] [] ?_
        have hw61 : EnvX w _ [] := EK.out
        have hone := @EnvC.one _ _ _ hw61
        iterate 2 (refine wpG_op rfl rfl rfl ?_; intro K hK; go_big_quiet_op; go_big_quiet_on)
        (refine wpG_val (v := .int .i64 (n : Int)) rfl rfl (fun u hu => len_op Tryd.underlying22 HN63.out u rfl) ?_ hw61; intro K hK; go_big_quiet_op; go_big_quiet_on)
        (refine wpG_val (v := .bool true) rfl rfl (fun u hu => ltZ_op (m := 0) u C4.out rfl rfl) ?_ hw61; intro K hK; go_big_quiet_op; go_big_quiet_on)
        iterate 3 (refine wpG_op rfl rfl rfl ?_; intro K hK; go_big_quiet_op; go_big_quiet_on)
        clear hone hw61
        refine wpG_nil ?_
        intro u63 E2'
        have EX62 := Lib.hid E2'
        clear E2'
        go_upto_region 7 with (fail)
        refine wp_region_Hx (w0 := w) [0, 1] [] rfl EX62.out ?_
        refine lexH_phase [0, 1] [] ?_
        have hw64 : EnvX w _ [] := EX62.out
        have hone := @EnvC.one _ _ _ hw64
        iterate 2 (refine wpG_op rfl rfl rfl ?_; intro K hK; go_big_quiet_op; go_big_quiet_on)
        clear hone hw64
        refine wpG_nil ?_
        intro u66 E2'
        have EX65 := Lib.hid E2'
        clear E2'
        have HBE := Lib.hid (EnvX.bel EX65.out)
        go_wp2
        go_ret
        exact ⟨by rw [HF.out]; first | done | rfl, HBE.out⟩
  | true =>
    have HF : Hid (sumP p = sumV p) := sumP_may HBM.out
    have HBD := Lib.hid (mayP_iff.1 HBM.out).2.1
    have HN48 : Hid (n ≤ 48) := by show _ ≤ _; rw [← HL.out]; exact (mayP_iff.1 HBM.out).1
    go_enter Tryd.func23, Tryd.ntmps23
    go_upto_region 2 with (fail)
    refine wp_region_Hx (w0 := w) [0, 1, 2] [] rfl E1.out ?_
    refine lexH_phase [0, 1, 2] [] ?_
    have hw1 : EnvX w _ [] := E1.out
    have hone := @EnvC.one _ _ _ hw1
    (refine wpG_op rfl rfl rfl ?_; intro K hK; go_big_quiet_op; go_big_quiet_on)
    (refine wpG_call (f := 17) (args := #[.slice A n c]) (v := .bool true) rfl rfl rfl Tryd.func17 rfl rfl (fun u hu => HMY.out u (EnvX.bel hu)) ?_ hw1; intro K hK; go_big_quiet_op; go_big_quiet_on)
    (refine wpG_op rfl rfl rfl ?_; intro K hK; go_big_quiet_op; go_big_quiet_on)
    clear hone hw1
    refine wpG_nil ?_
    intro u3 E2'
    have EX2 := Lib.hid E2'
    clear E2'
    go_upto_region 3 with (fail)
    refine wp_region_Hx (w0 := w) [0] [] rfl EX2.out ?_
    refine lexH_phase [0] [] ?_
    have hw4 : EnvX w _ [] := EX2.out
    have hone := @EnvC.one _ _ _ hw4
    (refine wpG_op rfl rfl rfl ?_; intro K hK; go_big_quiet_op; go_big_quiet_on)
    clear hone hw4
    refine wpG_nil ?_
    intro u6 E2'
    have EX5 := Lib.hid E2'
    clear E2'
    have EJ := Lib.hid EX5.out
    clear EX5 E1
    go_upto_region 4 with (fail)
    go_loopw [3, 5] (fun sv iv u => ∃ i : Nat, i ≤ n ∧ iv = .int .i64 (i : Int) ∧ sv = .int .i64 (sumV (p.take i)) ∧ Hid (EnvX w u [])) (fun _ iv _ => n - (intOf iv).toNat)
    case atStart => exact ⟨0, by omega, rfl, rfl, EJ.out⟩
    case round =>
      obtain ⟨i, hi, rfl, rfl, hinv⟩ := hrel
      have EK := Lib.hid hinv.out
      clear hinv EJ
      by_cases hlt : i < n
      · have C4 : Hid (decide ((i : Int) < (n : Int)) = true) := decide_eq_true (by omega)
        have HI := Lib.hid hlt
        have hil : i < p.length := by rw [HL.out]; exact hlt
        have HIL := Lib.hid hil
        obtain ⟨ad, rfl, -, hld⟩ := HAA.out.loads HPP.out hil
        have HLD := Lib.hid hld
        have HY : Hid (lenC (p.getD i noC0)) := (getP HPP.out hil).len
        obtain ⟨y, hy⟩ : ∃ y, p.getD i noC0 = y := ⟨_, rfl⟩
        have HYE := Lib.hid hy
        rw [hy] at HLD HY
        have hst := sumV_step noC0 hil
        have hbs := sumV_bound (p := p.take i) (fun c hc => HBD.out c (List.mem_of_mem_take hc))
        rw [List.length_take, Nat.min_eq_left (by omega)] at hbs
        have hby := bound_v2 (HBD.out (p.getD i noC0) (by rw [List.getD_eq_getElem?_getD, List.getElem?_eq_getElem hil]; exact List.getElem_mem hil))
        rw [hy] at hst hby
        have hn48 := HN48.out
        have HADD : Hid (IntKind.i64.wrap (sumV (p.take i) + y.v) = sumV (p.take (i + 1))) := by show _ = _; rw [hst, wrapS (by omega)]
        clear hld hil hlt hy hst hbs hby hn48
        generalize sumV (p.take i) = s0 at *
        obtain ⟨s1, hs1⟩ : ∃ s1, sumV (p.take (i + 1)) = s1 := ⟨_, rfl⟩
        rw [hs1] at HADD
        have HS1 := Lib.hid hs1
        clear hs1
        go_upto_region 4 with (fail)
        refine wp_region_Hx (w0 := w) [0, 1, 2, 3, 4, 5, 6] [] rfl EK.out ?_
        refine lexH_phase [0, 1, 2, 3, 4, 5, 6] [] ?_
        have hw101 : EnvX w _ [] := EK.out
        have hone := @EnvC.one _ _ _ hw101
        iterate 2 (refine wpG_op rfl rfl rfl ?_; intro K hK; go_big_quiet_op; go_big_quiet_on)
        (refine wpG_val (v := .int .i64 (n : Int)) rfl rfl (fun u hu => len_op Tryd.underlying22 HN63.out u rfl) ?_ hw101; intro K hK; go_big_quiet_op; go_big_quiet_on)
        (refine wpG_val (v := .bool true) rfl rfl (fun u hu => ltZ_op u C4.out rfl rfl) ?_ hw101; intro K hK; go_big_quiet_op; go_big_quiet_on)
        iterate 3 (refine wpG_op rfl rfl rfl ?_; intro K hK; go_big_quiet_op; go_big_quiet_on)
        clear hone hw101
        refine wpG_nil ?_
        intro u103 E2'
        have EX102 := Lib.hid E2'
        clear E2'
        go_upto_region 6 with (fail)
        refine wp_region_Hx (w0 := w) [0, 1, 2, 3, 4, 5, 6, 7, 8] [] rfl EX102.out ?_
        refine lexH_phase [0, 1, 2, 3, 4, 5, 6, 7, 8] [] ?_
        have hw104 : EnvX w _ [] := EX102.out
        have hone := @EnvC.one _ _ _ hw104
        iterate 3 (refine wpG_op rfl rfl rfl ?_; intro K hK; go_big_quiet_op; go_big_quiet_on)
        (refine wpG_val (v := .pointer (some (ad.add (i * 35)))) rfl rfl (fun u hu => idxSl_op (i := i) Tryd.underlying22 aggCo.size HI.out u rfl rfl) ?_ hw104; intro K hK; go_big_quiet_op; go_big_quiet_on)
        (refine wpG_val (v := .pointer (some ((ad.add (i * 35)).add 33))) rfl rfl (fun u hu => fieldCo_op (k := 1) (off := 33) rfl u rfl) ?_ hw104; intro K hK; go_big_quiet_op; go_big_quiet_on)
        (refine wpG_val (v := .pointer (some (((ad.add (i * 35)).add 33).add 0))) rfl rfl (fun u hu => fieldOut_op (k := 0) (off := 0) rfl u rfl) ?_ hw104; intro K hK; go_big_quiet_op; go_big_quiet_on)
        (refine wpG_val (v := .int .i64 y.v) rfl rfl (fun u hu => load_any_op u (by have h := (HLD.out u (EnvX.sub hu (fun _ h => by cases h))).2.2.2.2.2.1; rwa [show (((ad.add (i * 35)).add 33).add 0) = (ad.add (i * 35)).add 33 by unfold Addr.add; rfl]) rfl) ?_ hw104; intro K hK; go_big_quiet_op; go_big_quiet_on)
        (refine wpG_val (v := .int .i64 s1) rfl rfl (fun u hu => addZ_op u HADD.out rfl rfl) ?_ hw104; intro K hK; go_big_quiet_op; go_big_quiet_on)
        (refine wpG_op rfl rfl rfl ?_; intro K hK; go_big_quiet_op; go_big_quiet_on)
        clear hone hw104
        refine wpG_nil ?_
        intro u106 E2'
        have EX105 := Lib.hid E2'
        clear E2'
        have hii := HI.out
        have hn := HN63.out
        go_wp2
        go_roundw
        case rel => exact ⟨i + 1, by omega, by go_num, by rw [HS1.out], EX105.out⟩
        case measure => simp [intOf]; omega
      · obtain rfl : i = n := by omega
        have C4 : Hid (decide ((i : Int) < (i : Int)) = false) := decide_eq_false (by omega)
        have HT : Hid (p.take i = p) := List.take_of_length_le (by rw [HL.out]; exact Nat.le_refl _)
        rw [HT.out]
        go_upto_region 4 with (fail)
        refine wp_region_Hx (w0 := w) [0, 1, 2, 3, 4, 5, 6] [] rfl EK.out ?_
        refine lexH_phase [0, 1, 2, 3, 4, 5, 6] [] ?_
        have hw201 : EnvX w _ [] := EK.out
        have hone := @EnvC.one _ _ _ hw201
        iterate 2 (refine wpG_op rfl rfl rfl ?_; intro K hK; go_big_quiet_op; go_big_quiet_on)
        (refine wpG_val (v := .int .i64 (i : Int)) rfl rfl (fun u hu => len_op Tryd.underlying22 HN63.out u rfl) ?_ hw201; intro K hK; go_big_quiet_op; go_big_quiet_on)
        (refine wpG_val (v := .bool false) rfl rfl (fun u hu => ltZ_op u C4.out rfl rfl) ?_ hw201; intro K hK; go_big_quiet_op; go_big_quiet_on)
        (refine wpG_op rfl rfl rfl ?_; intro K hK; go_big_quiet_op; go_big_quiet_on)
        (refine wpG_skip rfl rfl ?_ hw201; intro K hK; go_big_quiet_op; go_big_quiet_on)
        (refine wpG_op rfl rfl rfl ?_; intro K hK; go_big_quiet_op; go_big_quiet_on)
        clear hone hw201
        refine wpG_nil ?_
        intro u203 E2'
        have EX202 := Lib.hid E2'
        clear E2'
        go_upto_region 7 with (fail)
        refine wp_region_Hx (w0 := w) [0, 1] [] rfl EX202.out ?_
        refine lexH_phase [0, 1] [] ?_
        have hw204 : EnvX w _ [] := EX202.out
        have hone := @EnvC.one _ _ _ hw204
        iterate 2 (refine wpG_op rfl rfl rfl ?_; intro K hK; go_big_quiet_op; go_big_quiet_on)
        clear hone hw204
        refine wpG_nil ?_
        intro u206 E2'
        have EX205 := Lib.hid E2'
        clear E2'
        have HBE := Lib.hid (EnvX.bel EX205.out)
        go_wp2
        go_ret
        exact ⟨by rw [HF.out]; first | done | rfl, HBE.out⟩
set_option maxRecDepth 20000 in
set_option maxHeartbeats 8000000 in
theorem rwithP_any (p : List CoinR) (A : Option Addr) (n c : Nat) (x : CoinR) (w : World) (hl : p.length = n) (hnc : n ≤ c) (hcm : c ≤ maxLen) (hI : okP p) (hA : CoinsIn w w.heap.size A p) (hn : n ≤ 1000) (hx : okCoin x) :
    Calls Tryd.prog 47 #[.slice A n c, coV x] w fun e w' => (∃ v, e = .returned v ∧ w'.ownsRow w.heap.size 50 35 v (withP p x).length ((withP p x).map coC).flatten) ∧ Below w.heap.size w w' := by
  have HL := Lib.hid hl
  have HPP := Lib.hid hI
  have HAA := Lib.hid hA
  have HN63 : Hid (n < 9223372036854775808) := by show _ < _; unfold maxLen at hcm; omega
  have HN1 : Hid (n ≤ 1000) := hn
  have HXO := Lib.hid hx
  have HX : Hid (lenC x) := hx.len
  have E1 : Hid (EnvX w (w.alloc (.cells (coA x) 50)) [(w.heap.size, Obj.cells (coA x) 50 (0, 0))]) := (EnvX.start w).new _
  clear hl hnc hcm hI hA hn hx
  unfold coV
  go_enter Tryd.func47, Tryd.ntmps47
  go_upto_region 4 with (fail)
  generalize w.alloc (.cells (coA x) 50) = W at *
  have HINV : Hid (∃ N, FreshR 50 35 (wState (p.take 0) x).1.length ((wState (p.take 0) x).1.map coC).flatten (.slice none 0 0) N ∧ freshN w N [(w.heap.size, Obj.cells (coA x) 50 (0, 0))] ∧ EnvX w W (N ++ [(w.heap.size, Obj.cells (coA x) 50 (0, 0))])) := ⟨[], .inr ⟨rfl, rfl, rfl, rfl⟩, (fun y hy => by cases hy), E1.out⟩
  go_loopw [5, 6, 7] (fun v dv iv u => ∃ i : Nat, i ≤ n ∧ iv = .int .i64 (i : Int) ∧ dv = .bool (wState (p.take i) x).2 ∧ Hid (∃ N, FreshR 50 35 (wState (p.take i) x).1.length ((wState (p.take i) x).1.map coC).flatten v N ∧ freshN w N [(w.heap.size, Obj.cells (coA x) 50 (0, 0))] ∧ EnvX w u (N ++ [(w.heap.size, Obj.cells (coA x) 50 (0, 0))]))) (fun _ _ iv _ => n - (intOf iv).toNat)
  case atStart => exact ⟨0, by omega, rfl, rfl, HINV⟩
  case round =>
    obtain ⟨i, hi, rfl, rfl, hinv⟩ := hrel
    obtain ⟨N, hF, hN, hE⟩ := hinv.out
    have hok := wState_ok (p := p.take i) (c := x) (HPP.out.take i) HXO.out
    have hle := wState_le (p.take i) x
    rw [List.length_take] at hle
    have HSL : Hid (((wState (p.take i) x).1.map coC).flatten.length = (wState (p.take i) x).1.length * 35) := by show _ = _; rw [(rowsCo hok.lens).flat_len, List.length_map]
    obtain ⟨s0, dn, hst⟩ : ∃ s0 dn, wState (p.take i) x = (s0, dn) := ⟨_, _, rfl⟩
    rw [hst] at hF HSL hle
    simp only at hF HSL hle
    have HF := Lib.hid hF
    have HN := Lib.hid hN
    have EK := Lib.hid hE
    have HST := Lib.hid hst
    have HLE : Hid (s0.length ≤ 1001) := by have := HN1.out; show _ ≤ _; omega
    rw [hst]
    simp only
    clear hinv HINV hF hN hE E1 hst hok hle
    by_cases hlt : i < n
    · have C2 : Hid (decide ((i : Int) < (n : Int)) = true) := decide_eq_true (by omega)
      have HI := Lib.hid hlt
      have hil : i < p.length := by rw [HL.out]; exact hlt
      have HIL := Lib.hid hil
      obtain ⟨ad, rfl, -, hld⟩ := HAA.out.loads HPP.out hil
      have HLD := Lib.hid hld
      have HY : Hid (lenC (p.getD i noC0)) := (getP HPP.out hil).len
      obtain ⟨y, hy⟩ : ∃ y, p.getD i noC0 = y := ⟨_, rfl⟩
      have HYE := Lib.hid hy
      rw [hy] at HLD HY
      have HYO : Hid (okCoin y) := by rw [← hy]; exact getP HPP.out hil
      have hstep := wState_step (c := x) noC0 hil
      rw [HST.out, hy] at hstep
      have HSTEP := Lib.hid hstep
      obtain ⟨b, hb⟩ : ∃ b, beforeK (keyC x) (keyC y) = b := ⟨_, rfl⟩
      have HBF : Hid (∀ u, Calls Tryd.prog 33 #[coV x, coV y] u fun e w' => e = .returned (.bool b) ∧ Below u.heap.size u w') := fun u => by
        have h := rbefore_any x y u HX.out HY.out
        rwa [hb] at h
      have HBV := Lib.hid hb
      clear hld hil hlt hy hb hstep
      obtain ⟨xs, hxs⟩ : ∃ xs, (s0.map coC).flatten = xs := ⟨_, rfl⟩
      have HXS := Lib.hid hxs
      rw [hxs] at HF HSL
      clear hxs
      go_upto_region 4 with (fail)
      refine wp_region_Hx (w0 := w) [0, 1, 2, 3] (N ++ ((w.heap.size, Obj.cells (coA x) 50 (0, 0)) :: [])) rfl EK.out ?_
      refine lexH_phase [0, 1, 2, 3] [] ?_
      have hw11 : EnvX w _ (N ++ ((w.heap.size, Obj.cells (coA x) 50 (0, 0)) :: [])) := EK.out
      have hone := @EnvC.one _ _ _ hw11
      iterate 2 (refine wpG_op rfl rfl rfl ?_; intro K hK; go_big_quiet_op; go_big_quiet_on)
      (refine wpG_val (v := .int .i64 (n : Int)) rfl rfl (fun u hu => len_op Tryd.underlying22 HN63.out u rfl) ?_ hw11; intro K hK; go_big_quiet_op; go_big_quiet_on)
      (refine wpG_val (v := .bool true) rfl rfl (fun u hu => ltZ_op u C2.out rfl rfl) ?_ hw11; intro K hK; go_big_quiet_op; go_big_quiet_on)
      clear hone hw11
      refine wpG_nil ?_
      intro u13 E2'
      have EX12 := Lib.hid E2'
      clear E2'
      go_upto_region 6 with (fail)
      refine wp_region_H (w0 := w) (N ++ ((w.heap.size, Obj.cells (coA x) 50 (0, 0)) :: [])) (by kernel_rfl) EX12.out ?_
      refine anyH_phase [0, 1, 2, 3, 4, 5, 6] 0 rfl ⟨_, (EnvX.drew EX12.out)⟩ (by kernel_rfl) ?_
      have hw14 : EnvX w _ (N ++ ((w.heap.size, Obj.cells (coA x) 50 (0, 0)) :: [])) := (EnvX.drew EX12.out)
      have hone := @EnvC.one _ _ _ hw14
      (refine wpG_val (v := coV x) rfl rfl (fun u hu => load_any_op u (box_co hu (List.mem_append_right _ (List.Mem.head _)) HX.out) rfl) ?_ hw14; intro K hK; go_big_quiet_op; go_big_quiet_on)
      iterate 2 (refine wpG_op rfl rfl rfl ?_; intro K hK; go_big_quiet_op; go_big_quiet_on)
      (refine wpG_val (v := .pointer (some (ad.add (i * 35)))) rfl rfl (fun u hu => idxSl_op (i := i) Tryd.underlying22 aggCo.size HI.out u rfl rfl) ?_ hw14; intro K hK; go_big_quiet_op; go_big_quiet_on)
      (refine wpG_val (v := coV y) rfl rfl (fun u hu => load_any_op u (HLD.out u (EnvX.sub hu (fun _ h => by cases h))).1 rfl) ?_ hw14; intro K hK; go_big_quiet_op; go_big_quiet_on)
      (refine wpG_call (f := 33) (args := #[coV x, coV y]) (v := .bool b) rfl rfl rfl Tryd.func33 rfl rfl (fun u hu => HBF.out u) ?_ hw14; intro K hK; go_big_quiet_op; go_big_quiet_on)
      (refine wpG_op rfl rfl rfl ?_; intro K hK; go_big_quiet_op; go_big_quiet_on)
      clear hone hw14
      refine wpG_nil ?_
      refine anyH_done (by kernel_rfl) ?_
      intro u16 E2'
      have EX15 := Lib.hid E2'
      clear E2'
      cases b with
      | false =>
        cases dn with
        | false =>
          go_upto_region 7 with (fail)
          refine wp_region_Hx (w0 := w) [0, 1, 2, 3, 4] (N ++ ((w.heap.size, Obj.cells (coA x) 50 (0, 0)) :: [])) rfl EX15.out ?_
          refine lexH_phase [0, 1, 2, 3, 4] [] ?_
          have hw17 : EnvX w _ (N ++ ((w.heap.size, Obj.cells (coA x) 50 (0, 0)) :: [])) := EX15.out
          have hone := @EnvC.one _ _ _ hw17
          iterate 2 (refine wpG_op rfl rfl rfl ?_; intro K hK; go_big_quiet_op; go_big_quiet_on)
          iterate 2 (refine wpG_skip rfl rfl ?_ hw17; intro K hK; go_big_quiet_op; go_big_quiet_on)
          (refine wpG_op rfl rfl rfl ?_; intro K hK; go_big_quiet_op; go_big_quiet_on)
          clear hone hw17
          refine wpG_nil ?_
          intro u19 E2'
          have EX18 := Lib.hid E2'
          clear E2'
          go_upto_region 10 with (fail)
          refine wp_region_Hx (w0 := w) [0, 1, 2, 3, 4, 5, 6, 7] (N ++ ((w.heap.size, Obj.cells (coA x) 50 (0, 0)) :: [])) rfl EX18.out ?_
          refine lexH_phase [0, 1, 2, 3, 4] [5, 6, 7] ?_
          have hw20 : EnvX w _ (N ++ ((w.heap.size, Obj.cells (coA x) 50 (0, 0)) :: [])) := EX18.out
          have hone := @EnvC.one _ _ _ hw20
          iterate 3 (refine wpG_op rfl rfl rfl ?_; intro K hK; go_big_quiet_op; go_big_quiet_on)
          (refine wpG_val (v := .pointer (some (ad.add (i * 35)))) rfl rfl (fun u hu => idxSl_op (i := i) Tryd.underlying22 aggCo.size HI.out u rfl rfl) ?_ hw20; intro K hK; go_big_quiet_op; go_big_quiet_on)
          (refine wpG_val (v := .agg (coC y).toArray) rfl rfl (fun u hu => load_any_op u (HLD.out u (EnvX.sub hu (fun _ h => by cases h))).1 rfl) ?_ hw20; intro K hK; go_big_quiet_op; go_big_quiet_on)
          clear hone hw20
          refine wpG_nil ?_
          refine (hOp_fresh (R := BuiltR 50 (coC y)) (M0 := (N ++ ((w.heap.size, Obj.cells (coA x) 50 (0, 0)) :: []))) rfl rfl (fun _ h => h) (fun u hu => FAt_buildR elCo (coC_len HY.out) (coC_one _) rfl u) ?_)
          rintro _ _ ⟨g10, rfl, rfl⟩ hf he21; intro K' hK'; go_big_quiet_op; go_big_quiet_on
          clear hf
          change lexH _ _ _ _ _ _ ((g10, Obj.cells (coC y).toArray 50 (0, 0)) :: (N ++ ((w.heap.size, Obj.cells (coA x) 50 (0, 0)) :: [])))
          refine (hOp_own (gd := none) (R := GrownR w 50 35 (s0.length + 1) (xs ++ coC y) [(w.heap.size, Obj.cells (coA x) 50 (0, 0))]) rfl rfl rfl rfl (fun u hu => appR_op elCo (m := 1) (c := 1) [(w.heap.size, Obj.cells (coA x) 50 (0, 0))] hu HSL.out (by rw [Nat.one_mul]; exact coC_len HY.out) (coC_one _) HF.out (fun y hy => ⟨List.mem_cons_of_mem _ (List.mem_append_left _ hy), (HN.out y hy).1⟩) (List.Mem.head _) (fun z hz => ⟨List.mem_cons_of_mem _ (List.mem_append_right _ hz), fun y hy => (HN.out y hy).2 z hz⟩) (by have := HLE.out; omega) rfl rfl) ?_)
          rintro x9 M' ⟨N9, rfl, hF9, hn9⟩ he22; intro K' hK'; go_big_quiet_op; go_big_quiet_on
          have HN9F := Lib.hid hF9
          have HN9N := Lib.hid hn9
          clear hF9 hn9
          change lexH _ _ _ _ _ _ (N9 ++ ((w.heap.size, Obj.cells (coA x) 50 (0, 0)) :: []))
          refine lexH_phase [7] [] ?_
          have hw23 : EnvX w _ (N9 ++ ((w.heap.size, Obj.cells (coA x) 50 (0, 0)) :: [])) := he22.choose_spec
          have hone := @EnvC.one _ _ _ hw23
          (refine wpG_op rfl rfl rfl ?_; intro K hK; go_big_quiet_op; go_big_quiet_on)
          clear hone hw23
          refine wpG_nil ?_
          intro u25 E2'
          have EX24 := Lib.hid E2'
          clear E2'
          have HW : Hid (wState (p.take (i + 1)) x = (s0 ++ [y], false)) := by
            show _ = _
            rw [HSTEP.out]
            unfold wStep
            rw [HBV.out]
            rfl
          have HNX : Hid (∃ N, FreshR 50 35 (wState (p.take (i + 1)) x).1.length ((wState (p.take (i + 1)) x).1.map coC).flatten x9 N ∧ freshN w N [(w.heap.size, Obj.cells (coA x) 50 (0, 0))] ∧ EnvX w u25 (N ++ [(w.heap.size, Obj.cells (coA x) 50 (0, 0))])) := ⟨N9, by
            rw [HW.out, show ((s0 ++ [y]).map coC).flatten = xs ++ coC y by rw [← HXS.out]; simp, show (s0 ++ [y]).length = s0.length + 1 by simp]
            exact HN9F.out, HN9N.out, EX24.out⟩
          have hii := HI.out
          have hn := HN63.out
          go_wp2
          go_roundw
          case rel => exact ⟨i + 1, by omega, by go_num, by rw [HW.out], HNX⟩
          case measure => simp [intOf]; omega
        | true =>
          go_upto_region 7 with (fail)
          refine wp_region_Hx (w0 := w) [0, 1, 2, 3, 4] (N ++ ((w.heap.size, Obj.cells (coA x) 50 (0, 0)) :: [])) rfl EX15.out ?_
          refine lexH_phase [0, 1, 2, 3, 4] [] ?_
          have hw17 : EnvX w _ (N ++ ((w.heap.size, Obj.cells (coA x) 50 (0, 0)) :: [])) := EX15.out
          have hone := @EnvC.one _ _ _ hw17
          iterate 2 (refine wpG_op rfl rfl rfl ?_; intro K hK; go_big_quiet_op; go_big_quiet_on)
          iterate 2 (refine wpG_skip rfl rfl ?_ hw17; intro K hK; go_big_quiet_op; go_big_quiet_on)
          (refine wpG_op rfl rfl rfl ?_; intro K hK; go_big_quiet_op; go_big_quiet_on)
          clear hone hw17
          refine wpG_nil ?_
          intro u19 E2'
          have EX18 := Lib.hid E2'
          clear E2'
          go_upto_region 10 with (fail)
          refine wp_region_Hx (w0 := w) [0, 1, 2, 3, 4, 5, 6, 7] (N ++ ((w.heap.size, Obj.cells (coA x) 50 (0, 0)) :: [])) rfl EX18.out ?_
          refine lexH_phase [0, 1, 2, 3, 4] [5, 6, 7] ?_
          have hw20 : EnvX w _ (N ++ ((w.heap.size, Obj.cells (coA x) 50 (0, 0)) :: [])) := EX18.out
          have hone := @EnvC.one _ _ _ hw20
          iterate 3 (refine wpG_op rfl rfl rfl ?_; intro K hK; go_big_quiet_op; go_big_quiet_on)
          (refine wpG_val (v := .pointer (some (ad.add (i * 35)))) rfl rfl (fun u hu => idxSl_op (i := i) Tryd.underlying22 aggCo.size HI.out u rfl rfl) ?_ hw20; intro K hK; go_big_quiet_op; go_big_quiet_on)
          (refine wpG_val (v := .agg (coC y).toArray) rfl rfl (fun u hu => load_any_op u (HLD.out u (EnvX.sub hu (fun _ h => by cases h))).1 rfl) ?_ hw20; intro K hK; go_big_quiet_op; go_big_quiet_on)
          clear hone hw20
          refine wpG_nil ?_
          refine (hOp_fresh (R := BuiltR 50 (coC y)) (M0 := (N ++ ((w.heap.size, Obj.cells (coA x) 50 (0, 0)) :: []))) rfl rfl (fun _ h => h) (fun u hu => FAt_buildR elCo (coC_len HY.out) (coC_one _) rfl u) ?_)
          rintro _ _ ⟨g10, rfl, rfl⟩ hf he21; intro K' hK'; go_big_quiet_op; go_big_quiet_on
          clear hf
          change lexH _ _ _ _ _ _ ((g10, Obj.cells (coC y).toArray 50 (0, 0)) :: (N ++ ((w.heap.size, Obj.cells (coA x) 50 (0, 0)) :: [])))
          refine (hOp_own (gd := none) (R := GrownR w 50 35 (s0.length + 1) (xs ++ coC y) [(w.heap.size, Obj.cells (coA x) 50 (0, 0))]) rfl rfl rfl rfl (fun u hu => appR_op elCo (m := 1) (c := 1) [(w.heap.size, Obj.cells (coA x) 50 (0, 0))] hu HSL.out (by rw [Nat.one_mul]; exact coC_len HY.out) (coC_one _) HF.out (fun y hy => ⟨List.mem_cons_of_mem _ (List.mem_append_left _ hy), (HN.out y hy).1⟩) (List.Mem.head _) (fun z hz => ⟨List.mem_cons_of_mem _ (List.mem_append_right _ hz), fun y hy => (HN.out y hy).2 z hz⟩) (by have := HLE.out; omega) rfl rfl) ?_)
          rintro x9 M' ⟨N9, rfl, hF9, hn9⟩ he22; intro K' hK'; go_big_quiet_op; go_big_quiet_on
          have HN9F := Lib.hid hF9
          have HN9N := Lib.hid hn9
          clear hF9 hn9
          change lexH _ _ _ _ _ _ (N9 ++ ((w.heap.size, Obj.cells (coA x) 50 (0, 0)) :: []))
          refine lexH_phase [7] [] ?_
          have hw23 : EnvX w _ (N9 ++ ((w.heap.size, Obj.cells (coA x) 50 (0, 0)) :: [])) := he22.choose_spec
          have hone := @EnvC.one _ _ _ hw23
          (refine wpG_op rfl rfl rfl ?_; intro K hK; go_big_quiet_op; go_big_quiet_on)
          clear hone hw23
          refine wpG_nil ?_
          intro u25 E2'
          have EX24 := Lib.hid E2'
          clear E2'
          have HW : Hid (wState (p.take (i + 1)) x = (s0 ++ [y], true)) := by
            show _ = _
            rw [HSTEP.out]
            unfold wStep
            rw [HBV.out]
            rfl
          have HNX : Hid (∃ N, FreshR 50 35 (wState (p.take (i + 1)) x).1.length ((wState (p.take (i + 1)) x).1.map coC).flatten x9 N ∧ freshN w N [(w.heap.size, Obj.cells (coA x) 50 (0, 0))] ∧ EnvX w u25 (N ++ [(w.heap.size, Obj.cells (coA x) 50 (0, 0))])) := ⟨N9, by
            rw [HW.out, show ((s0 ++ [y]).map coC).flatten = xs ++ coC y by rw [← HXS.out]; simp, show (s0 ++ [y]).length = s0.length + 1 by simp]
            exact HN9F.out, HN9N.out, EX24.out⟩
          have hii := HI.out
          have hn := HN63.out
          go_wp2
          go_roundw
          case rel => exact ⟨i + 1, by omega, by go_num, by rw [HW.out], HNX⟩
          case measure => simp [intOf]; omega
      | true =>
        cases dn with
        | false =>
          go_upto_region 7 with (fail)
          refine wp_region_Hx (w0 := w) [0, 1, 2, 3, 4] (N ++ ((w.heap.size, Obj.cells (coA x) 50 (0, 0)) :: [])) rfl EX15.out ?_
          refine lexH_phase [0, 1, 2, 3, 4] [] ?_
          have hw17 : EnvX w _ (N ++ ((w.heap.size, Obj.cells (coA x) 50 (0, 0)) :: [])) := EX15.out
          have hone := @EnvC.one _ _ _ hw17
          iterate 5 (refine wpG_op rfl rfl rfl ?_; intro K hK; go_big_quiet_op; go_big_quiet_on)
          clear hone hw17
          refine wpG_nil ?_
          intro u19 E2'
          have EX18 := Lib.hid E2'
          clear E2'
          go_upto_region 8 with (fail)
          refine wp_region_Hx (w0 := w) [0, 1, 2, 3, 4] (N ++ ((w.heap.size, Obj.cells (coA x) 50 (0, 0)) :: [])) rfl EX18.out ?_
          refine lexH_phase [0, 1] [2, 3, 4] ?_
          have hw20 : EnvX w _ (N ++ ((w.heap.size, Obj.cells (coA x) 50 (0, 0)) :: [])) := EX18.out
          have hone := @EnvC.one _ _ _ hw20
          (refine wpG_op rfl rfl rfl ?_; intro K hK; go_big_quiet_op; go_big_quiet_on)
          (refine wpG_val (v := .agg (coC x).toArray) rfl rfl (fun u hu => load_any_op u (box_co hu (List.mem_append_right _ (List.Mem.head _)) HX.out) rfl) ?_ hw20; intro K hK; go_big_quiet_op; go_big_quiet_on)
          clear hone hw20
          refine wpG_nil ?_
          refine (hOp_fresh (R := BuiltR 50 (coC x)) (M0 := (N ++ ((w.heap.size, Obj.cells (coA x) 50 (0, 0)) :: []))) rfl rfl (fun _ h => h) (fun u hu => FAt_buildR elCo (coC_len HX.out) (coC_one _) rfl u) ?_)
          rintro _ _ ⟨g8, rfl, rfl⟩ hf he21; intro K' hK'; go_big_quiet_op; go_big_quiet_on
          clear hf
          change lexH _ _ _ _ _ _ ((g8, Obj.cells (coC x).toArray 50 (0, 0)) :: (N ++ ((w.heap.size, Obj.cells (coA x) 50 (0, 0)) :: [])))
          refine (hOp_own (gd := none) (R := GrownR w 50 35 (s0.length + 1) (xs ++ coC x) [(w.heap.size, Obj.cells (coA x) 50 (0, 0))]) rfl rfl rfl rfl (fun u hu => appR_op elCo (m := 1) (c := 1) [(w.heap.size, Obj.cells (coA x) 50 (0, 0))] hu HSL.out (by rw [Nat.one_mul]; exact coC_len HX.out) (coC_one _) HF.out (fun y hy => ⟨List.mem_cons_of_mem _ (List.mem_append_left _ hy), (HN.out y hy).1⟩) (List.Mem.head _) (fun z hz => ⟨List.mem_cons_of_mem _ (List.mem_append_right _ hz), fun y hy => (HN.out y hy).2 z hz⟩) (by have := HLE.out; omega) rfl rfl) ?_)
          rintro x8 M' ⟨N8, rfl, hF9, hn9⟩ he22; intro K' hK'; go_big_quiet_op; go_big_quiet_on
          have HN8F := Lib.hid hF9
          have HN8N := Lib.hid hn9
          clear hF9 hn9
          change lexH _ _ _ _ _ _ (N8 ++ ((w.heap.size, Obj.cells (coA x) 50 (0, 0)) :: []))
          refine lexH_phase [4] [] ?_
          have hw23 : EnvX w _ (N8 ++ ((w.heap.size, Obj.cells (coA x) 50 (0, 0)) :: [])) := he22.choose_spec
          have hone := @EnvC.one _ _ _ hw23
          (refine wpG_op rfl rfl rfl ?_; intro K hK; go_big_quiet_op; go_big_quiet_on)
          clear hone hw23
          refine wpG_nil ?_
          intro u25 E2'
          have EX24 := Lib.hid E2'
          clear E2'
          have HSL2 : Hid ((xs ++ coC x).length = (s0.length + 1) * 35) := by show _ = _; rw [List.length_append, HSL.out, coC_len HX.out]; omega
          go_upto_region 9 with (fail)
          refine wp_region_Hx (w0 := w) [0] (N8 ++ ((w.heap.size, Obj.cells (coA x) 50 (0, 0)) :: [])) rfl EX24.out ?_
          refine lexH_phase [0] [] ?_
          have hw26 : EnvX w _ (N8 ++ ((w.heap.size, Obj.cells (coA x) 50 (0, 0)) :: [])) := EX24.out
          have hone := @EnvC.one _ _ _ hw26
          (refine wpG_op rfl rfl rfl ?_; intro K hK; go_big_quiet_op; go_big_quiet_on)
          clear hone hw26
          refine wpG_nil ?_
          intro u28 E2'
          have EX27 := Lib.hid E2'
          clear E2'
          go_upto_region 10 with (fail)
          refine wp_region_Hx (w0 := w) [0, 1, 2, 3, 4, 5, 6, 7] (N8 ++ ((w.heap.size, Obj.cells (coA x) 50 (0, 0)) :: [])) rfl EX27.out ?_
          refine lexH_phase [0, 1, 2, 3, 4] [5, 6, 7] ?_
          have hw29 : EnvX w _ (N8 ++ ((w.heap.size, Obj.cells (coA x) 50 (0, 0)) :: [])) := EX27.out
          have hone := @EnvC.one _ _ _ hw29
          iterate 3 (refine wpG_op rfl rfl rfl ?_; intro K hK; go_big_quiet_op; go_big_quiet_on)
          (refine wpG_val (v := .pointer (some (ad.add (i * 35)))) rfl rfl (fun u hu => idxSl_op (i := i) Tryd.underlying22 aggCo.size HI.out u rfl rfl) ?_ hw29; intro K hK; go_big_quiet_op; go_big_quiet_on)
          (refine wpG_val (v := .agg (coC y).toArray) rfl rfl (fun u hu => load_any_op u (HLD.out u (EnvX.sub hu (fun _ h => by cases h))).1 rfl) ?_ hw29; intro K hK; go_big_quiet_op; go_big_quiet_on)
          clear hone hw29
          refine wpG_nil ?_
          refine (hOp_fresh (R := BuiltR 50 (coC y)) (M0 := (N8 ++ ((w.heap.size, Obj.cells (coA x) 50 (0, 0)) :: []))) rfl rfl (fun _ h => h) (fun u hu => FAt_buildR elCo (coC_len HY.out) (coC_one _) rfl u) ?_)
          rintro _ _ ⟨g10, rfl, rfl⟩ hf he30; intro K' hK'; go_big_quiet_op; go_big_quiet_on
          clear hf
          change lexH _ _ _ _ _ _ ((g10, Obj.cells (coC y).toArray 50 (0, 0)) :: (N8 ++ ((w.heap.size, Obj.cells (coA x) 50 (0, 0)) :: [])))
          refine (hOp_own (gd := none) (R := GrownR w 50 35 ((s0.length + 1) + 1) ((xs ++ coC x) ++ coC y) [(w.heap.size, Obj.cells (coA x) 50 (0, 0))]) rfl rfl rfl rfl (fun u hu => appR_op elCo (m := 1) (c := 1) [(w.heap.size, Obj.cells (coA x) 50 (0, 0))] hu HSL2.out (by rw [Nat.one_mul]; exact coC_len HY.out) (coC_one _) HN8F.out (fun y hy => ⟨List.mem_cons_of_mem _ (List.mem_append_left _ hy), (HN8N.out y hy).1⟩) (List.Mem.head _) (fun z hz => ⟨List.mem_cons_of_mem _ (List.mem_append_right _ hz), fun y hy => (HN8N.out y hy).2 z hz⟩) (by have := HLE.out; omega) rfl rfl) ?_)
          rintro x9 M' ⟨N9, rfl, hF9, hn9⟩ he31; intro K' hK'; go_big_quiet_op; go_big_quiet_on
          have HN9F := Lib.hid hF9
          have HN9N := Lib.hid hn9
          clear hF9 hn9
          change lexH _ _ _ _ _ _ (N9 ++ ((w.heap.size, Obj.cells (coA x) 50 (0, 0)) :: []))
          refine lexH_phase [7] [] ?_
          have hw32 : EnvX w _ (N9 ++ ((w.heap.size, Obj.cells (coA x) 50 (0, 0)) :: [])) := he31.choose_spec
          have hone := @EnvC.one _ _ _ hw32
          (refine wpG_op rfl rfl rfl ?_; intro K hK; go_big_quiet_op; go_big_quiet_on)
          clear hone hw32
          refine wpG_nil ?_
          intro u34 E2'
          have EX33 := Lib.hid E2'
          clear E2'
          have HW : Hid (wState (p.take (i + 1)) x = (s0 ++ [x] ++ [y], true)) := by
            show _ = _
            rw [HSTEP.out]
            unfold wStep
            rw [HBV.out]
            rfl
          have HNX : Hid (∃ N, FreshR 50 35 (wState (p.take (i + 1)) x).1.length ((wState (p.take (i + 1)) x).1.map coC).flatten x9 N ∧ freshN w N [(w.heap.size, Obj.cells (coA x) 50 (0, 0))] ∧ EnvX w u34 (N ++ [(w.heap.size, Obj.cells (coA x) 50 (0, 0))])) := ⟨N9, by
            rw [HW.out, show ((s0 ++ [x] ++ [y]).map coC).flatten = xs ++ coC x ++ coC y by rw [← HXS.out]; simp, show (s0 ++ [x] ++ [y]).length = s0.length + 1 + 1 by simp]
            exact HN9F.out, HN9N.out, EX33.out⟩
          have hii := HI.out
          have hn := HN63.out
          go_wp2
          go_roundw
          case rel => exact ⟨i + 1, by omega, by go_num, by rw [HW.out], HNX⟩
          case measure => simp [intOf]; omega
        | true =>
          go_upto_region 7 with (fail)
          refine wp_region_Hx (w0 := w) [0, 1, 2, 3, 4] (N ++ ((w.heap.size, Obj.cells (coA x) 50 (0, 0)) :: [])) rfl EX15.out ?_
          refine lexH_phase [0, 1, 2, 3, 4] [] ?_
          have hw17 : EnvX w _ (N ++ ((w.heap.size, Obj.cells (coA x) 50 (0, 0)) :: [])) := EX15.out
          have hone := @EnvC.one _ _ _ hw17
          iterate 5 (refine wpG_op rfl rfl rfl ?_; intro K hK; go_big_quiet_op; go_big_quiet_on)
          clear hone hw17
          refine wpG_nil ?_
          intro u19 E2'
          have EX18 := Lib.hid E2'
          clear E2'
          go_upto_region 10 with (fail)
          refine wp_region_Hx (w0 := w) [0, 1, 2, 3, 4, 5, 6, 7] (N ++ ((w.heap.size, Obj.cells (coA x) 50 (0, 0)) :: [])) rfl EX18.out ?_
          refine lexH_phase [0, 1, 2, 3, 4] [5, 6, 7] ?_
          have hw20 : EnvX w _ (N ++ ((w.heap.size, Obj.cells (coA x) 50 (0, 0)) :: [])) := EX18.out
          have hone := @EnvC.one _ _ _ hw20
          iterate 3 (refine wpG_op rfl rfl rfl ?_; intro K hK; go_big_quiet_op; go_big_quiet_on)
          (refine wpG_val (v := .pointer (some (ad.add (i * 35)))) rfl rfl (fun u hu => idxSl_op (i := i) Tryd.underlying22 aggCo.size HI.out u rfl rfl) ?_ hw20; intro K hK; go_big_quiet_op; go_big_quiet_on)
          (refine wpG_val (v := .agg (coC y).toArray) rfl rfl (fun u hu => load_any_op u (HLD.out u (EnvX.sub hu (fun _ h => by cases h))).1 rfl) ?_ hw20; intro K hK; go_big_quiet_op; go_big_quiet_on)
          clear hone hw20
          refine wpG_nil ?_
          refine (hOp_fresh (R := BuiltR 50 (coC y)) (M0 := (N ++ ((w.heap.size, Obj.cells (coA x) 50 (0, 0)) :: []))) rfl rfl (fun _ h => h) (fun u hu => FAt_buildR elCo (coC_len HY.out) (coC_one _) rfl u) ?_)
          rintro _ _ ⟨g10, rfl, rfl⟩ hf he21; intro K' hK'; go_big_quiet_op; go_big_quiet_on
          clear hf
          change lexH _ _ _ _ _ _ ((g10, Obj.cells (coC y).toArray 50 (0, 0)) :: (N ++ ((w.heap.size, Obj.cells (coA x) 50 (0, 0)) :: [])))
          refine (hOp_own (gd := none) (R := GrownR w 50 35 (s0.length + 1) (xs ++ coC y) [(w.heap.size, Obj.cells (coA x) 50 (0, 0))]) rfl rfl rfl rfl (fun u hu => appR_op elCo (m := 1) (c := 1) [(w.heap.size, Obj.cells (coA x) 50 (0, 0))] hu HSL.out (by rw [Nat.one_mul]; exact coC_len HY.out) (coC_one _) HF.out (fun y hy => ⟨List.mem_cons_of_mem _ (List.mem_append_left _ hy), (HN.out y hy).1⟩) (List.Mem.head _) (fun z hz => ⟨List.mem_cons_of_mem _ (List.mem_append_right _ hz), fun y hy => (HN.out y hy).2 z hz⟩) (by have := HLE.out; omega) rfl rfl) ?_)
          rintro x9 M' ⟨N9, rfl, hF9, hn9⟩ he22; intro K' hK'; go_big_quiet_op; go_big_quiet_on
          have HN9F := Lib.hid hF9
          have HN9N := Lib.hid hn9
          clear hF9 hn9
          change lexH _ _ _ _ _ _ (N9 ++ ((w.heap.size, Obj.cells (coA x) 50 (0, 0)) :: []))
          refine lexH_phase [7] [] ?_
          have hw23 : EnvX w _ (N9 ++ ((w.heap.size, Obj.cells (coA x) 50 (0, 0)) :: [])) := he22.choose_spec
          have hone := @EnvC.one _ _ _ hw23
          (refine wpG_op rfl rfl rfl ?_; intro K hK; go_big_quiet_op; go_big_quiet_on)
          clear hone hw23
          refine wpG_nil ?_
          intro u25 E2'
          have EX24 := Lib.hid E2'
          clear E2'
          have HW : Hid (wState (p.take (i + 1)) x = (s0 ++ [y], true)) := by
            show _ = _
            rw [HSTEP.out]
            unfold wStep
            rw [HBV.out]
            rfl
          have HNX : Hid (∃ N, FreshR 50 35 (wState (p.take (i + 1)) x).1.length ((wState (p.take (i + 1)) x).1.map coC).flatten x9 N ∧ freshN w N [(w.heap.size, Obj.cells (coA x) 50 (0, 0))] ∧ EnvX w u25 (N ++ [(w.heap.size, Obj.cells (coA x) 50 (0, 0))])) := ⟨N9, by
            rw [HW.out, show ((s0 ++ [y]).map coC).flatten = xs ++ coC y by rw [← HXS.out]; simp, show (s0 ++ [y]).length = s0.length + 1 by simp]
            exact HN9F.out, HN9N.out, EX24.out⟩
          have hii := HI.out
          have hn := HN63.out
          go_wp2
          go_roundw
          case rel => exact ⟨i + 1, by omega, by go_num, by rw [HW.out], HNX⟩
          case measure => simp [intOf]; omega
    · obtain rfl : i = n := by omega
      have C2 : Hid (decide ((i : Int) < (i : Int)) = false) := decide_eq_false (by omega)
      have hend := wState_end p x
      rw [List.take_of_length_le (by rw [HL.out]; exact Nat.le_refl _)] at HST
      rw [HST.out] at hend
      simp only at hend
      have HEND := Lib.hid hend
      obtain ⟨xs, hxs⟩ : ∃ xs, (s0.map coC).flatten = xs := ⟨_, rfl⟩
      have HXS := Lib.hid hxs
      rw [hxs] at HF HSL
      clear hend hlt hxs
      go_upto_region 4 with (fail)
      refine wp_region_Hx (w0 := w) [0, 1, 2, 3] (N ++ ((w.heap.size, Obj.cells (coA x) 50 (0, 0)) :: [])) rfl EK.out ?_
      refine lexH_phase [0, 1, 2, 3] [] ?_
      have hw401 : EnvX w _ (N ++ ((w.heap.size, Obj.cells (coA x) 50 (0, 0)) :: [])) := EK.out
      have hone := @EnvC.one _ _ _ hw401
      iterate 2 (refine wpG_op rfl rfl rfl ?_; intro K hK; go_big_quiet_op; go_big_quiet_on)
      (refine wpG_val (v := .int .i64 (i : Int)) rfl rfl (fun u hu => len_op Tryd.underlying22 HN63.out u rfl) ?_ hw401; intro K hK; go_big_quiet_op; go_big_quiet_on)
      (refine wpG_val (v := .bool false) rfl rfl (fun u hu => ltZ_op u C2.out rfl rfl) ?_ hw401; intro K hK; go_big_quiet_op; go_big_quiet_on)
      clear hone hw401
      refine wpG_nil ?_
      intro u403 E2'
      have EX402 := Lib.hid E2'
      clear E2'
      cases dn with
      | true =>
        go_upto_region 11 with (fail)
        refine wp_region_Hx (w0 := w) [0, 1] (N ++ ((w.heap.size, Obj.cells (coA x) 50 (0, 0)) :: [])) rfl EX402.out ?_
        refine lexH_phase [0, 1] [] ?_
        have hw404 : EnvX w _ (N ++ ((w.heap.size, Obj.cells (coA x) 50 (0, 0)) :: [])) := EX402.out
        have hone := @EnvC.one _ _ _ hw404
        iterate 2 (refine wpG_op rfl rfl rfl ?_; intro K hK; go_big_quiet_op; go_big_quiet_on)
        clear hone hw404
        refine wpG_nil ?_
        intro u406 E2'
        have EX405 := Lib.hid E2'
        clear E2'
        go_upto_region 13 with (fail)
        refine wp_region_Hx (w0 := w) [0, 1] (N ++ ((w.heap.size, Obj.cells (coA x) 50 (0, 0)) :: [])) rfl EX405.out ?_
        refine lexH_phase [0, 1] [] ?_
        have hw407 : EnvX w _ (N ++ ((w.heap.size, Obj.cells (coA x) 50 (0, 0)) :: [])) := EX405.out
        have hone := @EnvC.one _ _ _ hw407
        iterate 2 (refine wpG_op rfl rfl rfl ?_; intro K hK; go_big_quiet_op; go_big_quiet_on)
        clear hone hw407
        refine wpG_nil ?_
        intro u409 E2'
        have EX408 := Lib.hid E2'
        clear E2'
        have HW : Hid (withP p x = s0) := HEND.out.symm
        have HO := Lib.hid (HF.out.own HSL.out (w := u409) (B := w.heap.size) (fun y hy => ⟨(HN.out y hy).1, EnvX.box EX408.out _ _ (List.mem_append_left _ hy)⟩))
        have HBE := Lib.hid (EnvX.bel EX408.out)
        go_wp2
        go_returns
        exact ⟨⟨_, rfl, by rw [HW.out, HXS.out]; exact HO.out⟩, HBE.out⟩
      | false =>
        go_upto_region 11 with (fail)
        refine wp_region_Hx (w0 := w) [0, 1] (N ++ ((w.heap.size, Obj.cells (coA x) 50 (0, 0)) :: [])) rfl EX402.out ?_
        refine lexH_phase [0, 1] [] ?_
        have hw404 : EnvX w _ (N ++ ((w.heap.size, Obj.cells (coA x) 50 (0, 0)) :: [])) := EX402.out
        have hone := @EnvC.one _ _ _ hw404
        iterate 2 (refine wpG_op rfl rfl rfl ?_; intro K hK; go_big_quiet_op; go_big_quiet_on)
        clear hone hw404
        refine wpG_nil ?_
        intro u406 E2'
        have EX405 := Lib.hid E2'
        clear E2'
        go_upto_region 12 with (fail)
        refine wp_region_Hx (w0 := w) [0, 1, 2, 3, 4] (N ++ ((w.heap.size, Obj.cells (coA x) 50 (0, 0)) :: [])) rfl EX405.out ?_
        refine lexH_phase [0, 1] [2, 3, 4] ?_
        have hw407 : EnvX w _ (N ++ ((w.heap.size, Obj.cells (coA x) 50 (0, 0)) :: [])) := EX405.out
        have hone := @EnvC.one _ _ _ hw407
        (refine wpG_op rfl rfl rfl ?_; intro K hK; go_big_quiet_op; go_big_quiet_on)
        (refine wpG_val (v := .agg (coC x).toArray) rfl rfl (fun u hu => load_any_op u (box_co hu (List.mem_append_right _ (List.Mem.head _)) HX.out) rfl) ?_ hw407; intro K hK; go_big_quiet_op; go_big_quiet_on)
        clear hone hw407
        refine wpG_nil ?_
        refine (hOp_fresh (R := BuiltR 50 (coC x)) (M0 := (N ++ ((w.heap.size, Obj.cells (coA x) 50 (0, 0)) :: []))) rfl rfl (fun _ h => h) (fun u hu => FAt_buildR elCo (coC_len HX.out) (coC_one _) rfl u) ?_)
        rintro _ _ ⟨g12, rfl, rfl⟩ hf he408; intro K' hK'; go_big_quiet_op; go_big_quiet_on
        clear hf
        change lexH _ _ _ _ _ _ ((g12, Obj.cells (coC x).toArray 50 (0, 0)) :: (N ++ ((w.heap.size, Obj.cells (coA x) 50 (0, 0)) :: [])))
        refine (hOp_own (gd := none) (R := GrownR w 50 35 (s0.length + 1) (xs ++ coC x) [(w.heap.size, Obj.cells (coA x) 50 (0, 0))]) rfl rfl rfl rfl (fun u hu => appR_op elCo (m := 1) (c := 1) [(w.heap.size, Obj.cells (coA x) 50 (0, 0))] hu HSL.out (by rw [Nat.one_mul]; exact coC_len HX.out) (coC_one _) HF.out (fun y hy => ⟨List.mem_cons_of_mem _ (List.mem_append_left _ hy), (HN.out y hy).1⟩) (List.Mem.head _) (fun z hz => ⟨List.mem_cons_of_mem _ (List.mem_append_right _ hz), fun y hy => (HN.out y hy).2 z hz⟩) (by have := HLE.out; omega) rfl rfl) ?_)
        rintro x9 M' ⟨N9, rfl, hF9, hn9⟩ he409; intro K' hK'; go_big_quiet_op; go_big_quiet_on
        have HN9F := Lib.hid hF9
        have HN9N := Lib.hid hn9
        clear hF9 hn9
        change lexH _ _ _ _ _ _ (N9 ++ ((w.heap.size, Obj.cells (coA x) 50 (0, 0)) :: []))
        refine lexH_phase [4] [] ?_
        have hw410 : EnvX w _ (N9 ++ ((w.heap.size, Obj.cells (coA x) 50 (0, 0)) :: [])) := he409.choose_spec
        have hone := @EnvC.one _ _ _ hw410
        (refine wpG_op rfl rfl rfl ?_; intro K hK; go_big_quiet_op; go_big_quiet_on)
        clear hone hw410
        refine wpG_nil ?_
        intro u412 E2'
        have EX411 := Lib.hid E2'
        clear E2'
        go_upto_region 13 with (fail)
        refine wp_region_Hx (w0 := w) [0, 1] (N9 ++ ((w.heap.size, Obj.cells (coA x) 50 (0, 0)) :: [])) rfl EX411.out ?_
        refine lexH_phase [0, 1] [] ?_
        have hw413 : EnvX w _ (N9 ++ ((w.heap.size, Obj.cells (coA x) 50 (0, 0)) :: [])) := EX411.out
        have hone := @EnvC.one _ _ _ hw413
        iterate 2 (refine wpG_op rfl rfl rfl ?_; intro K hK; go_big_quiet_op; go_big_quiet_on)
        clear hone hw413
        refine wpG_nil ?_
        intro u415 E2'
        have EX414 := Lib.hid E2'
        clear E2'
        have HW : Hid (withP p x = s0 ++ [x]) := HEND.out.symm
        have HO := Lib.hid (HN9F.out.own (by rw [List.length_append, HSL.out, coC_len HX.out]; omega) (w := u415) (B := w.heap.size) (fun y hy => ⟨(HN9N.out y hy).1, EnvX.box EX414.out _ _ (List.mem_append_left _ hy)⟩))
        have HBE := Lib.hid (EnvX.bel EX414.out)
        go_wp2
        go_returns
        exact ⟨⟨_, rfl, by rw [HW.out, show ((s0 ++ [x]).map coC).flatten = xs ++ coC x by rw [← HXS.out]; simp, show (s0 ++ [x]).length = s0.length + 1 by simp]; exact HO.out⟩, HBE.out⟩
set_option maxRecDepth 20000 in
set_option maxHeartbeats 8000000 in
theorem rmadeP_any (p : List CoinR) (A : Option Addr) (n c : Nat) (t : TxM) (w : World) (hl : p.length = n) (hnc : n ≤ c) (hcm : c ≤ maxLen) (hI : okP p) (hA : CoinsIn w w.heap.size A p) (hn : n ≤ 500) (ht : TxOk w t) (hm : mayX t.r = true) :
    Calls Tryd.prog 31 #[.slice A n c, txV t] w fun e w' => (∃ v, e = .returned v ∧ CoSl w' v (madeP p (newC (idX t.r) 0 t.r.outs))) ∧ Below w.heap.size w w' := by
  have HIDT : Hid (∀ u, Below w.heap.size w u → Calls Tryd.prog 30 #[txV t] u fun e w' => e = .returned (idv (idX t.r)) ∧ Below u.heap.size u w') := fun u hu => ridX_any t u (ht.up hu)
  have hid := idX_id t.r
  have HPP := Lib.hid hI
  have HN5 : Hid (n ≤ 500) := hn
  have HO2 := Lib.hid ht.o2
  have HM2 := Lib.hid ht.m2
  have hl2 : t.r.outs.length = t.n2 := ht.l2
  have HN2 : Hid (t.n2 < 9223372036854775808) := ht.n63.2
  have HL2 := Lib.hid hl2
  have hm3 := (mayX_iff.1 hm).2.2.1
  rw [hl2] at hm3
  have HM3 := Lib.hid hm3
  obtain ⟨id, hide⟩ : ∃ id, idX t.r = id := ⟨_, rfl⟩
  rw [hide] at HIDT hid ⊢
  have HID : Hid (isId id) := hid
  have HIL : Hid (id.length = 32) := hid.1
  have E1 : Hid (EnvX w (w.alloc (.cells (txA t) 26)) [(w.heap.size, Obj.cells (txA t) 26 (0, 0))]) := (EnvX.start w).new _
  have HP0 : Hid (∀ u, Below w.heap.size w u → CoSl u (.slice A n c) p) := fun u hu => ⟨A, c, by rw [hl], by rw [hl]; exact hnc, hcm, CellsIn.up hA hu⟩
  have HL := Lib.hid hl
  clear hl hnc hcm hI hA hn ht hm hide hid hl2 hm3
  unfold txV at *
  go_enter Tryd.func31, Tryd.ntmps31
  go_upto_region 1 with (fail)
  generalize w.alloc (.cells (txA t) 26) = W at *
  refine wp_region_Hx (w0 := w) [0, 1, 2, 3] [(w.heap.size, Obj.cells (txA t) 26 (0, 0))] rfl E1.out ?_
  refine lexH_phase [0, 1] [2, 3] ?_
  have hw1 : EnvX w _ [(w.heap.size, Obj.cells (txA t) 26 (0, 0))] := E1.out
  have hone := @EnvC.one _ _ _ hw1
  (refine wpG_val (v := .agg (txA t)) rfl rfl (fun u hu => load_any_op u (box_tx hu (List.Mem.head _)) rfl) ?_ hw1; intro K hK; go_big_quiet_op; go_big_quiet_on)
  (refine wpG_call (f := 30) (args := #[.agg (txA t)]) (v := idv id) rfl rfl rfl Tryd.func30 rfl rfl (fun u hu => HIDT.out u (EnvX.bel hu)) ?_ hw1; intro K hK; go_big_quiet_op; go_big_quiet_on)
  clear hone hw1
  refine wpG_nil ?_
  refine (hOp_fresh (R := fun x N => ∃ g, x = .pointer (some ⟨g, 0, none⟩) ∧ N = [(g, Obj.cells (arrB 32 []) 40 (0, 0))]) (M0 := [(w.heap.size, Obj.cells (txA t) 26 (0, 0))]) rfl rfl (fun _ h => h) (fun u hu => FAt_new (new_id _) u) ?_)
  rintro _ _ ⟨gi, rfl, rfl⟩ hf he2; intro K' hK'; go_big_quiet_op; go_big_quiet_on
  have HGI := Lib.hid (hf _ (List.mem_singleton.2 rfl))
  clear hf
  change lexH _ _ _ _ _ _ [(gi, Obj.cells (arrB 32 []) 40 (0, 0)), (w.heap.size, Obj.cells (txA t) 26 (0, 0))]
  refine (hOp_store rfl (gi) (arrB 32 id) rfl rfl HGI.out.1 40 ((arrB 32 [])) (List.Mem.head _) (info26 _ (arrB_size _ _ (by rw [HIL.out]; exact Nat.le_refl _))) ((arrB_size _ _ (by simp)).trans (arrB_size _ _ (by rw [HIL.out]; exact Nat.le_refl _)).symm) (arrB_one _ _) [(gi, Obj.cells (arrB 32 id) 40 (0, 0)), (w.heap.size, Obj.cells (txA t) 26 (0, 0))] (List.forall_mem_cons.2 ⟨.inl rfl, fun y hy => .inr ⟨List.mem_cons_of_mem _ hy, HGI.out.2 y hy⟩⟩) ?_)
  intro he3
  intro u5 E2'
  have EX4 := Lib.hid E2'
  clear E2'
  have HINV : Hid (CoSl u5 (.slice A n c) (madeP p (newC id 0 (t.r.outs.take 0))) ∧ EnvX w u5 [(gi, Obj.cells (arrB 32 id) 40 (0, 0)), (w.heap.size, Obj.cells (txA t) 26 (0, 0))]) := ⟨HP0.out _ (EnvX.bel EX4.out), EX4.out⟩
  clear EX4 E1
  go_upto_region 3 with (fail)
  go_loopw [0, 6] (fun v iv u => ∃ i : Nat, i ≤ t.n2 ∧ iv = .int .i64 (i : Int) ∧ Hid (CoSl u v (madeP p (newC id 0 (t.r.outs.take i))) ∧ EnvX w u [(gi, Obj.cells (arrB 32 id) 40 (0, 0)), (w.heap.size, Obj.cells (txA t) 26 (0, 0))])) (fun _ iv _ => t.n2 - (intOf iv).toNat)
  case atStart => exact ⟨0, by omega, rfl, HINV⟩
  case round =>
    obtain ⟨i, hi, rfl, hinv⟩ := hrel
    obtain ⟨⟨A1, c1, rfl, hc1, hc2, hc3⟩, hE⟩ := hinv.out
    have EB := Lib.hid hE
    have hok : okP (madeP p (newC id 0 (t.r.outs.take i))) := madeP_ok HPP.out (newC_ok HID.out (fun o ho => HO2.out o (List.mem_of_mem_take ho)) (by rw [List.length_take]; have := HM3.out; have := HL2.out; omega))
    have hlen : (madeP p (newC id 0 (t.r.outs.take i))).length ≤ 600 := by rw [madeP_len, newC_len, List.length_take, HL.out]; have := HN5.out; have := HM3.out; have := HL2.out; omega
    have EK : Hid (EnvX wr wr []) := EnvX.start wr
    have HLT : Hid (∀ u, EnvX wr u [] → (loadVar 24 ⟨w.heap.size, 1, none⟩).run Tryd.prog u = .ok (.slice t.A2 t.n2 t.c2) u) := fun u hu => box_tx_outs (EnvX.below EB.out (EnvX.bel hu)) (List.mem_cons_of_mem _ (List.Mem.head _))
    have HLI : Hid (∀ u, EnvX wr u [] → (loadVar 40 ⟨gi, 0, none⟩).run Tryd.prog u = .ok (idv id) u) := fun u hu => box_idvP (EnvX.below EB.out (EnvX.bel hu)) (List.Mem.head _) HIL.out
    clear hinv HINV hE
    by_cases hlt : i < t.n2
    · have C3 : Hid (decide ((i : Int) < (t.n2 : Int)) = true) := decide_eq_true (by omega)
      have HI := Lib.hid hlt
      have hil : i < t.r.outs.length := by rw [HL2.out]; exact hlt
      obtain ⟨ad, hA2, -, hld⟩ := HM2.out.loads hil
      have HLD : Hid (∀ u, EnvX wr u [] → (loadVar 48 (ad.add (i * 2))).run Tryd.prog u = .ok (outV (t.r.outs.getD i noOut)) u) := fun u hu => (hld u ((EnvX.below EB.out (EnvX.bel hu)).sub (fun _ h => by cases h))).1
      rw [hA2] at HLT
      have hst := made_step (p := p) (id := id) noOut hil
      obtain ⟨o, ho⟩ : ∃ o, t.r.outs.getD i noOut = o := ⟨_, rfl⟩
      have hoo : okOut o := by rw [← ho]; exact HO2.out.get hil
      rw [ho] at HLD hst
      have hco : okCoin ⟨id, i, o.v, o.to⟩ := ⟨HID.out, (by have := HM3.out; show I64 ((i : Nat) : Int); unfold I64; omega), hoo.1, hoo.2⟩
      have HHC := Lib.hid (And.intro hc1 (And.intro hc2 hc3))
      have HHO := Lib.hid (And.intro hok hlen)
      obtain ⟨q, hq⟩ : ∃ q, madeP p (newC id 0 (t.r.outs.take i)) = q := ⟨_, rfl⟩
      rw [hq] at HHC HHO hst
      rw [hq]
      have HWT : Hid (∀ u, Below wr.heap.size wr u → Calls Tryd.prog 47 #[.slice A1 q.length c1, coV ⟨id, i, o.v, o.to⟩] u fun e w' => (∃ v, e = .returned v ∧ w'.ownsRow u.heap.size 50 35 v (withP q ⟨id, i, o.v, o.to⟩).length ((withP q ⟨id, i, o.v, o.to⟩).map coC).flatten) ∧ Below u.heap.size u w') := fun u hu =>
        rwithP_any q A1 q.length c1 ⟨id, i, o.v, o.to⟩ u rfl HHC.out.1 HHC.out.2.1 HHO.out.1 (CellsIn.up HHC.out.2.2 hu) (by have := HHO.out.2; omega) hco
      have HST := Lib.hid hst
      have HLC : Hid (lenI ⟨id, i⟩) := HIL.out
      have hwok : okP (withP q ⟨id, i, o.v, o.to⟩) := withP_ok HHO.out.1 hco
      obtain ⟨q2, hq2⟩ : ∃ q2, withP q ⟨id, i, o.v, o.to⟩ = q2 := ⟨_, rfl⟩
      rw [hq2] at HWT HST hwok
      have HFL : Hid ((q2.map coC).flatten.length = q2.length * 35) := by show _ = _; rw [(rowsCo hwok.lens).flat_len, List.length_map]
      clear hld hil hlt hst ho hoo hco hq hq2 hok hlen hc1 hc2 hc3 hwok HHC HHO
      go_upto_region 3 with (fail)
      refine wp_region_Hx (w0 := wr) [0, 1, 2, 3, 4] [] rfl EK.out ?_
      refine lexH_phase [0, 1, 2, 3, 4] [] ?_
      have hw21 : EnvX wr _ [] := EK.out
      have hone := @EnvC.one _ _ _ hw21
      (refine wpG_op rfl rfl rfl ?_; intro K hK; go_big_quiet_op; go_big_quiet_on)
      (refine wpG_val (v := .pointer (some ⟨w.heap.size, 1, none⟩)) rfl rfl (fun u hu => fieldTx_op (k := 1) (off := 1) (ad := ⟨w.heap.size, 0, none⟩) rfl u rfl) ?_ hw21; intro K hK; go_big_quiet_op; go_big_quiet_on)
      (refine wpG_val (v := .slice (some ad) t.n2 t.c2) rfl rfl (fun u hu => load_any_op u (HLT.out u (EnvX.sub hu (fun _ h => by cases h))) rfl) ?_ hw21; intro K hK; go_big_quiet_op; go_big_quiet_on)
      (refine wpG_val (v := .int .i64 (t.n2 : Int)) rfl rfl (fun u hu => len_op Tryd.underlying24 HN2.out u rfl) ?_ hw21; intro K hK; go_big_quiet_op; go_big_quiet_on)
      (refine wpG_val (v := .bool true) rfl rfl (fun u hu => ltZ_op u C3.out rfl rfl) ?_ hw21; intro K hK; go_big_quiet_op; go_big_quiet_on)
      clear hone hw21
      refine wpG_nil ?_
      intro u23 E2'
      have EX22 := Lib.hid E2'
      clear E2'
      go_upto_region 5 with (fail)
      refine wp_region_H (w0 := wr) [] (by kernel_rfl) EX22.out ?_
      refine anyH_phase [0, 1, 2, 3, 4, 5, 6, 7, 8, 9] 2 rfl ⟨_, (EnvX.drew EX22.out)⟩ (by kernel_rfl) ?_
      have hw24 : EnvX wr _ [] := (EnvX.drew EX22.out)
      have hone := @EnvC.one _ _ _ hw24
      (refine wpG_op rfl rfl rfl ?_; intro K hK; go_big_quiet_op; go_big_quiet_on)
      (refine wpG_val (v := idv id) rfl rfl (fun u hu => load_any_op u (HLI.out u (EnvX.sub hu (fun _ h => by cases h))) rfl) ?_ hw24; intro K hK; go_big_quiet_op; go_big_quiet_on)
      (refine wpG_op rfl rfl rfl ?_; intro K hK; go_big_quiet_op; go_big_quiet_on)
      (refine wpG_val (v := inV ⟨id, i⟩) rfl rfl (fun u hu => buildA_op u (built_in HIL.out)) ?_ hw24; intro K hK; go_big_quiet_op; go_big_quiet_on)
      (refine wpG_val (v := .pointer (some ⟨w.heap.size, 1, none⟩)) rfl rfl (fun u hu => fieldTx_op (k := 1) (off := 1) (ad := ⟨w.heap.size, 0, none⟩) rfl u rfl) ?_ hw24; intro K hK; go_big_quiet_op; go_big_quiet_on)
      (refine wpG_val (v := .slice (some ad) t.n2 t.c2) rfl rfl (fun u hu => load_any_op u (HLT.out u (EnvX.sub hu (fun _ h => by cases h))) rfl) ?_ hw24; intro K hK; go_big_quiet_op; go_big_quiet_on)
      (refine wpG_op rfl rfl rfl ?_; intro K hK; go_big_quiet_op; go_big_quiet_on)
      (refine wpG_val (v := .pointer (some (ad.add (i * 2)))) rfl rfl (fun u hu => idxSl_op (i := i) Tryd.underlying24 aggOut.size HI.out u rfl rfl) ?_ hw24; intro K hK; go_big_quiet_op; go_big_quiet_on)
      (refine wpG_val (v := outV o) rfl rfl (fun u hu => load_any_op u (HLD.out u (EnvX.sub hu (fun _ h => by cases h))) rfl) ?_ hw24; intro K hK; go_big_quiet_op; go_big_quiet_on)
      (refine wpG_val (v := coV ⟨id, i, o.v, o.to⟩) rfl rfl (fun u hu => buildA_op u (built_co HLC.out)) ?_ hw24; intro K hK; go_big_quiet_op; go_big_quiet_on)
      clear hone hw24
      refine wpG_nil ?_
      refine anyH_one (i := 10) (by kernel_rfl) (hOp_fresh (R := FreshR 50 35 q2.length (q2.map coC).flatten) (M0 := []) rfl rfl (fun _ h => h) (fun u hu => FAt_call (fid := 47) (xs := #[.tmp 16, .tmp 25]) (args := #[.slice A1 q.length c1, coV ⟨id, i, o.v, o.to⟩]) rfl Tryd.func47 rfl rfl u (callsR_fresh (HWT.out u (EnvX.bel hu)))) ?_)
      rintro x9 N9 hF hf he25; intro K' hK'; go_big_quiet_op; go_big_quiet_on
      have HF9 := Lib.hid hF
      clear hF
      clear hf
      change anyH _ _ _ _ _ _ _ _ (N9 ++ [])
      refine anyH_phase [11] 0 rfl ⟨_, he25.choose_spec⟩ (by kernel_rfl) ?_
      have hw26 : EnvX wr _ (N9 ++ []) := he25.choose_spec
      have hone := @EnvC.one _ _ _ hw26
      (refine wpG_op rfl rfl rfl ?_; intro K hK; go_big_quiet_op; go_big_quiet_on)
      clear hone hw26
      refine wpG_nil ?_
      refine anyH_done (by kernel_rfl) ?_
      intro u28 E2'
      have EX27 := Lib.hid E2'
      clear E2'
      have HNX : Hid (CoSl u28 x9 (madeP p (newC id 0 (t.r.outs.take (i + 1)))) ∧ EnvX w u28 [(gi, Obj.cells (arrB 32 id) 40 (0, 0)), (w.heap.size, Obj.cells (txA t) 26 (0, 0))]) := by
        refine ⟨?_, EnvX.below EB.out (EnvX.bel EX27.out)⟩
        rw [HST.out]
        obtain ⟨A2, c2, rfl, k1, k2⟩ := FreshR.formC HF9.out
        exact ⟨A2, c2, rfl, k1, k2, own_cells (HF9.out.own (B := 0) HFL.out (fun y hy => ⟨Nat.zero_le _, EnvX.box EX27.out _ _ (List.mem_append_left _ hy)⟩))⟩
      have hii := HI.out
      have hm3 := HM3.out
      have hn := HN2.out
      go_wp2
      go_roundw
      case rel => exact ⟨i + 1, by omega, by go_num, HNX⟩
      case measure => simp [intOf]; omega
    · obtain ⟨k, hk⟩ : ∃ k, t.n2 = k := ⟨_, rfl⟩
      obtain rfl : i = k := by omega
      have C3 : Hid (decide ((i : Int) < (i : Int)) = false) := decide_eq_false (by omega)
      have HTK : Hid (t.r.outs.take i = t.r.outs) := List.take_of_length_le (by rw [HL2.out, hk]; exact Nat.le_refl _)
      rw [HTK.out] at hc1 hc3 hok hlen ⊢
      have HRES : Hid (∀ u, EnvX wr u [] → CoSl u (.slice A1 (madeP p (newC id 0 t.r.outs)).length c1) (madeP p (newC id 0 t.r.outs))) := fun u hu => ⟨A1, c1, rfl, hc1, hc2, CellsIn.up hc3 (EnvX.bel hu)⟩
      rw [hk] at HLT HN2
      clear hc1 hc2 hc3 hok hlen hk hlt
      go_upto_region 3 with (fail)
      refine wp_region_Hx (w0 := wr) [0, 1, 2, 3, 4] [] rfl EK.out ?_
      refine lexH_phase [0, 1, 2, 3, 4] [] ?_
      have hw201 : EnvX wr _ [] := EK.out
      have hone := @EnvC.one _ _ _ hw201
      (refine wpG_op rfl rfl rfl ?_; intro K hK; go_big_quiet_op; go_big_quiet_on)
      (refine wpG_val (v := .pointer (some ⟨w.heap.size, 1, none⟩)) rfl rfl (fun u hu => fieldTx_op (k := 1) (off := 1) (ad := ⟨w.heap.size, 0, none⟩) rfl u rfl) ?_ hw201; intro K hK; go_big_quiet_op; go_big_quiet_on)
      (refine wpG_val (v := .slice t.A2 i t.c2) rfl rfl (fun u hu => load_any_op u (HLT.out u (EnvX.sub hu (fun _ h => by cases h))) rfl) ?_ hw201; intro K hK; go_big_quiet_op; go_big_quiet_on)
      (refine wpG_val (v := .int .i64 (i : Int)) rfl rfl (fun u hu => len_op Tryd.underlying24 HN2.out u rfl) ?_ hw201; intro K hK; go_big_quiet_op; go_big_quiet_on)
      (refine wpG_val (v := .bool false) rfl rfl (fun u hu => ltZ_op u C3.out rfl rfl) ?_ hw201; intro K hK; go_big_quiet_op; go_big_quiet_on)
      clear hone hw201
      refine wpG_nil ?_
      intro u203 E2'
      have EX202 := Lib.hid E2'
      clear E2'
      go_upto_region 6 with (fail)
      refine wp_region_Hx (w0 := wr) [0, 1] [] rfl EX202.out ?_
      refine lexH_phase [0, 1] [] ?_
      have hw204 : EnvX wr _ [] := EX202.out
      have hone := @EnvC.one _ _ _ hw204
      iterate 2 (refine wpG_op rfl rfl rfl ?_; intro K hK; go_big_quiet_op; go_big_quiet_on)
      clear hone hw204
      refine wpG_nil ?_
      intro u206 E2'
      have EX205 := Lib.hid E2'
      clear E2'
      have HBE : Hid (Below w.heap.size w u206) := (EnvX.below EB.out (EnvX.bel EX205.out)).bel
      have HR2 := Lib.hid (HRES.out _ EX205.out)
      go_wp2
      go_returns
      exact ⟨⟨_, rfl, HR2.out⟩, HBE.out⟩
section
variable {P : Program} {Γ : HP} {md : Region.Mode} {w0 : World}
def lexN (md : Region.Mode) (ops : Array Oper) : List Nat → Array Bool → Bool
  | [], _ => true
  | i :: rest, listed => (Region.ready md ops listed).contains i && gfree md ops listed i true && lexN md ops rest (listed.setIfInBounds i true)
theorem anyH_phaseN0 {Q : Act → Boxes → Prop} {l : List Oper} (hs : Region.noSelect l.toArray = true) {L : Boxes} : ∀ (ord : List Nat) (f : Nat) (listed : Array Bool) (a : Act), closedL md l.toArray listed →
    lexN md l.toArray ord listed = true → wpG0 P l (EnvC w0 []) (fun a' => anyH (Γ := Γ) P md l.toArray w0 Q f (listedBy ord listed) a' L) ord a → anyH (Γ := Γ) P md l.toArray w0 Q (ord.length + f) listed a L
  | [], f, listed, a, _, _, h => by simpa [wpG0, listedBy] using h
  | i :: ord, f, listed, a, hcl, hB, h => by
    simp only [lexN, Bool.and_eq_true] at hB
    obtain ⟨⟨hr, hf⟩, hB'⟩ := hB
    have hr' : i ∈ Region.ready md l.toArray listed := by simpa using hr
    unfold wpG0 at h
    cases hl : l[i]? with
    | none => simp only [hl] at h
    | some o =>
      simp only [hl] at h
      have ho : l.toArray[i]? = some o := by simpa using hl
      have hlen : (i :: ord).length + f = (ord.length + f) + 1 := by simp only [List.length_cons]; omega
      rw [hlen]
      have hfr := gfree_spec ho hf
      by_cases hw : Region.wanted o (yielded l.toArray a.tmps) = true
      · simp only [hw, if_true] at h
        obtain ⟨v, hv, hK⟩ := h
        exact anyH_first (M0 := []) ho (Region.noSelect_spec hs) _ listed a L hcl (fun _ h => by cases h) (fun j oj h1 h2 h3 => (hfr j oj h1 h2 h3).imp id (fun k => ⟨k.1, .inl rfl⟩)) hr' (.inl ⟨hw, hv⟩)
          (anyH_phaseN0 hs ord f _ _ (closedL_set hcl hr') hB' hK)
      · simp only [hw, Bool.false_eq_true, if_false] at h
        have hw' : Region.wanted o (yielded l.toArray a.tmps) = false := by simpa using hw
        exact anyH_first (M0 := []) ho (Region.noSelect_spec hs) _ listed a L hcl (fun _ h => by cases h) (fun j oj h1 h2 h3 => (hfr j oj h1 h2 h3).imp id (fun k => ⟨k.1, .inl rfl⟩)) hr' (.inr ⟨hw', rfl⟩)
          (anyH_phaseN0 hs ord f _ _ (closedL_set hcl hr') hB' h)
theorem anyH_phaseN {Q : Act → Boxes → Prop} {l : List Oper} {F : Nat} (ord : List Nat) (f : Nat) {L : Boxes} {listed : Array Bool} {a : Act} (hF : F = ord.length + f)
    (hB : (Region.noSelect l.toArray && closedB md l.toArray listed && lexN md l.toArray ord listed) = true)
    (h : wpG P l (EnvC w0 []) (fun a' => anyH (Γ := Γ) P md l.toArray w0 Q f (listedBy ord listed) a' L) ord a) : anyH (Γ := Γ) P md l.toArray w0 Q F listed a L := by
  subst hF
  simp only [Bool.and_eq_true] at hB
  exact anyH_phaseN0 hB.1.1 ord f listed a (closedL_of hB.1.2) hB.2 h.out
end
end Go.Proofs.YtabhhbdbkeeblaaDoor
