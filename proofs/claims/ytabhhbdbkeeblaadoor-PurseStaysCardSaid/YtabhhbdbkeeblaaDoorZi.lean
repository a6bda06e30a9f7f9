/- Part of a proof. -/
import Derived.Test.YtabhhbdbkeeblaaDoorZh
namespace Go.Proofs.YtabhhbdbkeeblaaDoor
set_option maxRecDepth 8000
open Go.RowKit
theorem co_step {α : Type} {d : α} {l q : List α} {k : Nat} (h : l.take k = q.take k) (h1 : k < l.length) (h2 : k < q.length) (e : l.getD k d = q.getD k d) : l.take (k + 1) = q.take (k + 1) := by
  rw [List.take_add_one, List.take_add_one, h, List.getElem?_eq_getElem h1, List.getElem?_eq_getElem h2]
  rw [List.getD_eq_getElem?_getD, List.getD_eq_getElem?_getD, List.getElem?_eq_getElem h1, List.getElem?_eq_getElem h2] at e
  simp only [Option.getD_some] at e
  rw [e]
set_option maxRecDepth 20000 in
set_option maxHeartbeats 4000000 in
theorem eqCoins_any (l q : List CoinR) (A A' : Option Addr) (n c m c' : Nat) (w : World) (hl : l.length = n) (hq : q.length = m) (hnc : n ≤ c) (hc : c ≤ maxLen) (hmc : m ≤ c') (hc' : c' ≤ maxLen) (hI : okP l) (hJ : okP q) (hA : CoinsIn w w.heap.size A l) (hB : CoinsIn w w.heap.size A' q) :
    Calls Tryd.prog 40 #[.slice A n c, .slice A' m c'] w fun e w' => e = .returned (.bool (decide (l = q))) ∧ Below w.heap.size w w' := by
  unfold maxLen at hc hc'
  have HL := Lib.hid hl
  have HQ := Lib.hid hq
  have HI := Lib.hid (And.intro hI hA)
  have HJ := Lib.hid (And.intro hJ hB)
  clear hI hA hJ hB hl hq
  by_cases hnm : n = m
  · subst hnm
    go_enter Tryd.func40, Tryd.ntmps40
    go_upto_region 4 with (fail)
    go_loopw [13] (fun i u => ∃ k : Nat, k ≤ n ∧ i = .int .i64 k ∧ Below w.heap.size w u ∧ Hid (l.take k = q.take k)) (fun i _ => n - (intOf i).toNat)
    case atStart => exact ⟨0, by omega, rfl, Below.refl _ _, rfl⟩
    case round =>
      obtain ⟨k, hk, rfl, hbl, hsame⟩ := hrel
      by_cases hlt : k < n
      · have hk2 : (k : Int) < (n : Int) := by omega
        obtain ⟨a1, rfl, -, h1⟩ := CoinsIn.loads HI.out.2 HI.out.1 (k := k) (by rw [HL.out]; exact hlt)
        obtain ⟨a2, rfl, -, h2⟩ := CoinsIn.loads HJ.out.2 HJ.out.1 (k := k) (by rw [HQ.out]; exact hlt)
        have H1 := Lib.hid h1
        have H2 := Lib.hid h2
        have E1 : Hid (EnvX w wr []) := ⟨hbl, fun _ _ h => by cases h⟩
        have HX := Lib.hid (getP (i := k) HI.out.1 (by rw [HL.out]; exact hlt))
        have HY := Lib.hid (getP (i := k) HJ.out.1 (by rw [HQ.out]; exact hlt))
        have HST := Lib.hid (co_step (d := noC0) hsame.out (by rw [HL.out]; exact hlt) (by rw [HQ.out]; exact hlt))
        have HNE : Hid (l.getD k noC0 ≠ q.getD k noC0 → l ≠ q) := fun h e => h (by rw [e])
        clear h1 h2 hsame hbl
        generalize l.getD k noC0 = x at *
        generalize q.getD k noC0 = y at *
        go_upto_region 6 with (fail)
        refine wp_region_H (w0 := w) [] (by kernel_rfl) E1.out ?_
        refine anyH_phase [0, 1, 2, 3, 4, 5, 6, 7, 8] 0 rfl ⟨_, (EnvX.drew E1.out)⟩ (by kernel_rfl) ?_
        have hw1 : EnvX w _ [] := (EnvX.drew E1.out)
        have hone := @EnvC.one _ _ _ hw1
        iterate 3 (refine wpG_op rfl rfl rfl ?_; intro K hK; go_big_quiet_op; go_big_quiet_on)
        (refine wpG_val (v := coV x) rfl rfl (fun u hu => load_any_op u (H1.out u (EnvX.sub hu (fun _ h => by cases h))).1 rfl) ?_ hw1; intro K hK; go_big_quiet_op; go_big_quiet_on)
        iterate 3 (refine wpG_op rfl rfl rfl ?_; intro K hK; go_big_quiet_op; go_big_quiet_on)
        (refine wpG_val (v := coV y) rfl rfl (fun u hu => load_any_op u (H2.out u (EnvX.sub hu (fun _ h => by cases h))).1 rfl) ?_ hw1; intro K hK; go_big_quiet_op; go_big_quiet_on)
        (refine wpG_val (v := .bool (!eqC x y)) rfl rfl (fun u hu => neqCo_op HX.out.len HY.out.len rfl u rfl rfl) ?_ hw1; intro K hK; go_big_quiet_op; go_big_quiet_on)
        clear hone hw1
        refine wpG_nil ?_
        refine anyH_done (by kernel_rfl) ?_
        intro u3 E2'
        have EX2 := Lib.hid E2'
        clear E2'
        by_cases hxy : x = y
        · have hb : eqC x y = true := by simp [eqC, hxy]
          rw [hb]
          go_wp2
          go_roundw
          case rel => exact ⟨k + 1, by omega, by go_num, EnvX.bel EX2.out, HST.out hxy⟩
          case measure => simp [intOf]; omega
        · have hb : eqC x y = false := by simp [eqC, hxy]
          have HR : Hid (decide (l = q) = false) := by
            show _ = _
            simp [HNE.out hxy]
          rw [hb]
          go_wp2
          go_ret
          exact ⟨by rw [HR.out]; rfl, EnvX.bel EX2.out⟩
      · obtain rfl : k = n := by omega
        have HR : Hid (decide (l = q) = true) := by
          have h := hsame.out
          rw [List.take_of_length_le (by rw [HL.out]; exact Nat.le_refl _), List.take_of_length_le (by rw [HQ.out]; exact Nat.le_refl _)] at h
          show _ = _
          simp [h]
        clear hsame
        go_wp2
        go_ret
        exact ⟨by rw [HR.out]; rfl, hbl⟩
  · have hne : ¬ (n : Int) = (m : Int) := by omega
    have HR : Hid (decide (l = q) = false) := by
      show _ = _
      have : l ≠ q := fun e => hnm (by rw [← HL.out, ← HQ.out, e])
      simp [this]
    go_enter Tryd.func40, Tryd.ntmps40
    go_wp2
    go_ret
    exact ⟨by rw [HR.out]; rfl, Below.refl _ _⟩
set_option maxRecDepth 20000 in
set_option maxHeartbeats 8000000 in
theorem psameP_any (p q : List CoinR) (A A' : Option Addr) (n c m c' : Nat) (w : World) (hl : p.length = n) (hnc : n ≤ c) (hcm : c ≤ maxLen) (hI : okP p) (hA : CoinsIn w w.heap.size A p) (hl' : q.length = m) (hnc' : m ≤ c') (hcm' : c' ≤ maxLen) (hI' : okP q) (hA' : CoinsIn w w.heap.size A' q) :
    Calls Tryd.prog 21 #[.slice A n c, .slice A' m c'] w fun e w' => e = .returned (.bool (samePu p q)) ∧ Below w.heap.size w w' := by
  have HEQ : Hid (∀ u, Below w.heap.size w u → Calls Tryd.prog 40 #[.slice A n c, .slice A' m c'] u fun e w' => e = .returned (.bool (samePu p q)) ∧ Below u.heap.size u w') := fun u hu =>
    eqCoins_any p q A A' n c m c' u hl hl' hnc hcm hnc' hcm' hI hI' (CellsIn.up hA hu) (CellsIn.up hA' hu)
  have E1 : Hid (EnvX w w []) := EnvX.start w
  clear hl hnc hcm hI hA hl' hnc' hcm' hI' hA'
  generalize samePu p q = b at *
  go_enter Tryd.func21, Tryd.ntmps21
  go_upto_region 1 with (fail)
  refine wp_region_Hx (w0 := w) [0, 1, 2, 3] [] rfl E1.out ?_
  refine lexH_phase [0, 1, 2, 3] [] ?_
  have hw1 : EnvX w _ [] := E1.out
  have hone := @EnvC.one _ _ _ hw1
  iterate 2 (refine wpG_op rfl rfl rfl ?_; intro K hK; go_big_quiet_op; go_big_quiet_on)
  (refine wpG_call (f := 40) (args := #[.slice A n c, .slice A' m c']) (v := .bool b) rfl rfl rfl Tryd.func40 rfl rfl (fun u hu => HEQ.out u (EnvX.bel hu)) ?_ hw1; intro K hK; go_big_quiet_op; go_big_quiet_on)
  (refine wpG_op rfl rfl rfl ?_; intro K hK; go_big_quiet_op; go_big_quiet_on)
  clear hone hw1
  refine wpG_nil ?_
  intro u3 E2'
  have EX2 := Lib.hid E2'
  clear E2'
  have HBE := Lib.hid (EnvX.bel EX2.out)
  go_wp2
  go_ret
  exact ⟨rfl, HBE.out⟩
set_option maxRecDepth 20000 in
set_option maxHeartbeats 8000000 in
theorem pFind1_any (y : CoinR) (x : InR) (gx : Nat) (w : World) (hy : lenC y) (hx : lenI x) (hg : w.heap[gx]? = some (.cells (inA x) 42 (0, 0))) :
    Calls Tryd.prog 37 #[coV y, .pointer (some ⟨gx, 0, none⟩)] w fun e w' => e = .returned (.bool (decide (keyC y = x))) ∧ Below w.heap.size w w' := by
  have HX := Lib.hid hx
  have HY := Lib.hid hy
  have E0 : EnvX w w [(gx, Obj.cells (inA x) 42 (0, 0))] := ⟨Below.refl _ _, fun g o hm => by cases List.mem_singleton.1 hm; exact hg⟩
  have E1 : Hid (EnvX w (w.alloc (.cells (coA y) 50)) [(w.heap.size, Obj.cells (coA y) 50 (0, 0)), (gx, Obj.cells (inA x) 42 (0, 0))]) := E0.new _
  obtain ⟨b, hb⟩ : ∃ b, decide (keyC y = x) = b := ⟨_, rfl⟩
  have HEQ : Hid (eqI (keyC y) x = b) := hb
  have HF := Lib.hid hb
  clear hy hx hg E0 hb
  unfold coV
  go_enter Tryd.func37, Tryd.ntmps37
  go_upto_region 1 with (fail)
  generalize w.alloc (.cells (coA y) 50) = W at *
  refine wp_region_Hx (w0 := w) [0, 1, 2, 3, 4] [(w.heap.size, Obj.cells (coA y) 50 (0, 0)), (gx, Obj.cells (inA x) 42 (0, 0))] rfl E1.out ?_
  refine lexH_phase [0, 1, 2, 3, 4] [] ?_
  have hw1 : EnvX w _ [(w.heap.size, Obj.cells (coA y) 50 (0, 0)), (gx, Obj.cells (inA x) 42 (0, 0))] := E1.out
  have hone := @EnvC.one _ _ _ hw1
  (refine wpG_val (v := .pointer (some ⟨w.heap.size, 0, none⟩)) rfl rfl (fun u hu => fieldCo_op (k := 0) (off := 0) (ad := ⟨w.heap.size, 0, none⟩) rfl u rfl) ?_ hw1; intro K hK; go_big_quiet_op; go_big_quiet_on)
  (refine wpG_val (v := inV (keyC y)) rfl rfl (fun u hu => load_any_op u (box_co_in hu (List.Mem.head _) HY.out) rfl) ?_ hw1; intro K hK; go_big_quiet_op; go_big_quiet_on)
  (refine wpG_val (v := inV x) rfl rfl (fun u hu => load_any_op u (box_in hu (List.Mem.tail _ (List.Mem.head _)) HX.out) rfl) ?_ hw1; intro K hK; go_big_quiet_op; go_big_quiet_on)
  (refine wpG_val (v := .bool b) rfl rfl (fun u hu => eqlIn_op (show lenI (keyC y) from HY.out) HX.out HEQ.out u rfl rfl) ?_ hw1; intro K hK; go_big_quiet_op; go_big_quiet_on)
  (refine wpG_op rfl rfl rfl ?_; intro K hK; go_big_quiet_op; go_big_quiet_on)
  clear hone hw1
  refine wpG_nil ?_
  intro u3 E2'
  have EX2 := Lib.hid E2'
  clear E2'
  have HBE := Lib.hid (EnvX.bel EX2.out)
  go_wp2
  go_ret
  exact ⟨by rw [HF.out]; first | done | rfl, HBE.out⟩
set_option maxRecDepth 20000 in
set_option maxHeartbeats 8000000 in
theorem pindexF_any (pf : CoinR → Bool) (gx : Nat) (p : List CoinR) (A : Option Addr) (n c : Nat) (w : World) (hl : p.length = n) (hnc : n ≤ c) (hcm : c ≤ maxLen) (hI : okP p) (hA : CoinsIn w w.heap.size A p)
    (hf : ∀ u, Below w.heap.size w u → ∀ y, lenC y → Calls Tryd.prog 37 #[coV y, .pointer (some ⟨gx, 0, none⟩)] u fun e w' => e = .returned (.bool (pf y)) ∧ Below u.heap.size u w') :
    Calls Tryd.prog 36 #[.slice A n c, .func (.func 37) #[] #[.pointer (some ⟨gx, 0, none⟩)]] w fun e w' => e = .returned (.int .i64 (idxW pf p)) ∧ Below w.heap.size w w' := by
  have HL := Lib.hid hl
  have HPP := Lib.hid hI
  have HAA := Lib.hid hA
  have HN63 : Hid (n < 9223372036854775808) := by show _ < _; unfold maxLen at hcm; omega
  have HFN := Lib.hid hf
  have E1 : Hid (EnvX w w []) := EnvX.start w
  clear hl hnc hcm hI hA hf
  go_enter Tryd.func36, Tryd.ntmps36
  go_upto_region 1 with (fail)
  refine wp_region_Hx (w0 := w) [0, 1, 2] [] rfl E1.out ?_
  refine lexH_phase [0, 1, 2] [] ?_
  have hw1 : EnvX w _ [] := E1.out
  have hone := @EnvC.one _ _ _ hw1
  (refine wpG_op rfl rfl rfl ?_; intro K hK; go_big_quiet_op; go_big_quiet_on)
  (refine wpG_val (v := .int .i64 (n : Int)) rfl rfl (fun u hu => len_op Tryd.underlying22 HN63.out u rfl) ?_ hw1; intro K hK; go_big_quiet_op; go_big_quiet_on)
  (refine wpG_op rfl rfl rfl ?_; intro K hK; go_big_quiet_op; go_big_quiet_on)
  clear hone hw1
  refine wpG_nil ?_
  intro u3 E2'
  have EX2 := Lib.hid E2'
  clear E2'
  go_upto_region 2 with (fail)
  go_loopw [8] (fun iv u => ∃ i : Nat, i ≤ n ∧ iv = .int .i64 (i : Int) ∧ Hid ((∀ j, j < i → pf (p.getD j noC0) = false) ∧ EnvX w u [])) (fun iv _ => n - (intOf iv).toNat)
  case atStart => exact ⟨0, by omega, rfl, (fun j hj => by omega), EX2.out⟩
  case round =>
    obtain ⟨i, hi, rfl, hinv⟩ := hrel
    have H1 := Lib.hid hinv.out.1
    have EK := Lib.hid hinv.out.2
    clear hinv EX2 E1
    by_cases hlt : i < n
    · have C2 : Hid (decide ((i : Int) < (n : Int)) = true) := decide_eq_true (by omega)
      have HI := Lib.hid hlt
      have hil : i < p.length := by rw [HL.out]; exact hlt
      have HIL := Lib.hid hil
      obtain ⟨ad, rfl, -, hld⟩ := HAA.out.loads HPP.out hil
      have HLD := Lib.hid hld
      have HY : Hid (lenC (p.getD i noC0)) := (getP HPP.out hil).len
      obtain ⟨y, hy⟩ : ∃ y, p.getD i noC0 = y := ⟨_, rfl⟩
      have HYE := Lib.hid hy
      rw [hy] at HLD HY
      obtain ⟨b, hb⟩ : ∃ b, pf y = b := ⟨_, rfl⟩
      have HBV := Lib.hid hb
      have HBF : Hid (∀ u, Below w.heap.size w u → Calls Tryd.prog 37 #[coV y, .pointer (some ⟨gx, 0, none⟩)] u fun e w' => e = .returned (.bool b) ∧ Below u.heap.size u w') := fun u hu => by
        have h := HFN.out u hu y HY.out
        rwa [hb] at h
      clear hld hil hlt hy hb
      go_upto_region 2 with (fail)
      refine wp_region_Hx (w0 := w) [0] [] rfl EK.out ?_
      refine lexH_phase [0] [] ?_
      have hw31 : EnvX w _ [] := EK.out
      have hone := @EnvC.one _ _ _ hw31
      (refine wpG_val (v := .bool true) rfl rfl (fun u hu => ltZ_op u C2.out rfl rfl) ?_ hw31; intro K hK; go_big_quiet_op; go_big_quiet_on)
      clear hone hw31
      refine wpG_nil ?_
      intro u33 E2'
      have EX32 := Lib.hid E2'
      clear E2'
      go_upto_region 3 with (fail)
      refine wp_region_Hx (w0 := w) [0, 1] [] rfl EX32.out ?_
      refine lexH_phase [0, 1] [] ?_
      have hw34 : EnvX w _ [] := EX32.out
      have hone := @EnvC.one _ _ _ hw34
      iterate 2 (refine wpG_op rfl rfl rfl ?_; intro K hK; go_big_quiet_op; go_big_quiet_on)
      clear hone hw34
      refine wpG_nil ?_
      intro u36 E2'
      have EX35 := Lib.hid E2'
      clear E2'
      cases b with
      | true =>
        have HF : Hid (idxW pf p = (i : Int)) := idxW_hit HIL.out (by rw [HYE.out]; exact HBV.out) H1.out
        go_upto_region 4 with (fail)
        refine wp_region_Hx (w0 := w) [0, 1, 2, 3, 4, 5] [] rfl EX35.out ?_
        refine lexH_phase [0, 1, 2, 3, 4, 5] [] ?_
        have hw37 : EnvX w _ [] := EX35.out
        have hone := @EnvC.one _ _ _ hw37
        iterate 3 (refine wpG_op rfl rfl rfl ?_; intro K hK; go_big_quiet_op; go_big_quiet_on)
        (refine wpG_val (v := .pointer (some (ad.add (i * 35)))) rfl rfl (fun u hu => idxSl_op (i := i) Tryd.underlying22 aggCo.size HI.out u rfl rfl) ?_ hw37; intro K hK; go_big_quiet_op; go_big_quiet_on)
        (refine wpG_val (v := coV y) rfl rfl (fun u hu => load_any_op u (HLD.out u (EnvX.sub hu (fun _ h => by cases h))).1 rfl) ?_ hw37; intro K hK; go_big_quiet_op; go_big_quiet_on)
        (refine wpG_callV (f := 37) (args := #[coV y]) (caps := #[.pointer (some ⟨gx, 0, none⟩)]) (all := #[coV y, .pointer (some ⟨gx, 0, none⟩)]) (v := .bool true) rfl rfl rfl rfl rfl Tryd.func37 rfl rfl (fun u hu => HBF.out u (EnvX.bel hu)) ?_ hw37; intro K hK; go_big_quiet_op; go_big_quiet_on)
        clear hone hw37
        refine wpG_nil ?_
        intro u39 E2'
        have EX38 := Lib.hid E2'
        clear E2'
        go_upto_region 5 with (fail)
        refine wp_region_Hx (w0 := w) [0, 1] [] rfl EX38.out ?_
        refine lexH_phase [0, 1] [] ?_
        have hw40 : EnvX w _ [] := EX38.out
        have hone := @EnvC.one _ _ _ hw40
        iterate 2 (refine wpG_op rfl rfl rfl ?_; intro K hK; go_big_quiet_op; go_big_quiet_on)
        clear hone hw40
        refine wpG_nil ?_
        intro u42 E2'
        have EX41 := Lib.hid E2'
        clear E2'
        have HBE := Lib.hid (EnvX.bel EX41.out)
        go_wp2
        go_ret
        exact ⟨by rw [HF.out]; first | done | rfl, HBE.out⟩
      | false =>
        have H3 : Hid (∀ j, j < i + 1 → pf (p.getD j noC0) = false) := fun j hj => by
          rcases Nat.lt_or_ge j i with h | h
          · exact H1.out j h
          · rw [show j = i by omega, HYE.out]; exact HBV.out
        go_upto_region 4 with (fail)
        refine wp_region_Hx (w0 := w) [0, 1, 2, 3, 4, 5] [] rfl EX35.out ?_
        refine lexH_phase [0, 1, 2, 3, 4, 5] [] ?_
        have hw37 : EnvX w _ [] := EX35.out
        have hone := @EnvC.one _ _ _ hw37
        iterate 3 (refine wpG_op rfl rfl rfl ?_; intro K hK; go_big_quiet_op; go_big_quiet_on)
        (refine wpG_val (v := .pointer (some (ad.add (i * 35)))) rfl rfl (fun u hu => idxSl_op (i := i) Tryd.underlying22 aggCo.size HI.out u rfl rfl) ?_ hw37; intro K hK; go_big_quiet_op; go_big_quiet_on)
        (refine wpG_val (v := coV y) rfl rfl (fun u hu => load_any_op u (HLD.out u (EnvX.sub hu (fun _ h => by cases h))).1 rfl) ?_ hw37; intro K hK; go_big_quiet_op; go_big_quiet_on)
        (refine wpG_callV (f := 37) (args := #[coV y]) (caps := #[.pointer (some ⟨gx, 0, none⟩)]) (all := #[coV y, .pointer (some ⟨gx, 0, none⟩)]) (v := .bool false) rfl rfl rfl rfl rfl Tryd.func37 rfl rfl (fun u hu => HBF.out u (EnvX.bel hu)) ?_ hw37; intro K hK; go_big_quiet_op; go_big_quiet_on)
        clear hone hw37
        refine wpG_nil ?_
        intro u39 E2'
        have EX38 := Lib.hid E2'
        clear E2'
        have hii := HI.out
        have hn := HN63.out
        go_wp2
        go_roundw
        case rel => exact ⟨i + 1, by omega, by go_num, H3.out, EX38.out⟩
        case measure => simp [intOf]; omega
    · obtain rfl : i = n := by omega
      have C2 : Hid (decide ((i : Int) < (i : Int)) = false) := decide_eq_false (by omega)
      have HF : Hid (idxW pf p = -1) := idxW_none (by rw [HL.out]; exact H1.out)
      go_upto_region 2 with (fail)
      refine wp_region_Hx (w0 := w) [0] [] rfl EK.out ?_
      refine lexH_phase [0] [] ?_
      have hw201 : EnvX w _ [] := EK.out
      have hone := @EnvC.one _ _ _ hw201
      (refine wpG_val (v := .bool false) rfl rfl (fun u hu => ltZ_op u C2.out rfl rfl) ?_ hw201; intro K hK; go_big_quiet_op; go_big_quiet_on)
      clear hone hw201
      refine wpG_nil ?_
      intro u203 E2'
      have EX202 := Lib.hid E2'
      clear E2'
      go_upto_region 7 with (fail)
      refine wp_region_Hx (w0 := w) [0] [] rfl EX202.out ?_
      refine lexH_phase [0] [] ?_
      have hw204 : EnvX w _ [] := EX202.out
      have hone := @EnvC.one _ _ _ hw204
      (refine wpG_op rfl rfl rfl ?_; intro K hK; go_big_quiet_op; go_big_quiet_on)
      clear hone hw204
      refine wpG_nil ?_
      intro u206 E2'
      have EX205 := Lib.hid E2'
      clear E2'
      have HBE := Lib.hid (EnvX.bel EX205.out)
      go_wp2
      go_ret
      exact ⟨by rw [HF.out]; first | done | rfl, HBE.out⟩
theorem oneCoins : ∀ w, (isAgg 22).run Tryd.prog w = .ok false w := fun w => by simp [isAgg, run_underlying Tryd.underlying22]
theorem box_sl {w0 u : World} {M : Boxes} {g n c : Nat} {A : Option Addr} {ty : TypeId} (hu : EnvC w0 M u) (hm : (g, Obj.cells #[.slice A n c] ty (0, 0)) ∈ M) : (loadVar 22 ⟨g, 0, none⟩).run Tryd.prog u = .ok (.slice A n c) u :=
  run_load_one oneCoins u (box_cell hu hm rfl)
set_option maxRecDepth 20000 in
set_option maxHeartbeats 8000000 in
theorem pplace1_any (p : List CoinR) (A : Option Addr) (n c i : Nat) (x : InR) (gp gx : Nat) (w : World) (hl : p.length = n) (hI : okP p) (hA : CoinsIn w w.heap.size A p) (hx : lenI x) (hi : i < n) (hp : w.heap[gp]? = some (.cells #[.slice A n c] 22 (0, 0))) (hg : w.heap[gx]? = some (.cells (inA x) 42 (0, 0))) :
    Calls Tryd.prog 65 #[.int .i64 (i : Int), .pointer (some ⟨gp, 0, none⟩), .pointer (some ⟨gx, 0, none⟩)] w fun e w' => e = .returned (.bool (!beforeK (keyC (p.getD i noC0)) x)) ∧ Below w.heap.size w w' := by
  have HX := Lib.hid hx
  have HI := Lib.hid hi
  have hil : i < p.length := by rw [hl]; exact hi
  obtain ⟨ad, rfl, -, hld⟩ := CoinsIn.loads hA hI hil
  have HLD := Lib.hid hld
  have HY : Hid (lenC (p.getD i noC0)) := (getP hI hil).len
  obtain ⟨y, hy⟩ : ∃ y, p.getD i noC0 = y := ⟨_, rfl⟩
  rw [hy] at HLD HY
  rw [hy]
  obtain ⟨b, hb⟩ : ∃ b, beforeK (keyC y) x = b := ⟨_, rfl⟩
  have HAH : Hid (∀ u, Calls Tryd.prog 50 #[inV (keyC y), inV x] u fun e w' => e = .returned (.bool b) ∧ Below u.heap.size u w') := fun u => by
    have h := pahead_any (keyC y) x u HY.out HX.out
    rwa [hb] at h
  rw [hb]
  have E1 : Hid (EnvX w w [(gp, Obj.cells #[.slice (some ad) n c] 22 (0, 0)), (gx, Obj.cells (inA x) 42 (0, 0))]) := ⟨Below.refl _ _, fun g o hm => by
    rcases List.mem_cons.1 hm with h | h
    · cases h; exact hp
    · cases List.mem_singleton.1 h; exact hg⟩
  clear hl hI hA hx hi hp hg hil hld hy hb
  go_enter Tryd.func65, Tryd.ntmps65
  go_upto_region 1 with (fail)
  refine wp_region_H (w0 := w) [(gp, Obj.cells #[.slice (some ad) n c] 22 (0, 0)), (gx, Obj.cells (inA x) 42 (0, 0))] (by kernel_rfl) E1.out ?_
  refine anyH_phase [0, 1, 2, 3, 4, 5, 6, 7, 8] 0 rfl ⟨_, (EnvX.drew E1.out)⟩ (by kernel_rfl) ?_
  have hw1 : EnvX w _ [(gp, Obj.cells #[.slice (some ad) n c] 22 (0, 0)), (gx, Obj.cells (inA x) 42 (0, 0))] := (EnvX.drew E1.out)
  have hone := @EnvC.one _ _ _ hw1
  (refine wpG_val (v := .slice (some ad) n c) rfl rfl (fun u hu => load_any_op u (box_sl hu (List.Mem.head _)) rfl) ?_ hw1; intro K hK; go_big_quiet_op; go_big_quiet_on)
  (refine wpG_op rfl rfl rfl ?_; intro K hK; go_big_quiet_op; go_big_quiet_on)
  (refine wpG_val (v := .pointer (some (ad.add (i * 35)))) rfl rfl (fun u hu => idxSl_op (i := i) Tryd.underlying22 aggCo.size HI.out u rfl rfl) ?_ hw1; intro K hK; go_big_quiet_op; go_big_quiet_on)
  (refine wpG_val (v := .pointer (some ((ad.add (i * 35)).add 0))) rfl rfl (fun u hu => fieldCo_op (k := 0) (off := 0) rfl u rfl) ?_ hw1; intro K hK; go_big_quiet_op; go_big_quiet_on)
  (refine wpG_val (v := inV (keyC y)) rfl rfl (fun u hu => load_any_op u (by have h := (HLD.out u (EnvX.sub hu (fun _ h => by cases h))).2.1; rwa [show ((ad.add (i * 35)).add 0) = ad.add (i * 35) by unfold Addr.add; rfl]) rfl) ?_ hw1; intro K hK; go_big_quiet_op; go_big_quiet_on)
  (refine wpG_val (v := inV x) rfl rfl (fun u hu => load_any_op u (box_in hu (List.Mem.tail _ (List.Mem.head _)) HX.out) rfl) ?_ hw1; intro K hK; go_big_quiet_op; go_big_quiet_on)
  (refine wpG_call (f := 50) (args := #[inV (keyC y), inV x]) (v := .bool b) rfl rfl rfl Tryd.func50 rfl rfl (fun u hu => HAH.out u) ?_ hw1; intro K hK; go_big_quiet_op; go_big_quiet_on)
  iterate 2 (refine wpG_op rfl rfl rfl ?_; intro K hK; go_big_quiet_op; go_big_quiet_on)
  clear hone hw1
  refine wpG_nil ?_
  refine anyH_done (by kernel_rfl) ?_
  intro u3 E2'
  have EX2 := Lib.hid E2'
  clear E2'
  have HBE := Lib.hid (EnvX.bel EX2.out)
  go_wp2
  go_ret
  exact ⟨rfl, HBE.out⟩
theorem bef_down {p : List CoinR} {x : InR} (hp : idP p) (hx : isId x.tx) (hu : upP p) {h k : Nat} (hh : h < p.length) (hk : k ≤ h) (hb : beforeK (keyC (p.getD h noC0)) x = true) : beforeK (keyC (p.getD k noC0)) x = true := by
  rcases Nat.lt_or_ge k h with g | g
  · exact bef_trans (hp.get (by omega)) (hp.get hh) hx (up_getP hu g hh) hb
  · rw [show k = h by omega]; exact hb
theorem bef_up {p : List CoinR} {x : InR} (hp : idP p) (hx : isId x.tx) (hu : upP p) {h k : Nat} (hk : h ≤ k) (hkl : k < p.length) (hb : beforeK (keyC (p.getD h noC0)) x = false) : beforeK (keyC (p.getD k noC0)) x = false := by
  rcases Nat.lt_or_ge h k with g | g
  · cases hc : beforeK (keyC (p.getD k noC0)) x with
    | false => rfl
    | true =>
      have := bef_trans (hp.get (by omega)) (hp.get hkl) hx (up_getP hu g hkl) hc
      rw [hb] at this
      cases this
  · rw [show k = h by omega]; exact hb
section
variable {a : Act} {dst : Option Tmp} {x y : Operand} {ty : TypeId} {pos : String} {after : Array Edge} {gd : Option (Nat × Bool)}
theorem convIUi_op {m : Nat} (u : World) (hm : m < 9223372036854775808) (hx : a.eval x = .int .i64 (m : Int)) :
    (execOp a.eval ⟨dst, .convert 3 98 x, ty, pos, after, gd⟩).run Tryd.prog u = .ok (.value (.int .u64 (m : Int))) u := by
  have hq : IntKind.u64.wrap (m : Int) = (m : Int) := by rw [IntKind.wrap_u64]; omega
  unfold execOp
  simp only [hx]
  go_simp
theorem convUiI_op {m : Nat} (u : World) (hm : m < 9223372036854775808) (hx : a.eval x = .int .u64 (m : Int)) :
    (execOp a.eval ⟨dst, .convert 98 3 x, ty, pos, after, gd⟩).run Tryd.prog u = .ok (.value (.int .i64 (m : Int))) u := by
  have hq : IntKind.i64.wrap (m : Int) = (m : Int) := by rw [IntKind.wrap_i64]; omega
  unfold execOp
  simp only [hx]
  go_simp
theorem mkfun2_op {f : Fn} {p q : Value} (u : World) (hx : a.eval x = p) (hy : a.eval y = q) :
    (execOp a.eval ⟨dst, .makeFunc f #[] #[x, y], ty, pos, after, gd⟩).run Tryd.prog u = .ok (.value (.func f #[] #[p, q])) u := by
  unfold execOp
  simp only [List.map_toArray, List.map_cons, List.map_nil, hx, hy, Instr.makeFunc, Sem.run_bind, Sem.run_pure, Result.andThen_ok]
theorem mkfun1_op {f : Fn} {p : Value} (u : World) (hx : a.eval x = p) :
    (execOp a.eval ⟨dst, .makeFunc f #[] #[x], ty, pos, after, gd⟩).run Tryd.prog u = .ok (.value (.func f #[] #[p])) u := by
  unfold execOp
  simp only [List.map_toArray, List.map_cons, List.map_nil, hx, Instr.makeFunc, Sem.run_bind, Sem.run_pure, Result.andThen_ok]
theorem half_op {m h : Nat} (u : World) (hm : m / 2 = h) (hx : a.eval x = .int .u64 (m : Int)) (hy : a.eval y = .int .u64 1) :
    (execOp a.eval ⟨dst, .binOp .shr 98 x y 98, ty, pos, after, gd⟩).run Tryd.prog u = .ok (.value (.int .u64 (h : Int))) u := by
  have hd : (m : Int) / 2 = (h : Int) := by omega
  have hd1 : (m : Int) / 2 ^ (1 : Nat) = (h : Int) := by rw [show ((2 : Int) ^ (1 : Nat)) = 2 from rfl]; exact hd
  unfold execOp
  simp only [hx, hy]
  go_simp
end
set_option maxRecDepth 20000 in
set_option maxHeartbeats 8000000 in
theorem psearch_any (p : List CoinR) (A : Option Addr) (n c : Nat) (x : InR) (gp gx : Nat) (w : World) (hl : p.length = n) (hn : n ≤ 1000000) (hI : okP p) (hup : upP p) (hA : CoinsIn w w.heap.size A p) (hx : okIn x) (hp : w.heap[gp]? = some (.cells #[.slice A n c] 22 (0, 0))) (hg : w.heap[gx]? = some (.cells (inA x) 42 (0, 0))) :
    Calls Tryd.prog 64 #[.int .i64 (n : Int), .func (.func 65) #[] #[.pointer (some ⟨gp, 0, none⟩), .pointer (some ⟨gx, 0, none⟩)]] w fun e w' => e = .returned (.int .i64 (placeP p x : Int)) ∧ Below w.heap.size w w' := by
  have HP1 : Hid (∀ u, Below w.heap.size w u → ∀ i, i < n → Calls Tryd.prog 65 #[.int .i64 (i : Int), .pointer (some ⟨gp, 0, none⟩), .pointer (some ⟨gx, 0, none⟩)] u fun e w' => e = .returned (.bool (!beforeK (keyC (p.getD i noC0)) x)) ∧ Below u.heap.size u w') := fun u hu i hi =>
    pplace1_any p A n c i x gp gx u hl hI (CellsIn.up hA hu) hx.len hi ((hu.block gp (Row.lt (t := 22) hp)).trans hp) ((hu.block gx (Row.lt (t := 42) hg)).trans hg)
  have HL := Lib.hid hl
  have HN : Hid (n ≤ 1000000) := hn
  have HDN : Hid (∀ h k, h < n → k ≤ h → beforeK (keyC (p.getD h noC0)) x = true → beforeK (keyC (p.getD k noC0)) x = true) := fun h k h1 h2 h3 => bef_down hI.id hx.1 hup (by rw [hl]; exact h1) h2 h3
  have HUP : Hid (∀ h k, h ≤ k → k < n → beforeK (keyC (p.getD h noC0)) x = false → beforeK (keyC (p.getD k noC0)) x = false) := fun h k h1 h2 h3 => bef_up hI.id hx.1 hup h1 (by rw [hl]; exact h2) h3
  have E1 : Hid (EnvX w w []) := EnvX.start w
  clear hl hn hI hup hA hx hp hg
  go_enter Tryd.func64, Tryd.ntmps64
  go_upto_region 2 with (fail)
  go_loopw [5, 6] (fun iv jv u => ∃ i j : Nat, i ≤ j ∧ j ≤ n ∧ iv = .int .i64 (i : Int) ∧ jv = .int .i64 (j : Int) ∧ Hid ((∀ k, k < i → beforeK (keyC (p.getD k noC0)) x = true) ∧ (∀ k, j ≤ k → k < n → beforeK (keyC (p.getD k noC0)) x = false) ∧ EnvX w u [])) (fun iv jv _ => (intOf jv).toNat - (intOf iv).toNat)
  case atStart => exact ⟨0, n, by omega, by omega, rfl, rfl, (fun k hk => by omega), (fun k h1 h2 => by omega), E1.out⟩
  case round =>
    obtain ⟨i, j, hij, hjn, rfl, rfl, hinv⟩ := hrel
    have H1 := Lib.hid hinv.out.1
    have H2 := Lib.hid hinv.out.2.1
    have EK := Lib.hid hinv.out.2.2
    clear hinv E1
    by_cases hlt : i < j
    · have C2 : Hid (decide ((i : Int) < (j : Int)) = true) := decide_eq_true (by omega)
      obtain ⟨h, hh⟩ : ∃ h, (i + j) / 2 = h := ⟨_, rfl⟩
      have HH := Lib.hid hh
      have HB : Hid (i ≤ h ∧ h < j ∧ j ≤ n) := ⟨by omega, by omega, hjn⟩
      have HAD : Hid (IntKind.i64.wrap ((i : Int) + (j : Int)) = ((i + j : Nat) : Int)) := by show _ = _; have := HN.out; rw [wrapS (by omega)]; omega
      have HS : Hid (i + j < 9223372036854775808) := by show _ < _; have := HN.out; omega
      have HSH : Hid (h < 9223372036854775808) := by show _ < _; have := HN.out; omega
      have HPI : Hid (IntKind.i64.wrap ((h : Int) + 1) = ((h + 1 : Nat) : Int)) := by show _ = _; have := HN.out; rw [wrapS (by omega)]; omega
      obtain ⟨b, hb⟩ : ∃ b, beforeK (keyC (p.getD h noC0)) x = b := ⟨_, rfl⟩
      have HBV := Lib.hid hb
      have HPC : Hid (∀ u, Below w.heap.size w u → Calls Tryd.prog 65 #[.int .i64 (h : Int), .pointer (some ⟨gp, 0, none⟩), .pointer (some ⟨gx, 0, none⟩)] u fun e w' => e = .returned (.bool (!b)) ∧ Below u.heap.size u w') := fun u hu => by
        have k := HP1.out u hu h (by omega)
        rwa [hb] at k
      clear hh hb hlt hij hjn
      go_upto_region 2 with (fail)
      refine wp_region_Hx (w0 := w) [0, 1, 2] [] rfl EK.out ?_
      refine lexH_phase [0, 1, 2] [] ?_
      have hw11 : EnvX w _ [] := EK.out
      have hone := @EnvC.one _ _ _ hw11
      iterate 2 (refine wpG_op rfl rfl rfl ?_; intro K hK; go_big_quiet_op; go_big_quiet_on)
      (refine wpG_val (v := .bool true) rfl rfl (fun u hu => ltZ_op u C2.out rfl rfl) ?_ hw11; intro K hK; go_big_quiet_op; go_big_quiet_on)
      clear hone hw11
      refine wpG_nil ?_
      intro u13 E2'
      have EX12 := Lib.hid E2'
      clear E2'
      go_upto_region 3 with (fail)
      refine wp_region_Hx (w0 := w) [0, 1, 2, 3, 4, 5, 6] [] rfl EX12.out ?_
      refine lexH_phase [0, 1, 2, 3, 4, 5, 6] [] ?_
      have hw14 : EnvX w _ [] := EX12.out
      have hone := @EnvC.one _ _ _ hw14
      iterate 2 (refine wpG_op rfl rfl rfl ?_; intro K hK; go_big_quiet_op; go_big_quiet_on)
      (refine wpG_val (v := .int .i64 ((i + j : Nat) : Int)) rfl rfl (fun u hu => addZ_op u HAD.out rfl rfl) ?_ hw14; intro K hK; go_big_quiet_op; go_big_quiet_on)
      (refine wpG_val (v := .int .u64 ((i + j : Nat) : Int)) rfl rfl (fun u hu => convIUi_op u HS.out rfl) ?_ hw14; intro K hK; go_big_quiet_op; go_big_quiet_on)
      (refine wpG_val (v := .int .u64 (h : Int)) rfl rfl (fun u hu => half_op u HH.out rfl rfl) ?_ hw14; intro K hK; go_big_quiet_op; go_big_quiet_on)
      (refine wpG_val (v := .int .i64 (h : Int)) rfl rfl (fun u hu => convUiI_op u HSH.out rfl) ?_ hw14; intro K hK; go_big_quiet_op; go_big_quiet_on)
      (refine wpG_op rfl rfl rfl ?_; intro K hK; go_big_quiet_op; go_big_quiet_on)
      clear hone hw14
      refine wpG_nil ?_
      intro u16 E2'
      have EX15 := Lib.hid E2'
      clear E2'
      cases b with
      | true =>
        go_upto_region 4 with (fail)
        refine wp_region_Hx (w0 := w) [0, 1, 2, 3] [] rfl EX15.out ?_
        refine lexH_phase [0, 1, 2, 3] [] ?_
        have hw17 : EnvX w _ [] := EX15.out
        have hone := @EnvC.one _ _ _ hw17
        iterate 2 (refine wpG_op rfl rfl rfl ?_; intro K hK; go_big_quiet_op; go_big_quiet_on)
        (refine wpG_callV (f := 65) (args := #[.int .i64 (h : Int)]) (caps := #[.pointer (some ⟨gp, 0, none⟩), .pointer (some ⟨gx, 0, none⟩)]) (all := #[.int .i64 (h : Int), .pointer (some ⟨gp, 0, none⟩), .pointer (some ⟨gx, 0, none⟩)]) (v := .bool false) rfl rfl rfl rfl rfl Tryd.func65 rfl rfl (fun u hu => HPC.out u (EnvX.bel hu)) ?_ hw17; intro K hK; go_big_quiet_op; go_big_quiet_on)
        (refine wpG_op rfl rfl rfl ?_; intro K hK; go_big_quiet_op; go_big_quiet_on)
        clear hone hw17
        refine wpG_nil ?_
        intro u19 E2'
        have EX18 := Lib.hid E2'
        clear E2'
        have H3 : Hid (∀ k, k < h + 1 → beforeK (keyC (p.getD k noC0)) x = true) := fun k hk => HDN.out h k (by have := HB.out; omega) (by omega) HBV.out
        go_upto_region 5 with (fail)
        refine wp_region_Hx (w0 := w) [0, 1, 2] [] rfl EX18.out ?_
        refine lexH_phase [0, 1, 2] [] ?_
        have hw20 : EnvX w _ [] := EX18.out
        have hone := @EnvC.one _ _ _ hw20
        (refine wpG_op rfl rfl rfl ?_; intro K hK; go_big_quiet_op; go_big_quiet_on)
        (refine wpG_val (v := .int .i64 ((h + 1 : Nat) : Int)) rfl rfl (fun u hu => addZ_op u HPI.out rfl rfl) ?_ hw20; intro K hK; go_big_quiet_op; go_big_quiet_on)
        (refine wpG_op rfl rfl rfl ?_; intro K hK; go_big_quiet_op; go_big_quiet_on)
        clear hone hw20
        refine wpG_nil ?_
        intro u22 E2'
        have EX21 := Lib.hid E2'
        clear E2'
        have hb := HB.out
        go_wp2
        go_roundw
        case rel => exact ⟨h + 1, j, by omega, by omega, rfl, rfl, H3.out, H2.out, EX21.out⟩
        case measure => simp [intOf]; omega
      | false =>
        go_upto_region 4 with (fail)
        refine wp_region_Hx (w0 := w) [0, 1, 2, 3] [] rfl EX15.out ?_
        refine lexH_phase [0, 1, 2, 3] [] ?_
        have hw17 : EnvX w _ [] := EX15.out
        have hone := @EnvC.one _ _ _ hw17
        iterate 2 (refine wpG_op rfl rfl rfl ?_; intro K hK; go_big_quiet_op; go_big_quiet_on)
        (refine wpG_callV (f := 65) (args := #[.int .i64 (h : Int)]) (caps := #[.pointer (some ⟨gp, 0, none⟩), .pointer (some ⟨gx, 0, none⟩)]) (all := #[.int .i64 (h : Int), .pointer (some ⟨gp, 0, none⟩), .pointer (some ⟨gx, 0, none⟩)]) (v := .bool true) rfl rfl rfl rfl rfl Tryd.func65 rfl rfl (fun u hu => HPC.out u (EnvX.bel hu)) ?_ hw17; intro K hK; go_big_quiet_op; go_big_quiet_on)
        (refine wpG_op rfl rfl rfl ?_; intro K hK; go_big_quiet_op; go_big_quiet_on)
        clear hone hw17
        refine wpG_nil ?_
        intro u19 E2'
        have EX18 := Lib.hid E2'
        clear E2'
        have H3 : Hid (∀ k, h ≤ k → k < n → beforeK (keyC (p.getD k noC0)) x = false) := fun k h1 h2 => HUP.out h k h1 h2 HBV.out
        go_upto_region 6 with (fail)
        refine wp_region_Hx (w0 := w) [0, 1] [] rfl EX18.out ?_
        refine lexH_phase [0, 1] [] ?_
        have hw20 : EnvX w _ [] := EX18.out
        have hone := @EnvC.one _ _ _ hw20
        iterate 2 (refine wpG_op rfl rfl rfl ?_; intro K hK; go_big_quiet_op; go_big_quiet_on)
        clear hone hw20
        refine wpG_nil ?_
        intro u22 E2'
        have EX21 := Lib.hid E2'
        clear E2'
        have hb := HB.out
        go_wp2
        go_roundw
        case rel => exact ⟨i, h, by omega, by omega, rfl, rfl, H1.out, H3.out, EX21.out⟩
        case measure => simp [intOf]; omega
    · obtain rfl : i = j := by omega
      have C2 : Hid (decide ((i : Int) < (i : Int)) = false) := decide_eq_false (by omega)
      have HF : Hid (placeP p x = i) := placeP_of (by rw [HL.out]; exact hjn) H1.out (by rw [HL.out]; exact H2.out)
      go_upto_region 2 with (fail)
      refine wp_region_Hx (w0 := w) [0, 1, 2] [] rfl EK.out ?_
      refine lexH_phase [0, 1, 2] [] ?_
      have hw201 : EnvX w _ [] := EK.out
      have hone := @EnvC.one _ _ _ hw201
      iterate 2 (refine wpG_op rfl rfl rfl ?_; intro K hK; go_big_quiet_op; go_big_quiet_on)
      (refine wpG_val (v := .bool false) rfl rfl (fun u hu => ltZ_op u C2.out rfl rfl) ?_ hw201; intro K hK; go_big_quiet_op; go_big_quiet_on)
      clear hone hw201
      refine wpG_nil ?_
      intro u203 E2'
      have EX202 := Lib.hid E2'
      clear E2'
      go_upto_region 7 with (fail)
      refine wp_region_Hx (w0 := w) [0, 1] [] rfl EX202.out ?_
      refine lexH_phase [0, 1] [] ?_
      have hw204 : EnvX w _ [] := EX202.out
      have hone := @EnvC.one _ _ _ hw204
      iterate 2 (refine wpG_op rfl rfl rfl ?_; intro K hK; go_big_quiet_op; go_big_quiet_on)
      clear hone hw204
      refine wpG_nil ?_
      intro u206 E2'
      have EX205 := Lib.hid E2'
      clear E2'
      have HBE := Lib.hid (EnvX.bel EX205.out)
      go_wp2
      go_ret
      exact ⟨by rw [HF.out]; first | done | rfl, HBE.out⟩
set_option maxRecDepth 20000 in
set_option maxHeartbeats 8000000 in
theorem pplace_any (p : List CoinR) (A : Option Addr) (n c : Nat) (x : InR) (w : World) (hl : p.length = n) (hn : n ≤ 1000000) (hI : okP p) (hup : upP p) (hA : CoinsIn w w.heap.size A p) (hx : okIn x) :
    Calls Tryd.prog 51 #[.slice A n c, inV x] w fun e w' => e = .returned (.int .i64 (placeP p x : Int)) ∧ Below w.heap.size w w' := by
  have HN63 : Hid (n < 9223372036854775808) := by show _ < _; omega
  have HSE : Hid (∀ u, EnvX w u [(w.heap.size + 1, Obj.cells (inA x) 42 (0, 0)), (w.heap.size, Obj.cells #[.slice A n c] 22 (0, 0))] → Calls Tryd.prog 64 #[.int .i64 (n : Int), .func (.func 65) #[] #[.pointer (some ⟨w.heap.size, 0, none⟩), .pointer (some ⟨w.heap.size + 1, 0, none⟩)]] u fun e w' => e = .returned (.int .i64 (placeP p x : Int)) ∧ Below u.heap.size u w') := fun u hu =>
    psearch_any p A n c x _ _ u hl hn hI hup (CellsIn.up hA hu.bel) hx (hu.box _ _ (List.mem_cons_of_mem _ (List.Mem.head _))) (hu.box _ _ (List.Mem.head _))
  have E1 : Hid (EnvX w ((w.alloc (.cells #[.slice A n c] 22)).alloc (.cells (inA x) 42)) [(w.heap.size + 1, Obj.cells (inA x) 42 (0, 0)), (w.heap.size, Obj.cells #[.slice A n c] 22 (0, 0))]) := (EnvX.start w).two _ _
  clear hl hn hI hup hA hx
  generalize placeP p x = k at *
  unfold inV
  go_enter Tryd.func51, Tryd.ntmps51
  go_upto_region 1 with (fail)
  generalize (w.alloc (.cells #[.slice A n c] 22)).alloc (.cells (inA x) 42) = W at *
  refine wp_region_Hx (w0 := w) [0, 1, 2, 3, 4] [(w.heap.size + 1, Obj.cells (inA x) 42 (0, 0)), (w.heap.size, Obj.cells #[.slice A n c] 22 (0, 0))] rfl E1.out ?_
  refine lexH_phase [0, 1, 2, 3, 4] [] ?_
  have hw1 : EnvX w _ [(w.heap.size + 1, Obj.cells (inA x) 42 (0, 0)), (w.heap.size, Obj.cells #[.slice A n c] 22 (0, 0))] := E1.out
  have hone := @EnvC.one _ _ _ hw1
  (refine wpG_val (v := .slice A n c) rfl rfl (fun u hu => load_any_op u (box_sl hu (List.Mem.tail _ (List.Mem.head _))) rfl) ?_ hw1; intro K hK; go_big_quiet_op; go_big_quiet_on)
  (refine wpG_val (v := .int .i64 (n : Int)) rfl rfl (fun u hu => len_op Tryd.underlying22 HN63.out u rfl) ?_ hw1; intro K hK; go_big_quiet_op; go_big_quiet_on)
  (refine wpG_val (v := .func (.func 65) #[] #[.pointer (some ⟨w.heap.size, 0, none⟩), .pointer (some ⟨w.heap.size + 1, 0, none⟩)]) rfl rfl (fun u hu => mkfun2_op u rfl rfl) ?_ hw1; intro K hK; go_big_quiet_op; go_big_quiet_on)
  (refine wpG_call (f := 64) (args := #[.int .i64 (n : Int), .func (.func 65) #[] #[.pointer (some ⟨w.heap.size, 0, none⟩), .pointer (some ⟨w.heap.size + 1, 0, none⟩)]]) (v := .int .i64 (k : Int)) rfl rfl rfl Tryd.func64 rfl rfl (fun u hu => HSE.out u hu) ?_ hw1; intro K hK; go_big_quiet_op; go_big_quiet_on)
  (refine wpG_op rfl rfl rfl ?_; intro K hK; go_big_quiet_op; go_big_quiet_on)
  clear hone hw1
  refine wpG_nil ?_
  intro u3 E2'
  have EX2 := Lib.hid E2'
  clear E2'
  have HBE := Lib.hid (EnvX.bel EX2.out)
  go_wp2
  go_ret
  exact ⟨rfl, HBE.out⟩
set_option maxRecDepth 20000 in
set_option maxHeartbeats 8000000 in
theorem pfind_any (p : List CoinR) (A : Option Addr) (n c : Nat) (x : InR) (w : World) (hl : p.length = n) (hn : n ≤ 1000) (hnc : n ≤ c) (hcm : c ≤ maxLen) (hI : okP p) (hup : upP p) (hA : CoinsIn w w.heap.size A p) (hx : okIn x) :
    Calls Tryd.prog 35 #[.slice A n c, inV x] w fun e w' => e = .returned (.int .i64 (findP p x)) ∧ Below w.heap.size w w' := by
  have hfp := findP_place hI.id hx.1 hup
  have hkn := placeP_le p x
  have HL := Lib.hid hl
  have HPP := Lib.hid hI
  have HAA := Lib.hid hA
  have HN63 : Hid (n < 9223372036854775808) := by show _ < _; unfold maxLen at hcm; omega
  have HX : Hid (lenI x) := hx.len
  have HPL : Hid (∀ u, Below w.heap.size w u → Calls Tryd.prog 51 #[.slice A n c, inV x] u fun e w' => e = .returned (.int .i64 (placeP p x : Int)) ∧ Below u.heap.size u w') := fun u hu => pplace_any p A n c x u hl (by omega) hI hup (CellsIn.up hA hu) hx
  have E1 : Hid (EnvX w (w.alloc (.cells (inA x) 42)) [(w.heap.size, Obj.cells (inA x) 42 (0, 0))]) := (EnvX.start w).new _
  rw [hl] at hfp hkn
  have HFP := Lib.hid hfp
  obtain ⟨k, hk⟩ : ∃ k, placeP p x = k := ⟨_, rfl⟩
  rw [hk] at HPL HFP hkn
  clear hl hn hnc hcm hI hup hA hx hfp hk
  unfold inV at HPL ⊢
  by_cases hkn2 : k = n
  · subst hkn2
    have C3 : Hid (decide ((k : Int) = (k : Int)) = true) := decide_eq_true rfl
    have HF : Hid (findP p x = -1) := by show _ = _; rw [HFP.out, if_neg (by omega)]
    clear hkn
    go_enter Tryd.func35, Tryd.ntmps35
    go_upto_region 1 with (fail)
    generalize w.alloc (.cells (inA x) 42) = W at *
    refine wp_region_Hx (w0 := w) [0, 1, 2, 3] [(w.heap.size, Obj.cells (inA x) 42 (0, 0))] rfl E1.out ?_
    refine lexH_phase [0, 1, 2, 3] [] ?_
    have hw1 : EnvX w _ [(w.heap.size, Obj.cells (inA x) 42 (0, 0))] := E1.out
    have hone := @EnvC.one _ _ _ hw1
    (refine wpG_op rfl rfl rfl ?_; intro K hK; go_big_quiet_op; go_big_quiet_on)
    (refine wpG_val (v := .agg (inA x)) rfl rfl (fun u hu => load_any_op u (box_in hu (List.Mem.head _) HX.out) rfl) ?_ hw1; intro K hK; go_big_quiet_op; go_big_quiet_on)
    (refine wpG_call (f := 51) (args := #[.slice A k c, .agg (inA x)]) (v := .int .i64 (k : Int)) rfl rfl rfl Tryd.func51 rfl rfl (fun u hu => HPL.out u (EnvX.bel hu)) ?_ hw1; intro K hK; go_big_quiet_op; go_big_quiet_on)
    (refine wpG_op rfl rfl rfl ?_; intro K hK; go_big_quiet_op; go_big_quiet_on)
    clear hone hw1
    refine wpG_nil ?_
    intro u3 E2'
    have EX2 := Lib.hid E2'
    clear E2'
    go_upto_region 2 with (fail)
    refine wp_region_H (w0 := w) [(w.heap.size, Obj.cells (inA x) 42 (0, 0))] (by kernel_rfl) EX2.out ?_
    refine anyH_phase [0, 1, 2, 3, 4, 5, 6, 7, 8, 9, 10, 11, 12] 0 rfl ⟨_, (EnvX.drew EX2.out)⟩ (by kernel_rfl) ?_
    have hw4 : EnvX w _ [(w.heap.size, Obj.cells (inA x) 42 (0, 0))] := (EnvX.drew EX2.out)
    have hone := @EnvC.one _ _ _ hw4
    iterate 2 (refine wpG_op rfl rfl rfl ?_; intro K hK; go_big_quiet_op; go_big_quiet_on)
    (refine wpG_val (v := .int .i64 (k : Int)) rfl rfl (fun u hu => len_op Tryd.underlying22 HN63.out u rfl) ?_ hw4; intro K hK; go_big_quiet_op; go_big_quiet_on)
    (refine wpG_val (v := .bool true) rfl rfl (fun u hu => eqlI_op u C3.out rfl rfl) ?_ hw4; intro K hK; go_big_quiet_op; go_big_quiet_on)
    (refine wpG_op rfl rfl rfl ?_; intro K hK; go_big_quiet_op; go_big_quiet_on)
    iterate 7 (refine wpG_skip rfl rfl ?_ hw4; intro K hK; go_big_quiet_op; go_big_quiet_on)
    (refine wpG_op rfl rfl rfl ?_; intro K hK; go_big_quiet_op; go_big_quiet_on)
    clear hone hw4
    refine wpG_nil ?_
    refine anyH_done (by kernel_rfl) ?_
    intro u6 E2'
    have EX5 := Lib.hid E2'
    clear E2'
    go_upto_region 3 with (fail)
    refine wp_region_Hx (w0 := w) [0] [(w.heap.size, Obj.cells (inA x) 42 (0, 0))] rfl EX5.out ?_
    refine lexH_phase [0] [] ?_
    have hw7 : EnvX w _ [(w.heap.size, Obj.cells (inA x) 42 (0, 0))] := EX5.out
    have hone := @EnvC.one _ _ _ hw7
    (refine wpG_op rfl rfl rfl ?_; intro K hK; go_big_quiet_op; go_big_quiet_on)
    clear hone hw7
    refine wpG_nil ?_
    intro u9 E2'
    have EX8 := Lib.hid E2'
    clear E2'
    have HBE := Lib.hid (EnvX.bel EX8.out)
    go_wp2
    go_ret
    exact ⟨by rw [HF.out]; first | done | rfl, HBE.out⟩
  · have C3 : Hid (decide ((k : Int) = (n : Int)) = false) := decide_eq_false (by omega)
    have HK : Hid (k < n) := by show _ < _; omega
    have hil : k < p.length := by rw [HL.out]; exact HK.out
    obtain ⟨ad, rfl, -, hld⟩ := HAA.out.loads HPP.out hil
    have HLD := Lib.hid hld
    have HY : Hid (lenC (p.getD k noC0)) := (getP HPP.out hil).len
    obtain ⟨y, hy⟩ : ∃ y, p.getD k noC0 = y := ⟨_, rfl⟩
    rw [hy] at HLD HY HFP
    clear hkn hkn2 hil hld hy
    by_cases he : keyC y = x
    · have HEQ : Hid ((!eqI (keyC y) x) = false) := by show (!decide (keyC y = x)) = false; rw [decide_eq_true he]; rfl
      have HF : Hid (findP p x = (k : Int)) := by show _ = _; rw [HFP.out, if_pos ⟨HK.out, he⟩]
      clear he
      go_enter Tryd.func35, Tryd.ntmps35
      go_upto_region 1 with (fail)
      generalize w.alloc (.cells (inA x) 42) = W at *
      refine wp_region_Hx (w0 := w) [0, 1, 2, 3] [(w.heap.size, Obj.cells (inA x) 42 (0, 0))] rfl E1.out ?_
      refine lexH_phase [0, 1, 2, 3] [] ?_
      have hw1 : EnvX w _ [(w.heap.size, Obj.cells (inA x) 42 (0, 0))] := E1.out
      have hone := @EnvC.one _ _ _ hw1
      (refine wpG_op rfl rfl rfl ?_; intro K hK; go_big_quiet_op; go_big_quiet_on)
      (refine wpG_val (v := .agg (inA x)) rfl rfl (fun u hu => load_any_op u (box_in hu (List.Mem.head _) HX.out) rfl) ?_ hw1; intro K hK; go_big_quiet_op; go_big_quiet_on)
      (refine wpG_call (f := 51) (args := #[.slice (some ad) n c, .agg (inA x)]) (v := .int .i64 (k : Int)) rfl rfl rfl Tryd.func51 rfl rfl (fun u hu => HPL.out u (EnvX.bel hu)) ?_ hw1; intro K hK; go_big_quiet_op; go_big_quiet_on)
      (refine wpG_op rfl rfl rfl ?_; intro K hK; go_big_quiet_op; go_big_quiet_on)
      clear hone hw1
      refine wpG_nil ?_
      intro u3 E2'
      have EX2 := Lib.hid E2'
      clear E2'
      go_upto_region 2 with (fail)
      refine wp_region_H (w0 := w) [(w.heap.size, Obj.cells (inA x) 42 (0, 0))] (by kernel_rfl) EX2.out ?_
      refine anyH_phase [0, 1, 2, 3, 4, 5, 6, 7, 8, 9, 10, 11, 12] 0 rfl ⟨_, (EnvX.drew EX2.out)⟩ (by kernel_rfl) ?_
      have hw4 : EnvX w _ [(w.heap.size, Obj.cells (inA x) 42 (0, 0))] := (EnvX.drew EX2.out)
      have hone := @EnvC.one _ _ _ hw4
      iterate 2 (refine wpG_op rfl rfl rfl ?_; intro K hK; go_big_quiet_op; go_big_quiet_on)
      (refine wpG_val (v := .int .i64 (n : Int)) rfl rfl (fun u hu => len_op Tryd.underlying22 HN63.out u rfl) ?_ hw4; intro K hK; go_big_quiet_op; go_big_quiet_on)
      (refine wpG_val (v := .bool false) rfl rfl (fun u hu => eqlI_op u C3.out rfl rfl) ?_ hw4; intro K hK; go_big_quiet_op; go_big_quiet_on)
      iterate 3 (refine wpG_op rfl rfl rfl ?_; intro K hK; go_big_quiet_op; go_big_quiet_on)
      (refine wpG_val (v := .pointer (some (ad.add (k * 35)))) rfl rfl (fun u hu => idxSl_op (i := k) Tryd.underlying22 aggCo.size HK.out u rfl rfl) ?_ hw4; intro K hK; go_big_quiet_op; go_big_quiet_on)
      (refine wpG_val (v := .pointer (some ((ad.add (k * 35)).add 0))) rfl rfl (fun u hu => fieldCo_op (k := 0) (off := 0) rfl u rfl) ?_ hw4; intro K hK; go_big_quiet_op; go_big_quiet_on)
      (refine wpG_val (v := inV (keyC y)) rfl rfl (fun u hu => load_any_op u (by have h := (HLD.out u (EnvX.sub hu (fun _ h => by cases h))).2.1; rwa [show ((ad.add (k * 35)).add 0) = ad.add (k * 35) by unfold Addr.add; rfl]) rfl) ?_ hw4; intro K hK; go_big_quiet_op; go_big_quiet_on)
      (refine wpG_val (v := inV x) rfl rfl (fun u hu => load_any_op u (box_in hu (List.Mem.head _) HX.out) rfl) ?_ hw4; intro K hK; go_big_quiet_op; go_big_quiet_on)
      (refine wpG_val (v := .bool false) rfl rfl (fun u hu => neqIn_op (show lenI (keyC y) from HY.out) HX.out HEQ.out u rfl rfl) ?_ hw4; intro K hK; go_big_quiet_op; go_big_quiet_on)
      (refine wpG_op rfl rfl rfl ?_; intro K hK; go_big_quiet_op; go_big_quiet_on)
      clear hone hw4
      refine wpG_nil ?_
      refine anyH_done (by kernel_rfl) ?_
      intro u6 E2'
      have EX5 := Lib.hid E2'
      clear E2'
      go_upto_region 4 with (fail)
      refine wp_region_Hx (w0 := w) [0, 1] [(w.heap.size, Obj.cells (inA x) 42 (0, 0))] rfl EX5.out ?_
      refine lexH_phase [0, 1] [] ?_
      have hw7 : EnvX w _ [(w.heap.size, Obj.cells (inA x) 42 (0, 0))] := EX5.out
      have hone := @EnvC.one _ _ _ hw7
      iterate 2 (refine wpG_op rfl rfl rfl ?_; intro K hK; go_big_quiet_op; go_big_quiet_on)
      clear hone hw7
      refine wpG_nil ?_
      intro u9 E2'
      have EX8 := Lib.hid E2'
      clear E2'
      have HBE := Lib.hid (EnvX.bel EX8.out)
      go_wp2
      go_ret
      exact ⟨by rw [HF.out]; first | done | rfl, HBE.out⟩
    · have HEQ : Hid ((!eqI (keyC y) x) = true) := by show (!decide (keyC y = x)) = true; rw [decide_eq_false he]; rfl
      have HF : Hid (findP p x = -1) := by show _ = _; rw [HFP.out, if_neg (fun h => he h.2)]
      clear he
      go_enter Tryd.func35, Tryd.ntmps35
      go_upto_region 1 with (fail)
      generalize w.alloc (.cells (inA x) 42) = W at *
      refine wp_region_Hx (w0 := w) [0, 1, 2, 3] [(w.heap.size, Obj.cells (inA x) 42 (0, 0))] rfl E1.out ?_
      refine lexH_phase [0, 1, 2, 3] [] ?_
      have hw1 : EnvX w _ [(w.heap.size, Obj.cells (inA x) 42 (0, 0))] := E1.out
      have hone := @EnvC.one _ _ _ hw1
      (refine wpG_op rfl rfl rfl ?_; intro K hK; go_big_quiet_op; go_big_quiet_on)
      (refine wpG_val (v := .agg (inA x)) rfl rfl (fun u hu => load_any_op u (box_in hu (List.Mem.head _) HX.out) rfl) ?_ hw1; intro K hK; go_big_quiet_op; go_big_quiet_on)
      (refine wpG_call (f := 51) (args := #[.slice (some ad) n c, .agg (inA x)]) (v := .int .i64 (k : Int)) rfl rfl rfl Tryd.func51 rfl rfl (fun u hu => HPL.out u (EnvX.bel hu)) ?_ hw1; intro K hK; go_big_quiet_op; go_big_quiet_on)
      (refine wpG_op rfl rfl rfl ?_; intro K hK; go_big_quiet_op; go_big_quiet_on)
      clear hone hw1
      refine wpG_nil ?_
      intro u3 E2'
      have EX2 := Lib.hid E2'
      clear E2'
      go_upto_region 2 with (fail)
      refine wp_region_H (w0 := w) [(w.heap.size, Obj.cells (inA x) 42 (0, 0))] (by kernel_rfl) EX2.out ?_
      refine anyH_phase [0, 1, 2, 3, 4, 5, 6, 7, 8, 9, 10, 11, 12] 0 rfl ⟨_, (EnvX.drew EX2.out)⟩ (by kernel_rfl) ?_
      have hw4 : EnvX w _ [(w.heap.size, Obj.cells (inA x) 42 (0, 0))] := (EnvX.drew EX2.out)
      have hone := @EnvC.one _ _ _ hw4
      iterate 2 (refine wpG_op rfl rfl rfl ?_; intro K hK; go_big_quiet_op; go_big_quiet_on)
      (refine wpG_val (v := .int .i64 (n : Int)) rfl rfl (fun u hu => len_op Tryd.underlying22 HN63.out u rfl) ?_ hw4; intro K hK; go_big_quiet_op; go_big_quiet_on)
      (refine wpG_val (v := .bool false) rfl rfl (fun u hu => eqlI_op u C3.out rfl rfl) ?_ hw4; intro K hK; go_big_quiet_op; go_big_quiet_on)
      iterate 3 (refine wpG_op rfl rfl rfl ?_; intro K hK; go_big_quiet_op; go_big_quiet_on)
      (refine wpG_val (v := .pointer (some (ad.add (k * 35)))) rfl rfl (fun u hu => idxSl_op (i := k) Tryd.underlying22 aggCo.size HK.out u rfl rfl) ?_ hw4; intro K hK; go_big_quiet_op; go_big_quiet_on)
      (refine wpG_val (v := .pointer (some ((ad.add (k * 35)).add 0))) rfl rfl (fun u hu => fieldCo_op (k := 0) (off := 0) rfl u rfl) ?_ hw4; intro K hK; go_big_quiet_op; go_big_quiet_on)
      (refine wpG_val (v := inV (keyC y)) rfl rfl (fun u hu => load_any_op u (by have h := (HLD.out u (EnvX.sub hu (fun _ h => by cases h))).2.1; rwa [show ((ad.add (k * 35)).add 0) = ad.add (k * 35) by unfold Addr.add; rfl]) rfl) ?_ hw4; intro K hK; go_big_quiet_op; go_big_quiet_on)
      (refine wpG_val (v := inV x) rfl rfl (fun u hu => load_any_op u (box_in hu (List.Mem.head _) HX.out) rfl) ?_ hw4; intro K hK; go_big_quiet_op; go_big_quiet_on)
      (refine wpG_val (v := .bool true) rfl rfl (fun u hu => neqIn_op (show lenI (keyC y) from HY.out) HX.out HEQ.out u rfl rfl) ?_ hw4; intro K hK; go_big_quiet_op; go_big_quiet_on)
      (refine wpG_op rfl rfl rfl ?_; intro K hK; go_big_quiet_op; go_big_quiet_on)
      clear hone hw4
      refine wpG_nil ?_
      refine anyH_done (by kernel_rfl) ?_
      intro u6 E2'
      have EX5 := Lib.hid E2'
      clear E2'
      go_upto_region 3 with (fail)
      refine wp_region_Hx (w0 := w) [0] [(w.heap.size, Obj.cells (inA x) 42 (0, 0))] rfl EX5.out ?_
      refine lexH_phase [0] [] ?_
      have hw7 : EnvX w _ [(w.heap.size, Obj.cells (inA x) 42 (0, 0))] := EX5.out
      have hone := @EnvC.one _ _ _ hw7
      (refine wpG_op rfl rfl rfl ?_; intro K hK; go_big_quiet_op; go_big_quiet_on)
      clear hone hw7
      refine wpG_nil ?_
      intro u9 E2'
      have EX8 := Lib.hid E2'
      clear E2'
      have HBE := Lib.hid (EnvX.bel EX8.out)
      go_wp2
      go_ret
      exact ⟨by rw [HF.out]; first | done | rfl, HBE.out⟩
set_option maxRecDepth 20000 in
set_option maxHeartbeats 8000000 in
theorem pFindP_any (p : List CoinR) (A : Option Addr) (n c : Nat) (x : InR) (w : World) (hl : p.length = n) (hn : n ≤ 1000) (hnc : n ≤ c) (hcm : c ≤ maxLen) (hI : okP p) (hA : CoinsIn w w.heap.size A p) (hx : okIn x) :
    Calls Tryd.prog 18 #[.slice A n c, inV x] w fun e w' => e = .returned (.int .i64 (findP p x)) ∧ Below w.heap.size w w' := by
  have HX : Hid (lenI x) := hx.len
  have HIN : Hid (∀ u, Below w.heap.size w u → Calls Tryd.prog 34 #[.slice A n c] u fun e w' => e = .returned (.bool (decide (upP p))) ∧ Below u.heap.size u w') := fun u hu => pinOrder_any p A n c u hl hnc hcm hI (CellsIn.up hA hu)
  have HFD : Hid (upP p → ∀ u, Below w.heap.size w u → Calls Tryd.prog 35 #[.slice A n c, inV x] u fun e w' => e = .returned (.int .i64 (findP p x)) ∧ Below u.heap.size u w') := fun hup u hu => pfind_any p A n c x u hl hn hnc hcm hI hup (CellsIn.up hA hu) hx
  have HIX : Hid (∀ u, EnvX w u [(w.heap.size, Obj.cells (inA x) 42 (0, 0))] → Calls Tryd.prog 36 #[.slice A n c, .func (.func 37) #[] #[.pointer (some ⟨w.heap.size, 0, none⟩)]] u fun e w' => e = .returned (.int .i64 (findP p x)) ∧ Below u.heap.size u w') := fun u hu =>
    pindexF_any (fun y => decide (keyC y = x)) w.heap.size p A n c u hl hnc hcm hI (CellsIn.up hA hu.bel) (fun v hv y hy => pFind1_any y x _ v hy hx.len ((hv.block _ (hu.lt (List.Mem.head _))).trans (hu.box _ _ (List.Mem.head _))))
  have E1 : Hid (EnvX w (w.alloc (.cells (inA x) 42)) [(w.heap.size, Obj.cells (inA x) 42 (0, 0))]) := (EnvX.start w).new _
  clear hl hn hnc hcm hI hA hx
  unfold inV at *
  by_cases hup : upP p
  · rw [decide_eq_true hup] at HIN
    replace HFD := Lib.hid (HFD.out hup)
    clear hup HIX
    generalize findP p x = k at *
    go_enter Tryd.func18, Tryd.ntmps18
    go_upto_region 1 with (fail)
    generalize w.alloc (.cells (inA x) 42) = W at *
    refine wp_region_Hx (w0 := w) [0, 1] [(w.heap.size, Obj.cells (inA x) 42 (0, 0))] rfl E1.out ?_
    refine lexH_phase [0, 1] [] ?_
    have hw1 : EnvX w _ [(w.heap.size, Obj.cells (inA x) 42 (0, 0))] := E1.out
    have hone := @EnvC.one _ _ _ hw1
    (refine wpG_op rfl rfl rfl ?_; intro K hK; go_big_quiet_op; go_big_quiet_on)
    (refine wpG_call (f := 34) (args := #[.slice A n c]) (v := .bool true) rfl rfl rfl Tryd.func34 rfl rfl (fun u hu => HIN.out u (EnvX.bel hu)) ?_ hw1; intro K hK; go_big_quiet_op; go_big_quiet_on)
    clear hone hw1
    refine wpG_nil ?_
    intro u3 E2'
    have EX2 := Lib.hid E2'
    clear E2'
    go_upto_region 2 with (fail)
    refine wp_region_Hx (w0 := w) [0, 1, 2, 3] [(w.heap.size, Obj.cells (inA x) 42 (0, 0))] rfl EX2.out ?_
    refine lexH_phase [0, 1, 2, 3] [] ?_
    have hw4 : EnvX w _ [(w.heap.size, Obj.cells (inA x) 42 (0, 0))] := EX2.out
    have hone := @EnvC.one _ _ _ hw4
    (refine wpG_op rfl rfl rfl ?_; intro K hK; go_big_quiet_op; go_big_quiet_on)
    (refine wpG_val (v := .agg (inA x)) rfl rfl (fun u hu => load_any_op u (box_in hu (List.Mem.head _) HX.out) rfl) ?_ hw4; intro K hK; go_big_quiet_op; go_big_quiet_on)
    (refine wpG_call (f := 35) (args := #[.slice A n c, .agg (inA x)]) (v := .int .i64 k) rfl rfl rfl Tryd.func35 rfl rfl (fun u hu => HFD.out u (EnvX.bel hu)) ?_ hw4; intro K hK; go_big_quiet_op; go_big_quiet_on)
    (refine wpG_op rfl rfl rfl ?_; intro K hK; go_big_quiet_op; go_big_quiet_on)
    clear hone hw4
    refine wpG_nil ?_
    intro u6 E2'
    have EX5 := Lib.hid E2'
    clear E2'
    have HBE := Lib.hid (EnvX.bel EX5.out)
    go_wp2
    go_ret
    exact ⟨rfl, HBE.out⟩
  · rw [decide_eq_false hup] at HIN
    clear hup HFD
    generalize findP p x = k at *
    go_enter Tryd.func18, Tryd.ntmps18
    go_upto_region 1 with (fail)
    generalize w.alloc (.cells (inA x) 42) = W at *
    refine wp_region_Hx (w0 := w) [0, 1] [(w.heap.size, Obj.cells (inA x) 42 (0, 0))] rfl E1.out ?_
    refine lexH_phase [0, 1] [] ?_
    have hw1 : EnvX w _ [(w.heap.size, Obj.cells (inA x) 42 (0, 0))] := E1.out
    have hone := @EnvC.one _ _ _ hw1
    (refine wpG_op rfl rfl rfl ?_; intro K hK; go_big_quiet_op; go_big_quiet_on)
    (refine wpG_call (f := 34) (args := #[.slice A n c]) (v := .bool false) rfl rfl rfl Tryd.func34 rfl rfl (fun u hu => HIN.out u (EnvX.bel hu)) ?_ hw1; intro K hK; go_big_quiet_op; go_big_quiet_on)
    clear hone hw1
    refine wpG_nil ?_
    intro u3 E2'
    have EX2 := Lib.hid E2'
    clear E2'
    go_upto_region 3 with (fail)
    refine wp_region_Hx (w0 := w) [0, 1, 2, 3] [(w.heap.size, Obj.cells (inA x) 42 (0, 0))] rfl EX2.out ?_
    refine lexH_phase [0, 1, 2, 3] [] ?_
    have hw4 : EnvX w _ [(w.heap.size, Obj.cells (inA x) 42 (0, 0))] := EX2.out
    have hone := @EnvC.one _ _ _ hw4
    (refine wpG_op rfl rfl rfl ?_; intro K hK; go_big_quiet_op; go_big_quiet_on)
    (refine wpG_val (v := .func (.func 37) #[] #[.pointer (some ⟨w.heap.size, 0, none⟩)]) rfl rfl (fun u hu => mkfun1_op u rfl) ?_ hw4; intro K hK; go_big_quiet_op; go_big_quiet_on)
    (refine wpG_call (f := 36) (args := #[.slice A n c, .func (.func 37) #[] #[.pointer (some ⟨w.heap.size, 0, none⟩)]]) (v := .int .i64 k) rfl rfl rfl Tryd.func36 rfl rfl (fun u hu => HIX.out u hu) ?_ hw4; intro K hK; go_big_quiet_op; go_big_quiet_on)
    (refine wpG_op rfl rfl rfl ?_; intro K hK; go_big_quiet_op; go_big_quiet_on)
    clear hone hw4
    refine wpG_nil ?_
    intro u6 E2'
    have EX5 := Lib.hid E2'
    clear E2'
    have HBE := Lib.hid (EnvX.bel EX5.out)
    go_wp2
    go_ret
    exact ⟨rfl, HBE.out⟩
theorem noIn_size : (inA noIn).size = 33 := by decide +kernel
theorem built_in0 {tx : List Int} (h : tx.length = 32) : Tryd.prog.built 42 [(0, idv tx)] = some (inA ⟨tx, 0⟩) := by
  have hs : (arrB 32 tx).size = 32 := arrB_size _ _ (by omega)
  have hz := elIn.info
  cases hq : Tryd.prog.info? 42 with
  | none => rw [hq] at hz; cases hz
  | some it =>
    rw [hq] at hz
    simp only [Option.map_some, Option.some.injEq, Prod.mk.injEq] at hz
    have hp : (Tryd.prog.fieldsOf 42).toList.mapM (fun f => (Tryd.prog.info? f.type).map fun i => (f.offset, i.size)) = some [(0, 32), (32, 1)] := by kernel_rfl
    have hu : Tryd.prog.underlying 42 = some (.struct (Tryd.prog.fieldsOf 42)) := by kernel_rfl
    unfold Program.built
    simp only [hq, hu, hz.1, hp]
    obtain ⟨r, hr, hl⟩ := fill_seq (place := (([(0, 32), (32, 1)] : List (Nat × Nat)).toArray[·]?)) [(0, idv tx)] 0 (inA noIn) ⟨by show some (0, 32) = some (0, (arrB 32 tx).size); rw [hs], trivial⟩ (by rw [noIn_size]; simp [cellsOfP, idv, Value.cells, hs])
    refine Eq.trans hr ?_
    congr 1
    apply Array.ext'
    rw [hl]
    have e : cellsOfP [(0, idv tx)] = (arrB 32 tx).toList := by simp [cellsOfP, idv, Value.cells]
    rw [e, List.take_zero, List.nil_append, Nat.zero_add, idA_list h]
    show _ = (arrB 32 tx).toList ++ [.int .i64 0]
    congr 1
set_option maxRecDepth 20000 in
set_option maxHeartbeats 8000000 in
theorem phas_any (p : List CoinR) (A : Option Addr) (n c : Nat) (id : List Int) (w : World) (hl : p.length = n) (hn : n ≤ 1000) (hnc : n ≤ c) (hcm : c ≤ maxLen) (hI : okP p) (hup : upP p) (hA : CoinsIn w w.heap.size A p) (hb : ∀ c ∈ p, boundC c = true) (hid : isId id) :
    Calls Tryd.prog 58 #[.slice A n c, idv id] w fun e w' => e = .returned (.bool (thereP p id)) ∧ Below w.heap.size w w' := by
  have hth := there_place hI.id hid hup (fun x hx => by have h := hb x hx; unfold boundC at h; rw [decide_eq_true_eq] at h; exact h.1)
  have hkn := placeP_le p ⟨id, 0⟩
  have HL := Lib.hid hl
  have HPP := Lib.hid hI
  have HAA := Lib.hid hA
  have HN63 : Hid (n < 9223372036854775808) := by show _ < _; unfold maxLen at hcm; omega
  have HID : Hid (id.length = 32) := hid.1
  have HPL : Hid (∀ u, Below w.heap.size w u → Calls Tryd.prog 51 #[.slice A n c, inV ⟨id, 0⟩] u fun e w' => e = .returned (.int .i64 (placeP p ⟨id, 0⟩ : Int)) ∧ Below u.heap.size u w') := fun u hu => pplace_any p A n c ⟨id, 0⟩ u hl (by omega) hI hup (CellsIn.up hA hu) ⟨hid, show I64 0 by unfold I64; omega⟩
  have E1 : Hid (EnvX w (w.alloc (.cells (arrB 32 id) 40)) [(w.heap.size, Obj.cells (arrB 32 id) 40 (0, 0))]) := (EnvX.start w).new _
  rw [hl] at hth hkn
  have HTH := Lib.hid hth
  obtain ⟨k, hk⟩ : ∃ k, placeP p ⟨id, 0⟩ = k := ⟨_, rfl⟩
  rw [hk] at HPL HTH hkn
  clear hl hn hnc hcm hI hup hA hb hid hth hk
  unfold idv
  by_cases hkn2 : k < n
  case neg =>
    have C3 : Hid (decide ((k : Int) < (n : Int)) = false) := decide_eq_false (by omega)
    have HF : Hid (thereP p id = false) := by show _ = _; rw [HTH.out, decide_eq_false hkn2]; rfl
    clear hkn hkn2
    go_enter Tryd.func58, Tryd.ntmps58
    go_upto_region 1 with (fail)
    generalize w.alloc (.cells (arrB 32 id) 40) = W at *
    refine wp_region_Hx (w0 := w) [0, 1, 2, 3, 4] [(w.heap.size, Obj.cells (arrB 32 id) 40 (0, 0))] rfl E1.out ?_
    refine lexH_phase [0, 1, 2, 3, 4] [] ?_
    have hw1 : EnvX w _ [(w.heap.size, Obj.cells (arrB 32 id) 40 (0, 0))] := E1.out
    have hone := @EnvC.one _ _ _ hw1
    (refine wpG_op rfl rfl rfl ?_; intro K hK; go_big_quiet_op; go_big_quiet_on)
    (refine wpG_val (v := idv id) rfl rfl (fun u hu => load_any_op u (box_idvP hu (List.Mem.head _) HID.out) rfl) ?_ hw1; intro K hK; go_big_quiet_op; go_big_quiet_on)
    (refine wpG_val (v := inV ⟨id, 0⟩) rfl rfl (fun u hu => buildA_op u (built_in0 HID.out)) ?_ hw1; intro K hK; go_big_quiet_op; go_big_quiet_on)
    (refine wpG_call (f := 51) (args := #[.slice A n c, inV ⟨id, 0⟩]) (v := .int .i64 (k : Int)) rfl rfl rfl Tryd.func51 rfl rfl (fun u hu => HPL.out u (EnvX.bel hu)) ?_ hw1; intro K hK; go_big_quiet_op; go_big_quiet_on)
    (refine wpG_op rfl rfl rfl ?_; intro K hK; go_big_quiet_op; go_big_quiet_on)
    clear hone hw1
    refine wpG_nil ?_
    intro u3 E2'
    have EX2 := Lib.hid E2'
    clear E2'
    go_upto_region 2 with (fail)
    refine wp_region_H (w0 := w) [(w.heap.size, Obj.cells (arrB 32 id) 40 (0, 0))] (by kernel_rfl) EX2.out ?_
    refine anyH_phase [0, 1, 2, 3, 4, 5, 6, 7, 8, 9, 10, 11, 12, 13, 14] 0 rfl ⟨_, (EnvX.drew EX2.out)⟩ (by kernel_rfl) ?_
    have hw4 : EnvX w _ [(w.heap.size, Obj.cells (arrB 32 id) 40 (0, 0))] := (EnvX.drew EX2.out)
    have hone := @EnvC.one _ _ _ hw4
    iterate 2 (refine wpG_op rfl rfl rfl ?_; intro K hK; go_big_quiet_op; go_big_quiet_on)
    (refine wpG_val (v := .int .i64 (n : Int)) rfl rfl (fun u hu => len_op Tryd.underlying22 HN63.out u rfl) ?_ hw4; intro K hK; go_big_quiet_op; go_big_quiet_on)
    (refine wpG_val (v := .bool false) rfl rfl (fun u hu => ltZ_op u C3.out rfl rfl) ?_ hw4; intro K hK; go_big_quiet_op; go_big_quiet_on)
    (refine wpG_op rfl rfl rfl ?_; intro K hK; go_big_quiet_op; go_big_quiet_on)
    iterate 8 (refine wpG_skip rfl rfl ?_ hw4; intro K hK; go_big_quiet_op; go_big_quiet_on)
    iterate 2 (refine wpG_op rfl rfl rfl ?_; intro K hK; go_big_quiet_op; go_big_quiet_on)
    clear hone hw4
    refine wpG_nil ?_
    refine anyH_done (by kernel_rfl) ?_
    intro u6 E2'
    have EX5 := Lib.hid E2'
    clear E2'
    have HBE := Lib.hid (EnvX.bel EX5.out)
    go_wp2
    go_ret
    exact ⟨by rw [HF.out]; first | done | rfl, HBE.out⟩
  have C3 : Hid (decide ((k : Int) < (n : Int)) = true) := decide_eq_true (by omega)
  have HK : Hid (k < n) := hkn2
  have hil : k < p.length := by rw [HL.out]; exact HK.out
  obtain ⟨ad, rfl, -, hld⟩ := HAA.out.loads HPP.out hil
  have HLD := Lib.hid hld
  have HY : Hid (lenC (p.getD k noC0)) := (getP HPP.out hil).len
  obtain ⟨y, hy⟩ : ∃ y, p.getD k noC0 = y := ⟨_, rfl⟩
  rw [hy] at HLD HY HTH
  obtain ⟨b, hb⟩ : ∃ b, eqL y.tx id = b := ⟨_, rfl⟩
  have HEQ := Lib.hid hb
  have HF : Hid (thereP p id = b) := by show _ = _; rw [HTH.out, decide_eq_true HK.out, ← hb]; rfl
  clear hkn hkn2 hil hld hy hb
  cases b with
  | false =>
    go_enter Tryd.func58, Tryd.ntmps58
    go_upto_region 1 with (fail)
    generalize w.alloc (.cells (arrB 32 id) 40) = W at *
    refine wp_region_Hx (w0 := w) [0, 1, 2, 3, 4] [(w.heap.size, Obj.cells (arrB 32 id) 40 (0, 0))] rfl E1.out ?_
    refine lexH_phase [0, 1, 2, 3, 4] [] ?_
    have hw1 : EnvX w _ [(w.heap.size, Obj.cells (arrB 32 id) 40 (0, 0))] := E1.out
    have hone := @EnvC.one _ _ _ hw1
    (refine wpG_op rfl rfl rfl ?_; intro K hK; go_big_quiet_op; go_big_quiet_on)
    (refine wpG_val (v := idv id) rfl rfl (fun u hu => load_any_op u (box_idvP hu (List.Mem.head _) HID.out) rfl) ?_ hw1; intro K hK; go_big_quiet_op; go_big_quiet_on)
    (refine wpG_val (v := inV ⟨id, 0⟩) rfl rfl (fun u hu => buildA_op u (built_in0 HID.out)) ?_ hw1; intro K hK; go_big_quiet_op; go_big_quiet_on)
    (refine wpG_call (f := 51) (args := #[.slice (some ad) n c, inV ⟨id, 0⟩]) (v := .int .i64 (k : Int)) rfl rfl rfl Tryd.func51 rfl rfl (fun u hu => HPL.out u (EnvX.bel hu)) ?_ hw1; intro K hK; go_big_quiet_op; go_big_quiet_on)
    (refine wpG_op rfl rfl rfl ?_; intro K hK; go_big_quiet_op; go_big_quiet_on)
    clear hone hw1
    refine wpG_nil ?_
    intro u3 E2'
    have EX2 := Lib.hid E2'
    clear E2'
    go_upto_region 2 with (fail)
    refine wp_region_H (w0 := w) [(w.heap.size, Obj.cells (arrB 32 id) 40 (0, 0))] (by kernel_rfl) EX2.out ?_
    refine anyH_phase [0, 1, 2, 3, 4, 5, 6, 7, 8, 9, 10, 11, 12, 13, 14] 0 rfl ⟨_, (EnvX.drew EX2.out)⟩ (by kernel_rfl) ?_
    have hw4 : EnvX w _ [(w.heap.size, Obj.cells (arrB 32 id) 40 (0, 0))] := (EnvX.drew EX2.out)
    have hone := @EnvC.one _ _ _ hw4
    iterate 2 (refine wpG_op rfl rfl rfl ?_; intro K hK; go_big_quiet_op; go_big_quiet_on)
    (refine wpG_val (v := .int .i64 (n : Int)) rfl rfl (fun u hu => len_op Tryd.underlying22 HN63.out u rfl) ?_ hw4; intro K hK; go_big_quiet_op; go_big_quiet_on)
    (refine wpG_val (v := .bool true) rfl rfl (fun u hu => ltZ_op u C3.out rfl rfl) ?_ hw4; intro K hK; go_big_quiet_op; go_big_quiet_on)
    iterate 3 (refine wpG_op rfl rfl rfl ?_; intro K hK; go_big_quiet_op; go_big_quiet_on)
    (refine wpG_val (v := .pointer (some (ad.add (k * 35)))) rfl rfl (fun u hu => idxSl_op (i := k) Tryd.underlying22 aggCo.size HK.out u rfl rfl) ?_ hw4; intro K hK; go_big_quiet_op; go_big_quiet_on)
    (refine wpG_val (v := .pointer (some ((ad.add (k * 35)).add 0))) rfl rfl (fun u hu => fieldCo_op (k := 0) (off := 0) rfl u rfl) ?_ hw4; intro K hK; go_big_quiet_op; go_big_quiet_on)
    (refine wpG_val (v := .pointer (some (((ad.add (k * 35)).add 0).add 0))) rfl rfl (fun u hu => fieldIn_op (k := 0) (off := 0) rfl u rfl) ?_ hw4; intro K hK; go_big_quiet_op; go_big_quiet_on)
    (refine wpG_val (v := idv y.tx) rfl rfl (fun u hu => load_any_op u (by have h := (HLD.out u (EnvX.sub hu (fun _ h => by cases h))).2.2.1; rwa [show (((ad.add (k * 35)).add 0).add 0) = ad.add (k * 35) by unfold Addr.add; rfl]) rfl) ?_ hw4; intro K hK; go_big_quiet_op; go_big_quiet_on)
    (refine wpG_val (v := idv id) rfl rfl (fun u hu => load_any_op u (box_idvP hu (List.Mem.head _) HID.out) rfl) ?_ hw4; intro K hK; go_big_quiet_op; go_big_quiet_on)
    (refine wpG_val (v := .bool false) rfl rfl (fun u hu => eqlb_op HY.out HID.out HEQ.out u rfl rfl) ?_ hw4; intro K hK; go_big_quiet_op; go_big_quiet_on)
    iterate 2 (refine wpG_op rfl rfl rfl ?_; intro K hK; go_big_quiet_op; go_big_quiet_on)
    clear hone hw4
    refine wpG_nil ?_
    refine anyH_done (by kernel_rfl) ?_
    intro u6 E2'
    have EX5 := Lib.hid E2'
    clear E2'
    have HBE := Lib.hid (EnvX.bel EX5.out)
    go_wp2
    go_ret
    exact ⟨by rw [HF.out]; first | done | rfl, HBE.out⟩
  | true =>
    go_enter Tryd.func58, Tryd.ntmps58
    go_upto_region 1 with (fail)
    generalize w.alloc (.cells (arrB 32 id) 40) = W at *
    refine wp_region_Hx (w0 := w) [0, 1, 2, 3, 4] [(w.heap.size, Obj.cells (arrB 32 id) 40 (0, 0))] rfl E1.out ?_
    refine lexH_phase [0, 1, 2, 3, 4] [] ?_
    have hw1 : EnvX w _ [(w.heap.size, Obj.cells (arrB 32 id) 40 (0, 0))] := E1.out
    have hone := @EnvC.one _ _ _ hw1
    (refine wpG_op rfl rfl rfl ?_; intro K hK; go_big_quiet_op; go_big_quiet_on)
    (refine wpG_val (v := idv id) rfl rfl (fun u hu => load_any_op u (box_idvP hu (List.Mem.head _) HID.out) rfl) ?_ hw1; intro K hK; go_big_quiet_op; go_big_quiet_on)
    (refine wpG_val (v := inV ⟨id, 0⟩) rfl rfl (fun u hu => buildA_op u (built_in0 HID.out)) ?_ hw1; intro K hK; go_big_quiet_op; go_big_quiet_on)
    (refine wpG_call (f := 51) (args := #[.slice (some ad) n c, inV ⟨id, 0⟩]) (v := .int .i64 (k : Int)) rfl rfl rfl Tryd.func51 rfl rfl (fun u hu => HPL.out u (EnvX.bel hu)) ?_ hw1; intro K hK; go_big_quiet_op; go_big_quiet_on)
    (refine wpG_op rfl rfl rfl ?_; intro K hK; go_big_quiet_op; go_big_quiet_on)
    clear hone hw1
    refine wpG_nil ?_
    intro u3 E2'
    have EX2 := Lib.hid E2'
    clear E2'
    go_upto_region 2 with (fail)
    refine wp_region_H (w0 := w) [(w.heap.size, Obj.cells (arrB 32 id) 40 (0, 0))] (by kernel_rfl) EX2.out ?_
    refine anyH_phase [0, 1, 2, 3, 4, 5, 6, 7, 8, 9, 10, 11, 12, 13, 14] 0 rfl ⟨_, (EnvX.drew EX2.out)⟩ (by kernel_rfl) ?_
    have hw4 : EnvX w _ [(w.heap.size, Obj.cells (arrB 32 id) 40 (0, 0))] := (EnvX.drew EX2.out)
    have hone := @EnvC.one _ _ _ hw4
    iterate 2 (refine wpG_op rfl rfl rfl ?_; intro K hK; go_big_quiet_op; go_big_quiet_on)
    (refine wpG_val (v := .int .i64 (n : Int)) rfl rfl (fun u hu => len_op Tryd.underlying22 HN63.out u rfl) ?_ hw4; intro K hK; go_big_quiet_op; go_big_quiet_on)
    (refine wpG_val (v := .bool true) rfl rfl (fun u hu => ltZ_op u C3.out rfl rfl) ?_ hw4; intro K hK; go_big_quiet_op; go_big_quiet_on)
    iterate 3 (refine wpG_op rfl rfl rfl ?_; intro K hK; go_big_quiet_op; go_big_quiet_on)
    (refine wpG_val (v := .pointer (some (ad.add (k * 35)))) rfl rfl (fun u hu => idxSl_op (i := k) Tryd.underlying22 aggCo.size HK.out u rfl rfl) ?_ hw4; intro K hK; go_big_quiet_op; go_big_quiet_on)
    (refine wpG_val (v := .pointer (some ((ad.add (k * 35)).add 0))) rfl rfl (fun u hu => fieldCo_op (k := 0) (off := 0) rfl u rfl) ?_ hw4; intro K hK; go_big_quiet_op; go_big_quiet_on)
    (refine wpG_val (v := .pointer (some (((ad.add (k * 35)).add 0).add 0))) rfl rfl (fun u hu => fieldIn_op (k := 0) (off := 0) rfl u rfl) ?_ hw4; intro K hK; go_big_quiet_op; go_big_quiet_on)
    (refine wpG_val (v := idv y.tx) rfl rfl (fun u hu => load_any_op u (by have h := (HLD.out u (EnvX.sub hu (fun _ h => by cases h))).2.2.1; rwa [show (((ad.add (k * 35)).add 0).add 0) = ad.add (k * 35) by unfold Addr.add; rfl]) rfl) ?_ hw4; intro K hK; go_big_quiet_op; go_big_quiet_on)
    (refine wpG_val (v := idv id) rfl rfl (fun u hu => load_any_op u (box_idvP hu (List.Mem.head _) HID.out) rfl) ?_ hw4; intro K hK; go_big_quiet_op; go_big_quiet_on)
    (refine wpG_val (v := .bool true) rfl rfl (fun u hu => eqlb_op HY.out HID.out HEQ.out u rfl rfl) ?_ hw4; intro K hK; go_big_quiet_op; go_big_quiet_on)
    iterate 2 (refine wpG_op rfl rfl rfl ?_; intro K hK; go_big_quiet_op; go_big_quiet_on)
    clear hone hw4
    refine wpG_nil ?_
    refine anyH_done (by kernel_rfl) ?_
    intro u6 E2'
    have EX5 := Lib.hid E2'
    clear E2'
    have HBE := Lib.hid (EnvX.bel EX5.out)
    go_wp2
    go_ret
    exact ⟨by rw [HF.out]; first | done | rfl, HBE.out⟩
set_option maxRecDepth 20000 in
set_option maxHeartbeats 8000000 in
theorem pfull_any (A : Option Addr) (n c : Nat) (A' : Option Addr) (m c' : Nat) (w : World) (hn : n ≤ 1000000) (hm : m ≤ 1000000) :
    Calls Tryd.prog 59 #[.slice A n c, .slice A' m c'] w fun e w' => e = .returned (.bool (decide (48 < n + m))) ∧ Below w.heap.size w w' := by
  have HN63 : Hid (n < 9223372036854775808) := by show _ < _; omega
  have HM63 : Hid (m < 9223372036854775808) := by show _ < _; omega
  have HAD : Hid (IntKind.i64.wrap ((n : Int) + (m : Int)) = ((n + m : Nat) : Int)) := by show _ = _; rw [wrapS (by omega)]; omega
  obtain ⟨b, hb⟩ : ∃ b, decide (48 < n + m) = b := ⟨_, rfl⟩
  have HB : Hid (decide ((48 : Int) < ((n + m : Nat) : Int)) = b) := by show _ = _; rw [← hb]; exact decide_eq_decide.2 ⟨fun h => by omega, fun h => by omega⟩
  have HF := Lib.hid hb
  have E1 : Hid (EnvX w w []) := EnvX.start w
  clear hn hm hb
  go_enter Tryd.func59, Tryd.ntmps59
  go_upto_region 1 with (fail)
  refine wp_region_Hx (w0 := w) [0, 1, 2, 3, 4, 5, 6] [] rfl E1.out ?_
  refine lexH_phase [0, 1, 2, 3, 4, 5, 6] [] ?_
  have hw1 : EnvX w _ [] := E1.out
  have hone := @EnvC.one _ _ _ hw1
  (refine wpG_op rfl rfl rfl ?_; intro K hK; go_big_quiet_op; go_big_quiet_on)
  (refine wpG_val (v := .int .i64 (n : Int)) rfl rfl (fun u hu => len_op Tryd.underlying22 HN63.out u rfl) ?_ hw1; intro K hK; go_big_quiet_op; go_big_quiet_on)
  (refine wpG_op rfl rfl rfl ?_; intro K hK; go_big_quiet_op; go_big_quiet_on)
  (refine wpG_val (v := .int .i64 (m : Int)) rfl rfl (fun u hu => len_op Tryd.underlying24 HM63.out u rfl) ?_ hw1; intro K hK; go_big_quiet_op; go_big_quiet_on)
  (refine wpG_val (v := .int .i64 ((n + m : Nat) : Int)) rfl rfl (fun u hu => addZ_op u HAD.out rfl rfl) ?_ hw1; intro K hK; go_big_quiet_op; go_big_quiet_on)
  (refine wpG_val (v := .bool b) rfl rfl (fun u hu => gtZ_op u HB.out rfl rfl) ?_ hw1; intro K hK; go_big_quiet_op; go_big_quiet_on)
  (refine wpG_op rfl rfl rfl ?_; intro K hK; go_big_quiet_op; go_big_quiet_on)
  clear hone hw1
  refine wpG_nil ?_
  intro u3 E2'
  have EX2 := Lib.hid E2'
  clear E2'
  have HBE := Lib.hid (EnvX.bel EX2.out)
  go_wp2
  go_ret
  exact ⟨by rw [HF.out]; first | done | rfl, HBE.out⟩
end Go.Proofs.YtabhhbdbkeeblaaDoor
