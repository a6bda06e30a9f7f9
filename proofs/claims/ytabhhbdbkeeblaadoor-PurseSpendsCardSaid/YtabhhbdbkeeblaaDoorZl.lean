/- Part of a proof. -/
import Derived.Test.YtabhhbdbkeeblaaDoorZk
namespace Go.Proofs.YtabhhbdbkeeblaaDoor
set_option maxRecDepth 8000
open Go.RowKit
def mayInsX (l : List InR) : Bool := decide (l.length ≤ 3 ∧ (∀ x ∈ l, mayIn x = true) ∧ l.Nodup)
def mayOutsX (l : List OutR) : Bool := decide (1 ≤ l.length ∧ l.length ≤ 3 ∧ ∀ o ∈ l, mayOut o = true)
theorem mayX_both (r : TxR) : mayX r = (mayInsX r.ins && mayOutsX r.outs) := by
  unfold mayX mayInsX mayOutsX
  rw [← Bool.decide_and]
  exact decide_eq_decide.2 ⟨fun ⟨a, b, c, d, e, f⟩ => ⟨⟨a, d, e⟩, b, c, f⟩, fun ⟨⟨a, d, e⟩, b, c, f⟩ => ⟨a, b, c, d, e, f⟩⟩
theorem mayIns_bad {l : List InR} {i : Nat} (hi : i < l.length) (h : mayIn (l.getD i noIn) = false) : mayInsX l = false := by
  unfold mayInsX
  rw [decide_eq_false_iff_not]
  intro hh
  have hm : l.getD i noIn ∈ l := by rw [List.getD_eq_getElem?_getD, List.getElem?_eq_getElem hi]; exact List.getElem_mem hi
  have := hh.2.1 _ hm
  rw [h] at this
  cases this
theorem mayOuts_bad {l : List OutR} {i : Nat} (hi : i < l.length) (h : mayOut (l.getD i noOut) = false) : mayOutsX l = false := by
  unfold mayOutsX
  rw [decide_eq_false_iff_not]
  intro hh
  have hm : l.getD i noOut ∈ l := by rw [List.getD_eq_getElem?_getD, List.getElem?_eq_getElem hi]; exact List.getElem_mem hi
  have := hh.2.2 _ hm
  rw [h] at this
  cases this
theorem mem_take_getD {l : List InR} {i : Nat} {x : InR} (hi : i ≤ l.length) : x ∈ l.take i ↔ ∃ k, k < i ∧ l.getD k noIn = x := by
  constructor
  · intro h
    obtain ⟨k, hk, rfl⟩ := List.getElem_of_mem h
    rw [List.length_take] at hk
    exact ⟨k, by omega, by rw [List.getElem_take, List.getD_eq_getElem?_getD, List.getElem?_eq_getElem (by omega)]; rfl⟩
  · rintro ⟨k, hk, rfl⟩
    rw [List.getD_eq_getElem?_getD, List.getElem?_eq_getElem (by omega)]
    exact List.mem_take_iff_getElem.2 ⟨k, by omega, rfl⟩
theorem mayIns_twice {l : List InR} {i : Nat} (hi : i < l.length) (h : l.getD i noIn ∈ l.take i) : mayInsX l = false := by
  unfold mayInsX
  rw [decide_eq_false_iff_not]
  intro hh
  obtain ⟨k, hk, e⟩ := (mem_take_getD (by omega)).1 h
  have hn := (List.pairwise_iff_getElem.1 hh.2.2) k i (by omega) hi hk
  rw [List.getD_eq_getElem?_getD, List.getElem?_eq_getElem (show k < l.length by omega), List.getD_eq_getElem?_getD, List.getElem?_eq_getElem hi] at e
  exact hn e
theorem mayIns_good {l : List InR} (h3 : l.length ≤ 3) (h1 : ∀ j, j < l.length → mayIn (l.getD j noIn) = true) (h2 : ∀ j, j < l.length → l.getD j noIn ∉ l.take j) : mayInsX l = true := by
  unfold mayInsX
  refine decide_eq_true ⟨h3, fun x hx => ?_, List.pairwise_iff_getElem.2 fun i j hi hj hij => ?_⟩
  · obtain ⟨j, hj, rfl⟩ := List.getElem_of_mem hx
    have := h1 j hj
    rwa [List.getD_eq_getElem?_getD, List.getElem?_eq_getElem hj] at this
  · intro e
    refine h2 j hj ((mem_take_getD (by omega)).2 ⟨i, hij, ?_⟩)
    rw [List.getD_eq_getElem?_getD, List.getElem?_eq_getElem hi, List.getD_eq_getElem?_getD, List.getElem?_eq_getElem hj]
    exact e
theorem mayOuts_good {l : List OutR} (h3 : 1 ≤ l.length ∧ l.length ≤ 3) (h1 : ∀ j, j < l.length → mayOut (l.getD j noOut) = true) : mayOutsX l = true := by
  unfold mayOutsX
  refine decide_eq_true ⟨h3.1, h3.2, fun x hx => ?_⟩
  obtain ⟨j, hj, rfl⟩ := List.getElem_of_mem hx
  have := h1 j hj
  rwa [List.getD_eq_getElem?_getD, List.getElem?_eq_getElem hj] at this
theorem InsIn.first {w : World} {B : Nat} {A : Option Addr} {l : List InR} (h : InsIn w B A l) (k : Nat) : InsIn w B A (l.take k) := by
  unfold InsIn at *
  intro hp
  have e : (l.map inC).flatten = ((l.take k).map inC).flatten ++ ((l.drop k).map inC).flatten := by rw [← List.flatten_append, ← List.map_append, List.take_append_drop]
  obtain ⟨ad, e1, hb, hc⟩ := h (by rw [e, List.length_append]; omega)
  refine ⟨ad, e1, hb, fun j v hj => hc j v ?_⟩
  rw [e, List.getElem?_append_left]
  · exact hj
  · rcases Nat.lt_or_ge j ((l.take k).map inC).flatten.length with h' | h'
    · exact h'
    · rw [List.getElem?_eq_none h'] at hj; cases hj
set_option maxRecDepth 20000 in
set_option maxHeartbeats 8000000 in
theorem mayIns_any (l : List InR) (A : Option Addr) (n c : Nat) (w : World) (hl : l.length = n) (hnc : n ≤ c) (hcm : c ≤ maxLen) (hI : okIns l) (hA : InsIn w w.heap.size A l) :
    Calls Tryd.prog 54 #[.slice A n c] w fun e w' => e = .returned (.bool (mayInsX l)) ∧ Below w.heap.size w w' := by
  have HN63 : Hid (n < 9223372036854775808) := by show _ < _; unfold maxLen at hcm; omega
  have E1 : Hid (EnvX w w []) := EnvX.start w
  have HLN := Lib.hid hl
  by_cases k3 : 3 < n
  · have HF : Hid (mayInsX l = false) := by
      unfold mayInsX
      exact decide_eq_false (fun h => by have := h.1; omega)
    have D1 : Hid (decide ((3 : Int) < (n : Int)) = true) := decide_eq_true (by omega)
    clear k3 hl hnc hcm hI hA
    go_enter Tryd.func54, Tryd.ntmps54
    go_upto_region 1 with (fail)
    refine wp_region_Hx (w0 := w) [0, 1, 2] [] rfl E1.out ?_
    refine lexH_phase [0, 1, 2] [] ?_
    have hw1 : EnvX w _ [] := E1.out
    have hone := @EnvC.one _ _ _ hw1
    (refine wpG_op rfl rfl rfl ?_; intro K hK; go_big_quiet_op; go_big_quiet_on)
    (refine wpG_val (v := .int .i64 (n : Int)) rfl rfl (fun u hu => len_op Tryd.underlying23 HN63.out u rfl) ?_ hw1; intro K hK; go_big_quiet_op; go_big_quiet_on)
    (refine wpG_val (v := .bool true) rfl rfl (fun u hu => gtZ_op u D1.out rfl rfl) ?_ hw1; intro K hK; go_big_quiet_op; go_big_quiet_on)
    clear hone hw1
    refine wpG_nil ?_
    intro u3 E2'
    have EX2 := Lib.hid E2'
    clear E2'
    have HBE := Lib.hid (EnvX.bel EX2.out)
    go_wp2
    go_ret
    exact ⟨by rw [HF.out]; first | done | rfl, HBE.out⟩
  · have D1 : Hid (decide ((3 : Int) < (n : Int)) = false) := decide_eq_false (by omega)
    have HN3 : Hid (n ≤ 3) := by show _ ≤ _; omega
    have HII := Lib.hid hI
    have HAA := Lib.hid hA
    have HNC := Lib.hid hnc
    clear k3 hl hnc hcm hI hA
    go_enter Tryd.func54, Tryd.ntmps54
    go_upto_region 1 with (fail)
    refine wp_region_Hx (w0 := w) [0, 1, 2] [] rfl E1.out ?_
    refine lexH_phase [0, 1, 2] [] ?_
    have hw1 : EnvX w _ [] := E1.out
    have hone := @EnvC.one _ _ _ hw1
    (refine wpG_op rfl rfl rfl ?_; intro K hK; go_big_quiet_op; go_big_quiet_on)
    (refine wpG_val (v := .int .i64 (n : Int)) rfl rfl (fun u hu => len_op Tryd.underlying23 HN63.out u rfl) ?_ hw1; intro K hK; go_big_quiet_op; go_big_quiet_on)
    (refine wpG_val (v := .bool false) rfl rfl (fun u hu => gtZ_op u D1.out rfl rfl) ?_ hw1; intro K hK; go_big_quiet_op; go_big_quiet_on)
    clear hone hw1
    refine wpG_nil ?_
    intro u3 E2'
    have EX2 := Lib.hid E2'
    clear E2'
    go_upto_region 3 with (fail)
    refine wp_region_Hx (w0 := w) [0, 1, 2] [] rfl EX2.out ?_
    refine lexH_phase [0, 1, 2] [] ?_
    have hw4 : EnvX w _ [] := EX2.out
    have hone := @EnvC.one _ _ _ hw4
    (refine wpG_op rfl rfl rfl ?_; intro K hK; go_big_quiet_op; go_big_quiet_on)
    (refine wpG_val (v := .int .i64 (n : Int)) rfl rfl (fun u hu => len_op Tryd.underlying23 HN63.out u rfl) ?_ hw4; intro K hK; go_big_quiet_op; go_big_quiet_on)
    (refine wpG_op rfl rfl rfl ?_; intro K hK; go_big_quiet_op; go_big_quiet_on)
    clear hone hw4
    refine wpG_nil ?_
    intro u6 E2'
    have EX5 := Lib.hid E2'
    clear E2'
    have E0 := Lib.hid EX5.out
    clear EX5 E1
    go_upto_region 4 with (fail)
    go_loopw [10] (fun iv u => ∃ i : Nat, i ≤ n ∧ iv = .int .i64 (i : Int) ∧ Hid ((∀ j, j < i → mayIn (l.getD j noIn) = true) ∧ (∀ j, j < i → l.getD j noIn ∉ l.take j) ∧ EnvX w u [])) (fun iv _ => n - (intOf iv).toNat)
    case atStart => exact ⟨0, by omega, rfl, (fun j hj => by omega), (fun j hj => by omega), E0.out⟩
    case round =>
      obtain ⟨i, hi, rfl, hinv⟩ := hrel
      have H1 := Lib.hid hinv.out.1
      have H2 := Lib.hid hinv.out.2.1
      have EK := Lib.hid hinv.out.2.2
      clear hinv E0
      by_cases hlt : i < n
      · have C4 : Hid (decide ((i : Int) < (n : Int)) = true) := decide_eq_true (by omega)
        have HI := Lib.hid hlt
        have hil : i < l.length := by rw [HLN.out]; exact hlt
        have HIL := Lib.hid hil
        have HIC : Hid (i ≤ c) := by have := HNC.out; show _ ≤ _; omega
        obtain ⟨ad, rfl, -, hld⟩ := HAA.out.loads HII.out hil
        have HLD := Lib.hid hld
        have HX : Hid (lenI (l.getD i noIn)) := (HII.out.get hil).len
        have HCT : Hid (∀ u, Below w.heap.size w u → Calls Tryd.prog 70 #[.slice (some ad) i c, inV (l.getD i noIn)] u fun e w' => e = .returned (.bool (decide (l.getD i noIn ∈ l.take i))) ∧ Below u.heap.size u w') := fun u hu =>
          containsIn_any (l.take i) _ _ i c u (by rw [List.length_take]; omega) (by have := HN3.out; omega) (HII.out.take i) ((HAA.out.first i).up hu) HX.out
        obtain ⟨x, hx⟩ : ∃ x, l.getD i noIn = x := ⟨_, rfl⟩
        obtain ⟨cb, hcb⟩ : ∃ cb, decide (l.getD i noIn ∈ l.take i) = cb := ⟨_, rfl⟩
        have HCB := Lib.hid hcb
        rw [hcb] at HCT
        have HXE := Lib.hid hx
        rw [hx] at HX HLD HCT
        clear hld hil hlt hx hcb
        go_upto_region 4 with (fail)
        refine wp_region_Hx (w0 := w) [0] [] rfl EK.out ?_
        refine lexH_phase [0] [] ?_
        have hw21 : EnvX w _ [] := EK.out
        have hone := @EnvC.one _ _ _ hw21
        (refine wpG_val (v := .bool true) rfl rfl (fun u hu => ltZ_op u C4.out rfl rfl) ?_ hw21; intro K hK; go_big_quiet_op; go_big_quiet_on)
        clear hone hw21
        refine wpG_nil ?_
        intro u23 E2'
        have EX22 := Lib.hid E2'
        clear E2'
        go_upto_region 5 with (fail)
        refine wp_region_Hx (w0 := w) [0, 1, 2, 3, 4, 5] [] rfl EX22.out ?_
        refine lexH_phase [0, 1, 2] [3, 4, 5] ?_
        have hw24 : EnvX w _ [] := EX22.out
        have hone := @EnvC.one _ _ _ hw24
        (refine wpG_op rfl rfl rfl ?_; intro K hK; go_big_quiet_op; go_big_quiet_on)
        (refine wpG_val (v := .pointer (some (ad.add (i * 33)))) rfl rfl (fun u hu => idxSl_op (i := i) Tryd.underlying23 aggIn.size HI.out u rfl rfl) ?_ hw24; intro K hK; go_big_quiet_op; go_big_quiet_on)
        (refine wpG_val (v := inV x) rfl rfl (fun u hu => load_any_op u (HLD.out u (EnvX.sub hu (fun _ h => by cases h))).1 rfl) ?_ hw24; intro K hK; go_big_quiet_op; go_big_quiet_on)
        clear hone hw24
        refine wpG_nil ?_
        refine (hOp_fresh (R := fun x N => ∃ g, x = .pointer (some ⟨g, 0, none⟩) ∧ N = [(g, Obj.cells (inA noIn) 42 (0, 0))]) (M0 := []) rfl rfl (fun _ h => h) (fun u hu => FAt_new (new_in _) u) ?_)
        rintro _ _ ⟨gi, rfl, rfl⟩ hf he25; intro K' hK'; go_big_quiet_op; go_big_quiet_on
        have HG6 := Lib.hid (hf _ (List.mem_singleton.2 rfl))
        clear hf
        change lexH _ _ _ _ _ _ [(gi, Obj.cells (inA noIn) 42 (0, 0))]
        refine lexH_phase [4] [5] ?_
        have hw26 : EnvX w _ [(gi, Obj.cells (inA noIn) 42 (0, 0))] := he25.choose_spec
        have hone := @EnvC.one _ _ _ hw26
        (refine wpG_op rfl rfl rfl ?_; intro K hK; go_big_quiet_op; go_big_quiet_on)
        clear hone hw26
        refine wpG_nil ?_
        refine (hOp_store rfl (gi) (inA x) rfl rfl HG6.out.1 42 ((inA noIn)) (List.Mem.head _) (infoIn _ (inA_size HX.out)) ((inA_size' (Nat.zero_le _)).trans (inA_size HX.out).symm) (inA_one _) [(gi, Obj.cells (inA x) 42 (0, 0))] (List.forall_mem_cons.2 ⟨.inl rfl, fun _ h => by cases h⟩) ?_)
        intro he27
        intro u29 E2'
        have EX28 := Lib.hid E2'
        clear E2'
        by_cases c6 : x.i < 0
        · have C6 : Hid (decide (x.i < 0) = true) := decide_eq_true c6
          have HF : Hid (mayInsX l = false) := mayIns_bad HIL.out (by rw [HXE.out]; exact decide_eq_false (by omega))
          clear c6
          go_upto_region 6 with (fail)
          refine wp_region_H (w0 := w) [(gi, Obj.cells (inA x) 42 (0, 0))] (by kernel_rfl) EX28.out ?_
          refine anyH_phase [0, 1, 2, 3, 4, 5, 6, 7, 8, 9, 10, 11, 12, 13, 14] 0 rfl ⟨_, (EnvX.drew EX28.out)⟩ (by kernel_rfl) ?_
          have hw30 : EnvX w _ [(gi, Obj.cells (inA x) 42 (0, 0))] := (EnvX.drew EX28.out)
          have hone := @EnvC.one _ _ _ hw30
          (refine wpG_val (v := .pointer (some ⟨gi, 32, none⟩)) rfl rfl (fun u hu => fieldIn_op (k := 1) (off := 32) (ad := ⟨gi, 0, none⟩) rfl u rfl) ?_ hw30; intro K hK; go_big_quiet_op; go_big_quiet_on)
          (refine wpG_val (v := .int .i64 x.i) rfl rfl (fun u hu => load_any_op u (box_in_i hu (List.Mem.head _) HX.out) rfl) ?_ hw30; intro K hK; go_big_quiet_op; go_big_quiet_on)
          (refine wpG_val (v := .bool true) rfl rfl (fun u hu => ltZ_op u C6.out rfl rfl) ?_ hw30; intro K hK; go_big_quiet_op; go_big_quiet_on)
          (refine wpG_op rfl rfl rfl ?_; intro K hK; go_big_quiet_op; go_big_quiet_on)
          iterate 3 (refine wpG_skip rfl rfl ?_ hw30; intro K hK; go_big_quiet_op; go_big_quiet_on)
          iterate 2 (refine wpG_op rfl rfl rfl ?_; intro K hK; go_big_quiet_op; go_big_quiet_on)
          iterate 5 (refine wpG_skip rfl rfl ?_ hw30; intro K hK; go_big_quiet_op; go_big_quiet_on)
          (refine wpG_op rfl rfl rfl ?_; intro K hK; go_big_quiet_op; go_big_quiet_on)
          clear hone hw30
          refine wpG_nil ?_
          refine anyH_done (by kernel_rfl) ?_
          intro u32 E2'
          have EX31 := Lib.hid E2'
          clear E2'
          have HBE := Lib.hid (EnvX.bel EX31.out)
          go_wp2
          go_ret
          exact ⟨by rw [HF.out]; first | done | rfl, HBE.out⟩
        have C6 : Hid (decide (x.i < 0) = false) := decide_eq_false c6
        by_cases c14 : 2 < x.i
        · have C14 : Hid (decide (2 < x.i) = true) := decide_eq_true c14
          have HF : Hid (mayInsX l = false) := mayIns_bad HIL.out (by rw [HXE.out]; exact decide_eq_false (by omega))
          clear c6 c14
          go_upto_region 6 with (fail)
          refine wp_region_H (w0 := w) [(gi, Obj.cells (inA x) 42 (0, 0))] (by kernel_rfl) EX28.out ?_
          refine anyH_phase [0, 1, 2, 3, 4, 5, 6, 7, 8, 9, 10, 11, 12, 13, 14] 0 rfl ⟨_, (EnvX.drew EX28.out)⟩ (by kernel_rfl) ?_
          have hw30 : EnvX w _ [(gi, Obj.cells (inA x) 42 (0, 0))] := (EnvX.drew EX28.out)
          have hone := @EnvC.one _ _ _ hw30
          (refine wpG_val (v := .pointer (some ⟨gi, 32, none⟩)) rfl rfl (fun u hu => fieldIn_op (k := 1) (off := 32) (ad := ⟨gi, 0, none⟩) rfl u rfl) ?_ hw30; intro K hK; go_big_quiet_op; go_big_quiet_on)
          (refine wpG_val (v := .int .i64 x.i) rfl rfl (fun u hu => load_any_op u (box_in_i hu (List.Mem.head _) HX.out) rfl) ?_ hw30; intro K hK; go_big_quiet_op; go_big_quiet_on)
          (refine wpG_val (v := .bool false) rfl rfl (fun u hu => ltZ_op u C6.out rfl rfl) ?_ hw30; intro K hK; go_big_quiet_op; go_big_quiet_on)
          (refine wpG_op rfl rfl rfl ?_; intro K hK; go_big_quiet_op; go_big_quiet_on)
          (refine wpG_val (v := .pointer (some ⟨gi, 32, none⟩)) rfl rfl (fun u hu => fieldIn_op (k := 1) (off := 32) (ad := ⟨gi, 0, none⟩) rfl u rfl) ?_ hw30; intro K hK; go_big_quiet_op; go_big_quiet_on)
          (refine wpG_val (v := .int .i64 x.i) rfl rfl (fun u hu => load_any_op u (box_in_i hu (List.Mem.head _) HX.out) rfl) ?_ hw30; intro K hK; go_big_quiet_op; go_big_quiet_on)
          (refine wpG_val (v := .bool true) rfl rfl (fun u hu => gtZ_op u C14.out rfl rfl) ?_ hw30; intro K hK; go_big_quiet_op; go_big_quiet_on)
          iterate 2 (refine wpG_op rfl rfl rfl ?_; intro K hK; go_big_quiet_op; go_big_quiet_on)
          iterate 5 (refine wpG_skip rfl rfl ?_ hw30; intro K hK; go_big_quiet_op; go_big_quiet_on)
          (refine wpG_op rfl rfl rfl ?_; intro K hK; go_big_quiet_op; go_big_quiet_on)
          clear hone hw30
          refine wpG_nil ?_
          refine anyH_done (by kernel_rfl) ?_
          intro u32 E2'
          have EX31 := Lib.hid E2'
          clear E2'
          have HBE := Lib.hid (EnvX.bel EX31.out)
          go_wp2
          go_ret
          exact ⟨by rw [HF.out]; first | done | rfl, HBE.out⟩
        have C14 : Hid (decide (2 < x.i) = false) := decide_eq_false c14
        have HMI : Hid (mayIn (l.getD i noIn) = true) := by show _ = _; rw [HXE.out]; exact decide_eq_true (by omega)
        clear c6 c14
        cases cb with
        | true =>
          have HF : Hid (mayInsX l = false) := mayIns_twice HIL.out (of_decide_eq_true HCB.out)
          go_upto_region 6 with (fail)
          refine wp_region_H (w0 := w) [(gi, Obj.cells (inA x) 42 (0, 0))] (by kernel_rfl) EX28.out ?_
          refine anyH_phase [0, 1, 2, 3, 4, 5, 6, 7, 8, 9, 10, 11, 12, 13, 14] 0 rfl ⟨_, (EnvX.drew EX28.out)⟩ (by kernel_rfl) ?_
          have hw30 : EnvX w _ [(gi, Obj.cells (inA x) 42 (0, 0))] := (EnvX.drew EX28.out)
          have hone := @EnvC.one _ _ _ hw30
          (refine wpG_val (v := .pointer (some ⟨gi, 32, none⟩)) rfl rfl (fun u hu => fieldIn_op (k := 1) (off := 32) (ad := ⟨gi, 0, none⟩) rfl u rfl) ?_ hw30; intro K hK; go_big_quiet_op; go_big_quiet_on)
          (refine wpG_val (v := .int .i64 x.i) rfl rfl (fun u hu => load_any_op u (box_in_i hu (List.Mem.head _) HX.out) rfl) ?_ hw30; intro K hK; go_big_quiet_op; go_big_quiet_on)
          (refine wpG_val (v := .bool false) rfl rfl (fun u hu => ltZ_op u C6.out rfl rfl) ?_ hw30; intro K hK; go_big_quiet_op; go_big_quiet_on)
          (refine wpG_op rfl rfl rfl ?_; intro K hK; go_big_quiet_op; go_big_quiet_on)
          (refine wpG_val (v := .pointer (some ⟨gi, 32, none⟩)) rfl rfl (fun u hu => fieldIn_op (k := 1) (off := 32) (ad := ⟨gi, 0, none⟩) rfl u rfl) ?_ hw30; intro K hK; go_big_quiet_op; go_big_quiet_on)
          (refine wpG_val (v := .int .i64 x.i) rfl rfl (fun u hu => load_any_op u (box_in_i hu (List.Mem.head _) HX.out) rfl) ?_ hw30; intro K hK; go_big_quiet_op; go_big_quiet_on)
          (refine wpG_val (v := .bool false) rfl rfl (fun u hu => gtZ_op u C14.out rfl rfl) ?_ hw30; intro K hK; go_big_quiet_op; go_big_quiet_on)
          iterate 4 (refine wpG_op rfl rfl rfl ?_; intro K hK; go_big_quiet_op; go_big_quiet_on)
          (refine wpG_val (v := .slice (some ad) i c) rfl rfl (fun u hu => cutXh_op elIn u HIC.out rfl rfl) ?_ hw30; intro K hK; go_big_quiet_op; go_big_quiet_on)
          (refine wpG_val (v := inV x) rfl rfl (fun u hu => load_any_op u (box_in hu (List.Mem.head _) HX.out) rfl) ?_ hw30; intro K hK; go_big_quiet_op; go_big_quiet_on)
          (refine wpG_call (f := 70) (args := #[.slice (some ad) i c, inV x]) (v := .bool true) rfl rfl rfl Tryd.func70 rfl rfl (fun u hu => HCT.out u (EnvX.bel hu)) ?_ hw30; intro K hK; go_big_quiet_op; go_big_quiet_on)
          (refine wpG_op rfl rfl rfl ?_; intro K hK; go_big_quiet_op; go_big_quiet_on)
          clear hone hw30
          refine wpG_nil ?_
          refine anyH_done (by kernel_rfl) ?_
          intro u32 E2'
          have EX31 := Lib.hid E2'
          clear E2'
          have HBE := Lib.hid (EnvX.bel EX31.out)
          go_wp2
          go_ret
          exact ⟨by rw [HF.out]; first | done | rfl, HBE.out⟩
        | false =>
          go_upto_region 6 with (fail)
          refine wp_region_H (w0 := w) [(gi, Obj.cells (inA x) 42 (0, 0))] (by kernel_rfl) EX28.out ?_
          refine anyH_phase [0, 1, 2, 3, 4, 5, 6, 7, 8, 9, 10, 11, 12, 13, 14] 0 rfl ⟨_, (EnvX.drew EX28.out)⟩ (by kernel_rfl) ?_
          have hw30 : EnvX w _ [(gi, Obj.cells (inA x) 42 (0, 0))] := (EnvX.drew EX28.out)
          have hone := @EnvC.one _ _ _ hw30
          (refine wpG_val (v := .pointer (some ⟨gi, 32, none⟩)) rfl rfl (fun u hu => fieldIn_op (k := 1) (off := 32) (ad := ⟨gi, 0, none⟩) rfl u rfl) ?_ hw30; intro K hK; go_big_quiet_op; go_big_quiet_on)
          (refine wpG_val (v := .int .i64 x.i) rfl rfl (fun u hu => load_any_op u (box_in_i hu (List.Mem.head _) HX.out) rfl) ?_ hw30; intro K hK; go_big_quiet_op; go_big_quiet_on)
          (refine wpG_val (v := .bool false) rfl rfl (fun u hu => ltZ_op u C6.out rfl rfl) ?_ hw30; intro K hK; go_big_quiet_op; go_big_quiet_on)
          (refine wpG_op rfl rfl rfl ?_; intro K hK; go_big_quiet_op; go_big_quiet_on)
          (refine wpG_val (v := .pointer (some ⟨gi, 32, none⟩)) rfl rfl (fun u hu => fieldIn_op (k := 1) (off := 32) (ad := ⟨gi, 0, none⟩) rfl u rfl) ?_ hw30; intro K hK; go_big_quiet_op; go_big_quiet_on)
          (refine wpG_val (v := .int .i64 x.i) rfl rfl (fun u hu => load_any_op u (box_in_i hu (List.Mem.head _) HX.out) rfl) ?_ hw30; intro K hK; go_big_quiet_op; go_big_quiet_on)
          (refine wpG_val (v := .bool false) rfl rfl (fun u hu => gtZ_op u C14.out rfl rfl) ?_ hw30; intro K hK; go_big_quiet_op; go_big_quiet_on)
          iterate 4 (refine wpG_op rfl rfl rfl ?_; intro K hK; go_big_quiet_op; go_big_quiet_on)
          (refine wpG_val (v := .slice (some ad) i c) rfl rfl (fun u hu => cutXh_op elIn u HIC.out rfl rfl) ?_ hw30; intro K hK; go_big_quiet_op; go_big_quiet_on)
          (refine wpG_val (v := inV x) rfl rfl (fun u hu => load_any_op u (box_in hu (List.Mem.head _) HX.out) rfl) ?_ hw30; intro K hK; go_big_quiet_op; go_big_quiet_on)
          (refine wpG_call (f := 70) (args := #[.slice (some ad) i c, inV x]) (v := .bool false) rfl rfl rfl Tryd.func70 rfl rfl (fun u hu => HCT.out u (EnvX.bel hu)) ?_ hw30; intro K hK; go_big_quiet_op; go_big_quiet_on)
          (refine wpG_op rfl rfl rfl ?_; intro K hK; go_big_quiet_op; go_big_quiet_on)
          clear hone hw30
          refine wpG_nil ?_
          refine anyH_done (by kernel_rfl) ?_
          intro u32 E2'
          have EX31 := Lib.hid E2'
          clear E2'
          have H3 : Hid (∀ j, j < i + 1 → mayIn (l.getD j noIn) = true) := fun j hj => by
            rcases Nat.lt_or_ge j i with h | h
            · exact H1.out j h
            · rw [show j = i by omega]; exact HMI.out
          have H4 : Hid (∀ j, j < i + 1 → l.getD j noIn ∉ l.take j) := fun j hj => by
            rcases Nat.lt_or_ge j i with h | h
            · exact H2.out j h
            · rw [show j = i by omega]; exact of_decide_eq_false HCB.out
          have hii := HI.out
          have hn3 := HN3.out
          go_wp2
          go_roundw
          case rel => exact ⟨i + 1, by omega, by go_num, H3.out, H4.out, EX31.out.sub (fun _ h => by cases h)⟩
          case measure => simp [intOf]; omega
      · obtain rfl : i = n := by omega
        have C4 : Hid (decide ((i : Int) < (i : Int)) = false) := decide_eq_false (by omega)
        have HF : Hid (mayInsX l = true) := mayIns_good (by rw [HLN.out]; exact HN3.out) (by rw [HLN.out]; exact H1.out) (by rw [HLN.out]; exact H2.out)
        go_upto_region 4 with (fail)
        refine wp_region_Hx (w0 := w) [0] [] rfl EK.out ?_
        refine lexH_phase [0] [] ?_
        have hw121 : EnvX w _ [] := EK.out
        have hone := @EnvC.one _ _ _ hw121
        (refine wpG_val (v := .bool false) rfl rfl (fun u hu => ltZ_op u C4.out rfl rfl) ?_ hw121; intro K hK; go_big_quiet_op; go_big_quiet_on)
        clear hone hw121
        refine wpG_nil ?_
        intro u123 E2'
        have EX122 := Lib.hid E2'
        clear E2'
        have HBE := Lib.hid (EnvX.bel EX122.out)
        go_wp2
        go_ret
        exact ⟨by rw [HF.out]; first | done | rfl, HBE.out⟩
set_option maxRecDepth 20000 in
set_option maxHeartbeats 8000000 in
theorem mayOuts_any (l : List OutR) (A : Option Addr) (n c : Nat) (w : World) (hl : l.length = n) (hnc : n ≤ c) (hcm : c ≤ maxLen) (hA : OutsIn w w.heap.size A l) :
    Calls Tryd.prog 55 #[.slice A n c] w fun e w' => e = .returned (.bool (mayOutsX l)) ∧ Below w.heap.size w w' := by
  have HN63 : Hid (n < 9223372036854775808) := by show _ < _; unfold maxLen at hcm; omega
  have E1 : Hid (EnvX w w []) := EnvX.start w
  have HLN := Lib.hid hl
  by_cases k1 : n < 1
  · have HF : Hid (mayOutsX l = false) := by
      unfold mayOutsX
      exact decide_eq_false (fun h => by have := h.1; omega)
    have D1 : Hid (decide ((n : Int) < 1) = true) := decide_eq_true (by omega)
    clear k1 hl hnc hcm hA
    go_enter Tryd.func55, Tryd.ntmps55
    go_upto_region 1 with (fail)
    refine wp_region_Hx (w0 := w) [0, 1, 2, 3, 4, 5, 6, 7] [] rfl E1.out ?_
    refine lexH_phase [0, 1, 2, 3, 4, 5, 6, 7] [] ?_
    have hw1 : EnvX w _ [] := E1.out
    have hone := @EnvC.one _ _ _ hw1
    (refine wpG_op rfl rfl rfl ?_; intro K hK; go_big_quiet_op; go_big_quiet_on)
    (refine wpG_val (v := .int .i64 (n : Int)) rfl rfl (fun u hu => len_op Tryd.underlying24 HN63.out u rfl) ?_ hw1; intro K hK; go_big_quiet_op; go_big_quiet_on)
    (refine wpG_val (v := .bool true) rfl rfl (fun u hu => ltZ_op u D1.out rfl rfl) ?_ hw1; intro K hK; go_big_quiet_op; go_big_quiet_on)
    (refine wpG_op rfl rfl rfl ?_; intro K hK; go_big_quiet_op; go_big_quiet_on)
    iterate 3 (refine wpG_skip rfl rfl ?_ hw1; intro K hK; go_big_quiet_op; go_big_quiet_on)
    (refine wpG_op rfl rfl rfl ?_; intro K hK; go_big_quiet_op; go_big_quiet_on)
    clear hone hw1
    refine wpG_nil ?_
    intro u3 E2'
    have EX2 := Lib.hid E2'
    clear E2'
    have HBE := Lib.hid (EnvX.bel EX2.out)
    go_wp2
    go_ret
    exact ⟨by rw [HF.out]; first | done | rfl, HBE.out⟩
  have D1 : Hid (decide ((n : Int) < 1) = false) := decide_eq_false (by omega)
  by_cases k3 : 3 < n
  · have HF : Hid (mayOutsX l = false) := by
      unfold mayOutsX
      exact decide_eq_false (fun h => by have := h.2.1; omega)
    have D2 : Hid (decide ((3 : Int) < (n : Int)) = true) := decide_eq_true (by omega)
    clear k1 k3 hl hnc hcm hA
    go_enter Tryd.func55, Tryd.ntmps55
    go_upto_region 1 with (fail)
    refine wp_region_Hx (w0 := w) [0, 1, 2, 3, 4, 5, 6, 7] [] rfl E1.out ?_
    refine lexH_phase [0, 1, 2, 3, 4, 5, 6, 7] [] ?_
    have hw1 : EnvX w _ [] := E1.out
    have hone := @EnvC.one _ _ _ hw1
    (refine wpG_op rfl rfl rfl ?_; intro K hK; go_big_quiet_op; go_big_quiet_on)
    (refine wpG_val (v := .int .i64 (n : Int)) rfl rfl (fun u hu => len_op Tryd.underlying24 HN63.out u rfl) ?_ hw1; intro K hK; go_big_quiet_op; go_big_quiet_on)
    (refine wpG_val (v := .bool false) rfl rfl (fun u hu => ltZ_op u D1.out rfl rfl) ?_ hw1; intro K hK; go_big_quiet_op; go_big_quiet_on)
    iterate 2 (refine wpG_op rfl rfl rfl ?_; intro K hK; go_big_quiet_op; go_big_quiet_on)
    (refine wpG_val (v := .int .i64 (n : Int)) rfl rfl (fun u hu => len_op Tryd.underlying24 HN63.out u rfl) ?_ hw1; intro K hK; go_big_quiet_op; go_big_quiet_on)
    (refine wpG_val (v := .bool true) rfl rfl (fun u hu => gtZ_op u D2.out rfl rfl) ?_ hw1; intro K hK; go_big_quiet_op; go_big_quiet_on)
    (refine wpG_op rfl rfl rfl ?_; intro K hK; go_big_quiet_op; go_big_quiet_on)
    clear hone hw1
    refine wpG_nil ?_
    intro u3 E2'
    have EX2 := Lib.hid E2'
    clear E2'
    have HBE := Lib.hid (EnvX.bel EX2.out)
    go_wp2
    go_ret
    exact ⟨by rw [HF.out]; first | done | rfl, HBE.out⟩
  · have D2 : Hid (decide ((3 : Int) < (n : Int)) = false) := decide_eq_false (by omega)
    have HN3 : Hid (1 ≤ n ∧ n ≤ 3) := by show _ ∧ _; omega
    have HAA := Lib.hid hA
    clear k1 k3 hl hnc hcm hA
    go_enter Tryd.func55, Tryd.ntmps55
    go_upto_region 1 with (fail)
    refine wp_region_Hx (w0 := w) [0, 1, 2, 3, 4, 5, 6, 7] [] rfl E1.out ?_
    refine lexH_phase [0, 1, 2, 3, 4, 5, 6, 7] [] ?_
    have hw1 : EnvX w _ [] := E1.out
    have hone := @EnvC.one _ _ _ hw1
    (refine wpG_op rfl rfl rfl ?_; intro K hK; go_big_quiet_op; go_big_quiet_on)
    (refine wpG_val (v := .int .i64 (n : Int)) rfl rfl (fun u hu => len_op Tryd.underlying24 HN63.out u rfl) ?_ hw1; intro K hK; go_big_quiet_op; go_big_quiet_on)
    (refine wpG_val (v := .bool false) rfl rfl (fun u hu => ltZ_op u D1.out rfl rfl) ?_ hw1; intro K hK; go_big_quiet_op; go_big_quiet_on)
    iterate 2 (refine wpG_op rfl rfl rfl ?_; intro K hK; go_big_quiet_op; go_big_quiet_on)
    (refine wpG_val (v := .int .i64 (n : Int)) rfl rfl (fun u hu => len_op Tryd.underlying24 HN63.out u rfl) ?_ hw1; intro K hK; go_big_quiet_op; go_big_quiet_on)
    (refine wpG_val (v := .bool false) rfl rfl (fun u hu => gtZ_op u D2.out rfl rfl) ?_ hw1; intro K hK; go_big_quiet_op; go_big_quiet_on)
    (refine wpG_op rfl rfl rfl ?_; intro K hK; go_big_quiet_op; go_big_quiet_on)
    clear hone hw1
    refine wpG_nil ?_
    intro u3 E2'
    have EX2 := Lib.hid E2'
    clear E2'
    go_upto_region 3 with (fail)
    refine wp_region_Hx (w0 := w) [0, 1, 2] [] rfl EX2.out ?_
    refine lexH_phase [0, 1, 2] [] ?_
    have hw4 : EnvX w _ [] := EX2.out
    have hone := @EnvC.one _ _ _ hw4
    (refine wpG_op rfl rfl rfl ?_; intro K hK; go_big_quiet_op; go_big_quiet_on)
    (refine wpG_val (v := .int .i64 (n : Int)) rfl rfl (fun u hu => len_op Tryd.underlying24 HN63.out u rfl) ?_ hw4; intro K hK; go_big_quiet_op; go_big_quiet_on)
    (refine wpG_op rfl rfl rfl ?_; intro K hK; go_big_quiet_op; go_big_quiet_on)
    clear hone hw4
    refine wpG_nil ?_
    intro u6 E2'
    have EX5 := Lib.hid E2'
    clear E2'
    have E0 := Lib.hid EX5.out
    clear EX5 E1
    go_upto_region 4 with (fail)
    go_loopw [15] (fun iv u => ∃ i : Nat, i ≤ n ∧ iv = .int .i64 (i : Int) ∧ Hid ((∀ j, j < i → mayOut (l.getD j noOut) = true) ∧ EnvX w u [])) (fun iv _ => n - (intOf iv).toNat)
    case atStart => exact ⟨0, by omega, rfl, (fun j hj => by omega), E0.out⟩
    case round =>
      obtain ⟨i, hi, rfl, hinv⟩ := hrel
      have H1 := Lib.hid hinv.out.1
      have EK := Lib.hid hinv.out.2
      clear hinv E0
      by_cases hlt : i < n
      · have C4 : Hid (decide ((i : Int) < (n : Int)) = true) := decide_eq_true (by omega)
        have HI := Lib.hid hlt
        have hil : i < l.length := by rw [HLN.out]; exact hlt
        obtain ⟨ad, rfl, -, hld⟩ := HAA.out.loads hil
        have HLD := Lib.hid hld
        have HBAD : Hid (mayOut (l.getD i noOut) = false → mayOutsX l = false) := mayOuts_bad hil
        have HGO : Hid (mayOut (l.getD i noOut) = true → ∀ q, q < i + 1 → mayOut (l.getD q noOut) = true) := fun hm q hq => by
          rcases Nat.lt_or_ge q i with h | h
          · exact H1.out q h
          · rw [show q = i by omega]; exact hm
        clear hld hil hlt
        generalize l.getD i noOut = ox at *
        go_upto_region 4 with (fail)
        refine wp_region_Hx (w0 := w) [0] [] rfl EK.out ?_
        refine lexH_phase [0] [] ?_
        have hw21 : EnvX w _ [] := EK.out
        have hone := @EnvC.one _ _ _ hw21
        (refine wpG_val (v := .bool true) rfl rfl (fun u hu => ltZ_op u C4.out rfl rfl) ?_ hw21; intro K hK; go_big_quiet_op; go_big_quiet_on)
        clear hone hw21
        refine wpG_nil ?_
        intro u23 E2'
        have EX22 := Lib.hid E2'
        clear E2'
        go_upto_region 5 with (fail)
        refine wp_region_Hx (w0 := w) [0, 1, 2, 3] [] rfl EX22.out ?_
        refine lexH_phase [0, 1] [2, 3] ?_
        have hw24 : EnvX w _ [] := EX22.out
        have hone := @EnvC.one _ _ _ hw24
        (refine wpG_val (v := .pointer (some (ad.add (i * 2)))) rfl rfl (fun u hu => idxSl_op (i := i) Tryd.underlying24 aggOut.size HI.out u rfl rfl) ?_ hw24; intro K hK; go_big_quiet_op; go_big_quiet_on)
        (refine wpG_val (v := outV ox) rfl rfl (fun u hu => load_any_op u (HLD.out u (EnvX.sub hu (fun _ h => by cases h))).1 rfl) ?_ hw24; intro K hK; go_big_quiet_op; go_big_quiet_on)
        clear hone hw24
        refine wpG_nil ?_
        refine (hOp_fresh (R := fun x N => ∃ g, x = .pointer (some ⟨g, 0, none⟩) ∧ N = [(g, Obj.cells (outA noOut) 48 (0, 0))]) (M0 := []) rfl rfl (fun _ h => h) (fun u hu => FAt_new (new_out _) u) ?_)
        rintro _ _ ⟨gi, rfl, rfl⟩ hf he25; intro K' hK'; go_big_quiet_op; go_big_quiet_on
        have HG6 := Lib.hid (hf _ (List.mem_singleton.2 rfl))
        clear hf
        change lexH _ _ _ _ _ _ [(gi, Obj.cells (outA noOut) 48 (0, 0))]
        refine (hOp_store rfl (gi) (outA ox) rfl rfl HG6.out.1 48 ((outA noOut)) (List.Mem.head _) (infoOut _ (outA_size _)) rfl (outA_one _) [(gi, Obj.cells (outA ox) 48 (0, 0))] (List.forall_mem_cons.2 ⟨.inl rfl, fun _ h => by cases h⟩) ?_)
        intro he26
        intro u28 E2'
        have EX27 := Lib.hid E2'
        clear E2'
        by_cases c0 : ox.v < 1
        · have C0 : Hid (decide (ox.v < 1) = true) := decide_eq_true c0
          have HF : Hid (mayOutsX l = false) := HBAD.out (decide_eq_false (by omega))
          clear c0
          go_upto_region 6 with (fail)
          refine wp_region_Hx (w0 := w) [0, 1, 2, 3, 4, 5, 6, 7, 8, 9, 10, 11, 12, 13, 14, 15, 16, 17] [(gi, Obj.cells (outA ox) 48 (0, 0))] rfl EX27.out ?_
          refine lexH_phase [0, 1, 2, 3, 4, 5, 6, 7, 8, 9, 10, 11, 12, 13, 14, 15, 16, 17] [] ?_
          have hw29 : EnvX w _ [(gi, Obj.cells (outA ox) 48 (0, 0))] := EX27.out
          have hone := @EnvC.one _ _ _ hw29
          (refine wpG_val (v := .pointer (some ⟨gi, 0, none⟩)) rfl rfl (fun u hu => fieldOut_op (k := 0) (off := 0) (ad := ⟨gi, 0, none⟩) rfl u rfl) ?_ hw29; intro K hK; go_big_quiet_op; go_big_quiet_on)
          (refine wpG_val (v := .int .i64 ox.v) rfl rfl (fun u hu => load_any_op u (box_out_v hu (List.Mem.head _)) rfl) ?_ hw29; intro K hK; go_big_quiet_op; go_big_quiet_on)
          (refine wpG_val (v := .bool true) rfl rfl (fun u hu => ltZ_op u C0.out rfl rfl) ?_ hw29; intro K hK; go_big_quiet_op; go_big_quiet_on)
          (refine wpG_op rfl rfl rfl ?_; intro K hK; go_big_quiet_op; go_big_quiet_on)
          iterate 3 (refine wpG_skip rfl rfl ?_ hw29; intro K hK; go_big_quiet_op; go_big_quiet_on)
          iterate 2 (refine wpG_op rfl rfl rfl ?_; intro K hK; go_big_quiet_op; go_big_quiet_on)
          iterate 3 (refine wpG_skip rfl rfl ?_ hw29; intro K hK; go_big_quiet_op; go_big_quiet_on)
          iterate 2 (refine wpG_op rfl rfl rfl ?_; intro K hK; go_big_quiet_op; go_big_quiet_on)
          iterate 3 (refine wpG_skip rfl rfl ?_ hw29; intro K hK; go_big_quiet_op; go_big_quiet_on)
          (refine wpG_op rfl rfl rfl ?_; intro K hK; go_big_quiet_op; go_big_quiet_on)
          clear hone hw29
          refine wpG_nil ?_
          intro u31 E2'
          have EX30 := Lib.hid E2'
          clear E2'
          have HBE := Lib.hid (EnvX.bel EX30.out)
          go_wp2
          go_ret
          exact ⟨by rw [HF.out]; first | done | rfl, HBE.out⟩
        have C0 : Hid (decide (ox.v < 1) = false) := decide_eq_false c0
        by_cases c1 : 1099511627776 < ox.v
        · have C1 : Hid (decide (1099511627776 < ox.v) = true) := decide_eq_true c1
          have HF : Hid (mayOutsX l = false) := HBAD.out (decide_eq_false (by omega))
          clear c0 c1
          go_upto_region 6 with (fail)
          refine wp_region_Hx (w0 := w) [0, 1, 2, 3, 4, 5, 6, 7, 8, 9, 10, 11, 12, 13, 14, 15, 16, 17] [(gi, Obj.cells (outA ox) 48 (0, 0))] rfl EX27.out ?_
          refine lexH_phase [0, 1, 2, 3, 4, 5, 6, 7, 8, 9, 10, 11, 12, 13, 14, 15, 16, 17] [] ?_
          have hw29 : EnvX w _ [(gi, Obj.cells (outA ox) 48 (0, 0))] := EX27.out
          have hone := @EnvC.one _ _ _ hw29
          (refine wpG_val (v := .pointer (some ⟨gi, 0, none⟩)) rfl rfl (fun u hu => fieldOut_op (k := 0) (off := 0) (ad := ⟨gi, 0, none⟩) rfl u rfl) ?_ hw29; intro K hK; go_big_quiet_op; go_big_quiet_on)
          (refine wpG_val (v := .int .i64 ox.v) rfl rfl (fun u hu => load_any_op u (box_out_v hu (List.Mem.head _)) rfl) ?_ hw29; intro K hK; go_big_quiet_op; go_big_quiet_on)
          (refine wpG_val (v := .bool false) rfl rfl (fun u hu => ltZ_op u C0.out rfl rfl) ?_ hw29; intro K hK; go_big_quiet_op; go_big_quiet_on)
          (refine wpG_op rfl rfl rfl ?_; intro K hK; go_big_quiet_op; go_big_quiet_on)
          (refine wpG_val (v := .pointer (some ⟨gi, 0, none⟩)) rfl rfl (fun u hu => fieldOut_op (k := 0) (off := 0) (ad := ⟨gi, 0, none⟩) rfl u rfl) ?_ hw29; intro K hK; go_big_quiet_op; go_big_quiet_on)
          (refine wpG_val (v := .int .i64 ox.v) rfl rfl (fun u hu => load_any_op u (box_out_v hu (List.Mem.head _)) rfl) ?_ hw29; intro K hK; go_big_quiet_op; go_big_quiet_on)
          (refine wpG_val (v := .bool true) rfl rfl (fun u hu => gtZ_op u C1.out rfl rfl) ?_ hw29; intro K hK; go_big_quiet_op; go_big_quiet_on)
          iterate 2 (refine wpG_op rfl rfl rfl ?_; intro K hK; go_big_quiet_op; go_big_quiet_on)
          iterate 3 (refine wpG_skip rfl rfl ?_ hw29; intro K hK; go_big_quiet_op; go_big_quiet_on)
          iterate 2 (refine wpG_op rfl rfl rfl ?_; intro K hK; go_big_quiet_op; go_big_quiet_on)
          iterate 3 (refine wpG_skip rfl rfl ?_ hw29; intro K hK; go_big_quiet_op; go_big_quiet_on)
          (refine wpG_op rfl rfl rfl ?_; intro K hK; go_big_quiet_op; go_big_quiet_on)
          clear hone hw29
          refine wpG_nil ?_
          intro u31 E2'
          have EX30 := Lib.hid E2'
          clear E2'
          have HBE := Lib.hid (EnvX.bel EX30.out)
          go_wp2
          go_ret
          exact ⟨by rw [HF.out]; first | done | rfl, HBE.out⟩
        have C1 : Hid (decide (1099511627776 < ox.v) = false) := decide_eq_false c1
        by_cases c2 : ox.to < 0
        · have C2 : Hid (decide (ox.to < 0) = true) := decide_eq_true c2
          have HF : Hid (mayOutsX l = false) := HBAD.out (decide_eq_false (by omega))
          clear c0 c1 c2
          go_upto_region 6 with (fail)
          refine wp_region_Hx (w0 := w) [0, 1, 2, 3, 4, 5, 6, 7, 8, 9, 10, 11, 12, 13, 14, 15, 16, 17] [(gi, Obj.cells (outA ox) 48 (0, 0))] rfl EX27.out ?_
          refine lexH_phase [0, 1, 2, 3, 4, 5, 6, 7, 8, 9, 10, 11, 12, 13, 14, 15, 16, 17] [] ?_
          have hw29 : EnvX w _ [(gi, Obj.cells (outA ox) 48 (0, 0))] := EX27.out
          have hone := @EnvC.one _ _ _ hw29
          (refine wpG_val (v := .pointer (some ⟨gi, 0, none⟩)) rfl rfl (fun u hu => fieldOut_op (k := 0) (off := 0) (ad := ⟨gi, 0, none⟩) rfl u rfl) ?_ hw29; intro K hK; go_big_quiet_op; go_big_quiet_on)
          (refine wpG_val (v := .int .i64 ox.v) rfl rfl (fun u hu => load_any_op u (box_out_v hu (List.Mem.head _)) rfl) ?_ hw29; intro K hK; go_big_quiet_op; go_big_quiet_on)
          (refine wpG_val (v := .bool false) rfl rfl (fun u hu => ltZ_op u C0.out rfl rfl) ?_ hw29; intro K hK; go_big_quiet_op; go_big_quiet_on)
          (refine wpG_op rfl rfl rfl ?_; intro K hK; go_big_quiet_op; go_big_quiet_on)
          (refine wpG_val (v := .pointer (some ⟨gi, 0, none⟩)) rfl rfl (fun u hu => fieldOut_op (k := 0) (off := 0) (ad := ⟨gi, 0, none⟩) rfl u rfl) ?_ hw29; intro K hK; go_big_quiet_op; go_big_quiet_on)
          (refine wpG_val (v := .int .i64 ox.v) rfl rfl (fun u hu => load_any_op u (box_out_v hu (List.Mem.head _)) rfl) ?_ hw29; intro K hK; go_big_quiet_op; go_big_quiet_on)
          (refine wpG_val (v := .bool false) rfl rfl (fun u hu => gtZ_op u C1.out rfl rfl) ?_ hw29; intro K hK; go_big_quiet_op; go_big_quiet_on)
          iterate 2 (refine wpG_op rfl rfl rfl ?_; intro K hK; go_big_quiet_op; go_big_quiet_on)
          (refine wpG_val (v := .pointer (some ⟨gi, 1, none⟩)) rfl rfl (fun u hu => fieldOut_op (k := 1) (off := 1) (ad := ⟨gi, 0, none⟩) rfl u rfl) ?_ hw29; intro K hK; go_big_quiet_op; go_big_quiet_on)
          (refine wpG_val (v := .int .i64 ox.to) rfl rfl (fun u hu => load_any_op u (box_out_to hu (List.Mem.head _)) rfl) ?_ hw29; intro K hK; go_big_quiet_op; go_big_quiet_on)
          (refine wpG_val (v := .bool true) rfl rfl (fun u hu => ltZ_op u C2.out rfl rfl) ?_ hw29; intro K hK; go_big_quiet_op; go_big_quiet_on)
          iterate 2 (refine wpG_op rfl rfl rfl ?_; intro K hK; go_big_quiet_op; go_big_quiet_on)
          iterate 3 (refine wpG_skip rfl rfl ?_ hw29; intro K hK; go_big_quiet_op; go_big_quiet_on)
          (refine wpG_op rfl rfl rfl ?_; intro K hK; go_big_quiet_op; go_big_quiet_on)
          clear hone hw29
          refine wpG_nil ?_
          intro u31 E2'
          have EX30 := Lib.hid E2'
          clear E2'
          have HBE := Lib.hid (EnvX.bel EX30.out)
          go_wp2
          go_ret
          exact ⟨by rw [HF.out]; first | done | rfl, HBE.out⟩
        have C2 : Hid (decide (ox.to < 0) = false) := decide_eq_false c2
        by_cases c3 : 255 < ox.to
        · have C3 : Hid (decide (255 < ox.to) = true) := decide_eq_true c3
          have HF : Hid (mayOutsX l = false) := HBAD.out (decide_eq_false (by omega))
          clear c0 c1 c2 c3
          go_upto_region 6 with (fail)
          refine wp_region_Hx (w0 := w) [0, 1, 2, 3, 4, 5, 6, 7, 8, 9, 10, 11, 12, 13, 14, 15, 16, 17] [(gi, Obj.cells (outA ox) 48 (0, 0))] rfl EX27.out ?_
          refine lexH_phase [0, 1, 2, 3, 4, 5, 6, 7, 8, 9, 10, 11, 12, 13, 14, 15, 16, 17] [] ?_
          have hw29 : EnvX w _ [(gi, Obj.cells (outA ox) 48 (0, 0))] := EX27.out
          have hone := @EnvC.one _ _ _ hw29
          (refine wpG_val (v := .pointer (some ⟨gi, 0, none⟩)) rfl rfl (fun u hu => fieldOut_op (k := 0) (off := 0) (ad := ⟨gi, 0, none⟩) rfl u rfl) ?_ hw29; intro K hK; go_big_quiet_op; go_big_quiet_on)
          (refine wpG_val (v := .int .i64 ox.v) rfl rfl (fun u hu => load_any_op u (box_out_v hu (List.Mem.head _)) rfl) ?_ hw29; intro K hK; go_big_quiet_op; go_big_quiet_on)
          (refine wpG_val (v := .bool false) rfl rfl (fun u hu => ltZ_op u C0.out rfl rfl) ?_ hw29; intro K hK; go_big_quiet_op; go_big_quiet_on)
          (refine wpG_op rfl rfl rfl ?_; intro K hK; go_big_quiet_op; go_big_quiet_on)
          (refine wpG_val (v := .pointer (some ⟨gi, 0, none⟩)) rfl rfl (fun u hu => fieldOut_op (k := 0) (off := 0) (ad := ⟨gi, 0, none⟩) rfl u rfl) ?_ hw29; intro K hK; go_big_quiet_op; go_big_quiet_on)
          (refine wpG_val (v := .int .i64 ox.v) rfl rfl (fun u hu => load_any_op u (box_out_v hu (List.Mem.head _)) rfl) ?_ hw29; intro K hK; go_big_quiet_op; go_big_quiet_on)
          (refine wpG_val (v := .bool false) rfl rfl (fun u hu => gtZ_op u C1.out rfl rfl) ?_ hw29; intro K hK; go_big_quiet_op; go_big_quiet_on)
          iterate 2 (refine wpG_op rfl rfl rfl ?_; intro K hK; go_big_quiet_op; go_big_quiet_on)
          (refine wpG_val (v := .pointer (some ⟨gi, 1, none⟩)) rfl rfl (fun u hu => fieldOut_op (k := 1) (off := 1) (ad := ⟨gi, 0, none⟩) rfl u rfl) ?_ hw29; intro K hK; go_big_quiet_op; go_big_quiet_on)
          (refine wpG_val (v := .int .i64 ox.to) rfl rfl (fun u hu => load_any_op u (box_out_to hu (List.Mem.head _)) rfl) ?_ hw29; intro K hK; go_big_quiet_op; go_big_quiet_on)
          (refine wpG_val (v := .bool false) rfl rfl (fun u hu => ltZ_op u C2.out rfl rfl) ?_ hw29; intro K hK; go_big_quiet_op; go_big_quiet_on)
          iterate 2 (refine wpG_op rfl rfl rfl ?_; intro K hK; go_big_quiet_op; go_big_quiet_on)
          (refine wpG_val (v := .pointer (some ⟨gi, 1, none⟩)) rfl rfl (fun u hu => fieldOut_op (k := 1) (off := 1) (ad := ⟨gi, 0, none⟩) rfl u rfl) ?_ hw29; intro K hK; go_big_quiet_op; go_big_quiet_on)
          (refine wpG_val (v := .int .i64 ox.to) rfl rfl (fun u hu => load_any_op u (box_out_to hu (List.Mem.head _)) rfl) ?_ hw29; intro K hK; go_big_quiet_op; go_big_quiet_on)
          (refine wpG_val (v := .bool true) rfl rfl (fun u hu => gtZ_op u C3.out rfl rfl) ?_ hw29; intro K hK; go_big_quiet_op; go_big_quiet_on)
          (refine wpG_op rfl rfl rfl ?_; intro K hK; go_big_quiet_op; go_big_quiet_on)
          clear hone hw29
          refine wpG_nil ?_
          intro u31 E2'
          have EX30 := Lib.hid E2'
          clear E2'
          have HBE := Lib.hid (EnvX.bel EX30.out)
          go_wp2
          go_ret
          exact ⟨by rw [HF.out]; first | done | rfl, HBE.out⟩
        have C3 : Hid (decide (255 < ox.to) = false) := decide_eq_false c3
        have H3 := Lib.hid (HGO.out (decide_eq_true (by omega)))
        clear c0 c1 c2 c3
        go_upto_region 6 with (fail)
        refine wp_region_Hx (w0 := w) [0, 1, 2, 3, 4, 5, 6, 7, 8, 9, 10, 11, 12, 13, 14, 15, 16, 17] [(gi, Obj.cells (outA ox) 48 (0, 0))] rfl EX27.out ?_
        refine lexH_phase [0, 1, 2, 3, 4, 5, 6, 7, 8, 9, 10, 11, 12, 13, 14, 15, 16, 17] [] ?_
        have hw29 : EnvX w _ [(gi, Obj.cells (outA ox) 48 (0, 0))] := EX27.out
        have hone := @EnvC.one _ _ _ hw29
        (refine wpG_val (v := .pointer (some ⟨gi, 0, none⟩)) rfl rfl (fun u hu => fieldOut_op (k := 0) (off := 0) (ad := ⟨gi, 0, none⟩) rfl u rfl) ?_ hw29; intro K hK; go_big_quiet_op; go_big_quiet_on)
        (refine wpG_val (v := .int .i64 ox.v) rfl rfl (fun u hu => load_any_op u (box_out_v hu (List.Mem.head _)) rfl) ?_ hw29; intro K hK; go_big_quiet_op; go_big_quiet_on)
        (refine wpG_val (v := .bool false) rfl rfl (fun u hu => ltZ_op u C0.out rfl rfl) ?_ hw29; intro K hK; go_big_quiet_op; go_big_quiet_on)
        (refine wpG_op rfl rfl rfl ?_; intro K hK; go_big_quiet_op; go_big_quiet_on)
        (refine wpG_val (v := .pointer (some ⟨gi, 0, none⟩)) rfl rfl (fun u hu => fieldOut_op (k := 0) (off := 0) (ad := ⟨gi, 0, none⟩) rfl u rfl) ?_ hw29; intro K hK; go_big_quiet_op; go_big_quiet_on)
        (refine wpG_val (v := .int .i64 ox.v) rfl rfl (fun u hu => load_any_op u (box_out_v hu (List.Mem.head _)) rfl) ?_ hw29; intro K hK; go_big_quiet_op; go_big_quiet_on)
        (refine wpG_val (v := .bool false) rfl rfl (fun u hu => gtZ_op u C1.out rfl rfl) ?_ hw29; intro K hK; go_big_quiet_op; go_big_quiet_on)
        iterate 2 (refine wpG_op rfl rfl rfl ?_; intro K hK; go_big_quiet_op; go_big_quiet_on)
        (refine wpG_val (v := .pointer (some ⟨gi, 1, none⟩)) rfl rfl (fun u hu => fieldOut_op (k := 1) (off := 1) (ad := ⟨gi, 0, none⟩) rfl u rfl) ?_ hw29; intro K hK; go_big_quiet_op; go_big_quiet_on)
        (refine wpG_val (v := .int .i64 ox.to) rfl rfl (fun u hu => load_any_op u (box_out_to hu (List.Mem.head _)) rfl) ?_ hw29; intro K hK; go_big_quiet_op; go_big_quiet_on)
        (refine wpG_val (v := .bool false) rfl rfl (fun u hu => ltZ_op u C2.out rfl rfl) ?_ hw29; intro K hK; go_big_quiet_op; go_big_quiet_on)
        iterate 2 (refine wpG_op rfl rfl rfl ?_; intro K hK; go_big_quiet_op; go_big_quiet_on)
        (refine wpG_val (v := .pointer (some ⟨gi, 1, none⟩)) rfl rfl (fun u hu => fieldOut_op (k := 1) (off := 1) (ad := ⟨gi, 0, none⟩) rfl u rfl) ?_ hw29; intro K hK; go_big_quiet_op; go_big_quiet_on)
        (refine wpG_val (v := .int .i64 ox.to) rfl rfl (fun u hu => load_any_op u (box_out_to hu (List.Mem.head _)) rfl) ?_ hw29; intro K hK; go_big_quiet_op; go_big_quiet_on)
        (refine wpG_val (v := .bool false) rfl rfl (fun u hu => gtZ_op u C3.out rfl rfl) ?_ hw29; intro K hK; go_big_quiet_op; go_big_quiet_on)
        (refine wpG_op rfl rfl rfl ?_; intro K hK; go_big_quiet_op; go_big_quiet_on)
        clear hone hw29
        refine wpG_nil ?_
        intro u31 E2'
        have EX30 := Lib.hid E2'
        clear E2'
        have hii := HI.out
        have hn3 := HN3.out.2
        go_wp2
        go_roundw
        case rel => exact ⟨i + 1, by omega, by go_num, H3.out, EX30.out.sub (fun _ h => by cases h)⟩
        case measure => simp [intOf]; omega
      · obtain rfl : i = n := by omega
        have C4 : Hid (decide ((i : Int) < (i : Int)) = false) := decide_eq_false (by omega)
        have HF : Hid (mayOutsX l = true) := mayOuts_good (by rw [HLN.out]; exact HN3.out) (by rw [HLN.out]; exact H1.out)
        go_upto_region 4 with (fail)
        refine wp_region_Hx (w0 := w) [0] [] rfl EK.out ?_
        refine lexH_phase [0] [] ?_
        have hw121 : EnvX w _ [] := EK.out
        have hone := @EnvC.one _ _ _ hw121
        (refine wpG_val (v := .bool false) rfl rfl (fun u hu => ltZ_op u C4.out rfl rfl) ?_ hw121; intro K hK; go_big_quiet_op; go_big_quiet_on)
        clear hone hw121
        refine wpG_nil ?_
        intro u123 E2'
        have EX122 := Lib.hid E2'
        clear E2'
        have HBE := Lib.hid (EnvX.bel EX122.out)
        go_wp2
        go_ret
        exact ⟨by rw [HF.out]; first | done | rfl, HBE.out⟩
set_option maxRecDepth 20000 in
set_option maxHeartbeats 8000000 in
theorem mayXp_any (r : TxR) (A1 : Option Addr) (n1 c1 : Nat) (A2 : Option Addr) (n2 c2 : Nat) (w : World) (ht : TxOk w ⟨r, A1, n1, c1, A2, n2, c2⟩) :
    Calls Tryd.prog 43 #[txV ⟨r, A1, n1, c1, A2, n2, c2⟩] w fun e w' => e = .returned (.bool (mayX r)) ∧ Below w.heap.size w w' := by
  obtain ⟨b1, hb1⟩ : ∃ b1, mayInsX r.ins = b1 := ⟨_, rfl⟩
  obtain ⟨b2, hb2⟩ : ∃ b2, mayOutsX r.outs = b2 := ⟨_, rfl⟩
  have HI1 : Hid (∀ u, Below w.heap.size w u → Calls Tryd.prog 54 #[.slice A1 n1 c1] u fun e w' => e = .returned (.bool b1) ∧ Below u.heap.size u w') := fun u hu => by
    have h := mayIns_any r.ins A1 n1 c1 u ht.l1 ht.b1.1 ht.b1.2 ht.o1 (ht.m1.up hu)
    rwa [hb1] at h
  have HO1 : Hid (∀ u, Below w.heap.size w u → Calls Tryd.prog 55 #[.slice A2 n2 c2] u fun e w' => e = .returned (.bool b2) ∧ Below u.heap.size u w') := fun u hu => by
    have h := mayOuts_any r.outs A2 n2 c2 u ht.l2 ht.b2.1 ht.b2.2 (ht.m2.up hu)
    rwa [hb2] at h
  have HF : Hid (mayX r = (b1 && b2)) := by show _ = _; rw [mayX_both, hb1, hb2]
  have E1 : Hid (EnvX w (w.alloc (.cells (txA ⟨r, A1, n1, c1, A2, n2, c2⟩) 26)) [(w.heap.size, Obj.cells (txA ⟨r, A1, n1, c1, A2, n2, c2⟩) 26 (0, 0))]) := (EnvX.start w).new _
  clear ht hb1 hb2
  cases b1 with
  | false =>
    unfold txV
    go_enter Tryd.func43, Tryd.ntmps43
    go_upto_region 1 with (fail)
    generalize w.alloc (.cells (txA ⟨r, A1, n1, c1, A2, n2, c2⟩) 26) = W at *
    refine wp_region_Hx (w0 := w) [0, 1, 2, 3, 4, 5, 6, 7, 8] [(w.heap.size, Obj.cells (txA ⟨r, A1, n1, c1, A2, n2, c2⟩) 26 (0, 0))] rfl E1.out ?_
    refine lexH_phase [0, 1, 2, 3, 4, 5, 6, 7, 8] [] ?_
    have hw1 : EnvX w _ [(w.heap.size, Obj.cells (txA ⟨r, A1, n1, c1, A2, n2, c2⟩) 26 (0, 0))] := E1.out
    have hone := @EnvC.one _ _ _ hw1
    (refine wpG_val (v := .pointer (some ⟨w.heap.size, 0, none⟩)) rfl rfl (fun u hu => fieldTx_op (k := 0) (off := 0) (ad := ⟨w.heap.size, 0, none⟩) rfl u rfl) ?_ hw1; intro K hK; go_big_quiet_op; go_big_quiet_on)
    (refine wpG_val (v := .slice A1 n1 c1) rfl rfl (fun u hu => load_any_op u (box_tx_ins hu (List.Mem.head _)) rfl) ?_ hw1; intro K hK; go_big_quiet_op; go_big_quiet_on)
    (refine wpG_call (f := 54) (args := #[.slice A1 n1 c1]) (v := .bool false) rfl rfl rfl Tryd.func54 rfl rfl (fun u hu => HI1.out u (EnvX.bel hu)) ?_ hw1; intro K hK; go_big_quiet_op; go_big_quiet_on)
    (refine wpG_op rfl rfl rfl ?_; intro K hK; go_big_quiet_op; go_big_quiet_on)
    iterate 3 (refine wpG_skip rfl rfl ?_ hw1; intro K hK; go_big_quiet_op; go_big_quiet_on)
    iterate 2 (refine wpG_op rfl rfl rfl ?_; intro K hK; go_big_quiet_op; go_big_quiet_on)
    clear hone hw1
    refine wpG_nil ?_
    intro u3 E2'
    have EX2 := Lib.hid E2'
    clear E2'
    have HBE := Lib.hid (EnvX.bel EX2.out)
    go_wp2
    go_ret
    exact ⟨by rw [HF.out]; first | done | rfl, HBE.out⟩
  | true =>
    cases b2 with
    | false =>
      unfold txV
      go_enter Tryd.func43, Tryd.ntmps43
      go_upto_region 1 with (fail)
      generalize w.alloc (.cells (txA ⟨r, A1, n1, c1, A2, n2, c2⟩) 26) = W at *
      refine wp_region_Hx (w0 := w) [0, 1, 2, 3, 4, 5, 6, 7, 8] [(w.heap.size, Obj.cells (txA ⟨r, A1, n1, c1, A2, n2, c2⟩) 26 (0, 0))] rfl E1.out ?_
      refine lexH_phase [0, 1, 2, 3, 4, 5, 6, 7, 8] [] ?_
      have hw1 : EnvX w _ [(w.heap.size, Obj.cells (txA ⟨r, A1, n1, c1, A2, n2, c2⟩) 26 (0, 0))] := E1.out
      have hone := @EnvC.one _ _ _ hw1
      (refine wpG_val (v := .pointer (some ⟨w.heap.size, 0, none⟩)) rfl rfl (fun u hu => fieldTx_op (k := 0) (off := 0) (ad := ⟨w.heap.size, 0, none⟩) rfl u rfl) ?_ hw1; intro K hK; go_big_quiet_op; go_big_quiet_on)
      (refine wpG_val (v := .slice A1 n1 c1) rfl rfl (fun u hu => load_any_op u (box_tx_ins hu (List.Mem.head _)) rfl) ?_ hw1; intro K hK; go_big_quiet_op; go_big_quiet_on)
      (refine wpG_call (f := 54) (args := #[.slice A1 n1 c1]) (v := .bool true) rfl rfl rfl Tryd.func54 rfl rfl (fun u hu => HI1.out u (EnvX.bel hu)) ?_ hw1; intro K hK; go_big_quiet_op; go_big_quiet_on)
      (refine wpG_op rfl rfl rfl ?_; intro K hK; go_big_quiet_op; go_big_quiet_on)
      (refine wpG_val (v := .pointer (some ⟨w.heap.size, 1, none⟩)) rfl rfl (fun u hu => fieldTx_op (k := 1) (off := 1) (ad := ⟨w.heap.size, 0, none⟩) rfl u rfl) ?_ hw1; intro K hK; go_big_quiet_op; go_big_quiet_on)
      (refine wpG_val (v := .slice A2 n2 c2) rfl rfl (fun u hu => load_any_op u (box_tx_outs hu (List.Mem.head _)) rfl) ?_ hw1; intro K hK; go_big_quiet_op; go_big_quiet_on)
      (refine wpG_call (f := 55) (args := #[.slice A2 n2 c2]) (v := .bool false) rfl rfl rfl Tryd.func55 rfl rfl (fun u hu => HO1.out u (EnvX.bel hu)) ?_ hw1; intro K hK; go_big_quiet_op; go_big_quiet_on)
      iterate 2 (refine wpG_op rfl rfl rfl ?_; intro K hK; go_big_quiet_op; go_big_quiet_on)
      clear hone hw1
      refine wpG_nil ?_
      intro u3 E2'
      have EX2 := Lib.hid E2'
      clear E2'
      have HBE := Lib.hid (EnvX.bel EX2.out)
      go_wp2
      go_ret
      exact ⟨by rw [HF.out]; first | done | rfl, HBE.out⟩
    | true =>
      unfold txV
      go_enter Tryd.func43, Tryd.ntmps43
      go_upto_region 1 with (fail)
      generalize w.alloc (.cells (txA ⟨r, A1, n1, c1, A2, n2, c2⟩) 26) = W at *
      refine wp_region_Hx (w0 := w) [0, 1, 2, 3, 4, 5, 6, 7, 8] [(w.heap.size, Obj.cells (txA ⟨r, A1, n1, c1, A2, n2, c2⟩) 26 (0, 0))] rfl E1.out ?_
      refine lexH_phase [0, 1, 2, 3, 4, 5, 6, 7, 8] [] ?_
      have hw1 : EnvX w _ [(w.heap.size, Obj.cells (txA ⟨r, A1, n1, c1, A2, n2, c2⟩) 26 (0, 0))] := E1.out
      have hone := @EnvC.one _ _ _ hw1
      (refine wpG_val (v := .pointer (some ⟨w.heap.size, 0, none⟩)) rfl rfl (fun u hu => fieldTx_op (k := 0) (off := 0) (ad := ⟨w.heap.size, 0, none⟩) rfl u rfl) ?_ hw1; intro K hK; go_big_quiet_op; go_big_quiet_on)
      (refine wpG_val (v := .slice A1 n1 c1) rfl rfl (fun u hu => load_any_op u (box_tx_ins hu (List.Mem.head _)) rfl) ?_ hw1; intro K hK; go_big_quiet_op; go_big_quiet_on)
      (refine wpG_call (f := 54) (args := #[.slice A1 n1 c1]) (v := .bool true) rfl rfl rfl Tryd.func54 rfl rfl (fun u hu => HI1.out u (EnvX.bel hu)) ?_ hw1; intro K hK; go_big_quiet_op; go_big_quiet_on)
      (refine wpG_op rfl rfl rfl ?_; intro K hK; go_big_quiet_op; go_big_quiet_on)
      (refine wpG_val (v := .pointer (some ⟨w.heap.size, 1, none⟩)) rfl rfl (fun u hu => fieldTx_op (k := 1) (off := 1) (ad := ⟨w.heap.size, 0, none⟩) rfl u rfl) ?_ hw1; intro K hK; go_big_quiet_op; go_big_quiet_on)
      (refine wpG_val (v := .slice A2 n2 c2) rfl rfl (fun u hu => load_any_op u (box_tx_outs hu (List.Mem.head _)) rfl) ?_ hw1; intro K hK; go_big_quiet_op; go_big_quiet_on)
      (refine wpG_call (f := 55) (args := #[.slice A2 n2 c2]) (v := .bool true) rfl rfl rfl Tryd.func55 rfl rfl (fun u hu => HO1.out u (EnvX.bel hu)) ?_ hw1; intro K hK; go_big_quiet_op; go_big_quiet_on)
      iterate 2 (refine wpG_op rfl rfl rfl ?_; intro K hK; go_big_quiet_op; go_big_quiet_on)
      clear hone hw1
      refine wpG_nil ?_
      intro u3 E2'
      have EX2 := Lib.hid E2'
      clear E2'
      have HBE := Lib.hid (EnvX.bel EX2.out)
      go_wp2
      go_ret
      exact ⟨by rw [HF.out]; first | done | rfl, HBE.out⟩
theorem mayP_any (t : TxM) (w : World) (ht : TxOk w t) : Calls Tryd.prog 43 #[txV t] w fun e w' => e = .returned (.bool (mayX t.r)) ∧ Below w.heap.size w w' := by
  obtain ⟨r, A1, n1, c1, A2, n2, c2⟩ := t
  exact mayXp_any r A1 n1 c1 A2 n2 c2 w ht
end Go.Proofs.YtabhhbdbkeeblaaDoor
