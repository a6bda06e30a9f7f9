/-
  PROVED: the law stepladderlaw10.PurseFinds answers true for every input, and leaves its arguments as they were.
  Conditions: the two package-level tables of package sha hold at the call what their initialisers lay; the card ties that to the text of the program (a pruned copy of the project: the packages that the roots of this seat load).
-/
import Derived.Test.YtabhhbdbkeeblaaDoorZp
namespace Go.Proofs.YtabhhbdbkeeblaaDoor
set_option maxRecDepth 8000
open Go.ChangeShapes Go.WideShapes Go.ChangeAt Go.RowKit Go.Deep
section
variable {H : Type} {enc : TypeId × Value → H} {W : World} {base : Nat} {spare : Nat → Bool} {held : Bool} {fuel : Nat} {cs : List Value} {x : DataW H × List MemPlace}
end
section
variable {H : Type} {enc : TypeId × Value → H} {W : World} {base : Nat} {v : Value} {d : DataW H} {p : List MemPlace}
theorem open_in (hok : Value.okWide Tryd.prog W .any base 42 v) (h : DataW.Trod enc Tryd.prog W 0 (fun _ => true) true 42 v d p) : ∃ t : InR, v = inV t ∧ okIn t := by
  obtain ⟨cs, rfl, hsz, _⟩ : ∃ cs, v = .agg cs ∧ cs.size = Tryd.prog.cellsOf 42 ∧ Row.okWide Tryd.prog W .any base 42 cs := by
    simpa [Value.okWide, Tryd.underlying42] using hok
  obtain ⟨fuel, hf⟩ := h
  obtain ⟨t, ht, hc⟩ := in_cells hf
  refine ⟨t, ?_, ht⟩
  have : cs.toList = inC t := hc
  unfold inV inA
  rw [← this]
end
/-- What nothing spends, as a value and as it reads. -/
def zeroN : Value := .agg (inA noIn)
def zeroND {H : Type} : DataW H := .agg [.agg (List.replicate 32 (.lit (.int .u8 0))), .lit (.int .i64 0)]
open Go.RowKit
set_option maxRecDepth 20000 in
set_option maxHeartbeats 8000000 in
theorem law_finds_many (H : PurseC) (p : List CoinR) (x : InR) (i : Int) (A : Option Addr) (n c : Nat) (w : World) (hl : p.length = n) (hnc : n ≤ c) (hcm : c ≤ maxLen) (hI : okP p) (hA : CoinsIn w w.heap.size A p) (hx : okIn x) (ht : Tables w) (k : 60 < n) :
    Calls Tryd.prog 8 #[.slice A n c, inV x, .int .i64 i] w fun e w' => e = .returned (.bool true) ∧ Below w.heap.size w w' := by
  have HT := Lib.hid ht
  have HH := Lib.hid H
  have HN63 : Hid (n < 9223372036854775808) := by show _ < _; unfold maxLen at hcm; omega
  have HL := Lib.hid hl
  have HNC := Lib.hid (And.intro hnc hcm)
  have HPP := Lib.hid hI
  have HAA : Hid (CoinsIn w w.heap.size A p) := hA
  have HX := Lib.hid hx
  have HXL : Hid (lenI x) := hx.len
  have HAW : Hid (∀ u, EnvX w u [] → Calls Tryd.prog 9 #[] u fun e w' => e = .returned (.bool true) ∧ Below u.heap.size u w') := fun u hu => pawake_any H u (ht.below (EnvX.bel hu))
  have E1 : Hid (EnvX w (w.alloc (.cells (inA x) 42)) [(w.heap.size, Obj.cells (inA x) 42 (0, 0))]) := (EnvX.start w).new _
  clear ht H hl hnc hcm hI hA hx
  have D60 : Hid (decide ((60 : Int) < (n : Int)) = true) := decide_eq_true (by omega)
  clear k
  unfold inV
  go_enter Tryd.func8, Tryd.ntmps8
  go_upto_region 1 with (fail)
  generalize w.alloc (.cells (inA x) 42) = W at *
  refine wp_region_Hx (w0 := w) [0, 1] [(w.heap.size, Obj.cells (inA x) 42 (0, 0))] rfl E1.out ?_
  refine lexH_phase [0, 1] [] ?_
  have hw1 : EnvX w _ [(w.heap.size, Obj.cells (inA x) 42 (0, 0))] := E1.out
  have hone := @EnvC.one _ _ _ hw1
  (refine wpG_call (f := 9) (args := #[]) (v := .bool true) rfl rfl rfl Tryd.func9 rfl rfl (fun u hu => HAW.out u (EnvX.sub hu (fun _ h => by cases h))) ?_ hw1; intro K hK; go_big_quiet_op; go_big_quiet_on)
  (refine wpG_op rfl rfl rfl ?_; intro K hK; go_big_quiet_op; go_big_quiet_on)
  clear hone hw1
  refine wpG_nil ?_
  intro u3 E2'
  have EX2 := Lib.hid E2'
  clear E2'
  go_upto_region 2 with (fail)
  refine wp_region_Hx (w0 := w) [0, 1, 2, 3, 4, 5, 6] [(w.heap.size, Obj.cells (inA x) 42 (0, 0))] rfl EX2.out ?_
  refine lexH_phase [0, 1, 2, 3, 4, 5, 6] [] ?_
  have hw4 : EnvX w _ [(w.heap.size, Obj.cells (inA x) 42 (0, 0))] := EX2.out
  have hone := @EnvC.one _ _ _ hw4
  iterate 4 (refine wpG_op rfl rfl rfl ?_; intro K hK; go_big_quiet_op; go_big_quiet_on)
  (refine wpG_val (v := .int .i64 (n : Int)) rfl rfl (fun u hu => len_op Tryd.underlying22 HN63.out u rfl) ?_ hw4; intro K hK; go_big_quiet_op; go_big_quiet_on)
  (refine wpG_val (v := .bool true) rfl rfl (fun u hu => gtZ_op u D60.out rfl rfl) ?_ hw4; intro K hK; go_big_quiet_op; go_big_quiet_on)
  (refine wpG_op rfl rfl rfl ?_; intro K hK; go_big_quiet_op; go_big_quiet_on)
  clear hone hw4
  refine wpG_nil ?_
  intro u6 E2'
  have EX5 := Lib.hid E2'
  clear E2'
  go_upto_region 3 with (fail)
  refine wp_region_Hx (w0 := w) [0, 1] [(w.heap.size, Obj.cells (inA x) 42 (0, 0))] rfl EX5.out ?_
  refine lexH_phase [0, 1] [] ?_
  have hw7 : EnvX w _ [(w.heap.size, Obj.cells (inA x) 42 (0, 0))] := EX5.out
  have hone := @EnvC.one _ _ _ hw7
  iterate 2 (refine wpG_op rfl rfl rfl ?_; intro K hK; go_big_quiet_op; go_big_quiet_on)
  clear hone hw7
  refine wpG_nil ?_
  intro u9 E2'
  have EX8 := Lib.hid E2'
  clear E2'
  have HBE := Lib.hid (EnvX.bel EX8.out)
  go_wp2
  go_ret
  exact ⟨rfl, HBE.out⟩
set_option maxRecDepth 20000 in
set_option maxHeartbeats 8000000 in
theorem law_finds_few (H : PurseC) (p : List CoinR) (x : InR) (i : Int) (A : Option Addr) (n c : Nat) (w : World) (hl : p.length = n) (hnc : n ≤ c) (hcm : c ≤ maxLen) (hI : okP p) (hA : CoinsIn w w.heap.size A p) (hx : okIn x) (ht : Tables w) (k : ¬ 60 < n) :
    Calls Tryd.prog 8 #[.slice A n c, inV x, .int .i64 i] w fun e w' => e = .returned (.bool true) ∧ Below w.heap.size w w' := by
  have HT := Lib.hid ht
  have HH := Lib.hid H
  have HN63 : Hid (n < 9223372036854775808) := by show _ < _; unfold maxLen at hcm; omega
  have HL := Lib.hid hl
  have HNC := Lib.hid (And.intro hnc hcm)
  have HPP := Lib.hid hI
  have HAA : Hid (CoinsIn w w.heap.size A p) := hA
  have HX := Lib.hid hx
  have HXL : Hid (lenI x) := hx.len
  have HAW : Hid (∀ u, EnvX w u [] → Calls Tryd.prog 9 #[] u fun e w' => e = .returned (.bool true) ∧ Below u.heap.size u w') := fun u hu => pawake_any H u (ht.below (EnvX.bel hu))
  have E1 : Hid (EnvX w (w.alloc (.cells (inA x) 42)) [(w.heap.size, Obj.cells (inA x) 42 (0, 0))]) := (EnvX.start w).new _
  clear ht H hl hnc hcm hI hA hx
  have D60 : Hid (decide ((60 : Int) < (n : Int)) = false) := decide_eq_false (by omega)
  have HN60 : Hid (n ≤ 60) := by show _ ≤ _; omega
  have HFD : Hid (∀ u, Below w.heap.size w u → Calls Tryd.prog 18 #[.slice A n c, inV x] u fun e w' => e = .returned (.int .i64 (findP p x)) ∧ Below u.heap.size u w') := fun u hu => HH.out.find p A n c x u HL.out (by have := HN60.out; omega) HNC.out.1 HNC.out.2 HPP.out (CellsIn.up HAA.out hu) HX.out (HT.out.below hu)
  have HMY : Hid (∀ u, Below w.heap.size w u → Calls Tryd.prog 20 #[.slice A n c] u fun e w' => e = .returned (.bool (mayP p)) ∧ Below u.heap.size u w') := fun u hu => HH.out.may p A n c u HL.out HNC.out.1 HNC.out.2 HPP.out (CellsIn.up HAA.out hu) (HT.out.below hu)
  have hfc : (findP p x = -1 ∧ ∀ j, j < n → keyC (p.getD j noC0) ≠ x) ∨ ∃ k, k < n ∧ findP p x = (k : Int) ∧ keyC (p.getD k noC0) = x ∧ ∀ j, j < k → keyC (p.getD j noC0) ≠ x := by
    rcases findP_cases p x with ⟨h1, h2⟩ | ⟨k, hk, h1, h2, h3⟩
    · exact .inl ⟨h1, fun j hj => h2 _ (by rw [List.getD_eq_getElem?_getD, List.getElem?_eq_getElem (by rw [HL.out]; exact hj)]; exact List.getElem_mem _)⟩
    · exact .inr ⟨k, by rw [← HL.out]; exact hk, h1, by rw [getD_dC hk]; exact h2, fun j hj => by rw [getD_dC (by omega)]; exact h3 j hj⟩
  obtain ⟨f, hf⟩ : ∃ f, findP p x = f := ⟨_, rfl⟩
  rw [hf] at HFD hfc
  have HFC := Lib.hid hfc
  clear k hf hfc
  unfold inV
  go_enter Tryd.func8, Tryd.ntmps8
  go_upto_region 1 with (fail)
  generalize w.alloc (.cells (inA x) 42) = W at *
  refine wp_region_Hx (w0 := w) [0, 1] [(w.heap.size, Obj.cells (inA x) 42 (0, 0))] rfl E1.out ?_
  refine lexH_phase [0, 1] [] ?_
  have hw1 : EnvX w _ [(w.heap.size, Obj.cells (inA x) 42 (0, 0))] := E1.out
  have hone := @EnvC.one _ _ _ hw1
  (refine wpG_call (f := 9) (args := #[]) (v := .bool true) rfl rfl rfl Tryd.func9 rfl rfl (fun u hu => HAW.out u (EnvX.sub hu (fun _ h => by cases h))) ?_ hw1; intro K hK; go_big_quiet_op; go_big_quiet_on)
  (refine wpG_op rfl rfl rfl ?_; intro K hK; go_big_quiet_op; go_big_quiet_on)
  clear hone hw1
  refine wpG_nil ?_
  intro u3 E2'
  have EX2 := Lib.hid E2'
  clear E2'
  go_upto_region 2 with (fail)
  refine wp_region_Hx (w0 := w) [0, 1, 2, 3, 4, 5, 6] [(w.heap.size, Obj.cells (inA x) 42 (0, 0))] rfl EX2.out ?_
  refine lexH_phase [0, 1, 2, 3, 4, 5, 6] [] ?_
  have hw4 : EnvX w _ [(w.heap.size, Obj.cells (inA x) 42 (0, 0))] := EX2.out
  have hone := @EnvC.one _ _ _ hw4
  iterate 4 (refine wpG_op rfl rfl rfl ?_; intro K hK; go_big_quiet_op; go_big_quiet_on)
  (refine wpG_val (v := .int .i64 (n : Int)) rfl rfl (fun u hu => len_op Tryd.underlying22 HN63.out u rfl) ?_ hw4; intro K hK; go_big_quiet_op; go_big_quiet_on)
  (refine wpG_val (v := .bool false) rfl rfl (fun u hu => gtZ_op u D60.out rfl rfl) ?_ hw4; intro K hK; go_big_quiet_op; go_big_quiet_on)
  (refine wpG_op rfl rfl rfl ?_; intro K hK; go_big_quiet_op; go_big_quiet_on)
  clear hone hw4
  refine wpG_nil ?_
  intro u6 E2'
  have EX5 := Lib.hid E2'
  clear E2'
  go_upto_region 4 with (fail)
  refine wp_region_Hx (w0 := w) [0, 1, 2, 3] [(w.heap.size, Obj.cells (inA x) 42 (0, 0))] rfl EX5.out ?_
  refine lexH_phase [0, 1, 2, 3] [] ?_
  have hw7 : EnvX w _ [(w.heap.size, Obj.cells (inA x) 42 (0, 0))] := EX5.out
  have hone := @EnvC.one _ _ _ hw7
  (refine wpG_op rfl rfl rfl ?_; intro K hK; go_big_quiet_op; go_big_quiet_on)
  (refine wpG_val (v := inV x) rfl rfl (fun u hu => load_any_op u (box_in hu (List.Mem.head _) HXL.out) rfl) ?_ hw7; intro K hK; go_big_quiet_op; go_big_quiet_on)
  (refine wpG_call (f := 18) (args := #[.slice A n c, inV x]) (v := .int .i64 f) rfl rfl rfl Tryd.func18 rfl rfl (fun u hu => HFD.out u (EnvX.bel hu)) ?_ hw7; intro K hK; go_big_quiet_op; go_big_quiet_on)
  (refine wpG_op rfl rfl rfl ?_; intro K hK; go_big_quiet_op; go_big_quiet_on)
  clear hone hw7
  refine wpG_nil ?_
  intro u9 E2'
  have EX8 := Lib.hid E2'
  clear E2'
  have HB1 : Hid (decide (f < -1) = false) := decide_eq_false (by rcases HFC.out with ⟨h, _⟩ | ⟨k, _, h, _⟩ <;> omega)
  have HB2 : Hid (decide ((n : Int) ≤ f) = false) := decide_eq_false (by rcases HFC.out with ⟨h, _⟩ | ⟨k, h0, h, _⟩ <;> omega)
  rcases HFC.out with ⟨rfl, hno⟩ | ⟨k, hk, rfl, hke, hkn⟩
  · have HB3 : Hid (decide ((0 : Int) ≤ -1) = false) := decide_eq_false (by decide)
    have HBE4 := Lib.hid hno
    clear HFC hno
    go_upto_region 5 with (fail)
    refine wp_region_H (w0 := w) [(w.heap.size, Obj.cells (inA x) 42 (0, 0))] (by kernel_rfl) EX8.out ?_
    refine anyH_phase [0, 1, 2, 3, 4, 5, 6, 7, 8, 9, 10, 11, 12, 13, 14, 15, 16, 17, 18, 19, 20] 0 rfl ⟨_, (EnvX.drew EX8.out)⟩ (by kernel_rfl) ?_
    have hw10 : EnvX w _ [(w.heap.size, Obj.cells (inA x) 42 (0, 0))] := (EnvX.drew EX8.out)
    have hone := @EnvC.one _ _ _ hw10
    (refine wpG_op rfl rfl rfl ?_; intro K hK; go_big_quiet_op; go_big_quiet_on)
    (refine wpG_val (v := .bool false) rfl rfl (fun u hu => ltZ_op u HB1.out rfl rfl) ?_ hw10; intro K hK; go_big_quiet_op; go_big_quiet_on)
    iterate 3 (refine wpG_op rfl rfl rfl ?_; intro K hK; go_big_quiet_op; go_big_quiet_on)
    (refine wpG_val (v := .int .i64 (n : Int)) rfl rfl (fun u hu => len_op Tryd.underlying22 HN63.out u rfl) ?_ hw10; intro K hK; go_big_quiet_op; go_big_quiet_on)
    (refine wpG_val (v := .bool false) rfl rfl (fun u hu => geZ_op u HB2.out rfl rfl) ?_ hw10; intro K hK; go_big_quiet_op; go_big_quiet_on)
    iterate 3 (refine wpG_op rfl rfl rfl ?_; intro K hK; go_big_quiet_op; go_big_quiet_on)
    (refine wpG_val (v := .bool false) rfl rfl (fun u hu => geZ_op u HB3.out rfl rfl) ?_ hw10; intro K hK; go_big_quiet_op; go_big_quiet_on)
    (refine wpG_op rfl rfl rfl ?_; intro K hK; go_big_quiet_op; go_big_quiet_on)
    iterate 7 (refine wpG_skip rfl rfl ?_ hw10; intro K hK; go_big_quiet_op; go_big_quiet_on)
    iterate 2 (refine wpG_op rfl rfl rfl ?_; intro K hK; go_big_quiet_op; go_big_quiet_on)
    clear hone hw10
    refine wpG_nil ?_
    refine anyH_done (by kernel_rfl) ?_
    intro u12 E2'
    have EX11 := Lib.hid E2'
    clear E2'
    go_upto_region 7 with (fail)
    refine wp_region_Hx (w0 := w) [0] [(w.heap.size, Obj.cells (inA x) 42 (0, 0))] rfl EX11.out ?_
    refine lexH_phase [0] [] ?_
    have hw13 : EnvX w _ [(w.heap.size, Obj.cells (inA x) 42 (0, 0))] := EX11.out
    have hone := @EnvC.one _ _ _ hw13
    (refine wpG_op rfl rfl rfl ?_; intro K hK; go_big_quiet_op; go_big_quiet_on)
    clear hone hw13
    refine wpG_nil ?_
    intro u15 E2'
    have EX14 := Lib.hid E2'
    clear E2'
    have EJ := Lib.hid EX14.out
    clear EX14
    go_upto_region 8 with (fail)
    go_loopw [9] (fun iv u => ∃ j : Nat, j ≤ n ∧ iv = .int .i64 (j : Int) ∧ Hid (EnvX w u [(w.heap.size, Obj.cells (inA x) 42 (0, 0))])) (fun iv _ => n - (intOf iv).toNat)
    case atStart => exact ⟨0, by omega, rfl, EJ.out⟩
    case round =>
      obtain ⟨j, hj, rfl, hinv⟩ := hrel
      have EK := Lib.hid hinv.out
      clear hinv EJ
      by_cases hlt : j < n
      · have C8 : Hid (decide ((j : Int) < (n : Int)) = true) := decide_eq_true (by omega)
        have HJ := Lib.hid hlt
        have hjl : j < p.length := by rw [HL.out]; exact hlt
        obtain ⟨ad2, hA2, -, hld2⟩ := CoinsIn.loads HAA.out HPP.out hjl
        have HLJ : Hid (∀ u, EnvX w u [] → (loadVar 42 ((ad2.add (j * 35)).add 0)).run Tryd.prog u = .ok (inV (keyC (p.getD j noC0))) u) := fun u hu => by
          have h := (hld2 u hu).2.1
          rwa [show ((ad2.add (j * 35)).add 0) = ad2.add (j * 35) by unfold Addr.add; rfl]
        have HJL : Hid (lenI (keyC (p.getD j noC0))) := (getP HPP.out hjl).len
        obtain ⟨b, hb⟩ : ∃ b, eqI (keyC (p.getD j noC0)) x = b := ⟨_, rfl⟩
        have HEQ := Lib.hid hb
        subst hA2
        clear hlt hjl hld2 hb
        go_upto_region 8 with (fail)
        refine wp_region_Hx (w0 := w) [0, 1, 2, 3] [(w.heap.size, Obj.cells (inA x) 42 (0, 0))] rfl EK.out ?_
        refine lexH_phase [0, 1, 2, 3] [] ?_
        have hw301 : EnvX w _ [(w.heap.size, Obj.cells (inA x) 42 (0, 0))] := EK.out
        have hone := @EnvC.one _ _ _ hw301
        iterate 2 (refine wpG_op rfl rfl rfl ?_; intro K hK; go_big_quiet_op; go_big_quiet_on)
        (refine wpG_val (v := .int .i64 (n : Int)) rfl rfl (fun u hu => len_op Tryd.underlying22 HN63.out u rfl) ?_ hw301; intro K hK; go_big_quiet_op; go_big_quiet_on)
        (refine wpG_val (v := .bool true) rfl rfl (fun u hu => ltZ_op u C8.out rfl rfl) ?_ hw301; intro K hK; go_big_quiet_op; go_big_quiet_on)
        clear hone hw301
        refine wpG_nil ?_
        intro u303 E2'
        have EX302 := Lib.hid E2'
        clear E2'
        cases b with
        | false =>
          go_upto_region 10 with (fail)
          refine wp_region_H (w0 := w) [(w.heap.size, Obj.cells (inA x) 42 (0, 0))] (by kernel_rfl) EX302.out ?_
          refine anyH_phase [0, 1, 2, 3, 4, 5, 6, 7, 8, 9, 10, 11, 12, 13, 14, 15] 0 rfl ⟨_, (EnvX.drew EX302.out)⟩ (by kernel_rfl) ?_
          have hw304 : EnvX w _ [(w.heap.size, Obj.cells (inA x) 42 (0, 0))] := (EnvX.drew EX302.out)
          have hone := @EnvC.one _ _ _ hw304
          iterate 2 (refine wpG_op rfl rfl rfl ?_; intro K hK; go_big_quiet_op; go_big_quiet_on)
          (refine wpG_val (v := .pointer (some (ad2.add (j * 35)))) rfl rfl (fun u hu => idxSl_op (i := j) Tryd.underlying22 aggCo.size HJ.out u rfl rfl) ?_ hw304; intro K hK; go_big_quiet_op; go_big_quiet_on)
          (refine wpG_val (v := .pointer (some ((ad2.add (j * 35)).add 0))) rfl rfl (fun u hu => fieldCo_op (k := 0) (off := 0) rfl u rfl) ?_ hw304; intro K hK; go_big_quiet_op; go_big_quiet_on)
          (refine wpG_val (v := inV (keyC (p.getD j noC0))) rfl rfl (fun u hu => load_any_op u (HLJ.out u (EnvX.sub hu (fun _ h => by cases h))) rfl) ?_ hw304; intro K hK; go_big_quiet_op; go_big_quiet_on)
          (refine wpG_val (v := inV x) rfl rfl (fun u hu => load_any_op u (box_in hu (List.Mem.head _) HXL.out) rfl) ?_ hw304; intro K hK; go_big_quiet_op; go_big_quiet_on)
          (refine wpG_val (v := .bool false) rfl rfl (fun u hu => eqlIn_op HJL.out HXL.out HEQ.out u rfl rfl) ?_ hw304; intro K hK; go_big_quiet_op; go_big_quiet_on)
          (refine wpG_op rfl rfl rfl ?_; intro K hK; go_big_quiet_op; go_big_quiet_on)
          iterate 7 (refine wpG_skip rfl rfl ?_ hw304; intro K hK; go_big_quiet_op; go_big_quiet_on)
          (refine wpG_op rfl rfl rfl ?_; intro K hK; go_big_quiet_op; go_big_quiet_on)
          clear hone hw304
          refine wpG_nil ?_
          refine anyH_done (by kernel_rfl) ?_
          intro u306 E2'
          have EX305 := Lib.hid E2'
          clear E2'
          have hjj := HJ.out
          have hn60 := HN60.out
          go_wp2
          go_roundw
          case rel => exact ⟨j + 1, by omega, by go_num, EX305.out⟩
          case measure => simp [intOf]; omega
        | true =>
          exact absurd (of_decide_eq_true HEQ.out) (HBE4.out j HJ.out)
      · obtain rfl : j = n := by omega
        have C8 : Hid (decide ((j : Int) < (j : Int)) = false) := decide_eq_false (by omega)
        go_upto_region 8 with (fail)
        refine wp_region_Hx (w0 := w) [0, 1, 2, 3] [(w.heap.size, Obj.cells (inA x) 42 (0, 0))] rfl EK.out ?_
        refine lexH_phase [0, 1, 2, 3] [] ?_
        have hw501 : EnvX w _ [(w.heap.size, Obj.cells (inA x) 42 (0, 0))] := EK.out
        have hone := @EnvC.one _ _ _ hw501
        iterate 2 (refine wpG_op rfl rfl rfl ?_; intro K hK; go_big_quiet_op; go_big_quiet_on)
        (refine wpG_val (v := .int .i64 (j : Int)) rfl rfl (fun u hu => len_op Tryd.underlying22 HN63.out u rfl) ?_ hw501; intro K hK; go_big_quiet_op; go_big_quiet_on)
        (refine wpG_val (v := .bool false) rfl rfl (fun u hu => ltZ_op u C8.out rfl rfl) ?_ hw501; intro K hK; go_big_quiet_op; go_big_quiet_on)
        clear hone hw501
        refine wpG_nil ?_
        intro u503 E2'
        have EX502 := Lib.hid E2'
        clear E2'
        by_cases c1 : i < 0
        · have I1 : Hid (decide (i < 0) = true) := decide_eq_true c1
          clear c1
          go_upto_region 12 with (fail)
          refine wp_region_Hx (w0 := w) [0, 1, 2, 3, 4, 5, 6, 7, 8, 9, 10, 11, 12, 13, 14, 15, 16, 17, 18, 19, 20, 21, 22, 23, 24] [(w.heap.size, Obj.cells (inA x) 42 (0, 0))] rfl EX502.out ?_
          refine lexH_phase [0, 1, 2, 3, 4, 5, 6, 7, 8, 9, 10, 11, 12, 13, 14, 15, 16, 17, 18, 19, 20, 21, 22, 23, 24] [] ?_
          have hw504 : EnvX w _ [(w.heap.size, Obj.cells (inA x) 42 (0, 0))] := EX502.out
          have hone := @EnvC.one _ _ _ hw504
          (refine wpG_op rfl rfl rfl ?_; intro K hK; go_big_quiet_op; go_big_quiet_on)
          (refine wpG_val (v := .bool true) rfl rfl (fun u hu => ltZ_op u I1.out rfl rfl) ?_ hw504; intro K hK; go_big_quiet_op; go_big_quiet_on)
          (refine wpG_op rfl rfl rfl ?_; intro K hK; go_big_quiet_op; go_big_quiet_on)
          iterate 4 (refine wpG_skip rfl rfl ?_ hw504; intro K hK; go_big_quiet_op; go_big_quiet_on)
          iterate 2 (refine wpG_op rfl rfl rfl ?_; intro K hK; go_big_quiet_op; go_big_quiet_on)
          iterate 3 (refine wpG_skip rfl rfl ?_ hw504; intro K hK; go_big_quiet_op; go_big_quiet_on)
          iterate 2 (refine wpG_op rfl rfl rfl ?_; intro K hK; go_big_quiet_op; go_big_quiet_on)
          iterate 9 (refine wpG_skip rfl rfl ?_ hw504; intro K hK; go_big_quiet_op; go_big_quiet_on)
          iterate 2 (refine wpG_op rfl rfl rfl ?_; intro K hK; go_big_quiet_op; go_big_quiet_on)
          clear hone hw504
          refine wpG_nil ?_
          intro u506 E2'
          have EX505 := Lib.hid E2'
          clear E2'
          have HBE := Lib.hid (EnvX.bel EX505.out)
          go_wp2
          go_ret
          exact ⟨rfl, HBE.out⟩
        have I1 : Hid (decide (i < 0) = false) := decide_eq_false c1
        by_cases c2 : (j : Int) ≤ i
        · have I2 : Hid (decide ((j : Int) ≤ i) = true) := decide_eq_true c2
          clear c1 c2
          go_upto_region 12 with (fail)
          refine wp_region_Hx (w0 := w) [0, 1, 2, 3, 4, 5, 6, 7, 8, 9, 10, 11, 12, 13, 14, 15, 16, 17, 18, 19, 20, 21, 22, 23, 24] [(w.heap.size, Obj.cells (inA x) 42 (0, 0))] rfl EX502.out ?_
          refine lexH_phase [0, 1, 2, 3, 4, 5, 6, 7, 8, 9, 10, 11, 12, 13, 14, 15, 16, 17, 18, 19, 20, 21, 22, 23, 24] [] ?_
          have hw504 : EnvX w _ [(w.heap.size, Obj.cells (inA x) 42 (0, 0))] := EX502.out
          have hone := @EnvC.one _ _ _ hw504
          (refine wpG_op rfl rfl rfl ?_; intro K hK; go_big_quiet_op; go_big_quiet_on)
          (refine wpG_val (v := .bool false) rfl rfl (fun u hu => ltZ_op u I1.out rfl rfl) ?_ hw504; intro K hK; go_big_quiet_op; go_big_quiet_on)
          iterate 3 (refine wpG_op rfl rfl rfl ?_; intro K hK; go_big_quiet_op; go_big_quiet_on)
          (refine wpG_val (v := .int .i64 (j : Int)) rfl rfl (fun u hu => len_op Tryd.underlying22 HN63.out u rfl) ?_ hw504; intro K hK; go_big_quiet_op; go_big_quiet_on)
          (refine wpG_val (v := .bool true) rfl rfl (fun u hu => geZ_op u I2.out rfl rfl) ?_ hw504; intro K hK; go_big_quiet_op; go_big_quiet_on)
          iterate 2 (refine wpG_op rfl rfl rfl ?_; intro K hK; go_big_quiet_op; go_big_quiet_on)
          iterate 3 (refine wpG_skip rfl rfl ?_ hw504; intro K hK; go_big_quiet_op; go_big_quiet_on)
          iterate 2 (refine wpG_op rfl rfl rfl ?_; intro K hK; go_big_quiet_op; go_big_quiet_on)
          iterate 9 (refine wpG_skip rfl rfl ?_ hw504; intro K hK; go_big_quiet_op; go_big_quiet_on)
          iterate 2 (refine wpG_op rfl rfl rfl ?_; intro K hK; go_big_quiet_op; go_big_quiet_on)
          clear hone hw504
          refine wpG_nil ?_
          intro u506 E2'
          have EX505 := Lib.hid E2'
          clear E2'
          have HBE := Lib.hid (EnvX.bel EX505.out)
          go_wp2
          go_ret
          exact ⟨rfl, HBE.out⟩
        have I2 : Hid (decide ((j : Int) ≤ i) = false) := decide_eq_false c2
        obtain ⟨i, rfl⟩ : ∃ k : Nat, i = (k : Int) := Int.eq_ofNat_of_zero_le (by omega)
        have HIJ : Hid (i < j) := by show _ < _; omega
        clear c1 c2
        obtain ⟨bm, hbm⟩ : ∃ bm, mayP p = bm := ⟨_, rfl⟩
        rw [hbm] at HMY
        have HBM := Lib.hid hbm
        clear hbm
        cases bm with
        | false =>
          go_upto_region 12 with (fail)
          refine wp_region_Hx (w0 := w) [0, 1, 2, 3, 4, 5, 6, 7, 8, 9, 10, 11, 12, 13, 14, 15, 16, 17, 18, 19, 20, 21, 22, 23, 24] [(w.heap.size, Obj.cells (inA x) 42 (0, 0))] rfl EX502.out ?_
          refine lexH_phase [0, 1, 2, 3, 4, 5, 6, 7, 8, 9, 10, 11, 12, 13, 14, 15, 16, 17, 18, 19, 20, 21, 22, 23, 24] [] ?_
          have hw504 : EnvX w _ [(w.heap.size, Obj.cells (inA x) 42 (0, 0))] := EX502.out
          have hone := @EnvC.one _ _ _ hw504
          (refine wpG_op rfl rfl rfl ?_; intro K hK; go_big_quiet_op; go_big_quiet_on)
          (refine wpG_val (v := .bool false) rfl rfl (fun u hu => ltZ_op u I1.out rfl rfl) ?_ hw504; intro K hK; go_big_quiet_op; go_big_quiet_on)
          iterate 3 (refine wpG_op rfl rfl rfl ?_; intro K hK; go_big_quiet_op; go_big_quiet_on)
          (refine wpG_val (v := .int .i64 (j : Int)) rfl rfl (fun u hu => len_op Tryd.underlying22 HN63.out u rfl) ?_ hw504; intro K hK; go_big_quiet_op; go_big_quiet_on)
          (refine wpG_val (v := .bool false) rfl rfl (fun u hu => geZ_op u I2.out rfl rfl) ?_ hw504; intro K hK; go_big_quiet_op; go_big_quiet_on)
          iterate 3 (refine wpG_op rfl rfl rfl ?_; intro K hK; go_big_quiet_op; go_big_quiet_on)
          (refine wpG_call (f := 20) (args := #[.slice A j c]) (v := .bool false) rfl rfl rfl Tryd.func20 rfl rfl (fun u hu => HMY.out u (EnvX.bel hu)) ?_ hw504; intro K hK; go_big_quiet_op; go_big_quiet_on)
          iterate 3 (refine wpG_op rfl rfl rfl ?_; intro K hK; go_big_quiet_op; go_big_quiet_on)
          iterate 9 (refine wpG_skip rfl rfl ?_ hw504; intro K hK; go_big_quiet_op; go_big_quiet_on)
          iterate 2 (refine wpG_op rfl rfl rfl ?_; intro K hK; go_big_quiet_op; go_big_quiet_on)
          clear hone hw504
          refine wpG_nil ?_
          intro u506 E2'
          have EX505 := Lib.hid E2'
          clear E2'
          have HBE := Lib.hid (EnvX.bel EX505.out)
          go_wp2
          go_ret
          exact ⟨rfl, HBE.out⟩
        | true =>
          have hil : i < p.length := by rw [HL.out]; exact HIJ.out
          obtain ⟨ad9, hA9, -, hld9⟩ := CoinsIn.loads HAA.out HPP.out hil
          have HLI : Hid (∀ u, EnvX w u [] → (loadVar 42 ((ad9.add (i * 35)).add 0)).run Tryd.prog u = .ok (inV (keyC (p.getD i noC0))) u) := fun u hu => by
            have h := (hld9 u hu).2.1
            rwa [show ((ad9.add (i * 35)).add 0) = ad9.add (i * 35) by unfold Addr.add; rfl]
          have hfi := findP_up HPP.out.id (mayP_iff.1 HBM.out).2.2 hil
          rw [← getD_dC hil] at hfi
          have hgo := getP HPP.out hil
          subst hA9
          have HFI : Hid (∀ u, Below w.heap.size w u → Calls Tryd.prog 18 #[.slice (some ad9) j c, inV (keyC (p.getD i noC0))] u fun e w' => e = .returned (.int .i64 (i : Int)) ∧ Below u.heap.size u w') := fun u hu => by
            have h := HH.out.find p (some ad9) j c (keyC (p.getD i noC0)) u HL.out (by have := HN60.out; omega) HNC.out.1 HNC.out.2 HPP.out (CellsIn.up HAA.out hu) ⟨hgo.1, hgo.2.1⟩ (HT.out.below hu)
            rwa [hfi] at h
          clear hil hld9 hfi hgo
          go_upto_region 12 with (fail)
          refine wp_region_Hx (w0 := w) [0, 1, 2, 3, 4, 5, 6, 7, 8, 9, 10, 11, 12, 13, 14, 15, 16, 17, 18, 19, 20, 21, 22, 23, 24] [(w.heap.size, Obj.cells (inA x) 42 (0, 0))] rfl EX502.out ?_
          refine lexH_phase [0, 1, 2, 3, 4, 5, 6, 7, 8, 9, 10, 11, 12, 13, 14, 15, 16, 17, 18, 19, 20, 21, 22, 23, 24] [] ?_
          have hw504 : EnvX w _ [(w.heap.size, Obj.cells (inA x) 42 (0, 0))] := EX502.out
          have hone := @EnvC.one _ _ _ hw504
          (refine wpG_op rfl rfl rfl ?_; intro K hK; go_big_quiet_op; go_big_quiet_on)
          (refine wpG_val (v := .bool false) rfl rfl (fun u hu => ltZ_op u I1.out rfl rfl) ?_ hw504; intro K hK; go_big_quiet_op; go_big_quiet_on)
          iterate 3 (refine wpG_op rfl rfl rfl ?_; intro K hK; go_big_quiet_op; go_big_quiet_on)
          (refine wpG_val (v := .int .i64 (j : Int)) rfl rfl (fun u hu => len_op Tryd.underlying22 HN63.out u rfl) ?_ hw504; intro K hK; go_big_quiet_op; go_big_quiet_on)
          (refine wpG_val (v := .bool false) rfl rfl (fun u hu => geZ_op u I2.out rfl rfl) ?_ hw504; intro K hK; go_big_quiet_op; go_big_quiet_on)
          iterate 3 (refine wpG_op rfl rfl rfl ?_; intro K hK; go_big_quiet_op; go_big_quiet_on)
          (refine wpG_call (f := 20) (args := #[.slice (some ad9) j c]) (v := .bool true) rfl rfl rfl Tryd.func20 rfl rfl (fun u hu => HMY.out u (EnvX.bel hu)) ?_ hw504; intro K hK; go_big_quiet_op; go_big_quiet_on)
          iterate 6 (refine wpG_op rfl rfl rfl ?_; intro K hK; go_big_quiet_op; go_big_quiet_on)
          (refine wpG_val (v := .pointer (some (ad9.add (i * 35)))) rfl rfl (fun u hu => idxSl_op (i := i) Tryd.underlying22 aggCo.size HIJ.out u rfl rfl) ?_ hw504; intro K hK; go_big_quiet_op; go_big_quiet_on)
          (refine wpG_val (v := .pointer (some ((ad9.add (i * 35)).add 0))) rfl rfl (fun u hu => fieldCo_op (k := 0) (off := 0) rfl u rfl) ?_ hw504; intro K hK; go_big_quiet_op; go_big_quiet_on)
          (refine wpG_val (v := inV (keyC (p.getD i noC0))) rfl rfl (fun u hu => load_any_op u (HLI.out u (EnvX.sub hu (fun _ h => by cases h))) rfl) ?_ hw504; intro K hK; go_big_quiet_op; go_big_quiet_on)
          (refine wpG_call (f := 18) (args := #[.slice (some ad9) j c, inV (keyC (p.getD i noC0))]) (v := .int .i64 (i : Int)) rfl rfl rfl Tryd.func18 rfl rfl (fun u hu => HFI.out u (EnvX.bel hu)) ?_ hw504; intro K hK; go_big_quiet_op; go_big_quiet_on)
          (refine wpG_op rfl rfl rfl ?_; intro K hK; go_big_quiet_op; go_big_quiet_on)
          (refine wpG_val (v := .bool true) rfl rfl (fun u hu => eqlI_op u (decide_eq_true rfl) rfl rfl) ?_ hw504; intro K hK; go_big_quiet_op; go_big_quiet_on)
          iterate 2 (refine wpG_op rfl rfl rfl ?_; intro K hK; go_big_quiet_op; go_big_quiet_on)
          clear hone hw504
          refine wpG_nil ?_
          intro u506 E2'
          have EX505 := Lib.hid E2'
          clear E2'
          have HBE := Lib.hid (EnvX.bel EX505.out)
          go_wp2
          go_ret
          exact ⟨rfl, HBE.out⟩
  · have HB3 : Hid (decide ((0 : Int) ≤ (k : Int)) = true) := decide_eq_true (by omega)
    have HBE4 := Lib.hid hkn
    have HKN := Lib.hid hk
    have hkl : k < p.length := by rw [HL.out]; exact hk
    obtain ⟨ad, rfl, -, hld⟩ := CoinsIn.loads HAA.out HPP.out hkl
    have HLD := Lib.hid hld
    have HYL : Hid (lenI (keyC (p.getD k noC0))) := (getP HPP.out hkl).len
    have HNE : Hid ((!eqI (keyC (p.getD k noC0)) x) = false) := by show _ = _; unfold eqI; rw [decide_eq_true hke]; rfl
    clear HFC hkn hk hkl hld hke
    go_upto_region 5 with (fail)
    refine wp_region_H (w0 := w) [(w.heap.size, Obj.cells (inA x) 42 (0, 0))] (by kernel_rfl) EX8.out ?_
    refine anyH_phase [0, 1, 2, 3, 4, 5, 6, 7, 8, 9, 10, 11, 12, 13, 14, 15, 16, 17, 18, 19, 20] 0 rfl ⟨_, (EnvX.drew EX8.out)⟩ (by kernel_rfl) ?_
    have hw10 : EnvX w _ [(w.heap.size, Obj.cells (inA x) 42 (0, 0))] := (EnvX.drew EX8.out)
    have hone := @EnvC.one _ _ _ hw10
    (refine wpG_op rfl rfl rfl ?_; intro K hK; go_big_quiet_op; go_big_quiet_on)
    (refine wpG_val (v := .bool false) rfl rfl (fun u hu => ltZ_op u HB1.out rfl rfl) ?_ hw10; intro K hK; go_big_quiet_op; go_big_quiet_on)
    iterate 3 (refine wpG_op rfl rfl rfl ?_; intro K hK; go_big_quiet_op; go_big_quiet_on)
    (refine wpG_val (v := .int .i64 (n : Int)) rfl rfl (fun u hu => len_op Tryd.underlying22 HN63.out u rfl) ?_ hw10; intro K hK; go_big_quiet_op; go_big_quiet_on)
    (refine wpG_val (v := .bool false) rfl rfl (fun u hu => geZ_op u HB2.out rfl rfl) ?_ hw10; intro K hK; go_big_quiet_op; go_big_quiet_on)
    iterate 3 (refine wpG_op rfl rfl rfl ?_; intro K hK; go_big_quiet_op; go_big_quiet_on)
    (refine wpG_val (v := .bool true) rfl rfl (fun u hu => geZ_op u HB3.out rfl rfl) ?_ hw10; intro K hK; go_big_quiet_op; go_big_quiet_on)
    iterate 3 (refine wpG_op rfl rfl rfl ?_; intro K hK; go_big_quiet_op; go_big_quiet_on)
    (refine wpG_val (v := .pointer (some (ad.add (k * 35)))) rfl rfl (fun u hu => idxSl_op (i := k) Tryd.underlying22 aggCo.size HKN.out u rfl rfl) ?_ hw10; intro K hK; go_big_quiet_op; go_big_quiet_on)
    (refine wpG_val (v := .pointer (some ((ad.add (k * 35)).add 0))) rfl rfl (fun u hu => fieldCo_op (k := 0) (off := 0) rfl u rfl) ?_ hw10; intro K hK; go_big_quiet_op; go_big_quiet_on)
    (refine wpG_val (v := inV (keyC (p.getD k noC0))) rfl rfl (fun u hu => load_any_op u (by have h := (HLD.out u (EnvX.sub hu (fun _ h => by cases h))).2.1; rwa [show ((ad.add (k * 35)).add 0) = ad.add (k * 35) by unfold Addr.add; rfl]) rfl) ?_ hw10; intro K hK; go_big_quiet_op; go_big_quiet_on)
    (refine wpG_val (v := inV x) rfl rfl (fun u hu => load_any_op u (box_in hu (List.Mem.head _) HXL.out) rfl) ?_ hw10; intro K hK; go_big_quiet_op; go_big_quiet_on)
    (refine wpG_val (v := .bool false) rfl rfl (fun u hu => neqIn_op HYL.out HXL.out HNE.out u rfl rfl) ?_ hw10; intro K hK; go_big_quiet_op; go_big_quiet_on)
    iterate 2 (refine wpG_op rfl rfl rfl ?_; intro K hK; go_big_quiet_op; go_big_quiet_on)
    clear hone hw10
    refine wpG_nil ?_
    refine anyH_done (by kernel_rfl) ?_
    intro u12 E2'
    have EX11 := Lib.hid E2'
    clear E2'
    go_upto_region 7 with (fail)
    refine wp_region_Hx (w0 := w) [0] [(w.heap.size, Obj.cells (inA x) 42 (0, 0))] rfl EX11.out ?_
    refine lexH_phase [0] [] ?_
    have hw13 : EnvX w _ [(w.heap.size, Obj.cells (inA x) 42 (0, 0))] := EX11.out
    have hone := @EnvC.one _ _ _ hw13
    (refine wpG_op rfl rfl rfl ?_; intro K hK; go_big_quiet_op; go_big_quiet_on)
    clear hone hw13
    refine wpG_nil ?_
    intro u15 E2'
    have EX14 := Lib.hid E2'
    clear E2'
    have EJ := Lib.hid EX14.out
    clear EX14
    go_upto_region 8 with (fail)
    go_loopw [9] (fun iv u => ∃ j : Nat, j ≤ n ∧ iv = .int .i64 (j : Int) ∧ Hid (EnvX w u [(w.heap.size, Obj.cells (inA x) 42 (0, 0))])) (fun iv _ => n - (intOf iv).toNat)
    case atStart => exact ⟨0, by omega, rfl, EJ.out⟩
    case round =>
      obtain ⟨j, hj, rfl, hinv⟩ := hrel
      have EK := Lib.hid hinv.out
      clear hinv EJ
      by_cases hlt : j < n
      · have C8 : Hid (decide ((j : Int) < (n : Int)) = true) := decide_eq_true (by omega)
        have HJ := Lib.hid hlt
        have hjl : j < p.length := by rw [HL.out]; exact hlt
        obtain ⟨ad2, hA2, -, hld2⟩ := CoinsIn.loads HAA.out HPP.out hjl
        have HLJ : Hid (∀ u, EnvX w u [] → (loadVar 42 ((ad2.add (j * 35)).add 0)).run Tryd.prog u = .ok (inV (keyC (p.getD j noC0))) u) := fun u hu => by
          have h := (hld2 u hu).2.1
          rwa [show ((ad2.add (j * 35)).add 0) = ad2.add (j * 35) by unfold Addr.add; rfl]
        have HJL : Hid (lenI (keyC (p.getD j noC0))) := (getP HPP.out hjl).len
        obtain ⟨b, hb⟩ : ∃ b, eqI (keyC (p.getD j noC0)) x = b := ⟨_, rfl⟩
        have HEQ := Lib.hid hb
        have e2 : ad2 = ad := (Option.some.inj (hA2.symm.trans rfl))
        subst e2
        clear hlt hjl hld2 hb hA2
        go_upto_region 8 with (fail)
        refine wp_region_Hx (w0 := w) [0, 1, 2, 3] [(w.heap.size, Obj.cells (inA x) 42 (0, 0))] rfl EK.out ?_
        refine lexH_phase [0, 1, 2, 3] [] ?_
        have hw301 : EnvX w _ [(w.heap.size, Obj.cells (inA x) 42 (0, 0))] := EK.out
        have hone := @EnvC.one _ _ _ hw301
        iterate 2 (refine wpG_op rfl rfl rfl ?_; intro K hK; go_big_quiet_op; go_big_quiet_on)
        (refine wpG_val (v := .int .i64 (n : Int)) rfl rfl (fun u hu => len_op Tryd.underlying22 HN63.out u rfl) ?_ hw301; intro K hK; go_big_quiet_op; go_big_quiet_on)
        (refine wpG_val (v := .bool true) rfl rfl (fun u hu => ltZ_op u C8.out rfl rfl) ?_ hw301; intro K hK; go_big_quiet_op; go_big_quiet_on)
        clear hone hw301
        refine wpG_nil ?_
        intro u303 E2'
        have EX302 := Lib.hid E2'
        clear E2'
        cases b with
        | false =>
          go_upto_region 10 with (fail)
          refine wp_region_H (w0 := w) [(w.heap.size, Obj.cells (inA x) 42 (0, 0))] (by kernel_rfl) EX302.out ?_
          refine anyH_phase [0, 1, 2, 3, 4, 5, 6, 7, 8, 9, 10, 11, 12, 13, 14, 15] 0 rfl ⟨_, (EnvX.drew EX302.out)⟩ (by kernel_rfl) ?_
          have hw304 : EnvX w _ [(w.heap.size, Obj.cells (inA x) 42 (0, 0))] := (EnvX.drew EX302.out)
          have hone := @EnvC.one _ _ _ hw304
          iterate 2 (refine wpG_op rfl rfl rfl ?_; intro K hK; go_big_quiet_op; go_big_quiet_on)
          (refine wpG_val (v := .pointer (some (ad2.add (j * 35)))) rfl rfl (fun u hu => idxSl_op (i := j) Tryd.underlying22 aggCo.size HJ.out u rfl rfl) ?_ hw304; intro K hK; go_big_quiet_op; go_big_quiet_on)
          (refine wpG_val (v := .pointer (some ((ad2.add (j * 35)).add 0))) rfl rfl (fun u hu => fieldCo_op (k := 0) (off := 0) rfl u rfl) ?_ hw304; intro K hK; go_big_quiet_op; go_big_quiet_on)
          (refine wpG_val (v := inV (keyC (p.getD j noC0))) rfl rfl (fun u hu => load_any_op u (HLJ.out u (EnvX.sub hu (fun _ h => by cases h))) rfl) ?_ hw304; intro K hK; go_big_quiet_op; go_big_quiet_on)
          (refine wpG_val (v := inV x) rfl rfl (fun u hu => load_any_op u (box_in hu (List.Mem.head _) HXL.out) rfl) ?_ hw304; intro K hK; go_big_quiet_op; go_big_quiet_on)
          (refine wpG_val (v := .bool false) rfl rfl (fun u hu => eqlIn_op HJL.out HXL.out HEQ.out u rfl rfl) ?_ hw304; intro K hK; go_big_quiet_op; go_big_quiet_on)
          (refine wpG_op rfl rfl rfl ?_; intro K hK; go_big_quiet_op; go_big_quiet_on)
          iterate 7 (refine wpG_skip rfl rfl ?_ hw304; intro K hK; go_big_quiet_op; go_big_quiet_on)
          (refine wpG_op rfl rfl rfl ?_; intro K hK; go_big_quiet_op; go_big_quiet_on)
          clear hone hw304
          refine wpG_nil ?_
          refine anyH_done (by kernel_rfl) ?_
          intro u306 E2'
          have EX305 := Lib.hid E2'
          clear E2'
          have hjj := HJ.out
          have hn60 := HN60.out
          go_wp2
          go_roundw
          case rel => exact ⟨j + 1, by omega, by go_num, EX305.out⟩
          case measure => simp [intOf]; omega
        | true =>
          have HNG : Hid (decide ((k : Int) < 0) = false) := decide_eq_false (by omega)
          have HJK : Hid (decide ((j : Int) < (k : Int)) = false) := decide_eq_false (fun h => HBE4.out j (by omega) (of_decide_eq_true HEQ.out))
          go_upto_region 10 with (fail)
          refine wp_region_H (w0 := w) [(w.heap.size, Obj.cells (inA x) 42 (0, 0))] (by kernel_rfl) EX302.out ?_
          refine anyH_phase [0, 1, 2, 3, 4, 5, 6, 7, 8, 9, 10, 11, 12, 13, 14, 15] 0 rfl ⟨_, (EnvX.drew EX302.out)⟩ (by kernel_rfl) ?_
          have hw304 : EnvX w _ [(w.heap.size, Obj.cells (inA x) 42 (0, 0))] := (EnvX.drew EX302.out)
          have hone := @EnvC.one _ _ _ hw304
          iterate 2 (refine wpG_op rfl rfl rfl ?_; intro K hK; go_big_quiet_op; go_big_quiet_on)
          (refine wpG_val (v := .pointer (some (ad2.add (j * 35)))) rfl rfl (fun u hu => idxSl_op (i := j) Tryd.underlying22 aggCo.size HJ.out u rfl rfl) ?_ hw304; intro K hK; go_big_quiet_op; go_big_quiet_on)
          (refine wpG_val (v := .pointer (some ((ad2.add (j * 35)).add 0))) rfl rfl (fun u hu => fieldCo_op (k := 0) (off := 0) rfl u rfl) ?_ hw304; intro K hK; go_big_quiet_op; go_big_quiet_on)
          (refine wpG_val (v := inV (keyC (p.getD j noC0))) rfl rfl (fun u hu => load_any_op u (HLJ.out u (EnvX.sub hu (fun _ h => by cases h))) rfl) ?_ hw304; intro K hK; go_big_quiet_op; go_big_quiet_on)
          (refine wpG_val (v := inV x) rfl rfl (fun u hu => load_any_op u (box_in hu (List.Mem.head _) HXL.out) rfl) ?_ hw304; intro K hK; go_big_quiet_op; go_big_quiet_on)
          (refine wpG_val (v := .bool true) rfl rfl (fun u hu => eqlIn_op HJL.out HXL.out HEQ.out u rfl rfl) ?_ hw304; intro K hK; go_big_quiet_op; go_big_quiet_on)
          iterate 2 (refine wpG_op rfl rfl rfl ?_; intro K hK; go_big_quiet_op; go_big_quiet_on)
          (refine wpG_val (v := .bool false) rfl rfl (fun u hu => ltZ_op u HNG.out rfl rfl) ?_ hw304; intro K hK; go_big_quiet_op; go_big_quiet_on)
          iterate 3 (refine wpG_op rfl rfl rfl ?_; intro K hK; go_big_quiet_op; go_big_quiet_on)
          (refine wpG_val (v := .bool false) rfl rfl (fun u hu => ltZ_op u HJK.out rfl rfl) ?_ hw304; intro K hK; go_big_quiet_op; go_big_quiet_on)
          iterate 2 (refine wpG_op rfl rfl rfl ?_; intro K hK; go_big_quiet_op; go_big_quiet_on)
          clear hone hw304
          refine wpG_nil ?_
          refine anyH_done (by kernel_rfl) ?_
          intro u306 E2'
          have EX305 := Lib.hid E2'
          clear E2'
          have hjj := HJ.out
          have hn60 := HN60.out
          go_wp2
          go_roundw
          case rel => exact ⟨j + 1, by omega, by go_num, EX305.out⟩
          case measure => simp [intOf]; omega
      · obtain rfl : j = n := by omega
        have C8 : Hid (decide ((j : Int) < (j : Int)) = false) := decide_eq_false (by omega)
        go_upto_region 8 with (fail)
        refine wp_region_Hx (w0 := w) [0, 1, 2, 3] [(w.heap.size, Obj.cells (inA x) 42 (0, 0))] rfl EK.out ?_
        refine lexH_phase [0, 1, 2, 3] [] ?_
        have hw501 : EnvX w _ [(w.heap.size, Obj.cells (inA x) 42 (0, 0))] := EK.out
        have hone := @EnvC.one _ _ _ hw501
        iterate 2 (refine wpG_op rfl rfl rfl ?_; intro K hK; go_big_quiet_op; go_big_quiet_on)
        (refine wpG_val (v := .int .i64 (j : Int)) rfl rfl (fun u hu => len_op Tryd.underlying22 HN63.out u rfl) ?_ hw501; intro K hK; go_big_quiet_op; go_big_quiet_on)
        (refine wpG_val (v := .bool false) rfl rfl (fun u hu => ltZ_op u C8.out rfl rfl) ?_ hw501; intro K hK; go_big_quiet_op; go_big_quiet_on)
        clear hone hw501
        refine wpG_nil ?_
        intro u503 E2'
        have EX502 := Lib.hid E2'
        clear E2'
        by_cases c1 : i < 0
        · have I1 : Hid (decide (i < 0) = true) := decide_eq_true c1
          clear c1
          go_upto_region 12 with (fail)
          refine wp_region_Hx (w0 := w) [0, 1, 2, 3, 4, 5, 6, 7, 8, 9, 10, 11, 12, 13, 14, 15, 16, 17, 18, 19, 20, 21, 22, 23, 24] [(w.heap.size, Obj.cells (inA x) 42 (0, 0))] rfl EX502.out ?_
          refine lexH_phase [0, 1, 2, 3, 4, 5, 6, 7, 8, 9, 10, 11, 12, 13, 14, 15, 16, 17, 18, 19, 20, 21, 22, 23, 24] [] ?_
          have hw504 : EnvX w _ [(w.heap.size, Obj.cells (inA x) 42 (0, 0))] := EX502.out
          have hone := @EnvC.one _ _ _ hw504
          (refine wpG_op rfl rfl rfl ?_; intro K hK; go_big_quiet_op; go_big_quiet_on)
          (refine wpG_val (v := .bool true) rfl rfl (fun u hu => ltZ_op u I1.out rfl rfl) ?_ hw504; intro K hK; go_big_quiet_op; go_big_quiet_on)
          (refine wpG_op rfl rfl rfl ?_; intro K hK; go_big_quiet_op; go_big_quiet_on)
          iterate 4 (refine wpG_skip rfl rfl ?_ hw504; intro K hK; go_big_quiet_op; go_big_quiet_on)
          iterate 2 (refine wpG_op rfl rfl rfl ?_; intro K hK; go_big_quiet_op; go_big_quiet_on)
          iterate 3 (refine wpG_skip rfl rfl ?_ hw504; intro K hK; go_big_quiet_op; go_big_quiet_on)
          iterate 2 (refine wpG_op rfl rfl rfl ?_; intro K hK; go_big_quiet_op; go_big_quiet_on)
          iterate 9 (refine wpG_skip rfl rfl ?_ hw504; intro K hK; go_big_quiet_op; go_big_quiet_on)
          iterate 2 (refine wpG_op rfl rfl rfl ?_; intro K hK; go_big_quiet_op; go_big_quiet_on)
          clear hone hw504
          refine wpG_nil ?_
          intro u506 E2'
          have EX505 := Lib.hid E2'
          clear E2'
          have HBE := Lib.hid (EnvX.bel EX505.out)
          go_wp2
          go_ret
          exact ⟨rfl, HBE.out⟩
        have I1 : Hid (decide (i < 0) = false) := decide_eq_false c1
        by_cases c2 : (j : Int) ≤ i
        · have I2 : Hid (decide ((j : Int) ≤ i) = true) := decide_eq_true c2
          clear c1 c2
          go_upto_region 12 with (fail)
          refine wp_region_Hx (w0 := w) [0, 1, 2, 3, 4, 5, 6, 7, 8, 9, 10, 11, 12, 13, 14, 15, 16, 17, 18, 19, 20, 21, 22, 23, 24] [(w.heap.size, Obj.cells (inA x) 42 (0, 0))] rfl EX502.out ?_
          refine lexH_phase [0, 1, 2, 3, 4, 5, 6, 7, 8, 9, 10, 11, 12, 13, 14, 15, 16, 17, 18, 19, 20, 21, 22, 23, 24] [] ?_
          have hw504 : EnvX w _ [(w.heap.size, Obj.cells (inA x) 42 (0, 0))] := EX502.out
          have hone := @EnvC.one _ _ _ hw504
          (refine wpG_op rfl rfl rfl ?_; intro K hK; go_big_quiet_op; go_big_quiet_on)
          (refine wpG_val (v := .bool false) rfl rfl (fun u hu => ltZ_op u I1.out rfl rfl) ?_ hw504; intro K hK; go_big_quiet_op; go_big_quiet_on)
          iterate 3 (refine wpG_op rfl rfl rfl ?_; intro K hK; go_big_quiet_op; go_big_quiet_on)
          (refine wpG_val (v := .int .i64 (j : Int)) rfl rfl (fun u hu => len_op Tryd.underlying22 HN63.out u rfl) ?_ hw504; intro K hK; go_big_quiet_op; go_big_quiet_on)
          (refine wpG_val (v := .bool true) rfl rfl (fun u hu => geZ_op u I2.out rfl rfl) ?_ hw504; intro K hK; go_big_quiet_op; go_big_quiet_on)
          iterate 2 (refine wpG_op rfl rfl rfl ?_; intro K hK; go_big_quiet_op; go_big_quiet_on)
          iterate 3 (refine wpG_skip rfl rfl ?_ hw504; intro K hK; go_big_quiet_op; go_big_quiet_on)
          iterate 2 (refine wpG_op rfl rfl rfl ?_; intro K hK; go_big_quiet_op; go_big_quiet_on)
          iterate 9 (refine wpG_skip rfl rfl ?_ hw504; intro K hK; go_big_quiet_op; go_big_quiet_on)
          iterate 2 (refine wpG_op rfl rfl rfl ?_; intro K hK; go_big_quiet_op; go_big_quiet_on)
          clear hone hw504
          refine wpG_nil ?_
          intro u506 E2'
          have EX505 := Lib.hid E2'
          clear E2'
          have HBE := Lib.hid (EnvX.bel EX505.out)
          go_wp2
          go_ret
          exact ⟨rfl, HBE.out⟩
        have I2 : Hid (decide ((j : Int) ≤ i) = false) := decide_eq_false c2
        obtain ⟨i, rfl⟩ : ∃ k : Nat, i = (k : Int) := Int.eq_ofNat_of_zero_le (by omega)
        have HIJ : Hid (i < j) := by show _ < _; omega
        clear c1 c2
        obtain ⟨bm, hbm⟩ : ∃ bm, mayP p = bm := ⟨_, rfl⟩
        rw [hbm] at HMY
        have HBM := Lib.hid hbm
        clear hbm
        cases bm with
        | false =>
          go_upto_region 12 with (fail)
          refine wp_region_Hx (w0 := w) [0, 1, 2, 3, 4, 5, 6, 7, 8, 9, 10, 11, 12, 13, 14, 15, 16, 17, 18, 19, 20, 21, 22, 23, 24] [(w.heap.size, Obj.cells (inA x) 42 (0, 0))] rfl EX502.out ?_
          refine lexH_phase [0, 1, 2, 3, 4, 5, 6, 7, 8, 9, 10, 11, 12, 13, 14, 15, 16, 17, 18, 19, 20, 21, 22, 23, 24] [] ?_
          have hw504 : EnvX w _ [(w.heap.size, Obj.cells (inA x) 42 (0, 0))] := EX502.out
          have hone := @EnvC.one _ _ _ hw504
          (refine wpG_op rfl rfl rfl ?_; intro K hK; go_big_quiet_op; go_big_quiet_on)
          (refine wpG_val (v := .bool false) rfl rfl (fun u hu => ltZ_op u I1.out rfl rfl) ?_ hw504; intro K hK; go_big_quiet_op; go_big_quiet_on)
          iterate 3 (refine wpG_op rfl rfl rfl ?_; intro K hK; go_big_quiet_op; go_big_quiet_on)
          (refine wpG_val (v := .int .i64 (j : Int)) rfl rfl (fun u hu => len_op Tryd.underlying22 HN63.out u rfl) ?_ hw504; intro K hK; go_big_quiet_op; go_big_quiet_on)
          (refine wpG_val (v := .bool false) rfl rfl (fun u hu => geZ_op u I2.out rfl rfl) ?_ hw504; intro K hK; go_big_quiet_op; go_big_quiet_on)
          iterate 3 (refine wpG_op rfl rfl rfl ?_; intro K hK; go_big_quiet_op; go_big_quiet_on)
          (refine wpG_call (f := 20) (args := #[.slice (some ad) j c]) (v := .bool false) rfl rfl rfl Tryd.func20 rfl rfl (fun u hu => HMY.out u (EnvX.bel hu)) ?_ hw504; intro K hK; go_big_quiet_op; go_big_quiet_on)
          iterate 3 (refine wpG_op rfl rfl rfl ?_; intro K hK; go_big_quiet_op; go_big_quiet_on)
          iterate 9 (refine wpG_skip rfl rfl ?_ hw504; intro K hK; go_big_quiet_op; go_big_quiet_on)
          iterate 2 (refine wpG_op rfl rfl rfl ?_; intro K hK; go_big_quiet_op; go_big_quiet_on)
          clear hone hw504
          refine wpG_nil ?_
          intro u506 E2'
          have EX505 := Lib.hid E2'
          clear E2'
          have HBE := Lib.hid (EnvX.bel EX505.out)
          go_wp2
          go_ret
          exact ⟨rfl, HBE.out⟩
        | true =>
          have hil : i < p.length := by rw [HL.out]; exact HIJ.out
          obtain ⟨ad9, hA9, -, hld9⟩ := CoinsIn.loads HAA.out HPP.out hil
          have HLI : Hid (∀ u, EnvX w u [] → (loadVar 42 ((ad9.add (i * 35)).add 0)).run Tryd.prog u = .ok (inV (keyC (p.getD i noC0))) u) := fun u hu => by
            have h := (hld9 u hu).2.1
            rwa [show ((ad9.add (i * 35)).add 0) = ad9.add (i * 35) by unfold Addr.add; rfl]
          have hfi := findP_up HPP.out.id (mayP_iff.1 HBM.out).2.2 hil
          rw [← getD_dC hil] at hfi
          have hgo := getP HPP.out hil
          have e9 : ad9 = ad := (Option.some.inj (hA9.symm.trans rfl))
          subst e9
          have HFI : Hid (∀ u, Below w.heap.size w u → Calls Tryd.prog 18 #[.slice (some ad9) j c, inV (keyC (p.getD i noC0))] u fun e w' => e = .returned (.int .i64 (i : Int)) ∧ Below u.heap.size u w') := fun u hu => by
            have h := HH.out.find p (some ad9) j c (keyC (p.getD i noC0)) u HL.out (by have := HN60.out; omega) HNC.out.1 HNC.out.2 HPP.out (CellsIn.up HAA.out hu) ⟨hgo.1, hgo.2.1⟩ (HT.out.below hu)
            rwa [hfi] at h
          clear hil hld9 hfi hgo
          go_upto_region 12 with (fail)
          refine wp_region_Hx (w0 := w) [0, 1, 2, 3, 4, 5, 6, 7, 8, 9, 10, 11, 12, 13, 14, 15, 16, 17, 18, 19, 20, 21, 22, 23, 24] [(w.heap.size, Obj.cells (inA x) 42 (0, 0))] rfl EX502.out ?_
          refine lexH_phase [0, 1, 2, 3, 4, 5, 6, 7, 8, 9, 10, 11, 12, 13, 14, 15, 16, 17, 18, 19, 20, 21, 22, 23, 24] [] ?_
          have hw504 : EnvX w _ [(w.heap.size, Obj.cells (inA x) 42 (0, 0))] := EX502.out
          have hone := @EnvC.one _ _ _ hw504
          (refine wpG_op rfl rfl rfl ?_; intro K hK; go_big_quiet_op; go_big_quiet_on)
          (refine wpG_val (v := .bool false) rfl rfl (fun u hu => ltZ_op u I1.out rfl rfl) ?_ hw504; intro K hK; go_big_quiet_op; go_big_quiet_on)
          iterate 3 (refine wpG_op rfl rfl rfl ?_; intro K hK; go_big_quiet_op; go_big_quiet_on)
          (refine wpG_val (v := .int .i64 (j : Int)) rfl rfl (fun u hu => len_op Tryd.underlying22 HN63.out u rfl) ?_ hw504; intro K hK; go_big_quiet_op; go_big_quiet_on)
          (refine wpG_val (v := .bool false) rfl rfl (fun u hu => geZ_op u I2.out rfl rfl) ?_ hw504; intro K hK; go_big_quiet_op; go_big_quiet_on)
          iterate 3 (refine wpG_op rfl rfl rfl ?_; intro K hK; go_big_quiet_op; go_big_quiet_on)
          (refine wpG_call (f := 20) (args := #[.slice (some ad9) j c]) (v := .bool true) rfl rfl rfl Tryd.func20 rfl rfl (fun u hu => HMY.out u (EnvX.bel hu)) ?_ hw504; intro K hK; go_big_quiet_op; go_big_quiet_on)
          iterate 6 (refine wpG_op rfl rfl rfl ?_; intro K hK; go_big_quiet_op; go_big_quiet_on)
          (refine wpG_val (v := .pointer (some (ad9.add (i * 35)))) rfl rfl (fun u hu => idxSl_op (i := i) Tryd.underlying22 aggCo.size HIJ.out u rfl rfl) ?_ hw504; intro K hK; go_big_quiet_op; go_big_quiet_on)
          (refine wpG_val (v := .pointer (some ((ad9.add (i * 35)).add 0))) rfl rfl (fun u hu => fieldCo_op (k := 0) (off := 0) rfl u rfl) ?_ hw504; intro K hK; go_big_quiet_op; go_big_quiet_on)
          (refine wpG_val (v := inV (keyC (p.getD i noC0))) rfl rfl (fun u hu => load_any_op u (HLI.out u (EnvX.sub hu (fun _ h => by cases h))) rfl) ?_ hw504; intro K hK; go_big_quiet_op; go_big_quiet_on)
          (refine wpG_call (f := 18) (args := #[.slice (some ad9) j c, inV (keyC (p.getD i noC0))]) (v := .int .i64 (i : Int)) rfl rfl rfl Tryd.func18 rfl rfl (fun u hu => HFI.out u (EnvX.bel hu)) ?_ hw504; intro K hK; go_big_quiet_op; go_big_quiet_on)
          (refine wpG_op rfl rfl rfl ?_; intro K hK; go_big_quiet_op; go_big_quiet_on)
          (refine wpG_val (v := .bool true) rfl rfl (fun u hu => eqlI_op u (decide_eq_true rfl) rfl rfl) ?_ hw504; intro K hK; go_big_quiet_op; go_big_quiet_on)
          iterate 2 (refine wpG_op rfl rfl rfl ?_; intro K hK; go_big_quiet_op; go_big_quiet_on)
          clear hone hw504
          refine wpG_nil ?_
          intro u506 E2'
          have EX505 := Lib.hid E2'
          clear E2'
          have HBE := Lib.hid (EnvX.bel EX505.out)
          go_wp2
          go_ret
          exact ⟨rfl, HBE.out⟩
theorem law_finds (H : PurseC) (p : List CoinR) (x : InR) (i : Int) (A : Option Addr) (n c : Nat) (w : World) (hl : p.length = n) (hnc : n ≤ c) (hcm : c ≤ maxLen) (hI : okP p) (hA : CoinsIn w w.heap.size A p) (hx : okIn x) (ht : Tables w) :
    Calls Tryd.prog 8 #[.slice A n c, inV x, .int .i64 i] w fun e w' => e = .returned (.bool true) ∧ Below w.heap.size w w' := by
  by_cases k : 60 < n
  · exact law_finds_many H p x i A n c w hl hnc hcm hI hA hx ht k
  · exact law_finds_few H p x i A n c w hl hnc hcm hI hA hx ht k
end Go.Proofs.YtabhhbdbkeeblaaDoor
namespace Go.Proofs.YtabhhbdbkeeblaaDoor.purseFinds
set_option maxRecDepth 8000
open Go.ChangeShapes Go.WideShapes Go.ChangeAt Go.RowKit
theorem contract (H : Type) (enc : TypeId × Value → H) (W : World) (base : Nat) (args : Array Value) (ds gs : List (DataW H)) (before : List MemPlace)
    (hval : ∀ (j : Nat) t v, Tryd.f8.params[j]? = some t → args[j]? = some v → Value.okWide Tryd.prog W .any base t v)
    (hW : DataW.Whole enc Tryd.prog Tryd.f8.params.toList Rows.purseFindsSpec.vars false W args.toList ds gs before) (hL : laidMetH Tryd.prog Rows.purseFindsRow.laid W) :
    Calls Tryd.prog 8 args W fun e W' => ∃ v, e = .returned v ∧ Rows.purseFindsSpec.post enc Tryd.prog Tryd.f8 false true false false W args v W' := by
  have hW' := hW
  obtain ⟨p, q, hA0, hV, rfl, hfz, hnd⟩ := hW
  have hA : DataW.TrodAll enc Tryd.prog W 0 (fun _ => true) true Tryd.f8.params.toList args.toList ds p := hA0
  rw [Tryd.params8] at hA hval
  obtain ⟨v0, vs0, d0, ds0, p0, q0, hargs, rfl, rfl, h0, r0⟩ := trodAll_cons hA
  obtain ⟨v1, vs1, d1, ds1, p1, q1, rfl, rfl, rfl, h1, r1⟩ := trodAll_cons r0
  obtain ⟨v2, vs2, d2, ds2, p2, q2, rfl, rfl, rfl, h2, r2⟩ := trodAll_cons r1
  obtain ⟨rfl, rfl, rfl⟩ := trodAll_nil r2
  obtain rfl : args = #[v0, v1, v2] := by cases args; simp_all
  obtain ⟨rfl, rfl⟩ := trodVars_none hV
  have lt0 : ∀ x ∈ p0, x.block < W.heap.size := by obtain ⟨m, hm⟩ := h0; exact DataW.trod_lt m _ _ _ hm
  obtain ⟨a0, n0, c0, x0, rfl, lx0, nc0, cm0, kx0, px0⟩ := open_coins (hval 0 22 v0 rfl rfl) h0
  have lt1 : ∀ x ∈ p1, x.block < W.heap.size := by obtain ⟨m, hm⟩ := h1; exact DataW.trod_lt m _ _ _ hm
  obtain ⟨x1, rfl, kx1⟩ := open_in (hval 1 42 v1 rfl rfl) h1
  obtain ⟨x2, rfl, rfl, rfl, wx2⟩ := open_int Tryd.underlying3 (hval 2 3 v2 rfl rfl) h2
  clear hA0
  refine (law_finds purseC x0 x1 x2 a0 n0 c0 W lx0 nc0 cm0 kx0 px0 kx1 (tables_of_laid hL)).mono fun e W' ⟨he, bel⟩ => ?_
  subst he
  exact ⟨_, rfl, _, _, _, [], _, [], hW', trodAll_mk1 (shut_bool Tryd.underlying4 _), (trodAll_cons_mk (Below.trod laidOut (by kernel_rfl) (of_decide_eq_true (by kernel_rfl)) h0 bel lt0) (trodAll_cons_mk (Below.trod laidOut (by kernel_rfl) (of_decide_eq_true (by kernel_rfl)) h1 bel lt1) (trodAll_cons_mk (shut_int Tryd.underlying3 wx2) trodAll_mk0))), rfl, bel.frame _, fun h => by cases h⟩
def start : Array Value := #[.slice none 0 0, zeroN, .int .i64 0]
theorem reads (os : Os) {H : Type} (enc : TypeId × Value → H) : ∃ places, DataW.whole enc Tryd.prog ((laidWorld os).forCall (fun _ _ => 0) ⟨#[], start, []⟩).memory Tryd.f8.params.toList Rows.purseFindsSpec.vars false start.toList 8 = some ([.nil, zeroND, .lit (.int .i64 0)], [], places) :=
  ⟨[], by kernel_rfl⟩
set_option maxRecDepth 100000 in
theorem lifted (os : Os) (started : os.Started) (H : Type) (enc : TypeId × Value → H) (F : Stop.Interp) :
    ReturnsInHanded {} Tryd.checked os 8 .any ((OpenSpec.ofChange Rows.purseFindsSpec).preRow enc Tryd.prog Tryd.f8 Rows.purseFindsRow.domain false Rows.purseFindsRow.laid) (((OpenSpec.ofChange Rows.purseFindsSpec).at F).post enc Tryd.prog Tryd.f8 false true false false) := by
  obtain ⟨places, hx⟩ := reads os enc
  refine returnsInHanded_of_row (C := Tryd.checked) (s := OpenSpec.ofChange Rows.purseFindsSpec) own started (by kernel_rfl) Tryd.func8
    (witness_row_at (enc := enc) (C := Tryd.checked) false (laidWorld os) start rfl (by kernel_rfl) (by kernel_rfl) (by kernel_rfl)
      (OpenSpec.preRow_of_cond 8 hx (by kernel_rfl) (fun k hk => by cases hk) (by kernel_rfl) (laidMet_of_run' 8 (by kernel_rfl) (by kernel_rfl)))) ?_
  intro W base args ds gs before hval hW _ _ _ hL _ _
  exact contract H enc W base args ds gs before hval hW hL
theorem said : Rows.PurseFindsSaid :=
  OpenClaim.holds_of_cond 8 Tryd.f8 rfl rfl rfl rfl rfl rfl rfl ⟨rfl, rfl, rfl, rfl, rfl⟩ rfl rfl rfl rfl rfl (by kernel_rfl) Tryd.func8 (by kernel_rfl)
    (of_decide_eq_true (by kernel_rfl)) (by unfold Func.isWrapper; first | (rw [if_pos (by decide +kernel)]; kernel_rfl) | (rw [if_neg (by decide +kernel)]; exact ⟨rfl, rfl⟩))
    (fun os started H enc _ F => by rw [OpenClaim.pre_eq_preRow]; exact lifted os started H enc F)
theorem plain (f : FuncId) (fn : Func) (hf : Tryd.pinned.checked.prog.funcNamed "stepladder/stepladderlaw10.PurseFinds" = some f) (hfn : Tryd.pinned.checked.prog.funcs[f]? = some fn) :
    false = Tryd.pinned.checked.prog.looks [] ∧ ∀ (j : Nat) t, fn.params[j]? = some t → Tryd.pinned.checked.prog.wantsStandIn t = false := by
  obtain rfl : f = 8 := Option.some.inj ((show Tryd.prog.funcNamed "stepladder/stepladderlaw10.PurseFinds" = some 8 by kernel_rfl).symm.trans hf) |>.symm
  obtain rfl : fn = Tryd.f8 := (Option.some.inj (Tryd.func8.symm.trans hfn)).symm
  refine ⟨by kernel_rfl, fun j t ht => ?_⟩
  rw [Tryd.params8] at ht
  have hm : t = 22 ∨ t = 42 ∨ t = 3 := by simpa using Array.mem_of_getElem? ht
  rcases hm with rfl | rfl | rfl
  · exact (show Tryd.prog.wantsStandIn 22 = false by kernel_rfl)
  · exact (show Tryd.prog.wantsStandIn 42 = false by kernel_rfl)
  · exact (show Tryd.prog.wantsStandIn 3 = false by kernel_rfl)
theorem card : Rows.PurseFindsCardSaid :=
  Claim7.holds_tied_plain_at .later [] _ _ _ _ said (fun _ h => by cases h) (by kernel_rfl) (fun _ h => by cases h) purseFinds_row_tie rfl ⟨rfl, rfl⟩ (by kernel_rfl) rfl plain (by kernel_rfl)
end Go.Proofs.YtabhhbdbkeeblaaDoor.purseFinds
