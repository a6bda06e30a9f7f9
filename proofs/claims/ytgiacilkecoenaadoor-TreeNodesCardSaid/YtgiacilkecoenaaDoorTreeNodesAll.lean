/-
  PROVED: the law stepladderlaw05.TreeNodes answers true for every input, and leaves its arguments as they were.
  Conditions: the two package-level tables of package sha hold at the call what their initialisers lay; the card ties that to the text of the program (a pruned copy of the project: the packages that the roots of this seat load).
-/
import Derived.Test.YtgiacilkecoenaaDoorCq
namespace Go.Proofs.YtgiacilkecoenaaDoor
open Go.RowKit

set_option maxRecDepth 20000 in
set_option maxHeartbeats 4000000 in
theorem law_nodes (T : TreeC) (a b : List Int) (A : Option Addr) (n c : Nat) (xs : List Int) (w : World) (ha : isId a) (hb : isId b) (hl : xs.length = n) (hnc : n ≤ c) (hcm : c ≤ maxLen) (hr : ∀ x ∈ xs, 0 ≤ x ∧ x ≤ 255) (hx : Bytes w w.heap.size A xs) (ht : Tables w) :
    Calls Tryd.prog 8 #[idv a, idv b, .slice A n c] w fun e w' => e = .returned (.bool true) ∧ Below w.heap.size w w' := by
  unfold maxLen at hcm
  obtain ⟨W, hW⟩ : ∃ W, (w.alloc (.cells (arrB 32 a) 29)).alloc (.cells (arrB 32 b) 29) = W := ⟨_, rfl⟩
  have E0 : EnvX w W [(w.heap.size + 1, Obj.cells (arrB 32 b) 29 (0, 0)), (w.heap.size, Obj.cells (arrB 32 a) 29 (0, 0))] := by rw [← hW]; exact (EnvX.start w).two _ _
  have HAW := Lib.hid (awake_any T W (ht.below E0.bel))
  have HT := Lib.hid ht
  have HE0 := Lib.hid E0
  have HTREE := Lib.hid T
  have HA := Lib.hid ha
  have HBI := Lib.hid hb
  have HL := Lib.hid hl
  have HR := Lib.hid hr
  have HX := Lib.hid hx
  have HW := Lib.hid hW
  clear ht T E0 hW ha hb hl hr hx
  unfold idv
  go_enter Tryd.func8, Tryd.ntmps8
  go_upto_region 1 with (fail)
  rw [HW.out]
  clear HW
  go_wp2_with fail
  refine HAW.out.mono ?_
  rintro e w1 ⟨rfl, hb1⟩
  have E1 := Lib.hid (EnvX.below HE0.out hb1)
  have HB1 := Lib.hid (EnvX.bel E1.out)
  clear hb1 HE0 HAW
  by_cases hbig : 200 < n
  · have hbig2 : (200 : Int) < (n : Int) := by omega
    go_wp2
    go_ret
    exact ⟨rfl, HB1.out⟩
  · have hbig2 : ¬ (200 : Int) < (n : Int) := by omega
    -- the first text
    obtain ⟨W2, hW2⟩ : ∃ W2, w1.alloc (.cells #[.int .u8 1] 5) = W2 := ⟨_, rfl⟩
    have r2 : Row W2 w1.heap.size 5 #[.int .u8 1] := by rw [← hW2]; exact Row.new w1 5 _
    have b2 : Below w1.heap.size w1 W2 := by rw [← hW2]; exact (Below.refl _ _).alloc (Nat.le_refl _) _
    have ra : Row w1 w.heap.size 29 (arrB 32 a) := EnvX.box E1.out _ _ (List.Mem.tail _ (List.Mem.head _))
    have rb : Row w1 (w.heap.size + 1) 29 (arrB 32 b) := EnvX.box E1.out _ _ (List.Mem.head _)
    have o2 : OwnB W2 w1.heap.size (.slice (some ⟨w1.heap.size, 0, none⟩) 1 1) [1] := own_of_row (n := 1) r2 rfl (Nat.le_refl _) (by decide)
    obtain ⟨v3, w3, hrun3, o3, b3⟩ := o2.append (m := 32) (c := 32) HA.out.1 (row_id HA.out.1 (ra.below b2 ra.lt)) (by simp) b2.size
    have b13 := b2.trans b3
    obtain ⟨v4, w4, hrun4, o4, b4⟩ := o3.append (m := 32) (c := 32) HBI.out.1 (row_id HBI.out.1 (rb.below b13 rb.lt)) (by simp [HA.out.1]) b13.size
    have b14 := b13.trans b4
    obtain ⟨W5, hW5⟩ : ∃ W5, w4.alloc (.cells #[.int .u8 0] 5) = W5 := ⟨_, rfl⟩
    have r5 : Row W5 w4.heap.size 5 #[.int .u8 0] := by rw [← hW5]; exact Row.new w4 5 _
    have b5 : Below w4.heap.size w4 W5 := by rw [← hW5]; exact (Below.refl _ _).alloc (Nat.le_refl _) _
    have o5 : OwnB W5 w4.heap.size (.slice (some ⟨w4.heap.size, 0, none⟩) 1 1) [0] := own_of_row (n := 1) r5 rfl (Nat.le_refl _) (by decide)
    have hb15 : Below w1.heap.size w1 W5 := b14.trans (b5.mono b14.size)
    have hxW5 : Bytes W5 W5.heap.size A xs := (HX.out.up HB1.out).up hb15
    obtain ⟨v6, w6, hrun6, o6, b6⟩ := o5.append (c := c) HL.out hxW5 (by simp; omega) b5.size
    have b46 : Below w4.heap.size w4 w6 := b5.trans b6
    have o46 := o4.below (b46)
    have b16 : Below w1.heap.size w1 w6 := b14.trans (b46.mono b14.size)
    have e4 : ([1] ++ a) ++ b = textT a b := by simp [textT]
    rw [e4] at o46 o4
    have e6 : [0] ++ xs = 0 :: xs := rfl
    rw [e6] at o6
    have HR3 := Lib.hid hrun3
    have HR4 := Lib.hid hrun4
    have HR6 := Lib.hid hrun6
    have E6 := Lib.hid (EnvX.below E1.out b16)
    have hl4 : (textT a b).length = 65 := by simp [textT, HA.out.1, HBI.out.1]
    have hl6 : (0 :: xs : List Int).length = n + 1 := by simp [HL.out]
    obtain ⟨A4, c4, rfl⟩ := o46.form
    obtain ⟨A6, c6, rfl⟩ := o6.form
    have HV4 := Lib.hid o46.up
    have HV6 := Lib.hid o6.up
    rw [hl4] at HR4
    rw [hl6] at HR6
    have HL4 := Lib.hid hl4
    have HL6 := Lib.hid hl6
    have HSA : Hid ((arrB 32 a).size = 32 ∧ (arrB 32 b).size = 32) := ⟨arrB_size _ _ (by rw [HA.out.1]; omega), arrB_size _ _ (by rw [HBI.out.1]; omega)⟩
    clear hrun3 hrun4 hrun6 o2 o3 o4 o5 o6 o46 b2 b3 b4 b5 b6 b13 b14 b46 b16 r2 r5 ra rb hxW5 hb15 hl4 hl6 e4 e6
    go_upto_region 5 with (first
      | (at_builtin; (with_reducible refine wpList_append_run (o := ⟨some 21, _, _, _, _, _⟩) ?_ (.tmp 19) (.tmp 20) ?_ ?_ ?_ ?_ HR3.out ?_); (rfl); (rfl); (rfl); (rfl); (rfl)))
    go_upto_region 6 with (first
      | (at_builtin; (with_reducible refine wpList_append_run (o := ⟨some 24, _, _, _, _, _⟩) ?_ (.tmp 22) (.tmp 23) ?_ ?_ ?_ ?_ HR4.out ?_); (rfl); (rfl); (rfl); (rfl); (rfl)))
    go_upto_region 7 with (first
      | (at_builtin; (with_reducible refine wpList_append_run (o := ⟨some 27, _, _, _, _, _⟩) ?_ (.tmp 25) (.tmp 26) ?_ ?_ ?_ ?_ HR6.out ?_); (rfl); (rfl); (rfl); (rfl); (rfl)))
    clear HR3 HR4 HR6 hW2 hW5
    have HT6 := Lib.hid (HT.out.below (EnvX.bel E6.out))
    have E7 : Hid (EnvX w6 w6 [(w.heap.size + 1, Obj.cells (arrB 32 b) 29 (0, 0)), (w.heap.size, Obj.cells (arrB 32 a) 29 (0, 0))]) := ⟨Below.refl _ _, E6.out.box⟩
    have HB6 := Lib.hid (EnvX.bel E6.out)
    have HX6 := Lib.hid (HX.out.up (EnvX.bel E6.out))
    have HTB := Lib.hid (textT_byte HA.out.2 HBI.out.2)
    have H0B : Hid (∀ x ∈ (0 :: xs : List Int), 0 ≤ x ∧ x ≤ 255) := fun x h => by
      rcases List.mem_cons.1 h with e | e
      · omega
      · exact HR.out x e
    have HNL : Hid ((nodeT a b).length = 32) := (node_id _ _).1
    have HLL : Hid ((leafT xs).length = 32) := sumL_len _
    have H2L : Hid ((sumL [2]).length = 32) := sumL_len _
    have HND : Hid (∀ u, EnvX w6 u [] → Calls Tryd.prog 19 #[idv a, idv b] u fun e w' => e = .returned (idv (nodeT a b)) ∧ Below u.heap.size u w') := fun u hu => HTREE.out.node _ _ u HA.out HBI.out (HT6.out.below (EnvX.bel hu))
    have HS4 : Hid (∀ u, EnvX w6 u [] → Calls Tryd.prog 23 #[.slice A4 65 c4] u fun e w' => e = .returned (idv (nodeT a b)) ∧ Below u.heap.size u w') := fun u hu => sum_any A4 65 c4 (textT a b) u HL4.out (by omega) (HV4.out.up (EnvX.bel hu)) HTB.out (HT6.out.below (EnvX.bel hu))
    have HS6 : Hid (∀ u, EnvX w6 u [] → Calls Tryd.prog 23 #[.slice A6 (n + 1 : Nat) c6] u fun e w' => e = .returned (idv (leafT xs)) ∧ Below u.heap.size u w') := fun u hu => sum_any A6 (n + 1) c6 (0 :: xs) u HL6.out (by omega) (HV6.out.up (EnvX.bel hu)) H0B.out (HT6.out.below (EnvX.bel hu))
    have HLF : Hid (∀ u, EnvX w6 u [] → Calls Tryd.prog 15 #[.slice A n c] u fun e w' => e = .returned (idv (leafT xs)) ∧ Below u.heap.size u w') := fun u hu => HTREE.out.leaf A n c xs u HL.out (by omega) (HX6.out.up (EnvX.bel hu)) HR.out (HT6.out.below (EnvX.bel hu))
    have HRT : Hid (∀ u, EnvX w6 u [] → Calls Tryd.prog 13 #[.slice none 0 0] u fun e w' => e = .returned (idv (sumL [2])) ∧ Below u.heap.size u w') := fun u hu => HTREE.out.root [] none 0 0 u rfl (by omega) (by omega) (by decide) (fun x h => by cases h) (Bytes.nil _ _ _) (HT6.out.below (EnvX.bel hu))
    have HS2 : Hid (∀ u g3, EnvX w6 u [] → Row u g3 5 (arrB 1 [2]) → Calls Tryd.prog 23 #[.slice (some ⟨g3, 0, none⟩) 1 1] u fun e w' => e = .returned (idv (sumL [2])) ∧ Below u.heap.size u w') := fun u g3 hu h =>
      sum_any (some ⟨g3, 0, none⟩) 1 1 [2] u rfl (by omega) (own_of_row (B := 0) (n := 1) (xs := [2]) h rfl (Nat.zero_le _) (by decide)).up (by intro x hx; simp at hx; omega) (HT6.out.below (EnvX.bel hu))
    obtain ⟨s4, hs4⟩ : ∃ s, strOfNums (textT a b) = s := ⟨_, rfl⟩
    obtain ⟨s6, hs6⟩ : ∃ s, strOfNums (0 :: xs) = s := ⟨_, rfl⟩
    have HNS : Hid ((!(s4.toList == s6.toList)) = true) := by
      show _ = _
      rw [← hs4, ← hs6, strOf_beq HTB.out H0B.out]
      simp [textT]
    have HS4' := Lib.hid hs4
    have HS6' := Lib.hid hs6
    have HEN : Hid (eqL (nodeT a b) (nodeT a b) = true) := by show _ = _; simp [eqL]
    have HEL : Hid (eqL (leafT xs) (leafT xs) = true) := by show _ = _; simp [eqL]
    have HE2 : Hid (eqL (sumL [2]) (sumL [2]) = true) := by show _ = _; simp [eqL]
    clear hs4 hs6 E1 E6
    refine wp_region_Hx (w0 := w6) [0, 1, 2, 3, 4, 5, 6, 7, 8, 9, 10, 11, 12, 13, 14, 15, 16, 17, 18, 19, 20, 21, 22, 23, 24, 25, 26] [(w.heap.size + 1, Obj.cells (arrB 32 b) 29 (0, 0)), (w.heap.size, Obj.cells (arrB 32 a) 29 (0, 0))] rfl E7.out ?_
    refine lexH_phase [0, 1, 2, 3, 4, 5, 6, 7, 8, 9, 10, 11, 12, 13, 14, 15, 16, 17, 18, 19, 20, 21] [22, 23, 24, 25, 26] ?_
    have hw1 : EnvX w6 _ [(w.heap.size + 1, Obj.cells (arrB 32 b) 29 (0, 0)), (w.heap.size, Obj.cells (arrB 32 a) 29 (0, 0))] := E7.out
    have hone := @EnvC.one _ _ _ hw1
    (refine wpG_val (v := idv a) rfl rfl (fun u hu => load_run_op u (box_load hu (List.Mem.tail _ (List.Mem.head _)) HA.out.1) rfl) ?_ hw1; intro K hK; go_big_quiet_op; go_big_quiet_on)
    (refine wpG_val (v := idv b) rfl rfl (fun u hu => load_run_op u (box_load hu (List.Mem.head _) HBI.out.1) rfl) ?_ hw1; intro K hK; go_big_quiet_op; go_big_quiet_on)
    (refine wpG_call (f := 19) (args := #[idv a, idv b]) (v := idv (nodeT a b)) rfl rfl rfl Tryd.func19 rfl rfl (fun u hu => HND.out u (EnvX.sub hu (fun _ h => by cases h))) ?_ hw1; intro K hK; go_big_quiet_op; go_big_quiet_on)
    (refine wpG_op rfl rfl rfl ?_; intro K hK; go_big_quiet_op; go_big_quiet_on)
    (refine wpG_call (f := 23) (args := #[.slice A4 65 c4]) (v := idv (nodeT a b)) rfl rfl rfl Tryd.func23 rfl rfl (fun u hu => HS4.out u (EnvX.sub hu (fun _ h => by cases h))) ?_ hw1; intro K hK; go_big_quiet_op; go_big_quiet_on)
    (refine wpG_val (v := .bool true) rfl rfl (fun u hu => eqlb_op HNL.out HNL.out HEN.out u rfl rfl) ?_ hw1; intro K hK; go_big_quiet_op; go_big_quiet_on)
    (refine wpG_op rfl rfl rfl ?_; intro K hK; go_big_quiet_op; go_big_quiet_on)
    (refine wpG_op rfl rfl rfl ?_; intro K hK; go_big_quiet_op; go_big_quiet_on)
    (refine wpG_call (f := 15) (args := #[.slice A n c]) (v := idv (leafT xs)) rfl rfl rfl Tryd.func15 rfl rfl (fun u hu => HLF.out u (EnvX.sub hu (fun _ h => by cases h))) ?_ hw1; intro K hK; go_big_quiet_op; go_big_quiet_on)
    (refine wpG_op rfl rfl rfl ?_; intro K hK; go_big_quiet_op; go_big_quiet_on)
    (refine wpG_call (f := 23) (args := #[.slice A6 (n + 1 : Nat) c6]) (v := idv (leafT xs)) rfl rfl rfl Tryd.func23 rfl rfl (fun u hu => HS6.out u (EnvX.sub hu (fun _ h => by cases h))) ?_ hw1; intro K hK; go_big_quiet_op; go_big_quiet_on)
    (refine wpG_val (v := .bool true) rfl rfl (fun u hu => eqlb_op HLL.out HLL.out HEL.out u rfl rfl) ?_ hw1; intro K hK; go_big_quiet_op; go_big_quiet_on)
    (refine wpG_op rfl rfl rfl ?_; intro K hK; go_big_quiet_op; go_big_quiet_on)
    (refine wpG_op rfl rfl rfl ?_; intro K hK; go_big_quiet_op; go_big_quiet_on)
    (refine wpG_op rfl rfl rfl ?_; intro K hK; go_big_quiet_op; go_big_quiet_on)
    (refine wpG_val (v := .string s4) rfl rfl (fun u hu => conv_op u HL4.out (HV4.out.up (EnvX.bel hu)) HS4'.out rfl) ?_ hw1; intro K hK; go_big_quiet_op; go_big_quiet_on)
    (refine wpG_op rfl rfl rfl ?_; intro K hK; go_big_quiet_op; go_big_quiet_on)
    (refine wpG_val (v := .string s6) rfl rfl (fun u hu => conv_op u HL6.out (HV6.out.up (EnvX.bel hu)) HS6'.out rfl) ?_ hw1; intro K hK; go_big_quiet_op; go_big_quiet_on)
    (refine wpG_val (v := .bool true) rfl rfl (fun u hu => nes_op u HNS.out rfl rfl) ?_ hw1; intro K hK; go_big_quiet_op; go_big_quiet_on)
    (refine wpG_op rfl rfl rfl ?_; intro K hK; go_big_quiet_op; go_big_quiet_on)
    (refine wpG_op rfl rfl rfl ?_; intro K hK; go_big_quiet_op; go_big_quiet_on)
    (refine wpG_call (f := 13) (args := #[.slice none 0 0]) (v := idv (sumL [2])) rfl rfl rfl Tryd.func13 rfl rfl (fun u hu => HRT.out u (EnvX.sub hu (fun _ h => by cases h))) ?_ hw1; intro K hK; go_big_quiet_op; go_big_quiet_on)
    clear hone hw1
    refine wpG_nil ?_
    refine (hOp_freshG (R := fun v N => ∃ g, v = .slice (some ⟨g, 0, none⟩) 1 1 ∧ N = [(g, Obj.cells (arrB 1 [2]) 5 (0, 0))]) (M0 := [(w.heap.size + 1, Obj.cells (arrB 32 b) 29 (0, 0)), (w.heap.size, Obj.cells (arrB 32 a) 29 (0, 0))]) rfl rfl rfl (fun _ h => h) (fun u hu => FAt_byte 2 u) ?_)
    rintro x N ⟨g3, rfl, rfl⟩ hf he2; intro K' hK'; go_big_quiet_op; go_big_quiet_on
    clear hf
    change lexH _ _ _ _ _ _ [(g3, Obj.cells (arrB 1 [2]) 5 (0, 0)), (w.heap.size + 1, Obj.cells (arrB 32 b) 29 (0, 0)), (w.heap.size, Obj.cells (arrB 32 a) 29 (0, 0))]
    refine lexH_phase [23, 24, 25, 26] [] ?_
    have hw3 : EnvX w6 _ [(g3, Obj.cells (arrB 1 [2]) 5 (0, 0)), (w.heap.size + 1, Obj.cells (arrB 32 b) 29 (0, 0)), (w.heap.size, Obj.cells (arrB 32 a) 29 (0, 0))] := he2.choose_spec
    have hone := @EnvC.one _ _ _ hw3
    (refine wpG_call (f := 23) (args := #[.slice (some ⟨g3, 0, none⟩) 1 1]) (v := idv (sumL [2])) rfl rfl rfl Tryd.func23 rfl rfl (fun u hu => HS2.out u g3 (EnvX.sub hu (fun _ h => by cases h)) (EnvX.row hu (List.Mem.head _))) ?_ hw3; intro K hK; go_big_quiet_op; go_big_quiet_on)
    (refine wpG_val (v := .bool true) rfl rfl (fun u hu => eqlb_op H2L.out H2L.out HE2.out u rfl rfl) ?_ hw3; intro K hK; go_big_quiet_op; go_big_quiet_on)
    (refine wpG_op rfl rfl rfl ?_; intro K hK; go_big_quiet_op; go_big_quiet_on)
    (refine wpG_op rfl rfl rfl ?_; intro K hK; go_big_quiet_op; go_big_quiet_on)
    clear hone hw3
    refine wpG_nil ?_
    intro u5 E2'
    have EX4 := Lib.hid E2'
    clear E2'
    go_wp2
    go_ret
    exact ⟨rfl, HB6.out.trans ((EnvX.bel EX4.out).mono HB6.out.size)⟩
end Go.Proofs.YtgiacilkecoenaaDoor

/-
  PROVED: the law stepladderlaw05.TreeNodes answers true for every input, and leaves its arguments as they were.
  Conditions: the two package-level tables of package sha hold at the call what their initialisers lay; the card ties that to the text of the program (a pruned copy of the project: the packages that the roots of this seat load).
-/
namespace Go.Proofs.YtgiacilkecoenaaDoor.treeNodes
open Go.ChangeShapes Go.WideShapes Go.ChangeAt Go.RowKit

theorem contract (H : Type) (enc : TypeId × Value → H) (W : World) (base : Nat) (args : Array Value) (ds gs : List (DataW H)) (before : List MemPlace)
    (hval : ∀ (j : Nat) t v, Tryd.f8.params[j]? = some t → args[j]? = some v → Value.okWide Tryd.prog W .any base t v)
    (hW : DataW.Whole enc Tryd.prog Tryd.f8.params.toList Rows.treeNodesSpec.vars false W args.toList ds gs before) (hL : laidMetH Tryd.prog Rows.treeNodesRow.laid W) :
    Calls Tryd.prog 8 args W fun e W' => ∃ v, e = .returned v ∧ Rows.treeNodesSpec.post enc Tryd.prog Tryd.f8 false true false false W args v W' := by
  have hW' := hW
  obtain ⟨p, q, hA0, hV, rfl, hfz, hnd⟩ := hW
  have hA : DataW.TrodAll enc Tryd.prog W 0 (fun _ => true) true Tryd.f8.params.toList args.toList ds p := hA0
  rw [Tryd.params8] at hA hval
  obtain ⟨v0, vs0, d0, ds0, p0, q0, hargs, rfl, rfl, h0, r0⟩ := trodAll_cons hA
  obtain ⟨v1, vs1, d1, ds1, p1, q1, rfl, rfl, rfl, h1, r1⟩ := trodAll_cons r0
  obtain ⟨v2, vs2, d2, ds2, p2, q2, rfl, rfl, rfl, h2, r2⟩ := trodAll_cons r1
  obtain ⟨rfl, rfl, rfl⟩ := trodAll_nil r2
  obtain rfl : args = #[v0, v1, v2] := by cases args; simp_all
  obtain ⟨rfl, rfl⟩ := trodVars_none hV
  have lt0 : ∀ x ∈ p0, x.block < W.heap.size := by obtain ⟨m, hm⟩ := h0; exact DataW.trod_lt m _ _ _ hm
  obtain ⟨x0, rfl, lx0, rx0⟩ := open_id (hval 0 29 v0 rfl rfl) h0
  have lt1 : ∀ x ∈ p1, x.block < W.heap.size := by obtain ⟨m, hm⟩ := h1; exact DataW.trod_lt m _ _ _ hm
  obtain ⟨x1, rfl, lx1, rx1⟩ := open_id (hval 1 29 v1 rfl rfl) h1
  have lt2 : ∀ x ∈ p2, x.block < W.heap.size := by obtain ⟨m, hm⟩ := h2; exact DataW.trod_lt m _ _ _ hm
  obtain ⟨a2, n2, c2, x2, rfl, lx2, nc2, cm2, bx2, px2⟩ := open_bytes (hval 2 23 v2 rfl rfl) h2
  clear hA0
  refine (law_nodes treeC x0 x1 a2 n2 c2 x2 W ⟨lx0, rx0⟩ ⟨lx1, rx1⟩ lx2 nc2 cm2 bx2 px2 (tables_of_laid hL)).mono fun e W' ⟨he, bel⟩ => ?_
  subst he
  exact ⟨_, rfl, _, _, _, [], _, [], hW', trodAll_mk1 (shut_bool Tryd.underlying4 _), (trodAll_cons_mk (Below.trod laidOut (by kernel_rfl) (of_decide_eq_true (by kernel_rfl)) h0 bel lt0) (trodAll_cons_mk (Below.trod laidOut (by kernel_rfl) (of_decide_eq_true (by kernel_rfl)) h1 bel lt1) (trodAll_cons_mk (Below.trod laidOut (by kernel_rfl) (of_decide_eq_true (by kernel_rfl)) h2 bel lt2) trodAll_mk0))), rfl, bel.frame _, fun h => by cases h⟩

def start : Array Value := #[zeroId, zeroId, .slice none 0 0]
theorem reads (os : Os) {H : Type} (enc : TypeId × Value → H) : ∃ places, DataW.whole enc Tryd.prog ((laidWorld os).forCall (fun _ _ => 0) ⟨#[], start, []⟩).memory Tryd.f8.params.toList Rows.treeNodesSpec.vars false start.toList 8 = some ([zeroD, zeroD, .nil], [], places) :=
  ⟨[], by kernel_rfl⟩

set_option maxRecDepth 100000 in
theorem lifted (os : Os) (started : os.Started) (H : Type) (enc : TypeId × Value → H) (F : Stop.Interp) :
    ReturnsInHanded {} Tryd.checked os 8 .any ((OpenSpec.ofChange Rows.treeNodesSpec).preRow enc Tryd.prog Tryd.f8 Rows.treeNodesRow.domain false Rows.treeNodesRow.laid) (((OpenSpec.ofChange Rows.treeNodesSpec).at F).post enc Tryd.prog Tryd.f8 false true false false) := by
  obtain ⟨places, hx⟩ := reads os enc
  refine returnsInHanded_of_row (C := Tryd.checked) (s := OpenSpec.ofChange Rows.treeNodesSpec) own started (by kernel_rfl) Tryd.func8
    (witness_row_at (enc := enc) (C := Tryd.checked) false (laidWorld os) start rfl (by kernel_rfl) (by kernel_rfl) (by kernel_rfl)
      (OpenSpec.preRow_of_cond 8 hx (by kernel_rfl) (fun k hk => by cases hk) (by kernel_rfl) (laidMet_of_run' 8 (by kernel_rfl) (by kernel_rfl)))) ?_
  intro W base args ds gs before hval hW _ _ _ hL _ _
  exact contract H enc W base args ds gs before hval hW hL

theorem said : Rows.TreeNodesSaid :=
  OpenClaim.holds_of_cond 8 Tryd.f8 rfl rfl rfl rfl rfl rfl rfl ⟨rfl, rfl, rfl, rfl, rfl⟩ rfl rfl rfl rfl rfl (by kernel_rfl) Tryd.func8 (by kernel_rfl)
    (of_decide_eq_true (by kernel_rfl)) (by unfold Func.isWrapper; first | (rw [if_pos (by decide +kernel)]; kernel_rfl) | (rw [if_neg (by decide +kernel)]; exact ⟨rfl, rfl⟩))
    (fun os started H enc _ F => by rw [OpenClaim.pre_eq_preRow]; exact lifted os started H enc F)

theorem plain (f : FuncId) (fn : Func) (hf : Tryd.pinned.checked.prog.funcNamed "stepladder/stepladderlaw05.TreeNodes" = some f) (hfn : Tryd.pinned.checked.prog.funcs[f]? = some fn) :
    false = Tryd.pinned.checked.prog.looks [] ∧ ∀ (j : Nat) t, fn.params[j]? = some t → Tryd.pinned.checked.prog.wantsStandIn t = false := by
  obtain rfl : f = 8 := Option.some.inj ((show Tryd.prog.funcNamed "stepladder/stepladderlaw05.TreeNodes" = some 8 by kernel_rfl).symm.trans hf) |>.symm
  obtain rfl : fn = Tryd.f8 := (Option.some.inj (Tryd.func8.symm.trans hfn)).symm
  refine ⟨by kernel_rfl, fun j t ht => ?_⟩
  rw [Tryd.params8] at ht
  have hm : t = 29 ∨ t = 29 ∨ t = 23 := by simpa using Array.mem_of_getElem? ht
  rcases hm with rfl | rfl | rfl
  · exact (show Tryd.prog.wantsStandIn 29 = false by kernel_rfl)
  · exact (show Tryd.prog.wantsStandIn 29 = false by kernel_rfl)
  · exact (show Tryd.prog.wantsStandIn 23 = false by kernel_rfl)
theorem card : Rows.TreeNodesCardSaid :=
  Claim7.holds_tied_plain_at .later [] _ _ _ _ said (fun _ h => by cases h) (by kernel_rfl) (fun _ h => by cases h) treeNodes_row_tie rfl ⟨rfl, rfl⟩ (by kernel_rfl) rfl plain (by kernel_rfl)

end Go.Proofs.YtgiacilkecoenaaDoor.treeNodes
