/-
  PROVED: the law stepladderlaw08.HeadSums answers true for every input, and leaves its arguments as they were.
  Conditions: the two package-level tables of package sha hold at the call what their initialisers lay; the card ties that to the text of the program (a pruned copy of the project: the packages that the roots of this seat load).
-/
import Derived.Test.YtmpjgfecnnefeaaDoorCj
namespace Go.Proofs.YtmpjgfecnnefeaaDoor
set_option maxRecDepth 8000
open Go.RowKit

set_option maxRecDepth 20000 in
set_option maxHeartbeats 8000000 in
theorem law_sumsH_no (H : HeadC) (h g : Hd) (w : World) (hh : okHd h) (hg : okHd g) (ht : Tables w) (k1 : mayPut h = false) (b : Bool) (k2 : mayPut g = b) :
    Calls Tryd.prog 5 #[hdV h, hdV g] w fun e w' => e = .returned (.bool true) ∧ Below w.heap.size w w' := by
  have HIH := Lib.hid (id_len h)
  have HZ32 : Hid (z32.length = 32) := by show _ = _; rfl
  have HIZ : Hid (eqL (idH h) z32 = true) := decide_eq_true (by unfold idH; rw [k1]; rfl)
  have HL := Lib.hid hh.len
  have HLG := Lib.hid hg.len
  have E0 : Hid (EnvX w ((w.alloc (.cells (hdA h) 29)).alloc (.cells (hdA g) 29)) [(w.heap.size + 1, Obj.cells (hdA g) 29 (0, 0)), (w.heap.size, Obj.cells (hdA h) 29 (0, 0))]) := (EnvX.start w).two _ _
  have HAW := Lib.hid (hawake_any H ((w.alloc (.cells (hdA h) 29)).alloc (.cells (hdA g) 29)) (ht.below (EnvX.bel E0.out)))
  have HT := Lib.hid ht
  have HH := Lib.hid H
  have HOK := Lib.hid (And.intro hh hg)
  have HP1 : Hid ((putH h).2 = false) := by show _ = _; unfold putH; rw [k1]; rfl
  have HP2 : Hid ((putH g).2 = b) := by show _ = _; unfold putH; rw [k2]; cases b <;> rfl
  clear ht H hh hg k1 k2
  unfold hdV
  go_enter Tryd.func5, Tryd.ntmps5
  go_upto_region 1 with (fail)
  generalize (w.alloc (.cells (hdA h) 29)).alloc (.cells (hdA g) 29) = W at *
  go_wp2_with fail
  refine HAW.out.mono ?_
  rintro e w1 ⟨rfl, hb1⟩
  have HB1 := Lib.hid (EnvX.below E0.out hb1).bel
  have E1 : Hid (EnvX w1 w1 [(w.heap.size + 1, Obj.cells (hdA g) 29 (0, 0)), (w.heap.size, Obj.cells (hdA h) 29 (0, 0))]) := ⟨Below.refl _ _, (EnvX.below E0.out hb1).box⟩
  have HT1 := Lib.hid (HT.out.below HB1.out)
  clear hb1 E0 HAW
  have HLD : Hid ((loadVar 29 ⟨w.heap.size, 0, none⟩).run Tryd.prog w1 = .ok (.agg (hdA h)) w1) := box_hd E1.out (List.Mem.tail _ (List.Mem.head _)) (okHd.len HOK.out.1)
  have HPT : Hid (Calls Tryd.prog 10 #[.agg (hdA h)] w1 fun e w' => (∃ v, e = .returned (.tuple #[v, .bool false]) ∧ OwnB w' w1.heap.size v (putH h).1) ∧ Below w1.heap.size w1 w') := by
    have h1 := HH.out.put h w1 HOK.out.1 (HT1.out.below (EnvX.bel E1.out))
    rwa [HP1.out] at h1
  go_upto_region 2 with (fail)
  go_wp2_with ((with_reducible refine wpList_load_run (o := ⟨some 14, _, _, _, _, _⟩) ?_ 29 (.tmp 2) ?_ ⟨w.heap.size, 0, none⟩ ?_ HLD.out ?_); (rfl); (rfl); (rfl))
  refine HPT.out.mono ?_
  rintro e w2 ⟨⟨v2, rfl, hv⟩, hb⟩
  have E2 : Hid (EnvX w1 w2 [(w.heap.size + 1, Obj.cells (hdA g) 29 (0, 0)), (w.heap.size, Obj.cells (hdA h) 29 (0, 0))]) := EnvX.below E1.out hb
  clear hv hb HLD HPT E1
  have HLD : Hid ((loadVar 29 ⟨w.heap.size + 1, 0, none⟩).run Tryd.prog w2 = .ok (.agg (hdA g)) w2) := box_hd E2.out (List.Mem.head _) (okHd.len HOK.out.2)
  have HPT : Hid (Calls Tryd.prog 10 #[.agg (hdA g)] w2 fun e w' => (∃ v, e = .returned (.tuple #[v, .bool b]) ∧ OwnB w' w2.heap.size v (putH g).1) ∧ Below w2.heap.size w2 w') := by
    have h1 := HH.out.put g w2 HOK.out.2 (HT1.out.below (EnvX.bel E2.out))
    rwa [HP2.out] at h1
  go_upto_region 3 with (fail)
  go_wp2_with ((with_reducible refine wpList_load_run (o := ⟨some 19, _, _, _, _, _⟩) ?_ 29 (.tmp 3) ?_ ⟨w.heap.size + 1, 0, none⟩ ?_ HLD.out ?_); (rfl); (rfl); (rfl))
  refine HPT.out.mono ?_
  rintro e w3 ⟨⟨v3, rfl, hv⟩, hb⟩
  have E3 : Hid (EnvX w1 w3 [(w.heap.size + 1, Obj.cells (hdA g) 29 (0, 0)), (w.heap.size, Obj.cells (hdA h) 29 (0, 0))]) := EnvX.below E2.out hb
  clear hv hb HLD HPT E2
  go_upto_region 4 with (fail)
  refine wp_region_Hx (w0 := w1) [0, 1, 2, 3, 4, 5, 6, 7, 8, 9] [(w.heap.size + 1, Obj.cells (hdA g) 29 (0, 0)), (w.heap.size, Obj.cells (hdA h) 29 (0, 0))] rfl E3.out ?_
  refine lexH_phase [0, 1, 2, 3, 4, 5, 6, 7, 8, 9] [] ?_
  have hw1 : EnvX w1 _ [(w.heap.size + 1, Obj.cells (hdA g) 29 (0, 0)), (w.heap.size, Obj.cells (hdA h) 29 (0, 0))] := E3.out
  have hone := @EnvC.one _ _ _ hw1
  (refine wpG_op rfl rfl rfl ?_; intro K hK; go_big_quiet_op; go_big_quiet_on)
  (refine wpG_op rfl rfl rfl ?_; intro K hK; go_big_quiet_op; go_big_quiet_on)
  (refine wpG_op rfl rfl rfl ?_; intro K hK; go_big_quiet_op; go_big_quiet_on)
  (refine wpG_op rfl rfl rfl ?_; intro K hK; go_big_quiet_op; go_big_quiet_on)
  (refine wpG_op rfl rfl rfl ?_; intro K hK; go_big_quiet_op; go_big_quiet_on)
  (refine wpG_op rfl rfl rfl ?_; intro K hK; go_big_quiet_op; go_big_quiet_on)
  (refine wpG_op rfl rfl rfl ?_; intro K hK; go_big_quiet_op; go_big_quiet_on)
  (refine wpG_skip rfl rfl ?_ hw1; intro K hK; go_big_quiet_op; go_big_quiet_on)
  (refine wpG_skip rfl rfl ?_ hw1; intro K hK; go_big_quiet_op; go_big_quiet_on)
  (refine wpG_op rfl rfl rfl ?_; intro K hK; go_big_quiet_op; go_big_quiet_on)
  clear hone hw1
  refine wpG_nil ?_
  intro u3 E2'
  have EX2 := Lib.hid E2'
  clear E2'
  go_upto_region 5 with (fail)
  refine wp_region_Hx (w0 := w1) [0, 1, 2, 3, 4, 5, 6, 7, 8, 9, 10] [(w.heap.size + 1, Obj.cells (hdA g) 29 (0, 0)), (w.heap.size, Obj.cells (hdA h) 29 (0, 0))] rfl EX2.out ?_
  refine lexH_phase [0, 1, 2, 3, 4, 5, 6, 7, 8, 9, 10] [] ?_
  have hw4 : EnvX w1 _ [(w.heap.size + 1, Obj.cells (hdA g) 29 (0, 0)), (w.heap.size, Obj.cells (hdA h) 29 (0, 0))] := EX2.out
  have hone := @EnvC.one _ _ _ hw4
  (refine wpG_op rfl rfl rfl ?_; intro K hK; go_big_quiet_op; go_big_quiet_on)
  (refine wpG_op rfl rfl rfl ?_; intro K hK; go_big_quiet_op; go_big_quiet_on)
  (refine wpG_op rfl rfl rfl ?_; intro K hK; go_big_quiet_op; go_big_quiet_on)
  (refine wpG_op rfl rfl rfl ?_; intro K hK; go_big_quiet_op; go_big_quiet_on)
  (refine wpG_val (v := hdV h) rfl rfl (fun u hu => load_any_op u (box_hd hu (List.Mem.tail _ (List.Mem.head _)) HL.out) rfl) ?_ hw4; intro K hK; go_big_quiet_op; go_big_quiet_on)
  (refine wpG_call (f := 17) (args := #[hdV h]) (v := idv (idH h)) rfl rfl rfl Tryd.func17 rfl rfl (fun u hu => HH.out.id h u HOK.out.1 (HT1.out.below (EnvX.bel hu))) ?_ hw4; intro K hK; go_big_quiet_op; go_big_quiet_on)
  (refine wpG_val (v := idv z32) rfl rfl (fun u hu => buildA_op u hbuilt0) ?_ hw4; intro K hK; go_big_quiet_op; go_big_quiet_on)
  (refine wpG_val (v := .bool true) rfl rfl (fun u hu => eqlb_op HIH.out HZ32.out HIZ.out u rfl rfl) ?_ hw4; intro K hK; go_big_quiet_op; go_big_quiet_on)
  (refine wpG_op rfl rfl rfl ?_; intro K hK; go_big_quiet_op; go_big_quiet_on)
  (refine wpG_op rfl rfl rfl ?_; intro K hK; go_big_quiet_op; go_big_quiet_on)
  (refine wpG_op rfl rfl rfl ?_; intro K hK; go_big_quiet_op; go_big_quiet_on)
  clear hone hw4
  refine wpG_nil ?_
  intro u6 E2'
  have EX5 := Lib.hid E2'
  clear E2'
  have HBE := Lib.hid (HB1.out.trans ((EnvX.bel EX5.out).mono HB1.out.size))
  go_wp2
  go_ret
  exact ⟨rfl, HBE.out⟩
set_option maxRecDepth 20000 in
set_option maxHeartbeats 8000000 in
theorem law_sumsH_one (H : HeadC) (h g : Hd) (w : World) (hh : okHd h) (hg : okHd g) (ht : Tables w) (k1 : mayPut h = true) (k2 : mayPut g = false) :
    Calls Tryd.prog 5 #[hdV h, hdV g] w fun e w' => e = .returned (.bool true) ∧ Below w.heap.size w w' := by
  have HIH := Lib.hid (id_len h)
  have HZ32 : Hid (z32.length = 32) := by show _ = _; rfl
  have HL := Lib.hid hh.len
  have HLG := Lib.hid hg.len
  have E0 : Hid (EnvX w ((w.alloc (.cells (hdA h) 29)).alloc (.cells (hdA g) 29)) [(w.heap.size + 1, Obj.cells (hdA g) 29 (0, 0)), (w.heap.size, Obj.cells (hdA h) 29 (0, 0))]) := (EnvX.start w).two _ _
  have HAW := Lib.hid (hawake_any H ((w.alloc (.cells (hdA h) 29)).alloc (.cells (hdA g) 29)) (ht.below (EnvX.bel E0.out)))
  have HT := Lib.hid ht
  have HH := Lib.hid H
  have HOK := Lib.hid (And.intro hh hg)
  have HP1 : Hid ((putH h).2 = true) := by show _ = _; unfold putH; rw [k1]; rfl
  have HP2 : Hid ((putH g).2 = false) := by show _ = _; unfold putH; rw [k2]; rfl
  clear ht H hh hg k1 k2
  unfold hdV
  go_enter Tryd.func5, Tryd.ntmps5
  go_upto_region 1 with (fail)
  generalize (w.alloc (.cells (hdA h) 29)).alloc (.cells (hdA g) 29) = W at *
  go_wp2_with fail
  refine HAW.out.mono ?_
  rintro e w1 ⟨rfl, hb1⟩
  have HB1 := Lib.hid (EnvX.below E0.out hb1).bel
  have E1 : Hid (EnvX w1 w1 [(w.heap.size + 1, Obj.cells (hdA g) 29 (0, 0)), (w.heap.size, Obj.cells (hdA h) 29 (0, 0))]) := ⟨Below.refl _ _, (EnvX.below E0.out hb1).box⟩
  have HT1 := Lib.hid (HT.out.below HB1.out)
  clear hb1 E0 HAW
  have HLD : Hid ((loadVar 29 ⟨w.heap.size, 0, none⟩).run Tryd.prog w1 = .ok (.agg (hdA h)) w1) := box_hd E1.out (List.Mem.tail _ (List.Mem.head _)) (okHd.len HOK.out.1)
  have HPT : Hid (Calls Tryd.prog 10 #[.agg (hdA h)] w1 fun e w' => (∃ v, e = .returned (.tuple #[v, .bool true]) ∧ OwnB w' w1.heap.size v (putH h).1) ∧ Below w1.heap.size w1 w') := by
    have h1 := HH.out.put h w1 HOK.out.1 (HT1.out.below (EnvX.bel E1.out))
    rwa [HP1.out] at h1
  go_upto_region 2 with (fail)
  go_wp2_with ((with_reducible refine wpList_load_run (o := ⟨some 14, _, _, _, _, _⟩) ?_ 29 (.tmp 2) ?_ ⟨w.heap.size, 0, none⟩ ?_ HLD.out ?_); (rfl); (rfl); (rfl))
  refine HPT.out.mono ?_
  rintro e w2 ⟨⟨v2, rfl, hv⟩, hb⟩
  have E2 : Hid (EnvX w1 w2 [(w.heap.size + 1, Obj.cells (hdA g) 29 (0, 0)), (w.heap.size, Obj.cells (hdA h) 29 (0, 0))]) := EnvX.below E1.out hb
  clear hv hb HLD HPT E1
  have HLD : Hid ((loadVar 29 ⟨w.heap.size + 1, 0, none⟩).run Tryd.prog w2 = .ok (.agg (hdA g)) w2) := box_hd E2.out (List.Mem.head _) (okHd.len HOK.out.2)
  have HPT : Hid (Calls Tryd.prog 10 #[.agg (hdA g)] w2 fun e w' => (∃ v, e = .returned (.tuple #[v, .bool false]) ∧ OwnB w' w2.heap.size v (putH g).1) ∧ Below w2.heap.size w2 w') := by
    have h1 := HH.out.put g w2 HOK.out.2 (HT1.out.below (EnvX.bel E2.out))
    rwa [HP2.out] at h1
  go_upto_region 3 with (fail)
  go_wp2_with ((with_reducible refine wpList_load_run (o := ⟨some 19, _, _, _, _, _⟩) ?_ 29 (.tmp 3) ?_ ⟨w.heap.size + 1, 0, none⟩ ?_ HLD.out ?_); (rfl); (rfl); (rfl))
  refine HPT.out.mono ?_
  rintro e w3 ⟨⟨v3, rfl, hv⟩, hb⟩
  have E3 : Hid (EnvX w1 w3 [(w.heap.size + 1, Obj.cells (hdA g) 29 (0, 0)), (w.heap.size, Obj.cells (hdA h) 29 (0, 0))]) := EnvX.below E2.out hb
  clear hv hb HLD HPT E2
  go_upto_region 4 with (fail)
  refine wp_region_Hx (w0 := w1) [0, 1, 2, 3, 4, 5, 6, 7, 8, 9] [(w.heap.size + 1, Obj.cells (hdA g) 29 (0, 0)), (w.heap.size, Obj.cells (hdA h) 29 (0, 0))] rfl E3.out ?_
  refine lexH_phase [0, 1, 2, 3, 4, 5, 6, 7, 8, 9] [] ?_
  have hw1 : EnvX w1 _ [(w.heap.size + 1, Obj.cells (hdA g) 29 (0, 0)), (w.heap.size, Obj.cells (hdA h) 29 (0, 0))] := E3.out
  have hone := @EnvC.one _ _ _ hw1
  (refine wpG_op rfl rfl rfl ?_; intro K hK; go_big_quiet_op; go_big_quiet_on)
  (refine wpG_op rfl rfl rfl ?_; intro K hK; go_big_quiet_op; go_big_quiet_on)
  (refine wpG_op rfl rfl rfl ?_; intro K hK; go_big_quiet_op; go_big_quiet_on)
  (refine wpG_op rfl rfl rfl ?_; intro K hK; go_big_quiet_op; go_big_quiet_on)
  (refine wpG_op rfl rfl rfl ?_; intro K hK; go_big_quiet_op; go_big_quiet_on)
  (refine wpG_op rfl rfl rfl ?_; intro K hK; go_big_quiet_op; go_big_quiet_on)
  (refine wpG_op rfl rfl rfl ?_; intro K hK; go_big_quiet_op; go_big_quiet_on)
  (refine wpG_op rfl rfl rfl ?_; intro K hK; go_big_quiet_op; go_big_quiet_on)
  (refine wpG_op rfl rfl rfl ?_; intro K hK; go_big_quiet_op; go_big_quiet_on)
  (refine wpG_op rfl rfl rfl ?_; intro K hK; go_big_quiet_op; go_big_quiet_on)
  clear hone hw1
  refine wpG_nil ?_
  intro u3 E2'
  have EX2 := Lib.hid E2'
  clear E2'
  go_upto_region 5 with (fail)
  refine wp_region_Hx (w0 := w1) [0, 1, 2, 3, 4, 5, 6, 7, 8, 9, 10] [(w.heap.size + 1, Obj.cells (hdA g) 29 (0, 0)), (w.heap.size, Obj.cells (hdA h) 29 (0, 0))] rfl EX2.out ?_
  refine lexH_phase [0, 1, 2, 3, 4, 5, 6, 7, 8, 9, 10] [] ?_
  have hw4 : EnvX w1 _ [(w.heap.size + 1, Obj.cells (hdA g) 29 (0, 0)), (w.heap.size, Obj.cells (hdA h) 29 (0, 0))] := EX2.out
  have hone := @EnvC.one _ _ _ hw4
  (refine wpG_op rfl rfl rfl ?_; intro K hK; go_big_quiet_op; go_big_quiet_on)
  (refine wpG_op rfl rfl rfl ?_; intro K hK; go_big_quiet_op; go_big_quiet_on)
  (refine wpG_op rfl rfl rfl ?_; intro K hK; go_big_quiet_op; go_big_quiet_on)
  (refine wpG_op rfl rfl rfl ?_; intro K hK; go_big_quiet_op; go_big_quiet_on)
  (refine wpG_skip rfl rfl ?_ hw4; intro K hK; go_big_quiet_op; go_big_quiet_on)
  (refine wpG_skip rfl rfl ?_ hw4; intro K hK; go_big_quiet_op; go_big_quiet_on)
  (refine wpG_skip rfl rfl ?_ hw4; intro K hK; go_big_quiet_op; go_big_quiet_on)
  (refine wpG_skip rfl rfl ?_ hw4; intro K hK; go_big_quiet_op; go_big_quiet_on)
  (refine wpG_op rfl rfl rfl ?_; intro K hK; go_big_quiet_op; go_big_quiet_on)
  (refine wpG_op rfl rfl rfl ?_; intro K hK; go_big_quiet_op; go_big_quiet_on)
  (refine wpG_op rfl rfl rfl ?_; intro K hK; go_big_quiet_op; go_big_quiet_on)
  clear hone hw4
  refine wpG_nil ?_
  intro u6 E2'
  have EX5 := Lib.hid E2'
  clear E2'
  have HBE := Lib.hid (HB1.out.trans ((EnvX.bel EX5.out).mono HB1.out.size))
  go_wp2
  go_ret
  exact ⟨rfl, HBE.out⟩
set_option maxRecDepth 20000 in
set_option maxHeartbeats 8000000 in
theorem law_sumsH_same (H : HeadC) (h g : Hd) (w : World) (hh : okHd h) (hg : okHd g) (ht : Tables w) (k1 : mayPut h = true) (k2 : mayPut g = true) (k3 : h = g) :
    Calls Tryd.prog 5 #[hdV h, hdV g] w fun e w' => e = .returned (.bool true) ∧ Below w.heap.size w w' := by
  have HIH := Lib.hid (id_len h)
  have HIG := Lib.hid (id_len g)
  have HBh := Lib.hid (And.intro (body_len hh) (body_byte hh))
  have HBg := Lib.hid (And.intro (body_len hg) (body_byte hg))
  have HQh : Hid ((putH h).1 = bodyH h) := by show _ = _; unfold putH; rw [k1]; rfl
  have HQg : Hid ((putH g).1 = bodyH g) := by show _ = _; unfold putH; rw [k2]; rfl
  have hb5 : ∀ x : Hd, okHd x → (5 :: bodyH x).length = 1 + 176 ∧ isB (5 :: bodyH x) := fun x hx => ⟨by rw [List.length_cons, body_len hx], fun y hy => by
    rcases List.mem_cons.1 hy with e | e
    · rw [e]; decide
    · exact body_byte hx y e⟩
  have HTh := Lib.hid (hb5 h hh)
  have HTg := Lib.hid (hb5 g hg)
  have HSH : Hid ((sumL (5 :: bodyH h)).length = 32) := sumL_len _
  have HSG : Hid ((sumL (5 :: bodyH g)).length = 32) := sumL_len _
  have HEH : Hid ((!eqL (idH h) (sumL (5 :: bodyH h))) = false) := by show _ = _; unfold idH; rw [k1]; simp [eqL]
  have HEG : Hid ((!eqL (idH g) (sumL (5 :: bodyH g))) = false) := by show _ = _; unfold idH; rw [k2]; simp [eqL]
  clear hb5
  have HEE : Hid (eqH h g = true) := decide_eq_true k3
  clear k3
  have HL := Lib.hid hh.len
  have HLG := Lib.hid hg.len
  have E0 : Hid (EnvX w ((w.alloc (.cells (hdA h) 29)).alloc (.cells (hdA g) 29)) [(w.heap.size + 1, Obj.cells (hdA g) 29 (0, 0)), (w.heap.size, Obj.cells (hdA h) 29 (0, 0))]) := (EnvX.start w).two _ _
  have HAW := Lib.hid (hawake_any H ((w.alloc (.cells (hdA h) 29)).alloc (.cells (hdA g) 29)) (ht.below (EnvX.bel E0.out)))
  have HT := Lib.hid ht
  have HH := Lib.hid H
  have HOK := Lib.hid (And.intro hh hg)
  have HP1 : Hid ((putH h).2 = true) := by show _ = _; unfold putH; rw [k1]; rfl
  have HP2 : Hid ((putH g).2 = true) := by show _ = _; unfold putH; rw [k2]; rfl
  clear ht H hh hg k1 k2
  unfold hdV
  go_enter Tryd.func5, Tryd.ntmps5
  go_upto_region 1 with (fail)
  generalize (w.alloc (.cells (hdA h) 29)).alloc (.cells (hdA g) 29) = W at *
  go_wp2_with fail
  refine HAW.out.mono ?_
  rintro e w1 ⟨rfl, hb1⟩
  have HB1 := Lib.hid (EnvX.below E0.out hb1).bel
  have E1 : Hid (EnvX w1 w1 [(w.heap.size + 1, Obj.cells (hdA g) 29 (0, 0)), (w.heap.size, Obj.cells (hdA h) 29 (0, 0))]) := ⟨Below.refl _ _, (EnvX.below E0.out hb1).box⟩
  have HT1 := Lib.hid (HT.out.below HB1.out)
  clear hb1 E0 HAW
  have HLD : Hid ((loadVar 29 ⟨w.heap.size, 0, none⟩).run Tryd.prog w1 = .ok (.agg (hdA h)) w1) := box_hd E1.out (List.Mem.tail _ (List.Mem.head _)) (okHd.len HOK.out.1)
  have HPT : Hid (Calls Tryd.prog 10 #[.agg (hdA h)] w1 fun e w' => (∃ v, e = .returned (.tuple #[v, .bool true]) ∧ OwnB w' w1.heap.size v (putH h).1) ∧ Below w1.heap.size w1 w') := by
    have h1 := HH.out.put h w1 HOK.out.1 (HT1.out.below (EnvX.bel E1.out))
    rwa [HP1.out] at h1
  go_upto_region 2 with (fail)
  go_wp2_with ((with_reducible refine wpList_load_run (o := ⟨some 14, _, _, _, _, _⟩) ?_ 29 (.tmp 2) ?_ ⟨w.heap.size, 0, none⟩ ?_ HLD.out ?_); (rfl); (rfl); (rfl))
  refine HPT.out.mono ?_
  rintro e w2 ⟨⟨v2, rfl, hv⟩, hb⟩
  obtain ⟨hv1, ⟨_, h0⟩ | ⟨gp, capgp, curgp, rfl, hg1, hg2, hg3⟩⟩ := hv
  · have := HBh.out.1
    have e : (putH h).1 = bodyH h := HQh.out
    rw [e] at h0
    omega
  have E2 : Hid (EnvX w1 w2 [(gp, Obj.cells curgp 5 (0, 0)), (w.heap.size + 1, Obj.cells (hdA g) 29 (0, 0)), (w.heap.size, Obj.cells (hdA h) 29 (0, 0))]) := ⟨(EnvX.below E1.out hb).bel, fun q o hm => by
    rcases List.mem_cons.1 hm with e | e
    · cases e
      exact hg2
    · exact (EnvX.below E1.out hb).box q o e⟩
  have HLEgp : Hid (w1.heap.size ≤ gp) := Nat.le_trans (EnvX.bel E1.out).size hg1
  have HNEgp : Hid (w1.heap.size ≤ gp) := hg1
  have HLTgp : Hid (∀ q o, (q, o) ∈ [(w.heap.size + 1, Obj.cells (hdA g) 29 (0, 0)), (w.heap.size, Obj.cells (hdA h) 29 (0, 0))] → q ≠ gp) := fun q o hm e => by
    have h1 := EnvX.lt E1.out hm
    have h2 := hg1
    omega
  rw [show (putH h).1 = bodyH h from HQh.out, HBh.out.1] at hg3 ⊢
  have HCgp := Lib.hid hg3
  clear hv1 hb HLD HPT hg1 hg2 hg3 E1
  have HLD : Hid ((loadVar 29 ⟨w.heap.size + 1, 0, none⟩).run Tryd.prog w2 = .ok (.agg (hdA g)) w2) := box_hd E2.out (List.Mem.tail _ (List.Mem.head _)) (okHd.len HOK.out.2)
  have HPT : Hid (Calls Tryd.prog 10 #[.agg (hdA g)] w2 fun e w' => (∃ v, e = .returned (.tuple #[v, .bool true]) ∧ OwnB w' w2.heap.size v (putH g).1) ∧ Below w2.heap.size w2 w') := by
    have h1 := HH.out.put g w2 HOK.out.2 (HT1.out.below (EnvX.bel E2.out))
    rwa [HP2.out] at h1
  go_upto_region 3 with (fail)
  go_wp2_with ((with_reducible refine wpList_load_run (o := ⟨some 19, _, _, _, _, _⟩) ?_ 29 (.tmp 3) ?_ ⟨w.heap.size + 1, 0, none⟩ ?_ HLD.out ?_); (rfl); (rfl); (rfl))
  refine HPT.out.mono ?_
  rintro e w3 ⟨⟨v3, rfl, hv⟩, hb⟩
  obtain ⟨hv1, ⟨_, h0⟩ | ⟨gq, capgq, curgq, rfl, hg1, hg2, hg3⟩⟩ := hv
  · have := HBg.out.1
    have e : (putH g).1 = bodyH g := HQg.out
    rw [e] at h0
    omega
  have E3 : Hid (EnvX w1 w3 [(gq, Obj.cells curgq 5 (0, 0)), (gp, Obj.cells curgp 5 (0, 0)), (w.heap.size + 1, Obj.cells (hdA g) 29 (0, 0)), (w.heap.size, Obj.cells (hdA h) 29 (0, 0))]) := ⟨(EnvX.below E2.out hb).bel, fun q o hm => by
    rcases List.mem_cons.1 hm with e | e
    · cases e
      exact hg2
    · exact (EnvX.below E2.out hb).box q o e⟩
  have HLEgq : Hid (w1.heap.size ≤ gq) := Nat.le_trans (EnvX.bel E2.out).size hg1
  have HNEgq : Hid (w2.heap.size ≤ gq) := hg1
  have HLTgq : Hid (∀ q o, (q, o) ∈ [(gp, Obj.cells curgp 5 (0, 0)), (w.heap.size + 1, Obj.cells (hdA g) 29 (0, 0)), (w.heap.size, Obj.cells (hdA h) 29 (0, 0))] → q ≠ gq) := fun q o hm e => by
    have h1 := EnvX.lt E2.out hm
    have h2 := hg1
    omega
  rw [show (putH g).1 = bodyH g from HQg.out, HBg.out.1] at hg3 ⊢
  have HCgq := Lib.hid hg3
  clear hv1 hb HLD HPT hg1 hg2 hg3 E2
  go_upto_region 4 with (fail)
  refine wp_region_Hx (w0 := w1) [0, 1, 2, 3, 4, 5, 6, 7, 8, 9] [(gq, Obj.cells curgq 5 (0, 0)), (gp, Obj.cells curgp 5 (0, 0)), (w.heap.size + 1, Obj.cells (hdA g) 29 (0, 0)), (w.heap.size, Obj.cells (hdA h) 29 (0, 0))] rfl E3.out ?_
  refine lexH_phase [0, 1, 2, 3, 4, 5, 6, 7, 8, 9] [] ?_
  have hw1 : EnvX w1 _ [(gq, Obj.cells curgq 5 (0, 0)), (gp, Obj.cells curgp 5 (0, 0)), (w.heap.size + 1, Obj.cells (hdA g) 29 (0, 0)), (w.heap.size, Obj.cells (hdA h) 29 (0, 0))] := E3.out
  have hone := @EnvC.one _ _ _ hw1
  (refine wpG_op rfl rfl rfl ?_; intro K hK; go_big_quiet_op; go_big_quiet_on)
  (refine wpG_op rfl rfl rfl ?_; intro K hK; go_big_quiet_op; go_big_quiet_on)
  (refine wpG_op rfl rfl rfl ?_; intro K hK; go_big_quiet_op; go_big_quiet_on)
  (refine wpG_op rfl rfl rfl ?_; intro K hK; go_big_quiet_op; go_big_quiet_on)
  (refine wpG_op rfl rfl rfl ?_; intro K hK; go_big_quiet_op; go_big_quiet_on)
  (refine wpG_op rfl rfl rfl ?_; intro K hK; go_big_quiet_op; go_big_quiet_on)
  (refine wpG_op rfl rfl rfl ?_; intro K hK; go_big_quiet_op; go_big_quiet_on)
  (refine wpG_op rfl rfl rfl ?_; intro K hK; go_big_quiet_op; go_big_quiet_on)
  (refine wpG_op rfl rfl rfl ?_; intro K hK; go_big_quiet_op; go_big_quiet_on)
  (refine wpG_op rfl rfl rfl ?_; intro K hK; go_big_quiet_op; go_big_quiet_on)
  clear hone hw1
  refine wpG_nil ?_
  intro u3 E2'
  have EX2 := Lib.hid E2'
  clear E2'
  go_upto_region 6 with (fail)
  refine wp_region_Hx (w0 := w1) [0, 1, 2, 3] [(gq, Obj.cells curgq 5 (0, 0)), (gp, Obj.cells curgp 5 (0, 0)), (w.heap.size + 1, Obj.cells (hdA g) 29 (0, 0)), (w.heap.size, Obj.cells (hdA h) 29 (0, 0))] rfl EX2.out ?_
  refine (hOp_fresh (R := fun v N => ∃ g, v = .slice (some ⟨g, 0, none⟩) 1 1 ∧ N = [(g, Obj.cells #[.int .u8 5] 5 (0, 0))]) (M0 := [(gq, Obj.cells curgq 5 (0, 0)), (gp, Obj.cells curgp 5 (0, 0)), (w.heap.size + 1, Obj.cells (hdA g) 29 (0, 0)), (w.heap.size, Obj.cells (hdA h) 29 (0, 0))]) rfl rfl (fun _ h => h) (fun u hu => FAt_byte1 5 u) ?_)
  rintro _ _ ⟨g56, rfl, rfl⟩ hf he4; intro K' hK'; go_big_quiet_op; go_big_quiet_on
  have HGg56 := Lib.hid (hf _ (List.mem_singleton.2 rfl))
  clear hf
  change lexH _ _ _ _ _ _ [(g56, Obj.cells #[.int .u8 5] 5 (0, 0)), (gq, Obj.cells curgq 5 (0, 0)), (gp, Obj.cells curgp 5 (0, 0)), (w.heap.size + 1, Obj.cells (hdA g) 29 (0, 0)), (w.heap.size, Obj.cells (hdA h) 29 (0, 0))]
  refine lexH_phase [1] [2, 3] ?_
  have hw5 : EnvX w1 _ [(g56, Obj.cells #[.int .u8 5] 5 (0, 0)), (gq, Obj.cells curgq 5 (0, 0)), (gp, Obj.cells curgp 5 (0, 0)), (w.heap.size + 1, Obj.cells (hdA g) 29 (0, 0)), (w.heap.size, Obj.cells (hdA h) 29 (0, 0))] := he4.choose_spec
  have hone := @EnvC.one _ _ _ hw5
  (refine wpG_op rfl rfl rfl ?_; intro K hK; go_big_quiet_op; go_big_quiet_on)
  clear hone hw5
  refine wpG_nil ?_
  refine (hOp_own (gd := none) (R := GrownR w1 5 1 (1 + 176) ([.int .u8 5] ++ (bodyH h).map u8v) [(gq, Obj.cells curgq 5 (0, 0)), (w.heap.size + 1, Obj.cells (hdA g) 29 (0, 0)), (w.heap.size, Obj.cells (hdA h) 29 (0, 0))]) rfl rfl rfl rfl (fun u hu => appX_op elB [(gq, Obj.cells curgq 5 (0, 0)), (w.heap.size + 1, Obj.cells (hdA g) 29 (0, 0)), (w.heap.size, Obj.cells (hdA h) 29 (0, 0))] hu (n := 1) rfl (by rw [List.length_map, HBh.out.1]) u8_one (.inl ⟨g56, 1, #[.int .u8 5], rfl, rfl, by decide, by decide, rfl, rfl⟩) (List.forall_mem_cons.2 ⟨⟨(List.Mem.head _), HGg56.out.1⟩, (fun _ h => by cases h)⟩) (src_box hu (List.Mem.tail _ (List.Mem.tail _ (List.Mem.head _))) (by rw [List.drop_zero, List.length_map, HBh.out.1]; exact HCgp.out.2.2.2)) (List.forall_mem_cons.2 ⟨⟨(List.Mem.tail _ (List.Mem.head _)), fun y hy => by cases List.mem_singleton.1 hy; exact HGg56.out.2 _ (List.Mem.head _)⟩, (List.forall_mem_cons.2 ⟨⟨(List.Mem.tail _ (List.Mem.tail _ (List.Mem.tail _ (List.Mem.head _)))), fun y hy => by cases List.mem_singleton.1 hy; exact HGg56.out.2 _ (List.Mem.tail _ (List.Mem.tail _ (List.Mem.head _)))⟩, (List.forall_mem_cons.2 ⟨⟨(List.Mem.tail _ (List.Mem.tail _ (List.Mem.tail _ (List.Mem.tail _ (List.Mem.head _))))), fun y hy => by cases List.mem_singleton.1 hy; exact HGg56.out.2 _ (List.Mem.tail _ (List.Mem.tail _ (List.Mem.tail _ (List.Mem.head _))))⟩, (fun _ h => by cases h)⟩)⟩)⟩) (by omega) rfl rfl) ?_)
  rintro x M' ⟨N, rfl, hF, hn⟩ he6; intro K' hK'; go_big_quiet_op; go_big_quiet_on
  obtain ⟨ga, capga, curga, rfl, rfl, hcga⟩ | ⟨_, _, h0, _⟩ := hF
  case inr => omega
  have HCga := Lib.hid hcga
  clear hcga hn
  change lexH _ _ _ _ _ _ [(ga, Obj.cells curga 5 (0, 0)), (gq, Obj.cells curgq 5 (0, 0)), (w.heap.size + 1, Obj.cells (hdA g) 29 (0, 0)), (w.heap.size, Obj.cells (hdA h) 29 (0, 0))]
  refine lexH_phase [3] [] ?_
  have hw7 : EnvX w1 _ [(ga, Obj.cells curga 5 (0, 0)), (gq, Obj.cells curgq 5 (0, 0)), (w.heap.size + 1, Obj.cells (hdA g) 29 (0, 0)), (w.heap.size, Obj.cells (hdA h) 29 (0, 0))] := he6.choose_spec
  have hone := @EnvC.one _ _ _ hw7
  (refine wpG_op rfl rfl rfl ?_; intro K hK; go_big_quiet_op; go_big_quiet_on)
  clear hone hw7
  refine wpG_nil ?_
  intro u9 E2'
  have EX8 := Lib.hid E2'
  clear E2'
  go_upto_region 7 with (fail)
  refine wp_region_Hx (w0 := w1) [0, 1, 2, 3] [(ga, Obj.cells curga 5 (0, 0)), (gq, Obj.cells curgq 5 (0, 0)), (w.heap.size + 1, Obj.cells (hdA g) 29 (0, 0)), (w.heap.size, Obj.cells (hdA h) 29 (0, 0))] rfl EX8.out ?_
  refine (hOp_fresh (R := fun v N => ∃ g, v = .slice (some ⟨g, 0, none⟩) 1 1 ∧ N = [(g, Obj.cells #[.int .u8 5] 5 (0, 0))]) (M0 := [(ga, Obj.cells curga 5 (0, 0)), (gq, Obj.cells curgq 5 (0, 0)), (w.heap.size + 1, Obj.cells (hdA g) 29 (0, 0)), (w.heap.size, Obj.cells (hdA h) 29 (0, 0))]) rfl rfl (fun _ h => h) (fun u hu => FAt_byte1 5 u) ?_)
  rintro _ _ ⟨g57, rfl, rfl⟩ hf he10; intro K' hK'; go_big_quiet_op; go_big_quiet_on
  have HGg57 := Lib.hid (hf _ (List.mem_singleton.2 rfl))
  clear hf
  change lexH _ _ _ _ _ _ [(g57, Obj.cells #[.int .u8 5] 5 (0, 0)), (ga, Obj.cells curga 5 (0, 0)), (gq, Obj.cells curgq 5 (0, 0)), (w.heap.size + 1, Obj.cells (hdA g) 29 (0, 0)), (w.heap.size, Obj.cells (hdA h) 29 (0, 0))]
  refine lexH_phase [1] [2, 3] ?_
  have hw11 : EnvX w1 _ [(g57, Obj.cells #[.int .u8 5] 5 (0, 0)), (ga, Obj.cells curga 5 (0, 0)), (gq, Obj.cells curgq 5 (0, 0)), (w.heap.size + 1, Obj.cells (hdA g) 29 (0, 0)), (w.heap.size, Obj.cells (hdA h) 29 (0, 0))] := he10.choose_spec
  have hone := @EnvC.one _ _ _ hw11
  (refine wpG_op rfl rfl rfl ?_; intro K hK; go_big_quiet_op; go_big_quiet_on)
  clear hone hw11
  refine wpG_nil ?_
  refine (hOp_own (gd := none) (R := GrownR w1 5 1 (1 + 176) ([.int .u8 5] ++ (bodyH g).map u8v) [(ga, Obj.cells curga 5 (0, 0)), (w.heap.size + 1, Obj.cells (hdA g) 29 (0, 0)), (w.heap.size, Obj.cells (hdA h) 29 (0, 0))]) rfl rfl rfl rfl (fun u hu => appX_op elB [(ga, Obj.cells curga 5 (0, 0)), (w.heap.size + 1, Obj.cells (hdA g) 29 (0, 0)), (w.heap.size, Obj.cells (hdA h) 29 (0, 0))] hu (n := 1) rfl (by rw [List.length_map, HBg.out.1]) u8_one (.inl ⟨g57, 1, #[.int .u8 5], rfl, rfl, by decide, by decide, rfl, rfl⟩) (List.forall_mem_cons.2 ⟨⟨(List.Mem.head _), HGg57.out.1⟩, (fun _ h => by cases h)⟩) (src_box hu (List.Mem.tail _ (List.Mem.tail _ (List.Mem.head _))) (by rw [List.drop_zero, List.length_map, HBg.out.1]; exact HCgq.out.2.2.2)) (List.forall_mem_cons.2 ⟨⟨(List.Mem.tail _ (List.Mem.head _)), fun y hy => by cases List.mem_singleton.1 hy; exact HGg57.out.2 _ (List.Mem.head _)⟩, (List.forall_mem_cons.2 ⟨⟨(List.Mem.tail _ (List.Mem.tail _ (List.Mem.tail _ (List.Mem.head _)))), fun y hy => by cases List.mem_singleton.1 hy; exact HGg57.out.2 _ (List.Mem.tail _ (List.Mem.tail _ (List.Mem.head _)))⟩, (List.forall_mem_cons.2 ⟨⟨(List.Mem.tail _ (List.Mem.tail _ (List.Mem.tail _ (List.Mem.tail _ (List.Mem.head _))))), fun y hy => by cases List.mem_singleton.1 hy; exact HGg57.out.2 _ (List.Mem.tail _ (List.Mem.tail _ (List.Mem.tail _ (List.Mem.head _))))⟩, (fun _ h => by cases h)⟩)⟩)⟩) (by omega) rfl rfl) ?_)
  rintro x M' ⟨N, rfl, hF, hn⟩ he12; intro K' hK'; go_big_quiet_op; go_big_quiet_on
  obtain ⟨gb, capgb, curgb, rfl, rfl, hcgb⟩ | ⟨_, _, h0, _⟩ := hF
  case inr => omega
  have HCgb := Lib.hid hcgb
  clear hcgb hn
  change lexH _ _ _ _ _ _ [(gb, Obj.cells curgb 5 (0, 0)), (ga, Obj.cells curga 5 (0, 0)), (w.heap.size + 1, Obj.cells (hdA g) 29 (0, 0)), (w.heap.size, Obj.cells (hdA h) 29 (0, 0))]
  refine lexH_phase [3] [] ?_
  have hw13 : EnvX w1 _ [(gb, Obj.cells curgb 5 (0, 0)), (ga, Obj.cells curga 5 (0, 0)), (w.heap.size + 1, Obj.cells (hdA g) 29 (0, 0)), (w.heap.size, Obj.cells (hdA h) 29 (0, 0))] := he12.choose_spec
  have hone := @EnvC.one _ _ _ hw13
  (refine wpG_op rfl rfl rfl ?_; intro K hK; go_big_quiet_op; go_big_quiet_on)
  clear hone hw13
  refine wpG_nil ?_
  intro u15 E2'
  have EX14 := Lib.hid E2'
  clear E2'
  go_upto_region 8 with (fail)
  refine wp_region_Hx (w0 := w1) [0, 1, 2, 3, 4, 5, 6, 7, 8, 9, 10, 11] [(gb, Obj.cells curgb 5 (0, 0)), (ga, Obj.cells curga 5 (0, 0)), (w.heap.size + 1, Obj.cells (hdA g) 29 (0, 0)), (w.heap.size, Obj.cells (hdA h) 29 (0, 0))] rfl EX14.out ?_
  refine lexH_phase [0, 1, 2, 3, 4, 5, 6, 7, 8, 9, 10, 11] [] ?_
  have hw16 : EnvX w1 _ [(gb, Obj.cells curgb 5 (0, 0)), (ga, Obj.cells curga 5 (0, 0)), (w.heap.size + 1, Obj.cells (hdA g) 29 (0, 0)), (w.heap.size, Obj.cells (hdA h) 29 (0, 0))] := EX14.out
  have hone := @EnvC.one _ _ _ hw16
  (refine wpG_val (v := hdV h) rfl rfl (fun u hu => load_any_op u (box_hd hu (List.Mem.tail _ (List.Mem.tail _ (List.Mem.tail _ (List.Mem.head _)))) HL.out) rfl) ?_ hw16; intro K hK; go_big_quiet_op; go_big_quiet_on)
  (refine wpG_call (f := 17) (args := #[hdV h]) (v := idv (idH h)) rfl rfl rfl Tryd.func17 rfl rfl (fun u hu => HH.out.id h u HOK.out.1 (HT1.out.below (EnvX.bel hu))) ?_ hw16; intro K hK; go_big_quiet_op; go_big_quiet_on)
  (refine wpG_op rfl rfl rfl ?_; intro K hK; go_big_quiet_op; go_big_quiet_on)
  (refine wpG_call (f := 24) (args := #[.slice (some ⟨ga, 0, none⟩) (1 + 176) capga]) (v := idv (sumL (5 :: bodyH h))) rfl rfl rfl Tryd.func24 rfl rfl (fun u hu => sum_any (some ⟨ga, 0, none⟩) (1 + 176) capga (5 :: bodyH h) u HTh.out.1 (by omega) (boxR_bytes hu (List.Mem.tail _ (List.Mem.head _)) HTh.out.1 HCga.out) HTh.out.2 (HT1.out.below (EnvX.bel hu))) ?_ hw16; intro K hK; go_big_quiet_op; go_big_quiet_on)
  (refine wpG_val (v := .bool false) rfl rfl (fun u hu => neqb_op HIH.out HSH.out HEH.out u rfl rfl) ?_ hw16; intro K hK; go_big_quiet_op; go_big_quiet_on)
  (refine wpG_op rfl rfl rfl ?_; intro K hK; go_big_quiet_op; go_big_quiet_on)
  (refine wpG_val (v := hdV g) rfl rfl (fun u hu => load_any_op u (box_hd hu (List.Mem.tail _ (List.Mem.tail _ (List.Mem.head _))) HLG.out) rfl) ?_ hw16; intro K hK; go_big_quiet_op; go_big_quiet_on)
  (refine wpG_call (f := 17) (args := #[hdV g]) (v := idv (idH g)) rfl rfl rfl Tryd.func17 rfl rfl (fun u hu => HH.out.id g u HOK.out.2 (HT1.out.below (EnvX.bel hu))) ?_ hw16; intro K hK; go_big_quiet_op; go_big_quiet_on)
  (refine wpG_op rfl rfl rfl ?_; intro K hK; go_big_quiet_op; go_big_quiet_on)
  (refine wpG_call (f := 24) (args := #[.slice (some ⟨gb, 0, none⟩) (1 + 176) capgb]) (v := idv (sumL (5 :: bodyH g))) rfl rfl rfl Tryd.func24 rfl rfl (fun u hu => sum_any (some ⟨gb, 0, none⟩) (1 + 176) capgb (5 :: bodyH g) u HTg.out.1 (by omega) (boxR_bytes hu (List.Mem.head _) HTg.out.1 HCgb.out) HTg.out.2 (HT1.out.below (EnvX.bel hu))) ?_ hw16; intro K hK; go_big_quiet_op; go_big_quiet_on)
  (refine wpG_val (v := .bool false) rfl rfl (fun u hu => neqb_op HIG.out HSG.out HEG.out u rfl rfl) ?_ hw16; intro K hK; go_big_quiet_op; go_big_quiet_on)
  (refine wpG_op rfl rfl rfl ?_; intro K hK; go_big_quiet_op; go_big_quiet_on)
  clear hone hw16
  refine wpG_nil ?_
  intro u18 E2'
  have EX17 := Lib.hid E2'
  clear E2'
  go_upto_region 10 with (fail)
  refine wp_region_H (w0 := w1) [(gb, Obj.cells curgb 5 (0, 0)), (ga, Obj.cells curga 5 (0, 0)), (w.heap.size + 1, Obj.cells (hdA g) 29 (0, 0)), (w.heap.size, Obj.cells (hdA h) 29 (0, 0))] (by kernel_rfl) EX17.out ?_
  refine anyH_phase [0, 1, 2, 3, 4, 5, 6, 7, 8, 9, 10, 11, 12, 13, 14, 15, 16, 17] 0 rfl ⟨_, (EnvX.drew EX17.out)⟩ (by kernel_rfl) ?_
  have hw19 : EnvX w1 _ [(gb, Obj.cells curgb 5 (0, 0)), (ga, Obj.cells curga 5 (0, 0)), (w.heap.size + 1, Obj.cells (hdA g) 29 (0, 0)), (w.heap.size, Obj.cells (hdA h) 29 (0, 0))] := (EnvX.drew EX17.out)
  have hone := @EnvC.one _ _ _ hw19
  (refine wpG_val (v := hdV h) rfl rfl (fun u hu => load_any_op u (box_hd hu (List.Mem.tail _ (List.Mem.tail _ (List.Mem.tail _ (List.Mem.head _)))) HL.out) rfl) ?_ hw19; intro K hK; go_big_quiet_op; go_big_quiet_on)
  (refine wpG_val (v := hdV g) rfl rfl (fun u hu => load_any_op u (box_hd hu (List.Mem.tail _ (List.Mem.tail _ (List.Mem.head _))) HLG.out) rfl) ?_ hw19; intro K hK; go_big_quiet_op; go_big_quiet_on)
  (refine wpG_val (v := .bool true) rfl rfl (fun u hu => eqlHd_op HOK.out.1 HOK.out.2 HEE.out u rfl rfl) ?_ hw19; intro K hK; go_big_quiet_op; go_big_quiet_on)
  (refine wpG_op rfl rfl rfl ?_; intro K hK; go_big_quiet_op; go_big_quiet_on)
  (refine wpG_skip rfl rfl ?_ hw19; intro K hK; go_big_quiet_op; go_big_quiet_on)
  (refine wpG_skip rfl rfl ?_ hw19; intro K hK; go_big_quiet_op; go_big_quiet_on)
  (refine wpG_skip rfl rfl ?_ hw19; intro K hK; go_big_quiet_op; go_big_quiet_on)
  (refine wpG_skip rfl rfl ?_ hw19; intro K hK; go_big_quiet_op; go_big_quiet_on)
  (refine wpG_skip rfl rfl ?_ hw19; intro K hK; go_big_quiet_op; go_big_quiet_on)
  (refine wpG_op rfl rfl rfl ?_; intro K hK; go_big_quiet_op; go_big_quiet_on)
  (refine wpG_op rfl rfl rfl ?_; intro K hK; go_big_quiet_op; go_big_quiet_on)
  (refine wpG_skip rfl rfl ?_ hw19; intro K hK; go_big_quiet_op; go_big_quiet_on)
  (refine wpG_skip rfl rfl ?_ hw19; intro K hK; go_big_quiet_op; go_big_quiet_on)
  (refine wpG_skip rfl rfl ?_ hw19; intro K hK; go_big_quiet_op; go_big_quiet_on)
  (refine wpG_skip rfl rfl ?_ hw19; intro K hK; go_big_quiet_op; go_big_quiet_on)
  (refine wpG_skip rfl rfl ?_ hw19; intro K hK; go_big_quiet_op; go_big_quiet_on)
  (refine wpG_op rfl rfl rfl ?_; intro K hK; go_big_quiet_op; go_big_quiet_on)
  (refine wpG_op rfl rfl rfl ?_; intro K hK; go_big_quiet_op; go_big_quiet_on)
  clear hone hw19
  refine wpG_nil ?_
  refine anyH_done (by kernel_rfl) ?_
  intro u21 E2'
  have EX20 := Lib.hid E2'
  clear E2'
  have HBE := Lib.hid (HB1.out.trans ((EnvX.bel EX20.out).mono HB1.out.size))
  go_wp2
  go_ret
  exact ⟨rfl, HBE.out⟩
set_option maxRecDepth 20000 in
set_option maxHeartbeats 8000000 in
theorem law_sumsH_ids (H : HeadC) (h g : Hd) (w : World) (hh : okHd h) (hg : okHd g) (ht : Tables w) (k1 : mayPut h = true) (k2 : mayPut g = true) (k3 : h ≠ g) (k4 : idH h ≠ idH g) :
    Calls Tryd.prog 5 #[hdV h, hdV g] w fun e w' => e = .returned (.bool true) ∧ Below w.heap.size w w' := by
  have HIH := Lib.hid (id_len h)
  have HIG := Lib.hid (id_len g)
  have HBh := Lib.hid (And.intro (body_len hh) (body_byte hh))
  have HBg := Lib.hid (And.intro (body_len hg) (body_byte hg))
  have HQh : Hid ((putH h).1 = bodyH h) := by show _ = _; unfold putH; rw [k1]; rfl
  have HQg : Hid ((putH g).1 = bodyH g) := by show _ = _; unfold putH; rw [k2]; rfl
  have hb5 : ∀ x : Hd, okHd x → (5 :: bodyH x).length = 1 + 176 ∧ isB (5 :: bodyH x) := fun x hx => ⟨by rw [List.length_cons, body_len hx], fun y hy => by
    rcases List.mem_cons.1 hy with e | e
    · rw [e]; decide
    · exact body_byte hx y e⟩
  have HTh := Lib.hid (hb5 h hh)
  have HTg := Lib.hid (hb5 g hg)
  have HSH : Hid ((sumL (5 :: bodyH h)).length = 32) := sumL_len _
  have HSG : Hid ((sumL (5 :: bodyH g)).length = 32) := sumL_len _
  have HEH : Hid ((!eqL (idH h) (sumL (5 :: bodyH h))) = false) := by show _ = _; unfold idH; rw [k1]; simp [eqL]
  have HEG : Hid ((!eqL (idH g) (sumL (5 :: bodyH g))) = false) := by show _ = _; unfold idH; rw [k2]; simp [eqL]
  clear hb5
  have HEE : Hid (eqH h g = false) := decide_eq_false k3
  have HEI : Hid ((!eqL (idH h) (idH g)) = true) := by show _ = _; simp [eqL, k4]
  clear k3 k4
  have HL := Lib.hid hh.len
  have HLG := Lib.hid hg.len
  have E0 : Hid (EnvX w ((w.alloc (.cells (hdA h) 29)).alloc (.cells (hdA g) 29)) [(w.heap.size + 1, Obj.cells (hdA g) 29 (0, 0)), (w.heap.size, Obj.cells (hdA h) 29 (0, 0))]) := (EnvX.start w).two _ _
  have HAW := Lib.hid (hawake_any H ((w.alloc (.cells (hdA h) 29)).alloc (.cells (hdA g) 29)) (ht.below (EnvX.bel E0.out)))
  have HT := Lib.hid ht
  have HH := Lib.hid H
  have HOK := Lib.hid (And.intro hh hg)
  have HP1 : Hid ((putH h).2 = true) := by show _ = _; unfold putH; rw [k1]; rfl
  have HP2 : Hid ((putH g).2 = true) := by show _ = _; unfold putH; rw [k2]; rfl
  clear ht H hh hg k1 k2
  unfold hdV
  go_enter Tryd.func5, Tryd.ntmps5
  go_upto_region 1 with (fail)
  generalize (w.alloc (.cells (hdA h) 29)).alloc (.cells (hdA g) 29) = W at *
  go_wp2_with fail
  refine HAW.out.mono ?_
  rintro e w1 ⟨rfl, hb1⟩
  have HB1 := Lib.hid (EnvX.below E0.out hb1).bel
  have E1 : Hid (EnvX w1 w1 [(w.heap.size + 1, Obj.cells (hdA g) 29 (0, 0)), (w.heap.size, Obj.cells (hdA h) 29 (0, 0))]) := ⟨Below.refl _ _, (EnvX.below E0.out hb1).box⟩
  have HT1 := Lib.hid (HT.out.below HB1.out)
  clear hb1 E0 HAW
  have HLD : Hid ((loadVar 29 ⟨w.heap.size, 0, none⟩).run Tryd.prog w1 = .ok (.agg (hdA h)) w1) := box_hd E1.out (List.Mem.tail _ (List.Mem.head _)) (okHd.len HOK.out.1)
  have HPT : Hid (Calls Tryd.prog 10 #[.agg (hdA h)] w1 fun e w' => (∃ v, e = .returned (.tuple #[v, .bool true]) ∧ OwnB w' w1.heap.size v (putH h).1) ∧ Below w1.heap.size w1 w') := by
    have h1 := HH.out.put h w1 HOK.out.1 (HT1.out.below (EnvX.bel E1.out))
    rwa [HP1.out] at h1
  go_upto_region 2 with (fail)
  go_wp2_with ((with_reducible refine wpList_load_run (o := ⟨some 14, _, _, _, _, _⟩) ?_ 29 (.tmp 2) ?_ ⟨w.heap.size, 0, none⟩ ?_ HLD.out ?_); (rfl); (rfl); (rfl))
  refine HPT.out.mono ?_
  rintro e w2 ⟨⟨v2, rfl, hv⟩, hb⟩
  obtain ⟨hv1, ⟨_, h0⟩ | ⟨gp, capgp, curgp, rfl, hg1, hg2, hg3⟩⟩ := hv
  · have := HBh.out.1
    have e : (putH h).1 = bodyH h := HQh.out
    rw [e] at h0
    omega
  have E2 : Hid (EnvX w1 w2 [(gp, Obj.cells curgp 5 (0, 0)), (w.heap.size + 1, Obj.cells (hdA g) 29 (0, 0)), (w.heap.size, Obj.cells (hdA h) 29 (0, 0))]) := ⟨(EnvX.below E1.out hb).bel, fun q o hm => by
    rcases List.mem_cons.1 hm with e | e
    · cases e
      exact hg2
    · exact (EnvX.below E1.out hb).box q o e⟩
  have HLEgp : Hid (w1.heap.size ≤ gp) := Nat.le_trans (EnvX.bel E1.out).size hg1
  have HNEgp : Hid (w1.heap.size ≤ gp) := hg1
  have HLTgp : Hid (∀ q o, (q, o) ∈ [(w.heap.size + 1, Obj.cells (hdA g) 29 (0, 0)), (w.heap.size, Obj.cells (hdA h) 29 (0, 0))] → q ≠ gp) := fun q o hm e => by
    have h1 := EnvX.lt E1.out hm
    have h2 := hg1
    omega
  rw [show (putH h).1 = bodyH h from HQh.out, HBh.out.1] at hg3 ⊢
  have HCgp := Lib.hid hg3
  clear hv1 hb HLD HPT hg1 hg2 hg3 E1
  have HLD : Hid ((loadVar 29 ⟨w.heap.size + 1, 0, none⟩).run Tryd.prog w2 = .ok (.agg (hdA g)) w2) := box_hd E2.out (List.Mem.tail _ (List.Mem.head _)) (okHd.len HOK.out.2)
  have HPT : Hid (Calls Tryd.prog 10 #[.agg (hdA g)] w2 fun e w' => (∃ v, e = .returned (.tuple #[v, .bool true]) ∧ OwnB w' w2.heap.size v (putH g).1) ∧ Below w2.heap.size w2 w') := by
    have h1 := HH.out.put g w2 HOK.out.2 (HT1.out.below (EnvX.bel E2.out))
    rwa [HP2.out] at h1
  go_upto_region 3 with (fail)
  go_wp2_with ((with_reducible refine wpList_load_run (o := ⟨some 19, _, _, _, _, _⟩) ?_ 29 (.tmp 3) ?_ ⟨w.heap.size + 1, 0, none⟩ ?_ HLD.out ?_); (rfl); (rfl); (rfl))
  refine HPT.out.mono ?_
  rintro e w3 ⟨⟨v3, rfl, hv⟩, hb⟩
  obtain ⟨hv1, ⟨_, h0⟩ | ⟨gq, capgq, curgq, rfl, hg1, hg2, hg3⟩⟩ := hv
  · have := HBg.out.1
    have e : (putH g).1 = bodyH g := HQg.out
    rw [e] at h0
    omega
  have E3 : Hid (EnvX w1 w3 [(gq, Obj.cells curgq 5 (0, 0)), (gp, Obj.cells curgp 5 (0, 0)), (w.heap.size + 1, Obj.cells (hdA g) 29 (0, 0)), (w.heap.size, Obj.cells (hdA h) 29 (0, 0))]) := ⟨(EnvX.below E2.out hb).bel, fun q o hm => by
    rcases List.mem_cons.1 hm with e | e
    · cases e
      exact hg2
    · exact (EnvX.below E2.out hb).box q o e⟩
  have HLEgq : Hid (w1.heap.size ≤ gq) := Nat.le_trans (EnvX.bel E2.out).size hg1
  have HNEgq : Hid (w2.heap.size ≤ gq) := hg1
  have HLTgq : Hid (∀ q o, (q, o) ∈ [(gp, Obj.cells curgp 5 (0, 0)), (w.heap.size + 1, Obj.cells (hdA g) 29 (0, 0)), (w.heap.size, Obj.cells (hdA h) 29 (0, 0))] → q ≠ gq) := fun q o hm e => by
    have h1 := EnvX.lt E2.out hm
    have h2 := hg1
    omega
  rw [show (putH g).1 = bodyH g from HQg.out, HBg.out.1] at hg3 ⊢
  have HCgq := Lib.hid hg3
  clear hv1 hb HLD HPT hg1 hg2 hg3 E2
  go_upto_region 4 with (fail)
  refine wp_region_Hx (w0 := w1) [0, 1, 2, 3, 4, 5, 6, 7, 8, 9] [(gq, Obj.cells curgq 5 (0, 0)), (gp, Obj.cells curgp 5 (0, 0)), (w.heap.size + 1, Obj.cells (hdA g) 29 (0, 0)), (w.heap.size, Obj.cells (hdA h) 29 (0, 0))] rfl E3.out ?_
  refine lexH_phase [0, 1, 2, 3, 4, 5, 6, 7, 8, 9] [] ?_
  have hw1 : EnvX w1 _ [(gq, Obj.cells curgq 5 (0, 0)), (gp, Obj.cells curgp 5 (0, 0)), (w.heap.size + 1, Obj.cells (hdA g) 29 (0, 0)), (w.heap.size, Obj.cells (hdA h) 29 (0, 0))] := E3.out
  have hone := @EnvC.one _ _ _ hw1
  (refine wpG_op rfl rfl rfl ?_; intro K hK; go_big_quiet_op; go_big_quiet_on)
  (refine wpG_op rfl rfl rfl ?_; intro K hK; go_big_quiet_op; go_big_quiet_on)
  (refine wpG_op rfl rfl rfl ?_; intro K hK; go_big_quiet_op; go_big_quiet_on)
  (refine wpG_op rfl rfl rfl ?_; intro K hK; go_big_quiet_op; go_big_quiet_on)
  (refine wpG_op rfl rfl rfl ?_; intro K hK; go_big_quiet_op; go_big_quiet_on)
  (refine wpG_op rfl rfl rfl ?_; intro K hK; go_big_quiet_op; go_big_quiet_on)
  (refine wpG_op rfl rfl rfl ?_; intro K hK; go_big_quiet_op; go_big_quiet_on)
  (refine wpG_op rfl rfl rfl ?_; intro K hK; go_big_quiet_op; go_big_quiet_on)
  (refine wpG_op rfl rfl rfl ?_; intro K hK; go_big_quiet_op; go_big_quiet_on)
  (refine wpG_op rfl rfl rfl ?_; intro K hK; go_big_quiet_op; go_big_quiet_on)
  clear hone hw1
  refine wpG_nil ?_
  intro u3 E2'
  have EX2 := Lib.hid E2'
  clear E2'
  go_upto_region 6 with (fail)
  refine wp_region_Hx (w0 := w1) [0, 1, 2, 3] [(gq, Obj.cells curgq 5 (0, 0)), (gp, Obj.cells curgp 5 (0, 0)), (w.heap.size + 1, Obj.cells (hdA g) 29 (0, 0)), (w.heap.size, Obj.cells (hdA h) 29 (0, 0))] rfl EX2.out ?_
  refine (hOp_fresh (R := fun v N => ∃ g, v = .slice (some ⟨g, 0, none⟩) 1 1 ∧ N = [(g, Obj.cells #[.int .u8 5] 5 (0, 0))]) (M0 := [(gq, Obj.cells curgq 5 (0, 0)), (gp, Obj.cells curgp 5 (0, 0)), (w.heap.size + 1, Obj.cells (hdA g) 29 (0, 0)), (w.heap.size, Obj.cells (hdA h) 29 (0, 0))]) rfl rfl (fun _ h => h) (fun u hu => FAt_byte1 5 u) ?_)
  rintro _ _ ⟨g56, rfl, rfl⟩ hf he4; intro K' hK'; go_big_quiet_op; go_big_quiet_on
  have HGg56 := Lib.hid (hf _ (List.mem_singleton.2 rfl))
  clear hf
  change lexH _ _ _ _ _ _ [(g56, Obj.cells #[.int .u8 5] 5 (0, 0)), (gq, Obj.cells curgq 5 (0, 0)), (gp, Obj.cells curgp 5 (0, 0)), (w.heap.size + 1, Obj.cells (hdA g) 29 (0, 0)), (w.heap.size, Obj.cells (hdA h) 29 (0, 0))]
  refine lexH_phase [1] [2, 3] ?_
  have hw5 : EnvX w1 _ [(g56, Obj.cells #[.int .u8 5] 5 (0, 0)), (gq, Obj.cells curgq 5 (0, 0)), (gp, Obj.cells curgp 5 (0, 0)), (w.heap.size + 1, Obj.cells (hdA g) 29 (0, 0)), (w.heap.size, Obj.cells (hdA h) 29 (0, 0))] := he4.choose_spec
  have hone := @EnvC.one _ _ _ hw5
  (refine wpG_op rfl rfl rfl ?_; intro K hK; go_big_quiet_op; go_big_quiet_on)
  clear hone hw5
  refine wpG_nil ?_
  refine (hOp_own (gd := none) (R := GrownR w1 5 1 (1 + 176) ([.int .u8 5] ++ (bodyH h).map u8v) [(gq, Obj.cells curgq 5 (0, 0)), (w.heap.size + 1, Obj.cells (hdA g) 29 (0, 0)), (w.heap.size, Obj.cells (hdA h) 29 (0, 0))]) rfl rfl rfl rfl (fun u hu => appX_op elB [(gq, Obj.cells curgq 5 (0, 0)), (w.heap.size + 1, Obj.cells (hdA g) 29 (0, 0)), (w.heap.size, Obj.cells (hdA h) 29 (0, 0))] hu (n := 1) rfl (by rw [List.length_map, HBh.out.1]) u8_one (.inl ⟨g56, 1, #[.int .u8 5], rfl, rfl, by decide, by decide, rfl, rfl⟩) (List.forall_mem_cons.2 ⟨⟨(List.Mem.head _), HGg56.out.1⟩, (fun _ h => by cases h)⟩) (src_box hu (List.Mem.tail _ (List.Mem.tail _ (List.Mem.head _))) (by rw [List.drop_zero, List.length_map, HBh.out.1]; exact HCgp.out.2.2.2)) (List.forall_mem_cons.2 ⟨⟨(List.Mem.tail _ (List.Mem.head _)), fun y hy => by cases List.mem_singleton.1 hy; exact HGg56.out.2 _ (List.Mem.head _)⟩, (List.forall_mem_cons.2 ⟨⟨(List.Mem.tail _ (List.Mem.tail _ (List.Mem.tail _ (List.Mem.head _)))), fun y hy => by cases List.mem_singleton.1 hy; exact HGg56.out.2 _ (List.Mem.tail _ (List.Mem.tail _ (List.Mem.head _)))⟩, (List.forall_mem_cons.2 ⟨⟨(List.Mem.tail _ (List.Mem.tail _ (List.Mem.tail _ (List.Mem.tail _ (List.Mem.head _))))), fun y hy => by cases List.mem_singleton.1 hy; exact HGg56.out.2 _ (List.Mem.tail _ (List.Mem.tail _ (List.Mem.tail _ (List.Mem.head _))))⟩, (fun _ h => by cases h)⟩)⟩)⟩) (by omega) rfl rfl) ?_)
  rintro x M' ⟨N, rfl, hF, hn⟩ he6; intro K' hK'; go_big_quiet_op; go_big_quiet_on
  obtain ⟨ga, capga, curga, rfl, rfl, hcga⟩ | ⟨_, _, h0, _⟩ := hF
  case inr => omega
  have HCga := Lib.hid hcga
  clear hcga hn
  change lexH _ _ _ _ _ _ [(ga, Obj.cells curga 5 (0, 0)), (gq, Obj.cells curgq 5 (0, 0)), (w.heap.size + 1, Obj.cells (hdA g) 29 (0, 0)), (w.heap.size, Obj.cells (hdA h) 29 (0, 0))]
  refine lexH_phase [3] [] ?_
  have hw7 : EnvX w1 _ [(ga, Obj.cells curga 5 (0, 0)), (gq, Obj.cells curgq 5 (0, 0)), (w.heap.size + 1, Obj.cells (hdA g) 29 (0, 0)), (w.heap.size, Obj.cells (hdA h) 29 (0, 0))] := he6.choose_spec
  have hone := @EnvC.one _ _ _ hw7
  (refine wpG_op rfl rfl rfl ?_; intro K hK; go_big_quiet_op; go_big_quiet_on)
  clear hone hw7
  refine wpG_nil ?_
  intro u9 E2'
  have EX8 := Lib.hid E2'
  clear E2'
  go_upto_region 7 with (fail)
  refine wp_region_Hx (w0 := w1) [0, 1, 2, 3] [(ga, Obj.cells curga 5 (0, 0)), (gq, Obj.cells curgq 5 (0, 0)), (w.heap.size + 1, Obj.cells (hdA g) 29 (0, 0)), (w.heap.size, Obj.cells (hdA h) 29 (0, 0))] rfl EX8.out ?_
  refine (hOp_fresh (R := fun v N => ∃ g, v = .slice (some ⟨g, 0, none⟩) 1 1 ∧ N = [(g, Obj.cells #[.int .u8 5] 5 (0, 0))]) (M0 := [(ga, Obj.cells curga 5 (0, 0)), (gq, Obj.cells curgq 5 (0, 0)), (w.heap.size + 1, Obj.cells (hdA g) 29 (0, 0)), (w.heap.size, Obj.cells (hdA h) 29 (0, 0))]) rfl rfl (fun _ h => h) (fun u hu => FAt_byte1 5 u) ?_)
  rintro _ _ ⟨g57, rfl, rfl⟩ hf he10; intro K' hK'; go_big_quiet_op; go_big_quiet_on
  have HGg57 := Lib.hid (hf _ (List.mem_singleton.2 rfl))
  clear hf
  change lexH _ _ _ _ _ _ [(g57, Obj.cells #[.int .u8 5] 5 (0, 0)), (ga, Obj.cells curga 5 (0, 0)), (gq, Obj.cells curgq 5 (0, 0)), (w.heap.size + 1, Obj.cells (hdA g) 29 (0, 0)), (w.heap.size, Obj.cells (hdA h) 29 (0, 0))]
  refine lexH_phase [1] [2, 3] ?_
  have hw11 : EnvX w1 _ [(g57, Obj.cells #[.int .u8 5] 5 (0, 0)), (ga, Obj.cells curga 5 (0, 0)), (gq, Obj.cells curgq 5 (0, 0)), (w.heap.size + 1, Obj.cells (hdA g) 29 (0, 0)), (w.heap.size, Obj.cells (hdA h) 29 (0, 0))] := he10.choose_spec
  have hone := @EnvC.one _ _ _ hw11
  (refine wpG_op rfl rfl rfl ?_; intro K hK; go_big_quiet_op; go_big_quiet_on)
  clear hone hw11
  refine wpG_nil ?_
  refine (hOp_own (gd := none) (R := GrownR w1 5 1 (1 + 176) ([.int .u8 5] ++ (bodyH g).map u8v) [(ga, Obj.cells curga 5 (0, 0)), (w.heap.size + 1, Obj.cells (hdA g) 29 (0, 0)), (w.heap.size, Obj.cells (hdA h) 29 (0, 0))]) rfl rfl rfl rfl (fun u hu => appX_op elB [(ga, Obj.cells curga 5 (0, 0)), (w.heap.size + 1, Obj.cells (hdA g) 29 (0, 0)), (w.heap.size, Obj.cells (hdA h) 29 (0, 0))] hu (n := 1) rfl (by rw [List.length_map, HBg.out.1]) u8_one (.inl ⟨g57, 1, #[.int .u8 5], rfl, rfl, by decide, by decide, rfl, rfl⟩) (List.forall_mem_cons.2 ⟨⟨(List.Mem.head _), HGg57.out.1⟩, (fun _ h => by cases h)⟩) (src_box hu (List.Mem.tail _ (List.Mem.tail _ (List.Mem.head _))) (by rw [List.drop_zero, List.length_map, HBg.out.1]; exact HCgq.out.2.2.2)) (List.forall_mem_cons.2 ⟨⟨(List.Mem.tail _ (List.Mem.head _)), fun y hy => by cases List.mem_singleton.1 hy; exact HGg57.out.2 _ (List.Mem.head _)⟩, (List.forall_mem_cons.2 ⟨⟨(List.Mem.tail _ (List.Mem.tail _ (List.Mem.tail _ (List.Mem.head _)))), fun y hy => by cases List.mem_singleton.1 hy; exact HGg57.out.2 _ (List.Mem.tail _ (List.Mem.tail _ (List.Mem.head _)))⟩, (List.forall_mem_cons.2 ⟨⟨(List.Mem.tail _ (List.Mem.tail _ (List.Mem.tail _ (List.Mem.tail _ (List.Mem.head _))))), fun y hy => by cases List.mem_singleton.1 hy; exact HGg57.out.2 _ (List.Mem.tail _ (List.Mem.tail _ (List.Mem.tail _ (List.Mem.head _))))⟩, (fun _ h => by cases h)⟩)⟩)⟩) (by omega) rfl rfl) ?_)
  rintro x M' ⟨N, rfl, hF, hn⟩ he12; intro K' hK'; go_big_quiet_op; go_big_quiet_on
  obtain ⟨gb, capgb, curgb, rfl, rfl, hcgb⟩ | ⟨_, _, h0, _⟩ := hF
  case inr => omega
  have HCgb := Lib.hid hcgb
  clear hcgb hn
  change lexH _ _ _ _ _ _ [(gb, Obj.cells curgb 5 (0, 0)), (ga, Obj.cells curga 5 (0, 0)), (w.heap.size + 1, Obj.cells (hdA g) 29 (0, 0)), (w.heap.size, Obj.cells (hdA h) 29 (0, 0))]
  refine lexH_phase [3] [] ?_
  have hw13 : EnvX w1 _ [(gb, Obj.cells curgb 5 (0, 0)), (ga, Obj.cells curga 5 (0, 0)), (w.heap.size + 1, Obj.cells (hdA g) 29 (0, 0)), (w.heap.size, Obj.cells (hdA h) 29 (0, 0))] := he12.choose_spec
  have hone := @EnvC.one _ _ _ hw13
  (refine wpG_op rfl rfl rfl ?_; intro K hK; go_big_quiet_op; go_big_quiet_on)
  clear hone hw13
  refine wpG_nil ?_
  intro u15 E2'
  have EX14 := Lib.hid E2'
  clear E2'
  go_upto_region 8 with (fail)
  refine wp_region_Hx (w0 := w1) [0, 1, 2, 3, 4, 5, 6, 7, 8, 9, 10, 11] [(gb, Obj.cells curgb 5 (0, 0)), (ga, Obj.cells curga 5 (0, 0)), (w.heap.size + 1, Obj.cells (hdA g) 29 (0, 0)), (w.heap.size, Obj.cells (hdA h) 29 (0, 0))] rfl EX14.out ?_
  refine lexH_phase [0, 1, 2, 3, 4, 5, 6, 7, 8, 9, 10, 11] [] ?_
  have hw16 : EnvX w1 _ [(gb, Obj.cells curgb 5 (0, 0)), (ga, Obj.cells curga 5 (0, 0)), (w.heap.size + 1, Obj.cells (hdA g) 29 (0, 0)), (w.heap.size, Obj.cells (hdA h) 29 (0, 0))] := EX14.out
  have hone := @EnvC.one _ _ _ hw16
  (refine wpG_val (v := hdV h) rfl rfl (fun u hu => load_any_op u (box_hd hu (List.Mem.tail _ (List.Mem.tail _ (List.Mem.tail _ (List.Mem.head _)))) HL.out) rfl) ?_ hw16; intro K hK; go_big_quiet_op; go_big_quiet_on)
  (refine wpG_call (f := 17) (args := #[hdV h]) (v := idv (idH h)) rfl rfl rfl Tryd.func17 rfl rfl (fun u hu => HH.out.id h u HOK.out.1 (HT1.out.below (EnvX.bel hu))) ?_ hw16; intro K hK; go_big_quiet_op; go_big_quiet_on)
  (refine wpG_op rfl rfl rfl ?_; intro K hK; go_big_quiet_op; go_big_quiet_on)
  (refine wpG_call (f := 24) (args := #[.slice (some ⟨ga, 0, none⟩) (1 + 176) capga]) (v := idv (sumL (5 :: bodyH h))) rfl rfl rfl Tryd.func24 rfl rfl (fun u hu => sum_any (some ⟨ga, 0, none⟩) (1 + 176) capga (5 :: bodyH h) u HTh.out.1 (by omega) (boxR_bytes hu (List.Mem.tail _ (List.Mem.head _)) HTh.out.1 HCga.out) HTh.out.2 (HT1.out.below (EnvX.bel hu))) ?_ hw16; intro K hK; go_big_quiet_op; go_big_quiet_on)
  (refine wpG_val (v := .bool false) rfl rfl (fun u hu => neqb_op HIH.out HSH.out HEH.out u rfl rfl) ?_ hw16; intro K hK; go_big_quiet_op; go_big_quiet_on)
  (refine wpG_op rfl rfl rfl ?_; intro K hK; go_big_quiet_op; go_big_quiet_on)
  (refine wpG_val (v := hdV g) rfl rfl (fun u hu => load_any_op u (box_hd hu (List.Mem.tail _ (List.Mem.tail _ (List.Mem.head _))) HLG.out) rfl) ?_ hw16; intro K hK; go_big_quiet_op; go_big_quiet_on)
  (refine wpG_call (f := 17) (args := #[hdV g]) (v := idv (idH g)) rfl rfl rfl Tryd.func17 rfl rfl (fun u hu => HH.out.id g u HOK.out.2 (HT1.out.below (EnvX.bel hu))) ?_ hw16; intro K hK; go_big_quiet_op; go_big_quiet_on)
  (refine wpG_op rfl rfl rfl ?_; intro K hK; go_big_quiet_op; go_big_quiet_on)
  (refine wpG_call (f := 24) (args := #[.slice (some ⟨gb, 0, none⟩) (1 + 176) capgb]) (v := idv (sumL (5 :: bodyH g))) rfl rfl rfl Tryd.func24 rfl rfl (fun u hu => sum_any (some ⟨gb, 0, none⟩) (1 + 176) capgb (5 :: bodyH g) u HTg.out.1 (by omega) (boxR_bytes hu (List.Mem.head _) HTg.out.1 HCgb.out) HTg.out.2 (HT1.out.below (EnvX.bel hu))) ?_ hw16; intro K hK; go_big_quiet_op; go_big_quiet_on)
  (refine wpG_val (v := .bool false) rfl rfl (fun u hu => neqb_op HIG.out HSG.out HEG.out u rfl rfl) ?_ hw16; intro K hK; go_big_quiet_op; go_big_quiet_on)
  (refine wpG_op rfl rfl rfl ?_; intro K hK; go_big_quiet_op; go_big_quiet_on)
  clear hone hw16
  refine wpG_nil ?_
  intro u18 E2'
  have EX17 := Lib.hid E2'
  clear E2'
  go_upto_region 10 with (fail)
  refine wp_region_H (w0 := w1) [(gb, Obj.cells curgb 5 (0, 0)), (ga, Obj.cells curga 5 (0, 0)), (w.heap.size + 1, Obj.cells (hdA g) 29 (0, 0)), (w.heap.size, Obj.cells (hdA h) 29 (0, 0))] (by kernel_rfl) EX17.out ?_
  refine anyH_phase [0, 1, 2, 3, 4, 5, 6, 7, 8, 9, 10, 11, 12, 13, 14, 15, 16, 17] 0 rfl ⟨_, (EnvX.drew EX17.out)⟩ (by kernel_rfl) ?_
  have hw19 : EnvX w1 _ [(gb, Obj.cells curgb 5 (0, 0)), (ga, Obj.cells curga 5 (0, 0)), (w.heap.size + 1, Obj.cells (hdA g) 29 (0, 0)), (w.heap.size, Obj.cells (hdA h) 29 (0, 0))] := (EnvX.drew EX17.out)
  have hone := @EnvC.one _ _ _ hw19
  (refine wpG_val (v := hdV h) rfl rfl (fun u hu => load_any_op u (box_hd hu (List.Mem.tail _ (List.Mem.tail _ (List.Mem.tail _ (List.Mem.head _)))) HL.out) rfl) ?_ hw19; intro K hK; go_big_quiet_op; go_big_quiet_on)
  (refine wpG_val (v := hdV g) rfl rfl (fun u hu => load_any_op u (box_hd hu (List.Mem.tail _ (List.Mem.tail _ (List.Mem.head _))) HLG.out) rfl) ?_ hw19; intro K hK; go_big_quiet_op; go_big_quiet_on)
  (refine wpG_val (v := .bool false) rfl rfl (fun u hu => eqlHd_op HOK.out.1 HOK.out.2 HEE.out u rfl rfl) ?_ hw19; intro K hK; go_big_quiet_op; go_big_quiet_on)
  (refine wpG_op rfl rfl rfl ?_; intro K hK; go_big_quiet_op; go_big_quiet_on)
  (refine wpG_val (v := hdV h) rfl rfl (fun u hu => load_any_op u (box_hd hu (List.Mem.tail _ (List.Mem.tail _ (List.Mem.tail _ (List.Mem.head _)))) HL.out) rfl) ?_ hw19; intro K hK; go_big_quiet_op; go_big_quiet_on)
  (refine wpG_call (f := 17) (args := #[hdV h]) (v := idv (idH h)) rfl rfl rfl Tryd.func17 rfl rfl (fun u hu => HH.out.id h u HOK.out.1 (HT1.out.below (EnvX.bel hu))) ?_ hw19; intro K hK; go_big_quiet_op; go_big_quiet_on)
  (refine wpG_val (v := hdV g) rfl rfl (fun u hu => load_any_op u (box_hd hu (List.Mem.tail _ (List.Mem.tail _ (List.Mem.head _))) HLG.out) rfl) ?_ hw19; intro K hK; go_big_quiet_op; go_big_quiet_on)
  (refine wpG_call (f := 17) (args := #[hdV g]) (v := idv (idH g)) rfl rfl rfl Tryd.func17 rfl rfl (fun u hu => HH.out.id g u HOK.out.2 (HT1.out.below (EnvX.bel hu))) ?_ hw19; intro K hK; go_big_quiet_op; go_big_quiet_on)
  (refine wpG_val (v := .bool true) rfl rfl (fun u hu => neqb_op HIH.out HIG.out HEI.out u rfl rfl) ?_ hw19; intro K hK; go_big_quiet_op; go_big_quiet_on)
  (refine wpG_op rfl rfl rfl ?_; intro K hK; go_big_quiet_op; go_big_quiet_on)
  (refine wpG_op rfl rfl rfl ?_; intro K hK; go_big_quiet_op; go_big_quiet_on)
  (refine wpG_skip rfl rfl ?_ hw19; intro K hK; go_big_quiet_op; go_big_quiet_on)
  (refine wpG_skip rfl rfl ?_ hw19; intro K hK; go_big_quiet_op; go_big_quiet_on)
  (refine wpG_skip rfl rfl ?_ hw19; intro K hK; go_big_quiet_op; go_big_quiet_on)
  (refine wpG_skip rfl rfl ?_ hw19; intro K hK; go_big_quiet_op; go_big_quiet_on)
  (refine wpG_skip rfl rfl ?_ hw19; intro K hK; go_big_quiet_op; go_big_quiet_on)
  (refine wpG_op rfl rfl rfl ?_; intro K hK; go_big_quiet_op; go_big_quiet_on)
  (refine wpG_op rfl rfl rfl ?_; intro K hK; go_big_quiet_op; go_big_quiet_on)
  clear hone hw19
  refine wpG_nil ?_
  refine anyH_done (by kernel_rfl) ?_
  intro u21 E2'
  have EX20 := Lib.hid E2'
  clear E2'
  have HBE := Lib.hid (HB1.out.trans ((EnvX.bel EX20.out).mono HB1.out.size))
  go_wp2
  go_ret
  exact ⟨rfl, HBE.out⟩
set_option maxRecDepth 20000 in
set_option maxHeartbeats 8000000 in
theorem law_sumsH_texts (H : HeadC) (h g : Hd) (w : World) (hh : okHd h) (hg : okHd g) (ht : Tables w) (k1 : mayPut h = true) (k2 : mayPut g = true) (k3 : h ≠ g) (k4 : idH h = idH g) :
    Calls Tryd.prog 5 #[hdV h, hdV g] w fun e w' => e = .returned (.bool true) ∧ Below w.heap.size w w' := by
  have HIH := Lib.hid (id_len h)
  have HIG := Lib.hid (id_len g)
  have HBh := Lib.hid (And.intro (body_len hh) (body_byte hh))
  have HBg := Lib.hid (And.intro (body_len hg) (body_byte hg))
  have HQh : Hid ((putH h).1 = bodyH h) := by show _ = _; unfold putH; rw [k1]; rfl
  have HQg : Hid ((putH g).1 = bodyH g) := by show _ = _; unfold putH; rw [k2]; rfl
  have hb5 : ∀ x : Hd, okHd x → (5 :: bodyH x).length = 1 + 176 ∧ isB (5 :: bodyH x) := fun x hx => ⟨by rw [List.length_cons, body_len hx], fun y hy => by
    rcases List.mem_cons.1 hy with e | e
    · rw [e]; decide
    · exact body_byte hx y e⟩
  have HTh := Lib.hid (hb5 h hh)
  have HTg := Lib.hid (hb5 g hg)
  have HSH : Hid ((sumL (5 :: bodyH h)).length = 32) := sumL_len _
  have HSG : Hid ((sumL (5 :: bodyH g)).length = 32) := sumL_len _
  have HEH : Hid ((!eqL (idH h) (sumL (5 :: bodyH h))) = false) := by show _ = _; unfold idH; rw [k1]; simp [eqL]
  have HEG : Hid ((!eqL (idH g) (sumL (5 :: bodyH g))) = false) := by show _ = _; unfold idH; rw [k2]; simp [eqL]
  clear hb5
  have HEE : Hid (eqH h g = false) := decide_eq_false k3
  have HEI : Hid ((!eqL (idH h) (idH g)) = false) := by show _ = _; simp [eqL, k4]
  have hne : 5 :: bodyH h ≠ 5 :: bodyH g := fun e => k3 (body_inj hh hg k1 k2 (List.cons.inj e).2)
  obtain ⟨s0, hs0⟩ : ∃ s, strOfNums (5 :: bodyH h) = s := ⟨_, rfl⟩
  obtain ⟨s1, hs1⟩ : ∃ s, strOfNums (5 :: bodyH g) = s := ⟨_, rfl⟩
  have HS0 := Lib.hid hs0
  have HS1 := Lib.hid hs1
  have HNS : Hid ((!(s0.toList == s1.toList)) = true) := by
    show _ = _
    rw [← hs0, ← hs1, strOf_beq HTh.out.2 HTg.out.2]
    simp only [hne, decide_false, Bool.not_false]
  clear hs0 hs1 hne k3 k4
  have HL := Lib.hid hh.len
  have HLG := Lib.hid hg.len
  have E0 : Hid (EnvX w ((w.alloc (.cells (hdA h) 29)).alloc (.cells (hdA g) 29)) [(w.heap.size + 1, Obj.cells (hdA g) 29 (0, 0)), (w.heap.size, Obj.cells (hdA h) 29 (0, 0))]) := (EnvX.start w).two _ _
  have HAW := Lib.hid (hawake_any H ((w.alloc (.cells (hdA h) 29)).alloc (.cells (hdA g) 29)) (ht.below (EnvX.bel E0.out)))
  have HT := Lib.hid ht
  have HH := Lib.hid H
  have HOK := Lib.hid (And.intro hh hg)
  have HP1 : Hid ((putH h).2 = true) := by show _ = _; unfold putH; rw [k1]; rfl
  have HP2 : Hid ((putH g).2 = true) := by show _ = _; unfold putH; rw [k2]; rfl
  clear ht H hh hg k1 k2
  unfold hdV
  go_enter Tryd.func5, Tryd.ntmps5
  go_upto_region 1 with (fail)
  generalize (w.alloc (.cells (hdA h) 29)).alloc (.cells (hdA g) 29) = W at *
  go_wp2_with fail
  refine HAW.out.mono ?_
  rintro e w1 ⟨rfl, hb1⟩
  have HB1 := Lib.hid (EnvX.below E0.out hb1).bel
  have E1 : Hid (EnvX w1 w1 [(w.heap.size + 1, Obj.cells (hdA g) 29 (0, 0)), (w.heap.size, Obj.cells (hdA h) 29 (0, 0))]) := ⟨Below.refl _ _, (EnvX.below E0.out hb1).box⟩
  have HT1 := Lib.hid (HT.out.below HB1.out)
  clear hb1 E0 HAW
  have HLD : Hid ((loadVar 29 ⟨w.heap.size, 0, none⟩).run Tryd.prog w1 = .ok (.agg (hdA h)) w1) := box_hd E1.out (List.Mem.tail _ (List.Mem.head _)) (okHd.len HOK.out.1)
  have HPT : Hid (Calls Tryd.prog 10 #[.agg (hdA h)] w1 fun e w' => (∃ v, e = .returned (.tuple #[v, .bool true]) ∧ OwnB w' w1.heap.size v (putH h).1) ∧ Below w1.heap.size w1 w') := by
    have h1 := HH.out.put h w1 HOK.out.1 (HT1.out.below (EnvX.bel E1.out))
    rwa [HP1.out] at h1
  go_upto_region 2 with (fail)
  go_wp2_with ((with_reducible refine wpList_load_run (o := ⟨some 14, _, _, _, _, _⟩) ?_ 29 (.tmp 2) ?_ ⟨w.heap.size, 0, none⟩ ?_ HLD.out ?_); (rfl); (rfl); (rfl))
  refine HPT.out.mono ?_
  rintro e w2 ⟨⟨v2, rfl, hv⟩, hb⟩
  obtain ⟨hv1, ⟨_, h0⟩ | ⟨gp, capgp, curgp, rfl, hg1, hg2, hg3⟩⟩ := hv
  · have := HBh.out.1
    have e : (putH h).1 = bodyH h := HQh.out
    rw [e] at h0
    omega
  have E2 : Hid (EnvX w1 w2 [(gp, Obj.cells curgp 5 (0, 0)), (w.heap.size + 1, Obj.cells (hdA g) 29 (0, 0)), (w.heap.size, Obj.cells (hdA h) 29 (0, 0))]) := ⟨(EnvX.below E1.out hb).bel, fun q o hm => by
    rcases List.mem_cons.1 hm with e | e
    · cases e
      exact hg2
    · exact (EnvX.below E1.out hb).box q o e⟩
  have HLEgp : Hid (w1.heap.size ≤ gp) := Nat.le_trans (EnvX.bel E1.out).size hg1
  have HNEgp : Hid (w1.heap.size ≤ gp) := hg1
  have HLTgp : Hid (∀ q o, (q, o) ∈ [(w.heap.size + 1, Obj.cells (hdA g) 29 (0, 0)), (w.heap.size, Obj.cells (hdA h) 29 (0, 0))] → q ≠ gp) := fun q o hm e => by
    have h1 := EnvX.lt E1.out hm
    have h2 := hg1
    omega
  rw [show (putH h).1 = bodyH h from HQh.out, HBh.out.1] at hg3 ⊢
  have HCgp := Lib.hid hg3
  clear hv1 hb HLD HPT hg1 hg2 hg3 E1
  have HLD : Hid ((loadVar 29 ⟨w.heap.size + 1, 0, none⟩).run Tryd.prog w2 = .ok (.agg (hdA g)) w2) := box_hd E2.out (List.Mem.tail _ (List.Mem.head _)) (okHd.len HOK.out.2)
  have HPT : Hid (Calls Tryd.prog 10 #[.agg (hdA g)] w2 fun e w' => (∃ v, e = .returned (.tuple #[v, .bool true]) ∧ OwnB w' w2.heap.size v (putH g).1) ∧ Below w2.heap.size w2 w') := by
    have h1 := HH.out.put g w2 HOK.out.2 (HT1.out.below (EnvX.bel E2.out))
    rwa [HP2.out] at h1
  go_upto_region 3 with (fail)
  go_wp2_with ((with_reducible refine wpList_load_run (o := ⟨some 19, _, _, _, _, _⟩) ?_ 29 (.tmp 3) ?_ ⟨w.heap.size + 1, 0, none⟩ ?_ HLD.out ?_); (rfl); (rfl); (rfl))
  refine HPT.out.mono ?_
  rintro e w3 ⟨⟨v3, rfl, hv⟩, hb⟩
  obtain ⟨hv1, ⟨_, h0⟩ | ⟨gq, capgq, curgq, rfl, hg1, hg2, hg3⟩⟩ := hv
  · have := HBg.out.1
    have e : (putH g).1 = bodyH g := HQg.out
    rw [e] at h0
    omega
  have E3 : Hid (EnvX w1 w3 [(gq, Obj.cells curgq 5 (0, 0)), (gp, Obj.cells curgp 5 (0, 0)), (w.heap.size + 1, Obj.cells (hdA g) 29 (0, 0)), (w.heap.size, Obj.cells (hdA h) 29 (0, 0))]) := ⟨(EnvX.below E2.out hb).bel, fun q o hm => by
    rcases List.mem_cons.1 hm with e | e
    · cases e
      exact hg2
    · exact (EnvX.below E2.out hb).box q o e⟩
  have HLEgq : Hid (w1.heap.size ≤ gq) := Nat.le_trans (EnvX.bel E2.out).size hg1
  have HNEgq : Hid (w2.heap.size ≤ gq) := hg1
  have HLTgq : Hid (∀ q o, (q, o) ∈ [(gp, Obj.cells curgp 5 (0, 0)), (w.heap.size + 1, Obj.cells (hdA g) 29 (0, 0)), (w.heap.size, Obj.cells (hdA h) 29 (0, 0))] → q ≠ gq) := fun q o hm e => by
    have h1 := EnvX.lt E2.out hm
    have h2 := hg1
    omega
  rw [show (putH g).1 = bodyH g from HQg.out, HBg.out.1] at hg3 ⊢
  have HCgq := Lib.hid hg3
  clear hv1 hb HLD HPT hg1 hg2 hg3 E2
  go_upto_region 4 with (fail)
  refine wp_region_Hx (w0 := w1) [0, 1, 2, 3, 4, 5, 6, 7, 8, 9] [(gq, Obj.cells curgq 5 (0, 0)), (gp, Obj.cells curgp 5 (0, 0)), (w.heap.size + 1, Obj.cells (hdA g) 29 (0, 0)), (w.heap.size, Obj.cells (hdA h) 29 (0, 0))] rfl E3.out ?_
  refine lexH_phase [0, 1, 2, 3, 4, 5, 6, 7, 8, 9] [] ?_
  have hw1 : EnvX w1 _ [(gq, Obj.cells curgq 5 (0, 0)), (gp, Obj.cells curgp 5 (0, 0)), (w.heap.size + 1, Obj.cells (hdA g) 29 (0, 0)), (w.heap.size, Obj.cells (hdA h) 29 (0, 0))] := E3.out
  have hone := @EnvC.one _ _ _ hw1
  (refine wpG_op rfl rfl rfl ?_; intro K hK; go_big_quiet_op; go_big_quiet_on)
  (refine wpG_op rfl rfl rfl ?_; intro K hK; go_big_quiet_op; go_big_quiet_on)
  (refine wpG_op rfl rfl rfl ?_; intro K hK; go_big_quiet_op; go_big_quiet_on)
  (refine wpG_op rfl rfl rfl ?_; intro K hK; go_big_quiet_op; go_big_quiet_on)
  (refine wpG_op rfl rfl rfl ?_; intro K hK; go_big_quiet_op; go_big_quiet_on)
  (refine wpG_op rfl rfl rfl ?_; intro K hK; go_big_quiet_op; go_big_quiet_on)
  (refine wpG_op rfl rfl rfl ?_; intro K hK; go_big_quiet_op; go_big_quiet_on)
  (refine wpG_op rfl rfl rfl ?_; intro K hK; go_big_quiet_op; go_big_quiet_on)
  (refine wpG_op rfl rfl rfl ?_; intro K hK; go_big_quiet_op; go_big_quiet_on)
  (refine wpG_op rfl rfl rfl ?_; intro K hK; go_big_quiet_op; go_big_quiet_on)
  clear hone hw1
  refine wpG_nil ?_
  intro u3 E2'
  have EX2 := Lib.hid E2'
  clear E2'
  go_upto_region 6 with (fail)
  refine wp_region_Hx (w0 := w1) [0, 1, 2, 3] [(gq, Obj.cells curgq 5 (0, 0)), (gp, Obj.cells curgp 5 (0, 0)), (w.heap.size + 1, Obj.cells (hdA g) 29 (0, 0)), (w.heap.size, Obj.cells (hdA h) 29 (0, 0))] rfl EX2.out ?_
  refine (hOp_fresh (R := fun v N => ∃ g, v = .slice (some ⟨g, 0, none⟩) 1 1 ∧ N = [(g, Obj.cells #[.int .u8 5] 5 (0, 0))]) (M0 := [(gq, Obj.cells curgq 5 (0, 0)), (gp, Obj.cells curgp 5 (0, 0)), (w.heap.size + 1, Obj.cells (hdA g) 29 (0, 0)), (w.heap.size, Obj.cells (hdA h) 29 (0, 0))]) rfl rfl (fun _ h => h) (fun u hu => FAt_byte1 5 u) ?_)
  rintro _ _ ⟨g56, rfl, rfl⟩ hf he4; intro K' hK'; go_big_quiet_op; go_big_quiet_on
  have HGg56 := Lib.hid (hf _ (List.mem_singleton.2 rfl))
  clear hf
  change lexH _ _ _ _ _ _ [(g56, Obj.cells #[.int .u8 5] 5 (0, 0)), (gq, Obj.cells curgq 5 (0, 0)), (gp, Obj.cells curgp 5 (0, 0)), (w.heap.size + 1, Obj.cells (hdA g) 29 (0, 0)), (w.heap.size, Obj.cells (hdA h) 29 (0, 0))]
  refine lexH_phase [1] [2, 3] ?_
  have hw5 : EnvX w1 _ [(g56, Obj.cells #[.int .u8 5] 5 (0, 0)), (gq, Obj.cells curgq 5 (0, 0)), (gp, Obj.cells curgp 5 (0, 0)), (w.heap.size + 1, Obj.cells (hdA g) 29 (0, 0)), (w.heap.size, Obj.cells (hdA h) 29 (0, 0))] := he4.choose_spec
  have hone := @EnvC.one _ _ _ hw5
  (refine wpG_op rfl rfl rfl ?_; intro K hK; go_big_quiet_op; go_big_quiet_on)
  clear hone hw5
  refine wpG_nil ?_
  refine (hOp_own (gd := none) (R := GrownR w1 5 1 (1 + 176) ([.int .u8 5] ++ (bodyH h).map u8v) [(gq, Obj.cells curgq 5 (0, 0)), (w.heap.size + 1, Obj.cells (hdA g) 29 (0, 0)), (w.heap.size, Obj.cells (hdA h) 29 (0, 0))]) rfl rfl rfl rfl (fun u hu => appX_op elB [(gq, Obj.cells curgq 5 (0, 0)), (w.heap.size + 1, Obj.cells (hdA g) 29 (0, 0)), (w.heap.size, Obj.cells (hdA h) 29 (0, 0))] hu (n := 1) rfl (by rw [List.length_map, HBh.out.1]) u8_one (.inl ⟨g56, 1, #[.int .u8 5], rfl, rfl, by decide, by decide, rfl, rfl⟩) (List.forall_mem_cons.2 ⟨⟨(List.Mem.head _), HGg56.out.1⟩, (fun _ h => by cases h)⟩) (src_box hu (List.Mem.tail _ (List.Mem.tail _ (List.Mem.head _))) (by rw [List.drop_zero, List.length_map, HBh.out.1]; exact HCgp.out.2.2.2)) (List.forall_mem_cons.2 ⟨⟨(List.Mem.tail _ (List.Mem.head _)), fun y hy => by cases List.mem_singleton.1 hy; exact HGg56.out.2 _ (List.Mem.head _)⟩, (List.forall_mem_cons.2 ⟨⟨(List.Mem.tail _ (List.Mem.tail _ (List.Mem.tail _ (List.Mem.head _)))), fun y hy => by cases List.mem_singleton.1 hy; exact HGg56.out.2 _ (List.Mem.tail _ (List.Mem.tail _ (List.Mem.head _)))⟩, (List.forall_mem_cons.2 ⟨⟨(List.Mem.tail _ (List.Mem.tail _ (List.Mem.tail _ (List.Mem.tail _ (List.Mem.head _))))), fun y hy => by cases List.mem_singleton.1 hy; exact HGg56.out.2 _ (List.Mem.tail _ (List.Mem.tail _ (List.Mem.tail _ (List.Mem.head _))))⟩, (fun _ h => by cases h)⟩)⟩)⟩) (by omega) rfl rfl) ?_)
  rintro x M' ⟨N, rfl, hF, hn⟩ he6; intro K' hK'; go_big_quiet_op; go_big_quiet_on
  obtain ⟨ga, capga, curga, rfl, rfl, hcga⟩ | ⟨_, _, h0, _⟩ := hF
  case inr => omega
  have HCga := Lib.hid hcga
  clear hcga hn
  change lexH _ _ _ _ _ _ [(ga, Obj.cells curga 5 (0, 0)), (gq, Obj.cells curgq 5 (0, 0)), (w.heap.size + 1, Obj.cells (hdA g) 29 (0, 0)), (w.heap.size, Obj.cells (hdA h) 29 (0, 0))]
  refine lexH_phase [3] [] ?_
  have hw7 : EnvX w1 _ [(ga, Obj.cells curga 5 (0, 0)), (gq, Obj.cells curgq 5 (0, 0)), (w.heap.size + 1, Obj.cells (hdA g) 29 (0, 0)), (w.heap.size, Obj.cells (hdA h) 29 (0, 0))] := he6.choose_spec
  have hone := @EnvC.one _ _ _ hw7
  (refine wpG_op rfl rfl rfl ?_; intro K hK; go_big_quiet_op; go_big_quiet_on)
  clear hone hw7
  refine wpG_nil ?_
  intro u9 E2'
  have EX8 := Lib.hid E2'
  clear E2'
  go_upto_region 7 with (fail)
  refine wp_region_Hx (w0 := w1) [0, 1, 2, 3] [(ga, Obj.cells curga 5 (0, 0)), (gq, Obj.cells curgq 5 (0, 0)), (w.heap.size + 1, Obj.cells (hdA g) 29 (0, 0)), (w.heap.size, Obj.cells (hdA h) 29 (0, 0))] rfl EX8.out ?_
  refine (hOp_fresh (R := fun v N => ∃ g, v = .slice (some ⟨g, 0, none⟩) 1 1 ∧ N = [(g, Obj.cells #[.int .u8 5] 5 (0, 0))]) (M0 := [(ga, Obj.cells curga 5 (0, 0)), (gq, Obj.cells curgq 5 (0, 0)), (w.heap.size + 1, Obj.cells (hdA g) 29 (0, 0)), (w.heap.size, Obj.cells (hdA h) 29 (0, 0))]) rfl rfl (fun _ h => h) (fun u hu => FAt_byte1 5 u) ?_)
  rintro _ _ ⟨g57, rfl, rfl⟩ hf he10; intro K' hK'; go_big_quiet_op; go_big_quiet_on
  have HGg57 := Lib.hid (hf _ (List.mem_singleton.2 rfl))
  clear hf
  change lexH _ _ _ _ _ _ [(g57, Obj.cells #[.int .u8 5] 5 (0, 0)), (ga, Obj.cells curga 5 (0, 0)), (gq, Obj.cells curgq 5 (0, 0)), (w.heap.size + 1, Obj.cells (hdA g) 29 (0, 0)), (w.heap.size, Obj.cells (hdA h) 29 (0, 0))]
  refine lexH_phase [1] [2, 3] ?_
  have hw11 : EnvX w1 _ [(g57, Obj.cells #[.int .u8 5] 5 (0, 0)), (ga, Obj.cells curga 5 (0, 0)), (gq, Obj.cells curgq 5 (0, 0)), (w.heap.size + 1, Obj.cells (hdA g) 29 (0, 0)), (w.heap.size, Obj.cells (hdA h) 29 (0, 0))] := he10.choose_spec
  have hone := @EnvC.one _ _ _ hw11
  (refine wpG_op rfl rfl rfl ?_; intro K hK; go_big_quiet_op; go_big_quiet_on)
  clear hone hw11
  refine wpG_nil ?_
  refine (hOp_own (gd := none) (R := GrownR w1 5 1 (1 + 176) ([.int .u8 5] ++ (bodyH g).map u8v) [(ga, Obj.cells curga 5 (0, 0)), (w.heap.size + 1, Obj.cells (hdA g) 29 (0, 0)), (w.heap.size, Obj.cells (hdA h) 29 (0, 0))]) rfl rfl rfl rfl (fun u hu => appX_op elB [(ga, Obj.cells curga 5 (0, 0)), (w.heap.size + 1, Obj.cells (hdA g) 29 (0, 0)), (w.heap.size, Obj.cells (hdA h) 29 (0, 0))] hu (n := 1) rfl (by rw [List.length_map, HBg.out.1]) u8_one (.inl ⟨g57, 1, #[.int .u8 5], rfl, rfl, by decide, by decide, rfl, rfl⟩) (List.forall_mem_cons.2 ⟨⟨(List.Mem.head _), HGg57.out.1⟩, (fun _ h => by cases h)⟩) (src_box hu (List.Mem.tail _ (List.Mem.tail _ (List.Mem.head _))) (by rw [List.drop_zero, List.length_map, HBg.out.1]; exact HCgq.out.2.2.2)) (List.forall_mem_cons.2 ⟨⟨(List.Mem.tail _ (List.Mem.head _)), fun y hy => by cases List.mem_singleton.1 hy; exact HGg57.out.2 _ (List.Mem.head _)⟩, (List.forall_mem_cons.2 ⟨⟨(List.Mem.tail _ (List.Mem.tail _ (List.Mem.tail _ (List.Mem.head _)))), fun y hy => by cases List.mem_singleton.1 hy; exact HGg57.out.2 _ (List.Mem.tail _ (List.Mem.tail _ (List.Mem.head _)))⟩, (List.forall_mem_cons.2 ⟨⟨(List.Mem.tail _ (List.Mem.tail _ (List.Mem.tail _ (List.Mem.tail _ (List.Mem.head _))))), fun y hy => by cases List.mem_singleton.1 hy; exact HGg57.out.2 _ (List.Mem.tail _ (List.Mem.tail _ (List.Mem.tail _ (List.Mem.head _))))⟩, (fun _ h => by cases h)⟩)⟩)⟩) (by omega) rfl rfl) ?_)
  rintro x M' ⟨N, rfl, hF, hn⟩ he12; intro K' hK'; go_big_quiet_op; go_big_quiet_on
  obtain ⟨gb, capgb, curgb, rfl, rfl, hcgb⟩ | ⟨_, _, h0, _⟩ := hF
  case inr => omega
  have HCgb := Lib.hid hcgb
  clear hcgb hn
  change lexH _ _ _ _ _ _ [(gb, Obj.cells curgb 5 (0, 0)), (ga, Obj.cells curga 5 (0, 0)), (w.heap.size + 1, Obj.cells (hdA g) 29 (0, 0)), (w.heap.size, Obj.cells (hdA h) 29 (0, 0))]
  refine lexH_phase [3] [] ?_
  have hw13 : EnvX w1 _ [(gb, Obj.cells curgb 5 (0, 0)), (ga, Obj.cells curga 5 (0, 0)), (w.heap.size + 1, Obj.cells (hdA g) 29 (0, 0)), (w.heap.size, Obj.cells (hdA h) 29 (0, 0))] := he12.choose_spec
  have hone := @EnvC.one _ _ _ hw13
  (refine wpG_op rfl rfl rfl ?_; intro K hK; go_big_quiet_op; go_big_quiet_on)
  clear hone hw13
  refine wpG_nil ?_
  intro u15 E2'
  have EX14 := Lib.hid E2'
  clear E2'
  go_upto_region 8 with (fail)
  refine wp_region_Hx (w0 := w1) [0, 1, 2, 3, 4, 5, 6, 7, 8, 9, 10, 11] [(gb, Obj.cells curgb 5 (0, 0)), (ga, Obj.cells curga 5 (0, 0)), (w.heap.size + 1, Obj.cells (hdA g) 29 (0, 0)), (w.heap.size, Obj.cells (hdA h) 29 (0, 0))] rfl EX14.out ?_
  refine lexH_phase [0, 1, 2, 3, 4, 5, 6, 7, 8, 9, 10, 11] [] ?_
  have hw16 : EnvX w1 _ [(gb, Obj.cells curgb 5 (0, 0)), (ga, Obj.cells curga 5 (0, 0)), (w.heap.size + 1, Obj.cells (hdA g) 29 (0, 0)), (w.heap.size, Obj.cells (hdA h) 29 (0, 0))] := EX14.out
  have hone := @EnvC.one _ _ _ hw16
  (refine wpG_val (v := hdV h) rfl rfl (fun u hu => load_any_op u (box_hd hu (List.Mem.tail _ (List.Mem.tail _ (List.Mem.tail _ (List.Mem.head _)))) HL.out) rfl) ?_ hw16; intro K hK; go_big_quiet_op; go_big_quiet_on)
  (refine wpG_call (f := 17) (args := #[hdV h]) (v := idv (idH h)) rfl rfl rfl Tryd.func17 rfl rfl (fun u hu => HH.out.id h u HOK.out.1 (HT1.out.below (EnvX.bel hu))) ?_ hw16; intro K hK; go_big_quiet_op; go_big_quiet_on)
  (refine wpG_op rfl rfl rfl ?_; intro K hK; go_big_quiet_op; go_big_quiet_on)
  (refine wpG_call (f := 24) (args := #[.slice (some ⟨ga, 0, none⟩) (1 + 176) capga]) (v := idv (sumL (5 :: bodyH h))) rfl rfl rfl Tryd.func24 rfl rfl (fun u hu => sum_any (some ⟨ga, 0, none⟩) (1 + 176) capga (5 :: bodyH h) u HTh.out.1 (by omega) (boxR_bytes hu (List.Mem.tail _ (List.Mem.head _)) HTh.out.1 HCga.out) HTh.out.2 (HT1.out.below (EnvX.bel hu))) ?_ hw16; intro K hK; go_big_quiet_op; go_big_quiet_on)
  (refine wpG_val (v := .bool false) rfl rfl (fun u hu => neqb_op HIH.out HSH.out HEH.out u rfl rfl) ?_ hw16; intro K hK; go_big_quiet_op; go_big_quiet_on)
  (refine wpG_op rfl rfl rfl ?_; intro K hK; go_big_quiet_op; go_big_quiet_on)
  (refine wpG_val (v := hdV g) rfl rfl (fun u hu => load_any_op u (box_hd hu (List.Mem.tail _ (List.Mem.tail _ (List.Mem.head _))) HLG.out) rfl) ?_ hw16; intro K hK; go_big_quiet_op; go_big_quiet_on)
  (refine wpG_call (f := 17) (args := #[hdV g]) (v := idv (idH g)) rfl rfl rfl Tryd.func17 rfl rfl (fun u hu => HH.out.id g u HOK.out.2 (HT1.out.below (EnvX.bel hu))) ?_ hw16; intro K hK; go_big_quiet_op; go_big_quiet_on)
  (refine wpG_op rfl rfl rfl ?_; intro K hK; go_big_quiet_op; go_big_quiet_on)
  (refine wpG_call (f := 24) (args := #[.slice (some ⟨gb, 0, none⟩) (1 + 176) capgb]) (v := idv (sumL (5 :: bodyH g))) rfl rfl rfl Tryd.func24 rfl rfl (fun u hu => sum_any (some ⟨gb, 0, none⟩) (1 + 176) capgb (5 :: bodyH g) u HTg.out.1 (by omega) (boxR_bytes hu (List.Mem.head _) HTg.out.1 HCgb.out) HTg.out.2 (HT1.out.below (EnvX.bel hu))) ?_ hw16; intro K hK; go_big_quiet_op; go_big_quiet_on)
  (refine wpG_val (v := .bool false) rfl rfl (fun u hu => neqb_op HIG.out HSG.out HEG.out u rfl rfl) ?_ hw16; intro K hK; go_big_quiet_op; go_big_quiet_on)
  (refine wpG_op rfl rfl rfl ?_; intro K hK; go_big_quiet_op; go_big_quiet_on)
  clear hone hw16
  refine wpG_nil ?_
  intro u18 E2'
  have EX17 := Lib.hid E2'
  clear E2'
  go_upto_region 10 with (fail)
  refine wp_region_H (w0 := w1) [(gb, Obj.cells curgb 5 (0, 0)), (ga, Obj.cells curga 5 (0, 0)), (w.heap.size + 1, Obj.cells (hdA g) 29 (0, 0)), (w.heap.size, Obj.cells (hdA h) 29 (0, 0))] (by kernel_rfl) EX17.out ?_
  refine anyH_phase [0, 1, 2, 3, 4, 5, 6, 7, 8, 9, 10, 11, 12, 13, 14, 15, 16, 17] 0 rfl ⟨_, (EnvX.drew EX17.out)⟩ (by kernel_rfl) ?_
  have hw19 : EnvX w1 _ [(gb, Obj.cells curgb 5 (0, 0)), (ga, Obj.cells curga 5 (0, 0)), (w.heap.size + 1, Obj.cells (hdA g) 29 (0, 0)), (w.heap.size, Obj.cells (hdA h) 29 (0, 0))] := (EnvX.drew EX17.out)
  have hone := @EnvC.one _ _ _ hw19
  (refine wpG_val (v := hdV h) rfl rfl (fun u hu => load_any_op u (box_hd hu (List.Mem.tail _ (List.Mem.tail _ (List.Mem.tail _ (List.Mem.head _)))) HL.out) rfl) ?_ hw19; intro K hK; go_big_quiet_op; go_big_quiet_on)
  (refine wpG_val (v := hdV g) rfl rfl (fun u hu => load_any_op u (box_hd hu (List.Mem.tail _ (List.Mem.tail _ (List.Mem.head _))) HLG.out) rfl) ?_ hw19; intro K hK; go_big_quiet_op; go_big_quiet_on)
  (refine wpG_val (v := .bool false) rfl rfl (fun u hu => eqlHd_op HOK.out.1 HOK.out.2 HEE.out u rfl rfl) ?_ hw19; intro K hK; go_big_quiet_op; go_big_quiet_on)
  (refine wpG_op rfl rfl rfl ?_; intro K hK; go_big_quiet_op; go_big_quiet_on)
  (refine wpG_val (v := hdV h) rfl rfl (fun u hu => load_any_op u (box_hd hu (List.Mem.tail _ (List.Mem.tail _ (List.Mem.tail _ (List.Mem.head _)))) HL.out) rfl) ?_ hw19; intro K hK; go_big_quiet_op; go_big_quiet_on)
  (refine wpG_call (f := 17) (args := #[hdV h]) (v := idv (idH h)) rfl rfl rfl Tryd.func17 rfl rfl (fun u hu => HH.out.id h u HOK.out.1 (HT1.out.below (EnvX.bel hu))) ?_ hw19; intro K hK; go_big_quiet_op; go_big_quiet_on)
  (refine wpG_val (v := hdV g) rfl rfl (fun u hu => load_any_op u (box_hd hu (List.Mem.tail _ (List.Mem.tail _ (List.Mem.head _))) HLG.out) rfl) ?_ hw19; intro K hK; go_big_quiet_op; go_big_quiet_on)
  (refine wpG_call (f := 17) (args := #[hdV g]) (v := idv (idH g)) rfl rfl rfl Tryd.func17 rfl rfl (fun u hu => HH.out.id g u HOK.out.2 (HT1.out.below (EnvX.bel hu))) ?_ hw19; intro K hK; go_big_quiet_op; go_big_quiet_on)
  (refine wpG_val (v := .bool false) rfl rfl (fun u hu => neqb_op HIH.out HIG.out HEI.out u rfl rfl) ?_ hw19; intro K hK; go_big_quiet_op; go_big_quiet_on)
  (refine wpG_op rfl rfl rfl ?_; intro K hK; go_big_quiet_op; go_big_quiet_on)
  (refine wpG_op rfl rfl rfl ?_; intro K hK; go_big_quiet_op; go_big_quiet_on)
  (refine wpG_op rfl rfl rfl ?_; intro K hK; go_big_quiet_op; go_big_quiet_on)
  (refine wpG_val (v := .string s0) rfl rfl (fun u hu => conv_op u HTh.out.1 (boxR_bytes hu (List.Mem.tail _ (List.Mem.head _)) HTh.out.1 HCga.out) HS0.out rfl) ?_ hw19; intro K hK; go_big_quiet_op; go_big_quiet_on)
  (refine wpG_op rfl rfl rfl ?_; intro K hK; go_big_quiet_op; go_big_quiet_on)
  (refine wpG_val (v := .string s1) rfl rfl (fun u hu => conv_op u HTg.out.1 (boxR_bytes hu (List.Mem.head _) HTg.out.1 HCgb.out) HS1.out rfl) ?_ hw19; intro K hK; go_big_quiet_op; go_big_quiet_on)
  (refine wpG_val (v := .bool true) rfl rfl (fun u hu => nes_op u HNS.out rfl rfl) ?_ hw19; intro K hK; go_big_quiet_op; go_big_quiet_on)
  (refine wpG_op rfl rfl rfl ?_; intro K hK; go_big_quiet_op; go_big_quiet_on)
  (refine wpG_op rfl rfl rfl ?_; intro K hK; go_big_quiet_op; go_big_quiet_on)
  clear hone hw19
  refine wpG_nil ?_
  refine anyH_done (by kernel_rfl) ?_
  intro u21 E2'
  have EX20 := Lib.hid E2'
  clear E2'
  have HBE := Lib.hid (HB1.out.trans ((EnvX.bel EX20.out).mono HB1.out.size))
  go_wp2
  go_ret
  exact ⟨rfl, HBE.out⟩
theorem law_sumsH (H : HeadC) (h g : Hd) (w : World) (hh : okHd h) (hg : okHd g) (ht : Tables w) :
    Calls Tryd.prog 5 #[hdV h, hdV g] w fun e w' => e = .returned (.bool true) ∧ Below w.heap.size w w' := by
  cases k1 : mayPut h with
  | false => exact law_sumsH_no H h g w hh hg ht k1 _ rfl
  | true =>
    cases k2 : mayPut g with
    | false => exact law_sumsH_one H h g w hh hg ht k1 k2
    | true =>
      by_cases k3 : h = g
      · exact law_sumsH_same H h g w hh hg ht k1 k2 k3
      · by_cases k4 : idH h = idH g
        · exact law_sumsH_texts H h g w hh hg ht k1 k2 k3 k4
        · exact law_sumsH_ids H h g w hh hg ht k1 k2 k3 k4
end Go.Proofs.YtmpjgfecnnefeaaDoor

namespace Go.Proofs.YtmpjgfecnnefeaaDoor.headSums
set_option maxRecDepth 8000
open Go.ChangeShapes Go.WideShapes Go.ChangeAt Go.RowKit

theorem contract (H : Type) (enc : TypeId × Value → H) (W : World) (base : Nat) (args : Array Value) (ds gs : List (DataW H)) (before : List MemPlace)
    (hval : ∀ (j : Nat) t v, Tryd.f5.params[j]? = some t → args[j]? = some v → Value.okWide Tryd.prog W .any base t v)
    (hW : DataW.Whole enc Tryd.prog Tryd.f5.params.toList Rows.headSumsSpec.vars false W args.toList ds gs before) (hL : laidMetH Tryd.prog Rows.headSumsRow.laid W) :
    Calls Tryd.prog 5 args W fun e W' => ∃ v, e = .returned v ∧ Rows.headSumsSpec.post enc Tryd.prog Tryd.f5 false true false false W args v W' := by
  have hW' := hW
  obtain ⟨p, q, hA0, hV, rfl, hfz, hnd⟩ := hW
  have hA : DataW.TrodAll enc Tryd.prog W 0 (fun _ => true) true Tryd.f5.params.toList args.toList ds p := hA0
  rw [Tryd.params5] at hA hval
  obtain ⟨v0, vs0, d0, ds0, p0, q0, hargs, rfl, rfl, h0, r0⟩ := trodAll_cons hA
  obtain ⟨v1, vs1, d1, ds1, p1, q1, rfl, rfl, rfl, h1, r1⟩ := trodAll_cons r0
  obtain ⟨rfl, rfl, rfl⟩ := trodAll_nil r1
  obtain rfl : args = #[v0, v1] := by cases args; simp_all
  obtain ⟨rfl, rfl⟩ := trodVars_none hV
  have lt0 : ∀ x ∈ p0, x.block < W.heap.size := by obtain ⟨m, hm⟩ := h0; exact DataW.trod_lt m _ _ _ hm
  obtain ⟨x0, rfl, kx0⟩ := open_head (hval 0 29 v0 rfl rfl) h0
  have lt1 : ∀ x ∈ p1, x.block < W.heap.size := by obtain ⟨m, hm⟩ := h1; exact DataW.trod_lt m _ _ _ hm
  obtain ⟨x1, rfl, kx1⟩ := open_head (hval 1 29 v1 rfl rfl) h1
  clear hA0
  refine (law_sumsH headC x0 x1 W kx0 kx1 (tables_of_laid hL)).mono fun e W' ⟨he, bel⟩ => ?_
  subst he
  exact ⟨_, rfl, _, _, _, [], _, [], hW', trodAll_mk1 (shut_bool Tryd.underlying4 _), (trodAll_cons_mk (Below.trod laidOut (by kernel_rfl) (of_decide_eq_true (by kernel_rfl)) h0 bel lt0) (trodAll_cons_mk (Below.trod laidOut (by kernel_rfl) (of_decide_eq_true (by kernel_rfl)) h1 bel lt1) trodAll_mk0)), rfl, bel.frame _, fun h => by cases h⟩

def start : Array Value := #[zeroH, zeroH]
theorem reads (os : Os) {H : Type} (enc : TypeId × Value → H) : ∃ places, DataW.whole enc Tryd.prog ((laidWorld os).forCall (fun _ _ => 0) ⟨#[], start, []⟩).memory Tryd.f5.params.toList Rows.headSumsSpec.vars false start.toList 8 = some ([zeroHD, zeroHD], [], places) :=
  ⟨[], by kernel_rfl⟩

set_option maxRecDepth 100000 in
theorem lifted (os : Os) (started : os.Started) (H : Type) (enc : TypeId × Value → H) (F : Stop.Interp) :
    ReturnsInHanded {} Tryd.checked os 5 .any ((OpenSpec.ofChange Rows.headSumsSpec).preRow enc Tryd.prog Tryd.f5 Rows.headSumsRow.domain false Rows.headSumsRow.laid) (((OpenSpec.ofChange Rows.headSumsSpec).at F).post enc Tryd.prog Tryd.f5 false true false false) := by
  obtain ⟨places, hx⟩ := reads os enc
  refine returnsInHanded_of_row (C := Tryd.checked) (s := OpenSpec.ofChange Rows.headSumsSpec) own started (by kernel_rfl) Tryd.func5
    (witness_row_at (enc := enc) (C := Tryd.checked) false (laidWorld os) start rfl (by kernel_rfl) (by kernel_rfl) (by kernel_rfl)
      (OpenSpec.preRow_of_cond 8 hx (by kernel_rfl) (fun k hk => by cases hk) (by kernel_rfl) (laidMet_of_run' 8 (by kernel_rfl) (by kernel_rfl)))) ?_
  intro W base args ds gs before hval hW _ _ _ hL _ _
  exact contract H enc W base args ds gs before hval hW hL

theorem said : Rows.HeadSumsSaid :=
  OpenClaim.holds_of_cond 5 Tryd.f5 rfl rfl rfl rfl rfl rfl rfl ⟨rfl, rfl, rfl, rfl, rfl⟩ rfl rfl rfl rfl rfl (by kernel_rfl) Tryd.func5 (by kernel_rfl)
    (of_decide_eq_true (by kernel_rfl)) (by unfold Func.isWrapper; first | (rw [if_pos (by decide +kernel)]; kernel_rfl) | (rw [if_neg (by decide +kernel)]; exact ⟨rfl, rfl⟩))
    (fun os started H enc _ F => by rw [OpenClaim.pre_eq_preRow]; exact lifted os started H enc F)

theorem plain (f : FuncId) (fn : Func) (hf : Tryd.pinned.checked.prog.funcNamed "stepladder/stepladderlaw08.HeadSums" = some f) (hfn : Tryd.pinned.checked.prog.funcs[f]? = some fn) :
    false = Tryd.pinned.checked.prog.looks [] ∧ ∀ (j : Nat) t, fn.params[j]? = some t → Tryd.pinned.checked.prog.wantsStandIn t = false := by
  obtain rfl : f = 5 := Option.some.inj ((show Tryd.prog.funcNamed "stepladder/stepladderlaw08.HeadSums" = some 5 by kernel_rfl).symm.trans hf) |>.symm
  obtain rfl : fn = Tryd.f5 := (Option.some.inj (Tryd.func5.symm.trans hfn)).symm
  refine ⟨by kernel_rfl, fun j t ht => ?_⟩
  rw [Tryd.params5] at ht
  obtain rfl : t = 29 := by simpa using Array.mem_of_getElem? ht
  exact (show Tryd.prog.wantsStandIn 29 = false by kernel_rfl)

theorem card : Rows.HeadSumsCardSaid :=
  Claim7.holds_tied_plain_at .later [] _ _ _ _ said (fun _ h => by cases h) (by kernel_rfl) (fun _ h => by cases h) headSums_row_tie rfl ⟨rfl, rfl⟩ (by kernel_rfl) rfl plain (by kernel_rfl)

end Go.Proofs.YtmpjgfecnnefeaaDoor.headSums
