/-
  PROVED: the law stepladderlaw08.HeadLevels answers true for every input, and leaves its arguments as they were.
  Conditions: the two package-level tables of package sha hold at the call what their initialisers lay; the card ties that to the text of the program (a pruned copy of the project: the packages that the roots of this seat load).
-/
import Derived.Test.YtmpjgfecnnefeaaDoorCj
namespace Go.Proofs.YtmpjgfecnnefeaaDoor
set_option maxRecDepth 8000
open Go.RowKit

section
variable {a : Act} {dst : Option Tmp} {x y : Operand} {ty : TypeId} {pos : String} {after : Array Edge} {gd : Option (Nat × Bool)}
theorem neqWh_op {m n : Nat} (hm : m < Big) (hn : n < Big) {b : Bool} (hb : eqN m n = !b) (u : World) (hx : a.eval x = .agg (wcs m)) (hy : a.eval y = .agg (wcs n)) :
    (execOp a.eval ⟨dst, .binOp .neq 26 x y 26, ty, pos, after, gd⟩).run Tryd.prog u = .ok (.value (.bool b)) u := by
  have h : (Op.equalIn 10000 26 (.agg (wcs m)) (.agg (wcs n))).run Tryd.prog u = .ok (eqN m n) u := run_equal_wide m n hm hn u
  rw [hb] at h
  unfold execOp
  simp only [hx, hy]
  generalize wcs m = cm at *
  generalize wcs n = cn at *
  go_simp
end
set_option maxRecDepth 20000 in
set_option maxHeartbeats 8000000 in
theorem law_levels_a (H : HeadC) (h : Hd) (w : World) (hh : okHd h) (ht : Tables w) (hc : isC h.bits = false) (k : mayPut h = false) :
    Calls Tryd.prog 7 #[hdV h] w fun e w' => e = .returned (.bool true) ∧ Below w.heap.size w w' := by
  have HW0 : Hid (0 < Big) := Big_pos
  have HWE : Hid (eqN (workH h) 0 = !false) := by show _ = _; unfold workH; rw [hc]; rfl
  have HV : Hid (decide (levelH h = -1) = true) := decide_eq_true (by unfold levelH; rw [hc, k]; rfl)
  have HL := Lib.hid hh.len
  have HWB := Lib.hid (work_big h)
  have HM : Hid (decide (0 ≤ levelH h) = mayH h) := rfl
  have E0 : Hid (EnvX w (w.alloc (.cells (hdA h) 29)) [(w.heap.size, Obj.cells (hdA h) 29 (0, 0))]) := (EnvX.start w).new _
  have HAW := Lib.hid (hawake_any H (w.alloc (.cells (hdA h) 29)) (ht.below (EnvX.bel E0.out)))
  have HT := Lib.hid ht
  have HH := Lib.hid H
  have HOK := Lib.hid hh
  have HTG : Hid (∀ u, Calls Tryd.prog 25 #[.int .u32 (h.bits : Int)] u fun e w' => e = .returned (.tuple #[.agg (wcs (tv h.bits)), .bool false]) ∧ Below u.heap.size u w') := fun u => by
    have h1 := target_any h.bits u hh.2.2.2.2.2.2.1
    rwa [hc] at h1
  have HOF : Hid (∀ u, Calls Tryd.prog 27 #[.int .u64 0] u fun e w' => e = .returned (.agg (wcs 0)) ∧ Below u.heap.size u w') := fun u => of_n 0 u (by decide)
  have HTW : Hid (∀ u, Calls Tryd.prog 26 #[.agg (wcs (tv h.bits))] u fun e w' => e = .returned (.agg (wcs (wkV (tv h.bits)))) ∧ Below u.heap.size u w') := fun u => work_any (tv h.bits) u (tv_big h.bits)
  have hpt : (putH h).2 = false := by unfold putH; rw [k]; rfl
  have HPB := Lib.hid hpt
  clear ht H hh hc k hpt
  unfold hdV
  go_enter Tryd.func7, Tryd.ntmps7
  go_upto_region 1 with (fail)
  generalize w.alloc (.cells (hdA h) 29) = W at *
  go_wp2_with fail
  refine HAW.out.mono ?_
  rintro e w1 ⟨rfl, hb1⟩
  have HB1 := Lib.hid (EnvX.below E0.out hb1).bel
  have E1 : Hid (EnvX w1 w1 [(w.heap.size, Obj.cells (hdA h) 29 (0, 0))]) := ⟨Below.refl _ _, (EnvX.below E0.out hb1).box⟩
  have HT1 := Lib.hid (HT.out.below HB1.out)
  clear hb1 E0 HAW
  go_upto_region 2 with (fail)
  refine wp_region_Hx (w0 := w1) [0, 1, 2, 3, 4, 5, 6, 7, 8] [(w.heap.size, Obj.cells (hdA h) 29 (0, 0))] rfl E1.out ?_
  refine lexH_phase [0, 1, 2, 3, 4, 5] [6, 7, 8] ?_
  have hw1 : EnvX w1 _ [(w.heap.size, Obj.cells (hdA h) 29 (0, 0))] := E1.out
  have hone := @EnvC.one _ _ _ hw1
  (refine wpG_op rfl rfl rfl ?_; intro K hK; go_big_quiet_op; go_big_quiet_on)
  (refine wpG_val (v := .int .u32 (h.bits : Int)) rfl rfl (fun u hu => load_any_op u (box_hd_bits hu (List.Mem.head _) HL.out) rfl) ?_ hw1; intro K hK; go_big_quiet_op; go_big_quiet_on)
  (refine wpG_call (f := 25) (args := #[.int .u32 (h.bits : Int)]) (v := .tuple #[.agg (wcs (tv h.bits)), .bool false]) rfl rfl rfl Tryd.func25 rfl rfl (fun u hu => HTG.out u) ?_ hw1; intro K hK; go_big_quiet_op; go_big_quiet_on)
  (refine wpG_op rfl rfl rfl ?_; intro K hK; go_big_quiet_op; go_big_quiet_on)
  (refine wpG_op rfl rfl rfl ?_; intro K hK; go_big_quiet_op; go_big_quiet_on)
  (refine wpG_op rfl rfl rfl ?_; intro K hK; go_big_quiet_op; go_big_quiet_on)
  clear hone hw1
  refine wpG_nil ?_
  refine (hOp_fresh (R := fun x N => ∃ g, x = .pointer (some ⟨g, 0, none⟩) ∧ N = [(g, Obj.cells (wcs 0) 26 (0, 0))]) (M0 := [(w.heap.size, Obj.cells (hdA h) 29 (0, 0))]) rfl rfl (fun _ h => h) (fun u hu => FAt_new (new_wd _) u) ?_)
  rintro _ _ ⟨gt, rfl, rfl⟩ hf he2; intro K' hK'; go_big_quiet_op; go_big_quiet_on
  have HGT := Lib.hid (hf _ (List.mem_singleton.2 rfl))
  clear hf
  change lexH _ _ _ _ _ _ [(gt, Obj.cells (wcs 0) 26 (0, 0)), (w.heap.size, Obj.cells (hdA h) 29 (0, 0))]
  refine (hOp_store rfl (gt) (wcs (tv h.bits)) rfl rfl HGT.out.1 26 ((wcs 0)) (List.Mem.head _) (wc_info _) ((wc_size _).trans (wc_size _).symm) (wc_one _) [(gt, Obj.cells (wcs (tv h.bits)) 26 (0, 0)), (w.heap.size, Obj.cells (hdA h) 29 (0, 0))] (List.forall_mem_cons.2 ⟨.inl rfl, fun y hy => .inr ⟨List.mem_cons_of_mem _ hy, HGT.out.2 y hy⟩⟩) ?_)
  intro he3
  refine lexH_phase [8] [] ?_
  have hw4 : EnvX w1 _ [(gt, Obj.cells (wcs (tv h.bits)) 26 (0, 0)), (w.heap.size, Obj.cells (hdA h) 29 (0, 0))] := he3.choose_spec
  have hone := @EnvC.one _ _ _ hw4
  (refine wpG_op rfl rfl rfl ?_; intro K hK; go_big_quiet_op; go_big_quiet_on)
  clear hone hw4
  refine wpG_nil ?_
  intro u6 E2'
  have EX5 := Lib.hid E2'
  clear E2'
  have HLD : Hid ((loadVar 29 ⟨w.heap.size, 0, none⟩).run Tryd.prog u6 = .ok (.agg (hdA h)) u6) := box_hd EX5.out (List.Mem.tail _ (List.Mem.head _)) HL.out
  have HPT : Hid (Calls Tryd.prog 10 #[.agg (hdA h)] u6 fun e w' => (∃ v, e = .returned (.tuple #[v, .bool false]) ∧ OwnB w' u6.heap.size v (putH h).1) ∧ Below u6.heap.size u6 w') := by
    have h1 := HH.out.put h u6 HOK.out (HT1.out.below (EnvX.bel EX5.out))
    rwa [HPB.out] at h1
  go_upto_region 3 with (fail)
  go_wp2_with ((with_reducible refine wpList_load_run (o := ⟨some 17, _, _, _, _, _⟩) ?_ 29 (.tmp 1) ?_ ⟨w.heap.size, 0, none⟩ ?_ HLD.out ?_); (rfl); (rfl); (rfl))
  refine HPT.out.mono ?_
  rintro e w2 ⟨⟨v, rfl, hv⟩, hb⟩
  have E3 : Hid (EnvX w1 w2 [(gt, Obj.cells (wcs (tv h.bits)) 26 (0, 0)), (w.heap.size, Obj.cells (hdA h) 29 (0, 0))]) := EnvX.below EX5.out hb
  clear hv hb HLD HPT EX5
  go_upto_region 4 with (fail)
  refine wp_region_Hx (w0 := w1) [0, 1, 2] [(gt, Obj.cells (wcs (tv h.bits)) 26 (0, 0)), (w.heap.size, Obj.cells (hdA h) 29 (0, 0))] rfl E3.out ?_
  refine lexH_phase [0, 1, 2] [] ?_
  have hw7 : EnvX w1 _ [(gt, Obj.cells (wcs (tv h.bits)) 26 (0, 0)), (w.heap.size, Obj.cells (hdA h) 29 (0, 0))] := E3.out
  have hone := @EnvC.one _ _ _ hw7
  (refine wpG_val (v := hdV h) rfl rfl (fun u hu => load_any_op u (box_hd hu (List.Mem.tail _ (List.Mem.head _)) HL.out) rfl) ?_ hw7; intro K hK; go_big_quiet_op; go_big_quiet_on)
  (refine wpG_call (f := 19) (args := #[hdV h]) (v := .int .i64 (levelH h)) rfl rfl rfl Tryd.func19 rfl rfl (fun u hu => HH.out.level h u HOK.out (HT1.out.below (EnvX.bel hu))) ?_ hw7; intro K hK; go_big_quiet_op; go_big_quiet_on)
  (refine wpG_op rfl rfl rfl ?_; intro K hK; go_big_quiet_op; go_big_quiet_on)
  clear hone hw7
  refine wpG_nil ?_
  intro u9 E2'
  have EX8 := Lib.hid E2'
  clear E2'
  go_upto_region 5 with (fail)
  refine wp_region_H (w0 := w1) [(gt, Obj.cells (wcs (tv h.bits)) 26 (0, 0)), (w.heap.size, Obj.cells (hdA h) 29 (0, 0))] (by kernel_rfl) EX8.out ?_
  refine anyH_phase [0, 1, 2, 3, 4, 5, 6, 7, 8, 9, 10, 11, 12, 13, 14, 15, 16, 17, 18, 19, 20, 21, 22, 23, 24, 25, 26, 27, 28] 0 rfl ⟨_, (EnvX.drew EX8.out)⟩ (by kernel_rfl) ?_
  have hw10 : EnvX w1 _ [(gt, Obj.cells (wcs (tv h.bits)) 26 (0, 0)), (w.heap.size, Obj.cells (hdA h) 29 (0, 0))] := (EnvX.drew EX8.out)
  have hone := @EnvC.one _ _ _ hw10
  (refine wpG_op rfl rfl rfl ?_; intro K hK; go_big_quiet_op; go_big_quiet_on)
  (refine wpG_op rfl rfl rfl ?_; intro K hK; go_big_quiet_op; go_big_quiet_on)
  (refine wpG_op rfl rfl rfl ?_; intro K hK; go_big_quiet_op; go_big_quiet_on)
  (refine wpG_val (v := hdV h) rfl rfl (fun u hu => load_any_op u (box_hd hu (List.Mem.tail _ (List.Mem.head _)) HL.out) rfl) ?_ hw10; intro K hK; go_big_quiet_op; go_big_quiet_on)
  (refine wpG_call (f := 23) (args := #[hdV h]) (v := .bool (mayH h)) rfl rfl rfl Tryd.func23 rfl rfl (fun u hu => HH.out.may h u HOK.out (HT1.out.below (EnvX.bel hu))) ?_ hw10; intro K hK; go_big_quiet_op; go_big_quiet_on)
  (refine wpG_op rfl rfl rfl ?_; intro K hK; go_big_quiet_op; go_big_quiet_on)
  (refine wpG_val (v := .bool (mayH h)) rfl rfl (fun u hu => geq_op u HM.out rfl rfl) ?_ hw10; intro K hK; go_big_quiet_op; go_big_quiet_on)
  (refine wpG_val (v := .bool false) rfl rfl (fun u hu => neqTTh_op u rfl rfl) ?_ hw10; intro K hK; go_big_quiet_op; go_big_quiet_on)
  (refine wpG_op rfl rfl rfl ?_; intro K hK; go_big_quiet_op; go_big_quiet_on)
  (refine wpG_op rfl rfl rfl ?_; intro K hK; go_big_quiet_op; go_big_quiet_on)
  (refine wpG_op rfl rfl rfl ?_; intro K hK; go_big_quiet_op; go_big_quiet_on)
  (refine wpG_op rfl rfl rfl ?_; intro K hK; go_big_quiet_op; go_big_quiet_on)
  (refine wpG_skip rfl rfl ?_ hw10; intro K hK; go_big_quiet_op; go_big_quiet_on)
  (refine wpG_skip rfl rfl ?_ hw10; intro K hK; go_big_quiet_op; go_big_quiet_on)
  (refine wpG_skip rfl rfl ?_ hw10; intro K hK; go_big_quiet_op; go_big_quiet_on)
  (refine wpG_skip rfl rfl ?_ hw10; intro K hK; go_big_quiet_op; go_big_quiet_on)
  (refine wpG_skip rfl rfl ?_ hw10; intro K hK; go_big_quiet_op; go_big_quiet_on)
  (refine wpG_op rfl rfl rfl ?_; intro K hK; go_big_quiet_op; go_big_quiet_on)
  (refine wpG_op rfl rfl rfl ?_; intro K hK; go_big_quiet_op; go_big_quiet_on)
  (refine wpG_op rfl rfl rfl ?_; intro K hK; go_big_quiet_op; go_big_quiet_on)
  (refine wpG_op rfl rfl rfl ?_; intro K hK; go_big_quiet_op; go_big_quiet_on)
  (refine wpG_op rfl rfl rfl ?_; intro K hK; go_big_quiet_op; go_big_quiet_on)
  (refine wpG_op rfl rfl rfl ?_; intro K hK; go_big_quiet_op; go_big_quiet_on)
  (refine wpG_val (v := hdV h) rfl rfl (fun u hu => load_any_op u (box_hd hu (List.Mem.tail _ (List.Mem.head _)) HL.out) rfl) ?_ hw10; intro K hK; go_big_quiet_op; go_big_quiet_on)
  (refine wpG_call (f := 21) (args := #[hdV h]) (v := .agg (wcs (workH h))) rfl rfl rfl Tryd.func21 rfl rfl (fun u hu => HH.out.work h u HOK.out (HT1.out.below (EnvX.bel hu))) ?_ hw10; intro K hK; go_big_quiet_op; go_big_quiet_on)
  (refine wpG_call (f := 27) (args := #[.int .u64 0]) (v := .agg (wcs 0)) rfl rfl rfl Tryd.func27 rfl rfl (fun u hu => HOF.out u) ?_ hw10; intro K hK; go_big_quiet_op; go_big_quiet_on)
  (refine wpG_val (v := .bool false) rfl rfl (fun u hu => neqWh_op HWB.out HW0.out HWE.out u rfl rfl) ?_ hw10; intro K hK; go_big_quiet_op; go_big_quiet_on)
  (refine wpG_op rfl rfl rfl ?_; intro K hK; go_big_quiet_op; go_big_quiet_on)
  (refine wpG_op rfl rfl rfl ?_; intro K hK; go_big_quiet_op; go_big_quiet_on)
  clear hone hw10
  refine wpG_nil ?_
  refine anyH_done (by kernel_rfl) ?_
  intro u12 E2'
  have EX11 := Lib.hid E2'
  clear E2'
  go_upto_region 7 with (fail)
  refine wp_region_Hx (w0 := w1) [0, 1, 2, 3, 4, 5] [(gt, Obj.cells (wcs (tv h.bits)) 26 (0, 0)), (w.heap.size, Obj.cells (hdA h) 29 (0, 0))] rfl EX11.out ?_
  refine lexH_phase [0, 1, 2, 3, 4, 5] [] ?_
  have hw13 : EnvX w1 _ [(gt, Obj.cells (wcs (tv h.bits)) 26 (0, 0)), (w.heap.size, Obj.cells (hdA h) 29 (0, 0))] := EX11.out
  have hone := @EnvC.one _ _ _ hw13
  (refine wpG_op rfl rfl rfl ?_; intro K hK; go_big_quiet_op; go_big_quiet_on)
  (refine wpG_op rfl rfl rfl ?_; intro K hK; go_big_quiet_op; go_big_quiet_on)
  (refine wpG_op rfl rfl rfl ?_; intro K hK; go_big_quiet_op; go_big_quiet_on)
  (refine wpG_skip rfl rfl ?_ hw13; intro K hK; go_big_quiet_op; go_big_quiet_on)
  (refine wpG_skip rfl rfl ?_ hw13; intro K hK; go_big_quiet_op; go_big_quiet_on)
  (refine wpG_op rfl rfl rfl ?_; intro K hK; go_big_quiet_op; go_big_quiet_on)
  clear hone hw13
  refine wpG_nil ?_
  intro u15 E2'
  have EX14 := Lib.hid E2'
  clear E2'
  go_upto_region 8 with (fail)
  refine wp_region_Hx (w0 := w1) [0, 1, 2] [(gt, Obj.cells (wcs (tv h.bits)) 26 (0, 0)), (w.heap.size, Obj.cells (hdA h) 29 (0, 0))] rfl EX14.out ?_
  refine lexH_phase [0, 1, 2] [] ?_
  have hw16 : EnvX w1 _ [(gt, Obj.cells (wcs (tv h.bits)) 26 (0, 0)), (w.heap.size, Obj.cells (hdA h) 29 (0, 0))] := EX14.out
  have hone := @EnvC.one _ _ _ hw16
  (refine wpG_op rfl rfl rfl ?_; intro K hK; go_big_quiet_op; go_big_quiet_on)
  (refine wpG_val (v := .bool true) rfl rfl (fun u hu => eqlI_op u HV.out rfl rfl) ?_ hw16; intro K hK; go_big_quiet_op; go_big_quiet_on)
  (refine wpG_op rfl rfl rfl ?_; intro K hK; go_big_quiet_op; go_big_quiet_on)
  clear hone hw16
  refine wpG_nil ?_
  intro u18 E2'
  have EX17 := Lib.hid E2'
  clear E2'
  have HBE := Lib.hid (HB1.out.trans ((EnvX.bel EX17.out).mono HB1.out.size))
  go_wp2
  go_ret
  exact ⟨rfl, HBE.out⟩
set_option maxRecDepth 20000 in
set_option maxHeartbeats 8000000 in
theorem law_levels_b (H : HeadC) (h : Hd) (w : World) (hh : okHd h) (ht : Tables w) (hc : isC h.bits = false) (k : mayPut h = true) :
    Calls Tryd.prog 7 #[hdV h] w fun e w' => e = .returned (.bool true) ∧ Below w.heap.size w w' := by
  have HW0 : Hid (0 < Big) := Big_pos
  have HWE : Hid (eqN (workH h) 0 = !false) := by show _ = _; unfold workH; rw [hc]; rfl
  have HV : Hid (decide (levelH h = -1) = true) := decide_eq_true (by unfold levelH; rw [hc, k]; rfl)
  have HL := Lib.hid hh.len
  have HWB := Lib.hid (work_big h)
  have HM : Hid (decide (0 ≤ levelH h) = mayH h) := rfl
  have E0 : Hid (EnvX w (w.alloc (.cells (hdA h) 29)) [(w.heap.size, Obj.cells (hdA h) 29 (0, 0))]) := (EnvX.start w).new _
  have HAW := Lib.hid (hawake_any H (w.alloc (.cells (hdA h) 29)) (ht.below (EnvX.bel E0.out)))
  have HT := Lib.hid ht
  have HH := Lib.hid H
  have HOK := Lib.hid hh
  have HTG : Hid (∀ u, Calls Tryd.prog 25 #[.int .u32 (h.bits : Int)] u fun e w' => e = .returned (.tuple #[.agg (wcs (tv h.bits)), .bool false]) ∧ Below u.heap.size u w') := fun u => by
    have h1 := target_any h.bits u hh.2.2.2.2.2.2.1
    rwa [hc] at h1
  have HOF : Hid (∀ u, Calls Tryd.prog 27 #[.int .u64 0] u fun e w' => e = .returned (.agg (wcs 0)) ∧ Below u.heap.size u w') := fun u => of_n 0 u (by decide)
  have HTW : Hid (∀ u, Calls Tryd.prog 26 #[.agg (wcs (tv h.bits))] u fun e w' => e = .returned (.agg (wcs (wkV (tv h.bits)))) ∧ Below u.heap.size u w') := fun u => work_any (tv h.bits) u (tv_big h.bits)
  have hpt : (putH h).2 = true := by unfold putH; rw [k]; rfl
  have HPB := Lib.hid hpt
  clear ht H hh hc k hpt
  unfold hdV
  go_enter Tryd.func7, Tryd.ntmps7
  go_upto_region 1 with (fail)
  generalize w.alloc (.cells (hdA h) 29) = W at *
  go_wp2_with fail
  refine HAW.out.mono ?_
  rintro e w1 ⟨rfl, hb1⟩
  have HB1 := Lib.hid (EnvX.below E0.out hb1).bel
  have E1 : Hid (EnvX w1 w1 [(w.heap.size, Obj.cells (hdA h) 29 (0, 0))]) := ⟨Below.refl _ _, (EnvX.below E0.out hb1).box⟩
  have HT1 := Lib.hid (HT.out.below HB1.out)
  clear hb1 E0 HAW
  go_upto_region 2 with (fail)
  refine wp_region_Hx (w0 := w1) [0, 1, 2, 3, 4, 5, 6, 7, 8] [(w.heap.size, Obj.cells (hdA h) 29 (0, 0))] rfl E1.out ?_
  refine lexH_phase [0, 1, 2, 3, 4, 5] [6, 7, 8] ?_
  have hw1 : EnvX w1 _ [(w.heap.size, Obj.cells (hdA h) 29 (0, 0))] := E1.out
  have hone := @EnvC.one _ _ _ hw1
  (refine wpG_op rfl rfl rfl ?_; intro K hK; go_big_quiet_op; go_big_quiet_on)
  (refine wpG_val (v := .int .u32 (h.bits : Int)) rfl rfl (fun u hu => load_any_op u (box_hd_bits hu (List.Mem.head _) HL.out) rfl) ?_ hw1; intro K hK; go_big_quiet_op; go_big_quiet_on)
  (refine wpG_call (f := 25) (args := #[.int .u32 (h.bits : Int)]) (v := .tuple #[.agg (wcs (tv h.bits)), .bool false]) rfl rfl rfl Tryd.func25 rfl rfl (fun u hu => HTG.out u) ?_ hw1; intro K hK; go_big_quiet_op; go_big_quiet_on)
  (refine wpG_op rfl rfl rfl ?_; intro K hK; go_big_quiet_op; go_big_quiet_on)
  (refine wpG_op rfl rfl rfl ?_; intro K hK; go_big_quiet_op; go_big_quiet_on)
  (refine wpG_op rfl rfl rfl ?_; intro K hK; go_big_quiet_op; go_big_quiet_on)
  clear hone hw1
  refine wpG_nil ?_
  refine (hOp_fresh (R := fun x N => ∃ g, x = .pointer (some ⟨g, 0, none⟩) ∧ N = [(g, Obj.cells (wcs 0) 26 (0, 0))]) (M0 := [(w.heap.size, Obj.cells (hdA h) 29 (0, 0))]) rfl rfl (fun _ h => h) (fun u hu => FAt_new (new_wd _) u) ?_)
  rintro _ _ ⟨gt, rfl, rfl⟩ hf he2; intro K' hK'; go_big_quiet_op; go_big_quiet_on
  have HGT := Lib.hid (hf _ (List.mem_singleton.2 rfl))
  clear hf
  change lexH _ _ _ _ _ _ [(gt, Obj.cells (wcs 0) 26 (0, 0)), (w.heap.size, Obj.cells (hdA h) 29 (0, 0))]
  refine (hOp_store rfl (gt) (wcs (tv h.bits)) rfl rfl HGT.out.1 26 ((wcs 0)) (List.Mem.head _) (wc_info _) ((wc_size _).trans (wc_size _).symm) (wc_one _) [(gt, Obj.cells (wcs (tv h.bits)) 26 (0, 0)), (w.heap.size, Obj.cells (hdA h) 29 (0, 0))] (List.forall_mem_cons.2 ⟨.inl rfl, fun y hy => .inr ⟨List.mem_cons_of_mem _ hy, HGT.out.2 y hy⟩⟩) ?_)
  intro he3
  refine lexH_phase [8] [] ?_
  have hw4 : EnvX w1 _ [(gt, Obj.cells (wcs (tv h.bits)) 26 (0, 0)), (w.heap.size, Obj.cells (hdA h) 29 (0, 0))] := he3.choose_spec
  have hone := @EnvC.one _ _ _ hw4
  (refine wpG_op rfl rfl rfl ?_; intro K hK; go_big_quiet_op; go_big_quiet_on)
  clear hone hw4
  refine wpG_nil ?_
  intro u6 E2'
  have EX5 := Lib.hid E2'
  clear E2'
  have HLD : Hid ((loadVar 29 ⟨w.heap.size, 0, none⟩).run Tryd.prog u6 = .ok (.agg (hdA h)) u6) := box_hd EX5.out (List.Mem.tail _ (List.Mem.head _)) HL.out
  have HPT : Hid (Calls Tryd.prog 10 #[.agg (hdA h)] u6 fun e w' => (∃ v, e = .returned (.tuple #[v, .bool true]) ∧ OwnB w' u6.heap.size v (putH h).1) ∧ Below u6.heap.size u6 w') := by
    have h1 := HH.out.put h u6 HOK.out (HT1.out.below (EnvX.bel EX5.out))
    rwa [HPB.out] at h1
  go_upto_region 3 with (fail)
  go_wp2_with ((with_reducible refine wpList_load_run (o := ⟨some 17, _, _, _, _, _⟩) ?_ 29 (.tmp 1) ?_ ⟨w.heap.size, 0, none⟩ ?_ HLD.out ?_); (rfl); (rfl); (rfl))
  refine HPT.out.mono ?_
  rintro e w2 ⟨⟨v, rfl, hv⟩, hb⟩
  have E3 : Hid (EnvX w1 w2 [(gt, Obj.cells (wcs (tv h.bits)) 26 (0, 0)), (w.heap.size, Obj.cells (hdA h) 29 (0, 0))]) := EnvX.below EX5.out hb
  clear hv hb HLD HPT EX5
  go_upto_region 4 with (fail)
  refine wp_region_Hx (w0 := w1) [0, 1, 2] [(gt, Obj.cells (wcs (tv h.bits)) 26 (0, 0)), (w.heap.size, Obj.cells (hdA h) 29 (0, 0))] rfl E3.out ?_
  refine lexH_phase [0, 1, 2] [] ?_
  have hw7 : EnvX w1 _ [(gt, Obj.cells (wcs (tv h.bits)) 26 (0, 0)), (w.heap.size, Obj.cells (hdA h) 29 (0, 0))] := E3.out
  have hone := @EnvC.one _ _ _ hw7
  (refine wpG_val (v := hdV h) rfl rfl (fun u hu => load_any_op u (box_hd hu (List.Mem.tail _ (List.Mem.head _)) HL.out) rfl) ?_ hw7; intro K hK; go_big_quiet_op; go_big_quiet_on)
  (refine wpG_call (f := 19) (args := #[hdV h]) (v := .int .i64 (levelH h)) rfl rfl rfl Tryd.func19 rfl rfl (fun u hu => HH.out.level h u HOK.out (HT1.out.below (EnvX.bel hu))) ?_ hw7; intro K hK; go_big_quiet_op; go_big_quiet_on)
  (refine wpG_op rfl rfl rfl ?_; intro K hK; go_big_quiet_op; go_big_quiet_on)
  clear hone hw7
  refine wpG_nil ?_
  intro u9 E2'
  have EX8 := Lib.hid E2'
  clear E2'
  go_upto_region 5 with (fail)
  refine wp_region_H (w0 := w1) [(gt, Obj.cells (wcs (tv h.bits)) 26 (0, 0)), (w.heap.size, Obj.cells (hdA h) 29 (0, 0))] (by kernel_rfl) EX8.out ?_
  refine anyH_phase [0, 1, 2, 3, 4, 5, 6, 7, 8, 9, 10, 11, 12, 13, 14, 15, 16, 17, 18, 19, 20, 21, 22, 23, 24, 25, 26, 27, 28] 0 rfl ⟨_, (EnvX.drew EX8.out)⟩ (by kernel_rfl) ?_
  have hw10 : EnvX w1 _ [(gt, Obj.cells (wcs (tv h.bits)) 26 (0, 0)), (w.heap.size, Obj.cells (hdA h) 29 (0, 0))] := (EnvX.drew EX8.out)
  have hone := @EnvC.one _ _ _ hw10
  (refine wpG_op rfl rfl rfl ?_; intro K hK; go_big_quiet_op; go_big_quiet_on)
  (refine wpG_op rfl rfl rfl ?_; intro K hK; go_big_quiet_op; go_big_quiet_on)
  (refine wpG_op rfl rfl rfl ?_; intro K hK; go_big_quiet_op; go_big_quiet_on)
  (refine wpG_val (v := hdV h) rfl rfl (fun u hu => load_any_op u (box_hd hu (List.Mem.tail _ (List.Mem.head _)) HL.out) rfl) ?_ hw10; intro K hK; go_big_quiet_op; go_big_quiet_on)
  (refine wpG_call (f := 23) (args := #[hdV h]) (v := .bool (mayH h)) rfl rfl rfl Tryd.func23 rfl rfl (fun u hu => HH.out.may h u HOK.out (HT1.out.below (EnvX.bel hu))) ?_ hw10; intro K hK; go_big_quiet_op; go_big_quiet_on)
  (refine wpG_op rfl rfl rfl ?_; intro K hK; go_big_quiet_op; go_big_quiet_on)
  (refine wpG_val (v := .bool (mayH h)) rfl rfl (fun u hu => geq_op u HM.out rfl rfl) ?_ hw10; intro K hK; go_big_quiet_op; go_big_quiet_on)
  (refine wpG_val (v := .bool false) rfl rfl (fun u hu => neqTTh_op u rfl rfl) ?_ hw10; intro K hK; go_big_quiet_op; go_big_quiet_on)
  (refine wpG_op rfl rfl rfl ?_; intro K hK; go_big_quiet_op; go_big_quiet_on)
  (refine wpG_op rfl rfl rfl ?_; intro K hK; go_big_quiet_op; go_big_quiet_on)
  (refine wpG_op rfl rfl rfl ?_; intro K hK; go_big_quiet_op; go_big_quiet_on)
  (refine wpG_op rfl rfl rfl ?_; intro K hK; go_big_quiet_op; go_big_quiet_on)
  (refine wpG_skip rfl rfl ?_ hw10; intro K hK; go_big_quiet_op; go_big_quiet_on)
  (refine wpG_skip rfl rfl ?_ hw10; intro K hK; go_big_quiet_op; go_big_quiet_on)
  (refine wpG_skip rfl rfl ?_ hw10; intro K hK; go_big_quiet_op; go_big_quiet_on)
  (refine wpG_skip rfl rfl ?_ hw10; intro K hK; go_big_quiet_op; go_big_quiet_on)
  (refine wpG_skip rfl rfl ?_ hw10; intro K hK; go_big_quiet_op; go_big_quiet_on)
  (refine wpG_op rfl rfl rfl ?_; intro K hK; go_big_quiet_op; go_big_quiet_on)
  (refine wpG_op rfl rfl rfl ?_; intro K hK; go_big_quiet_op; go_big_quiet_on)
  (refine wpG_op rfl rfl rfl ?_; intro K hK; go_big_quiet_op; go_big_quiet_on)
  (refine wpG_op rfl rfl rfl ?_; intro K hK; go_big_quiet_op; go_big_quiet_on)
  (refine wpG_op rfl rfl rfl ?_; intro K hK; go_big_quiet_op; go_big_quiet_on)
  (refine wpG_op rfl rfl rfl ?_; intro K hK; go_big_quiet_op; go_big_quiet_on)
  (refine wpG_val (v := hdV h) rfl rfl (fun u hu => load_any_op u (box_hd hu (List.Mem.tail _ (List.Mem.head _)) HL.out) rfl) ?_ hw10; intro K hK; go_big_quiet_op; go_big_quiet_on)
  (refine wpG_call (f := 21) (args := #[hdV h]) (v := .agg (wcs (workH h))) rfl rfl rfl Tryd.func21 rfl rfl (fun u hu => HH.out.work h u HOK.out (HT1.out.below (EnvX.bel hu))) ?_ hw10; intro K hK; go_big_quiet_op; go_big_quiet_on)
  (refine wpG_call (f := 27) (args := #[.int .u64 0]) (v := .agg (wcs 0)) rfl rfl rfl Tryd.func27 rfl rfl (fun u hu => HOF.out u) ?_ hw10; intro K hK; go_big_quiet_op; go_big_quiet_on)
  (refine wpG_val (v := .bool false) rfl rfl (fun u hu => neqWh_op HWB.out HW0.out HWE.out u rfl rfl) ?_ hw10; intro K hK; go_big_quiet_op; go_big_quiet_on)
  (refine wpG_op rfl rfl rfl ?_; intro K hK; go_big_quiet_op; go_big_quiet_on)
  (refine wpG_op rfl rfl rfl ?_; intro K hK; go_big_quiet_op; go_big_quiet_on)
  clear hone hw10
  refine wpG_nil ?_
  refine anyH_done (by kernel_rfl) ?_
  intro u12 E2'
  have EX11 := Lib.hid E2'
  clear E2'
  go_upto_region 7 with (fail)
  refine wp_region_Hx (w0 := w1) [0, 1, 2, 3, 4, 5] [(gt, Obj.cells (wcs (tv h.bits)) 26 (0, 0)), (w.heap.size, Obj.cells (hdA h) 29 (0, 0))] rfl EX11.out ?_
  refine lexH_phase [0, 1, 2, 3, 4, 5] [] ?_
  have hw13 : EnvX w1 _ [(gt, Obj.cells (wcs (tv h.bits)) 26 (0, 0)), (w.heap.size, Obj.cells (hdA h) 29 (0, 0))] := EX11.out
  have hone := @EnvC.one _ _ _ hw13
  (refine wpG_op rfl rfl rfl ?_; intro K hK; go_big_quiet_op; go_big_quiet_on)
  (refine wpG_op rfl rfl rfl ?_; intro K hK; go_big_quiet_op; go_big_quiet_on)
  (refine wpG_op rfl rfl rfl ?_; intro K hK; go_big_quiet_op; go_big_quiet_on)
  (refine wpG_skip rfl rfl ?_ hw13; intro K hK; go_big_quiet_op; go_big_quiet_on)
  (refine wpG_skip rfl rfl ?_ hw13; intro K hK; go_big_quiet_op; go_big_quiet_on)
  (refine wpG_op rfl rfl rfl ?_; intro K hK; go_big_quiet_op; go_big_quiet_on)
  clear hone hw13
  refine wpG_nil ?_
  intro u15 E2'
  have EX14 := Lib.hid E2'
  clear E2'
  go_upto_region 8 with (fail)
  refine wp_region_Hx (w0 := w1) [0, 1, 2] [(gt, Obj.cells (wcs (tv h.bits)) 26 (0, 0)), (w.heap.size, Obj.cells (hdA h) 29 (0, 0))] rfl EX14.out ?_
  refine lexH_phase [0, 1, 2] [] ?_
  have hw16 : EnvX w1 _ [(gt, Obj.cells (wcs (tv h.bits)) 26 (0, 0)), (w.heap.size, Obj.cells (hdA h) 29 (0, 0))] := EX14.out
  have hone := @EnvC.one _ _ _ hw16
  (refine wpG_op rfl rfl rfl ?_; intro K hK; go_big_quiet_op; go_big_quiet_on)
  (refine wpG_val (v := .bool true) rfl rfl (fun u hu => eqlI_op u HV.out rfl rfl) ?_ hw16; intro K hK; go_big_quiet_op; go_big_quiet_on)
  (refine wpG_op rfl rfl rfl ?_; intro K hK; go_big_quiet_op; go_big_quiet_on)
  clear hone hw16
  refine wpG_nil ?_
  intro u18 E2'
  have EX17 := Lib.hid E2'
  clear E2'
  have HBE := Lib.hid (HB1.out.trans ((EnvX.bel EX17.out).mono HB1.out.size))
  go_wp2
  go_ret
  exact ⟨rfl, HBE.out⟩
set_option maxRecDepth 20000 in
set_option maxHeartbeats 8000000 in
theorem law_levels_c (H : HeadC) (h : Hd) (w : World) (hh : okHd h) (ht : Tables w) (hc : isC h.bits = true) (k : mayPut h = false) :
    Calls Tryd.prog 7 #[hdV h] w fun e w' => e = .returned (.bool true) ∧ Below w.heap.size w w' := by
  have HWT : Hid (wkV (tv h.bits) < Big) := by have := work_big h; unfold workH at this; rw [hc] at this; exact this
  have HWE : Hid (eqN (workH h) (wkV (tv h.bits)) = !false) := by show _ = _; unfold workH; rw [hc]; simp [eqN]
  have HV : Hid (decide (levelH h = -1) = true) := decide_eq_true (by unfold levelH; rw [hc, k]; rfl)
  have HL := Lib.hid hh.len
  have HWB := Lib.hid (work_big h)
  have HM : Hid (decide (0 ≤ levelH h) = mayH h) := rfl
  have E0 : Hid (EnvX w (w.alloc (.cells (hdA h) 29)) [(w.heap.size, Obj.cells (hdA h) 29 (0, 0))]) := (EnvX.start w).new _
  have HAW := Lib.hid (hawake_any H (w.alloc (.cells (hdA h) 29)) (ht.below (EnvX.bel E0.out)))
  have HT := Lib.hid ht
  have HH := Lib.hid H
  have HOK := Lib.hid hh
  have HTG : Hid (∀ u, Calls Tryd.prog 25 #[.int .u32 (h.bits : Int)] u fun e w' => e = .returned (.tuple #[.agg (wcs (tv h.bits)), .bool true]) ∧ Below u.heap.size u w') := fun u => by
    have h1 := target_any h.bits u hh.2.2.2.2.2.2.1
    rwa [hc] at h1
  have HOF : Hid (∀ u, Calls Tryd.prog 27 #[.int .u64 0] u fun e w' => e = .returned (.agg (wcs 0)) ∧ Below u.heap.size u w') := fun u => of_n 0 u (by decide)
  have HTW : Hid (∀ u, Calls Tryd.prog 26 #[.agg (wcs (tv h.bits))] u fun e w' => e = .returned (.agg (wcs (wkV (tv h.bits)))) ∧ Below u.heap.size u w') := fun u => work_any (tv h.bits) u (tv_big h.bits)
  have hpt : (putH h).2 = false := by unfold putH; rw [k]; rfl
  have HPB := Lib.hid hpt
  clear ht H hh hc k hpt
  unfold hdV
  go_enter Tryd.func7, Tryd.ntmps7
  go_upto_region 1 with (fail)
  generalize w.alloc (.cells (hdA h) 29) = W at *
  go_wp2_with fail
  refine HAW.out.mono ?_
  rintro e w1 ⟨rfl, hb1⟩
  have HB1 := Lib.hid (EnvX.below E0.out hb1).bel
  have E1 : Hid (EnvX w1 w1 [(w.heap.size, Obj.cells (hdA h) 29 (0, 0))]) := ⟨Below.refl _ _, (EnvX.below E0.out hb1).box⟩
  have HT1 := Lib.hid (HT.out.below HB1.out)
  clear hb1 E0 HAW
  go_upto_region 2 with (fail)
  refine wp_region_Hx (w0 := w1) [0, 1, 2, 3, 4, 5, 6, 7, 8] [(w.heap.size, Obj.cells (hdA h) 29 (0, 0))] rfl E1.out ?_
  refine lexH_phase [0, 1, 2, 3, 4, 5] [6, 7, 8] ?_
  have hw1 : EnvX w1 _ [(w.heap.size, Obj.cells (hdA h) 29 (0, 0))] := E1.out
  have hone := @EnvC.one _ _ _ hw1
  (refine wpG_op rfl rfl rfl ?_; intro K hK; go_big_quiet_op; go_big_quiet_on)
  (refine wpG_val (v := .int .u32 (h.bits : Int)) rfl rfl (fun u hu => load_any_op u (box_hd_bits hu (List.Mem.head _) HL.out) rfl) ?_ hw1; intro K hK; go_big_quiet_op; go_big_quiet_on)
  (refine wpG_call (f := 25) (args := #[.int .u32 (h.bits : Int)]) (v := .tuple #[.agg (wcs (tv h.bits)), .bool true]) rfl rfl rfl Tryd.func25 rfl rfl (fun u hu => HTG.out u) ?_ hw1; intro K hK; go_big_quiet_op; go_big_quiet_on)
  (refine wpG_op rfl rfl rfl ?_; intro K hK; go_big_quiet_op; go_big_quiet_on)
  (refine wpG_op rfl rfl rfl ?_; intro K hK; go_big_quiet_op; go_big_quiet_on)
  (refine wpG_op rfl rfl rfl ?_; intro K hK; go_big_quiet_op; go_big_quiet_on)
  clear hone hw1
  refine wpG_nil ?_
  refine (hOp_fresh (R := fun x N => ∃ g, x = .pointer (some ⟨g, 0, none⟩) ∧ N = [(g, Obj.cells (wcs 0) 26 (0, 0))]) (M0 := [(w.heap.size, Obj.cells (hdA h) 29 (0, 0))]) rfl rfl (fun _ h => h) (fun u hu => FAt_new (new_wd _) u) ?_)
  rintro _ _ ⟨gt, rfl, rfl⟩ hf he2; intro K' hK'; go_big_quiet_op; go_big_quiet_on
  have HGT := Lib.hid (hf _ (List.mem_singleton.2 rfl))
  clear hf
  change lexH _ _ _ _ _ _ [(gt, Obj.cells (wcs 0) 26 (0, 0)), (w.heap.size, Obj.cells (hdA h) 29 (0, 0))]
  refine (hOp_store rfl (gt) (wcs (tv h.bits)) rfl rfl HGT.out.1 26 ((wcs 0)) (List.Mem.head _) (wc_info _) ((wc_size _).trans (wc_size _).symm) (wc_one _) [(gt, Obj.cells (wcs (tv h.bits)) 26 (0, 0)), (w.heap.size, Obj.cells (hdA h) 29 (0, 0))] (List.forall_mem_cons.2 ⟨.inl rfl, fun y hy => .inr ⟨List.mem_cons_of_mem _ hy, HGT.out.2 y hy⟩⟩) ?_)
  intro he3
  refine lexH_phase [8] [] ?_
  have hw4 : EnvX w1 _ [(gt, Obj.cells (wcs (tv h.bits)) 26 (0, 0)), (w.heap.size, Obj.cells (hdA h) 29 (0, 0))] := he3.choose_spec
  have hone := @EnvC.one _ _ _ hw4
  (refine wpG_op rfl rfl rfl ?_; intro K hK; go_big_quiet_op; go_big_quiet_on)
  clear hone hw4
  refine wpG_nil ?_
  intro u6 E2'
  have EX5 := Lib.hid E2'
  clear E2'
  have HLD : Hid ((loadVar 29 ⟨w.heap.size, 0, none⟩).run Tryd.prog u6 = .ok (.agg (hdA h)) u6) := box_hd EX5.out (List.Mem.tail _ (List.Mem.head _)) HL.out
  have HPT : Hid (Calls Tryd.prog 10 #[.agg (hdA h)] u6 fun e w' => (∃ v, e = .returned (.tuple #[v, .bool false]) ∧ OwnB w' u6.heap.size v (putH h).1) ∧ Below u6.heap.size u6 w') := by
    have h1 := HH.out.put h u6 HOK.out (HT1.out.below (EnvX.bel EX5.out))
    rwa [HPB.out] at h1
  go_upto_region 3 with (fail)
  go_wp2_with ((with_reducible refine wpList_load_run (o := ⟨some 17, _, _, _, _, _⟩) ?_ 29 (.tmp 1) ?_ ⟨w.heap.size, 0, none⟩ ?_ HLD.out ?_); (rfl); (rfl); (rfl))
  refine HPT.out.mono ?_
  rintro e w2 ⟨⟨v, rfl, hv⟩, hb⟩
  have E3 : Hid (EnvX w1 w2 [(gt, Obj.cells (wcs (tv h.bits)) 26 (0, 0)), (w.heap.size, Obj.cells (hdA h) 29 (0, 0))]) := EnvX.below EX5.out hb
  clear hv hb HLD HPT EX5
  go_upto_region 4 with (fail)
  refine wp_region_Hx (w0 := w1) [0, 1, 2] [(gt, Obj.cells (wcs (tv h.bits)) 26 (0, 0)), (w.heap.size, Obj.cells (hdA h) 29 (0, 0))] rfl E3.out ?_
  refine lexH_phase [0, 1, 2] [] ?_
  have hw7 : EnvX w1 _ [(gt, Obj.cells (wcs (tv h.bits)) 26 (0, 0)), (w.heap.size, Obj.cells (hdA h) 29 (0, 0))] := E3.out
  have hone := @EnvC.one _ _ _ hw7
  (refine wpG_val (v := hdV h) rfl rfl (fun u hu => load_any_op u (box_hd hu (List.Mem.tail _ (List.Mem.head _)) HL.out) rfl) ?_ hw7; intro K hK; go_big_quiet_op; go_big_quiet_on)
  (refine wpG_call (f := 19) (args := #[hdV h]) (v := .int .i64 (levelH h)) rfl rfl rfl Tryd.func19 rfl rfl (fun u hu => HH.out.level h u HOK.out (HT1.out.below (EnvX.bel hu))) ?_ hw7; intro K hK; go_big_quiet_op; go_big_quiet_on)
  (refine wpG_op rfl rfl rfl ?_; intro K hK; go_big_quiet_op; go_big_quiet_on)
  clear hone hw7
  refine wpG_nil ?_
  intro u9 E2'
  have EX8 := Lib.hid E2'
  clear E2'
  go_upto_region 5 with (fail)
  refine wp_region_H (w0 := w1) [(gt, Obj.cells (wcs (tv h.bits)) 26 (0, 0)), (w.heap.size, Obj.cells (hdA h) 29 (0, 0))] (by kernel_rfl) EX8.out ?_
  refine anyH_phase [0, 1, 2, 3, 4, 5, 6, 7, 8, 9, 10, 11, 12, 13, 14, 15, 16, 17, 18, 19, 20, 21, 22, 23, 24, 25, 26, 27, 28] 0 rfl ⟨_, (EnvX.drew EX8.out)⟩ (by kernel_rfl) ?_
  have hw10 : EnvX w1 _ [(gt, Obj.cells (wcs (tv h.bits)) 26 (0, 0)), (w.heap.size, Obj.cells (hdA h) 29 (0, 0))] := (EnvX.drew EX8.out)
  have hone := @EnvC.one _ _ _ hw10
  (refine wpG_op rfl rfl rfl ?_; intro K hK; go_big_quiet_op; go_big_quiet_on)
  (refine wpG_op rfl rfl rfl ?_; intro K hK; go_big_quiet_op; go_big_quiet_on)
  (refine wpG_op rfl rfl rfl ?_; intro K hK; go_big_quiet_op; go_big_quiet_on)
  (refine wpG_val (v := hdV h) rfl rfl (fun u hu => load_any_op u (box_hd hu (List.Mem.tail _ (List.Mem.head _)) HL.out) rfl) ?_ hw10; intro K hK; go_big_quiet_op; go_big_quiet_on)
  (refine wpG_call (f := 23) (args := #[hdV h]) (v := .bool (mayH h)) rfl rfl rfl Tryd.func23 rfl rfl (fun u hu => HH.out.may h u HOK.out (HT1.out.below (EnvX.bel hu))) ?_ hw10; intro K hK; go_big_quiet_op; go_big_quiet_on)
  (refine wpG_op rfl rfl rfl ?_; intro K hK; go_big_quiet_op; go_big_quiet_on)
  (refine wpG_val (v := .bool (mayH h)) rfl rfl (fun u hu => geq_op u HM.out rfl rfl) ?_ hw10; intro K hK; go_big_quiet_op; go_big_quiet_on)
  (refine wpG_val (v := .bool false) rfl rfl (fun u hu => neqTTh_op u rfl rfl) ?_ hw10; intro K hK; go_big_quiet_op; go_big_quiet_on)
  (refine wpG_op rfl rfl rfl ?_; intro K hK; go_big_quiet_op; go_big_quiet_on)
  (refine wpG_op rfl rfl rfl ?_; intro K hK; go_big_quiet_op; go_big_quiet_on)
  (refine wpG_op rfl rfl rfl ?_; intro K hK; go_big_quiet_op; go_big_quiet_on)
  (refine wpG_op rfl rfl rfl ?_; intro K hK; go_big_quiet_op; go_big_quiet_on)
  (refine wpG_val (v := hdV h) rfl rfl (fun u hu => load_any_op u (box_hd hu (List.Mem.tail _ (List.Mem.head _)) HL.out) rfl) ?_ hw10; intro K hK; go_big_quiet_op; go_big_quiet_on)
  (refine wpG_call (f := 21) (args := #[hdV h]) (v := .agg (wcs (workH h))) rfl rfl rfl Tryd.func21 rfl rfl (fun u hu => HH.out.work h u HOK.out (HT1.out.below (EnvX.bel hu))) ?_ hw10; intro K hK; go_big_quiet_op; go_big_quiet_on)
  (refine wpG_val (v := .agg (wcs (tv h.bits))) rfl rfl (fun u hu => load_any_op u (box_wide hu (List.Mem.head _)) rfl) ?_ hw10; intro K hK; go_big_quiet_op; go_big_quiet_on)
  (refine wpG_call (f := 26) (args := #[.agg (wcs (tv h.bits))]) (v := .agg (wcs (wkV (tv h.bits)))) rfl rfl rfl Tryd.func26 rfl rfl (fun u hu => HTW.out u) ?_ hw10; intro K hK; go_big_quiet_op; go_big_quiet_on)
  (refine wpG_val (v := .bool false) rfl rfl (fun u hu => neqWh_op HWB.out HWT.out HWE.out u rfl rfl) ?_ hw10; intro K hK; go_big_quiet_op; go_big_quiet_on)
  (refine wpG_op rfl rfl rfl ?_; intro K hK; go_big_quiet_op; go_big_quiet_on)
  (refine wpG_op rfl rfl rfl ?_; intro K hK; go_big_quiet_op; go_big_quiet_on)
  (refine wpG_op rfl rfl rfl ?_; intro K hK; go_big_quiet_op; go_big_quiet_on)
  (refine wpG_op rfl rfl rfl ?_; intro K hK; go_big_quiet_op; go_big_quiet_on)
  (refine wpG_op rfl rfl rfl ?_; intro K hK; go_big_quiet_op; go_big_quiet_on)
  (refine wpG_op rfl rfl rfl ?_; intro K hK; go_big_quiet_op; go_big_quiet_on)
  (refine wpG_skip rfl rfl ?_ hw10; intro K hK; go_big_quiet_op; go_big_quiet_on)
  (refine wpG_skip rfl rfl ?_ hw10; intro K hK; go_big_quiet_op; go_big_quiet_on)
  (refine wpG_skip rfl rfl ?_ hw10; intro K hK; go_big_quiet_op; go_big_quiet_on)
  (refine wpG_skip rfl rfl ?_ hw10; intro K hK; go_big_quiet_op; go_big_quiet_on)
  (refine wpG_op rfl rfl rfl ?_; intro K hK; go_big_quiet_op; go_big_quiet_on)
  (refine wpG_op rfl rfl rfl ?_; intro K hK; go_big_quiet_op; go_big_quiet_on)
  clear hone hw10
  refine wpG_nil ?_
  refine anyH_done (by kernel_rfl) ?_
  intro u12 E2'
  have EX11 := Lib.hid E2'
  clear E2'
  go_upto_region 7 with (fail)
  refine wp_region_Hx (w0 := w1) [0, 1, 2, 3, 4, 5] [(gt, Obj.cells (wcs (tv h.bits)) 26 (0, 0)), (w.heap.size, Obj.cells (hdA h) 29 (0, 0))] rfl EX11.out ?_
  refine lexH_phase [0, 1, 2, 3, 4, 5] [] ?_
  have hw13 : EnvX w1 _ [(gt, Obj.cells (wcs (tv h.bits)) 26 (0, 0)), (w.heap.size, Obj.cells (hdA h) 29 (0, 0))] := EX11.out
  have hone := @EnvC.one _ _ _ hw13
  (refine wpG_op rfl rfl rfl ?_; intro K hK; go_big_quiet_op; go_big_quiet_on)
  (refine wpG_op rfl rfl rfl ?_; intro K hK; go_big_quiet_op; go_big_quiet_on)
  (refine wpG_op rfl rfl rfl ?_; intro K hK; go_big_quiet_op; go_big_quiet_on)
  (refine wpG_op rfl rfl rfl ?_; intro K hK; go_big_quiet_op; go_big_quiet_on)
  (refine wpG_op rfl rfl rfl ?_; intro K hK; go_big_quiet_op; go_big_quiet_on)
  (refine wpG_op rfl rfl rfl ?_; intro K hK; go_big_quiet_op; go_big_quiet_on)
  clear hone hw13
  refine wpG_nil ?_
  intro u15 E2'
  have EX14 := Lib.hid E2'
  clear E2'
  go_upto_region 8 with (fail)
  refine wp_region_Hx (w0 := w1) [0, 1, 2] [(gt, Obj.cells (wcs (tv h.bits)) 26 (0, 0)), (w.heap.size, Obj.cells (hdA h) 29 (0, 0))] rfl EX14.out ?_
  refine lexH_phase [0, 1, 2] [] ?_
  have hw16 : EnvX w1 _ [(gt, Obj.cells (wcs (tv h.bits)) 26 (0, 0)), (w.heap.size, Obj.cells (hdA h) 29 (0, 0))] := EX14.out
  have hone := @EnvC.one _ _ _ hw16
  (refine wpG_op rfl rfl rfl ?_; intro K hK; go_big_quiet_op; go_big_quiet_on)
  (refine wpG_val (v := .bool true) rfl rfl (fun u hu => eqlI_op u HV.out rfl rfl) ?_ hw16; intro K hK; go_big_quiet_op; go_big_quiet_on)
  (refine wpG_op rfl rfl rfl ?_; intro K hK; go_big_quiet_op; go_big_quiet_on)
  clear hone hw16
  refine wpG_nil ?_
  intro u18 E2'
  have EX17 := Lib.hid E2'
  clear E2'
  have HBE := Lib.hid (HB1.out.trans ((EnvX.bel EX17.out).mono HB1.out.size))
  go_wp2
  go_ret
  exact ⟨rfl, HBE.out⟩
set_option maxRecDepth 20000 in
set_option maxHeartbeats 8000000 in
theorem law_levels_d (H : HeadC) (h : Hd) (w : World) (hh : okHd h) (ht : Tables w) (hc : isC h.bits = true) (k : mayPut h = true) (h0 : h.height = 0) :
    Calls Tryd.prog 7 #[hdV h] w fun e w' => e = .returned (.bool true) ∧ Below w.heap.size w w' := by
  have HWT : Hid (wkV (tv h.bits) < Big) := by have := work_big h; unfold workH at this; rw [hc] at this; exact this
  have HWE : Hid (eqN (workH h) (wkV (tv h.bits)) = !false) := by show _ = _; unfold workH; rw [hc]; simp [eqN]
  have HV : Hid (decide (levelH h = 31) = true) := decide_eq_true (by unfold levelH; rw [hc, k]; exact if_pos h0)
  have C0 : Hid (decide (h.height = 0) = true) := decide_eq_true h0
  clear h0
  have HL := Lib.hid hh.len
  have HWB := Lib.hid (work_big h)
  have HM : Hid (decide (0 ≤ levelH h) = mayH h) := rfl
  have E0 : Hid (EnvX w (w.alloc (.cells (hdA h) 29)) [(w.heap.size, Obj.cells (hdA h) 29 (0, 0))]) := (EnvX.start w).new _
  have HAW := Lib.hid (hawake_any H (w.alloc (.cells (hdA h) 29)) (ht.below (EnvX.bel E0.out)))
  have HT := Lib.hid ht
  have HH := Lib.hid H
  have HOK := Lib.hid hh
  have HTG : Hid (∀ u, Calls Tryd.prog 25 #[.int .u32 (h.bits : Int)] u fun e w' => e = .returned (.tuple #[.agg (wcs (tv h.bits)), .bool true]) ∧ Below u.heap.size u w') := fun u => by
    have h1 := target_any h.bits u hh.2.2.2.2.2.2.1
    rwa [hc] at h1
  have HOF : Hid (∀ u, Calls Tryd.prog 27 #[.int .u64 0] u fun e w' => e = .returned (.agg (wcs 0)) ∧ Below u.heap.size u w') := fun u => of_n 0 u (by decide)
  have HTW : Hid (∀ u, Calls Tryd.prog 26 #[.agg (wcs (tv h.bits))] u fun e w' => e = .returned (.agg (wcs (wkV (tv h.bits)))) ∧ Below u.heap.size u w') := fun u => work_any (tv h.bits) u (tv_big h.bits)
  have hpt : (putH h).2 = true := by unfold putH; rw [k]; rfl
  have HPB := Lib.hid hpt
  clear ht H hh hc k hpt
  unfold hdV
  go_enter Tryd.func7, Tryd.ntmps7
  go_upto_region 1 with (fail)
  generalize w.alloc (.cells (hdA h) 29) = W at *
  go_wp2_with fail
  refine HAW.out.mono ?_
  rintro e w1 ⟨rfl, hb1⟩
  have HB1 := Lib.hid (EnvX.below E0.out hb1).bel
  have E1 : Hid (EnvX w1 w1 [(w.heap.size, Obj.cells (hdA h) 29 (0, 0))]) := ⟨Below.refl _ _, (EnvX.below E0.out hb1).box⟩
  have HT1 := Lib.hid (HT.out.below HB1.out)
  clear hb1 E0 HAW
  go_upto_region 2 with (fail)
  refine wp_region_Hx (w0 := w1) [0, 1, 2, 3, 4, 5, 6, 7, 8] [(w.heap.size, Obj.cells (hdA h) 29 (0, 0))] rfl E1.out ?_
  refine lexH_phase [0, 1, 2, 3, 4, 5] [6, 7, 8] ?_
  have hw1 : EnvX w1 _ [(w.heap.size, Obj.cells (hdA h) 29 (0, 0))] := E1.out
  have hone := @EnvC.one _ _ _ hw1
  (refine wpG_op rfl rfl rfl ?_; intro K hK; go_big_quiet_op; go_big_quiet_on)
  (refine wpG_val (v := .int .u32 (h.bits : Int)) rfl rfl (fun u hu => load_any_op u (box_hd_bits hu (List.Mem.head _) HL.out) rfl) ?_ hw1; intro K hK; go_big_quiet_op; go_big_quiet_on)
  (refine wpG_call (f := 25) (args := #[.int .u32 (h.bits : Int)]) (v := .tuple #[.agg (wcs (tv h.bits)), .bool true]) rfl rfl rfl Tryd.func25 rfl rfl (fun u hu => HTG.out u) ?_ hw1; intro K hK; go_big_quiet_op; go_big_quiet_on)
  (refine wpG_op rfl rfl rfl ?_; intro K hK; go_big_quiet_op; go_big_quiet_on)
  (refine wpG_op rfl rfl rfl ?_; intro K hK; go_big_quiet_op; go_big_quiet_on)
  (refine wpG_op rfl rfl rfl ?_; intro K hK; go_big_quiet_op; go_big_quiet_on)
  clear hone hw1
  refine wpG_nil ?_
  refine (hOp_fresh (R := fun x N => ∃ g, x = .pointer (some ⟨g, 0, none⟩) ∧ N = [(g, Obj.cells (wcs 0) 26 (0, 0))]) (M0 := [(w.heap.size, Obj.cells (hdA h) 29 (0, 0))]) rfl rfl (fun _ h => h) (fun u hu => FAt_new (new_wd _) u) ?_)
  rintro _ _ ⟨gt, rfl, rfl⟩ hf he2; intro K' hK'; go_big_quiet_op; go_big_quiet_on
  have HGT := Lib.hid (hf _ (List.mem_singleton.2 rfl))
  clear hf
  change lexH _ _ _ _ _ _ [(gt, Obj.cells (wcs 0) 26 (0, 0)), (w.heap.size, Obj.cells (hdA h) 29 (0, 0))]
  refine (hOp_store rfl (gt) (wcs (tv h.bits)) rfl rfl HGT.out.1 26 ((wcs 0)) (List.Mem.head _) (wc_info _) ((wc_size _).trans (wc_size _).symm) (wc_one _) [(gt, Obj.cells (wcs (tv h.bits)) 26 (0, 0)), (w.heap.size, Obj.cells (hdA h) 29 (0, 0))] (List.forall_mem_cons.2 ⟨.inl rfl, fun y hy => .inr ⟨List.mem_cons_of_mem _ hy, HGT.out.2 y hy⟩⟩) ?_)
  intro he3
  refine lexH_phase [8] [] ?_
  have hw4 : EnvX w1 _ [(gt, Obj.cells (wcs (tv h.bits)) 26 (0, 0)), (w.heap.size, Obj.cells (hdA h) 29 (0, 0))] := he3.choose_spec
  have hone := @EnvC.one _ _ _ hw4
  (refine wpG_op rfl rfl rfl ?_; intro K hK; go_big_quiet_op; go_big_quiet_on)
  clear hone hw4
  refine wpG_nil ?_
  intro u6 E2'
  have EX5 := Lib.hid E2'
  clear E2'
  have HLD : Hid ((loadVar 29 ⟨w.heap.size, 0, none⟩).run Tryd.prog u6 = .ok (.agg (hdA h)) u6) := box_hd EX5.out (List.Mem.tail _ (List.Mem.head _)) HL.out
  have HPT : Hid (Calls Tryd.prog 10 #[.agg (hdA h)] u6 fun e w' => (∃ v, e = .returned (.tuple #[v, .bool true]) ∧ OwnB w' u6.heap.size v (putH h).1) ∧ Below u6.heap.size u6 w') := by
    have h1 := HH.out.put h u6 HOK.out (HT1.out.below (EnvX.bel EX5.out))
    rwa [HPB.out] at h1
  go_upto_region 3 with (fail)
  go_wp2_with ((with_reducible refine wpList_load_run (o := ⟨some 17, _, _, _, _, _⟩) ?_ 29 (.tmp 1) ?_ ⟨w.heap.size, 0, none⟩ ?_ HLD.out ?_); (rfl); (rfl); (rfl))
  refine HPT.out.mono ?_
  rintro e w2 ⟨⟨v, rfl, hv⟩, hb⟩
  have E3 : Hid (EnvX w1 w2 [(gt, Obj.cells (wcs (tv h.bits)) 26 (0, 0)), (w.heap.size, Obj.cells (hdA h) 29 (0, 0))]) := EnvX.below EX5.out hb
  clear hv hb HLD HPT EX5
  go_upto_region 4 with (fail)
  refine wp_region_Hx (w0 := w1) [0, 1, 2] [(gt, Obj.cells (wcs (tv h.bits)) 26 (0, 0)), (w.heap.size, Obj.cells (hdA h) 29 (0, 0))] rfl E3.out ?_
  refine lexH_phase [0, 1, 2] [] ?_
  have hw7 : EnvX w1 _ [(gt, Obj.cells (wcs (tv h.bits)) 26 (0, 0)), (w.heap.size, Obj.cells (hdA h) 29 (0, 0))] := E3.out
  have hone := @EnvC.one _ _ _ hw7
  (refine wpG_val (v := hdV h) rfl rfl (fun u hu => load_any_op u (box_hd hu (List.Mem.tail _ (List.Mem.head _)) HL.out) rfl) ?_ hw7; intro K hK; go_big_quiet_op; go_big_quiet_on)
  (refine wpG_call (f := 19) (args := #[hdV h]) (v := .int .i64 (levelH h)) rfl rfl rfl Tryd.func19 rfl rfl (fun u hu => HH.out.level h u HOK.out (HT1.out.below (EnvX.bel hu))) ?_ hw7; intro K hK; go_big_quiet_op; go_big_quiet_on)
  (refine wpG_op rfl rfl rfl ?_; intro K hK; go_big_quiet_op; go_big_quiet_on)
  clear hone hw7
  refine wpG_nil ?_
  intro u9 E2'
  have EX8 := Lib.hid E2'
  clear E2'
  go_upto_region 5 with (fail)
  refine wp_region_H (w0 := w1) [(gt, Obj.cells (wcs (tv h.bits)) 26 (0, 0)), (w.heap.size, Obj.cells (hdA h) 29 (0, 0))] (by kernel_rfl) EX8.out ?_
  refine anyH_phase [0, 1, 2, 3, 4, 5, 6, 7, 8, 9, 10, 11, 12, 13, 14, 15, 16, 17, 18, 19, 20, 21, 22, 23, 24, 25, 26, 27, 28] 0 rfl ⟨_, (EnvX.drew EX8.out)⟩ (by kernel_rfl) ?_
  have hw10 : EnvX w1 _ [(gt, Obj.cells (wcs (tv h.bits)) 26 (0, 0)), (w.heap.size, Obj.cells (hdA h) 29 (0, 0))] := (EnvX.drew EX8.out)
  have hone := @EnvC.one _ _ _ hw10
  (refine wpG_op rfl rfl rfl ?_; intro K hK; go_big_quiet_op; go_big_quiet_on)
  (refine wpG_op rfl rfl rfl ?_; intro K hK; go_big_quiet_op; go_big_quiet_on)
  (refine wpG_op rfl rfl rfl ?_; intro K hK; go_big_quiet_op; go_big_quiet_on)
  (refine wpG_val (v := hdV h) rfl rfl (fun u hu => load_any_op u (box_hd hu (List.Mem.tail _ (List.Mem.head _)) HL.out) rfl) ?_ hw10; intro K hK; go_big_quiet_op; go_big_quiet_on)
  (refine wpG_call (f := 23) (args := #[hdV h]) (v := .bool (mayH h)) rfl rfl rfl Tryd.func23 rfl rfl (fun u hu => HH.out.may h u HOK.out (HT1.out.below (EnvX.bel hu))) ?_ hw10; intro K hK; go_big_quiet_op; go_big_quiet_on)
  (refine wpG_op rfl rfl rfl ?_; intro K hK; go_big_quiet_op; go_big_quiet_on)
  (refine wpG_val (v := .bool (mayH h)) rfl rfl (fun u hu => geq_op u HM.out rfl rfl) ?_ hw10; intro K hK; go_big_quiet_op; go_big_quiet_on)
  (refine wpG_val (v := .bool false) rfl rfl (fun u hu => neqTTh_op u rfl rfl) ?_ hw10; intro K hK; go_big_quiet_op; go_big_quiet_on)
  (refine wpG_op rfl rfl rfl ?_; intro K hK; go_big_quiet_op; go_big_quiet_on)
  (refine wpG_op rfl rfl rfl ?_; intro K hK; go_big_quiet_op; go_big_quiet_on)
  (refine wpG_op rfl rfl rfl ?_; intro K hK; go_big_quiet_op; go_big_quiet_on)
  (refine wpG_op rfl rfl rfl ?_; intro K hK; go_big_quiet_op; go_big_quiet_on)
  (refine wpG_val (v := hdV h) rfl rfl (fun u hu => load_any_op u (box_hd hu (List.Mem.tail _ (List.Mem.head _)) HL.out) rfl) ?_ hw10; intro K hK; go_big_quiet_op; go_big_quiet_on)
  (refine wpG_call (f := 21) (args := #[hdV h]) (v := .agg (wcs (workH h))) rfl rfl rfl Tryd.func21 rfl rfl (fun u hu => HH.out.work h u HOK.out (HT1.out.below (EnvX.bel hu))) ?_ hw10; intro K hK; go_big_quiet_op; go_big_quiet_on)
  (refine wpG_val (v := .agg (wcs (tv h.bits))) rfl rfl (fun u hu => load_any_op u (box_wide hu (List.Mem.head _)) rfl) ?_ hw10; intro K hK; go_big_quiet_op; go_big_quiet_on)
  (refine wpG_call (f := 26) (args := #[.agg (wcs (tv h.bits))]) (v := .agg (wcs (wkV (tv h.bits)))) rfl rfl rfl Tryd.func26 rfl rfl (fun u hu => HTW.out u) ?_ hw10; intro K hK; go_big_quiet_op; go_big_quiet_on)
  (refine wpG_val (v := .bool false) rfl rfl (fun u hu => neqWh_op HWB.out HWT.out HWE.out u rfl rfl) ?_ hw10; intro K hK; go_big_quiet_op; go_big_quiet_on)
  (refine wpG_op rfl rfl rfl ?_; intro K hK; go_big_quiet_op; go_big_quiet_on)
  (refine wpG_op rfl rfl rfl ?_; intro K hK; go_big_quiet_op; go_big_quiet_on)
  (refine wpG_op rfl rfl rfl ?_; intro K hK; go_big_quiet_op; go_big_quiet_on)
  (refine wpG_op rfl rfl rfl ?_; intro K hK; go_big_quiet_op; go_big_quiet_on)
  (refine wpG_op rfl rfl rfl ?_; intro K hK; go_big_quiet_op; go_big_quiet_on)
  (refine wpG_op rfl rfl rfl ?_; intro K hK; go_big_quiet_op; go_big_quiet_on)
  (refine wpG_skip rfl rfl ?_ hw10; intro K hK; go_big_quiet_op; go_big_quiet_on)
  (refine wpG_skip rfl rfl ?_ hw10; intro K hK; go_big_quiet_op; go_big_quiet_on)
  (refine wpG_skip rfl rfl ?_ hw10; intro K hK; go_big_quiet_op; go_big_quiet_on)
  (refine wpG_skip rfl rfl ?_ hw10; intro K hK; go_big_quiet_op; go_big_quiet_on)
  (refine wpG_op rfl rfl rfl ?_; intro K hK; go_big_quiet_op; go_big_quiet_on)
  (refine wpG_op rfl rfl rfl ?_; intro K hK; go_big_quiet_op; go_big_quiet_on)
  clear hone hw10
  refine wpG_nil ?_
  refine anyH_done (by kernel_rfl) ?_
  intro u12 E2'
  have EX11 := Lib.hid E2'
  clear E2'
  go_upto_region 7 with (fail)
  refine wp_region_Hx (w0 := w1) [0, 1, 2, 3, 4, 5] [(gt, Obj.cells (wcs (tv h.bits)) 26 (0, 0)), (w.heap.size, Obj.cells (hdA h) 29 (0, 0))] rfl EX11.out ?_
  refine lexH_phase [0, 1, 2, 3, 4, 5] [] ?_
  have hw13 : EnvX w1 _ [(gt, Obj.cells (wcs (tv h.bits)) 26 (0, 0)), (w.heap.size, Obj.cells (hdA h) 29 (0, 0))] := EX11.out
  have hone := @EnvC.one _ _ _ hw13
  (refine wpG_op rfl rfl rfl ?_; intro K hK; go_big_quiet_op; go_big_quiet_on)
  (refine wpG_op rfl rfl rfl ?_; intro K hK; go_big_quiet_op; go_big_quiet_on)
  (refine wpG_op rfl rfl rfl ?_; intro K hK; go_big_quiet_op; go_big_quiet_on)
  (refine wpG_op rfl rfl rfl ?_; intro K hK; go_big_quiet_op; go_big_quiet_on)
  (refine wpG_op rfl rfl rfl ?_; intro K hK; go_big_quiet_op; go_big_quiet_on)
  (refine wpG_op rfl rfl rfl ?_; intro K hK; go_big_quiet_op; go_big_quiet_on)
  clear hone hw13
  refine wpG_nil ?_
  intro u15 E2'
  have EX14 := Lib.hid E2'
  clear E2'
  go_upto_region 9 with (fail)
  refine wp_region_H (w0 := w1) [(gt, Obj.cells (wcs (tv h.bits)) 26 (0, 0)), (w.heap.size, Obj.cells (hdA h) 29 (0, 0))] (by kernel_rfl) EX14.out ?_
  refine anyH_phase [0, 1, 2, 3, 4, 5, 6, 7, 8, 9, 10, 11, 12, 13, 14, 15, 16, 17, 18, 19, 20] 0 rfl ⟨_, (EnvX.drew EX14.out)⟩ (by kernel_rfl) ?_
  have hw16 : EnvX w1 _ [(gt, Obj.cells (wcs (tv h.bits)) 26 (0, 0)), (w.heap.size, Obj.cells (hdA h) 29 (0, 0))] := (EnvX.drew EX14.out)
  have hone := @EnvC.one _ _ _ hw16
  (refine wpG_op rfl rfl rfl ?_; intro K hK; go_big_quiet_op; go_big_quiet_on)
  (refine wpG_val (v := .int .i64 h.height) rfl rfl (fun u hu => load_any_op u (box_hd_height hu (List.Mem.tail _ (List.Mem.head _))) rfl) ?_ hw16; intro K hK; go_big_quiet_op; go_big_quiet_on)
  (refine wpG_val (v := .bool true) rfl rfl (fun u hu => eqlI_op u C0.out rfl rfl) ?_ hw16; intro K hK; go_big_quiet_op; go_big_quiet_on)
  (refine wpG_op rfl rfl rfl ?_; intro K hK; go_big_quiet_op; go_big_quiet_on)
  (refine wpG_op rfl rfl rfl ?_; intro K hK; go_big_quiet_op; go_big_quiet_on)
  (refine wpG_val (v := .bool true) rfl rfl (fun u hu => eqlI_op u HV.out rfl rfl) ?_ hw16; intro K hK; go_big_quiet_op; go_big_quiet_on)
  (refine wpG_op rfl rfl rfl ?_; intro K hK; go_big_quiet_op; go_big_quiet_on)
  (refine wpG_op rfl rfl rfl ?_; intro K hK; go_big_quiet_op; go_big_quiet_on)
  (refine wpG_skip rfl rfl ?_ hw16; intro K hK; go_big_quiet_op; go_big_quiet_on)
  (refine wpG_skip rfl rfl ?_ hw16; intro K hK; go_big_quiet_op; go_big_quiet_on)
  (refine wpG_skip rfl rfl ?_ hw16; intro K hK; go_big_quiet_op; go_big_quiet_on)
  (refine wpG_skip rfl rfl ?_ hw16; intro K hK; go_big_quiet_op; go_big_quiet_on)
  (refine wpG_skip rfl rfl ?_ hw16; intro K hK; go_big_quiet_op; go_big_quiet_on)
  (refine wpG_skip rfl rfl ?_ hw16; intro K hK; go_big_quiet_op; go_big_quiet_on)
  (refine wpG_skip rfl rfl ?_ hw16; intro K hK; go_big_quiet_op; go_big_quiet_on)
  (refine wpG_skip rfl rfl ?_ hw16; intro K hK; go_big_quiet_op; go_big_quiet_on)
  (refine wpG_skip rfl rfl ?_ hw16; intro K hK; go_big_quiet_op; go_big_quiet_on)
  (refine wpG_skip rfl rfl ?_ hw16; intro K hK; go_big_quiet_op; go_big_quiet_on)
  (refine wpG_skip rfl rfl ?_ hw16; intro K hK; go_big_quiet_op; go_big_quiet_on)
  (refine wpG_op rfl rfl rfl ?_; intro K hK; go_big_quiet_op; go_big_quiet_on)
  (refine wpG_op rfl rfl rfl ?_; intro K hK; go_big_quiet_op; go_big_quiet_on)
  clear hone hw16
  refine wpG_nil ?_
  refine anyH_done (by kernel_rfl) ?_
  intro u18 E2'
  have EX17 := Lib.hid E2'
  clear E2'
  have HBE := Lib.hid (HB1.out.trans ((EnvX.bel EX17.out).mono HB1.out.size))
  go_wp2
  go_ret
  exact ⟨rfl, HBE.out⟩
set_option maxRecDepth 20000 in
set_option maxHeartbeats 8000000 in
theorem law_levels_e (H : HeadC) (h : Hd) (w : World) (hh : okHd h) (ht : Tables w) (hc : isC h.bits = true) (k : mayPut h = true) (h0 : h.height ≠ 0) :
    Calls Tryd.prog 7 #[hdV h] w fun e w' => e = .returned (.bool true) ∧ Below w.heap.size w w' := by
  have HWT : Hid (wkV (tv h.bits) < Big) := by have := work_big h; unfold workH at this; rw [hc] at this; exact this
  have HWE : Hid (eqN (workH h) (wkV (tv h.bits)) = !false) := by show _ = _; unfold workH; rw [hc]; simp [eqN]
  have C0 : Hid (decide (h.height = 0) = false) := decide_eq_false h0
  have C10 : Hid (decide (0 < h.height) = true) := decide_eq_true (by unfold mayPut at k; rw [decide_eq_true_eq] at k; omega)
  have hlv : levelH h = lvI (numB (idH h)) (tv h.bits) := by unfold levelH; rw [hc, k]; exact if_neg h0
  have HTL : Hid (∀ u, Calls Tryd.prog 28 #[idv (idH h), .agg (wcs (tv h.bits))] u fun e w' => e = .returned (.int .i64 (levelH h)) ∧ Below u.heap.size u w') := fun u => by
    rw [hlv]
    unfold idv
    rw [arr_idF (id_len h) (id_byte h)]
    exact level_any (fun i => ((idH h).getD i 0).toNat) (byte_toNat (id_byte h)) (tv h.bits) u (tv_big h.bits)
  clear h0 hlv
  have HL := Lib.hid hh.len
  have HWB := Lib.hid (work_big h)
  have HM : Hid (decide (0 ≤ levelH h) = mayH h) := rfl
  have E0 : Hid (EnvX w (w.alloc (.cells (hdA h) 29)) [(w.heap.size, Obj.cells (hdA h) 29 (0, 0))]) := (EnvX.start w).new _
  have HAW := Lib.hid (hawake_any H (w.alloc (.cells (hdA h) 29)) (ht.below (EnvX.bel E0.out)))
  have HT := Lib.hid ht
  have HH := Lib.hid H
  have HOK := Lib.hid hh
  have HTG : Hid (∀ u, Calls Tryd.prog 25 #[.int .u32 (h.bits : Int)] u fun e w' => e = .returned (.tuple #[.agg (wcs (tv h.bits)), .bool true]) ∧ Below u.heap.size u w') := fun u => by
    have h1 := target_any h.bits u hh.2.2.2.2.2.2.1
    rwa [hc] at h1
  have HOF : Hid (∀ u, Calls Tryd.prog 27 #[.int .u64 0] u fun e w' => e = .returned (.agg (wcs 0)) ∧ Below u.heap.size u w') := fun u => of_n 0 u (by decide)
  have HTW : Hid (∀ u, Calls Tryd.prog 26 #[.agg (wcs (tv h.bits))] u fun e w' => e = .returned (.agg (wcs (wkV (tv h.bits)))) ∧ Below u.heap.size u w') := fun u => work_any (tv h.bits) u (tv_big h.bits)
  have hpt : (putH h).2 = true := by unfold putH; rw [k]; rfl
  have HPB := Lib.hid hpt
  clear ht H hh hc k hpt
  unfold hdV
  go_enter Tryd.func7, Tryd.ntmps7
  go_upto_region 1 with (fail)
  generalize w.alloc (.cells (hdA h) 29) = W at *
  go_wp2_with fail
  refine HAW.out.mono ?_
  rintro e w1 ⟨rfl, hb1⟩
  have HB1 := Lib.hid (EnvX.below E0.out hb1).bel
  have E1 : Hid (EnvX w1 w1 [(w.heap.size, Obj.cells (hdA h) 29 (0, 0))]) := ⟨Below.refl _ _, (EnvX.below E0.out hb1).box⟩
  have HT1 := Lib.hid (HT.out.below HB1.out)
  clear hb1 E0 HAW
  go_upto_region 2 with (fail)
  refine wp_region_Hx (w0 := w1) [0, 1, 2, 3, 4, 5, 6, 7, 8] [(w.heap.size, Obj.cells (hdA h) 29 (0, 0))] rfl E1.out ?_
  refine lexH_phase [0, 1, 2, 3, 4, 5] [6, 7, 8] ?_
  have hw1 : EnvX w1 _ [(w.heap.size, Obj.cells (hdA h) 29 (0, 0))] := E1.out
  have hone := @EnvC.one _ _ _ hw1
  (refine wpG_op rfl rfl rfl ?_; intro K hK; go_big_quiet_op; go_big_quiet_on)
  (refine wpG_val (v := .int .u32 (h.bits : Int)) rfl rfl (fun u hu => load_any_op u (box_hd_bits hu (List.Mem.head _) HL.out) rfl) ?_ hw1; intro K hK; go_big_quiet_op; go_big_quiet_on)
  (refine wpG_call (f := 25) (args := #[.int .u32 (h.bits : Int)]) (v := .tuple #[.agg (wcs (tv h.bits)), .bool true]) rfl rfl rfl Tryd.func25 rfl rfl (fun u hu => HTG.out u) ?_ hw1; intro K hK; go_big_quiet_op; go_big_quiet_on)
  (refine wpG_op rfl rfl rfl ?_; intro K hK; go_big_quiet_op; go_big_quiet_on)
  (refine wpG_op rfl rfl rfl ?_; intro K hK; go_big_quiet_op; go_big_quiet_on)
  (refine wpG_op rfl rfl rfl ?_; intro K hK; go_big_quiet_op; go_big_quiet_on)
  clear hone hw1
  refine wpG_nil ?_
  refine (hOp_fresh (R := fun x N => ∃ g, x = .pointer (some ⟨g, 0, none⟩) ∧ N = [(g, Obj.cells (wcs 0) 26 (0, 0))]) (M0 := [(w.heap.size, Obj.cells (hdA h) 29 (0, 0))]) rfl rfl (fun _ h => h) (fun u hu => FAt_new (new_wd _) u) ?_)
  rintro _ _ ⟨gt, rfl, rfl⟩ hf he2; intro K' hK'; go_big_quiet_op; go_big_quiet_on
  have HGT := Lib.hid (hf _ (List.mem_singleton.2 rfl))
  clear hf
  change lexH _ _ _ _ _ _ [(gt, Obj.cells (wcs 0) 26 (0, 0)), (w.heap.size, Obj.cells (hdA h) 29 (0, 0))]
  refine (hOp_store rfl (gt) (wcs (tv h.bits)) rfl rfl HGT.out.1 26 ((wcs 0)) (List.Mem.head _) (wc_info _) ((wc_size _).trans (wc_size _).symm) (wc_one _) [(gt, Obj.cells (wcs (tv h.bits)) 26 (0, 0)), (w.heap.size, Obj.cells (hdA h) 29 (0, 0))] (List.forall_mem_cons.2 ⟨.inl rfl, fun y hy => .inr ⟨List.mem_cons_of_mem _ hy, HGT.out.2 y hy⟩⟩) ?_)
  intro he3
  refine lexH_phase [8] [] ?_
  have hw4 : EnvX w1 _ [(gt, Obj.cells (wcs (tv h.bits)) 26 (0, 0)), (w.heap.size, Obj.cells (hdA h) 29 (0, 0))] := he3.choose_spec
  have hone := @EnvC.one _ _ _ hw4
  (refine wpG_op rfl rfl rfl ?_; intro K hK; go_big_quiet_op; go_big_quiet_on)
  clear hone hw4
  refine wpG_nil ?_
  intro u6 E2'
  have EX5 := Lib.hid E2'
  clear E2'
  have HLD : Hid ((loadVar 29 ⟨w.heap.size, 0, none⟩).run Tryd.prog u6 = .ok (.agg (hdA h)) u6) := box_hd EX5.out (List.Mem.tail _ (List.Mem.head _)) HL.out
  have HPT : Hid (Calls Tryd.prog 10 #[.agg (hdA h)] u6 fun e w' => (∃ v, e = .returned (.tuple #[v, .bool true]) ∧ OwnB w' u6.heap.size v (putH h).1) ∧ Below u6.heap.size u6 w') := by
    have h1 := HH.out.put h u6 HOK.out (HT1.out.below (EnvX.bel EX5.out))
    rwa [HPB.out] at h1
  go_upto_region 3 with (fail)
  go_wp2_with ((with_reducible refine wpList_load_run (o := ⟨some 17, _, _, _, _, _⟩) ?_ 29 (.tmp 1) ?_ ⟨w.heap.size, 0, none⟩ ?_ HLD.out ?_); (rfl); (rfl); (rfl))
  refine HPT.out.mono ?_
  rintro e w2 ⟨⟨v, rfl, hv⟩, hb⟩
  have E3 : Hid (EnvX w1 w2 [(gt, Obj.cells (wcs (tv h.bits)) 26 (0, 0)), (w.heap.size, Obj.cells (hdA h) 29 (0, 0))]) := EnvX.below EX5.out hb
  clear hv hb HLD HPT EX5
  go_upto_region 4 with (fail)
  refine wp_region_Hx (w0 := w1) [0, 1, 2] [(gt, Obj.cells (wcs (tv h.bits)) 26 (0, 0)), (w.heap.size, Obj.cells (hdA h) 29 (0, 0))] rfl E3.out ?_
  refine lexH_phase [0, 1, 2] [] ?_
  have hw7 : EnvX w1 _ [(gt, Obj.cells (wcs (tv h.bits)) 26 (0, 0)), (w.heap.size, Obj.cells (hdA h) 29 (0, 0))] := E3.out
  have hone := @EnvC.one _ _ _ hw7
  (refine wpG_val (v := hdV h) rfl rfl (fun u hu => load_any_op u (box_hd hu (List.Mem.tail _ (List.Mem.head _)) HL.out) rfl) ?_ hw7; intro K hK; go_big_quiet_op; go_big_quiet_on)
  (refine wpG_call (f := 19) (args := #[hdV h]) (v := .int .i64 (levelH h)) rfl rfl rfl Tryd.func19 rfl rfl (fun u hu => HH.out.level h u HOK.out (HT1.out.below (EnvX.bel hu))) ?_ hw7; intro K hK; go_big_quiet_op; go_big_quiet_on)
  (refine wpG_op rfl rfl rfl ?_; intro K hK; go_big_quiet_op; go_big_quiet_on)
  clear hone hw7
  refine wpG_nil ?_
  intro u9 E2'
  have EX8 := Lib.hid E2'
  clear E2'
  go_upto_region 5 with (fail)
  refine wp_region_H (w0 := w1) [(gt, Obj.cells (wcs (tv h.bits)) 26 (0, 0)), (w.heap.size, Obj.cells (hdA h) 29 (0, 0))] (by kernel_rfl) EX8.out ?_
  refine anyH_phase [0, 1, 2, 3, 4, 5, 6, 7, 8, 9, 10, 11, 12, 13, 14, 15, 16, 17, 18, 19, 20, 21, 22, 23, 24, 25, 26, 27, 28] 0 rfl ⟨_, (EnvX.drew EX8.out)⟩ (by kernel_rfl) ?_
  have hw10 : EnvX w1 _ [(gt, Obj.cells (wcs (tv h.bits)) 26 (0, 0)), (w.heap.size, Obj.cells (hdA h) 29 (0, 0))] := (EnvX.drew EX8.out)
  have hone := @EnvC.one _ _ _ hw10
  (refine wpG_op rfl rfl rfl ?_; intro K hK; go_big_quiet_op; go_big_quiet_on)
  (refine wpG_op rfl rfl rfl ?_; intro K hK; go_big_quiet_op; go_big_quiet_on)
  (refine wpG_op rfl rfl rfl ?_; intro K hK; go_big_quiet_op; go_big_quiet_on)
  (refine wpG_val (v := hdV h) rfl rfl (fun u hu => load_any_op u (box_hd hu (List.Mem.tail _ (List.Mem.head _)) HL.out) rfl) ?_ hw10; intro K hK; go_big_quiet_op; go_big_quiet_on)
  (refine wpG_call (f := 23) (args := #[hdV h]) (v := .bool (mayH h)) rfl rfl rfl Tryd.func23 rfl rfl (fun u hu => HH.out.may h u HOK.out (HT1.out.below (EnvX.bel hu))) ?_ hw10; intro K hK; go_big_quiet_op; go_big_quiet_on)
  (refine wpG_op rfl rfl rfl ?_; intro K hK; go_big_quiet_op; go_big_quiet_on)
  (refine wpG_val (v := .bool (mayH h)) rfl rfl (fun u hu => geq_op u HM.out rfl rfl) ?_ hw10; intro K hK; go_big_quiet_op; go_big_quiet_on)
  (refine wpG_val (v := .bool false) rfl rfl (fun u hu => neqTTh_op u rfl rfl) ?_ hw10; intro K hK; go_big_quiet_op; go_big_quiet_on)
  (refine wpG_op rfl rfl rfl ?_; intro K hK; go_big_quiet_op; go_big_quiet_on)
  (refine wpG_op rfl rfl rfl ?_; intro K hK; go_big_quiet_op; go_big_quiet_on)
  (refine wpG_op rfl rfl rfl ?_; intro K hK; go_big_quiet_op; go_big_quiet_on)
  (refine wpG_op rfl rfl rfl ?_; intro K hK; go_big_quiet_op; go_big_quiet_on)
  (refine wpG_val (v := hdV h) rfl rfl (fun u hu => load_any_op u (box_hd hu (List.Mem.tail _ (List.Mem.head _)) HL.out) rfl) ?_ hw10; intro K hK; go_big_quiet_op; go_big_quiet_on)
  (refine wpG_call (f := 21) (args := #[hdV h]) (v := .agg (wcs (workH h))) rfl rfl rfl Tryd.func21 rfl rfl (fun u hu => HH.out.work h u HOK.out (HT1.out.below (EnvX.bel hu))) ?_ hw10; intro K hK; go_big_quiet_op; go_big_quiet_on)
  (refine wpG_val (v := .agg (wcs (tv h.bits))) rfl rfl (fun u hu => load_any_op u (box_wide hu (List.Mem.head _)) rfl) ?_ hw10; intro K hK; go_big_quiet_op; go_big_quiet_on)
  (refine wpG_call (f := 26) (args := #[.agg (wcs (tv h.bits))]) (v := .agg (wcs (wkV (tv h.bits)))) rfl rfl rfl Tryd.func26 rfl rfl (fun u hu => HTW.out u) ?_ hw10; intro K hK; go_big_quiet_op; go_big_quiet_on)
  (refine wpG_val (v := .bool false) rfl rfl (fun u hu => neqWh_op HWB.out HWT.out HWE.out u rfl rfl) ?_ hw10; intro K hK; go_big_quiet_op; go_big_quiet_on)
  (refine wpG_op rfl rfl rfl ?_; intro K hK; go_big_quiet_op; go_big_quiet_on)
  (refine wpG_op rfl rfl rfl ?_; intro K hK; go_big_quiet_op; go_big_quiet_on)
  (refine wpG_op rfl rfl rfl ?_; intro K hK; go_big_quiet_op; go_big_quiet_on)
  (refine wpG_op rfl rfl rfl ?_; intro K hK; go_big_quiet_op; go_big_quiet_on)
  (refine wpG_op rfl rfl rfl ?_; intro K hK; go_big_quiet_op; go_big_quiet_on)
  (refine wpG_op rfl rfl rfl ?_; intro K hK; go_big_quiet_op; go_big_quiet_on)
  (refine wpG_skip rfl rfl ?_ hw10; intro K hK; go_big_quiet_op; go_big_quiet_on)
  (refine wpG_skip rfl rfl ?_ hw10; intro K hK; go_big_quiet_op; go_big_quiet_on)
  (refine wpG_skip rfl rfl ?_ hw10; intro K hK; go_big_quiet_op; go_big_quiet_on)
  (refine wpG_skip rfl rfl ?_ hw10; intro K hK; go_big_quiet_op; go_big_quiet_on)
  (refine wpG_op rfl rfl rfl ?_; intro K hK; go_big_quiet_op; go_big_quiet_on)
  (refine wpG_op rfl rfl rfl ?_; intro K hK; go_big_quiet_op; go_big_quiet_on)
  clear hone hw10
  refine wpG_nil ?_
  refine anyH_done (by kernel_rfl) ?_
  intro u12 E2'
  have EX11 := Lib.hid E2'
  clear E2'
  go_upto_region 7 with (fail)
  refine wp_region_Hx (w0 := w1) [0, 1, 2, 3, 4, 5] [(gt, Obj.cells (wcs (tv h.bits)) 26 (0, 0)), (w.heap.size, Obj.cells (hdA h) 29 (0, 0))] rfl EX11.out ?_
  refine lexH_phase [0, 1, 2, 3, 4, 5] [] ?_
  have hw13 : EnvX w1 _ [(gt, Obj.cells (wcs (tv h.bits)) 26 (0, 0)), (w.heap.size, Obj.cells (hdA h) 29 (0, 0))] := EX11.out
  have hone := @EnvC.one _ _ _ hw13
  (refine wpG_op rfl rfl rfl ?_; intro K hK; go_big_quiet_op; go_big_quiet_on)
  (refine wpG_op rfl rfl rfl ?_; intro K hK; go_big_quiet_op; go_big_quiet_on)
  (refine wpG_op rfl rfl rfl ?_; intro K hK; go_big_quiet_op; go_big_quiet_on)
  (refine wpG_op rfl rfl rfl ?_; intro K hK; go_big_quiet_op; go_big_quiet_on)
  (refine wpG_op rfl rfl rfl ?_; intro K hK; go_big_quiet_op; go_big_quiet_on)
  (refine wpG_op rfl rfl rfl ?_; intro K hK; go_big_quiet_op; go_big_quiet_on)
  clear hone hw13
  refine wpG_nil ?_
  intro u15 E2'
  have EX14 := Lib.hid E2'
  clear E2'
  go_upto_region 9 with (fail)
  refine wp_region_H (w0 := w1) [(gt, Obj.cells (wcs (tv h.bits)) 26 (0, 0)), (w.heap.size, Obj.cells (hdA h) 29 (0, 0))] (by kernel_rfl) EX14.out ?_
  refine anyH_phase [0, 1, 2, 3, 4, 5, 6, 7, 8, 9, 10, 11, 12, 13, 14, 15, 16, 17, 18, 19, 20] 0 rfl ⟨_, (EnvX.drew EX14.out)⟩ (by kernel_rfl) ?_
  have hw16 : EnvX w1 _ [(gt, Obj.cells (wcs (tv h.bits)) 26 (0, 0)), (w.heap.size, Obj.cells (hdA h) 29 (0, 0))] := (EnvX.drew EX14.out)
  have hone := @EnvC.one _ _ _ hw16
  (refine wpG_op rfl rfl rfl ?_; intro K hK; go_big_quiet_op; go_big_quiet_on)
  (refine wpG_val (v := .int .i64 h.height) rfl rfl (fun u hu => load_any_op u (box_hd_height hu (List.Mem.tail _ (List.Mem.head _))) rfl) ?_ hw16; intro K hK; go_big_quiet_op; go_big_quiet_on)
  (refine wpG_val (v := .bool false) rfl rfl (fun u hu => eqlI_op u C0.out rfl rfl) ?_ hw16; intro K hK; go_big_quiet_op; go_big_quiet_on)
  (refine wpG_op rfl rfl rfl ?_; intro K hK; go_big_quiet_op; go_big_quiet_on)
  (refine wpG_skip rfl rfl ?_ hw16; intro K hK; go_big_quiet_op; go_big_quiet_on)
  (refine wpG_skip rfl rfl ?_ hw16; intro K hK; go_big_quiet_op; go_big_quiet_on)
  (refine wpG_op rfl rfl rfl ?_; intro K hK; go_big_quiet_op; go_big_quiet_on)
  (refine wpG_op rfl rfl rfl ?_; intro K hK; go_big_quiet_op; go_big_quiet_on)
  (refine wpG_op rfl rfl rfl ?_; intro K hK; go_big_quiet_op; go_big_quiet_on)
  (refine wpG_val (v := .int .i64 h.height) rfl rfl (fun u hu => load_any_op u (box_hd_height hu (List.Mem.tail _ (List.Mem.head _))) rfl) ?_ hw16; intro K hK; go_big_quiet_op; go_big_quiet_on)
  (refine wpG_val (v := .bool true) rfl rfl (fun u hu => gtZ_op u C10.out rfl rfl) ?_ hw16; intro K hK; go_big_quiet_op; go_big_quiet_on)
  (refine wpG_op rfl rfl rfl ?_; intro K hK; go_big_quiet_op; go_big_quiet_on)
  (refine wpG_op rfl rfl rfl ?_; intro K hK; go_big_quiet_op; go_big_quiet_on)
  (refine wpG_val (v := hdV h) rfl rfl (fun u hu => load_any_op u (box_hd hu (List.Mem.tail _ (List.Mem.head _)) HL.out) rfl) ?_ hw16; intro K hK; go_big_quiet_op; go_big_quiet_on)
  (refine wpG_call (f := 17) (args := #[hdV h]) (v := idv (idH h)) rfl rfl rfl Tryd.func17 rfl rfl (fun u hu => HH.out.id h u HOK.out (HT1.out.below (EnvX.bel hu))) ?_ hw16; intro K hK; go_big_quiet_op; go_big_quiet_on)
  (refine wpG_val (v := .agg (wcs (tv h.bits))) rfl rfl (fun u hu => load_any_op u (box_wide hu (List.Mem.head _)) rfl) ?_ hw16; intro K hK; go_big_quiet_op; go_big_quiet_on)
  (refine wpG_call (f := 28) (args := #[idv (idH h), .agg (wcs (tv h.bits))]) (v := .int .i64 (levelH h)) rfl rfl rfl Tryd.func28 rfl rfl (fun u hu => HTL.out u) ?_ hw16; intro K hK; go_big_quiet_op; go_big_quiet_on)
  (refine wpG_val (v := .bool true) rfl rfl (fun u hu => eqlI_op u (decide_eq_true rfl) rfl rfl) ?_ hw16; intro K hK; go_big_quiet_op; go_big_quiet_on)
  (refine wpG_op rfl rfl rfl ?_; intro K hK; go_big_quiet_op; go_big_quiet_on)
  (refine wpG_op rfl rfl rfl ?_; intro K hK; go_big_quiet_op; go_big_quiet_on)
  (refine wpG_op rfl rfl rfl ?_; intro K hK; go_big_quiet_op; go_big_quiet_on)
  clear hone hw16
  refine wpG_nil ?_
  refine anyH_done (by kernel_rfl) ?_
  intro u18 E2'
  have EX17 := Lib.hid E2'
  clear E2'
  have HBE := Lib.hid (HB1.out.trans ((EnvX.bel EX17.out).mono HB1.out.size))
  go_wp2
  go_ret
  exact ⟨rfl, HBE.out⟩
theorem law_levels (H : HeadC) (h : Hd) (w : World) (hh : okHd h) (ht : Tables w) :
    Calls Tryd.prog 7 #[hdV h] w fun e w' => e = .returned (.bool true) ∧ Below w.heap.size w w' := by
  cases hc : isC h.bits with
  | false =>
    cases k : mayPut h with
    | false => exact law_levels_a H h w hh ht hc k
    | true => exact law_levels_b H h w hh ht hc k
  | true =>
    cases k : mayPut h with
    | false => exact law_levels_c H h w hh ht hc k
    | true =>
      by_cases h0 : h.height = 0
      · exact law_levels_d H h w hh ht hc k h0
      · exact law_levels_e H h w hh ht hc k h0
end Go.Proofs.YtmpjgfecnnefeaaDoor

namespace Go.Proofs.YtmpjgfecnnefeaaDoor.headLevels
set_option maxRecDepth 8000
open Go.ChangeShapes Go.WideShapes Go.ChangeAt Go.RowKit

theorem contract (H : Type) (enc : TypeId × Value → H) (W : World) (base : Nat) (args : Array Value) (ds gs : List (DataW H)) (before : List MemPlace)
    (hval : ∀ (j : Nat) t v, Tryd.f7.params[j]? = some t → args[j]? = some v → Value.okWide Tryd.prog W .any base t v)
    (hW : DataW.Whole enc Tryd.prog Tryd.f7.params.toList Rows.headLevelsSpec.vars false W args.toList ds gs before) (hL : laidMetH Tryd.prog Rows.headLevelsRow.laid W) :
    Calls Tryd.prog 7 args W fun e W' => ∃ v, e = .returned v ∧ Rows.headLevelsSpec.post enc Tryd.prog Tryd.f7 false true false false W args v W' := by
  have hW' := hW
  obtain ⟨p, q, hA0, hV, rfl, hfz, hnd⟩ := hW
  have hA : DataW.TrodAll enc Tryd.prog W 0 (fun _ => true) true Tryd.f7.params.toList args.toList ds p := hA0
  rw [Tryd.params7] at hA hval
  obtain ⟨v0, vs0, d0, ds0, p0, q0, hargs, rfl, rfl, h0, r0⟩ := trodAll_cons hA
  obtain ⟨rfl, rfl, rfl⟩ := trodAll_nil r0
  obtain rfl : args = #[v0] := by cases args; simp_all
  obtain ⟨rfl, rfl⟩ := trodVars_none hV
  have lt0 : ∀ x ∈ p0, x.block < W.heap.size := by obtain ⟨m, hm⟩ := h0; exact DataW.trod_lt m _ _ _ hm
  obtain ⟨x0, rfl, kx0⟩ := open_head (hval 0 29 v0 rfl rfl) h0
  clear hA0
  refine (law_levels headC x0 W kx0 (tables_of_laid hL)).mono fun e W' ⟨he, bel⟩ => ?_
  subst he
  exact ⟨_, rfl, _, _, _, [], _, [], hW', trodAll_mk1 (shut_bool Tryd.underlying4 _), (trodAll_cons_mk (Below.trod laidOut (by kernel_rfl) (of_decide_eq_true (by kernel_rfl)) h0 bel lt0) trodAll_mk0), rfl, bel.frame _, fun h => by cases h⟩

def start : Array Value := #[zeroH]
theorem reads (os : Os) {H : Type} (enc : TypeId × Value → H) : ∃ places, DataW.whole enc Tryd.prog ((laidWorld os).forCall (fun _ _ => 0) ⟨#[], start, []⟩).memory Tryd.f7.params.toList Rows.headLevelsSpec.vars false start.toList 8 = some ([zeroHD], [], places) :=
  ⟨[], by kernel_rfl⟩

set_option maxRecDepth 100000 in
theorem lifted (os : Os) (started : os.Started) (H : Type) (enc : TypeId × Value → H) (F : Stop.Interp) :
    ReturnsInHanded {} Tryd.checked os 7 .any ((OpenSpec.ofChange Rows.headLevelsSpec).preRow enc Tryd.prog Tryd.f7 Rows.headLevelsRow.domain false Rows.headLevelsRow.laid) (((OpenSpec.ofChange Rows.headLevelsSpec).at F).post enc Tryd.prog Tryd.f7 false true false false) := by
  obtain ⟨places, hx⟩ := reads os enc
  refine returnsInHanded_of_row (C := Tryd.checked) (s := OpenSpec.ofChange Rows.headLevelsSpec) own started (by kernel_rfl) Tryd.func7
    (witness_row_at (enc := enc) (C := Tryd.checked) false (laidWorld os) start rfl (by kernel_rfl) (by kernel_rfl) (by kernel_rfl)
      (OpenSpec.preRow_of_cond 8 hx (by kernel_rfl) (fun k hk => by cases hk) (by kernel_rfl) (laidMet_of_run' 8 (by kernel_rfl) (by kernel_rfl)))) ?_
  intro W base args ds gs before hval hW _ _ _ hL _ _
  exact contract H enc W base args ds gs before hval hW hL

theorem said : Rows.HeadLevelsSaid :=
  OpenClaim.holds_of_cond 7 Tryd.f7 rfl rfl rfl rfl rfl rfl rfl ⟨rfl, rfl, rfl, rfl, rfl⟩ rfl rfl rfl rfl rfl (by kernel_rfl) Tryd.func7 (by kernel_rfl)
    (of_decide_eq_true (by kernel_rfl)) (by unfold Func.isWrapper; first | (rw [if_pos (by decide +kernel)]; kernel_rfl) | (rw [if_neg (by decide +kernel)]; exact ⟨rfl, rfl⟩))
    (fun os started H enc _ F => by rw [OpenClaim.pre_eq_preRow]; exact lifted os started H enc F)

theorem plain (f : FuncId) (fn : Func) (hf : Tryd.pinned.checked.prog.funcNamed "stepladder/stepladderlaw08.HeadLevels" = some f) (hfn : Tryd.pinned.checked.prog.funcs[f]? = some fn) :
    false = Tryd.pinned.checked.prog.looks [] ∧ ∀ (j : Nat) t, fn.params[j]? = some t → Tryd.pinned.checked.prog.wantsStandIn t = false := by
  obtain rfl : f = 7 := Option.some.inj ((show Tryd.prog.funcNamed "stepladder/stepladderlaw08.HeadLevels" = some 7 by kernel_rfl).symm.trans hf) |>.symm
  obtain rfl : fn = Tryd.f7 := (Option.some.inj (Tryd.func7.symm.trans hfn)).symm
  refine ⟨by kernel_rfl, fun j t ht => ?_⟩
  rw [Tryd.params7] at ht
  obtain rfl : t = 29 := by simpa using Array.mem_of_getElem? ht
  exact (show Tryd.prog.wantsStandIn 29 = false by kernel_rfl)

theorem card : Rows.HeadLevelsCardSaid :=
  Claim7.holds_tied_plain_at .later [] _ _ _ _ said (fun _ h => by cases h) (by kernel_rfl) (fun _ h => by cases h) headLevels_row_tie rfl ⟨rfl, rfl⟩ (by kernel_rfl) rfl plain (by kernel_rfl)

end Go.Proofs.YtmpjgfecnnefeaaDoor.headLevels
