/- Part of a proof. -/
import Derived.Test.YtmpjgfecnnefeaaDoorCh
namespace Go.Proofs.YtmpjgfecnnefeaaDoor
set_option maxRecDepth 8000
open Go.RowKit

set_option maxRecDepth 20000 in
set_option maxHeartbeats 8000000 in
theorem hid_no (h : Hd) (w : World) (hh : okHd h) (ht : Tables w) (k : mayPut h = false) :
    Calls Tryd.prog 17 #[hdV h] w fun e w' => e = .returned (idv (idH h)) ∧ Below w.heap.size w w' := by
  have hp : putH h = ([], false) := by unfold putH; rw [if_neg (by rw [k]; exact Bool.noConfusion)]
  have hi : idH h = z32 := by unfold idH; rw [if_neg (by rw [k]; exact Bool.noConfusion)]
  rw [hi]
  have HZ : Hid ((arrB 32 z32).size = 32) := arrB_size _ _ (by decide)
  clear k hi
  have HL := Lib.hid hh.len
  have HLE : Hid (w.heap.size ≤ w.heap.size + 1) := by show _ ≤ _; omega
  have E1 : Hid (EnvX w ((w.alloc (.cells (hdA h) 29)).alloc (.cells (arrB 32 []) 23)) [(w.heap.size + 1, Obj.cells (arrB 32 []) 23 (0, 0)), (w.heap.size, Obj.cells (hdA h) 29 (0, 0))]) := (EnvX.start w).two _ _
  have HPT : Hid (∀ u, Calls Tryd.prog 10 #[hdV h] u fun e w' => (∃ v, e = .returned (.tuple #[v, .bool (putH h).2]) ∧ OwnB w' u.heap.size v (putH h).1) ∧ Below u.heap.size u w') := fun u => hput_any h u hh
  rw [hp] at HPT
  clear hp hh
  unfold hdV
  go_enter Tryd.func17, Tryd.ntmps17
  go_upto_region 1 with (fail)
  rw [zero_cells]
  generalize (w.alloc (.cells (hdA h) 29)).alloc (.cells (arrB 32 []) 23) = W at *
  have HLD : Hid ((loadVar 29 ⟨w.heap.size, 0, none⟩).run Tryd.prog W = .ok (.agg (hdA h)) W) := box_hd E1.out (List.Mem.tail _ (List.Mem.head _)) HL.out
  go_wp2_with ((with_reducible refine wpList_load_run (o := ⟨some 6, _, _, _, _, _⟩) ?_ 29 (.tmp 1) ?_ ⟨w.heap.size, 0, none⟩ ?_ HLD.out ?_); (rfl); (rfl); (rfl))
  refine (HPT.out W).mono ?_
  rintro e w1 ⟨⟨v, rfl, hv⟩, hb⟩
  have E2 : Hid (EnvX w w1 [(w.heap.size + 1, Obj.cells (arrB 32 []) 23 (0, 0)), (w.heap.size, Obj.cells (hdA h) 29 (0, 0))]) := EnvX.below E1.out hb
  clear hv hb E1 HLD ht
  go_upto_region 3 with (fail)
  refine wp_region_Hx (w0 := w) [0, 1] [(w.heap.size + 1, Obj.cells (arrB 32 []) 23 (0, 0)), (w.heap.size, Obj.cells (hdA h) 29 (0, 0))] rfl E2.out ?_
  refine lexH_phase [0] [1] ?_
  have hw1 : EnvX w _ [(w.heap.size + 1, Obj.cells (arrB 32 []) 23 (0, 0)), (w.heap.size, Obj.cells (hdA h) 29 (0, 0))] := E2.out
  have hone := @EnvC.one _ _ _ hw1
  (refine wpG_val (v := .agg (arrB 32 z32)) rfl rfl (fun u hu => buildA_op u hbuilt0) ?_ hw1; intro K hK; go_big_quiet_op; go_big_quiet_on)
  clear hone hw1
  refine wpG_nil ?_
  refine (hOp_store rfl (w.heap.size + 1) (arrB 32 z32) rfl rfl HLE.out 23 ((arrB 32 [])) (List.Mem.head _) (info26 _ HZ.out) ((arrB_size _ _ (by simp)).trans HZ.out.symm) (arrB_one _ _) [(w.heap.size + 1, Obj.cells (arrB 32 z32) 23 (0, 0))] (List.forall_mem_cons.2 ⟨.inl rfl, (fun _ h => by cases h)⟩) ?_)
  intro he2
  intro u4 E2'
  have EX3 := Lib.hid E2'
  clear E2'
  have Q0 := Lib.hid (EnvX.box EX3.out _ _ (List.Mem.head _))
  have HBEL := Lib.hid EX3.out.bel
  clear EX3
  go_wp2_with ((with_reducible refine bodyPost_ret (v := .agg (arrB 32 z32)) ?_ ?_ ?_); (exact results_cell_row (p := 2) (ty := 23) Tryd.results17 _ _ (w.heap.size + 1) 23 (arrB 32 z32) (0, 0) _ rfl Q0.out Tryd.underlying23 rfl (info26 _ HZ.out)); (rfl))
  exact ⟨rfl, HBEL.out⟩
set_option maxRecDepth 20000 in
set_option maxHeartbeats 8000000 in
theorem hid_yes (h : Hd) (w : World) (hh : okHd h) (ht : Tables w) (k : mayPut h = true) :
    Calls Tryd.prog 17 #[hdV h] w fun e w' => e = .returned (idv (idH h)) ∧ Below w.heap.size w w' := by
  have hp : putH h = (bodyH h, true) := by unfold putH; rw [if_pos k]
  have hi : idH h = sumL (5 :: bodyH h) := by unfold idH; rw [if_pos k]
  rw [hi]
  obtain ⟨su, hsu⟩ : ∃ su, sumL (5 :: bodyH h) = su := ⟨_, rfl⟩
  have HZ : Hid ((arrB 32 su).size = 32) := arrB_size _ _ (by rw [← hsu, sumL_len]; omega)
  have HSU := Lib.hid hsu
  rw [hsu]
  clear hsu
  have HBO := Lib.hid (And.intro (body_len hh) (body_byte hh))
  clear k hi
  have HL := Lib.hid hh.len
  have HLE : Hid (w.heap.size ≤ w.heap.size + 1) := by show _ ≤ _; omega
  have E1 : Hid (EnvX w ((w.alloc (.cells (hdA h) 29)).alloc (.cells (arrB 32 []) 23)) [(w.heap.size + 1, Obj.cells (arrB 32 []) 23 (0, 0)), (w.heap.size, Obj.cells (hdA h) 29 (0, 0))]) := (EnvX.start w).two _ _
  have HPT : Hid (∀ u, Calls Tryd.prog 10 #[hdV h] u fun e w' => (∃ v, e = .returned (.tuple #[v, .bool (putH h).2]) ∧ OwnB w' u.heap.size v (putH h).1) ∧ Below u.heap.size u w') := fun u => hput_any h u hh
  rw [hp] at HPT
  clear hp hh
  unfold hdV
  go_enter Tryd.func17, Tryd.ntmps17
  go_upto_region 1 with (fail)
  rw [zero_cells]
  generalize (w.alloc (.cells (hdA h) 29)).alloc (.cells (arrB 32 []) 23) = W at *
  have HLD : Hid ((loadVar 29 ⟨w.heap.size, 0, none⟩).run Tryd.prog W = .ok (.agg (hdA h)) W) := box_hd E1.out (List.Mem.tail _ (List.Mem.head _)) HL.out
  go_wp2_with ((with_reducible refine wpList_load_run (o := ⟨some 6, _, _, _, _, _⟩) ?_ 29 (.tmp 1) ?_ ⟨w.heap.size, 0, none⟩ ?_ HLD.out ?_); (rfl); (rfl); (rfl))
  refine (HPT.out W).mono ?_
  rintro e w1 ⟨⟨v, rfl, hv⟩, hb⟩
  obtain ⟨hv1, ⟨_, h0⟩ | ⟨gv, capv, curv, rfl, hg1, hg2, hg3⟩⟩ := hv
  · have := HBO.out.1
    omega
  have E2 : Hid (EnvX w w1 [(gv, Obj.cells curv 5 (0, 0)), (w.heap.size + 1, Obj.cells (arrB 32 []) 23 (0, 0)), (w.heap.size, Obj.cells (hdA h) 29 (0, 0))]) := ⟨(EnvX.below E1.out hb).bel, fun g o hm => by
    rcases List.mem_cons.1 hm with e | e
    · cases e
      exact hg2
    · exact (EnvX.below E1.out hb).box g o e⟩
  rw [HBO.out.1] at hg3 ⊢
  have HGV := Lib.hid hg3
  have HOF : Hid (∀ (u : World) (gr : Nat), EnvX w u [] → Parts u u.heap.size (some ⟨gr, 0, none⟩) [[5], bodyH h] → Calls Tryd.prog 42 #[.slice (some ⟨gr, 0, none⟩) 2 2] u fun e w' => e = .returned (.agg (arrB 32 su)) ∧ Below u.heap.size u w') := fun u gr hE hp => by
    have e : [[5], bodyH h].flatten = 5 :: bodyH h := by simp
    have h1 := shaof_any (some ⟨gr, 0, none⟩) 2 2 [[5], bodyH h] u rfl hp (by omega) (by rw [e, List.length_cons, HBO.out.1]; decide) (ht.below hE.bel)
    rwa [e, HSU.out] at h1
  clear hv1 hb E1 HLD hg1 hg2 hg3 ht
  go_upto_region 4 with (fail)
  refine wp_region_Hx (w0 := w) [0, 1, 2, 3, 4] [(gv, Obj.cells curv 5 (0, 0)), (w.heap.size + 1, Obj.cells (arrB 32 []) 23 (0, 0)), (w.heap.size, Obj.cells (hdA h) 29 (0, 0))] rfl E2.out ?_
  refine (hOp_fresh (R := fun v N => ∃ g, v = .slice (some ⟨g, 0, none⟩) 1 1 ∧ N = [(g, Obj.cells #[.int .u8 5] 5 (0, 0))]) (M0 := [(gv, Obj.cells curv 5 (0, 0)), (w.heap.size + 1, Obj.cells (arrB 32 []) 23 (0, 0)), (w.heap.size, Obj.cells (hdA h) 29 (0, 0))]) rfl rfl (fun _ h => h) (fun u hu => FAt_byte1 5 u) ?_)
  rintro _ _ ⟨g5, rfl, rfl⟩ hf he1; intro K' hK'; go_big_quiet_op; go_big_quiet_on
  clear hf
  change lexH _ _ _ _ _ _ [(g5, Obj.cells #[.int .u8 5] 5 (0, 0)), (gv, Obj.cells curv 5 (0, 0)), (w.heap.size + 1, Obj.cells (arrB 32 []) 23 (0, 0)), (w.heap.size, Obj.cells (hdA h) 29 (0, 0))]
  refine lexH_phase [1] [2, 3, 4] ?_
  have hw2 : EnvX w _ [(g5, Obj.cells #[.int .u8 5] 5 (0, 0)), (gv, Obj.cells curv 5 (0, 0)), (w.heap.size + 1, Obj.cells (arrB 32 []) 23 (0, 0)), (w.heap.size, Obj.cells (hdA h) 29 (0, 0))] := he1.choose_spec
  have hone := @EnvC.one _ _ _ hw2
  (refine wpG_op rfl rfl rfl ?_; intro K hK; go_big_quiet_op; go_big_quiet_on)
  clear hone hw2
  refine wpG_nil ?_
  refine (hOp_fresh (R := fun v N => ∃ g, v = .slice (some ⟨g, 0, none⟩) 2 2 ∧ N = [(g, Obj.cells #[.slice (some ⟨g5, 0, none⟩) 1 1, .slice (some ⟨gv, 0, none⟩) 176 capv] 30 (0, 0))]) (M0 := [(g5, Obj.cells #[.int .u8 5] 5 (0, 0)), (gv, Obj.cells curv 5 (0, 0)), (w.heap.size + 1, Obj.cells (arrB 32 []) 23 (0, 0)), (w.heap.size, Obj.cells (hdA h) 29 (0, 0))]) rfl rfl (fun _ h => h) (fun u hu => FAt_rows2 rfl rfl u) ?_)
  rintro _ _ ⟨gr, rfl, rfl⟩ hf he3; intro K' hK'; go_big_quiet_op; go_big_quiet_on
  clear hf
  change lexH _ _ _ _ _ _ [(gr, Obj.cells #[.slice (some ⟨g5, 0, none⟩) 1 1, .slice (some ⟨gv, 0, none⟩) 176 capv] 30 (0, 0)), (g5, Obj.cells #[.int .u8 5] 5 (0, 0)), (gv, Obj.cells curv 5 (0, 0)), (w.heap.size + 1, Obj.cells (arrB 32 []) 23 (0, 0)), (w.heap.size, Obj.cells (hdA h) 29 (0, 0))]
  refine lexH_phase [3] [4] ?_
  have hw4 : EnvX w _ [(gr, Obj.cells #[.slice (some ⟨g5, 0, none⟩) 1 1, .slice (some ⟨gv, 0, none⟩) 176 capv] 30 (0, 0)), (g5, Obj.cells #[.int .u8 5] 5 (0, 0)), (gv, Obj.cells curv 5 (0, 0)), (w.heap.size + 1, Obj.cells (arrB 32 []) 23 (0, 0)), (w.heap.size, Obj.cells (hdA h) 29 (0, 0))] := he3.choose_spec
  have hone := @EnvC.one _ _ _ hw4
  (refine wpG_call (f := 42) (args := #[.slice (some ⟨gr, 0, none⟩) 2 2]) (v := .agg (arrB 32 su)) rfl rfl rfl Tryd.func42 rfl rfl (fun u hu => HOF.out u gr (EnvX.sub hu (fun _ h => by cases h)) (parts_two (EnvX.lt hu (List.Mem.head _)) (by have h := box_cell (k := 0) hu (List.Mem.head _) rfl; exact h) (boxR_bytes (cap := 1) hu (List.Mem.tail _ (List.Mem.head _)) rfl ⟨by decide, by decide, rfl, rfl⟩) (by intro x hx; cases List.mem_singleton.1 hx; omega) (by have h := box_cell (k := 1) hu (List.Mem.head _) rfl; rw [HBO.out.1]; exact h) (boxR_bytes hu (List.Mem.tail _ (List.Mem.tail _ (List.Mem.head _))) HBO.out.1 HGV.out) HBO.out.2)) ?_ hw4; intro K hK; go_big_quiet_op; go_big_quiet_on)
  clear hone hw4
  refine wpG_nil ?_
  refine (hOp_store rfl (w.heap.size + 1) (arrB 32 su) rfl rfl HLE.out 23 ((arrB 32 [])) (List.Mem.tail _ (List.Mem.tail _ (List.Mem.tail _ (List.Mem.head _)))) (info26 _ HZ.out) ((arrB_size _ _ (by simp)).trans HZ.out.symm) (arrB_one _ _) [(w.heap.size + 1, Obj.cells (arrB 32 su) 23 (0, 0))] (List.forall_mem_cons.2 ⟨.inl rfl, (fun _ h => by cases h)⟩) ?_)
  intro he5
  intro u7 E2'
  have EX6 := Lib.hid E2'
  clear E2'
  have Q0 := Lib.hid (EnvX.box EX6.out _ _ (List.Mem.head _))
  have HBEL := Lib.hid EX6.out.bel
  clear EX6
  go_wp2_with ((with_reducible refine bodyPost_ret (v := .agg (arrB 32 su)) ?_ ?_ ?_); (exact results_cell_row (p := 2) (ty := 23) Tryd.results17 _ _ (w.heap.size + 1) 23 (arrB 32 su) (0, 0) _ rfl Q0.out Tryd.underlying23 rfl (info26 _ HZ.out)); (rfl))
  exact ⟨rfl, HBEL.out⟩
theorem hid_any (h : Hd) (w : World) (hh : okHd h) (ht : Tables w) :
    Calls Tryd.prog 17 #[hdV h] w fun e w' => e = .returned (idv (idH h)) ∧ Below w.heap.size w w' := by
  cases k : mayPut h with
  | true => exact hid_yes h w hh ht k
  | false => exact hid_no h w hh ht k
set_option maxRecDepth 20000 in
set_option maxHeartbeats 8000000 in
theorem hlevel_a (h : Hd) (w : World) (hh : okHd h) (ht : Tables w) (hc : isC h.bits = false) :
    Calls Tryd.prog 19 #[hdV h] w fun e w' => e = .returned (.int .i64 (levelH h)) ∧ Below w.heap.size w w' := by
  have hv : levelH h = -1 := by unfold levelH; rw [hc, Bool.and_false]; rfl
  rw [hv]
  clear hv
  have HL := Lib.hid hh.len
  have E1 : Hid (EnvX w (w.alloc (.cells (hdA h) 29)) [(w.heap.size, Obj.cells (hdA h) 29 (0, 0))]) := (EnvX.start w).new _
  have HTG : Hid (∀ u, Calls Tryd.prog 25 #[.int .u32 (h.bits : Int)] u fun e w' => e = .returned (.tuple #[.agg (wcs (tv h.bits)), .bool (isC h.bits)]) ∧ Below u.heap.size u w') := fun u => target_any h.bits u hh.2.2.2.2.2.2.1
  rw [hc] at HTG
  clear hh hc ht
  unfold hdV
  go_enter Tryd.func19, Tryd.ntmps19
  go_upto_region 1 with (fail)
  generalize w.alloc (.cells (hdA h) 29) = W at *
  refine wp_region_Hx (w0 := w) [0, 1, 2, 3, 4, 5, 6, 7, 8] [(w.heap.size, Obj.cells (hdA h) 29 (0, 0))] rfl E1.out ?_
  refine lexH_phase [0, 1, 2, 3, 4, 5] [6, 7, 8] ?_
  have hw1 : EnvX w _ [(w.heap.size, Obj.cells (hdA h) 29 (0, 0))] := E1.out
  have hone := @EnvC.one _ _ _ hw1
  (refine wpG_op rfl rfl rfl ?_; intro K hK; go_big_quiet_op; go_big_quiet_on)
  (refine wpG_val (v := .int .u32 (h.bits : Int)) rfl rfl (fun u hu => load_any_op u (box_hd_bits hu (List.Mem.head _) HL.out) rfl) ?_ hw1; intro K hK; go_big_quiet_op; go_big_quiet_on)
  (refine wpG_call (f := 25) (args := #[.int .u32 (h.bits : Int)]) (v := .tuple #[.agg (wcs (tv h.bits)), .bool false]) rfl rfl rfl Tryd.func25 rfl rfl (fun u hu => HTG.out u) ?_ hw1; intro K hK; go_big_quiet_op; go_big_quiet_on)
  (refine wpG_op rfl rfl rfl ?_; intro K hK; go_big_quiet_op; go_big_quiet_on)
  (refine wpG_op rfl rfl rfl ?_; intro K hK; go_big_quiet_op; go_big_quiet_on)
  (refine wpG_op rfl rfl rfl ?_; intro K hK; go_big_quiet_op; go_big_quiet_on)
  clear hone hw1
  refine wpG_nil ?_
  refine (hOp_fresh (R := fun x N => ∃ g, x = .pointer (some ⟨g, 0, none⟩) ∧ N = [(g, Obj.cells (wcs 0) 26 (0, 0))]) (M0 := [(w.heap.size, Obj.cells (hdA h) 29 (0, 0))]) rfl rfl (fun _ h => h) (fun u hu => FAt_new (new_wd _) u) ?_)
  rintro _ _ ⟨gt, rfl, rfl⟩ hf he2; intro K' hK'; go_big_quiet_op; go_big_quiet_on
  have HGT := Lib.hid (hf _ (List.mem_singleton.2 rfl))
  clear hf
  change lexH _ _ _ _ _ _ [(gt, Obj.cells (wcs 0) 26 (0, 0)), (w.heap.size, Obj.cells (hdA h) 29 (0, 0))]
  refine (hOp_store rfl (gt) (wcs (tv h.bits)) rfl rfl HGT.out.1 26 ((wcs 0)) (List.Mem.head _) (wc_info _) ((wc_size _).trans (wc_size _).symm) (wc_one _) [(gt, Obj.cells (wcs (tv h.bits)) 26 (0, 0)), (w.heap.size, Obj.cells (hdA h) 29 (0, 0))] (List.forall_mem_cons.2 ⟨.inl rfl, fun y hy => .inr ⟨List.mem_cons_of_mem _ hy, HGT.out.2 y hy⟩⟩) ?_)
  intro he3
  refine lexH_phase [8] [] ?_
  have hw4 : EnvX w _ [(gt, Obj.cells (wcs (tv h.bits)) 26 (0, 0)), (w.heap.size, Obj.cells (hdA h) 29 (0, 0))] := he3.choose_spec
  have hone := @EnvC.one _ _ _ hw4
  (refine wpG_op rfl rfl rfl ?_; intro K hK; go_big_quiet_op; go_big_quiet_on)
  clear hone hw4
  refine wpG_nil ?_
  intro u6 E2'
  have EX5 := Lib.hid E2'
  clear E2'
  go_upto_region 2 with (fail)
  refine wp_region_Hx (w0 := w) [0, 1, 2, 3, 4, 5, 6, 7, 8] [(gt, Obj.cells (wcs (tv h.bits)) 26 (0, 0)), (w.heap.size, Obj.cells (hdA h) 29 (0, 0))] rfl EX5.out ?_
  refine lexH_phase [0, 1, 2, 3, 4, 5, 6, 7, 8] [] ?_
  have hw7 : EnvX w _ [(gt, Obj.cells (wcs (tv h.bits)) 26 (0, 0)), (w.heap.size, Obj.cells (hdA h) 29 (0, 0))] := EX5.out
  have hone := @EnvC.one _ _ _ hw7
  (refine wpG_op rfl rfl rfl ?_; intro K hK; go_big_quiet_op; go_big_quiet_on)
  (refine wpG_op rfl rfl rfl ?_; intro K hK; go_big_quiet_op; go_big_quiet_on)
  (refine wpG_op rfl rfl rfl ?_; intro K hK; go_big_quiet_op; go_big_quiet_on)
  (refine wpG_skip rfl rfl ?_ hw7; intro K hK; go_big_quiet_op; go_big_quiet_on)
  (refine wpG_skip rfl rfl ?_ hw7; intro K hK; go_big_quiet_op; go_big_quiet_on)
  (refine wpG_skip rfl rfl ?_ hw7; intro K hK; go_big_quiet_op; go_big_quiet_on)
  (refine wpG_skip rfl rfl ?_ hw7; intro K hK; go_big_quiet_op; go_big_quiet_on)
  (refine wpG_op rfl rfl rfl ?_; intro K hK; go_big_quiet_op; go_big_quiet_on)
  (refine wpG_op rfl rfl rfl ?_; intro K hK; go_big_quiet_op; go_big_quiet_on)
  clear hone hw7
  refine wpG_nil ?_
  intro u9 E2'
  have EX8 := Lib.hid E2'
  clear E2'
  have HBE := Lib.hid (EnvX.bel EX8.out)
  go_wp2
  go_ret
  exact ⟨rfl, HBE.out⟩
set_option maxRecDepth 20000 in
set_option maxHeartbeats 8000000 in
theorem hlevel_b (h : Hd) (w : World) (hh : okHd h) (ht : Tables w) (hc : isC h.bits = true) (k : mayPut h = false) :
    Calls Tryd.prog 19 #[hdV h] w fun e w' => e = .returned (.int .i64 (levelH h)) ∧ Below w.heap.size w w' := by
  have hv : levelH h = -1 := by unfold levelH; rw [k]; rfl
  rw [hv]
  clear hv
  have HL := Lib.hid hh.len
  have E1 : Hid (EnvX w (w.alloc (.cells (hdA h) 29)) [(w.heap.size, Obj.cells (hdA h) 29 (0, 0))]) := (EnvX.start w).new _
  have HTG : Hid (∀ u, Calls Tryd.prog 25 #[.int .u32 (h.bits : Int)] u fun e w' => e = .returned (.tuple #[.agg (wcs (tv h.bits)), .bool (isC h.bits)]) ∧ Below u.heap.size u w') := fun u => target_any h.bits u hh.2.2.2.2.2.2.1
  rw [hc] at HTG
  have HMH : Hid (∀ u, Calls Tryd.prog 29 #[.int .i64 h.height] u fun e w' => e = .returned (.bool (mayPut h)) ∧ Below u.heap.size u w') := fun u => mayh_any h.height u
  rw [k] at HMH
  clear hh hc k ht
  unfold hdV
  go_enter Tryd.func19, Tryd.ntmps19
  go_upto_region 1 with (fail)
  generalize w.alloc (.cells (hdA h) 29) = W at *
  refine wp_region_Hx (w0 := w) [0, 1, 2, 3, 4, 5, 6, 7, 8] [(w.heap.size, Obj.cells (hdA h) 29 (0, 0))] rfl E1.out ?_
  refine lexH_phase [0, 1, 2, 3, 4, 5] [6, 7, 8] ?_
  have hw1 : EnvX w _ [(w.heap.size, Obj.cells (hdA h) 29 (0, 0))] := E1.out
  have hone := @EnvC.one _ _ _ hw1
  (refine wpG_op rfl rfl rfl ?_; intro K hK; go_big_quiet_op; go_big_quiet_on)
  (refine wpG_val (v := .int .u32 (h.bits : Int)) rfl rfl (fun u hu => load_any_op u (box_hd_bits hu (List.Mem.head _) HL.out) rfl) ?_ hw1; intro K hK; go_big_quiet_op; go_big_quiet_on)
  (refine wpG_call (f := 25) (args := #[.int .u32 (h.bits : Int)]) (v := .tuple #[.agg (wcs (tv h.bits)), .bool true]) rfl rfl rfl Tryd.func25 rfl rfl (fun u hu => HTG.out u) ?_ hw1; intro K hK; go_big_quiet_op; go_big_quiet_on)
  (refine wpG_op rfl rfl rfl ?_; intro K hK; go_big_quiet_op; go_big_quiet_on)
  (refine wpG_op rfl rfl rfl ?_; intro K hK; go_big_quiet_op; go_big_quiet_on)
  (refine wpG_op rfl rfl rfl ?_; intro K hK; go_big_quiet_op; go_big_quiet_on)
  clear hone hw1
  refine wpG_nil ?_
  refine (hOp_fresh (R := fun x N => ∃ g, x = .pointer (some ⟨g, 0, none⟩) ∧ N = [(g, Obj.cells (wcs 0) 26 (0, 0))]) (M0 := [(w.heap.size, Obj.cells (hdA h) 29 (0, 0))]) rfl rfl (fun _ h => h) (fun u hu => FAt_new (new_wd _) u) ?_)
  rintro _ _ ⟨gt, rfl, rfl⟩ hf he2; intro K' hK'; go_big_quiet_op; go_big_quiet_on
  have HGT := Lib.hid (hf _ (List.mem_singleton.2 rfl))
  clear hf
  change lexH _ _ _ _ _ _ [(gt, Obj.cells (wcs 0) 26 (0, 0)), (w.heap.size, Obj.cells (hdA h) 29 (0, 0))]
  refine (hOp_store rfl (gt) (wcs (tv h.bits)) rfl rfl HGT.out.1 26 ((wcs 0)) (List.Mem.head _) (wc_info _) ((wc_size _).trans (wc_size _).symm) (wc_one _) [(gt, Obj.cells (wcs (tv h.bits)) 26 (0, 0)), (w.heap.size, Obj.cells (hdA h) 29 (0, 0))] (List.forall_mem_cons.2 ⟨.inl rfl, fun y hy => .inr ⟨List.mem_cons_of_mem _ hy, HGT.out.2 y hy⟩⟩) ?_)
  intro he3
  refine lexH_phase [8] [] ?_
  have hw4 : EnvX w _ [(gt, Obj.cells (wcs (tv h.bits)) 26 (0, 0)), (w.heap.size, Obj.cells (hdA h) 29 (0, 0))] := he3.choose_spec
  have hone := @EnvC.one _ _ _ hw4
  (refine wpG_op rfl rfl rfl ?_; intro K hK; go_big_quiet_op; go_big_quiet_on)
  clear hone hw4
  refine wpG_nil ?_
  intro u6 E2'
  have EX5 := Lib.hid E2'
  clear E2'
  go_upto_region 2 with (fail)
  refine wp_region_Hx (w0 := w) [0, 1, 2, 3, 4, 5, 6, 7, 8] [(gt, Obj.cells (wcs (tv h.bits)) 26 (0, 0)), (w.heap.size, Obj.cells (hdA h) 29 (0, 0))] rfl EX5.out ?_
  refine lexH_phase [0, 1, 2, 3, 4, 5, 6, 7, 8] [] ?_
  have hw7 : EnvX w _ [(gt, Obj.cells (wcs (tv h.bits)) 26 (0, 0)), (w.heap.size, Obj.cells (hdA h) 29 (0, 0))] := EX5.out
  have hone := @EnvC.one _ _ _ hw7
  (refine wpG_op rfl rfl rfl ?_; intro K hK; go_big_quiet_op; go_big_quiet_on)
  (refine wpG_op rfl rfl rfl ?_; intro K hK; go_big_quiet_op; go_big_quiet_on)
  (refine wpG_op rfl rfl rfl ?_; intro K hK; go_big_quiet_op; go_big_quiet_on)
  (refine wpG_op rfl rfl rfl ?_; intro K hK; go_big_quiet_op; go_big_quiet_on)
  (refine wpG_val (v := .int .i64 h.height) rfl rfl (fun u hu => load_any_op u (box_hd_height hu (List.Mem.tail _ (List.Mem.head _))) rfl) ?_ hw7; intro K hK; go_big_quiet_op; go_big_quiet_on)
  (refine wpG_call (f := 29) (args := #[.int .i64 h.height]) (v := .bool false) rfl rfl rfl Tryd.func29 rfl rfl (fun u hu => HMH.out u) ?_ hw7; intro K hK; go_big_quiet_op; go_big_quiet_on)
  (refine wpG_op rfl rfl rfl ?_; intro K hK; go_big_quiet_op; go_big_quiet_on)
  (refine wpG_op rfl rfl rfl ?_; intro K hK; go_big_quiet_op; go_big_quiet_on)
  (refine wpG_op rfl rfl rfl ?_; intro K hK; go_big_quiet_op; go_big_quiet_on)
  clear hone hw7
  refine wpG_nil ?_
  intro u9 E2'
  have EX8 := Lib.hid E2'
  clear E2'
  have HBE := Lib.hid (EnvX.bel EX8.out)
  go_wp2
  go_ret
  exact ⟨rfl, HBE.out⟩
set_option maxRecDepth 20000 in
set_option maxHeartbeats 8000000 in
theorem hlevel_c (h : Hd) (w : World) (hh : okHd h) (ht : Tables w) (hc : isC h.bits = true) (k : mayPut h = true) (h0 : h.height = 0) :
    Calls Tryd.prog 19 #[hdV h] w fun e w' => e = .returned (.int .i64 (levelH h)) ∧ Below w.heap.size w w' := by
  have hv : levelH h = 31 := by unfold levelH; rw [k, hc]; exact if_pos h0
  rw [hv]
  have C0 : Hid (decide (h.height = 0) = true) := decide_eq_true h0
  clear hv h0
  have HL := Lib.hid hh.len
  have E1 : Hid (EnvX w (w.alloc (.cells (hdA h) 29)) [(w.heap.size, Obj.cells (hdA h) 29 (0, 0))]) := (EnvX.start w).new _
  have HTG : Hid (∀ u, Calls Tryd.prog 25 #[.int .u32 (h.bits : Int)] u fun e w' => e = .returned (.tuple #[.agg (wcs (tv h.bits)), .bool (isC h.bits)]) ∧ Below u.heap.size u w') := fun u => target_any h.bits u hh.2.2.2.2.2.2.1
  rw [hc] at HTG
  have HMH : Hid (∀ u, Calls Tryd.prog 29 #[.int .i64 h.height] u fun e w' => e = .returned (.bool (mayPut h)) ∧ Below u.heap.size u w') := fun u => mayh_any h.height u
  rw [k] at HMH
  clear hh hc k ht
  unfold hdV
  go_enter Tryd.func19, Tryd.ntmps19
  go_upto_region 1 with (fail)
  generalize w.alloc (.cells (hdA h) 29) = W at *
  refine wp_region_Hx (w0 := w) [0, 1, 2, 3, 4, 5, 6, 7, 8] [(w.heap.size, Obj.cells (hdA h) 29 (0, 0))] rfl E1.out ?_
  refine lexH_phase [0, 1, 2, 3, 4, 5] [6, 7, 8] ?_
  have hw1 : EnvX w _ [(w.heap.size, Obj.cells (hdA h) 29 (0, 0))] := E1.out
  have hone := @EnvC.one _ _ _ hw1
  (refine wpG_op rfl rfl rfl ?_; intro K hK; go_big_quiet_op; go_big_quiet_on)
  (refine wpG_val (v := .int .u32 (h.bits : Int)) rfl rfl (fun u hu => load_any_op u (box_hd_bits hu (List.Mem.head _) HL.out) rfl) ?_ hw1; intro K hK; go_big_quiet_op; go_big_quiet_on)
  (refine wpG_call (f := 25) (args := #[.int .u32 (h.bits : Int)]) (v := .tuple #[.agg (wcs (tv h.bits)), .bool true]) rfl rfl rfl Tryd.func25 rfl rfl (fun u hu => HTG.out u) ?_ hw1; intro K hK; go_big_quiet_op; go_big_quiet_on)
  (refine wpG_op rfl rfl rfl ?_; intro K hK; go_big_quiet_op; go_big_quiet_on)
  (refine wpG_op rfl rfl rfl ?_; intro K hK; go_big_quiet_op; go_big_quiet_on)
  (refine wpG_op rfl rfl rfl ?_; intro K hK; go_big_quiet_op; go_big_quiet_on)
  clear hone hw1
  refine wpG_nil ?_
  refine (hOp_fresh (R := fun x N => ∃ g, x = .pointer (some ⟨g, 0, none⟩) ∧ N = [(g, Obj.cells (wcs 0) 26 (0, 0))]) (M0 := [(w.heap.size, Obj.cells (hdA h) 29 (0, 0))]) rfl rfl (fun _ h => h) (fun u hu => FAt_new (new_wd _) u) ?_)
  rintro _ _ ⟨gt, rfl, rfl⟩ hf he2; intro K' hK'; go_big_quiet_op; go_big_quiet_on
  have HGT := Lib.hid (hf _ (List.mem_singleton.2 rfl))
  clear hf
  change lexH _ _ _ _ _ _ [(gt, Obj.cells (wcs 0) 26 (0, 0)), (w.heap.size, Obj.cells (hdA h) 29 (0, 0))]
  refine (hOp_store rfl (gt) (wcs (tv h.bits)) rfl rfl HGT.out.1 26 ((wcs 0)) (List.Mem.head _) (wc_info _) ((wc_size _).trans (wc_size _).symm) (wc_one _) [(gt, Obj.cells (wcs (tv h.bits)) 26 (0, 0)), (w.heap.size, Obj.cells (hdA h) 29 (0, 0))] (List.forall_mem_cons.2 ⟨.inl rfl, fun y hy => .inr ⟨List.mem_cons_of_mem _ hy, HGT.out.2 y hy⟩⟩) ?_)
  intro he3
  refine lexH_phase [8] [] ?_
  have hw4 : EnvX w _ [(gt, Obj.cells (wcs (tv h.bits)) 26 (0, 0)), (w.heap.size, Obj.cells (hdA h) 29 (0, 0))] := he3.choose_spec
  have hone := @EnvC.one _ _ _ hw4
  (refine wpG_op rfl rfl rfl ?_; intro K hK; go_big_quiet_op; go_big_quiet_on)
  clear hone hw4
  refine wpG_nil ?_
  intro u6 E2'
  have EX5 := Lib.hid E2'
  clear E2'
  go_upto_region 2 with (fail)
  refine wp_region_Hx (w0 := w) [0, 1, 2, 3, 4, 5, 6, 7, 8] [(gt, Obj.cells (wcs (tv h.bits)) 26 (0, 0)), (w.heap.size, Obj.cells (hdA h) 29 (0, 0))] rfl EX5.out ?_
  refine lexH_phase [0, 1, 2, 3, 4, 5, 6, 7, 8] [] ?_
  have hw7 : EnvX w _ [(gt, Obj.cells (wcs (tv h.bits)) 26 (0, 0)), (w.heap.size, Obj.cells (hdA h) 29 (0, 0))] := EX5.out
  have hone := @EnvC.one _ _ _ hw7
  (refine wpG_op rfl rfl rfl ?_; intro K hK; go_big_quiet_op; go_big_quiet_on)
  (refine wpG_op rfl rfl rfl ?_; intro K hK; go_big_quiet_op; go_big_quiet_on)
  (refine wpG_op rfl rfl rfl ?_; intro K hK; go_big_quiet_op; go_big_quiet_on)
  (refine wpG_op rfl rfl rfl ?_; intro K hK; go_big_quiet_op; go_big_quiet_on)
  (refine wpG_val (v := .int .i64 h.height) rfl rfl (fun u hu => load_any_op u (box_hd_height hu (List.Mem.tail _ (List.Mem.head _))) rfl) ?_ hw7; intro K hK; go_big_quiet_op; go_big_quiet_on)
  (refine wpG_call (f := 29) (args := #[.int .i64 h.height]) (v := .bool true) rfl rfl rfl Tryd.func29 rfl rfl (fun u hu => HMH.out u) ?_ hw7; intro K hK; go_big_quiet_op; go_big_quiet_on)
  (refine wpG_op rfl rfl rfl ?_; intro K hK; go_big_quiet_op; go_big_quiet_on)
  (refine wpG_op rfl rfl rfl ?_; intro K hK; go_big_quiet_op; go_big_quiet_on)
  (refine wpG_op rfl rfl rfl ?_; intro K hK; go_big_quiet_op; go_big_quiet_on)
  clear hone hw7
  refine wpG_nil ?_
  intro u9 E2'
  have EX8 := Lib.hid E2'
  clear E2'
  go_upto_region 4 with (fail)
  refine wp_region_Hx (w0 := w) [0, 1, 2, 3] [(gt, Obj.cells (wcs (tv h.bits)) 26 (0, 0)), (w.heap.size, Obj.cells (hdA h) 29 (0, 0))] rfl EX8.out ?_
  refine lexH_phase [0, 1, 2, 3] [] ?_
  have hw10 : EnvX w _ [(gt, Obj.cells (wcs (tv h.bits)) 26 (0, 0)), (w.heap.size, Obj.cells (hdA h) 29 (0, 0))] := EX8.out
  have hone := @EnvC.one _ _ _ hw10
  (refine wpG_op rfl rfl rfl ?_; intro K hK; go_big_quiet_op; go_big_quiet_on)
  (refine wpG_val (v := .int .i64 h.height) rfl rfl (fun u hu => load_any_op u (box_hd_height hu (List.Mem.tail _ (List.Mem.head _))) rfl) ?_ hw10; intro K hK; go_big_quiet_op; go_big_quiet_on)
  (refine wpG_val (v := .bool true) rfl rfl (fun u hu => eqlI_op u C0.out rfl rfl) ?_ hw10; intro K hK; go_big_quiet_op; go_big_quiet_on)
  (refine wpG_op rfl rfl rfl ?_; intro K hK; go_big_quiet_op; go_big_quiet_on)
  clear hone hw10
  refine wpG_nil ?_
  intro u12 E2'
  have EX11 := Lib.hid E2'
  clear E2'
  have HBE := Lib.hid (EnvX.bel EX11.out)
  go_wp2
  go_ret
  exact ⟨rfl, HBE.out⟩
set_option maxRecDepth 20000 in
set_option maxHeartbeats 8000000 in
theorem hlevel_d (h : Hd) (w : World) (hh : okHd h) (ht : Tables w) (hc : isC h.bits = true) (k : mayPut h = true) (h0 : h.height ≠ 0) :
    Calls Tryd.prog 19 #[hdV h] w fun e w' => e = .returned (.int .i64 (levelH h)) ∧ Below w.heap.size w w' := by
  have hv : levelH h = lvI (numB (idH h)) (tv h.bits) := by unfold levelH; rw [k, hc]; exact if_neg h0
  rw [hv]
  have C0 : Hid (decide (h.height = 0) = false) := decide_eq_false h0
  clear hv h0
  have HL := Lib.hid hh.len
  have E1 : Hid (EnvX w (w.alloc (.cells (hdA h) 29)) [(w.heap.size, Obj.cells (hdA h) 29 (0, 0))]) := (EnvX.start w).new _
  have HTG : Hid (∀ u, Calls Tryd.prog 25 #[.int .u32 (h.bits : Int)] u fun e w' => e = .returned (.tuple #[.agg (wcs (tv h.bits)), .bool (isC h.bits)]) ∧ Below u.heap.size u w') := fun u => target_any h.bits u hh.2.2.2.2.2.2.1
  rw [hc] at HTG
  have HMH : Hid (∀ u, Calls Tryd.prog 29 #[.int .i64 h.height] u fun e w' => e = .returned (.bool (mayPut h)) ∧ Below u.heap.size u w') := fun u => mayh_any h.height u
  rw [k] at HMH
  have HID : Hid (∀ u, EnvX w u [] → Calls Tryd.prog 17 #[hdV h] u fun e w' => e = .returned (idv (idH h)) ∧ Below u.heap.size u w') := fun u hE => hid_any h u hh (ht.below hE.bel)
  have HLV : Hid (∀ u, Calls Tryd.prog 28 #[idv (idH h), .agg (wcs (tv h.bits))] u fun e w' => e = .returned (.int .i64 (lvI (numB (idH h)) (tv h.bits))) ∧ Below u.heap.size u w') := fun u => by
    unfold idv
    rw [arr_idF (id_len h) (id_byte h)]
    exact level_any (fun i => ((idH h).getD i 0).toNat) (byte_toNat (id_byte h)) (tv h.bits) u (tv_big h.bits)
  clear hh hc k ht
  unfold hdV
  go_enter Tryd.func19, Tryd.ntmps19
  go_upto_region 1 with (fail)
  generalize w.alloc (.cells (hdA h) 29) = W at *
  refine wp_region_Hx (w0 := w) [0, 1, 2, 3, 4, 5, 6, 7, 8] [(w.heap.size, Obj.cells (hdA h) 29 (0, 0))] rfl E1.out ?_
  refine lexH_phase [0, 1, 2, 3, 4, 5] [6, 7, 8] ?_
  have hw1 : EnvX w _ [(w.heap.size, Obj.cells (hdA h) 29 (0, 0))] := E1.out
  have hone := @EnvC.one _ _ _ hw1
  (refine wpG_op rfl rfl rfl ?_; intro K hK; go_big_quiet_op; go_big_quiet_on)
  (refine wpG_val (v := .int .u32 (h.bits : Int)) rfl rfl (fun u hu => load_any_op u (box_hd_bits hu (List.Mem.head _) HL.out) rfl) ?_ hw1; intro K hK; go_big_quiet_op; go_big_quiet_on)
  (refine wpG_call (f := 25) (args := #[.int .u32 (h.bits : Int)]) (v := .tuple #[.agg (wcs (tv h.bits)), .bool true]) rfl rfl rfl Tryd.func25 rfl rfl (fun u hu => HTG.out u) ?_ hw1; intro K hK; go_big_quiet_op; go_big_quiet_on)
  (refine wpG_op rfl rfl rfl ?_; intro K hK; go_big_quiet_op; go_big_quiet_on)
  (refine wpG_op rfl rfl rfl ?_; intro K hK; go_big_quiet_op; go_big_quiet_on)
  (refine wpG_op rfl rfl rfl ?_; intro K hK; go_big_quiet_op; go_big_quiet_on)
  clear hone hw1
  refine wpG_nil ?_
  refine (hOp_fresh (R := fun x N => ∃ g, x = .pointer (some ⟨g, 0, none⟩) ∧ N = [(g, Obj.cells (wcs 0) 26 (0, 0))]) (M0 := [(w.heap.size, Obj.cells (hdA h) 29 (0, 0))]) rfl rfl (fun _ h => h) (fun u hu => FAt_new (new_wd _) u) ?_)
  rintro _ _ ⟨gt, rfl, rfl⟩ hf he2; intro K' hK'; go_big_quiet_op; go_big_quiet_on
  have HGT := Lib.hid (hf _ (List.mem_singleton.2 rfl))
  clear hf
  change lexH _ _ _ _ _ _ [(gt, Obj.cells (wcs 0) 26 (0, 0)), (w.heap.size, Obj.cells (hdA h) 29 (0, 0))]
  refine (hOp_store rfl (gt) (wcs (tv h.bits)) rfl rfl HGT.out.1 26 ((wcs 0)) (List.Mem.head _) (wc_info _) ((wc_size _).trans (wc_size _).symm) (wc_one _) [(gt, Obj.cells (wcs (tv h.bits)) 26 (0, 0)), (w.heap.size, Obj.cells (hdA h) 29 (0, 0))] (List.forall_mem_cons.2 ⟨.inl rfl, fun y hy => .inr ⟨List.mem_cons_of_mem _ hy, HGT.out.2 y hy⟩⟩) ?_)
  intro he3
  refine lexH_phase [8] [] ?_
  have hw4 : EnvX w _ [(gt, Obj.cells (wcs (tv h.bits)) 26 (0, 0)), (w.heap.size, Obj.cells (hdA h) 29 (0, 0))] := he3.choose_spec
  have hone := @EnvC.one _ _ _ hw4
  (refine wpG_op rfl rfl rfl ?_; intro K hK; go_big_quiet_op; go_big_quiet_on)
  clear hone hw4
  refine wpG_nil ?_
  intro u6 E2'
  have EX5 := Lib.hid E2'
  clear E2'
  go_upto_region 2 with (fail)
  refine wp_region_Hx (w0 := w) [0, 1, 2, 3, 4, 5, 6, 7, 8] [(gt, Obj.cells (wcs (tv h.bits)) 26 (0, 0)), (w.heap.size, Obj.cells (hdA h) 29 (0, 0))] rfl EX5.out ?_
  refine lexH_phase [0, 1, 2, 3, 4, 5, 6, 7, 8] [] ?_
  have hw7 : EnvX w _ [(gt, Obj.cells (wcs (tv h.bits)) 26 (0, 0)), (w.heap.size, Obj.cells (hdA h) 29 (0, 0))] := EX5.out
  have hone := @EnvC.one _ _ _ hw7
  (refine wpG_op rfl rfl rfl ?_; intro K hK; go_big_quiet_op; go_big_quiet_on)
  (refine wpG_op rfl rfl rfl ?_; intro K hK; go_big_quiet_op; go_big_quiet_on)
  (refine wpG_op rfl rfl rfl ?_; intro K hK; go_big_quiet_op; go_big_quiet_on)
  (refine wpG_op rfl rfl rfl ?_; intro K hK; go_big_quiet_op; go_big_quiet_on)
  (refine wpG_val (v := .int .i64 h.height) rfl rfl (fun u hu => load_any_op u (box_hd_height hu (List.Mem.tail _ (List.Mem.head _))) rfl) ?_ hw7; intro K hK; go_big_quiet_op; go_big_quiet_on)
  (refine wpG_call (f := 29) (args := #[.int .i64 h.height]) (v := .bool true) rfl rfl rfl Tryd.func29 rfl rfl (fun u hu => HMH.out u) ?_ hw7; intro K hK; go_big_quiet_op; go_big_quiet_on)
  (refine wpG_op rfl rfl rfl ?_; intro K hK; go_big_quiet_op; go_big_quiet_on)
  (refine wpG_op rfl rfl rfl ?_; intro K hK; go_big_quiet_op; go_big_quiet_on)
  (refine wpG_op rfl rfl rfl ?_; intro K hK; go_big_quiet_op; go_big_quiet_on)
  clear hone hw7
  refine wpG_nil ?_
  intro u9 E2'
  have EX8 := Lib.hid E2'
  clear E2'
  go_upto_region 4 with (fail)
  refine wp_region_Hx (w0 := w) [0, 1, 2, 3] [(gt, Obj.cells (wcs (tv h.bits)) 26 (0, 0)), (w.heap.size, Obj.cells (hdA h) 29 (0, 0))] rfl EX8.out ?_
  refine lexH_phase [0, 1, 2, 3] [] ?_
  have hw10 : EnvX w _ [(gt, Obj.cells (wcs (tv h.bits)) 26 (0, 0)), (w.heap.size, Obj.cells (hdA h) 29 (0, 0))] := EX8.out
  have hone := @EnvC.one _ _ _ hw10
  (refine wpG_op rfl rfl rfl ?_; intro K hK; go_big_quiet_op; go_big_quiet_on)
  (refine wpG_val (v := .int .i64 h.height) rfl rfl (fun u hu => load_any_op u (box_hd_height hu (List.Mem.tail _ (List.Mem.head _))) rfl) ?_ hw10; intro K hK; go_big_quiet_op; go_big_quiet_on)
  (refine wpG_val (v := .bool false) rfl rfl (fun u hu => eqlI_op u C0.out rfl rfl) ?_ hw10; intro K hK; go_big_quiet_op; go_big_quiet_on)
  (refine wpG_op rfl rfl rfl ?_; intro K hK; go_big_quiet_op; go_big_quiet_on)
  clear hone hw10
  refine wpG_nil ?_
  intro u12 E2'
  have EX11 := Lib.hid E2'
  clear E2'
  go_upto_region 6 with (fail)
  refine wp_region_H (w0 := w) [(gt, Obj.cells (wcs (tv h.bits)) 26 (0, 0)), (w.heap.size, Obj.cells (hdA h) 29 (0, 0))] (by kernel_rfl) EX11.out ?_
  refine anyH_phase [0, 1, 2, 3, 4] 0 rfl ⟨_, (EnvX.drew EX11.out)⟩ (by kernel_rfl) ?_
  have hw13 : EnvX w _ [(gt, Obj.cells (wcs (tv h.bits)) 26 (0, 0)), (w.heap.size, Obj.cells (hdA h) 29 (0, 0))] := (EnvX.drew EX11.out)
  have hone := @EnvC.one _ _ _ hw13
  (refine wpG_val (v := hdV h) rfl rfl (fun u hu => load_any_op u (box_hd hu (List.Mem.tail _ (List.Mem.head _)) HL.out) rfl) ?_ hw13; intro K hK; go_big_quiet_op; go_big_quiet_on)
  (refine wpG_call (f := 17) (args := #[hdV h]) (v := idv (idH h)) rfl rfl rfl Tryd.func17 rfl rfl (fun u hu => HID.out u (EnvX.sub hu (fun _ h => by cases h))) ?_ hw13; intro K hK; go_big_quiet_op; go_big_quiet_on)
  (refine wpG_val (v := .agg (wcs (tv h.bits))) rfl rfl (fun u hu => load_any_op u (box_wide hu (List.Mem.head _)) rfl) ?_ hw13; intro K hK; go_big_quiet_op; go_big_quiet_on)
  (refine wpG_call (f := 28) (args := #[idv (idH h), .agg (wcs (tv h.bits))]) (v := .int .i64 (lvI (numB (idH h)) (tv h.bits))) rfl rfl rfl Tryd.func28 rfl rfl (fun u hu => HLV.out u) ?_ hw13; intro K hK; go_big_quiet_op; go_big_quiet_on)
  (refine wpG_op rfl rfl rfl ?_; intro K hK; go_big_quiet_op; go_big_quiet_on)
  clear hone hw13
  refine wpG_nil ?_
  refine anyH_done (by kernel_rfl) ?_
  intro u15 E2'
  have EX14 := Lib.hid E2'
  clear E2'
  have HBE := Lib.hid (EnvX.bel EX14.out)
  go_wp2
  go_ret
  exact ⟨rfl, HBE.out⟩
theorem hlevel_any (h : Hd) (w : World) (hh : okHd h) (ht : Tables w) :
    Calls Tryd.prog 19 #[hdV h] w fun e w' => e = .returned (.int .i64 (levelH h)) ∧ Below w.heap.size w w' := by
  cases hc : isC h.bits with
  | false => exact hlevel_a h w hh ht hc
  | true =>
    cases k : mayPut h with
    | false => exact hlevel_b h w hh ht hc k
    | true =>
      by_cases h0 : h.height = 0
      · exact hlevel_c h w hh ht hc k h0
      · exact hlevel_d h w hh ht hc k h0
set_option maxRecDepth 20000 in
set_option maxHeartbeats 8000000 in
theorem hmay_any (h : Hd) (w : World) (hh : okHd h) (ht : Tables w) :
    Calls Tryd.prog 23 #[hdV h] w fun e w' => e = .returned (.bool (mayH h)) ∧ Below w.heap.size w w' := by
  have HL := Lib.hid hh.len
  have E1 : Hid (EnvX w (w.alloc (.cells (hdA h) 29)) [(w.heap.size, Obj.cells (hdA h) 29 (0, 0))]) := (EnvX.start w).new _
  have HLV : Hid (∀ u, EnvX w u [] → Calls Tryd.prog 19 #[hdV h] u fun e w' => e = .returned (.int .i64 (levelH h)) ∧ Below u.heap.size u w') := fun u hE => hlevel_any h u hh (ht.below hE.bel)
  have HM : Hid (decide (0 ≤ levelH h) = mayH h) := rfl
  clear hh ht
  unfold hdV
  go_enter Tryd.func23, Tryd.ntmps23
  go_upto_region 1 with (fail)
  generalize w.alloc (.cells (hdA h) 29) = W at *
  refine wp_region_Hx (w0 := w) [0, 1, 2, 3] [(w.heap.size, Obj.cells (hdA h) 29 (0, 0))] rfl E1.out ?_
  refine lexH_phase [0, 1, 2, 3] [] ?_
  have hw1 : EnvX w _ [(w.heap.size, Obj.cells (hdA h) 29 (0, 0))] := E1.out
  have hone := @EnvC.one _ _ _ hw1
  (refine wpG_val (v := hdV h) rfl rfl (fun u hu => load_any_op u (box_hd hu (List.Mem.head _) HL.out) rfl) ?_ hw1; intro K hK; go_big_quiet_op; go_big_quiet_on)
  (refine wpG_call (f := 19) (args := #[hdV h]) (v := .int .i64 (levelH h)) rfl rfl rfl Tryd.func19 rfl rfl (fun u hu => HLV.out u (EnvX.sub hu (fun _ h => by cases h))) ?_ hw1; intro K hK; go_big_quiet_op; go_big_quiet_on)
  (refine wpG_val (v := .bool (mayH h)) rfl rfl (fun u hu => geq_op u HM.out rfl rfl) ?_ hw1; intro K hK; go_big_quiet_op; go_big_quiet_on)
  (refine wpG_op rfl rfl rfl ?_; intro K hK; go_big_quiet_op; go_big_quiet_on)
  clear hone hw1
  refine wpG_nil ?_
  intro u3 E2'
  have EX2 := Lib.hid E2'
  clear E2'
  have HBE := Lib.hid (EnvX.bel EX2.out)
  go_wp2
  go_ret
  exact ⟨rfl, HBE.out⟩
set_option maxRecDepth 20000 in
set_option maxHeartbeats 8000000 in
theorem hwork_no (h : Hd) (w : World) (hh : okHd h) (hc : isC h.bits = false) :
    Calls Tryd.prog 21 #[hdV h] w fun e w' => e = .returned (.agg (wcs (workH h))) ∧ Below w.heap.size w w' := by
  have hw : workH h = 0 := by unfold workH; rw [hc]; rfl
  rw [hw]
  have HL := Lib.hid hh.len
  have HLE : Hid (w.heap.size ≤ w.heap.size + 1) := by show _ ≤ _; omega
  have E1 : Hid (EnvX w ((w.alloc (.cells (hdA h) 29)).alloc (.cells (wcs 0) 26)) [(w.heap.size + 1, Obj.cells (wcs 0) 26 (0, 0)), (w.heap.size, Obj.cells (hdA h) 29 (0, 0))]) := (EnvX.start w).two _ _
  have HTG : Hid (∀ u, Calls Tryd.prog 25 #[.int .u32 (h.bits : Int)] u fun e w' => e = .returned (.tuple #[.agg (wcs (tv h.bits)), .bool (isC h.bits)]) ∧ Below u.heap.size u w') := fun u => target_any h.bits u hh.2.2.2.2.2.2.1
  rw [hc] at HTG
  have HWK : Hid (∀ u, Calls Tryd.prog 26 #[.agg (wcs (tv h.bits))] u fun e w' => e = .returned (.agg (wcs (wkV (tv h.bits)))) ∧ Below u.heap.size u w') := fun u => work_any (tv h.bits) u (tv_big h.bits)
  clear hh hc hw
  unfold hdV
  go_enter Tryd.func21, Tryd.ntmps21
  go_upto_region 1 with (fail)
  rw [zero_wcs]
  generalize (w.alloc (.cells (hdA h) 29)).alloc (.cells (wcs 0) 26) = W at *
  refine wp_region_Hx (w0 := w) [0, 1, 2, 3, 4, 5, 6, 7, 8] [(w.heap.size + 1, Obj.cells (wcs 0) 26 (0, 0)), (w.heap.size, Obj.cells (hdA h) 29 (0, 0))] rfl E1.out ?_
  refine lexH_phase [0, 1, 2, 3, 4, 5] [6, 7, 8] ?_
  have hw1 : EnvX w _ [(w.heap.size + 1, Obj.cells (wcs 0) 26 (0, 0)), (w.heap.size, Obj.cells (hdA h) 29 (0, 0))] := E1.out
  have hone := @EnvC.one _ _ _ hw1
  (refine wpG_op rfl rfl rfl ?_; intro K hK; go_big_quiet_op; go_big_quiet_on)
  (refine wpG_val (v := .int .u32 (h.bits : Int)) rfl rfl (fun u hu => load_any_op u (box_hd_bits hu (List.Mem.tail _ (List.Mem.head _)) HL.out) rfl) ?_ hw1; intro K hK; go_big_quiet_op; go_big_quiet_on)
  (refine wpG_call (f := 25) (args := #[.int .u32 (h.bits : Int)]) (v := .tuple #[.agg (wcs (tv h.bits)), .bool false]) rfl rfl rfl Tryd.func25 rfl rfl (fun u hu => HTG.out u) ?_ hw1; intro K hK; go_big_quiet_op; go_big_quiet_on)
  (refine wpG_op rfl rfl rfl ?_; intro K hK; go_big_quiet_op; go_big_quiet_on)
  (refine wpG_op rfl rfl rfl ?_; intro K hK; go_big_quiet_op; go_big_quiet_on)
  (refine wpG_op rfl rfl rfl ?_; intro K hK; go_big_quiet_op; go_big_quiet_on)
  clear hone hw1
  refine wpG_nil ?_
  refine (hOp_fresh (R := fun x N => ∃ g, x = .pointer (some ⟨g, 0, none⟩) ∧ N = [(g, Obj.cells (wcs 0) 26 (0, 0))]) (M0 := [(w.heap.size + 1, Obj.cells (wcs 0) 26 (0, 0)), (w.heap.size, Obj.cells (hdA h) 29 (0, 0))]) rfl rfl (fun _ h => h) (fun u hu => FAt_new (new_wd _) u) ?_)
  rintro _ _ ⟨gt, rfl, rfl⟩ hf he2; intro K' hK'; go_big_quiet_op; go_big_quiet_on
  have HGT := Lib.hid (hf _ (List.mem_singleton.2 rfl))
  clear hf
  change lexH _ _ _ _ _ _ [(gt, Obj.cells (wcs 0) 26 (0, 0)), (w.heap.size + 1, Obj.cells (wcs 0) 26 (0, 0)), (w.heap.size, Obj.cells (hdA h) 29 (0, 0))]
  refine (hOp_store rfl (gt) (wcs (tv h.bits)) rfl rfl HGT.out.1 26 ((wcs 0)) (List.Mem.head _) (wc_info _) ((wc_size _).trans (wc_size _).symm) (wc_one _) [(gt, Obj.cells (wcs (tv h.bits)) 26 (0, 0)), (w.heap.size + 1, Obj.cells (wcs 0) 26 (0, 0)), (w.heap.size, Obj.cells (hdA h) 29 (0, 0))] (List.forall_mem_cons.2 ⟨.inl rfl, fun y hy => .inr ⟨List.mem_cons_of_mem _ hy, HGT.out.2 y hy⟩⟩) ?_)
  intro he3
  refine lexH_phase [8] [] ?_
  have hw4 : EnvX w _ [(gt, Obj.cells (wcs (tv h.bits)) 26 (0, 0)), (w.heap.size + 1, Obj.cells (wcs 0) 26 (0, 0)), (w.heap.size, Obj.cells (hdA h) 29 (0, 0))] := he3.choose_spec
  have hone := @EnvC.one _ _ _ hw4
  (refine wpG_op rfl rfl rfl ?_; intro K hK; go_big_quiet_op; go_big_quiet_on)
  clear hone hw4
  refine wpG_nil ?_
  intro u6 E2'
  have EX5 := Lib.hid E2'
  clear E2'
  go_upto_region 2 with (fail)
  refine wp_region_Hx (w0 := w) [0, 1] [(gt, Obj.cells (wcs (tv h.bits)) 26 (0, 0)), (w.heap.size + 1, Obj.cells (wcs 0) 26 (0, 0)), (w.heap.size, Obj.cells (hdA h) 29 (0, 0))] rfl EX5.out ?_
  refine lexH_phase [0, 1] [] ?_
  have hw7 : EnvX w _ [(gt, Obj.cells (wcs (tv h.bits)) 26 (0, 0)), (w.heap.size + 1, Obj.cells (wcs 0) 26 (0, 0)), (w.heap.size, Obj.cells (hdA h) 29 (0, 0))] := EX5.out
  have hone := @EnvC.one _ _ _ hw7
  (refine wpG_op rfl rfl rfl ?_; intro K hK; go_big_quiet_op; go_big_quiet_on)
  (refine wpG_op rfl rfl rfl ?_; intro K hK; go_big_quiet_op; go_big_quiet_on)
  clear hone hw7
  refine wpG_nil ?_
  intro u9 E2'
  have EX8 := Lib.hid E2'
  clear E2'
  go_upto_region 3 with (fail)
  refine wp_region_Hx (w0 := w) [0, 1] [(gt, Obj.cells (wcs (tv h.bits)) 26 (0, 0)), (w.heap.size + 1, Obj.cells (wcs 0) 26 (0, 0)), (w.heap.size, Obj.cells (hdA h) 29 (0, 0))] rfl EX8.out ?_
  refine lexH_phase [0] [1] ?_
  have hw10 : EnvX w _ [(gt, Obj.cells (wcs (tv h.bits)) 26 (0, 0)), (w.heap.size + 1, Obj.cells (wcs 0) 26 (0, 0)), (w.heap.size, Obj.cells (hdA h) 29 (0, 0))] := EX8.out
  have hone := @EnvC.one _ _ _ hw10
  (refine wpG_val (v := .agg (wcs 0)) rfl rfl (fun u hu => buildA_op u hbuilt_w0) ?_ hw10; intro K hK; go_big_quiet_op; go_big_quiet_on)
  clear hone hw10
  refine wpG_nil ?_
  refine (hOp_store rfl (w.heap.size + 1) (wcs 0) rfl rfl HLE.out 26 ((wcs 0)) (List.Mem.tail _ (List.Mem.head _)) (wc_info _) ((wc_size _).trans (wc_size _).symm) (wc_one _) [(w.heap.size + 1, Obj.cells (wcs 0) 26 (0, 0))] (List.forall_mem_cons.2 ⟨.inl rfl, (fun _ h => by cases h)⟩) ?_)
  intro he11
  intro u13 E2'
  have EX12 := Lib.hid E2'
  clear E2'
  have Q0 := Lib.hid (EnvX.box EX12.out _ _ (List.Mem.head _))
  have HBEL := Lib.hid EX12.out.bel
  clear EX12
  go_wp2_with ((with_reducible refine bodyPost_ret (v := .agg (wcs 0)) ?_ ?_ ?_); (exact results_cell_row (p := 2) (ty := 26) Tryd.results21 _ _ (w.heap.size + 1) 26 (wcs 0) (0, 0) _ rfl Q0.out Tryd.underlying26 rfl (wc_info _)); (rfl))
  first | exact HBEL.out | exact ⟨rfl, HBEL.out⟩
set_option maxRecDepth 20000 in
set_option maxHeartbeats 8000000 in
theorem hwork_yes (h : Hd) (w : World) (hh : okHd h) (hc : isC h.bits = true) :
    Calls Tryd.prog 21 #[hdV h] w fun e w' => e = .returned (.agg (wcs (workH h))) ∧ Below w.heap.size w w' := by
  have hw : workH h = wkV (tv h.bits) := by unfold workH; rw [hc]; rfl
  rw [hw]
  have HL := Lib.hid hh.len
  have HLE : Hid (w.heap.size ≤ w.heap.size + 1) := by show _ ≤ _; omega
  have E1 : Hid (EnvX w ((w.alloc (.cells (hdA h) 29)).alloc (.cells (wcs 0) 26)) [(w.heap.size + 1, Obj.cells (wcs 0) 26 (0, 0)), (w.heap.size, Obj.cells (hdA h) 29 (0, 0))]) := (EnvX.start w).two _ _
  have HTG : Hid (∀ u, Calls Tryd.prog 25 #[.int .u32 (h.bits : Int)] u fun e w' => e = .returned (.tuple #[.agg (wcs (tv h.bits)), .bool (isC h.bits)]) ∧ Below u.heap.size u w') := fun u => target_any h.bits u hh.2.2.2.2.2.2.1
  rw [hc] at HTG
  have HWK : Hid (∀ u, Calls Tryd.prog 26 #[.agg (wcs (tv h.bits))] u fun e w' => e = .returned (.agg (wcs (wkV (tv h.bits)))) ∧ Below u.heap.size u w') := fun u => work_any (tv h.bits) u (tv_big h.bits)
  clear hh hc hw
  unfold hdV
  go_enter Tryd.func21, Tryd.ntmps21
  go_upto_region 1 with (fail)
  rw [zero_wcs]
  generalize (w.alloc (.cells (hdA h) 29)).alloc (.cells (wcs 0) 26) = W at *
  refine wp_region_Hx (w0 := w) [0, 1, 2, 3, 4, 5, 6, 7, 8] [(w.heap.size + 1, Obj.cells (wcs 0) 26 (0, 0)), (w.heap.size, Obj.cells (hdA h) 29 (0, 0))] rfl E1.out ?_
  refine lexH_phase [0, 1, 2, 3, 4, 5] [6, 7, 8] ?_
  have hw1 : EnvX w _ [(w.heap.size + 1, Obj.cells (wcs 0) 26 (0, 0)), (w.heap.size, Obj.cells (hdA h) 29 (0, 0))] := E1.out
  have hone := @EnvC.one _ _ _ hw1
  (refine wpG_op rfl rfl rfl ?_; intro K hK; go_big_quiet_op; go_big_quiet_on)
  (refine wpG_val (v := .int .u32 (h.bits : Int)) rfl rfl (fun u hu => load_any_op u (box_hd_bits hu (List.Mem.tail _ (List.Mem.head _)) HL.out) rfl) ?_ hw1; intro K hK; go_big_quiet_op; go_big_quiet_on)
  (refine wpG_call (f := 25) (args := #[.int .u32 (h.bits : Int)]) (v := .tuple #[.agg (wcs (tv h.bits)), .bool true]) rfl rfl rfl Tryd.func25 rfl rfl (fun u hu => HTG.out u) ?_ hw1; intro K hK; go_big_quiet_op; go_big_quiet_on)
  (refine wpG_op rfl rfl rfl ?_; intro K hK; go_big_quiet_op; go_big_quiet_on)
  (refine wpG_op rfl rfl rfl ?_; intro K hK; go_big_quiet_op; go_big_quiet_on)
  (refine wpG_op rfl rfl rfl ?_; intro K hK; go_big_quiet_op; go_big_quiet_on)
  clear hone hw1
  refine wpG_nil ?_
  refine (hOp_fresh (R := fun x N => ∃ g, x = .pointer (some ⟨g, 0, none⟩) ∧ N = [(g, Obj.cells (wcs 0) 26 (0, 0))]) (M0 := [(w.heap.size + 1, Obj.cells (wcs 0) 26 (0, 0)), (w.heap.size, Obj.cells (hdA h) 29 (0, 0))]) rfl rfl (fun _ h => h) (fun u hu => FAt_new (new_wd _) u) ?_)
  rintro _ _ ⟨gt, rfl, rfl⟩ hf he2; intro K' hK'; go_big_quiet_op; go_big_quiet_on
  have HGT := Lib.hid (hf _ (List.mem_singleton.2 rfl))
  clear hf
  change lexH _ _ _ _ _ _ [(gt, Obj.cells (wcs 0) 26 (0, 0)), (w.heap.size + 1, Obj.cells (wcs 0) 26 (0, 0)), (w.heap.size, Obj.cells (hdA h) 29 (0, 0))]
  refine (hOp_store rfl (gt) (wcs (tv h.bits)) rfl rfl HGT.out.1 26 ((wcs 0)) (List.Mem.head _) (wc_info _) ((wc_size _).trans (wc_size _).symm) (wc_one _) [(gt, Obj.cells (wcs (tv h.bits)) 26 (0, 0)), (w.heap.size + 1, Obj.cells (wcs 0) 26 (0, 0)), (w.heap.size, Obj.cells (hdA h) 29 (0, 0))] (List.forall_mem_cons.2 ⟨.inl rfl, fun y hy => .inr ⟨List.mem_cons_of_mem _ hy, HGT.out.2 y hy⟩⟩) ?_)
  intro he3
  refine lexH_phase [8] [] ?_
  have hw4 : EnvX w _ [(gt, Obj.cells (wcs (tv h.bits)) 26 (0, 0)), (w.heap.size + 1, Obj.cells (wcs 0) 26 (0, 0)), (w.heap.size, Obj.cells (hdA h) 29 (0, 0))] := he3.choose_spec
  have hone := @EnvC.one _ _ _ hw4
  (refine wpG_op rfl rfl rfl ?_; intro K hK; go_big_quiet_op; go_big_quiet_on)
  clear hone hw4
  refine wpG_nil ?_
  intro u6 E2'
  have EX5 := Lib.hid E2'
  clear E2'
  go_upto_region 2 with (fail)
  refine wp_region_Hx (w0 := w) [0, 1] [(gt, Obj.cells (wcs (tv h.bits)) 26 (0, 0)), (w.heap.size + 1, Obj.cells (wcs 0) 26 (0, 0)), (w.heap.size, Obj.cells (hdA h) 29 (0, 0))] rfl EX5.out ?_
  refine lexH_phase [0, 1] [] ?_
  have hw7 : EnvX w _ [(gt, Obj.cells (wcs (tv h.bits)) 26 (0, 0)), (w.heap.size + 1, Obj.cells (wcs 0) 26 (0, 0)), (w.heap.size, Obj.cells (hdA h) 29 (0, 0))] := EX5.out
  have hone := @EnvC.one _ _ _ hw7
  (refine wpG_op rfl rfl rfl ?_; intro K hK; go_big_quiet_op; go_big_quiet_on)
  (refine wpG_op rfl rfl rfl ?_; intro K hK; go_big_quiet_op; go_big_quiet_on)
  clear hone hw7
  refine wpG_nil ?_
  intro u9 E2'
  have EX8 := Lib.hid E2'
  clear E2'
  go_upto_region 4 with (fail)
  refine wp_region_Hx (w0 := w) [0, 1, 2] [(gt, Obj.cells (wcs (tv h.bits)) 26 (0, 0)), (w.heap.size + 1, Obj.cells (wcs 0) 26 (0, 0)), (w.heap.size, Obj.cells (hdA h) 29 (0, 0))] rfl EX8.out ?_
  refine lexH_phase [0, 1] [2] ?_
  have hw10 : EnvX w _ [(gt, Obj.cells (wcs (tv h.bits)) 26 (0, 0)), (w.heap.size + 1, Obj.cells (wcs 0) 26 (0, 0)), (w.heap.size, Obj.cells (hdA h) 29 (0, 0))] := EX8.out
  have hone := @EnvC.one _ _ _ hw10
  (refine wpG_val (v := .agg (wcs (tv h.bits))) rfl rfl (fun u hu => load_any_op u (box_wide hu (List.Mem.head _)) rfl) ?_ hw10; intro K hK; go_big_quiet_op; go_big_quiet_on)
  (refine wpG_call (f := 26) (args := #[.agg (wcs (tv h.bits))]) (v := .agg (wcs (wkV (tv h.bits)))) rfl rfl rfl Tryd.func26 rfl rfl (fun u hu => HWK.out u) ?_ hw10; intro K hK; go_big_quiet_op; go_big_quiet_on)
  clear hone hw10
  refine wpG_nil ?_
  refine (hOp_store rfl (w.heap.size + 1) (wcs (wkV (tv h.bits))) rfl rfl HLE.out 26 ((wcs 0)) (List.Mem.tail _ (List.Mem.head _)) (wc_info _) ((wc_size _).trans (wc_size _).symm) (wc_one _) [(w.heap.size + 1, Obj.cells (wcs (wkV (tv h.bits))) 26 (0, 0))] (List.forall_mem_cons.2 ⟨.inl rfl, (fun _ h => by cases h)⟩) ?_)
  intro he11
  intro u13 E2'
  have EX12 := Lib.hid E2'
  clear E2'
  have Q0 := Lib.hid (EnvX.box EX12.out _ _ (List.Mem.head _))
  have HBEL := Lib.hid EX12.out.bel
  clear EX12
  go_wp2_with ((with_reducible refine bodyPost_ret (v := .agg (wcs (wkV (tv h.bits)))) ?_ ?_ ?_); (exact results_cell_row (p := 2) (ty := 26) Tryd.results21 _ _ (w.heap.size + 1) 26 (wcs (wkV (tv h.bits))) (0, 0) _ rfl Q0.out Tryd.underlying26 rfl (wc_info _)); (rfl))
  first | exact HBEL.out | exact ⟨rfl, HBEL.out⟩
theorem hwork_any (h : Hd) (w : World) (hh : okHd h) :
    Calls Tryd.prog 21 #[hdV h] w fun e w' => e = .returned (.agg (wcs (workH h))) ∧ Below w.heap.size w w' := by
  cases hc : isC h.bits with
  | false => exact hwork_no h w hh hc
  | true => exact hwork_yes h w hh hc
end Go.Proofs.YtmpjgfecnnefeaaDoor

namespace Go.Proofs.YtmpjgfecnnefeaaDoor
set_option maxRecDepth 8000
open Go.RowKit

set_option maxRecDepth 20000 in
set_option maxHeartbeats 8000000 in
theorem hread_size (A : Option Addr) (n c : Nat) (xs : List Int) (w : World) (hl : xs.length = n) (hc : n ≤ c) (hn : c ≤ maxLen) (hB : isB xs) (hx : Bytes w w.heap.size A xs) (k : n ≠ 176) :
    Calls Tryd.prog 12 #[.slice A n c] w fun e w' => e = .returned (.tuple #[hdV (readH xs).1, .bool (readH xs).2]) ∧ Below w.heap.size w w' := by
  have hp : readH xs = (noHd, false) := by unfold readH mayRead; rw [if_neg (by rw [decide_eq_true_eq]; omega)]
  rw [hp]
  have C1 : Hid (decide ((n : Int) ≠ 176) = true) := decide_eq_true (by omega)
  clear k hp
  have HX := Lib.hid (And.intro hx hB)
  have HL := Lib.hid (And.intro hl (And.intro hc hn))
  have HN9 : Hid (n < 9223372036854775808) := by unfold maxLen at hn; show n < _; omega
  have HLE : Hid (w.heap.size ≤ w.heap.size) := Nat.le_refl _
  have HZN : Hid (lenH noHd) := ⟨rfl, rfl, rfl, rfl⟩
  have E1 : Hid (EnvX w (w.alloc (.cells (hdA noHd) 29)) [(w.heap.size, Obj.cells (hdA noHd) 29 (0, 0))]) := (EnvX.start w).new _
  clear hl hc hB hx
  unfold maxLen at hn
  unfold hdV
  go_enter Tryd.func12, Tryd.ntmps12
  go_upto_region 1 with (fail)
  rw [← zero_hdA]
  generalize w.alloc (.cells (hdA noHd) 29) = W at *
  refine wp_region_Hx (w0 := w) [0, 1, 2] [(w.heap.size, Obj.cells (hdA noHd) 29 (0, 0))] rfl E1.out ?_
  refine lexH_phase [0, 1, 2] [] ?_
  have hw1 : EnvX w _ [(w.heap.size, Obj.cells (hdA noHd) 29 (0, 0))] := E1.out
  have hone := @EnvC.one _ _ _ hw1
  (refine wpG_op rfl rfl rfl ?_; intro K hK; go_big_quiet_op; go_big_quiet_on)
  (refine wpG_val (v := .int .i64 (n : Int)) rfl rfl (fun u hu => len_op Tryd.underlying30 HN9.out u rfl) ?_ hw1; intro K hK; go_big_quiet_op; go_big_quiet_on)
  (refine wpG_val (v := .bool true) rfl rfl (fun u hu => neZ_op u C1.out rfl rfl) ?_ hw1; intro K hK; go_big_quiet_op; go_big_quiet_on)
  clear hone hw1
  refine wpG_nil ?_
  intro u3 E2'
  have EX2 := Lib.hid E2'
  clear E2'
  go_upto_region 2 with (fail)
  refine wp_region_Hx (w0 := w) [0, 1, 2] [(w.heap.size, Obj.cells (hdA noHd) 29 (0, 0))] rfl EX2.out ?_
  refine lexH_phase [0] [1, 2] ?_
  have hw4 : EnvX w _ [(w.heap.size, Obj.cells (hdA noHd) 29 (0, 0))] := EX2.out
  have hone := @EnvC.one _ _ _ hw4
  (refine wpG_val (v := .agg (hdA noHd)) rfl rfl (fun u hu => buildA_op u built_no) ?_ hw4; intro K hK; go_big_quiet_op; go_big_quiet_on)
  clear hone hw4
  refine wpG_nil ?_
  refine (hOp_store rfl (w.heap.size) (hdA noHd) rfl rfl HLE.out 29 ((hdA noHd)) (List.Mem.head _) (infoHd _ (hdA_size HZN.out)) ((hdA_size HZN.out).trans (hdA_size HZN.out).symm) (hdA_one _) [(w.heap.size, Obj.cells (hdA noHd) 29 (0, 0))] (List.forall_mem_cons.2 ⟨.inl rfl, (fun _ h => by cases h)⟩) ?_)
  intro he5
  refine lexH_phase [2] [] ?_
  have hw6 : EnvX w _ [(w.heap.size, Obj.cells (hdA noHd) 29 (0, 0))] := he5.choose_spec
  have hone := @EnvC.one _ _ _ hw6
  (refine wpG_op rfl rfl rfl ?_; intro K hK; go_big_quiet_op; go_big_quiet_on)
  clear hone hw6
  refine wpG_nil ?_
  intro u8 E2'
  have EX7 := Lib.hid E2'
  clear E2'
  have Q0 := Lib.hid (EnvX.box EX7.out _ _ (List.Mem.head _))
  have HBEL := Lib.hid EX7.out.bel
  clear EX7
  go_wp2_with ((with_reducible refine bodyPost_ret (v := .tuple #[.agg (hdA noHd), .bool false]) ?_ ?_ ?_); (exact results_row_slot (p := 2) (q := 3) (ty := 29) Tryd.results12 _ _ w.heap.size 29 (hdA noHd) (0, 0) _ rfl _ rfl Q0.out Tryd.underlying29 rfl (infoHd _ (hdA_size HZN.out))); (rfl))
  exact HBEL.out
set_option maxRecDepth 20000 in
set_option maxHeartbeats 8000000 in
theorem hread_over (A : Option Addr) (n c : Nat) (xs : List Int) (w : World) (hl : xs.length = n) (hc : n ≤ c) (hn : c ≤ maxLen) (hB : isB xs) (hx : Bytes w w.heap.size A xs) (k : n = 176) (k2 : 1048576 < getL (cutP xs 0 4)) :
    Calls Tryd.prog 12 #[.slice A n c] w fun e w' => e = .returned (.tuple #[hdV (readH xs).1, .bool (readH xs).2]) ∧ Below w.heap.size w w' := by
  have HS4 : Hid (getL (cutP xs 0 4) < 9223372036854775808) := by
    have := getL_lt (cutP xs 0 4) (cutP_byte hB 0 4)
    rw [cutP_len (by omega)] at this
    show _ < _
    omega
  have HMH : Hid (∀ u, Calls Tryd.prog 29 #[.int .i64 ((getL (cutP xs 0 4) : Nat) : Int)] u fun e w' => e = .returned (.bool false) ∧ Below u.heap.size u w') := fun u => by
    have h := mayh_any ((getL (cutP xs 0 4) : Nat) : Int) u
    rwa [decide_eq_false (by omega)] at h
  have hp : readH xs = (noHd, false) := by unfold readH mayRead; rw [if_neg (by rw [decide_eq_true_eq]; omega)]
  rw [hp]
  have HGT : Hid (∀ (i s : Nat), s ≤ 8 → i + s ≤ n → ∀ u, EnvX w u [] → Calls Tryd.prog 35 #[.slice A n c, .int .i64 i, .int .i64 s] u fun e w' => e = .returned (.tuple #[.int .u64 (getL (cutP xs i s)), .bool true]) ∧ u = w') := fun i s h8 h u hu => get_some A n c i s xs u hl hc hn hB (hx.up (EnvX.bel hu)) h8 h
  have C1 : Hid (decide ((n : Int) ≠ 176) = false) := decide_eq_false (by omega)
  have HN := Lib.hid k
  clear k k2 hp
  have HX := Lib.hid (And.intro hx hB)
  have HL := Lib.hid (And.intro hl (And.intro hc hn))
  have HN9 : Hid (n < 9223372036854775808) := by unfold maxLen at hn; show n < _; omega
  have HLE : Hid (w.heap.size ≤ w.heap.size) := Nat.le_refl _
  have HZN : Hid (lenH noHd) := ⟨rfl, rfl, rfl, rfl⟩
  have E1 : Hid (EnvX w (w.alloc (.cells (hdA noHd) 29)) [(w.heap.size, Obj.cells (hdA noHd) 29 (0, 0))]) := (EnvX.start w).new _
  clear hl hc hB hx
  unfold maxLen at hn
  unfold hdV
  go_enter Tryd.func12, Tryd.ntmps12
  go_upto_region 1 with (fail)
  rw [← zero_hdA]
  generalize w.alloc (.cells (hdA noHd) 29) = W at *
  refine wp_region_Hx (w0 := w) [0, 1, 2] [(w.heap.size, Obj.cells (hdA noHd) 29 (0, 0))] rfl E1.out ?_
  refine lexH_phase [0, 1, 2] [] ?_
  have hw1 : EnvX w _ [(w.heap.size, Obj.cells (hdA noHd) 29 (0, 0))] := E1.out
  have hone := @EnvC.one _ _ _ hw1
  (refine wpG_op rfl rfl rfl ?_; intro K hK; go_big_quiet_op; go_big_quiet_on)
  (refine wpG_val (v := .int .i64 (n : Int)) rfl rfl (fun u hu => len_op Tryd.underlying30 HN9.out u rfl) ?_ hw1; intro K hK; go_big_quiet_op; go_big_quiet_on)
  (refine wpG_val (v := .bool false) rfl rfl (fun u hu => neZ_op u C1.out rfl rfl) ?_ hw1; intro K hK; go_big_quiet_op; go_big_quiet_on)
  clear hone hw1
  refine wpG_nil ?_
  intro u3 E2'
  have EX2 := Lib.hid E2'
  clear E2'
  go_upto_region 3 with (fail)
  go_wp2_with fail
  refine (HGT.out 0 4 (by omega) (by have := HN.out; omega) _ (EnvX.sub EX2.out (fun _ h => by cases h))).mono ?_
  rintro e w9 ⟨rfl, rfl⟩
  go_upto_region 4 with (fail)
  go_wp2_with fail
  refine (HGT.out 164 4 (by omega) (by have := HN.out; omega) _ (EnvX.sub EX2.out (fun _ h => by cases h))).mono ?_
  rintro e w9 ⟨rfl, rfl⟩
  go_upto_region 5 with (fail)
  go_wp2_with fail
  refine (HGT.out 168 8 (by omega) (by have := HN.out; omega) _ (EnvX.sub EX2.out (fun _ h => by cases h))).mono ?_
  rintro e w9 ⟨rfl, rfl⟩
  go_upto_region 6 with (fail)
  refine wp_region_Hx (w0 := w) [0, 1, 2, 3] [(w.heap.size, Obj.cells (hdA noHd) 29 (0, 0))] rfl EX2.out ?_
  refine lexH_phase [0, 1, 2, 3] [] ?_
  have hw4 : EnvX w _ [(w.heap.size, Obj.cells (hdA noHd) 29 (0, 0))] := EX2.out
  have hone := @EnvC.one _ _ _ hw4
  (refine wpG_op rfl rfl rfl ?_; intro K hK; go_big_quiet_op; go_big_quiet_on)
  (refine wpG_val (v := .int .i64 ((getL (cutP xs 0 4) : Nat) : Int)) rfl rfl (fun u hu => conv_int_op u HS4.out rfl) ?_ hw4; intro K hK; go_big_quiet_op; go_big_quiet_on)
  (refine wpG_call (f := 29) (args := #[.int .i64 ((getL (cutP xs 0 4) : Nat) : Int)]) (v := .bool false) rfl rfl rfl Tryd.func29 rfl rfl (fun u hu => HMH.out u) ?_ hw4; intro K hK; go_big_quiet_op; go_big_quiet_on)
  (refine wpG_op rfl rfl rfl ?_; intro K hK; go_big_quiet_op; go_big_quiet_on)
  clear hone hw4
  refine wpG_nil ?_
  intro u6 E2'
  have EX5 := Lib.hid E2'
  clear E2'
  go_upto_region 7 with (fail)
  refine wp_region_Hx (w0 := w) [0, 1, 2] [(w.heap.size, Obj.cells (hdA noHd) 29 (0, 0))] rfl EX5.out ?_
  refine lexH_phase [0] [1, 2] ?_
  have hw7 : EnvX w _ [(w.heap.size, Obj.cells (hdA noHd) 29 (0, 0))] := EX5.out
  have hone := @EnvC.one _ _ _ hw7
  (refine wpG_val (v := .agg (hdA noHd)) rfl rfl (fun u hu => buildA_op u built_no) ?_ hw7; intro K hK; go_big_quiet_op; go_big_quiet_on)
  clear hone hw7
  refine wpG_nil ?_
  refine (hOp_store rfl (w.heap.size) (hdA noHd) rfl rfl HLE.out 29 ((hdA noHd)) (List.Mem.head _) (infoHd _ (hdA_size HZN.out)) ((hdA_size HZN.out).trans (hdA_size HZN.out).symm) (hdA_one _) [(w.heap.size, Obj.cells (hdA noHd) 29 (0, 0))] (List.forall_mem_cons.2 ⟨.inl rfl, (fun _ h => by cases h)⟩) ?_)
  intro he8
  refine lexH_phase [2] [] ?_
  have hw9 : EnvX w _ [(w.heap.size, Obj.cells (hdA noHd) 29 (0, 0))] := he8.choose_spec
  have hone := @EnvC.one _ _ _ hw9
  (refine wpG_op rfl rfl rfl ?_; intro K hK; go_big_quiet_op; go_big_quiet_on)
  clear hone hw9
  refine wpG_nil ?_
  intro u11 E2'
  have EX10 := Lib.hid E2'
  clear E2'
  have Q0 := Lib.hid (EnvX.box EX10.out _ _ (List.Mem.head _))
  have HBEL := Lib.hid EX10.out.bel
  clear EX10
  go_wp2_with ((with_reducible refine bodyPost_ret (v := .tuple #[.agg (hdA noHd), .bool false]) ?_ ?_ ?_); (exact results_row_slot (p := 2) (q := 3) (ty := 29) Tryd.results12 _ _ w.heap.size 29 (hdA noHd) (0, 0) _ rfl _ rfl Q0.out Tryd.underlying29 rfl (infoHd _ (hdA_size HZN.out))); (rfl))
  exact HBEL.out
set_option maxRecDepth 20000 in
set_option maxHeartbeats 8000000 in
theorem hread_main (A : Option Addr) (n c : Nat) (xs : List Int) (w : World) (hl : xs.length = n) (hc : n ≤ c) (hn : c ≤ maxLen) (hB : isB xs) (hx : Bytes w w.heap.size A xs) (k : n = 176) (k2 : getL (cutP xs 0 4) ≤ 1048576) :
    Calls Tryd.prog 12 #[.slice A n c] w fun e w' => e = .returned (.tuple #[hdV (readH xs).1, .bool (readH xs).2]) ∧ Below w.heap.size w w' := by
  have HS4 : Hid (getL (cutP xs 0 4) < 9223372036854775808) := by
    have := getL_lt (cutP xs 0 4) (cutP_byte hB 0 4)
    rw [cutP_len (by omega)] at this
    show _ < _
    omega
  have HMH : Hid (∀ u, Calls Tryd.prog 29 #[.int .i64 ((getL (cutP xs 0 4) : Nat) : Int)] u fun e w' => e = .returned (.bool true) ∧ Below u.heap.size u w') := fun u => by
    have h := mayh_any ((getL (cutP xs 0 4) : Nat) : Int) u
    rwa [decide_eq_true (by omega)] at h
  have hm : mayRead xs = true := by unfold mayRead; rw [decide_eq_true_eq]; omega
  have hp : readH xs = (headOf xs, true) := by unfold readH; rw [if_pos hm]
  rw [hp]
  have hok := (read_ok hB hm).1
  have HOK := Lib.hid hok.len
  have HBT := Lib.hid (And.intro k2 (And.intro hok.2.2.2.2.2.2.1 hok.2.2.2.2.2.2.2))
  have HID : Hid (∀ (i l : Nat), i ≤ 4 → 4 + i * 32 = l → ∀ u, EnvX w u [] → Calls Tryd.prog 36 #[.slice A n c, .int .i64 i] u fun e w' => e = .returned (idv (cutP xs l 32)) ∧ Below u.heap.size u w') := fun i l hi hil u hu => hidat_any A n c i l xs u hl hc hn (hx.up (EnvX.bel hu)) hi hil (by omega)
  have HOF : Hid (∀ u, Calls Tryd.prog 37 #[idv (cutP xs 132 32)] u fun e w' => e = .returned (.agg (wcs (numB (cutP xs 132 32)))) ∧ Below u.heap.size u w') := fun u => by
    have hb := cutP_byte hB 132 32
    unfold idv
    rw [arr_idF (cutP_len (by omega)) hb]
    exact of32_any (fun i => ((cutP xs 132 32).getD i 0).toNat) (byte_toNat hb) u
  have HGT : Hid (∀ (i s : Nat), s ≤ 8 → i + s ≤ n → ∀ u, EnvX w u [] → Calls Tryd.prog 35 #[.slice A n c, .int .i64 i, .int .i64 s] u fun e w' => e = .returned (.tuple #[.int .u64 (getL (cutP xs i s)), .bool true]) ∧ u = w') := fun i s h8 h u hu => get_some A n c i s xs u hl hc hn hB (hx.up (EnvX.bel hu)) h8 h
  have C1 : Hid (decide ((n : Int) ≠ 176) = false) := decide_eq_false (by omega)
  have HN := Lib.hid k
  clear k k2 hp hm hok
  have HX := Lib.hid (And.intro hx hB)
  have HL := Lib.hid (And.intro hl (And.intro hc hn))
  have HN9 : Hid (n < 9223372036854775808) := by unfold maxLen at hn; show n < _; omega
  have HLE : Hid (w.heap.size ≤ w.heap.size) := Nat.le_refl _
  have HZN : Hid (lenH noHd) := ⟨rfl, rfl, rfl, rfl⟩
  have E1 : Hid (EnvX w (w.alloc (.cells (hdA noHd) 29)) [(w.heap.size, Obj.cells (hdA noHd) 29 (0, 0))]) := (EnvX.start w).new _
  clear hl hc hB hx
  unfold maxLen at hn
  unfold hdV
  go_enter Tryd.func12, Tryd.ntmps12
  go_upto_region 1 with (fail)
  rw [← zero_hdA]
  generalize w.alloc (.cells (hdA noHd) 29) = W at *
  refine wp_region_Hx (w0 := w) [0, 1, 2] [(w.heap.size, Obj.cells (hdA noHd) 29 (0, 0))] rfl E1.out ?_
  refine lexH_phase [0, 1, 2] [] ?_
  have hw1 : EnvX w _ [(w.heap.size, Obj.cells (hdA noHd) 29 (0, 0))] := E1.out
  have hone := @EnvC.one _ _ _ hw1
  (refine wpG_op rfl rfl rfl ?_; intro K hK; go_big_quiet_op; go_big_quiet_on)
  (refine wpG_val (v := .int .i64 (n : Int)) rfl rfl (fun u hu => len_op Tryd.underlying30 HN9.out u rfl) ?_ hw1; intro K hK; go_big_quiet_op; go_big_quiet_on)
  (refine wpG_val (v := .bool false) rfl rfl (fun u hu => neZ_op u C1.out rfl rfl) ?_ hw1; intro K hK; go_big_quiet_op; go_big_quiet_on)
  clear hone hw1
  refine wpG_nil ?_
  intro u3 E2'
  have EX2 := Lib.hid E2'
  clear E2'
  go_upto_region 3 with (fail)
  go_wp2_with fail
  refine (HGT.out 0 4 (by omega) (by have := HN.out; omega) _ (EnvX.sub EX2.out (fun _ h => by cases h))).mono ?_
  rintro e w9 ⟨rfl, rfl⟩
  go_upto_region 4 with (fail)
  go_wp2_with fail
  refine (HGT.out 164 4 (by omega) (by have := HN.out; omega) _ (EnvX.sub EX2.out (fun _ h => by cases h))).mono ?_
  rintro e w9 ⟨rfl, rfl⟩
  go_upto_region 5 with (fail)
  go_wp2_with fail
  refine (HGT.out 168 8 (by omega) (by have := HN.out; omega) _ (EnvX.sub EX2.out (fun _ h => by cases h))).mono ?_
  rintro e w9 ⟨rfl, rfl⟩
  go_upto_region 6 with (fail)
  refine wp_region_Hx (w0 := w) [0, 1, 2, 3] [(w.heap.size, Obj.cells (hdA noHd) 29 (0, 0))] rfl EX2.out ?_
  refine lexH_phase [0, 1, 2, 3] [] ?_
  have hw4 : EnvX w _ [(w.heap.size, Obj.cells (hdA noHd) 29 (0, 0))] := EX2.out
  have hone := @EnvC.one _ _ _ hw4
  (refine wpG_op rfl rfl rfl ?_; intro K hK; go_big_quiet_op; go_big_quiet_on)
  (refine wpG_val (v := .int .i64 ((getL (cutP xs 0 4) : Nat) : Int)) rfl rfl (fun u hu => conv_int_op u HS4.out rfl) ?_ hw4; intro K hK; go_big_quiet_op; go_big_quiet_on)
  (refine wpG_call (f := 29) (args := #[.int .i64 ((getL (cutP xs 0 4) : Nat) : Int)]) (v := .bool true) rfl rfl rfl Tryd.func29 rfl rfl (fun u hu => HMH.out u) ?_ hw4; intro K hK; go_big_quiet_op; go_big_quiet_on)
  (refine wpG_op rfl rfl rfl ?_; intro K hK; go_big_quiet_op; go_big_quiet_on)
  clear hone hw4
  refine wpG_nil ?_
  intro u6 E2'
  have EX5 := Lib.hid E2'
  clear E2'
  go_upto_region 8 with (fail)
  refine wp_region_Hx (w0 := w) [0, 1, 2, 3, 4, 5, 6, 7, 8, 9, 10, 11, 12, 13, 14, 15, 16, 17, 18] [(w.heap.size, Obj.cells (hdA noHd) 29 (0, 0))] rfl EX5.out ?_
  refine lexH_phase [0, 1, 2, 3, 4, 5, 6, 7, 8, 9, 10, 11, 12, 13, 14, 15, 16] [17, 18] ?_
  have hw7 : EnvX w _ [(w.heap.size, Obj.cells (hdA noHd) 29 (0, 0))] := EX5.out
  have hone := @EnvC.one _ _ _ hw7
  (refine wpG_op rfl rfl rfl ?_; intro K hK; go_big_quiet_op; go_big_quiet_on)
  (refine wpG_val (v := .int .i64 ((getL (cutP xs 0 4) : Nat) : Int)) rfl rfl (fun u hu => conv_int_op u HS4.out rfl) ?_ hw7; intro K hK; go_big_quiet_op; go_big_quiet_on)
  (refine wpG_op rfl rfl rfl ?_; intro K hK; go_big_quiet_op; go_big_quiet_on)
  (refine wpG_call (f := 36) (args := #[.slice A n c, .int .i64 0]) (v := idv (cutP xs 4 32)) rfl rfl rfl Tryd.func36 rfl rfl (fun u hu => HID.out 0 4 (by decide) rfl u (EnvX.sub hu (fun _ h => by cases h))) ?_ hw7; intro K hK; go_big_quiet_op; go_big_quiet_on)
  (refine wpG_op rfl rfl rfl ?_; intro K hK; go_big_quiet_op; go_big_quiet_on)
  (refine wpG_call (f := 36) (args := #[.slice A n c, .int .i64 1]) (v := idv (cutP xs 36 32)) rfl rfl rfl Tryd.func36 rfl rfl (fun u hu => HID.out 1 36 (by decide) rfl u (EnvX.sub hu (fun _ h => by cases h))) ?_ hw7; intro K hK; go_big_quiet_op; go_big_quiet_on)
  (refine wpG_op rfl rfl rfl ?_; intro K hK; go_big_quiet_op; go_big_quiet_on)
  (refine wpG_call (f := 36) (args := #[.slice A n c, .int .i64 2]) (v := idv (cutP xs 68 32)) rfl rfl rfl Tryd.func36 rfl rfl (fun u hu => HID.out 2 68 (by decide) rfl u (EnvX.sub hu (fun _ h => by cases h))) ?_ hw7; intro K hK; go_big_quiet_op; go_big_quiet_on)
  (refine wpG_op rfl rfl rfl ?_; intro K hK; go_big_quiet_op; go_big_quiet_on)
  (refine wpG_call (f := 36) (args := #[.slice A n c, .int .i64 3]) (v := idv (cutP xs 100 32)) rfl rfl rfl Tryd.func36 rfl rfl (fun u hu => HID.out 3 100 (by decide) rfl u (EnvX.sub hu (fun _ h => by cases h))) ?_ hw7; intro K hK; go_big_quiet_op; go_big_quiet_on)
  (refine wpG_op rfl rfl rfl ?_; intro K hK; go_big_quiet_op; go_big_quiet_on)
  (refine wpG_call (f := 36) (args := #[.slice A n c, .int .i64 4]) (v := idv (cutP xs 132 32)) rfl rfl rfl Tryd.func36 rfl rfl (fun u hu => HID.out 4 132 (by decide) rfl u (EnvX.sub hu (fun _ h => by cases h))) ?_ hw7; intro K hK; go_big_quiet_op; go_big_quiet_on)
  (refine wpG_call (f := 37) (args := #[idv (cutP xs 132 32)]) (v := .agg (wcs (numB (cutP xs 132 32)))) rfl rfl rfl Tryd.func37 rfl rfl (fun u hu => HOF.out u) ?_ hw7; intro K hK; go_big_quiet_op; go_big_quiet_on)
  (refine wpG_op rfl rfl rfl ?_; intro K hK; go_big_quiet_op; go_big_quiet_on)
  (refine wpG_val (v := .int .u32 ((getL (cutP xs 164 4) : Nat) : Int)) rfl rfl (fun u hu => conv_u32_op u HBT.out.2.1 rfl) ?_ hw7; intro K hK; go_big_quiet_op; go_big_quiet_on)
  (refine wpG_op rfl rfl rfl ?_; intro K hK; go_big_quiet_op; go_big_quiet_on)
  (refine wpG_val (v := .agg (hdA (headOf xs))) rfl rfl (fun u hu => buildA_op u (built_hd (headOf xs) HOK.out)) ?_ hw7; intro K hK; go_big_quiet_op; go_big_quiet_on)
  clear hone hw7
  refine wpG_nil ?_
  refine (hOp_store rfl (w.heap.size) (hdA (headOf xs)) rfl rfl HLE.out 29 ((hdA noHd)) (List.Mem.head _) (infoHd _ (hdA_size HOK.out)) ((hdA_size HZN.out).trans (hdA_size HOK.out).symm) (hdA_one _) [(w.heap.size, Obj.cells (hdA (headOf xs)) 29 (0, 0))] (List.forall_mem_cons.2 ⟨.inl rfl, (fun _ h => by cases h)⟩) ?_)
  intro he8
  refine lexH_phase [18] [] ?_
  have hw9 : EnvX w _ [(w.heap.size, Obj.cells (hdA (headOf xs)) 29 (0, 0))] := he8.choose_spec
  have hone := @EnvC.one _ _ _ hw9
  (refine wpG_op rfl rfl rfl ?_; intro K hK; go_big_quiet_op; go_big_quiet_on)
  clear hone hw9
  refine wpG_nil ?_
  intro u11 E2'
  have EX10 := Lib.hid E2'
  clear E2'
  have Q0 := Lib.hid (EnvX.box EX10.out _ _ (List.Mem.head _))
  have HBEL := Lib.hid EX10.out.bel
  clear EX10
  go_wp2_with ((with_reducible refine bodyPost_ret (v := .tuple #[.agg (hdA (headOf xs)), .bool true]) ?_ ?_ ?_); (exact results_row_slot (p := 2) (q := 3) (ty := 29) Tryd.results12 _ _ w.heap.size 29 (hdA (headOf xs)) (0, 0) _ rfl _ rfl Q0.out Tryd.underlying29 rfl (infoHd _ (hdA_size HOK.out))); (rfl))
  exact HBEL.out
theorem hread_any (A : Option Addr) (n c : Nat) (xs : List Int) (w : World) (hl : xs.length = n) (hc : n ≤ c) (hn : c ≤ maxLen) (hB : isB xs) (hx : Bytes w w.heap.size A xs) :
    Calls Tryd.prog 12 #[.slice A n c] w fun e w' => e = .returned (.tuple #[hdV (readH xs).1, .bool (readH xs).2]) ∧ Below w.heap.size w w' := by
  by_cases k : n = 176
  · by_cases k2 : getL (cutP xs 0 4) ≤ 1048576
    · exact hread_main A n c xs w hl hc hn hB hx k k2
    · exact hread_over A n c xs w hl hc hn hB hx k (by omega)
  · exact hread_size A n c xs w hl hc hn hB hx k
end Go.Proofs.YtmpjgfecnnefeaaDoor
