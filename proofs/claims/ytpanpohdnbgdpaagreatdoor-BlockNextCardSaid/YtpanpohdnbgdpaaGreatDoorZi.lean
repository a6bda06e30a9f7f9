/- Part of a proof. -/
import Derived.Test.YtpanpohdnbgdpaaGreatDoorZh
open Go.Proofs.Tryz
namespace Go.Proofs.YtpanpohdnbgdpaaGreatDoor
set_option maxRecDepth 20000
set_option maxHeartbeats 8000000
set_option linter.unusedVariables false
set_option linter.unusedSimpArgs false
open Go.RowKit
theorem hid_no (h : Hd) (w : World) (hh : okHd h) (ht : Tables w) (k : mayPut h = false) :
  Rz 28 #[hdV h] w (idv (idH h)) := by
 unfold Rz
 have hp : putH h = ([], false) := by unfold putH; rw [if_neg (by rw [k]; exact Bool.noConfusion)]
 have hi : idH h = z32 := by unfold idH; rw [if_neg (by rw [k]; exact Bool.noConfusion)]
 rw [hi]
 have HZ : Hid ((arrB 32 z32).size = 32) := arrB_size _ _ (by decide)
 clear k hi
 have HL := hD hh.len
 have HLE : Hid (w.heap.size ≤ w.heap.size + 1) := by show _ ≤ _; omega
 have E1 : Hid (EnvX w ((w.alloc (.cells (hdA h) 29)).alloc (.cells (arrB 32 []) 23)) [(w.heap.size + 1, oc (arrB 32 []) 23), (w.heap.size, oc (hdA h) 29)]) := (EnvX.start w).two _ _
 have HPT : Hid (∀ u, Calls Tryz.prog 69 #[hdV h] u fun e w' => (∃ v, e = .returned (.tuple #[v, .bool (putH h).2]) ∧ OwnB w' u.heap.size v (putH h).1) ∧ Below u.heap.size u w') := fun u => hput_any h u hh
 rw [hp] at HPT
 clear hp hh
 unfold hdV
 go_enter func28, ntmps28
 go_upto_region 1 with (fail)
 rw [zero_cells]
 generalize (w.alloc (.cells (hdA h) 29)).alloc (.cells (arrB 32 []) 23) = W at *
 have HLD : Hid ((loadVar 29 ⟨w.heap.size, 0, none⟩).run Tryz.prog W = .ok (.agg (hdA h)) W) := box_hd E1.out (mT mH) HL.out
 go_wp2_with ((with_reducible refine wpList_load_run (o := ⟨some 6, _, _, _, _, _⟩) ?_ 29 (.tmp 1) ?_ ⟨w.heap.size, 0, none⟩ ?_ HLD.out ?_); (rfl); (rfl); (rfl))
 refine (HPT.out W).mono ?_
 rintro e w1 ⟨⟨v, rfl, hv⟩, hb⟩
 have E2 : Hid (EnvX w w1 [(w.heap.size + 1, oc (arrB 32 []) 23), (w.heap.size, oc (hdA h) 29)]) := EnvX.below E1.out hb
 clear hv hb E1 HLD ht
 go_upto_region 3 with (fail)
 refine rgQ [0] [1] E2 rfl fun hw => ?_
 refine qv (v := .agg (arrB 32 z32)) rfl (fun u hu => buildA_op u hbuilt0) hw ?_
 refine wpG_nil <| (so rfl HLE.out mH (info26 _ HZ.out) ((arrB_size _ _ (by simp)).trans HZ.out.symm) (arrB_one _ _) ?_)
 refine fun _ => enL fun u4 EX3 => ?_
 have Q0 := hD (EnvX.box EX3.out _ _ mH)
 have HBEL := hD EX3.out.bel
 clear EX3
 go_wp2_with ((with_reducible refine bodyPost_ret (v := .agg (arrB 32 z32)) ?_ ?_ ?_); (exact results_cell_row (p := 2) (ty := 23) results28 _ _ (w.heap.size + 1) 23 (arrB 32 z32) (0, 0) _ rfl Q0.out underlying23 rfl (info26 _ HZ.out)); (rfl))
 exact ⟨rfl, HBEL.out⟩
theorem hid_yes (h : Hd) (w : World) (hh : okHd h) (ht : Tables w) (k : mayPut h = true) :
   Rz 28 #[hdV h] w (idv (idH h)) := by
 unfold Rz
 have hp : putH h = (bodyH h, true) := by unfold putH; rw [if_pos k]
 have hi : idH h = sumL (5 :: bodyH h) := by unfold idH; rw [if_pos k]
 rw [hi]
 obtain ⟨su, hsu⟩ : ∃ su, sumL (5 :: bodyH h) = su := ⟨_, rfl⟩
 have HZ : Hid ((arrB 32 su).size = 32) := arrB_size _ _ (by rw [← hsu, sumL_len]; omega)
 have HSU := hD hsu
 rw [hsu]
 clear hsu
 have HBO := hD (And.intro (body_len hh) (body_byte hh))
 clear k hi
 have HL := hD hh.len
 have HLE : Hid (w.heap.size ≤ w.heap.size + 1) := by show _ ≤ _; omega
 have E1 : Hid (EnvX w ((w.alloc (.cells (hdA h) 29)).alloc (.cells (arrB 32 []) 23)) [(w.heap.size + 1, oc (arrB 32 []) 23), (w.heap.size, oc (hdA h) 29)]) := (EnvX.start w).two _ _
 have HPT : Hid (∀ u, Calls Tryz.prog 69 #[hdV h] u fun e w' => (∃ v, e = .returned (.tuple #[v, .bool (putH h).2]) ∧ OwnB w' u.heap.size v (putH h).1) ∧ Below u.heap.size u w') := fun u => hput_any h u hh
 rw [hp] at HPT
 clear hp hh
 unfold hdV
 go_enter func28, ntmps28
 go_upto_region 1 with (fail)
 rw [zero_cells]
 generalize (w.alloc (.cells (hdA h) 29)).alloc (.cells (arrB 32 []) 23) = W at *
 have HLD : Hid ((loadVar 29 ⟨w.heap.size, 0, none⟩).run Tryz.prog W = .ok (.agg (hdA h)) W) := box_hd E1.out (mT mH) HL.out
 go_wp2_with ((with_reducible refine wpList_load_run (o := ⟨some 6, _, _, _, _, _⟩) ?_ 29 (.tmp 1) ?_ ⟨w.heap.size, 0, none⟩ ?_ HLD.out ?_); (rfl); (rfl); (rfl))
 refine (HPT.out W).mono ?_
 rintro e w1 ⟨⟨v, rfl, hv⟩, hb⟩
 obtain ⟨hv1, ⟨_, h0⟩ | ⟨gv, capv, curv, rfl, hg1, hg2, hg3⟩⟩ := hv
 · have := HBO.out.1
   omega
 have E2 : Hid (EnvX w w1 [(gv, oc curv 5), (w.heap.size + 1, oc (arrB 32 []) 23), (w.heap.size, oc (hdA h) 29)]) := ⟨(EnvX.below E1.out hb).bel, fun g o hm => by
   rcases List.mem_cons.1 hm with e | e
   · cases e
     exact hg2
   · exact (EnvX.below E1.out hb).box g o e⟩
 rw [HBO.out.1] at hg3 ⊢
 have HGV := hD hg3
 have HOF : Hid (∀ (u : World) (gr : Nat), EnvX w u [] → Parts u u.heap.size (some ⟨gr, 0, none⟩) [[5], bodyH h] → Calls Tryz.prog 64 #[.slice (some ⟨gr, 0, none⟩) 2 2] u fun e w' => e = .returned (.agg (arrB 32 su)) ∧ Below u.heap.size u w') := fun u gr hE hp => by
   have e : [[5], bodyH h].flatten = 5 :: bodyH h := by simp
   have h1 := shaof_any (some ⟨gr, 0, none⟩) 2 2 [[5], bodyH h] u rfl hp (by omega) (by rw [e, List.length_cons, HBO.out.1]; decide) (ht.below hE.bel)
   rwa [e, HSU.out] at h1
 clear hv1 hb E1 HLD hg1 hg2 hg3 ht
 go_upto_region 4 with (fail)
 refine wp_region_Hx (w0 := w) [0, 1, 2, 3, 4] [(gv, oc curv 5), (w.heap.size + 1, oc (arrB 32 []) 23), (w.heap.size, oc (hdA h) 29)] rfl E2.out ?_
 refine (hOp_fresh (R := fun v N => ∃ g, v = .slice (some ⟨g, 0, none⟩) 1 1 ∧ N = [(g, oc #[.int .u8 5] 5)]) (M0 := [(gv, oc curv 5), (w.heap.size + 1, oc (arrB 32 []) 23), (w.heap.size, oc (hdA h) 29)]) rfl rfl (fun _ h => h) (fun u hu => FAt_byte1 5 u) ?_)
 rintro _ _ ⟨g5, rfl, rfl⟩ hf he1; intro K' hK'; go_big_quiet_op; go_big_quiet_on
 clear hf
 refine phE [1] [2,3,4] he1 fun hw => ?_
 refine qo rfl hw ?_
 refine wpG_nil <| (hOp_fresh (R := fun v N => ∃ g, v = .slice (some ⟨g, 0, none⟩) 2 2 ∧ N = [(g, oc #[.slice (some ⟨g5, 0, none⟩) 1 1, .slice (some ⟨gv, 0, none⟩) 176 capv] 106)]) (M0 := [(g5, oc #[.int .u8 5] 5), (gv, oc curv 5), (w.heap.size + 1, oc (arrB 32 []) 23), (w.heap.size, oc (hdA h) 29)]) rfl rfl (fun _ h => h) (fun u hu => FAt_rows2 rfl rfl u) ?_)
 rintro _ _ ⟨gr, rfl, rfl⟩ hf he3; intro K' hK'; go_big_quiet_op; go_big_quiet_on
 clear hf
 refine phE [3] [4] he3 fun hw => ?_
 refine qc rfl func64 (fun u hu => HOF.out u gr (nl hu) (parts_two (EnvX.lt hu mH) (by have h := box_cell (k := 0) hu mH rfl; exact h) (boxR_bytes (cap := 1) hu (mT mH) rfl ⟨by decide, by decide, rfl, rfl⟩) (by intro x hx; cases mS.1 hx; omega) (by have h := box_cell (k := 1) hu mH rfl; rw [HBO.out.1]; exact h) (boxR_bytes hu (mT (mT mH)) HBO.out.1 HGV.out) HBO.out.2)) hw ?_
 refine wpG_nil <| (so rfl HLE.out (mT (mT (mT mH))) (info26 _ HZ.out) ((arrB_size _ _ (by simp)).trans HZ.out.symm) (arrB_one _ _) ?_)
 refine fun _ => enL fun u7 EX6 => ?_
 have Q0 := hD (EnvX.box EX6.out _ _ mH)
 have HBEL := hD EX6.out.bel
 clear EX6
 go_wp2_with ((with_reducible refine bodyPost_ret (v := .agg (arrB 32 su)) ?_ ?_ ?_); (exact results_cell_row (p := 2) (ty := 23) results28 _ _ (w.heap.size + 1) 23 (arrB 32 su) (0, 0) _ rfl Q0.out underlying23 rfl (info26 _ HZ.out)); (rfl))
 exact ⟨rfl, HBEL.out⟩
theorem hid_any (h : Hd) (w : World) (hh : okHd h) (ht : Tables w) :
  Rz 28 #[hdV h] w (idv (idH h)) := by
 unfold Rz
 cases k : mayPut h with
 | true => exact hid_yes h w hh ht k
 | false => exact hid_no h w hh ht k
theorem hlevel_a (h : Hd) (w : World) (hh : okHd h) (ht : Tables w) (hc : isC h.bits = false) :
  Rz 72 #[hdV h] w (.int .i64 (levelH h)) := by
 unfold Rz
 have hv : levelH h = -1 := by unfold levelH; rw [hc, Bool.and_false]; rfl
 rw [hv]
 clear hv
 have HL := hD hh.len
 have E1 : Hid (EnvX w (w.alloc (.cells (hdA h) 29)) [(w.heap.size, oc (hdA h) 29)]) := (EnvX.start w).new _
 have HTG : Hid (∀ u, Calls Tryz.prog 33 #[.int .u32 (h.bits : Int)] u fun e w' => e = .returned (.tuple #[.agg (wcs (tv h.bits)), .bool (isC h.bits)]) ∧ Below u.heap.size u w') := fun u => target_any h.bits u hh.2.2.2.2.2.2.1
 rw [hc] at HTG
 clear hh hc ht
 unfold hdV
 go_enter func72, ntmps72
 go_upto_region 1 with (fail)
 generalize w.alloc (.cells (hdA h) 29) = W at *
 refine rgQ [0,1,2,3,4,5] [6,7,8] E1 rfl fun hw => ?_
 refine qo rfl hw ?_
 refine ql rfl mH HL.out hw ?_
 refine qc rfl func33 (fun u hu => HTG.out u) hw ?_
 refine qw 3 hw ?_
 refine wpG_nil <| qn rfl (new_wd _) fun gt HGT he2 => ?_
 change lexH _ _ _ _ _ _ [(gt, oc (wcs 0) 26), (w.heap.size, oc (hdA h) 29)]
 refine (sh rfl HGT (wc_info _) ((wc_size _).trans (wc_size _).symm) (wc_one _) ?_)
 intro he3
 refine phE [8] [] he3 fun hw => ?_
 refine qo rfl hw ?_
 refine enP fun u6 EX5 => ?_
 go_upto_region 2 with (fail)
 refine rgQ [0,1,2,3,4,5,6,7,8] [] EX5 rfl fun hw => ?_
 refine qw 9 hw ?_
 refine enP fun u9 EX8 => ?_
 have HBE := hD (EnvX.bel EX8.out)
 go_wp2
 go_ret
 exact ⟨rfl, HBE.out⟩
theorem hlevel_b (h : Hd) (w : World) (hh : okHd h) (ht : Tables w) (hc : isC h.bits = true) (k : mayPut h = false) :
  Rz 72 #[hdV h] w (.int .i64 (levelH h)) := by
 unfold Rz
 have hv : levelH h = -1 := by unfold levelH; rw [k]; rfl
 rw [hv]
 clear hv
 have HL := hD hh.len
 have E1 : Hid (EnvX w (w.alloc (.cells (hdA h) 29)) [(w.heap.size, oc (hdA h) 29)]) := (EnvX.start w).new _
 have HTG : Hid (∀ u, Calls Tryz.prog 33 #[.int .u32 (h.bits : Int)] u fun e w' => e = .returned (.tuple #[.agg (wcs (tv h.bits)), .bool (isC h.bits)]) ∧ Below u.heap.size u w') := fun u => target_any h.bits u hh.2.2.2.2.2.2.1
 rw [hc] at HTG
 have HMH : Hid (∀ u, Calls Tryz.prog 120 #[.int .i64 h.height] u fun e w' => e = .returned (.bool (mayPut h)) ∧ Below u.heap.size u w') := fun u => mayh_any h.height u
 rw [k] at HMH
 clear hh hc k ht
 unfold hdV
 go_enter func72, ntmps72
 go_upto_region 1 with (fail)
 generalize w.alloc (.cells (hdA h) 29) = W at *
 refine rgQ [0,1,2,3,4,5] [6,7,8] E1 rfl fun hw => ?_
 refine qo rfl hw ?_
 refine ql rfl mH HL.out hw ?_
 refine qc rfl func33 (fun u hu => HTG.out u) hw ?_
 refine qw 3 hw ?_
 refine wpG_nil <| qn rfl (new_wd _) fun gt HGT he2 => ?_
 change lexH _ _ _ _ _ _ [(gt, oc (wcs 0) 26), (w.heap.size, oc (hdA h) 29)]
 refine (sh rfl HGT (wc_info _) ((wc_size _).trans (wc_size _).symm) (wc_one _) ?_)
 intro he3
 refine phE [8] [] he3 fun hw => ?_
 refine qo rfl hw ?_
 refine enP fun u6 EX5 => ?_
 go_upto_region 2 with (fail)
 refine rgQ [0,1,2,3,4,5,6,7,8] [] EX5 rfl fun hw => ?_
 refine qw 4 hw ?_
 refine ql rfl (mT mH) trivial hw ?_
 refine qc rfl func120 (fun u hu => HMH.out u) hw ?_
 refine qw 3 hw ?_
 refine enP fun u9 EX8 => ?_
 have HBE := hD (EnvX.bel EX8.out)
 go_wp2
 go_ret
 exact ⟨rfl, HBE.out⟩
theorem hlevel_c (h : Hd) (w : World) (hh : okHd h) (ht : Tables w) (hc : isC h.bits = true) (k : mayPut h = true) (h0 : h.height = 0) :
  Rz 72 #[hdV h] w (.int .i64 (levelH h)) := by
 unfold Rz
 have hv : levelH h = 31 := by unfold levelH; rw [k, hc]; exact if_pos h0
 rw [hv]
 have C0 : Hid (decide (h.height = 0) = true) := decide_eq_true h0
 clear hv h0
 have HL := hD hh.len
 have E1 : Hid (EnvX w (w.alloc (.cells (hdA h) 29)) [(w.heap.size, oc (hdA h) 29)]) := (EnvX.start w).new _
 have HTG : Hid (∀ u, Calls Tryz.prog 33 #[.int .u32 (h.bits : Int)] u fun e w' => e = .returned (.tuple #[.agg (wcs (tv h.bits)), .bool (isC h.bits)]) ∧ Below u.heap.size u w') := fun u => target_any h.bits u hh.2.2.2.2.2.2.1
 rw [hc] at HTG
 have HMH : Hid (∀ u, Calls Tryz.prog 120 #[.int .i64 h.height] u fun e w' => e = .returned (.bool (mayPut h)) ∧ Below u.heap.size u w') := fun u => mayh_any h.height u
 rw [k] at HMH
 clear hh hc k ht
 unfold hdV
 go_enter func72, ntmps72
 go_upto_region 1 with (fail)
 generalize w.alloc (.cells (hdA h) 29) = W at *
 refine rgQ [0,1,2,3,4,5] [6,7,8] E1 rfl fun hw => ?_
 refine qo rfl hw ?_
 refine ql rfl mH HL.out hw ?_
 refine qc rfl func33 (fun u hu => HTG.out u) hw ?_
 refine qw 3 hw ?_
 refine wpG_nil <| qn rfl (new_wd _) fun gt HGT he2 => ?_
 change lexH _ _ _ _ _ _ [(gt, oc (wcs 0) 26), (w.heap.size, oc (hdA h) 29)]
 refine (sh rfl HGT (wc_info _) ((wc_size _).trans (wc_size _).symm) (wc_one _) ?_)
 intro he3
 refine phE [8] [] he3 fun hw => ?_
 refine qo rfl hw ?_
 refine enP fun u6 EX5 => ?_
 go_upto_region 2 with (fail)
 refine rgQ [0,1,2,3,4,5,6,7,8] [] EX5 rfl fun hw => ?_
 refine qw 4 hw ?_
 refine ql rfl (mT mH) trivial hw ?_
 refine qc rfl func120 (fun u hu => HMH.out u) hw ?_
 refine qw 3 hw ?_
 refine enP fun u9 EX8 => ?_
 go_upto_region 4 with (fail)
 refine rgQ [0,1,2,3] [] EX8 rfl fun hw => ?_
 refine qo rfl hw ?_
 refine ql rfl (mT mH) trivial hw ?_
 refine qv rfl (fun u hu => eqlI_op u C0.out rfl rfl) hw ?_
 refine qo rfl hw ?_
 refine enP fun u12 EX11 => ?_
 have HBE := hD (EnvX.bel EX11.out)
 go_wp2
 go_ret
 exact ⟨rfl, HBE.out⟩
theorem hlevel_d (h : Hd) (w : World) (hh : okHd h) (ht : Tables w) (hc : isC h.bits = true) (k : mayPut h = true) (h0 : h.height ≠ 0) :
  Rz 72 #[hdV h] w (.int .i64 (levelH h)) := by
 unfold Rz
 have hv : levelH h = lvI (numB (idH h)) (tv h.bits) := by unfold levelH; rw [k, hc]; exact if_neg h0
 rw [hv]
 have C0 : Hid (decide (h.height = 0) = false) := decide_eq_false h0
 clear hv h0
 have HL := hD hh.len
 have E1 : Hid (EnvX w (w.alloc (.cells (hdA h) 29)) [(w.heap.size, oc (hdA h) 29)]) := (EnvX.start w).new _
 have HTG : Hid (∀ u, Calls Tryz.prog 33 #[.int .u32 (h.bits : Int)] u fun e w' => e = .returned (.tuple #[.agg (wcs (tv h.bits)), .bool (isC h.bits)]) ∧ Below u.heap.size u w') := fun u => target_any h.bits u hh.2.2.2.2.2.2.1
 rw [hc] at HTG
 have HMH : Hid (∀ u, Calls Tryz.prog 120 #[.int .i64 h.height] u fun e w' => e = .returned (.bool (mayPut h)) ∧ Below u.heap.size u w') := fun u => mayh_any h.height u
 rw [k] at HMH
 have HID : Hid (Rt w 28 #[hdV h] (idv (idH h))) := fun u hE => hid_any h u hh (ht.below hE.bel)
 have HLV : Hid (∀ u, Calls Tryz.prog 126 #[idv (idH h), .agg (wcs (tv h.bits))] u fun e w' => e = .returned (.int .i64 (lvI (numB (idH h)) (tv h.bits))) ∧ Below u.heap.size u w') := fun u => by
  unfold idv
  rw [arr_idF (id_len h) (id_byte h)]
  exact level_any (fun i => ((idH h).getD i 0).toNat) (byte_toNat (id_byte h)) (tv h.bits) u (tv_big h.bits)
 clear hh hc k ht
 unfold hdV
 go_enter func72, ntmps72
 go_upto_region 1 with (fail)
 generalize w.alloc (.cells (hdA h) 29) = W at *
 refine rgQ [0,1,2,3,4,5] [6,7,8] E1 rfl fun hw => ?_
 refine qo rfl hw ?_
 refine ql rfl mH HL.out hw ?_
 refine qc rfl func33 (fun u hu => HTG.out u) hw ?_
 refine qw 3 hw ?_
 refine wpG_nil <| qn rfl (new_wd _) fun gt HGT he2 => ?_
 change lexH _ _ _ _ _ _ [(gt, oc (wcs 0) 26), (w.heap.size, oc (hdA h) 29)]
 refine (sh rfl HGT (wc_info _) ((wc_size _).trans (wc_size _).symm) (wc_one _) ?_)
 intro he3
 refine phE [8] [] he3 fun hw => ?_
 refine qo rfl hw ?_
 refine enP fun u6 EX5 => ?_
 go_upto_region 2 with (fail)
 refine rgQ [0,1,2,3,4,5,6,7,8] [] EX5 rfl fun hw => ?_
 refine qw 4 hw ?_
 refine ql rfl (mT mH) trivial hw ?_
 refine qc rfl func120 (fun u hu => HMH.out u) hw ?_
 refine qw 3 hw ?_
 refine enP fun u9 EX8 => ?_
 go_upto_region 4 with (fail)
 refine rgQ [0,1,2,3] [] EX8 rfl fun hw => ?_
 refine qo rfl hw ?_
 refine ql rfl (mT mH) trivial hw ?_
 refine qv rfl (fun u hu => eqlI_op u C0.out rfl rfl) hw ?_
 refine qo rfl hw ?_
 refine enP fun u12 EX11 => ?_
 go_upto_region 6 with (fail)
 refine rgK [0,1,2,3,4] 0 EX11 rfl fun hw => ?_
 refine ql rfl (mT mH) HL.out hw ?_
 refine qc rfl func28 (fun u hu => HID.out u (nl hu)) hw ?_
 refine qv rfl (fun u hu => load_any_op u (box_wide hu mH) rfl) hw ?_
 refine qc rfl func126 (fun u hu => HLV.out u) hw ?_
 refine qo rfl hw ?_
 refine eH fun u15 EX14 => ?_
 have HBE := hD (EnvX.bel EX14.out)
 go_wp2
 go_ret
 exact ⟨rfl, HBE.out⟩
theorem hlevel_any (h : Hd) (w : World) (hh : okHd h) (ht : Tables w) :
  Rz 72 #[hdV h] w (.int .i64 (levelH h)) := by
 unfold Rz
 cases hc : isC h.bits with
 | false => exact hlevel_a h w hh ht hc
 | true =>
  cases k : mayPut h with
  | false => exact hlevel_b h w hh ht hc k
  | true =>
   by_cases h0 : h.height = 0
   · exact hlevel_c h w hh ht hc k h0
   · exact hlevel_d h w hh ht hc k h0
theorem hmay_any (h : Hd) (w : World) (hh : okHd h) (ht : Tables w) :
  Rz 31 #[hdV h] w (.bool (mayH h)) := by
 unfold Rz
 have HL := hD hh.len
 have E1 : Hid (EnvX w (w.alloc (.cells (hdA h) 29)) [(w.heap.size, oc (hdA h) 29)]) := (EnvX.start w).new _
 have HLV : Hid (Rt w 72 #[hdV h] (.int .i64 (levelH h))) := fun u hE => hlevel_any h u hh (ht.below hE.bel)
 have HM : Hid (decide (0 ≤ levelH h) = mayH h) := rfl
 clear hh ht
 unfold hdV
 go_enter func31, ntmps31
 go_upto_region 1 with (fail)
 generalize w.alloc (.cells (hdA h) 29) = W at *
 refine rgQ [0,1,2,3] [] E1 rfl fun hw => ?_
 refine ql rfl mH HL.out hw ?_
 refine qc rfl func72 (fun u hu => HLV.out u (nl hu)) hw ?_
 refine qv rfl (fun u hu => geq_op u HM.out rfl rfl) hw ?_
 refine qo rfl hw ?_
 refine enP fun u3 EX2 => ?_
 have HBE := hD (EnvX.bel EX2.out)
 go_wp2
 go_ret
 exact ⟨rfl, HBE.out⟩
theorem hwork_no (h : Hd) (w : World) (hh : okHd h) (hc : isC h.bits = false) :
  Rz 30 #[hdV h] w (.agg (wcs (workH h))) := by
 unfold Rz
 have hw : workH h = 0 := by unfold workH; rw [hc]; rfl
 rw [hw]
 have HL := hD hh.len
 have HLE : Hid (w.heap.size ≤ w.heap.size + 1) := by show _ ≤ _; omega
 have E1 : Hid (EnvX w ((w.alloc (.cells (hdA h) 29)).alloc (.cells (wcs 0) 26)) [(w.heap.size + 1, oc (wcs 0) 26), (w.heap.size, oc (hdA h) 29)]) := (EnvX.start w).two _ _
 have HTG : Hid (∀ u, Calls Tryz.prog 33 #[.int .u32 (h.bits : Int)] u fun e w' => e = .returned (.tuple #[.agg (wcs (tv h.bits)), .bool (isC h.bits)]) ∧ Below u.heap.size u w') := fun u => target_any h.bits u hh.2.2.2.2.2.2.1
 rw [hc] at HTG
 have HWK : Hid (∀ u, Calls Tryz.prog 71 #[.agg (wcs (tv h.bits))] u fun e w' => e = .returned (.agg (wcs (wkV (tv h.bits)))) ∧ Below u.heap.size u w') := fun u => work_any (tv h.bits) u (tv_big h.bits)
 clear hh hc hw
 unfold hdV
 go_enter func30, ntmps30
 go_upto_region 1 with (fail)
 rw [zero_wcs]
 generalize (w.alloc (.cells (hdA h) 29)).alloc (.cells (wcs 0) 26) = W at *
 refine rgQ [0,1,2,3,4,5] [6,7,8] E1 rfl fun hw => ?_
 refine qo rfl hw ?_
 refine ql rfl (mT mH) HL.out hw ?_
 refine qc rfl func33 (fun u hu => HTG.out u) hw ?_
 refine qw 3 hw ?_
 refine wpG_nil <| qn rfl (new_wd _) fun gt HGT he2 => ?_
 change lexH _ _ _ _ _ _ [(gt, oc (wcs 0) 26), (w.heap.size + 1, oc (wcs 0) 26), (w.heap.size, oc (hdA h) 29)]
 refine (sh rfl HGT (wc_info _) ((wc_size _).trans (wc_size _).symm) (wc_one _) ?_)
 intro he3
 refine phE [8] [] he3 fun hw => ?_
 refine qo rfl hw ?_
 refine enP fun u6 EX5 => ?_
 go_upto_region 2 with (fail)
 refine rgQ [0,1] [] EX5 rfl fun hw => ?_
 refine qw 2 hw ?_
 refine enP fun u9 EX8 => ?_
 go_upto_region 3 with (fail)
 refine rgQ [0] [1] EX8 rfl fun hw => ?_
 refine qv (v := .agg (wcs 0)) rfl (fun u hu => buildA_op u hbuilt_w0) hw ?_
 refine wpG_nil <| (so rfl HLE.out (mT mH) (wc_info _) ((wc_size _).trans (wc_size _).symm) (wc_one _) ?_)
 refine fun _ => enL fun u13 EX12 => ?_
 have Q0 := hD (EnvX.box EX12.out _ _ mH)
 have HBEL := hD EX12.out.bel
 clear EX12
 go_wp2_with ((with_reducible refine bodyPost_ret (v := .agg (wcs 0)) ?_ ?_ ?_); (exact results_cell_row (p := 2) (ty := 26) results30 _ _ (w.heap.size + 1) 26 (wcs 0) (0, 0) _ rfl Q0.out underlying26 rfl (wc_info _)); (rfl))
 first | exact HBEL.out | exact ⟨rfl, HBEL.out⟩
theorem hwork_yes (h : Hd) (w : World) (hh : okHd h) (hc : isC h.bits = true) :
  Rz 30 #[hdV h] w (.agg (wcs (workH h))) := by
 unfold Rz
 have hw : workH h = wkV (tv h.bits) := by unfold workH; rw [hc]; rfl
 rw [hw]
 have HL := hD hh.len
 have HLE : Hid (w.heap.size ≤ w.heap.size + 1) := by show _ ≤ _; omega
 have E1 : Hid (EnvX w ((w.alloc (.cells (hdA h) 29)).alloc (.cells (wcs 0) 26)) [(w.heap.size + 1, oc (wcs 0) 26), (w.heap.size, oc (hdA h) 29)]) := (EnvX.start w).two _ _
 have HTG : Hid (∀ u, Calls Tryz.prog 33 #[.int .u32 (h.bits : Int)] u fun e w' => e = .returned (.tuple #[.agg (wcs (tv h.bits)), .bool (isC h.bits)]) ∧ Below u.heap.size u w') := fun u => target_any h.bits u hh.2.2.2.2.2.2.1
 rw [hc] at HTG
 have HWK : Hid (∀ u, Calls Tryz.prog 71 #[.agg (wcs (tv h.bits))] u fun e w' => e = .returned (.agg (wcs (wkV (tv h.bits)))) ∧ Below u.heap.size u w') := fun u => work_any (tv h.bits) u (tv_big h.bits)
 clear hh hc hw
 unfold hdV
 go_enter func30, ntmps30
 go_upto_region 1 with (fail)
 rw [zero_wcs]
 generalize (w.alloc (.cells (hdA h) 29)).alloc (.cells (wcs 0) 26) = W at *
 refine rgQ [0,1,2,3,4,5] [6,7,8] E1 rfl fun hw => ?_
 refine qo rfl hw ?_
 refine ql rfl (mT mH) HL.out hw ?_
 refine qc rfl func33 (fun u hu => HTG.out u) hw ?_
 refine qw 3 hw ?_
 refine wpG_nil <| qn rfl (new_wd _) fun gt HGT he2 => ?_
 change lexH _ _ _ _ _ _ [(gt, oc (wcs 0) 26), (w.heap.size + 1, oc (wcs 0) 26), (w.heap.size, oc (hdA h) 29)]
 refine (sh rfl HGT (wc_info _) ((wc_size _).trans (wc_size _).symm) (wc_one _) ?_)
 intro he3
 refine phE [8] [] he3 fun hw => ?_
 refine qo rfl hw ?_
 refine enP fun u6 EX5 => ?_
 go_upto_region 2 with (fail)
 refine rgQ [0,1] [] EX5 rfl fun hw => ?_
 refine qw 2 hw ?_
 refine enP fun u9 EX8 => ?_
 go_upto_region 4 with (fail)
 refine rgQ [0,1] [2] EX8 rfl fun hw => ?_
 refine qv rfl (fun u hu => load_any_op u (box_wide hu mH) rfl) hw ?_
 refine qc rfl func71 (fun u hu => HWK.out u) hw ?_
 refine wpG_nil <| (so rfl HLE.out (mT mH) (wc_info _) ((wc_size _).trans (wc_size _).symm) (wc_one _) ?_)
 refine fun _ => enL fun u13 EX12 => ?_
 have Q0 := hD (EnvX.box EX12.out _ _ mH)
 have HBEL := hD EX12.out.bel
 clear EX12
 go_wp2_with ((with_reducible refine bodyPost_ret (v := .agg (wcs (wkV (tv h.bits)))) ?_ ?_ ?_); (exact results_cell_row (p := 2) (ty := 26) results30 _ _ (w.heap.size + 1) 26 (wcs (wkV (tv h.bits))) (0, 0) _ rfl Q0.out underlying26 rfl (wc_info _)); (rfl))
 first | exact HBEL.out | exact ⟨rfl, HBEL.out⟩
theorem hwork_any (h : Hd) (w : World) (hh : okHd h) :
  Rz 30 #[hdV h] w (.agg (wcs (workH h))) := by
 unfold Rz
 cases hc : isC h.bits with
 | false => exact hwork_no h w hh hc
 | true => exact hwork_yes h w hh hc
open Go.RowKit Go.Shelf
theorem nonces_any (q : Int) (k : Int) (w : World) :
  Calls Tryz.prog 93 #[.int .u64 q, .int .i64 k] w fun e w' => e = .returned (.func (.func 145) #[] #[.pointer (some ⟨w.heap.size + 1, 0, none⟩), .pointer (some ⟨w.heap.size, 0, none⟩)]) ∧
   w' = (w.alloc (.cells #[.int .u64 q] 24)).alloc (.cells #[.int .i64 k] 3) := by
 go_enter func93, ntmps93
 go_wp2
 go_ret
 exact ⟨rfl, rfl⟩
attribute [local go_sem] Oper.semAt_some
theorem nonces1_in (n : Nat) (h1n : 1 ≤ n) (l Bc Bf n₀ q : Nat) (hq : q < 18446744073709551616) (cnt : Int) (K : Nat) (hcn : I64 cnt) (hK : cnt.toNat = K) (J Jx : List Nat → World → Prop)
  (hY : ∀ pre x W, J pre W → pre.length < K → YieldAt Fence.wide (n - 1) Tryz.prog l #[.int .u64 (((q + x) % 18446744073709551616 : Nat) : Int)] W fun e W' =>
    (e = .returned (.bool true) ∧ J (pre ++ [x]) W' ∧ KpB n₀ Bf W W') ∨ (e = .returned (.bool false) ∧ Jx (pre ++ [x]) W'))
  (W : World) (hBc : W.cell? ⟨Bc, 0, none⟩ = some (.int .i64 cnt)) (hBf : Boxed W Bf 24 (.int .u64 (q : Int))) (h0 : J [] W) :
  CallsIn Fence.wide n Tryz.prog 145 #[.func (.yield l) #[] #[], .pointer (some ⟨Bc, 0, none⟩), .pointer (some ⟨Bf, 0, none⟩)] W fun e W' => (∃ v, e = .returned v) ∧
    ((∃ ys, ys = List.range K ∧ J ys W') ∨ (∃ pre, (∃ j, pre = List.range (j + 1) ∧ j < K) ∧ Jx pre W')) := by
 unfold I64 at hcn
 have HYY := hD hY
 have HBB := hD hBf
 have HKK := hD hK
 clear hY hBf
 refine callsIn_of_wp func145 rfl trivial ?_ rfl
 simp only [ntmps145, List.size_toArray, List.length_cons, List.length_nil, Nat.reduceAdd, Nat.reduceSub, Array.replicate_succ, Array.replicate_zero, List.push_toArray, List.append_toArray, List.nil_append, List.cons_append]
 gi_wp2
 gi_loopw [6] (fun i wr => ∃ j : Nat, j ≤ K ∧ i = .int .i64 (j : Int) ∧ Hid (J (List.range j) wr ∧ KpB n₀ Bf W wr))
  (fun i _ => K - (intOf i).toNat)
 case atStart => exact ⟨0, Nat.zero_le _, rfl, h0, ⟨Below.refl _ _, fun _ h => h⟩⟩
 case round =>
  obtain ⟨j, hj, rfl, hinv⟩ := hrel
  obtain ⟨hJ, hKp⟩ := hinv.out
  by_cases hlt : j < K
  · have hj2 : (j : Int) < cnt := by omega
    have hbx : Boxed wr Bf 24 (.int .u64 (q : Int)) := hKp.2 _ HBB.out
    have hcb := hbx.cell
    obtain ⟨fn, tmps, assign, body, hy, hR⟩ := HYY.out (List.range j) j wr hJ (by rw [List.length_range]; exact hlt)
    obtain ⟨z, hz⟩ : ∃ z, (q + j) % 18446744073709551616 = z := ⟨_, rfl⟩
    rw [hz] at hy
    have s1 : IntKind.u64.wrap (j : Int) = (j : Int) := by rw [IntKind.wrap_u64]; omega
    have s2 : IntKind.u64.wrap ((q : Int) + (j : Int)) = (z : Int) := by rw [IntKind.wrap_u64]; omega
    have HR := hD hR
    have HKP := hD hKp
    have HS : Hid (List.range j ++ [j] = List.range (j + 1)) := List.range_succ.symm
    clear hJ hKp hinv hR hz hbx
    gi_wp2
    refine HR.out.mono ?_
    rintro e W3 (⟨rfl, hJ3, hk3⟩ | ⟨rfl, hJx3⟩)
    · rw [HS.out] at hJ3
      have HJ3 := hD hJ3
      have HK3 := hD hk3
      clear hJ3 hk3
      gi_wp2
      go_roundw
      case rel => exact ⟨j + 1, by omega, by go_num, HJ3.out, HKP.out.trans HK3.out⟩
      case measure => simp [intOf]; omega
    · rw [HS.out] at hJx3
      gi_wp2
      refine bodyPost_ret (results_none rfl _ _ _) rfl ?_
      exact ⟨⟨_, rfl⟩, .inr ⟨_, ⟨j, rfl, hlt⟩, hJx3⟩⟩
  · obtain rfl : j = K := by omega
    have hj3 : ¬ (j : Int) < cnt := by omega
    have HJ := hD hJ
    clear hJ hKp hinv
    gi_wp2
    go_end0
    first | exact ⟨⟨_, rfl⟩, .inl HJ.out⟩ | exact ⟨⟨_, rfl⟩, .inl ⟨_, rfl, HJ.out⟩⟩
def nextN (q k : Nat) : Nat := (q + k) % 18446744073709551616
theorem nonces_stops (n : Nat) (h1n : 1 ≤ n) (Bc Bf n₀ q : Nat) (hq : q < 18446744073709551616) (cnt : Int) (K : Nat) (hcn : I64 cnt) (hK : cnt.toNat = K) (w : World) (hBc : Boxed w Bc 3 (.int .i64 cnt)) (hBf : Boxed w Bf 24 (.int .u64 (q : Int))) :
  SeqStopsK Fence.wide n Tryz.prog 145 #[.pointer (some ⟨Bc, 0, none⟩), .pointer (some ⟨Bf, 0, none⟩)] (fun k : Nat => #[.int .u64 (nextN q k : Int)]) (KpB n₀ Bf) (fun ys => ys = List.range K) (fun pre => ∃ j, pre = List.range (j + 1) ∧ j < K) K w := fun l J Jx W hW _ _ hY h0 =>
 nonces1_in n h1n l Bc Bf n₀ q hq cnt K hcn hK J Jx hY W ((hW.cell (p := ⟨Bc, 0, none⟩) hBc.lt).trans hBc.cell) ((hW.block Bf hBf.lt).trans hBf) h0
theorem callsR_nonces {q k : Int} {u : World} : Calls Tryz.prog 93 #[.int .u64 q, .int .i64 k] u (fun e w'' => ∃ x N, e = .returned x ∧ (∃ g1 g2, x = .func (.func 145) #[] #[.pointer (some ⟨g2, 0, none⟩), .pointer (some ⟨g1, 0, none⟩)] ∧ N = [(g2, oc #[.int .i64 k] 3), (g1, oc #[.int .u64 q] 24)]) ∧ Below u.heap.size u w'' ∧ ∀ y ∈ N, u.heap.size ≤ y.1 ∧ w''.heap[y.1]? = some y.2) := by
 refine (nonces_any q k u).mono ?_
 rintro e w' ⟨rfl, rfl⟩
 refine ⟨_, _, rfl, ⟨_, _, rfl, rfl⟩, ((Below.refl _ _).alloc (Nat.le_refl _) _).alloc (by simp) _, fun y hy => ?_⟩
 have E := ((EnvX.start u).two (.cells #[.int .u64 q] 24) (.cells #[.int .i64 k] 3))
 rcases List.mem_cons.1 hy with rfl | hy
 · exact ⟨Nat.le_succ _, E.box _ _ mH⟩
 · cases mS.1 hy
   exact ⟨Nat.le_refl _, E.box _ _ (mT mH)⟩
section
variable {a : Act} {dst : Option Tmp} {x y : Operand} {ty : TypeId} {pos : String} {after : Array Edge} {gd : Option (Nat × Bool)}
theorem minI_op {m k r : Int} (u : World) (hr : min m k = r) (hx : a.eval x = .int .i64 m) (hy : a.eval y = .int .i64 k) :
  (execOp a.eval ⟨dst, .call { callee := .builtin .min, args := #[x, y], argTypes := #[3, 3] }, ty, pos, after, gd⟩).run Tryz.prog u = .ok (.value (.int .i64 r)) u := by
 subst hr
 unfold execOp
 simp only [resolve, invoke, builtin, Sem.run_bind, Sem.run_pure, Result.andThen_ok, List.map_toArray, List.map_cons, List.map_nil, hx, hy]
 go_simp
 all_goals (split <;> omega)
end
theorem oneBoolH : ∀ w, (isAgg 4).run Tryz.prog w = .ok false w := fun w => by simp [isAgg, run_underlying underlying4]
theorem infoBoolH : (Tryz.prog.info? 4).map (·.size) = some 1 := by kernel_rfl
theorem hdA_put {h : Hd} (k : lenH h) (z : Nat) : (hdA h).setIfInBounds 134 (.int .u64 (z : Int)) = hdA { h with nonce := z } := by
 obtain ⟨p, hp, hl⟩ : ∃ p : List Value, (∀ n : Nat, hdC { h with nonce := n } = p ++ [.int .u64 (n : Int)]) ∧ p.length = 134 := by
  refine ⟨[.int .i64 h.height] ++ ((arrB 32 h.prev).toList ++ ((arrB 32 h.links).toList ++ ((arrB 32 h.txs).toList ++ ((arrB 32 h.past).toList ++ ((wcs h.work).toList ++ [.int .u32 h.bits]))))), fun n => ?_, ?_⟩
  · unfold hdC
    simp only [aA]
  · simp only [lA, idA_list k.1, idA_list k.2.1, idA_list k.2.2.1, idA_list k.2.2.2, wcs_list, List.length_cons, List.length_nil]
 have e1 : hdC h = p ++ [.int .u64 (h.nonce : Int)] := hp h.nonce
 unfold hdA
 rw [e1, hp z, List.setIfInBounds_toArray, List.set_append_right _ _ (by omega), hl]
 rfl
attribute [local go_sem] Oper.semAt_some
theorem hmine_any (h : Hd) (tries : Int) (w : World) (hh : okHd h) (ht : I64 tries) (hT : Tables w) :
  Calls Tryz.prog 46 #[hdV h, .int .i64 tries] w fun e w' => e = .returned (.tuple #[hdV (mineH h tries).1, .bool (mineH h tries).2]) ∧ Below w.heap.size w w' := by
 have HL := Lib.hid hh.len
 have HOK := Lib.hid hh
 have HTB := Lib.hid hT
 have HLE : Hid (w.heap.size ≤ w.heap.size + 1) := by show _ ≤ _; omega
 have HZN : Hid (lenH noHd) := ⟨rfl, rfl, rfl, rfl⟩
 have HLE2 : Hid (w.heap.size ≤ w.heap.size + 1 + 1) := by show _ ≤ _; omega
 obtain ⟨K, hK⟩ : ∃ K, (min tries 200).toNat = K := ⟨_, rfl⟩
 have HK := Lib.hid hK
 obtain ⟨cnt, hcnt⟩ : ∃ cnt, min tries 200 = cnt := ⟨_, rfl⟩
 have HCN := Lib.hid hcnt
 have E1 : Hid (EnvX w (((w.alloc (.cells (hdA h) 29)).alloc (.cells (hdA noHd) 29)).alloc (.cells #[.bool false] 4)) [(w.heap.size + 1 + 1, Obj.cells #[.bool false] 4 (0, 0)), (w.heap.size + 1, Obj.cells (hdA noHd) 29 (0, 0)), (w.heap.size, Obj.cells (hdA h) 29 (0, 0))]) := by
  have k := ((EnvX.start w).two (.cells (hdA h) 29) (.cells (hdA noHd) 29)).new (.cells #[.bool false] 4)
  rwa [World.size_alloc, World.size_alloc] at k
 obtain ⟨res, hres⟩ : ∃ res, mineH h tries = res := ⟨_, rfl⟩
 have HRES := Lib.hid hres
 rw [hres]
 clear hres
 unfold I64 at ht
 clear hh hT
 unfold hdV
 refine (callsIn_wide (n := 4)).1 (callsIn_of_wp_marks func46 rfl trivial ((wpIn_wide (n := 4)).2 ?_) rfl)
 simp only [ntmps46, List.size_toArray, List.length_cons, List.length_nil, Nat.reduceAdd, Nat.reduceSub, Array.replicate_succ, Array.replicate_zero, List.push_toArray, List.append_toArray, List.nil_append, List.cons_append]
 go_upto_region 1 with (fail)
 rw [← zero_hdA]
 generalize ((w.alloc (.cells (hdA h) 29)).alloc (.cells (hdA noHd) 29)).alloc (.cells #[.bool false] 4) = W at *
 refine rgP [0] [1, 2] E1 rfl ?_; intro hw1 hone
 (refine wpG_val (v := hdV h) rfl rfl (fun u hu => load_any_op u (box_hd hu (List.Mem.tail _ (List.Mem.tail _ (List.Mem.head _))) HL.out) rfl) ?_ hw1; intro K hK; go_big_quiet_op; go_big_quiet_on)
 clear hone hw1
 refine wpG_nil ?_
 refine (hOp_fresh (R := fun x N => ∃ g, x = .pointer (some ⟨g, 0, none⟩) ∧ N = [(g, Obj.cells (hdA noHd) 29 (0, 0))]) (M0 := [(w.heap.size + 1 + 1, Obj.cells #[.bool false] 4 (0, 0)), (w.heap.size + 1, Obj.cells (hdA noHd) 29 (0, 0)), (w.heap.size, Obj.cells (hdA h) 29 (0, 0))]) rfl rfl (fun _ h => h) (fun u hu => FAt_new (new_hd _) u) ?_)
 rintro _ _ ⟨gx, rfl, rfl⟩ hf he2; intro K' hK'; go_big_quiet_op; go_big_quiet_on
 have HGX := Lib.hid (hf _ (List.mem_singleton.2 rfl))
 clear hf
 change lexH _ _ _ _ _ _ [(gx, Obj.cells (hdA noHd) 29 (0, 0)), (w.heap.size + 1 + 1, Obj.cells #[.bool false] 4 (0, 0)), (w.heap.size + 1, Obj.cells (hdA noHd) 29 (0, 0)), (w.heap.size, Obj.cells (hdA h) 29 (0, 0))]
 refine (hOp_store rfl (gx) (hdA h) rfl rfl HGX.out.1 29 ((hdA noHd)) (List.Mem.head _) (infoHd _ (hdA_size HL.out)) ((hdA_size HZN.out).trans (hdA_size HL.out).symm) (hdA_one _) [(gx, Obj.cells (hdA h) 29 (0, 0)), (w.heap.size + 1 + 1, Obj.cells #[.bool false] 4 (0, 0)), (w.heap.size + 1, Obj.cells (hdA noHd) 29 (0, 0)), (w.heap.size, Obj.cells (hdA h) 29 (0, 0))] (List.forall_mem_cons.2 ⟨.inl rfl, fun y hy => .inr ⟨List.mem_cons_of_mem _ hy, HGX.out.2 y hy⟩⟩) ?_)
 intro he3
 intro u5 E2'
 have EX4 := Lib.hid E2'
 clear E2'
 go_upto_region 2 with (fail)
 refine rgP [0, 1, 2, 3] [4] EX4 rfl ?_; intro hw6 hone
 (refine wpG_op rfl rfl rfl ?_; intro K hK; go_big_quiet_op; go_big_quiet_on)
 (refine wpG_val (v := .int .u64 (h.nonce : Int)) rfl rfl (fun u hu => load_any_op u (box_hd_nonce hu (List.Mem.tail _ (List.Mem.tail _ (List.Mem.tail _ (List.Mem.head _)))) HL.out) rfl) ?_ hw6; intro K hK; go_big_quiet_op; go_big_quiet_on)
 (refine wpG_op rfl rfl rfl ?_; intro K hK; go_big_quiet_op; go_big_quiet_on)
 (refine wpG_val (v := .int .i64 cnt) rfl rfl (fun u hu => minI_op u HCN.out rfl rfl) ?_ hw6; intro K hK; go_big_quiet_op; go_big_quiet_on)
 clear hone hw6
 refine wpG_nil ?_
 refine (hOp_fresh (R := fun x N => ∃ g1 g2, x = .func (.func 145) #[] #[.pointer (some ⟨g2, 0, none⟩), .pointer (some ⟨g1, 0, none⟩)] ∧ N = [(g2, Obj.cells #[.int .i64 cnt] 3 (0, 0)), (g1, Obj.cells #[.int .u64 (h.nonce : Int)] 24 (0, 0))]) (M0 := [(gx, Obj.cells (hdA h) 29 (0, 0)), (w.heap.size + 1 + 1, Obj.cells #[.bool false] 4 (0, 0)), (w.heap.size + 1, Obj.cells (hdA noHd) 29 (0, 0)), (w.heap.size, Obj.cells (hdA h) 29 (0, 0))]) rfl rfl (fun _ h => h) (fun u hu => FAt_call (fid := 93) (xs := #[.tmp 10, .tmp 12]) (args := #[.int .u64 (h.nonce : Int), .int .i64 cnt]) rfl func93 rfl rfl u (callsR_nonces)) ?_)
 rintro _ _ ⟨gf, gc, rfl, rfl⟩ hf he7; intro K' hK'; go_big_quiet_op; go_big_quiet_on
 have HGC := Lib.hid (hf _ (List.Mem.head _))
 have HGF := Lib.hid (hf _ (List.Mem.tail _ (List.Mem.head _)))
 clear hf
 change lexH _ _ _ _ _ _ [(gc, Obj.cells #[.int .i64 cnt] 3 (0, 0)), (gf, Obj.cells #[.int .u64 (h.nonce : Int)] 24 (0, 0)), (gx, Obj.cells (hdA h) 29 (0, 0)), (w.heap.size + 1 + 1, Obj.cells #[.bool false] 4 (0, 0)), (w.heap.size + 1, Obj.cells (hdA noHd) 29 (0, 0)), (w.heap.size, Obj.cells (hdA h) 29 (0, 0))]
 refine enL fun u9 EX8 => ?_
 clear he2 he3 EX4 E1
 have EX := EX8.out
 clear EX8
 have hsz := EX.bel.size
 have hnon := HOK.out.2.2.2.2.2.2.2
 have hcn : I64 cnt := by unfold I64; omega
 have hck : cnt.toNat = K := by omega
 have HGX2 : Hid (w.heap.size ≤ gx ∧ gx ≠ gc ∧ gx ≠ gf ∧ gx ≠ w.heap.size + 1 + 1 ∧ gx ≠ w.heap.size + 1 ∧ gx ≠ w.heap.size) := by
  have a1 := HGX.out.2 _ (List.Mem.head _)
  have a2 := HGX.out.2 _ (List.Mem.tail _ (List.Mem.head _))
  have a3 := HGX.out.2 _ (List.Mem.tail _ (List.Mem.tail _ (List.Mem.head _)))
  have b1 := HGC.out.2 _ (List.Mem.head _)
  have b2 := HGF.out.2 _ (List.Mem.head _)
  dsimp only at a1 a2 a3 b1 b2
  exact ⟨HGX.out.1, b1, b2, Ne.symm a1, Ne.symm a2, Ne.symm a3⟩
 have HGF2 : Hid (gf ≠ w.heap.size + 1 + 1 ∧ gf ≠ w.heap.size + 1) := by
  have b1 := HGF.out.2 _ (List.Mem.tail _ (List.Mem.head _))
  have b2 := HGF.out.2 _ (List.Mem.tail _ (List.Mem.tail _ (List.Mem.head _)))
  dsimp only at b1 b2
  exact ⟨Ne.symm b1, Ne.symm b2⟩
 have HCL : Hid (∀ (m : Nat), ∀ x ∈ [(gc, Obj.cells #[.int .i64 cnt] 3 (0, 0)), (gf, Obj.cells #[.int .u64 (h.nonce : Int)] 24 (0, 0)), (gx, Obj.cells (hdA { h with nonce := m }) 29 (0, 0)), (w.heap.size + 1 + 1, Obj.cells #[.bool false] 4 (0, 0)), (w.heap.size + 1, Obj.cells (hdA noHd) 29 (0, 0)), (w.heap.size, Obj.cells (hdA h) 29 (0, 0))], x.2.isCells = true) := fun m x hx => by
  simp only [List.mem_cons, List.not_mem_nil, or_false] at hx
  rcases hx with rfl | rfl | rfl | rfl | rfl | rfl <;> rfl
 go_wp2_with fail
 refine (wpIn_wide (n := 4)).1 ?_
 refine wpIn_rangeFunc_ownF (F := Fence.wide) (α := Nat) (gf := 145) (lb := #[.pointer (some ⟨gc, 0, none⟩), .pointer (some ⟨gf, 0, none⟩)]) rfl (by decide) rfl trivial (enters_of func145 (by kernel_rfl) rfl)
  (nonces_stops 3 (by decide) gc gf w.heap.size h.nonce hnon cnt K hcn hck u9 (EnvX.box EX _ _ (List.Mem.head _)) (EnvX.box EX _ _ (List.Mem.tail _ (List.Mem.head _)))) KpB.trans (KpB.put hsz (EnvX.lt EX (List.Mem.tail _ (List.Mem.head _)))) (Below.refl _ _) (fun _ => rfl)
  (fun pre W => (∀ x ∈ pre, mayH (nonceAt h x) = false) ∧ ∃ m : Nat, EnvX w W [(gc, Obj.cells #[.int .i64 cnt] 3 (0, 0)), (gf, Obj.cells #[.int .u64 (h.nonce : Int)] 24 (0, 0)), (gx, Obj.cells (hdA { h with nonce := m }) 29 (0, 0)), (w.heap.size + 1 + 1, Obj.cells #[.bool false] 4 (0, 0)), (w.heap.size + 1, Obj.cells (hdA noHd) 29 (0, 0)), (w.heap.size, Obj.cells (hdA h) 29 (0, 0))])
  (fun c pre W => c = .ret ∧ ∃ (pre' : List Nat) (k : Nat), pre = pre' ++ [k] ∧ (∀ x ∈ pre', mayH (nonceAt h x) = false) ∧ mayH (nonceAt h k) = true ∧ EnvX w W [(w.heap.size + 1 + 1, Obj.cells #[.bool true] 4 (0, 0)), (w.heap.size + 1, Obj.cells (hdA (nonceAt h k)) 29 (0, 0))])
  (fun s A B row hs hg hr => ⟨hs.1, hs.2.imp fun m he => envx_turn he (HCL.out m) hsz hg hr⟩)
  (fun c s A B row hs hg hr => ⟨hs.1, hs.2.imp fun pre' hs => hs.imp fun k hs => ⟨hs.1, hs.2.1, hs.2.2.1, envx_turn hs.2.2.2 (fun x hx => by
   simp only [List.mem_cons, List.not_mem_nil, or_false] at hx
   rcases hx with rfl | rfl <;> rfl) hsz hg hr⟩⟩)
  ⟨(fun x hx => by cases hx), h.nonce, EX⟩
  (fun k => { tmps := #[.agg (hdA h), .int .i64 tries, .pointer (some ⟨w.heap.size, 0, none⟩), undef, .pointer (some ⟨w.heap.size + 1, 0, none⟩), .pointer (some ⟨w.heap.size + 1 + 1, 0, none⟩), .pointer (some ⟨gx, 0, none⟩), .int .u64 (nextN h.nonce k : Int), hdV h, .pointer (some ⟨w.heap.size, 134, none⟩), .int .u64 (h.nonce : Int), .int .i64 tries, .int .i64 cnt, .func (.func 145) #[] #[.pointer (some ⟨gc, 0, none⟩), .pointer (some ⟨gf, 0, none⟩)], .int .u64 (nextN h.nonce k : Int), undef, undef, undef, undef, undef, undef], defers := [] }) ?assign ?body ?done ?stop
 case assign =>
  intro l k W K hK
  gi_wp2
  exact hK
 case body =>
  rintro l pre k W ⟨hno, m, hI⟩ hlen
  have r0 : Row W gx 29 (hdA { h with nonce := m }) := EnvX.box hI _ _ (List.Mem.tail _ (List.Mem.tail _ (List.Mem.head _)))
  have hc : W.cell? ⟨gx, 134, none⟩ = some (.int .u64 (m : Int)) := (r0.cell 134).trans (hdC_nonce (h := { h with nonce := m }) HL.out)
  have hf := r0.frozen 134
  refine wpIn_block (wpIn_seq ?_)
  refine region_round_list (by kernel_rfl) (fun h => by obtain ⟨_, _, h⟩ := h; exact h) ?_
  go_wp2
  have E1 : Hid (EnvX w (W.setCell ⟨gx, 134, none⟩ (.int .u64 (nextN h.nonce k : Int))) [(gc, Obj.cells #[.int .i64 cnt] 3 (0, 0)), (gf, Obj.cells #[.int .u64 (h.nonce : Int)] 24 (0, 0)), (gx, Obj.cells (hdA (nonceAt h k)) 29 (0, 0)), (w.heap.size + 1 + 1, Obj.cells #[.bool false] 4 (0, 0)), (w.heap.size + 1, Obj.cells (hdA noHd) 29 (0, 0)), (w.heap.size, Obj.cells (hdA h) 29 (0, 0))]) := by
   refine ⟨hI.bel.setCell (p := ⟨gx, 134, none⟩) HGX2.out.1 _, fun g o hm => ?_⟩
   have hne : ∀ g' o', (g', o') ∈ [(gc, Obj.cells #[.int .i64 cnt] 3 (0, 0)), (gf, Obj.cells #[.int .u64 (h.nonce : Int)] 24 (0, 0)), (gx, Obj.cells (hdA { h with nonce := m }) 29 (0, 0)), (w.heap.size + 1 + 1, Obj.cells #[.bool false] 4 (0, 0)), (w.heap.size + 1, Obj.cells (hdA noHd) 29 (0, 0)), (w.heap.size, Obj.cells (hdA h) 29 (0, 0))] → gx ≠ g' → (W.setCell ⟨gx, 134, none⟩ (.int .u64 (nextN h.nonce k : Int))).heap[g']? = some o' := fun g' o' hm hn => (Below.heap_setCell W ⟨gx, 134, none⟩ _ g' (Ne.symm hn)).trans (hI.box g' o' hm)
   have hG := HGX2.out.2
   simp only [List.mem_cons, Prod.mk.injEq, List.not_mem_nil, or_false] at hm
   rcases hm with ⟨rfl, rfl⟩ | ⟨rfl, rfl⟩ | ⟨rfl, rfl⟩ | ⟨rfl, rfl⟩ | ⟨rfl, rfl⟩ | ⟨rfl, rfl⟩
   · exact hne _ _ (List.Mem.head _) hG.1
   · exact hne _ _ (List.Mem.tail _ (List.Mem.head _)) hG.2.1
   · have := r0.put 134 (.int .u64 (nextN h.nonce k : Int))
     rw [hdA_put (h := { h with nonce := m }) HL.out] at this
     exact this
   · exact hne _ _ (List.Mem.tail _ (List.Mem.tail _ (List.Mem.tail _ (List.Mem.head _)))) hG.2.2.1
   · exact hne _ _ (List.Mem.tail _ (List.Mem.tail _ (List.Mem.tail _ (List.Mem.tail _ (List.Mem.head _))))) hG.2.2.2.1
   · exact hne _ _ (List.Mem.tail _ (List.Mem.tail _ (List.Mem.tail _ (List.Mem.tail _ (List.Mem.tail _ (List.Mem.head _)))))) hG.2.2.2.2
  have HKO : Hid (KeepsOthers W (W.setCell ⟨gx, 134, none⟩ (.int .u64 (nextN h.nonce k : Int))) ∧ Below w.heap.size W (W.setCell ⟨gx, 134, none⟩ (.int .u64 (nextN h.nonce k : Int)))) := ⟨KeepsOthers.setCell _ _ _, (Below.refl _ _).setCell (p := ⟨gx, 134, none⟩) HGX2.out.1 _⟩
  have HNO := Lib.hid hno
  have HI := Lib.hid hI
  have HLK : lenH (nonceAt h k) := HL.out
  have HWS : Hid (w.heap.size ≤ W.heap.size) := hI.bel.size
  clear hc hf r0 hno hI
  generalize W.setCell ⟨gx, 134, none⟩ (.int .u64 (nextN h.nonce k : Int)) = W1 at *
  refine wpIn_seq ?_
  refine region_round_list (by kernel_rfl) (fun h => by obtain ⟨_, _, h⟩ := h; exact h) ?_
  have HLD : Hid ((loadVar 29 ⟨gx, 0, none⟩).run Tryz.prog W1 = .ok (.agg (hdA (nonceAt h k))) W1) := box_hd E1.out (List.Mem.tail _ (List.Mem.tail _ (List.Mem.head _))) HLK
  go_wp2_with ((with_reducible refine wpList_load_run (o := ⟨some 17, _, _, _, _, _⟩) ?_ 29 (.tmp 6) ?_ ⟨gx, 0, none⟩ ?_ HLD.out ?_); (rfl); (rfl); (rfl))
  refine (hmay_any (nonceAt h k) W1 (okHd_nonce HOK.out k) (HTB.out.below E1.out.bel)).mono ?_
  rintro e W2 ⟨rfl, hb2⟩
  have E2 : Hid (EnvX w W2 [(gc, Obj.cells #[.int .i64 cnt] 3 (0, 0)), (gf, Obj.cells #[.int .u64 (h.nonce : Int)] 24 (0, 0)), (gx, Obj.cells (hdA (nonceAt h k)) 29 (0, 0)), (w.heap.size + 1 + 1, Obj.cells #[.bool false] 4 (0, 0)), (w.heap.size + 1, Obj.cells (hdA noHd) 29 (0, 0)), (w.heap.size, Obj.cells (hdA h) 29 (0, 0))]) := EnvX.below E1.out hb2
  have HKO2 : Hid (KeepsOthers W W2 ∧ Below w.heap.size W W2) := ⟨HKO.out.1.trans (keepsOthers_below hb2), HKO.out.2.trans (hb2.mono (Nat.le_trans HWS.out HKO.out.2.size))⟩
  clear hb2 E1 HLD HKO
  cases hm : mayH (nonceAt h k) with
  | false =>
   have HNO2 : Hid (∀ x ∈ pre ++ [k], mayH (nonceAt h x) = false) := fun x hx => by
     rcases List.mem_append.1 hx with hx | hx
     · exact HNO.out x hx
     · cases List.mem_singleton.1 hx
       exact hm
   clear hm
   go_wp2
   refine wpIn_cond_false rfl (wpIn_skip ?_)
   exact ⟨HKO2.out.1, ⟨HKO2.out.2, fun o ho => by
     rw [EnvX.box HI.out _ _ (List.Mem.tail _ (List.Mem.head _))] at ho
     cases ho
     exact EnvX.box E2.out _ _ (List.Mem.tail _ (List.Mem.head _))⟩, HNO2.out, nextN h.nonce k, E2.out⟩
  | true =>
   go_wp2
   refine wpIn_cond_true rfl (wpIn_seq ?_)
   refine region_round_list (by kernel_rfl) (fun h => by obtain ⟨_, _, h⟩ := h; exact h) ?_
   have HM := Lib.hid hm
   have HLD : Hid ((loadVar 29 ⟨gx, 0, none⟩).run Tryz.prog W2 = .ok (.agg (hdA (nonceAt h k))) W2) := box_hd E2.out (List.Mem.tail _ (List.Mem.tail _ (List.Mem.head _))) HLK
   have R1 : Hid (W2.heap[w.heap.size + 1]? = some (.cells (hdA noHd) 29 (0, 0))) := EnvX.box E2.out _ _ (List.Mem.tail _ (List.Mem.tail _ (List.Mem.tail _ (List.Mem.tail _ (List.Mem.head _)))))
   have R2 : Hid (Row (W2.setRow (w.heap.size + 1) (hdA (nonceAt h k))) (w.heap.size + 1 + 1) 4 #[.bool false]) := Row.setRowFar (EnvX.box E2.out _ _ (List.Mem.tail _ (List.Mem.tail _ (List.Mem.tail _ (List.Mem.head _))))) (by omega)
   have R3 : Hid (Row (W2.setRow (w.heap.size + 1) (hdA (nonceAt h k))) (w.heap.size + 1) 29 (hdA (nonceAt h k))) := Row.setRow R1.out
   have hc2 := R2.out.cell 0
   have hf2 := R2.out.frozen 0
   have HK3 : Hid (KeepsOthers W (W2.setRow (w.heap.size + 1) (hdA (nonceAt h k))) ∧ Below w.heap.size W (W2.setRow (w.heap.size + 1) (hdA (nonceAt h k)))) := ⟨HKO2.out.1.trans (KeepsOthers.setRow' R1.out), below_setRow HKO2.out.2 (Nat.le_succ _) _⟩
   have hszk : Hid ((hdA (nonceAt h k)).size = 135) := hdA_size HLK
   have hsz0 : Hid ((hdA noHd).size = 135) := hdA_size HZN.out
   have ho := Lib.hid (hdA_one (nonceAt h k))
   clear hm E2 HKO2
   generalize hE2 : hdA (nonceAt h k) = cs at *
   have HE := Lib.hid hE2
   clear hE2
   generalize hdA noHd = zs at *
   go_wp2_with (first
     | ((with_reducible refine wpList_load_run (o := ⟨some 19, _, _, _, _, _⟩) ?_ 29 (.tmp 6) ?_ ⟨gx, 0, none⟩ ?_ HLD.out ?_); (rfl); (rfl); (rfl))
     | ((with_reducible refine wpList_store_row (o := ⟨none, .store 29 _ _, _, _, _, _⟩) ?_ 29 (.tmp 4) (.tmp 19) ?_ (w.heap.size + 1) cs ?_ ?_ 29 zs R1.out (infoHd cs hszk.out) (by rw [hsz0.out, hszk.out]) ho.out ?_); (rfl); (rfl); (rfl); (rfl)))
   refine wpIn_ret ?_
   refine ⟨HK3.out.1.trans (KeepsOthers.setCell _ _ _), rfl, pre, k, rfl, HNO.out, HM.out, ⟨?_, fun g o hm => ?_⟩⟩
   · exact (HI.out.bel.trans HK3.out.2).setCell (p := ⟨w.heap.size + 1 + 1, 0, none⟩) (by show w.heap.size ≤ w.heap.size + 1 + 1; omega) _
   · rw [HE.out] at hm
     simp only [List.mem_cons, Prod.mk.injEq, List.not_mem_nil, or_false] at hm
     rcases hm with ⟨rfl, rfl⟩ | ⟨rfl, rfl⟩
     · exact R2.out.put 0 (.bool true)
     · exact R3.out.farAt (by omega) _
 case done =>
  rintro D ys W hD rfl ⟨hno, m, hI⟩ hK
  have HMI : mineH h tries = (h, false) := mine_none (by rw [HK.out]; exact fun j hj => hno j (List.mem_range.2 hj))
  have hs1 := EnvX.lt EX (List.Mem.tail _ (List.Mem.tail _ (List.Mem.tail _ (List.Mem.tail _ (List.Mem.head _)))))
  have hs2 := EnvX.lt EX (List.Mem.tail _ (List.Mem.tail _ (List.Mem.tail _ (List.Mem.head _))))
  have HD : Hid (w.heap.size + 1 ≠ D ∧ w.heap.size + 1 + 1 ≠ D ∧ w.heap.size ≤ D) := ⟨by omega, by omega, by omega⟩
  have EI : Hid (EnvX w W [(D, Obj.deferred (some [])), (w.heap.size + 1 + 1, Obj.cells #[.bool false] 4 (0, 0)), (w.heap.size + 1, Obj.cells (hdA noHd) 29 (0, 0)), (w.heap.size, Obj.cells (hdA h) 29 (0, 0))]) := ⟨hI.bel, fun g o hm => (List.mem_cons.1 hm).elim (fun e => by cases e; exact hK) (fun hm => hI.box g o (List.mem_cons_of_mem _ (List.mem_cons_of_mem _ (List.mem_cons_of_mem _ hm))))⟩
  have HRE : Hid (res = (h, false)) := HRES.out.symm.trans HMI
  clear hno hI hK hs1 hs2 hD HMI EX
  go_upto_region 7 with (fail)
  refine rgP [0] [1, 2] EI rfl ?_; intro hw701 hone
  (refine wpG_val (v := hdV h) rfl rfl (fun u hu => load_any_op u (box_hd hu (List.Mem.tail _ (List.Mem.tail _ (List.Mem.tail _ (List.Mem.head _)))) HL.out) rfl) ?_ hw701; intro K hK; go_big_quiet_op; go_big_quiet_on)
  clear hone hw701
  refine wpG_nil ?_
  refine (hOp_store rfl (w.heap.size + 1) (hdA h) rfl rfl HLE.out 29 ((hdA noHd)) (List.Mem.tail _ (List.Mem.tail _ (List.Mem.head _))) (infoHd _ (hdA_size HL.out)) ((hdA_size HZN.out).trans (hdA_size HL.out).symm) (hdA_one _) [(w.heap.size + 1, Obj.cells (hdA h) 29 (0, 0)), (w.heap.size + 1 + 1, Obj.cells #[.bool false] 4 (0, 0)), (D, Obj.deferred (some []))] (List.forall_mem_cons.2 ⟨.inl rfl, List.forall_mem_cons.2 ⟨.inr ⟨(List.Mem.tail _ (List.Mem.head _)), (by show w.heap.size + 1 + 1 ≠ _; omega)⟩, List.forall_mem_cons.2 ⟨.inr ⟨(List.Mem.head _), (Ne.symm HD.out.1)⟩, (fun _ h => by cases h)⟩⟩⟩) ?_)
  intro he702
  refine (hOp_putAt rfl (w.heap.size + 1 + 1) (0) (.bool false) rfl rfl HLE2.out 4 (#[.bool false]) (#[.bool false]) (List.Mem.tail _ (List.Mem.head _)) infoBoolH (by decide) (by simp [Value.cells]; rfl) rfl [(w.heap.size + 1 + 1, Obj.cells (#[.bool false]) 4 (0, 0)), (w.heap.size + 1, Obj.cells (hdA h) 29 (0, 0)), (D, Obj.deferred (some []))] (List.forall_mem_cons.2 ⟨.inl rfl, List.forall_mem_cons.2 ⟨.inr ⟨(List.Mem.head _), (by show w.heap.size + 1 ≠ _; omega)⟩, List.forall_mem_cons.2 ⟨.inr ⟨(List.Mem.tail _ (List.Mem.tail _ (List.Mem.head _))), (Ne.symm HD.out.2.1)⟩, (fun _ h => by cases h)⟩⟩⟩) ?_)
  intro he703
  intro u705 E2'
  have EX704 := Lib.hid E2'
  clear E2'
  have EJ := EX704.out
  clear EX704
  have hkD := EnvX.box EJ _ _ (List.Mem.tail _ (List.Mem.tail _ (List.Mem.head _)))
  have hbelD : Hid (Below w.heap.size w (u705.putObj D (.deferred none))) := EJ.bel.trans (belowK_b (w := w) (Nat.le_refl _) u705 D _ _ HD.out.2.2 hkD rfl rfl)
  have g1 : (u705.putObj D (.deferred none)).heap[w.heap.size + 1]? = some (.cells (hdA h) 29 (0, 0)) := (World.putObj_heap_other HD.out.1).trans (EnvX.box EJ _ _ (List.Mem.tail _ (List.Mem.head _)))
  have g2 : Row (u705.putObj D (.deferred none)) (w.heap.size + 1 + 1) 4 #[.bool false] := (World.putObj_heap_other HD.out.2.1).trans (EnvX.box EJ _ _ (List.Mem.head _))
  have HKD := Lib.hid hkD
  have HG := Lib.hid (And.intro g1 g2)
  clear EJ hkD g1 g2
  go_wp2
  refine ⟨by simp, .inl ⟨_, _, rfl, run_takeDeferred HKD.out, ?_⟩⟩
  exact ⟨_, results_row_cell (p := 4) (q := 5) (ty := 29) (ty' := 4) results46 _ _ (w.heap.size + 1) (w.heap.size + 1 + 1) 29 (hdA h) (0, 0) _ rfl rfl (.bool false) (run_load_one oneBoolH _ (HG.out.2.cell 0)) HG.out.1 underlying29 rfl (infoHd _ (hdA_size HL.out)), by rw [HRE.out], hbelD.out⟩
 case stop =>
  rintro D c pre W hD ⟨j, hpre, hj⟩ ⟨rfl, pre', k, hpk, hno, hyes, hI⟩ hK
  obtain ⟨rfl, hkj⟩ := List.append_inj' (hpk.symm.trans (hpre.trans List.range_succ)) rfl
  obtain rfl : k = j := by simpa using hkj
  have HMI : mineH h tries = (nonceAt h k, true) := mine_some (by rw [HK.out]; exact hj) (fun i hi => hno i (List.mem_range.2 hi)) hyes
  have HLK : lenH (nonceAt h k) := HL.out
  have hs1 := EnvX.lt EX (List.Mem.tail _ (List.Mem.tail _ (List.Mem.tail _ (List.Mem.tail _ (List.Mem.head _)))))
  have hs2 := EnvX.lt EX (List.Mem.tail _ (List.Mem.tail _ (List.Mem.tail _ (List.Mem.head _))))
  have hbelD : Hid (Below w.heap.size w (W.putObj D (.deferred none))) := hI.bel.trans (belowK_b (w := w) (Nat.le_refl _) W D _ _ (by omega) hK rfl rfl)
  have g1 : (W.putObj D (.deferred none)).heap[w.heap.size + 1]? = some (.cells (hdA (nonceAt h k)) 29 (0, 0)) := (World.putObj_heap_other (by omega)).trans (EnvX.box hI _ _ (List.Mem.tail _ (List.Mem.head _)))
  have g2 : Row (W.putObj D (.deferred none)) (w.heap.size + 1 + 1) 4 #[.bool true] := (World.putObj_heap_other (by omega)).trans (EnvX.box hI _ _ (List.Mem.head _))
  have HKD := Lib.hid hK
  have HG := Lib.hid (And.intro g1 g2)
  have HRE : Hid (res = (nonceAt h k, true)) := HRES.out.symm.trans HMI
  refine wpIn_ret ?_
  refine ⟨by simp, .inl ⟨_, _, rfl, run_takeDeferred HKD.out, ?_⟩⟩
  exact ⟨_, results_row_cell (p := 4) (q := 5) (ty := 29) (ty' := 4) results46 _ _ (w.heap.size + 1) (w.heap.size + 1 + 1) 29 (hdA (nonceAt h k)) (0, 0) _ rfl rfl (.bool true) (run_load_one oneBoolH _ (HG.out.2.cell 0)) HG.out.1 underlying29 rfl (infoHd _ (hdA_size HLK)), by rw [HRE.out], hbelD.out⟩
theorem carry_okQ : ∀ (r : List Tot) (x : Tot), okT x → okTs r → okTs (carryT x r)
 | [], x, hx, _ => fun t ht => by cases mS.1 ht; exact hx
 | y :: r, x, hx, hr => by
  unfold carryT
  split
  · exact carry_okQ r _ join_ok (fun t ht => hr t (mT ht))
  · intro t ht
    rcases List.mem_cons.1 ht with rfl | h
    · exact hx
    · exact hr t h
theorem app_okQ {p : List Tot} {x : Tot} (hp : okTs p) (hx : okT x) : okTs (appT p x) := fun t ht => by
 unfold appT at ht
 exact carry_okQ p.reverse x hx (fun s hs => hp s (List.mem_reverse.1 hs)) t (List.mem_reverse.1 ht)
theorem up_okQ : ∀ (r : List Tot) (x : Tot), okT x → okT (upT x r)
 | [], x, hx => hx
 | y :: r, x, _ => up_okQ r _ join_ok
theorem JLeft.own {w0 w : World} {l : List Tot} {v : Value} {M' : Boxes} (h : JLeft w0 [] l v M') (hl : okTs l) (hE : EnvX w0 w M') : OwnT w w0.heap.size v l := by
 obtain ⟨N, rfl, hF, hn⟩ := h
 exact hF.own (flatT_len hl) (fun y hy => ⟨(hn y hy).1, EnvX.box hE _ _ (mL hy)⟩)
theorem mapp_any (p : List Tot) (leaf : Tot) (A : Option Addr) (n c : Nat) (w : World) (hl : p.length = n) (hn : n ≤ 1000000) (hI : okTs p) (hlf : okT leaf) (hA : TotsIn w w.heap.size A p) (ht : Tables w) :
  Calls Tryz.prog 78 #[.slice A n c, totV leaf] w fun e w' => (∃ v, e = .returned v ∧ OwnT w' w.heap.size v (appT p leaf)) ∧ Below w.heap.size w w' := by
 have HPL : Hid ((p.map totC).flatten.length = n * 37) := by show _ = _; rw [flatT_len hI, hl]
 have HLF := hD hlf
 have HNB : Hid (n ≤ 1000000) := hn
 have HOK := hD (app_okQ hI hlf)
 have HCL : Hid (∀ u, Below w.heap.size w u → Calls Tryz.prog 67 #[.slice A n c] u fun e w' => (∃ v, e = .returned v ∧ w'.ownsRow u.heap.size 56 37 v n (p.map totC).flatten) ∧ Below u.heap.size u w') := fun u hb => mclone_any p A n c u hl hn hI (hA.up hb)
 have HJL : Hid (∀ (v : Value) (N : Boxes) (u : World), FreshR 56 37 (n + 1) ((p.map totC).flatten ++ totC leaf) v N → freshN w N [] → EnvX w u (N ++ []) → Calls Tryz.prog 66 #[v, .func (.func 132) #[] #[]] u fun e w'' => ∃ x' M', e = .returned x' ∧ EnvX w w'' M' ∧ JLeft w [] (appT p leaf) x' M') := fun v N u hF hn2 hE => by
  have hlen : p.reverse.length + 1 = n + 1 := by rw [List.length_reverse, hl]
  have h := jlA w [] p.reverse leaf v N u (fun t ht => by
   rcases List.mem_cons.1 ht with rfl | h
   · exact hlf
   · exact hI t (List.mem_reverse.1 h)) (by rw [hlen]; omega) (by
   rw [hlen, List.reverse_cons, List.reverse_reverse, List.map_append, List.flatten_append, List.map_singleton, List.flatten_singleton]
   exact hF) hn2 hE ht
  rw [jl_carry] at h
  exact h
 have E1 : Hid (EnvX w (w.alloc (.cells (totA leaf) 56)) [(w.heap.size, oc (totA leaf) 56)]) := (EnvX.start w).new _
 clear hI hlf hA hl ht
 unfold totV
 go_enter func78, ntmps78
 go_upto_region 2 with (fail)
 generalize w.alloc (.cells (totA leaf) 56) = W at *
 refine rgK [0,2,5] 5 E1 rfl fun hw => ?_
 refine qo rfl hw ?_
 refine ql rfl mH HLF.out.len hw ?_
 refine qo rfl hw ?_
 refine wpG_nil <| anyH_twoFreshG (i := 1) (j := 3) (fun _ _ _ hM hh => env_perm _ _ _ hM hh) (by kernel_rfl) (by kernel_rfl) (by kernel_rfl) rfl rfl (by decide) (by kernel_rfl) rfl rfl (FreshR 56 37 n (p.map totC).flatten) (BuiltR 56 (totC leaf)) [(w.heap.size, oc (totA leaf) 56)] [(w.heap.size, oc (totA leaf) 56)] (fun _ h => h) (fun _ h => h) (fun u hu => FAt_call (fid := 67) (xs := #[.tmp 6]) (args := #[.slice A n c]) rfl func67 rfl rfl u (callsR_fresh (HCL.out u (EnvX.bel hu)))) (fun u hu => FAt_buildR elTot (totC_len HLF.out.len) (totC_one _) rfl u) ?_
 rintro x1 N1 x2 N2 hF ⟨gb, rfl, rfl⟩ hf1 hf2 he2 K1 hK1; go_big_quiet_op; go_big_quiet_on; intro K' hK'; go_big_quiet_op; go_big_quiet_on
 have HF := hD hF
 have HN := hD hf1
 clear hF
 clear hf1 hf2
 change anyH _ _ _ _ _ _ _ _ ((gb, oc (totC leaf).toArray 56) :: (N1 ++ ((w.heap.size, oc (totA leaf) 56) :: [])))
 refine aO 4 (hOp_own (gd := none) (R := GrownR w 56 37 (n + 1) ((p.map totC).flatten ++ totC leaf) []) rfl rfl rfl rfl (fun u hu => appX_op elTot (m := 1) [] hu HPL.out (by rw [Nat.one_mul]; exact totC_len HLF.out.len) (totC_one _) HF.out (fun y hy => ⟨mT (mL hy), (HN.out y hy).1⟩) (src_box (k := 0) hu mH (by rw [List.drop_zero, List.take_length])) (fun _ h => by cases h) (by have := HNB.out; omega) rfl rfl) ?_)
 rintro x9 M' ⟨N2, rfl, hF2, hn2⟩ he3; intro K' hK'; go_big_quiet_op; go_big_quiet_on
 have HF2 := hD (And.intro hF2 hn2)
 clear hF2 hn2
 change anyH _ _ _ _ _ _ _ _ (N2 ++ [])
 refine aO 6 (hOp_turn (gd := none) (R := JLeft w [] (appT p leaf)) rfl rfl rfl rfl (fun u hu => OUpon_call (fid := 66) (xs := #[.tmp 10, .tmp 11]) (args := #[x9, .func (.func 132) #[] #[]]) rfl func66 rfl rfl u (HJL.out x9 N2 u HF2.out.1 HF2.out.2 hu)) ?_)
 rintro x7 M' ⟨N7, rfl, hF7, hn7⟩ he4; intro K' hK'; go_big_quiet_op; go_big_quiet_on
 have HJ : Hid (JLeft w [] (appT p leaf) x7 (N7 ++ [])) := ⟨N7, rfl, hF7, hn7⟩
 clear hF7 hn7
 refine phF [7] 0 rfl he4 fun hw => ?_
 refine qo rfl hw ?_
 refine eH fun u7 EX6 => ?_
 go_wp2
 go_ret
 exact ⟨⟨_, rfl, HJ.out.own HOK.out EX6.out⟩, EnvX.bel EX6.out⟩
theorem root_load {u : World} {g : Nat} {cur : Array Value} {x : Tot} (hu : Row u g 56 cur) (hx : okT x) (hc : cur.toList.take ([x].length * 37) = ([x].map totC).flatten) : (loadVar 56 ((⟨g, 0, none⟩ : Addr).add (0 * 37))).run Tryz.prog u = .ok (totV x) u := by
 have hok : okTs [x] := fun t ht => by cases mS.1 ht; exact hx
 obtain ⟨a1, e1, h1⟩ := (row_tots (cap := 0) hu hok rfl hc).loads hok (k := 0) (by simp)
 cases e1
 exact (h1 u (EnvX.start u)).1
theorem mroot_any (p : List Tot) (A : Option Addr) (n c : Nat) (w : World) (hl : p.length = n) (hn : n ≤ 1000000) (hI : okTs p) (hA : TotsIn w w.heap.size A p) (ht : Tables w) :
   Rz 26 #[.slice A n c] w (totV (rootP p)) := by
 unfold Rz
 unfold totV
 have E1 : Hid (EnvX w (w.alloc (.cells (totA zTot) 56)) [(w.heap.size, oc (totA zTot) 56)]) := (EnvX.start w).new _
 by_cases h0 : n = 0
 · subst h0
   obtain rfl := List.eq_nil_of_length_eq_zero hl
   rw [show rootP [] = noTot from rfl]
   have HOF : Hid (∀ u g, Below w.heap.size w u → Parts u u.heap.size (some ⟨g, 0, none⟩) [[4]] → Calls Tryz.prog 64 #[.slice (some ⟨g, 0, none⟩) 1 1] u fun e w' => e = .returned (idv (sumL [4])) ∧ Below u.heap.size u w') := fun u g hb hP => shaof_any (some ⟨g, 0, none⟩) 1 1 [[4]] u rfl hP (by omega) (by decide) (ht.below hb)
   clear hI hA hl ht
   go_enter func26, ntmps26
   go_upto_region 2 with (fail)
   rw [zero_totA]
   generalize w.alloc (.cells (totA zTot) 56) = W at *
   refine wp_region_Hx (w0 := w) [0, 1, 2, 3, 4] [(w.heap.size, oc (totA zTot) 56)] rfl E1.out ?_
   refine (hOp_fresh (R := fun v N => ∃ g, v = .slice (some ⟨g, 0, none⟩) 1 1 ∧ N = [(g, oc #[.int .u8 4] 5)]) (M0 := [(w.heap.size, oc (totA zTot) 56)]) rfl rfl (fun _ h => h) (fun u hu => FAt_byte1 4 u) ?_)
   rintro _ _ ⟨gt, rfl, rfl⟩ hf he1; intro K' hK'; go_big_quiet_op; go_big_quiet_on
   clear hf
   change lexH _ _ _ _ _ _ [(gt, oc #[.int .u8 4] 5), (w.heap.size, oc (totA zTot) 56)]
   refine (hOp_fresh (R := fun v N => ∃ g, v = .slice (some ⟨g, 0, none⟩) 1 1 ∧ N = [(g, oc #[.slice (some ⟨gt, 0, none⟩) 1 1] 106)]) (M0 := [(gt, oc #[.int .u8 4] 5), (w.heap.size, oc (totA zTot) 56)]) rfl rfl (fun _ h => h) (fun u hu => FAt_rows1 rfl u) ?_)
   rintro _ _ ⟨gr, rfl, rfl⟩ hf he2; intro K' hK'; go_big_quiet_op; go_big_quiet_on
   clear hf
   refine phE [2,3] [4] he2 fun hw => ?_
   refine qc rfl func64 (fun u hu => HOF.out u gr (EnvX.bel hu) (parts_one (EnvX.lt hu mH) (by have h := box_cell (k := 0) hu mH rfl; exact h) (boxR_bytes (cap := 1) hu (mT mH) rfl ⟨by decide, by decide, rfl, rfl⟩) (by intro x hx; cases mS.1 hx; omega))) hw ?_
   refine qv (v := .agg (totA noTot)) rfl (fun u hu => buildA_op u (built_totH (sumL_len _))) hw ?_
   refine wpG_nil <| (so rfl (Nat.le_refl _) (mT (mT mH)) (infoTot _ (totA_size noTot_ok.len)) (zTot_size.trans (totA_size noTot_ok.len).symm) (totA_one _) ?_)
   refine fun _ => enL fun u6 EX5 => ?_
   have Q0 := hD (EnvX.box EX5.out _ _ mH)
   have HBEL := hD EX5.out.bel
   clear EX5
   go_wp2_with ((with_reducible refine bodyPost_ret (v := .agg (totA (noTot))) ?_ ?_ ?_); (exact results_cell_row (p := 2) (ty := 56) results26 _ _ w.heap.size 56 (totA (noTot)) (0, 0) _ rfl Q0.out underlying56 rfl (infoTot _ (totA_size noTot_ok.len))); (rfl))
   exact HBEL.out
 · obtain ⟨q, z, rfl⟩ : ∃ q z, p = q ++ [z] := by
    rcases List.eq_nil_or_concat p with h | ⟨q, z, h⟩
    · subst h; exact absurd hl.symm h0
    · exact ⟨q, z, by rw [h, List.concat_eq_append]⟩
   have HRO : Hid (okT (rootP (q ++ [z]))) := by
    show okT _
    unfold rootP
    rw [List.reverse_append]
    exact up_okQ _ _ (hI z (mR (mS.2 rfl)))
   have HRT : rootP (q ++ [z]) = upT z q.reverse := by
    unfold rootP
    rw [List.reverse_append]
    rfl
   have HCL : Hid (∀ u, Below w.heap.size w u → Calls Tryz.prog 67 #[.slice A n c] u fun e w' => (∃ v, e = .returned v ∧ w'.ownsRow u.heap.size 56 37 v n ((q ++ [z]).map totC).flatten) ∧ Below u.heap.size u w') := fun u hb => mclone_any (q ++ [z]) A n c u hl hn hI (hA.up hb)
   have HJL : Hid (∀ (v : Value) (N : Boxes) (u : World), FreshR 56 37 n ((q ++ [z]).map totC).flatten v N → freshN w N [(w.heap.size, oc (totA zTot) 56)] → EnvX w u (N ++ [(w.heap.size, oc (totA zTot) 56)]) → Calls Tryz.prog 66 #[v, .func (.func 65) #[] #[]] u fun e w'' => ∃ x' M', e = .returned x' ∧ EnvX w w'' M' ∧ JLeft w [(w.heap.size, oc (totA zTot) 56)] [rootP (q ++ [z])] x' M') := fun v N u hF hn2 hE => by
    have hlen : q.reverse.length + 1 = n := by rw [List.length_reverse, ← hl, lA]; rfl
    have h := jlR w [(w.heap.size, oc (totA zTot) 56)] q.reverse z v N u (fun t ht => by
      rcases List.mem_cons.1 ht with rfl | h
      · exact hI _ (mR (mS.2 rfl))
      · exact hI t (mL (List.mem_reverse.1 h))) (by rw [hlen]; omega) (by
      rw [hlen, List.reverse_cons, List.reverse_reverse]
      exact hF) hn2 hE ht
    rw [jl_up] at h
    rw [HRT]
    exact h
   have h0' : ¬ (n : Int) = 0 := by omega
   clear hI hA hl ht HRT h0
   generalize q ++ [z] = p at *
   go_enter func26, ntmps26
   go_upto_region 4 with (fail)
   rw [zero_totA]
   generalize w.alloc (.cells (totA zTot) 56) = W at *
   refine rgQ [0] [1,2,3,4,5,6] E1 rfl fun hw => ?_
   refine qo rfl hw ?_
   refine wpG_nil <| qr rfl func67 (fun u hu => callsR_fresh (HCL.out u (EnvX.bel hu))) ?_
   rintro x N1 hF hf he2
   have HF := hD hF
   have HN := hD hf
   clear hF
   clear hf
   refine phE [2] [3,4,5,6] he2 fun hw => ?_
   refine qo rfl hw ?_
   refine wpG_nil <| (hOp_turn (gd := none) (R := JLeft w [(w.heap.size, oc (totA zTot) 56)] [rootP p]) rfl rfl rfl rfl (fun u hu => OUpon_call (fid := 66) (xs := #[.tmp 12, .tmp 13]) (args := #[x, .func (.func 65) #[] #[]]) rfl func66 rfl rfl u (HJL.out x N1 u HF.out HN.out hu)) ?_)
   rintro x3 M' hJ he4; intro K' hK'; go_big_quiet_op; go_big_quiet_on
   obtain ⟨N3, rfl, hF3, hn3⟩ := hJ
   obtain ⟨gr, cap, cur, rfl, rfl, hcur⟩ | ⟨_, _, h0, _⟩ := hF3
   case inr => cases h0
   have HCUR := hD hcur
   have HGR := hD (hn3 _ (mS.2 rfl))
   have HLR : Hid (∀ u, Row u gr 56 cur → (loadVar 56 ((⟨gr, 0, none⟩ : Addr).add (0 * 37))).run Tryz.prog u = .ok (.agg (totA (rootP p))) u) := fun u hu => root_load hu HRO.out hcur.2.2.2
   clear hcur hn3
   refine phE [4,5] [6] he4 fun hw => ?_
   refine qv (v := .pointer (some ((⟨gr, 0, none⟩ : Addr).add (0 * 37)))) rfl (fun u hu => idxSl_op (i := 0) underlying34 aggTot.size (by simp) u rfl rfl) hw ?_
   refine qv rfl (fun u hu => load_any_op u (HLR.out u (EnvX.row hu mH)) rfl) hw ?_
   refine wpG_nil <| (so rfl (Nat.le_refl _) (mT mH) (infoTot _ (totA_size HRO.out.len)) (zTot_size.trans (totA_size HRO.out.len).symm) (totA_one _) ?_)
   refine fun _ => enL fun u8 EX7 => ?_
   have Q0 := hD (EnvX.box EX7.out _ _ mH)
   have HBEL := hD EX7.out.bel
   clear EX7
   go_wp2_with ((with_reducible refine bodyPost_ret (v := .agg (totA (rootP p))) ?_ ?_ ?_); (exact results_cell_row (p := 2) (ty := 56) results26 _ _ w.heap.size 56 (totA (rootP p)) (0, 0) _ rfl Q0.out underlying56 rfl (infoTot _ (totA_size HRO.out.len))); (rfl))
   exact HBEL.out
theorem vwithLeaf (p : List Tot) (A : Option Addr) (n c : Nat) (h : Hd) (w : World) (hl : p.length = n) (hn : n ≤ 1000000) (hI : okTs p) (hA : TotsIn w w.heap.size A p) (hh : okHd h) (ht : Tables w) :
  Calls Tryz.prog 36 #[.slice A n c, hdV h] w fun e w' => (∃ v, e = .returned v ∧ w'.ownsRow w.heap.size 56 37 v (appT p (leafH h)).length ((appT p (leafH h)).map totC).flatten) ∧ Below w.heap.size w w' := by
 have HL := hD hh.len
 have HOP : Hid (okTs (appT p (leafH h))) := app_ok hI (leafH_ok _)
 have HID : Hid (Rt w 28 #[hdV h] (idv (idH h))) := fun u hu => hid_any h u hh (ht.below (EnvX.bel hu))
 have HWK : Hid (Rt w 30 #[hdV h] (.agg (wcs (workH h)))) := fun u hu => hwork_any h u hh
 have HLF : Hid (Rt w 79 #[idv (idH h), .agg (wcs (workH h))] (totV (leafH h))) := fun u hu => mleaf_any (idH h) (workH h) u (idH_id h) (workH_lt h)
 have HAP : Hid (∀ u, EnvX w u [] → Calls Tryz.prog 78 #[.slice A n c, totV (leafH h)] u fun e w' => (∃ v, e = .returned v ∧ w'.ownsRow u.heap.size 56 37 v (appT p (leafH h)).length (((appT p (leafH h)).map totC).flatten)) ∧ Below u.heap.size u w') := fun u hu => mapp_any p (leafH h) A n c u hl hn hI (leafH_ok h) (CellsIn.up hA (EnvX.bel hu)) (ht.below (EnvX.bel hu))
 have E1 : Hid (EnvX w (w.alloc (.cells (hdA h) 29)) [(w.heap.size, oc (hdA h) 29)]) := (EnvX.start w).new _
 clear hl hn hI hA hh ht
 unfold hdV
 go_enter func36, ntmps36
 go_upto_region 1 with (fail)
 generalize w.alloc (.cells (hdA h) 29) = W at *
 refine rgK [0,1,2,3,4,5] 2 E1 rfl fun hw => ?_
 refine qo rfl hw ?_
 refine ql rfl mH HL.out hw ?_
 refine qc rfl func28 (fun u hu => HID.out u (nl hu)) hw ?_
 refine ql rfl mH HL.out hw ?_
 refine qc rfl func30 (fun u hu => HWK.out u (nl hu)) hw ?_
 refine qc rfl func79 (fun u hu => HLF.out u (nl hu)) hw ?_
 refine wpG_nil <| aO 6 (qr rfl func78 (fun u hu => callsR_fresh (HAP.out u (nl hu))) ?_)
 rintro x N1 hF hf he2
 obtain ⟨A1, c1, rfl, -, -⟩ := FreshR.formR hF
 have HF := hD hF
 have HN := hD (fun y hy => (hf y hy).1)
 clear hF
 clear hf
 refine phF [7] 0 rfl he2 fun hw => ?_
 refine qo rfl hw ?_
 refine eH fun u5 EX4 => ?_
 have HO := hD (FreshR.own (w := u5) (B := w.heap.size) HF.out (by rw [flatT_len HOP.out]) (fun y hy => ⟨HN.out y hy, EnvX.box EX4.out _ _ (mL hy)⟩))
 have HBE := hD (EnvX.bel EX4.out)
 go_wp2
 go_returns
 exact ⟨⟨_, rfl, HO.out⟩, HBE.out⟩
theorem vmayHeight (h : Hd) (w : World) (hh : okHd h) :
  Rz 44 #[hdV h] w (.bool (decide (h.height < 48))) := by
 unfold Rz
 have HL := hD hh.len
 obtain ⟨b, hb⟩ : ∃ b, decide (h.height < 48) = b := ⟨_, rfl⟩
 have C0 := hD hb
 have HF := hD hb
 have E1 : Hid (EnvX w (w.alloc (.cells (hdA h) 29)) [(w.heap.size, oc (hdA h) 29)]) := (EnvX.start w).new _
 clear hh hb
 unfold hdV
 go_enter func44, ntmps44
 go_upto_region 1 with (fail)
 generalize w.alloc (.cells (hdA h) 29) = W at *
 refine rgQ [0,1,2,3] [] E1 rfl fun hw => ?_
 refine qf rfl hw ?_
 refine qv rfl (fun u hu => load_any_op u (loads_hd HL.out (box_list hu mH)).2.1 rfl) hw ?_
 refine qv rfl (fun u hu => ltZ_op u C0.out rfl rfl) hw ?_
 refine qo rfl hw ?_
 refine enP fun u3 EX2 => ?_
 have HBE := hD (EnvX.bel EX2.out)
 go_wp2
 go_ret
 exact ⟨by rw [HF.out]; first | done | rfl, HBE.out⟩
theorem zero_plA : (#[Value.int IntKind.i64 0, Value.int IntKind.u8 0, Value.int IntKind.u8 0, Value.int IntKind.u8 0, Value.int IntKind.u8 0, Value.int IntKind.u8 0, Value.int IntKind.u8 0, Value.int IntKind.u8 0, Value.int IntKind.u8 0, Value.int IntKind.u8 0, Value.int IntKind.u8 0, Value.int IntKind.u8 0, Value.int IntKind.u8 0, Value.int IntKind.u8 0, Value.int IntKind.u8 0, Value.int IntKind.u8 0, Value.int IntKind.u8 0, Value.int IntKind.u8 0, Value.int IntKind.u8 0, Value.int IntKind.u8 0, Value.int IntKind.u8 0, Value.int IntKind.u8 0, Value.int IntKind.u8 0, Value.int IntKind.u8 0, Value.int IntKind.u8 0, Value.int IntKind.u8 0, Value.int IntKind.u8 0, Value.int IntKind.u8 0, Value.int IntKind.u8 0, Value.int IntKind.u8 0, Value.int IntKind.u8 0, Value.int IntKind.u8 0, Value.int IntKind.u8 0, Value.int IntKind.u32 0] : Array Value) = plA noHd := rfl
theorem vplaceOf (h : Hd) (w : World) (hh : okHd h) :
  Rz 151 #[hdV h] w (plV h) := by
 unfold Rz
 have HL := hD hh.len
 have HLE : Hid (w.heap.size ≤ w.heap.size + 1) := by show _ ≤ _; omega
 have E1 : Hid (EnvX w ((w.alloc (.cells (hdA h) 29)).alloc (.cells (plA noHd) 169)) [(w.heap.size + 1, oc (plA noHd) 169), (w.heap.size, oc (hdA h) 29)]) := (EnvX.start w).two _ _
 clear hh
 unfold hdV plV
 go_enter func151, ntmps151
 go_upto_region 1 with (fail)
 rw [zero_plA]
 generalize (w.alloc (.cells (hdA h) 29)).alloc (.cells (plA noHd) 169) = W at *
 refine rgQ [0,1,2,3,4,5,6] [7] E1 rfl fun hw => ?_
 refine qf rfl hw ?_
 refine qv rfl (fun u hu => load_any_op u (loads_hd HL.out (box_list hu (mT mH))).2.1 rfl) hw ?_
 refine qf rfl hw ?_
 refine qv rfl (fun u hu => load_any_op u (loads_hd HL.out (box_list hu (mT mH))).2.2.1 rfl) hw ?_
 refine qf rfl hw ?_
 refine qv rfl (fun u hu => load_any_op u (loads_hd HL.out (box_list hu (mT mH))).2.2.2.2.2.2.2.1 rfl) hw ?_
 refine qv (v := .agg (plA h)) rfl (fun u hu => buildA_op u (built_pl h HL.out)) hw ?_
 refine wpG_nil <| (so rfl HLE.out mH (infoPl _ (plA_size HL.out)) ((plA_size (h := noHd) len_no).trans (plA_size HL.out).symm) (plA_one _) ?_)
 refine fun _ => enL fun u4 EX3 => ?_
 have Q0 := hD (EnvX.box EX3.out _ _ mH)
 have HBEL := hD EX3.out.bel
 clear EX3
 go_wp2_with ((with_reducible refine bodyPost_ret (v := .agg (plA h)) ?_ ?_ ?_); (exact results_cell_row (p := 2) (ty := 169) results151 _ _ (w.heap.size + 1) 169 (plA h) (0, 0) _ rfl Q0.out underlying169 rfl (infoPl _ (plA_size HL.out))); (rfl))
 exact HBEL.out
theorem zero_roA : roA noHd = zeroCells172 := by kernel_rfl
theorem vrootsOf (h : Hd) (w : World) (hh : okHd h) :
  Rz 152 #[hdV h] w (roV h) := by
 unfold Rz
 have HL := hD hh.len
 have HLE : Hid (w.heap.size ≤ w.heap.size + 1) := by show _ ≤ _; omega
 have E1 : Hid (EnvX w ((w.alloc (.cells (hdA h) 29)).alloc (.cells (roA noHd) 172)) [(w.heap.size + 1, oc (roA noHd) 172), (w.heap.size, oc (hdA h) 29)]) := (EnvX.start w).two _ _
 clear hh
 unfold hdV roV
 go_enter func152, ntmps152
 go_upto_region 1 with (fail)
 rw [← zero_roA]
 generalize (w.alloc (.cells (hdA h) 29)).alloc (.cells (roA noHd) 172) = W at *
 refine rgQ [0,1,2,3,4,5,6] [7] E1 rfl fun hw => ?_
 refine qf rfl hw ?_
 refine qv rfl (fun u hu => load_any_op u (loads_hd HL.out (box_list hu (mT mH))).2.2.2.2.1 rfl) hw ?_
 refine qf rfl hw ?_
 refine qv rfl (fun u hu => load_any_op u (loads_hd HL.out (box_list hu (mT mH))).2.2.2.2.2.1 rfl) hw ?_
 refine qf rfl hw ?_
 refine qv rfl (fun u hu => load_any_op u (loads_hd HL.out (box_list hu (mT mH))).2.2.2.2.2.2.1 rfl) hw ?_
 refine qv (v := .agg (roA h)) rfl (fun u hu => buildA_op u (built_ro h HL.out)) hw ?_
 refine wpG_nil <| (so rfl HLE.out mH (infoRo _ (roA_size HL.out)) ((roA_size (h := noHd) len_no).trans (roA_size HL.out).symm) (roA_one _) ?_)
 refine fun _ => enL fun u4 EX3 => ?_
 have Q0 := hD (EnvX.box EX3.out _ _ mH)
 have HBEL := hD EX3.out.bel
 clear EX3
 go_wp2_with ((with_reducible refine bodyPost_ret (v := .agg (roA h)) ?_ ?_ ?_); (exact results_cell_row (p := 2) (ty := 172) results152 _ _ (w.heap.size + 1) 172 (roA h) (0, 0) _ rfl Q0.out underlying172 rfl (infoRo _ (roA_size HL.out))); (rfl))
 exact HBEL.out
theorem vbehind (t : TipM) (l : List TxM) (A : Option Addr) (n c nonce : Nat) (w : World) (kt : TipOk w t) (mt : midTip t) (hl : l.length = n) (hnc : n ≤ c) (hcm : c ≤ maxLen) (hA : TxsIn w A l) (ml : midTxs l) (hno : nonce < 18446744073709551616) (ht : Tables w) : Hands 43 #[tipV t, .slice A n c, .int .u64 (nonce : Int)] w (RBlk ⟨nextK t.r (rsT l) nonce, linksK t.r, rsT l⟩) := by
 unfold Hands
 have HK : Hid (lenH t.b.h) := kt.b.h.len
 have HOK : Hid (okHd (nextK t.r (rsT l) nonce)) := nextK_ok (rsT l) (t := t.r) kt.o3 kt.b.h.2.2.2.2.2.2.1 hno
 have HLE : Hid (w.heap.size ≤ w.heap.size + 1) := by show _ ≤ _; omega
 have HRO : Hid (len32 (rootP t.p)) := (root_ok kt.o3).len
 have hm1 := kt.l3
 have hm2 := kt.b.l1
 have hm3 := mt.1
 have hm4 := mt.2.1
 have hm5 := ml.1
 have HIX : Hid (isId (idH t.b.h)) := idH_id _
 have HRT : Hid (Rt w 26 #[.slice t.A3 t.n3 t.c3] (totV (rootP t.p))) := fun u hu => mroot_any t.p t.A3 t.n3 t.c3 u kt.l3 (by omega) kt.o3 (CellsIn.up kt.m3 (EnvX.bel hu)) (ht.below (EnvX.bel hu))
 have HID : Hid (Rt w 28 #[hdV t.b.h] (idv (idH t.b.h))) := fun u hu => hid_any t.b.h u kt.b.h (ht.below (EnvX.bel hu))
 have HLV : Hid (Rt w 72 #[hdV t.b.h] (.int .i64 (levelH t.b.h))) := fun u hu => hlevel_any t.b.h u kt.b.h (ht.below (EnvX.bel hu))
 have HNX : Hid (∀ u, EnvX w u [] → Calls Tryz.prog 89 #[.slice t.b.A1 t.b.n1 t.b.c1, idv (idH t.b.h), .int .i64 (levelH t.b.h)] u fun e w' => (∃ v, e = .returned v ∧ w'.ownsRow u.heap.size 23 32 v (linksK t.r).length ((linksK t.r).flatten.map u8v)) ∧ Below u.heap.size u w') := fun u hu => link_next t.b.l (idH t.b.h) (levelH t.b.h) t.b.A1 t.b.n1 t.b.c1 u kt.b.l1 (by omega) (levelH_i64 _) kt.b.o1 (idH_id _) (kt.b.m1.up (EnvX.bel hu))
 have HLR : Hid (∀ u A1 c1, (linksK t.r).length ≤ c1 → c1 ≤ maxLen → IdsIn u u.heap.size A1 (linksK t.r) → EnvX w u [] → Calls Tryz.prog 34 #[.slice A1 (linksK t.r).length c1] u fun e w' => e = .returned (idv (rootT (leavesL (linksK t.r)))) ∧ Below u.heap.size u w') := fun u A1 c1 h1 h2 h3 hu => vlink_root (linksK t.r) A1 _ c1 u rfl (by have := linksK_len t.r; omega) h1 h2 (linksK_ids (t := t.r) kt.b.o1) h3 (ht.below (EnvX.bel hu))
 have HCR : Hid (Rt w 35 #[.slice A n c] (idv (rootT (idsX (rsT l))))) := fun u hu => prootX_any l A n c u hl (by omega) hnc hcm (hA.up (EnvX.bel hu)) (ht.below (EnvX.bel hu))
 have HCX : Hid (∀ u, EnvX w u [] → Hands 90 #[.slice A n c] u (RTxs l n)) := fun u hu => vcopyTxs l A n c u hl (by omega) (hA.up (EnvX.bel hu)) ml.2
 have HLI : Hid (isIds (linksK t.r)) := linksK_ids (t := t.r) kt.b.o1
 have E1 : Hid (EnvX w ((w.alloc (.cells (tipA t) 37)).alloc (.cells (blkA noBlkM) 33)) [(w.heap.size + 1, oc (blkA noBlkM) 33), (w.heap.size, oc (tipA t) 37)]) := (EnvX.start w).two _ _
 clear kt mt hl hnc hcm hA ml hno ht hm1 hm2 hm3 hm4 hm5
 unfold tipV
 go_enter func43, ntmps43
 go_upto_region 1 with (fail)
 rw [← zero_blkA]
 generalize (w.alloc (.cells (tipA t) 37)).alloc (.cells (blkA noBlkM) 33) = W at *
 refine rgK [0,1,2,3,4,5] 4 E1 rfl fun hw => ?_
 refine qw 2 hw ?_
 refine qv rfl (fun u hu => load_any_op u (loads_hd HK.out (box_tip_hd hu (mT mH) HK.out)).1 rfl) hw ?_
 refine qf rfl hw ?_
 refine ql rfl (mT mH) HK.out hw ?_
 refine qc rfl func26 (fun u hu => HRT.out u (nl hu)) hw ?_
 refine wpG_nil <| anyH_twoFreshG (i := 6) (j := 7) (fun _ _ _ hM hh => env_perm _ _ _ hM hh) (by kernel_rfl) (by kernel_rfl) (by kernel_rfl) rfl rfl (by decide) (by kernel_rfl) rfl rfl (fun x N => ∃ g, x = .pointer (some ⟨g, 0, none⟩) ∧ N = [(g, oc (hdA noHd) 29)]) (fun x N => ∃ g, x = .pointer (some ⟨g, 0, none⟩) ∧ N = [(g, oc (totA zTot) 56)]) [(w.heap.size + 1, oc (blkA noBlkM) 33), (w.heap.size, oc (tipA t) 37)] [(w.heap.size + 1, oc (blkA noBlkM) 33), (w.heap.size, oc (tipA t) 37)] (fun _ h => h) (fun _ h => h) (fun u hu => FAt_new (new_hd _) u) (fun u hu => FAt_new (new_tot _) u) ?_
 rintro x1 N1 x2 N2 ⟨g7, rfl, rfl⟩ ⟨g8, rfl, rfl⟩ hf1 hf2 he2 K1 hK1; go_big_quiet_op; go_big_quiet_on; intro K' hK'; go_big_quiet_op; go_big_quiet_on
 have HG7 := hD (hf1 _ (mS.2 rfl))
 have HG8 := hD (hf2 _ (mS.2 rfl))
 clear hf1 hf2
 change anyH _ _ _ _ _ _ _ _ [(g8, oc (totA zTot) 56), (g7, oc (hdA noHd) 29), (w.heap.size + 1, oc (blkA noBlkM) 33), (w.heap.size, oc (tipA t) 37)]
 refine aO 8 (hOp_store rfl (g7) (hdA t.b.h) rfl rfl HG7.out.1 29 ((hdA noHd)) (mT mH) (infoHd _ (hdA_size HK.out)) ((hdA_size (h := noHd) len_no).trans (hdA_size HK.out).symm) (hdA_one _) [(g7, oc (hdA t.b.h) 29), (g8, oc (totA zTot) 56), (w.heap.size + 1, oc (blkA noBlkM) 33), (w.heap.size, oc (tipA t) 37)] (mA ⟨.inl rfl, mA ⟨.inr ⟨mH, fun h => HG8.out.2 (g7, oc (hdA noHd) 29) mH h.symm⟩, fun y hy => .inr ⟨mT (mT hy), HG7.out.2 y hy⟩⟩⟩) ?_)
 intro he3
 refine aO 9 (hOp_store rfl (g8) (totA (rootP t.p)) rfl rfl HG8.out.1 56 ((totA zTot)) (mT mH) (infoTot _ (totA_size HRO.out)) (zTot_size.trans (totA_size HRO.out).symm) (totA_one _) [(g8, oc (totA (rootP t.p)) 56), (g7, oc (hdA t.b.h) 29), (w.heap.size + 1, oc (blkA noBlkM) 33), (w.heap.size, oc (tipA t) 37)] (mA ⟨.inl rfl, mA ⟨.inr ⟨mH, HG8.out.2 (g7, oc (hdA noHd) 29) mH⟩, fun y hy => .inr ⟨mT (mT hy), HG8.out.2 y (mT hy)⟩⟩⟩) ?_)
 intro he4
 refine eM fun u6 EX5 => ?_
 go_upto_region 2 with (fail)
 refine rgQ [0,1] [2,3] EX5 rfl fun hw => ?_
 refine ql rfl (mT mH) HK.out hw ?_
 refine qc rfl func28 (fun u hu => HID.out u (nl hu)) hw ?_
 refine wpG_nil <| qn rfl (new_id _) fun g9 HG9 he8 => ?_
 change lexH _ _ _ _ _ _ [(g9, oc (arrB 32 []) 23), (g8, oc (totA (rootP t.p)) 56), (g7, oc (hdA t.b.h) 29), (w.heap.size + 1, oc (blkA noBlkM) 33), (w.heap.size, oc (tipA t) 37)]
 refine (sh rfl HG9 (info26 _ (arrB_size _ _ (by rw [HIX.out.1]; omega))) ((arrB_size _ _ (by simp)).trans (arrB_size _ _ (by rw [HIX.out.1]; omega)).symm) (arrB_one _ _) ?_)
 refine fun _ => enL fun u11 EX10 => ?_
 go_upto_region 3 with (fail)
 refine rgK [0,1,2,3,4,5] 2 EX10 rfl fun hw => ?_
 refine qw 2 hw ?_
 refine ql rfl (mT (mT (mT (mT mH)))) HK.out hw ?_
 refine qv rfl (fun u hu => load_run_op u (box_load hu mH HIX.out.1) rfl) hw ?_
 refine ql rfl (mT (mT mH)) HK.out hw ?_
 refine qc rfl func72 (fun u hu => HLV.out u (nl hu)) hw ?_
 refine wpG_nil <| aO 6 (qr rfl func89 (fun u hu => callsR_fresh (HNX.out u (nl hu))) ?_)
 rintro x N6 hF hf he13
 obtain ⟨A6, c6, rfl, k1, k2⟩ := FreshR.formR hF
 have HF6 := hD (And.intro hF (And.intro k1 k2))
 have HN6 : Hid (∀ y ∈ N6, w.heap.size ≤ y.1 ∧ y.1 ≠ w.heap.size + 1) := fun y hy => ⟨(hf y hy).1, fun h => (hf y hy).2 _ (mT (mT (mT mH))) h.symm⟩
 clear hF k1 k2
 clear hf
 refine phF [7] 0 rfl he13 fun hw => ?_
 refine qo rfl hw ?_
 refine eH fun u16 EX15 => ?_
 go_upto_region 4 with (fail)
 refine rgK [0,1,2,3,4,5,6,7,8,9,10,11,12,13,14,15,16,17] 3 EX15 rfl fun hw => ?_
 refine qf rfl hw ?_
 refine qv rfl (fun u hu => load_any_op u (loads_hd HK.out (box_list hu (mR (mT (mT mH))))).2.1 rfl) hw ?_
 refine qv (v := .int .i64 (nextK t.r (rsT l) nonce).height) rfl (fun u hu => addZ_op u (show IntKind.i64.wrap (t.b.h.height + 1) = (nextK t.r (rsT l) nonce).height from rfl) rfl rfl) hw ?_
 refine qv rfl (fun u hu => load_run_op u (box_load hu (mR mH) HIX.out.1) rfl) hw ?_
 refine qo rfl hw ?_
 refine qc rfl func34 (fun u hu => HLR.out u A6 c6 HF6.out.2.1 HF6.out.2.2 (fresh_idsB HF6.out.1 HLI.out (fun y hy => EnvX.box hu _ _ (mL hy))) (nl hu)) hw ?_
 refine qo rfl hw ?_
 refine qc rfl func35 (fun u hu => HCR.out u (nl hu)) hw ?_
 refine qf rfl hw ?_
 refine ql rfl (mR (mT mH)) HRO.out hw ?_
 refine qf rfl hw ?_
 refine ql rfl (mR (mT mH)) HRO.out hw ?_
 refine qf rfl hw ?_
 refine qv rfl (fun u hu => load_any_op u (loads_hd HK.out (box_list hu (mR (mT (mT mH))))).2.2.2.2.2.2.2.1 rfl) hw ?_
 refine qo rfl hw ?_
 refine qv (v := .agg (hdA (nextK t.r (rsT l) nonce))) rfl (fun u hu => buildA_op u (built_hd (nextK t.r (rsT l) nonce) HOK.out.len)) hw ?_
 refine qw 2 hw ?_
 refine wpG_nil <| aO 18 (qr rfl func90 (fun u hu => HCX.out u (nl hu)) ?_)
 rintro x N18 hF hf he18
 obtain ⟨q8, A18, c18, rfl, k1, k2, kq, kr, kk⟩ := hF
 have HK1 := hD k1
 have HK2 := hD k2
 have HKQ := hD kq
 have HKR := hD kr
 have HKK := hD kk
 have HN18 : Hid (∀ y ∈ N18, w.heap.size ≤ y.1 ∧ y.1 ≠ w.heap.size + 1) := fun y hy => ⟨(hf y hy).1, fun h => (hf y hy).2 _ (mR (mT (mT (mT mH)))) h.symm⟩
 clear k1 k2 kq kr kk
 clear hf
 refine phF [19] 1 rfl he18 fun hw => ?_
 refine qv (v := .agg (blkA ⟨(nextK t.r (rsT l) nonce), linksK t.r, A6, (linksK t.r).length, c6, q8, A18, n, c18⟩)) rfl (fun u hu => buildA_op u (built_blk (b := ⟨(nextK t.r (rsT l) nonce), linksK t.r, A6, (linksK t.r).length, c6, q8, A18, n, c18⟩) HOK.out.len)) hw ?_
 refine wpG_nil <| aO 20 (hOp_store rfl (w.heap.size + 1) (blkA ⟨(nextK t.r (rsT l) nonce), linksK t.r, A6, (linksK t.r).length, c6, q8, A18, n, c18⟩) rfl rfl HLE.out 33 ((blkA noBlkM)) (mR (mR (mT (mT (mT mH))))) (infoBlk _ (blkA_size (b := ⟨(nextK t.r (rsT l) nonce), linksK t.r, A6, (linksK t.r).length, c6, q8, A18, n, c18⟩) HOK.out.len)) (blk_sizes (b := ⟨(nextK t.r (rsT l) nonce), linksK t.r, A6, (linksK t.r).length, c6, q8, A18, n, c18⟩) HOK.out.len) (blkA_one _) ((w.heap.size + 1, oc (blkA ⟨(nextK t.r (rsT l) nonce), linksK t.r, A6, (linksK t.r).length, c6, q8, A18, n, c18⟩) 33) :: (N18 ++ (N6 ++ []))) (mA ⟨.inl rfl, fun y hy => .inr ((List.mem_append.1 hy).elim (fun h => ⟨mL h, (HN18.out y h).2⟩) (fun h => ⟨mR (mL (by simpa using h)), (HN6.out y (by simpa using h)).2⟩))⟩) ?_)
 intro he20
 refine eM fun u22 EX21 => ?_
 have HIS : Hid (∀ w0 u M, EnvX w0 u M → (∀ y ∈ N18 ++ N6, y ∈ M) → IsBlk ⟨nextK t.r (rsT l) nonce, linksK t.r, rsT l⟩ ⟨(nextK t.r (rsT l) nonce), linksK t.r, A6, (linksK t.r).length, c6, q8, A18, n, c18⟩ u) := fun w0 u M hu hM => ⟨by show BlkR.mk _ _ (rsT q8) = BlkR.mk _ _ (rsT l); rw [HKR.out], ⟨HOK.out, rfl, HF6.out.2, HLI.out, kept_ids HF6.out.1 rfl HLI.out w0 u M hu (fun y hy => hM y (mR hy)), HKQ.out, ⟨HK1.out, HK2.out⟩, HKK.out w0 u M hu (fun y hy => hM y (mL hy))⟩⟩
 have HBX : Hid (∀ y ∈ N18 ++ N6, y ∈ ((w.heap.size + 1, oc (blkA ⟨(nextK t.r (rsT l) nonce), linksK t.r, A6, (linksK t.r).length, c6, q8, A18, n, c18⟩) 33) :: (N18 ++ (N6 ++ [])))) := fun y hy => mT (by simpa using hy)
 have HEX := hD EX21.out
 have HFR : Hid (∀ y ∈ N18 ++ N6, w.heap.size ≤ y.1 ∧ u22.heap[y.1]? = some y.2) := fun y hy => ⟨(List.mem_append.1 hy).elim (fun h => (HN18.out y h).1) (fun h => (HN6.out y h).1), EnvX.box HEX.out _ _ (HBX.out y hy)⟩
 have Q0 := hD (EnvX.box EX21.out _ _ mH)
 have HBEL := hD EX21.out.bel
 go_wp2_with ((with_reducible refine bodyPost_ret (v := .agg (blkA ⟨(nextK t.r (rsT l) nonce), linksK t.r, A6, (linksK t.r).length, c6, q8, A18, n, c18⟩)) ?_ ?_ ?_); (exact results_cell_row (p := 6) (ty := 33) results43 _ _ (w.heap.size + 1) 33 (blkA ⟨(nextK t.r (rsT l) nonce), linksK t.r, A6, (linksK t.r).length, c6, q8, A18, n, c18⟩) (0, 0) _ rfl Q0.out underlying33 rfl (infoBlk _ (blkA_size (b := ⟨(nextK t.r (rsT l) nonce), linksK t.r, A6, (linksK t.r).length, c6, q8, A18, n, c18⟩) HOK.out.len))); (rfl))
 first | exact ⟨_, N18 ++ N6, rfl, ⟨⟨(nextK t.r (rsT l) nonce), linksK t.r, A6, (linksK t.r).length, c6, q8, A18, n, c18⟩, rfl, HIS.out, _, HIS.out _ _ _ HEX.out HBX.out⟩, HBEL.out, HFR.out⟩ | exact ⟨N18 ++ N6, ⟨⟨(nextK t.r (rsT l) nonce), linksK t.r, A6, (linksK t.r).length, c6, q8, A18, n, c18⟩, rfl, HIS.out, _, HIS.out _ _ _ HEX.out HBX.out⟩, HBEL.out, fun a b hy => HFR.out (a, b) hy⟩
def ruleF : Nat → FuncId
  | 0 => 103
  | 1 => 104
  | 2 => 105
  | 3 => 106
  | _ => 107
def ruleE : Nat → Int
  | 0 => 3
  | 1 => 5
  | 2 => 6
  | 3 => 7
  | _ => 4
def ruleC (i : Nat) : List Value := [.func (.func (ruleF i)) #[] #[], .int .i64 (ruleE i)]
def ruleA (i : Nat) : Array Value := (ruleC i).toArray
def rulesC : List Value := ruleC 0 ++ (ruleC 1 ++ (ruleC 2 ++ (ruleC 3 ++ ruleC 4)))
def rulesA : Array Value := rulesC.toArray
theorem aggRS : AggT 138 2 := ⟨fun w => by simp [isAgg, run_underlying underlying138], by kernel_rfl⟩
theorem aggRA : AggT 139 10 := ⟨fun w => by simp [isAgg, run_underlying underlying139], by kernel_rfl⟩
theorem infoRS (cs : Array Value) (h : cs.size = 2) : (Tryz.prog.info? 138).map (·.size) = some cs.size := by rw [h]; exact aggRS.size
theorem infoRA (cs : Array Value) (h : cs.size = 10) : (Tryz.prog.info? 139).map (·.size) = some cs.size := by rw [h]; exact aggRA.size
theorem oneRF : ∀ w, (isAgg 137).run Tryz.prog w = .ok false w := fun w => by simp [isAgg, run_underlying underlying137]
theorem oneEr : ∀ w, (isAgg 43).run Tryz.prog w = .ok false w := fun w => by simp [isAgg, run_underlying underlying43]
theorem built_rs (f : FuncId) (k : Int) : Tryz.prog.built 138 [(0, .func (.func f) #[] #[]), (1, .int .i64 k)] = some #[.func (.func f) #[] #[], .int .i64 k] := by kernel_rfl
theorem built_ra : Tryz.prog.built 139 [(0, .agg (ruleA 0)), (1, .agg (ruleA 1)), (2, .agg (ruleA 2)), (3, .agg (ruleA 3)), (4, .agg (ruleA 4))] = some rulesA := by kernel_rfl
theorem rulesA_one : rulesA.all (·.oneCell') = true := by kernel_rfl
theorem ruleA_one (i : Nat) : (ruleA i).all (·.oneCell') = true := by
 rcases i with _ | _ | _ | _ | i
 all_goals kernel_rfl
def rule0A : Array Value := #[.nilFunc, .int .i64 0]
def rules0A : Array Value := #[.nilFunc, .int .i64 0, .nilFunc, .int .i64 0, .nilFunc, .int .i64 0, .nilFunc, .int .i64 0, .nilFunc, .int .i64 0]
section
variable {dst : Option Tmp} {ty : TypeId} {pos : String} {after : Array Edge} {gd : Option (Nat × Bool)}
theorem new_ra (a : Act) : NewAt Tryz.prog ⟨dst, .alloc 139, ty, pos, after, gd⟩ a (.cells rules0A 139 (0, 0)) := fun u => by
 unfold rules0A
 go_simp
theorem new_rs (a : Act) : NewAt Tryz.prog ⟨dst, .alloc 138, ty, pos, after, gd⟩ a (.cells rule0A 138 (0, 0)) := fun u => by
 unfold rule0A
 go_simp
end
theorem index_ra {i : Nat} (h : i < 5) (w : World) : (Instr.index 139 (.agg rulesA) (.int .i64 (i : Int))).run Tryz.prog w = .ok (.agg (ruleA i)) w := by
 rcases i with _ | _ | _ | _ | _ | i
 all_goals first | omega | kernel_rfl
section
variable {a : Act} {dst : Option Tmp} {x y : Operand} {ty : TypeId} {pos : String} {after : Array Edge} {gd : Option (Nat × Bool)}
theorem idxRA_op {i : Nat} (h : i < 5) (u : World) (hx : a.eval x = .agg rulesA) (hy : a.eval y = .int .i64 (i : Int)) :
  (execOp a.eval ⟨dst, .index 139 x y, ty, pos, after, gd⟩).run Tryz.prog u = .ok (.value (.agg (ruleA i))) u := by
 unfold execOp
 simp only [hx, hy, Sem.run_bind, index_ra h u, Result.andThen_ok, Sem.run_pure]
theorem fieldRS_op {k : Nat} (hk : k < 2) {ad : Addr} (u : World) (hx : a.eval x = .pointer (some ad)) :
  (execOp a.eval ⟨dst, .fieldAddr 138 x k, ty, pos, after, gd⟩).run Tryz.prog u = .ok (.value (.pointer (some (ad.add k)))) u := by
 unfold execOp
 simp only [hx]
 rcases k with _ | _ | k
 all_goals first | omega | go_simp
end
section
variable {w0 u : World} {M : Boxes} {g i : Nat} {ty : TypeId}
theorem box_ra (hu : EnvC w0 M u) (hm : (g, oc rulesA ty) ∈ M) : (loadVar 139 ⟨g, 0, none⟩).run Tryz.prog u = .ok (.agg rulesA) u := run_loadAgg aggRA rulesC rfl (box_list hu hm)
instance : Cell Tryz.prog rulesA 139 0 (.agg rulesA) (True) := ⟨fun hu hm k => box_ra hu hm⟩
theorem box_rsF (hu : EnvC w0 M u) (hm : (g, oc (ruleA i) ty) ∈ M) : (loadVar 137 ⟨g, 0, none⟩).run Tryz.prog u = .ok (.func (.func (ruleF i)) #[] #[]) u := run_load_one oneRF u (box_cell hu hm rfl)
instance : Cell Tryz.prog (ruleA i) 137 0 (.func (.func (ruleF i)) #[] #[]) (True) := ⟨fun hu hm k => box_rsF hu hm⟩
theorem box_rsE (hu : EnvC w0 M u) (hm : (g, oc (ruleA i) ty) ∈ M) : (loadVar 43 ⟨g, 1, none⟩).run Tryz.prog u = .ok (.int .i64 (ruleE i)) u := run_load_one oneEr u (box_cell hu hm rfl)
instance : Cell Tryz.prog (ruleA i) 43 1 (.int .i64 (ruleE i)) (True) := ⟨fun hu hm k => box_rsE hu hm⟩
end
theorem vhasRoom (b d : BlkM) (w : World) (hb : okHd b.h) (hd : okHd d.h) :
  Rz 103 #[trV b d] w (.bool (decide (b.h.height < 48))) := by
 unfold Rz
 have HB := hD hb
 have HD := hD hd
 have HMH : Hid (Rt w 44 #[hdV b.h] (.bool (decide (b.h.height < 48)))) := fun u hu => vmayHeight b.h u hb
 obtain ⟨x, hx⟩ : ∃ x, decide (b.h.height < 48) = x := ⟨_, rfl⟩
 have HF := hD hx
 rw [hx] at HMH
 have E1 : Hid (EnvX w (w.alloc (.cells (trA b d) 83)) [(w.heap.size, oc (trA b d) 83)]) := (EnvX.start w).new _
 clear hb hd hx
 unfold trV
 go_enter func103, ntmps103
 go_upto_region 1 with (fail)
 generalize w.alloc (.cells (trA b d) 83) = W at *
 refine rgQ [0,1,2,3,4] [] E1 rfl fun hw => ?_
 refine qw 2 hw ?_
 refine qv rfl (fun u hu => load_any_op u (loads_hd HB.out.len (is_hd hu mH HB.out.len)).1 rfl) hw ?_
 refine qc rfl func44 (fun u hu => HMH.out u (nl hu)) hw ?_
 refine qo rfl hw ?_
 refine enP fun u3 EX2 => ?_
 have HBE := hD (EnvX.bel EX2.out)
 go_wp2
 go_ret
 exact ⟨by rw [HF.out]; first | done | rfl, HBE.out⟩
theorem vhasPlace (b d : BlkM) (w : World) (hb : okHd b.h) (hd : okHd d.h) :
  Rz 104 #[trV b d] w (.bool (eqPl b.h d.h)) := by
 unfold Rz
 have HB := hD hb
 have HD := hD hd
 have HP : Hid (∀ u, EnvX w u [] → ∀ h : Hd, okHd h → Calls Tryz.prog 151 #[hdV h] u fun e w' => e = .returned (plV h) ∧ Below u.heap.size u w') := fun u hu h hh => vplaceOf h u hh
 obtain ⟨x, hx⟩ : ∃ x, eqPl b.h d.h = x := ⟨_, rfl⟩
 have HF := hD hx
 have HX := hD hx
 have E1 : Hid (EnvX w (w.alloc (.cells (trA b d) 83)) [(w.heap.size, oc (trA b d) 83)]) := (EnvX.start w).new _
 clear hb hd hx
 unfold trV
 go_enter func104, ntmps104
 go_upto_region 1 with (fail)
 generalize w.alloc (.cells (trA b d) 83) = W at *
 refine rgK [0,1,2,3,4,5,6,7,8,9] 0 E1 rfl fun hw => ?_
 refine qw 2 hw ?_
 refine qv rfl (fun u hu => load_any_op u (loads_hd HB.out.len (is_hd hu mH HB.out.len)).1 rfl) hw ?_
 refine qc rfl func151 (fun u hu => HP.out u (nl hu) b.h HB.out) hw ?_
 refine qf rfl hw ?_
 refine qf (o2 := 137) rfl hw ?_
 refine qv rfl (fun u hu => load_any_op u (loads_hd HD.out.len (must_hd hu mH HB.out.len HD.out.len)).1 rfl) hw ?_
 refine qc rfl func151 (fun u hu => HP.out u (nl hu) d.h HD.out) hw ?_
 refine qv rfl (fun u hu => eqlPl_op HB.out HD.out HX.out u rfl rfl) hw ?_
 refine qo rfl hw ?_
 refine eH fun u3 EX2 => ?_
 have HBE := hD (EnvX.bel EX2.out)
 go_wp2
 go_ret
 exact ⟨by rw [HF.out]; first | done | rfl, HBE.out⟩
theorem vhasRoots (b d : BlkM) (w : World) (hb : okHd b.h) (hd : okHd d.h) :
  Rz 106 #[trV b d] w (.bool (eqRo b.h d.h)) := by
 unfold Rz
 have HB := hD hb
 have HD := hD hd
 have HP : Hid (∀ u, EnvX w u [] → ∀ h : Hd, okHd h → Calls Tryz.prog 152 #[hdV h] u fun e w' => e = .returned (roV h) ∧ Below u.heap.size u w') := fun u hu h hh => vrootsOf h u hh
 obtain ⟨x, hx⟩ : ∃ x, eqRo b.h d.h = x := ⟨_, rfl⟩
 have HF := hD hx
 have HX := hD hx
 have E1 : Hid (EnvX w (w.alloc (.cells (trA b d) 83)) [(w.heap.size, oc (trA b d) 83)]) := (EnvX.start w).new _
 clear hb hd hx
 unfold trV
 go_enter func106, ntmps106
 go_upto_region 1 with (fail)
 generalize w.alloc (.cells (trA b d) 83) = W at *
 refine rgK [0,1,2,3,4,5,6,7,8,9] 0 E1 rfl fun hw => ?_
 refine qw 2 hw ?_
 refine qv rfl (fun u hu => load_any_op u (loads_hd HB.out.len (is_hd hu mH HB.out.len)).1 rfl) hw ?_
 refine qc rfl func152 (fun u hu => HP.out u (nl hu) b.h HB.out) hw ?_
 refine qf rfl hw ?_
 refine qf (o2 := 137) rfl hw ?_
 refine qv rfl (fun u hu => load_any_op u (loads_hd HD.out.len (must_hd hu mH HB.out.len HD.out.len)).1 rfl) hw ?_
 refine qc rfl func152 (fun u hu => HP.out u (nl hu) d.h HD.out) hw ?_
 refine qv rfl (fun u hu => eqlRo_op HB.out HD.out HX.out u rfl rfl) hw ?_
 refine qo rfl hw ?_
 refine eH fun u3 EX2 => ?_
 have HBE := hD (EnvX.bel EX2.out)
 go_wp2
 go_ret
 exact ⟨by rw [HF.out]; first | done | rfl, HBE.out⟩
theorem vhasWork (b d : BlkM) (w : World) (hb : okHd b.h) (hd : okHd d.h) (ht : Tables w) :
  Rz 107 #[trV b d] w (.bool (mayH b.h)) := by
 unfold Rz
 have HB := hD hb
 have HD := hD hd
 have HMH : Hid (Rt w 31 #[hdV b.h] (.bool (mayH b.h))) := fun u hu => hmay_any b.h u hb (ht.below (EnvX.bel hu))
 obtain ⟨x, hx⟩ : ∃ x, mayH b.h = x := ⟨_, rfl⟩
 have HF := hD hx
 rw [hx] at HMH
 have E1 : Hid (EnvX w (w.alloc (.cells (trA b d) 83)) [(w.heap.size, oc (trA b d) 83)]) := (EnvX.start w).new _
 clear hb hd hx ht
 unfold trV
 go_enter func107, ntmps107
 go_upto_region 1 with (fail)
 generalize w.alloc (.cells (trA b d) 83) = W at *
 refine rgQ [0,1,2,3,4] [] E1 rfl fun hw => ?_
 refine qw 2 hw ?_
 refine qv rfl (fun u hu => load_any_op u (loads_hd HB.out.len (is_hd hu mH HB.out.len)).1 rfl) hw ?_
 refine qc rfl func31 (fun u hu => HMH.out u (nl hu)) hw ?_
 refine qo rfl hw ?_
 refine enP fun u3 EX2 => ?_
 have HBE := hD (EnvX.bel EX2.out)
 go_wp2
 go_ret
 exact ⟨by rw [HF.out]; first | done | rfl, HBE.out⟩
theorem vhasLinks (b d : BlkM) (w : World) (hb : okHd b.h) (hd : okHd d.h) (hl1 : b.l.length = b.n1) (hl2 : d.l.length = d.n1) (hc1 : b.n1 ≤ b.c1 ∧ b.c1 ≤ maxLen) (hc2 : d.n1 ≤ d.c1 ∧ d.c1 ≤ maxLen) (hi1 : isIds b.l) (hi2 : isIds d.l) (hn1 : b.n1 ≤ 1000000) (hn2 : d.n1 ≤ 1000000) (hA1 : IdsIn w w.heap.size b.A1 b.l) (hA2 : IdsIn w w.heap.size d.A1 d.l) :
  Rz 105 #[trV b d] w (.bool (decide (b.l = d.l) && eqL b.h.links d.h.links)) := by
 unfold Rz
 have HB := hD hb
 have HD := hD hd
 have HEQ : Hid (Rt w 58 #[.slice b.A1 b.n1 b.c1, .slice d.A1 d.n1 d.c1] (.bool (decide (b.l = d.l)))) := fun u hu => veqIds b.l d.l b.A1 d.A1 b.n1 b.c1 d.n1 d.c1 u hl1 hl2 hn1 hn2 hc1.1 hc1.2 hc2.1 hc2.2 hi1 hi2 (hA1.up (EnvX.bel hu)) (hA2.up (EnvX.bel hu))
 obtain ⟨x, hx⟩ : ∃ x, decide (b.l = d.l) = x := ⟨_, rfl⟩
 obtain ⟨y, hy⟩ : ∃ y, eqL b.h.links d.h.links = y := ⟨_, rfl⟩
 have HX := hD hx
 have HY := hD hy
 rw [hx] at HEQ
 have E1 : Hid (EnvX w (w.alloc (.cells (trA b d) 83)) [(w.heap.size, oc (trA b d) 83)]) := (EnvX.start w).new _
 clear hb hd hl1 hl2 hc1 hc2 hi1 hi2 hn1 hn2 hA1 hA2 hx hy
 unfold trV
 go_enter func105, ntmps105
 go_upto_region 1 with (fail)
 generalize w.alloc (.cells (trA b d) 83) = W at *
 cases x with
 | false =>
  have HF : Hid ((decide (b.l = d.l) && eqL b.h.links d.h.links) = false) := by show _ = _; rw [HX.out, HY.out]; rfl
  refine rgQ [0,1,2,3,4,5,6,7,8,9,10,11,12,13,14,15,16,17,18] [] E1 rfl fun hw => ?_
  refine qw 2 hw ?_
  refine qv rfl (fun u hu => load_any_op u (is_l hu mH HB.out.len) rfl) hw ?_
  refine qf rfl hw ?_
  refine qf (o2 := 272) rfl hw ?_
  refine qv rfl (fun u hu => load_any_op u (must_l hu mH HB.out.len HD.out.len) rfl) hw ?_
  refine qc rfl func58 (fun u hu => HEQ.out u (nl hu)) hw ?_
  refine qw 12 hw ?_
  refine enP fun u3 EX2 => ?_
  have HBE := hD (EnvX.bel EX2.out)
  go_wp2
  go_ret
  exact ⟨by rw [HF.out]; first | done | rfl, HBE.out⟩
 | true =>
  have HF : Hid ((decide (b.l = d.l) && eqL b.h.links d.h.links) = y) := by show _ = _; rw [HX.out, HY.out]; rfl
  refine rgQ [0,1,2,3,4,5,6,7,8,9,10,11,12,13,14,15,16,17,18] [] E1 rfl fun hw => ?_
  refine qw 2 hw ?_
  refine qv rfl (fun u hu => load_any_op u (is_l hu mH HB.out.len) rfl) hw ?_
  refine qf rfl hw ?_
  refine qf (o2 := 272) rfl hw ?_
  refine qv rfl (fun u hu => load_any_op u (must_l hu mH HB.out.len HD.out.len) rfl) hw ?_
  refine qc rfl func58 (fun u hu => HEQ.out u (nl hu)) hw ?_
  refine qw 4 hw ?_
  refine qv rfl (fun u hu => load_any_op u (loads_hd HB.out.len (is_hd hu mH HB.out.len)).2.2.2.1 rfl) hw ?_
  refine qf rfl hw ?_
  refine qf (o2 := 137) rfl hw ?_
  refine qf (o2 := 170) rfl hw ?_
  refine qv rfl (fun u hu => load_any_op u (loads_hd HD.out.len (must_hd hu mH HB.out.len HD.out.len)).2.2.2.1 rfl) hw ?_
  refine qv rfl (fun u hu => eqlb_op HB.out.len.2.1 HD.out.len.2.1 HY.out u rfl rfl) hw ?_
  refine qw 2 hw ?_
  refine enP fun u3 EX2 => ?_
  have HBE := hD (EnvX.bel EX2.out)
  go_wp2
  go_ret
  exact ⟨by rw [HF.out]; first | done | rfl, HBE.out⟩
def FK (x0 x1 x2 x3 x4 : Bool) : Nat := if x0 = false then 3 else if x1 = false then 5 else if x2 = false then 6 else if x3 = false then 7 else if x4 = false then 4 else 0
theorem vfault (b d : BlkM) (w : World) (hb : okHd b.h) (hd : okHd d.h) (hl1 : b.l.length = b.n1) (hl2 : d.l.length = d.n1) (hc1 : b.n1 ≤ b.c1 ∧ b.c1 ≤ maxLen) (hc2 : d.n1 ≤ d.c1 ∧ d.c1 ≤ maxLen) (hi1 : isIds b.l) (hi2 : isIds d.l) (hn1 : b.n1 ≤ 1000000) (hn2 : d.n1 ≤ 1000000) (hA1 : IdsIn w w.heap.size b.A1 b.l) (hA2 : IdsIn w w.heap.size d.A1 d.l) (ht : Tables w) :
  Rz 50 #[trV b d] w (.int .i64 (FK (decide (b.h.height < 48)) (eqPl b.h d.h) (decide (b.l = d.l) && eqL b.h.links d.h.links) (eqRo b.h d.h) (mayH b.h) : Int)) := by
 unfold Rz
 have HB := hD hb
 have HD := hD hd
 have HC0 : Hid (Rt w 103 #[trV b d] (.bool (decide (b.h.height < 48)))) := fun u hu => vhasRoom b d u hb hd
 have HC1 : Hid (Rt w 104 #[trV b d] (.bool (eqPl b.h d.h))) := fun u hu => vhasPlace b d u hb hd
 have HC2 : Hid (Rt w 105 #[trV b d] (.bool (decide (b.l = d.l) && eqL b.h.links d.h.links))) := fun u hu => vhasLinks b d u hb hd hl1 hl2 hc1 hc2 hi1 hi2 hn1 hn2 (hA1.up (EnvX.bel hu)) (hA2.up (EnvX.bel hu))
 have HC3 : Hid (Rt w 106 #[trV b d] (.bool (eqRo b.h d.h))) := fun u hu => vhasRoots b d u hb hd
 have HC4 : Hid (Rt w 107 #[trV b d] (.bool (mayH b.h))) := fun u hu => vhasWork b d u hb hd (ht.below (EnvX.bel hu))
 obtain ⟨x0, hx0⟩ : ∃ x, (decide (b.h.height < 48)) = x := ⟨_, rfl⟩
 rw [hx0] at HC0 ⊢
 obtain ⟨x1, hx1⟩ : ∃ x, (eqPl b.h d.h) = x := ⟨_, rfl⟩
 rw [hx1] at HC1 ⊢
 obtain ⟨x2, hx2⟩ : ∃ x, (decide (b.l = d.l) && eqL b.h.links d.h.links) = x := ⟨_, rfl⟩
 rw [hx2] at HC2 ⊢
 obtain ⟨x3, hx3⟩ : ∃ x, (eqRo b.h d.h) = x := ⟨_, rfl⟩
 rw [hx3] at HC3 ⊢
 obtain ⟨x4, hx4⟩ : ∃ x, (mayH b.h) = x := ⟨_, rfl⟩
 rw [hx4] at HC4 ⊢
 have E1 : Hid (EnvX w (w.alloc (.cells (trA b d) 83)) [(w.heap.size, oc (trA b d) 83)]) := (EnvX.start w).new _
 clear hb hd hl1 hl2 hc1 hc2 hi1 hi2 hn1 hn2 hA1 hA2 ht hx0 hx1 hx2 hx3 hx4
 unfold trV at *
 go_enter func50, ntmps50
 go_upto_region 1 with (fail)
 generalize w.alloc (.cells (trA b d) 83) = W at *
 refine rgQ [0,1,2,3,4,5] [6,7] E1 rfl fun hw => ?_
 refine qv (v := .agg (ruleA 0)) rfl (fun u hu => buildA_op u (built_rs _ _)) hw ?_
 refine qv (v := .agg (ruleA 1)) rfl (fun u hu => buildA_op u (built_rs _ _)) hw ?_
 refine qv (v := .agg (ruleA 2)) rfl (fun u hu => buildA_op u (built_rs _ _)) hw ?_
 refine qv (v := .agg (ruleA 3)) rfl (fun u hu => buildA_op u (built_rs _ _)) hw ?_
 refine qv (v := .agg (ruleA 4)) rfl (fun u hu => buildA_op u (built_rs _ _)) hw ?_
 refine qv (v := .agg rulesA) rfl (fun u hu => buildA_op u built_ra) hw ?_
 refine wpG_nil <| qn rfl (new_ra _) fun g3 HG3 he2 => ?_
 change lexH _ _ _ _ _ _ [(g3, oc rules0A 139), (w.heap.size, oc (trA b d) 83)]
 refine (sh (cs := rulesA) rfl HG3 (infoRA _ rfl) rfl rulesA_one ?_)
 refine fun _ => enL fun u5 EX4 => ?_
 go_upto_region 2 with (fail)
 refine rgQ [0,1] [] EX4 rfl fun hw => ?_
 refine ql rfl mH trivial hw ?_
 refine qo rfl hw ?_
 refine enP fun u8 EX7 => ?_
 have EJ := hD EX7.out
 clear EX7 E1
 go_upto_region 3 with (fail)
 go_loopw [13] (fun iv u => ∃ i : Nat, i ≤ 5 ∧ iv = .int .i64 (i : Int) ∧ Hid (((0 < i → x0 = true) ∧ (1 < i → x1 = true) ∧ (2 < i → x2 = true) ∧ (3 < i → x3 = true) ∧ (4 < i → x4 = true)) ∧ EnvX w u [(g3, oc (rulesA) 139), (w.heap.size, oc (trA b d) 83)])) (fun iv _ => 5 - (intOf iv).toNat)
 case atStart => exact ⟨0, by omega, rfl, ⟨fun h => absurd h (by omega), fun h => absurd h (by omega), fun h => absurd h (by omega), fun h => absurd h (by omega), fun h => absurd h (by omega)⟩, EJ.out⟩
 case round =>
  obtain ⟨i, hi, rfl, hinv⟩ := hrel
  have EK := hD hinv.out.2
  have HX := hD hinv.out.1
  clear hinv EJ
  have hcs : i = 0 ∨ i = 1 ∨ i = 2 ∨ i = 3 ∨ i = 4 ∨ i = 5 := by omega
  clear hi
  rcases hcs with rfl | rfl | rfl | rfl | rfl | rfl
  · have C2 : Hid (decide (((0 : Nat) : Int) < 5) = true) := by show _ = _; decide
    go_upto_region 3 with (fail)
    refine rgQ [0] [] EK rfl fun hw => ?_
    refine qv rfl (fun u hu => ltZ_op u C2.out rfl rfl) hw ?_
    refine enP fun u103 EX102 => ?_
    go_upto_region 4 with (fail)
    refine rgQ [0] [1,2] EX102 rfl fun hw => ?_
    refine qv (v := .agg (ruleA 0)) rfl (fun u hu => idxRA_op (i := 0) (by decide) u rfl rfl) hw ?_
    refine wpG_nil <| qn rfl (new_rs _) fun g5 HG5 he105 => ?_
    change lexH _ _ _ _ _ _ [(g5, oc rule0A 138), (g3, oc (rulesA) 139), (w.heap.size, oc (trA b d) 83)]
    refine (sh (cs := ruleA 0) rfl HG5 (infoRS _ rfl) rfl (ruleA_one _) ?_)
    refine fun _ => enL fun u108 EX107 => ?_
    cases x0 with
    | false =>
     go_upto_region 5 with (fail)
     refine rgP [0,1,2,3,4] [] EX107 rfl ?_; intro hw109 hone
     refine qv (v := .pointer (some ⟨g5, 0, none⟩)) rfl (fun u hu => fieldRS_op (k := 0) (by decide) (ad := ⟨g5, 0, none⟩) u rfl) ⟨_, hw109⟩ ?_
     refine qv rfl (fun u hu => load_any_op u (box_rsF (i := 0) hu mH) rfl) ⟨_, hw109⟩ ?_
     refine qv rfl (fun u hu => load_any_op u (box_tr hu (mT (mT mH)) HB.out.len HD.out.len) rfl) ⟨_, hw109⟩ ?_
     (refine wpG_callV (f := 103) (args := #[.agg (trA b d)]) (caps := #[]) (all := #[.agg (trA b d)]) (v := .bool false) rfl rfl rfl rfl rfl func103 rfl rfl (fun u hu => HC0.out u (nl hu)) ?_ hw109; intro K hK; go_big_quiet_op; go_big_quiet_on)
     refine qo rfl ⟨_, hw109⟩ ?_
     clear hone hw109; refine enP fun u111 EX110 => ?_
     go_upto_region 6 with (fail)
     refine rgQ [0,1,2] [] EX110 rfl fun hw => ?_
     refine qv (v := .pointer (some ⟨g5, 1, none⟩)) rfl (fun u hu => fieldRS_op (k := 1) (by decide) (ad := ⟨g5, 0, none⟩) u rfl) hw ?_
     refine qv rfl (fun u hu => load_any_op u (box_rsE (i := 0) hu mH) rfl) hw ?_
     refine qo rfl hw ?_
     refine enP fun u114 EX113 => ?_
     have HBE := hD (EnvX.bel EX113.out)
     go_wp2
     go_ret
     exact ⟨rfl, HBE.out⟩
    | true =>
     go_upto_region 5 with (fail)
     refine rgP [0,1,2,3,4] [] EX107 rfl ?_; intro hw109 hone
     refine qv (v := .pointer (some ⟨g5, 0, none⟩)) rfl (fun u hu => fieldRS_op (k := 0) (by decide) (ad := ⟨g5, 0, none⟩) u rfl) ⟨_, hw109⟩ ?_
     refine qv rfl (fun u hu => load_any_op u (box_rsF (i := 0) hu mH) rfl) ⟨_, hw109⟩ ?_
     refine qv rfl (fun u hu => load_any_op u (box_tr hu (mT (mT mH)) HB.out.len HD.out.len) rfl) ⟨_, hw109⟩ ?_
     (refine wpG_callV (f := 103) (args := #[.agg (trA b d)]) (caps := #[]) (all := #[.agg (trA b d)]) (v := .bool true) rfl rfl rfl rfl rfl func103 rfl rfl (fun u hu => HC0.out u (nl hu)) ?_ hw109; intro K hK; go_big_quiet_op; go_big_quiet_on)
     refine qo rfl ⟨_, hw109⟩ ?_
     clear hone hw109; refine enP fun u111 EX110 => ?_
     go_wp2
     go_roundw
     case rel => exact ⟨1, by omega, by go_num, ⟨(fun _ => by simp), (fun h => absurd h (by omega)), (fun h => absurd h (by omega)), (fun h => absurd h (by omega)), (fun h => absurd h (by omega))⟩, EX110.out.sub (fun _ h => mT h)⟩
     case measure => simp [intOf]
  · have C2 : Hid (decide (((1 : Nat) : Int) < 5) = true) := by show _ = _; decide
    obtain rfl : x0 = true := HX.out.1 (by omega)
    go_upto_region 3 with (fail)
    refine rgQ [0] [] EK rfl fun hw => ?_
    refine qv rfl (fun u hu => ltZ_op u C2.out rfl rfl) hw ?_
    refine enP fun u203 EX202 => ?_
    go_upto_region 4 with (fail)
    refine rgQ [0] [1,2] EX202 rfl fun hw => ?_
    refine qv (v := .agg (ruleA 1)) rfl (fun u hu => idxRA_op (i := 1) (by decide) u rfl rfl) hw ?_
    refine wpG_nil <| qn rfl (new_rs _) fun g5 HG5 he205 => ?_
    change lexH _ _ _ _ _ _ [(g5, oc rule0A 138), (g3, oc (rulesA) 139), (w.heap.size, oc (trA b d) 83)]
    refine (sh (cs := ruleA 1) rfl HG5 (infoRS _ rfl) rfl (ruleA_one _) ?_)
    refine fun _ => enL fun u208 EX207 => ?_
    cases x1 with
    | false =>
     go_upto_region 5 with (fail)
     refine rgP [0,1,2,3,4] [] EX207 rfl ?_; intro hw209 hone
     refine qv (v := .pointer (some ⟨g5, 0, none⟩)) rfl (fun u hu => fieldRS_op (k := 0) (by decide) (ad := ⟨g5, 0, none⟩) u rfl) ⟨_, hw209⟩ ?_
     refine qv rfl (fun u hu => load_any_op u (box_rsF (i := 1) hu mH) rfl) ⟨_, hw209⟩ ?_
     refine qv rfl (fun u hu => load_any_op u (box_tr hu (mT (mT mH)) HB.out.len HD.out.len) rfl) ⟨_, hw209⟩ ?_
     (refine wpG_callV (f := 104) (args := #[.agg (trA b d)]) (caps := #[]) (all := #[.agg (trA b d)]) (v := .bool false) rfl rfl rfl rfl rfl func104 rfl rfl (fun u hu => HC1.out u (nl hu)) ?_ hw209; intro K hK; go_big_quiet_op; go_big_quiet_on)
     refine qo rfl ⟨_, hw209⟩ ?_
     clear hone hw209; refine enP fun u211 EX210 => ?_
     go_upto_region 6 with (fail)
     refine rgQ [0,1,2] [] EX210 rfl fun hw => ?_
     refine qv (v := .pointer (some ⟨g5, 1, none⟩)) rfl (fun u hu => fieldRS_op (k := 1) (by decide) (ad := ⟨g5, 0, none⟩) u rfl) hw ?_
     refine qv rfl (fun u hu => load_any_op u (box_rsE (i := 1) hu mH) rfl) hw ?_
     refine qo rfl hw ?_
     refine enP fun u214 EX213 => ?_
     have HBE := hD (EnvX.bel EX213.out)
     go_wp2
     go_ret
     exact ⟨rfl, HBE.out⟩
    | true =>
     go_upto_region 5 with (fail)
     refine rgP [0,1,2,3,4] [] EX207 rfl ?_; intro hw209 hone
     refine qv (v := .pointer (some ⟨g5, 0, none⟩)) rfl (fun u hu => fieldRS_op (k := 0) (by decide) (ad := ⟨g5, 0, none⟩) u rfl) ⟨_, hw209⟩ ?_
     refine qv rfl (fun u hu => load_any_op u (box_rsF (i := 1) hu mH) rfl) ⟨_, hw209⟩ ?_
     refine qv rfl (fun u hu => load_any_op u (box_tr hu (mT (mT mH)) HB.out.len HD.out.len) rfl) ⟨_, hw209⟩ ?_
     (refine wpG_callV (f := 104) (args := #[.agg (trA b d)]) (caps := #[]) (all := #[.agg (trA b d)]) (v := .bool true) rfl rfl rfl rfl rfl func104 rfl rfl (fun u hu => HC1.out u (nl hu)) ?_ hw209; intro K hK; go_big_quiet_op; go_big_quiet_on)
     refine qo rfl ⟨_, hw209⟩ ?_
     clear hone hw209; refine enP fun u211 EX210 => ?_
     go_wp2
     go_roundw
     case rel => exact ⟨2, by omega, by go_num, ⟨(fun _ => by simp), (fun _ => by simp), (fun h => absurd h (by omega)), (fun h => absurd h (by omega)), (fun h => absurd h (by omega))⟩, EX210.out.sub (fun _ h => mT h)⟩
     case measure => simp [intOf]
  · have C2 : Hid (decide (((2 : Nat) : Int) < 5) = true) := by show _ = _; decide
    obtain rfl : x0 = true := HX.out.1 (by omega)
    obtain rfl : x1 = true := HX.out.2.1 (by omega)
    go_upto_region 3 with (fail)
    refine rgQ [0] [] EK rfl fun hw => ?_
    refine qv rfl (fun u hu => ltZ_op u C2.out rfl rfl) hw ?_
    refine enP fun u303 EX302 => ?_
    go_upto_region 4 with (fail)
    refine rgQ [0] [1,2] EX302 rfl fun hw => ?_
    refine qv (v := .agg (ruleA 2)) rfl (fun u hu => idxRA_op (i := 2) (by decide) u rfl rfl) hw ?_
    refine wpG_nil <| qn rfl (new_rs _) fun g5 HG5 he305 => ?_
    change lexH _ _ _ _ _ _ [(g5, oc rule0A 138), (g3, oc (rulesA) 139), (w.heap.size, oc (trA b d) 83)]
    refine (sh (cs := ruleA 2) rfl HG5 (infoRS _ rfl) rfl (ruleA_one _) ?_)
    refine fun _ => enL fun u308 EX307 => ?_
    cases x2 with
    | false =>
     go_upto_region 5 with (fail)
     refine rgP [0,1,2,3,4] [] EX307 rfl ?_; intro hw309 hone
     refine qv (v := .pointer (some ⟨g5, 0, none⟩)) rfl (fun u hu => fieldRS_op (k := 0) (by decide) (ad := ⟨g5, 0, none⟩) u rfl) ⟨_, hw309⟩ ?_
     refine qv rfl (fun u hu => load_any_op u (box_rsF (i := 2) hu mH) rfl) ⟨_, hw309⟩ ?_
     refine qv rfl (fun u hu => load_any_op u (box_tr hu (mT (mT mH)) HB.out.len HD.out.len) rfl) ⟨_, hw309⟩ ?_
     (refine wpG_callV (f := 105) (args := #[.agg (trA b d)]) (caps := #[]) (all := #[.agg (trA b d)]) (v := .bool false) rfl rfl rfl rfl rfl func105 rfl rfl (fun u hu => HC2.out u (nl hu)) ?_ hw309; intro K hK; go_big_quiet_op; go_big_quiet_on)
     refine qo rfl ⟨_, hw309⟩ ?_
     clear hone hw309; refine enP fun u311 EX310 => ?_
     go_upto_region 6 with (fail)
     refine rgQ [0,1,2] [] EX310 rfl fun hw => ?_
     refine qv (v := .pointer (some ⟨g5, 1, none⟩)) rfl (fun u hu => fieldRS_op (k := 1) (by decide) (ad := ⟨g5, 0, none⟩) u rfl) hw ?_
     refine qv rfl (fun u hu => load_any_op u (box_rsE (i := 2) hu mH) rfl) hw ?_
     refine qo rfl hw ?_
     refine enP fun u314 EX313 => ?_
     have HBE := hD (EnvX.bel EX313.out)
     go_wp2
     go_ret
     exact ⟨rfl, HBE.out⟩
    | true =>
     go_upto_region 5 with (fail)
     refine rgP [0,1,2,3,4] [] EX307 rfl ?_; intro hw309 hone
     refine qv (v := .pointer (some ⟨g5, 0, none⟩)) rfl (fun u hu => fieldRS_op (k := 0) (by decide) (ad := ⟨g5, 0, none⟩) u rfl) ⟨_, hw309⟩ ?_
     refine qv rfl (fun u hu => load_any_op u (box_rsF (i := 2) hu mH) rfl) ⟨_, hw309⟩ ?_
     refine qv rfl (fun u hu => load_any_op u (box_tr hu (mT (mT mH)) HB.out.len HD.out.len) rfl) ⟨_, hw309⟩ ?_
     (refine wpG_callV (f := 105) (args := #[.agg (trA b d)]) (caps := #[]) (all := #[.agg (trA b d)]) (v := .bool true) rfl rfl rfl rfl rfl func105 rfl rfl (fun u hu => HC2.out u (nl hu)) ?_ hw309; intro K hK; go_big_quiet_op; go_big_quiet_on)
     refine qo rfl ⟨_, hw309⟩ ?_
     clear hone hw309; refine enP fun u311 EX310 => ?_
     go_wp2
     go_roundw
     case rel => exact ⟨3, by omega, by go_num, ⟨(fun _ => by simp), (fun _ => by simp), (fun _ => by simp), (fun h => absurd h (by omega)), (fun h => absurd h (by omega))⟩, EX310.out.sub (fun _ h => mT h)⟩
     case measure => simp [intOf]
  · have C2 : Hid (decide (((3 : Nat) : Int) < 5) = true) := by show _ = _; decide
    obtain rfl : x0 = true := HX.out.1 (by omega)
    obtain rfl : x1 = true := HX.out.2.1 (by omega)
    obtain rfl : x2 = true := HX.out.2.2.1 (by omega)
    go_upto_region 3 with (fail)
    refine rgQ [0] [] EK rfl fun hw => ?_
    refine qv rfl (fun u hu => ltZ_op u C2.out rfl rfl) hw ?_
    refine enP fun u403 EX402 => ?_
    go_upto_region 4 with (fail)
    refine rgQ [0] [1,2] EX402 rfl fun hw => ?_
    refine qv (v := .agg (ruleA 3)) rfl (fun u hu => idxRA_op (i := 3) (by decide) u rfl rfl) hw ?_
    refine wpG_nil <| qn rfl (new_rs _) fun g5 HG5 he405 => ?_
    change lexH _ _ _ _ _ _ [(g5, oc rule0A 138), (g3, oc (rulesA) 139), (w.heap.size, oc (trA b d) 83)]
    refine (sh (cs := ruleA 3) rfl HG5 (infoRS _ rfl) rfl (ruleA_one _) ?_)
    refine fun _ => enL fun u408 EX407 => ?_
    cases x3 with
    | false =>
     go_upto_region 5 with (fail)
     refine rgP [0,1,2,3,4] [] EX407 rfl ?_; intro hw409 hone
     refine qv (v := .pointer (some ⟨g5, 0, none⟩)) rfl (fun u hu => fieldRS_op (k := 0) (by decide) (ad := ⟨g5, 0, none⟩) u rfl) ⟨_, hw409⟩ ?_
     refine qv rfl (fun u hu => load_any_op u (box_rsF (i := 3) hu mH) rfl) ⟨_, hw409⟩ ?_
     refine qv rfl (fun u hu => load_any_op u (box_tr hu (mT (mT mH)) HB.out.len HD.out.len) rfl) ⟨_, hw409⟩ ?_
     (refine wpG_callV (f := 106) (args := #[.agg (trA b d)]) (caps := #[]) (all := #[.agg (trA b d)]) (v := .bool false) rfl rfl rfl rfl rfl func106 rfl rfl (fun u hu => HC3.out u (nl hu)) ?_ hw409; intro K hK; go_big_quiet_op; go_big_quiet_on)
     refine qo rfl ⟨_, hw409⟩ ?_
     clear hone hw409; refine enP fun u411 EX410 => ?_
     go_upto_region 6 with (fail)
     refine rgQ [0,1,2] [] EX410 rfl fun hw => ?_
     refine qv (v := .pointer (some ⟨g5, 1, none⟩)) rfl (fun u hu => fieldRS_op (k := 1) (by decide) (ad := ⟨g5, 0, none⟩) u rfl) hw ?_
     refine qv rfl (fun u hu => load_any_op u (box_rsE (i := 3) hu mH) rfl) hw ?_
     refine qo rfl hw ?_
     refine enP fun u414 EX413 => ?_
     have HBE := hD (EnvX.bel EX413.out)
     go_wp2
     go_ret
     exact ⟨rfl, HBE.out⟩
    | true =>
     go_upto_region 5 with (fail)
     refine rgP [0,1,2,3,4] [] EX407 rfl ?_; intro hw409 hone
     refine qv (v := .pointer (some ⟨g5, 0, none⟩)) rfl (fun u hu => fieldRS_op (k := 0) (by decide) (ad := ⟨g5, 0, none⟩) u rfl) ⟨_, hw409⟩ ?_
     refine qv rfl (fun u hu => load_any_op u (box_rsF (i := 3) hu mH) rfl) ⟨_, hw409⟩ ?_
     refine qv rfl (fun u hu => load_any_op u (box_tr hu (mT (mT mH)) HB.out.len HD.out.len) rfl) ⟨_, hw409⟩ ?_
     (refine wpG_callV (f := 106) (args := #[.agg (trA b d)]) (caps := #[]) (all := #[.agg (trA b d)]) (v := .bool true) rfl rfl rfl rfl rfl func106 rfl rfl (fun u hu => HC3.out u (nl hu)) ?_ hw409; intro K hK; go_big_quiet_op; go_big_quiet_on)
     refine qo rfl ⟨_, hw409⟩ ?_
     clear hone hw409; refine enP fun u411 EX410 => ?_
     go_wp2
     go_roundw
     case rel => exact ⟨4, by omega, by go_num, ⟨(fun _ => by simp), (fun _ => by simp), (fun _ => by simp), (fun _ => by simp), (fun h => absurd h (by omega))⟩, EX410.out.sub (fun _ h => mT h)⟩
     case measure => simp [intOf]
  · have C2 : Hid (decide (((4 : Nat) : Int) < 5) = true) := by show _ = _; decide
    obtain rfl : x0 = true := HX.out.1 (by omega)
    obtain rfl : x1 = true := HX.out.2.1 (by omega)
    obtain rfl : x2 = true := HX.out.2.2.1 (by omega)
    obtain rfl : x3 = true := HX.out.2.2.2.1 (by omega)
    go_upto_region 3 with (fail)
    refine rgQ [0] [] EK rfl fun hw => ?_
    refine qv rfl (fun u hu => ltZ_op u C2.out rfl rfl) hw ?_
    refine enP fun u503 EX502 => ?_
    go_upto_region 4 with (fail)
    refine rgQ [0] [1,2] EX502 rfl fun hw => ?_
    refine qv (v := .agg (ruleA 4)) rfl (fun u hu => idxRA_op (i := 4) (by decide) u rfl rfl) hw ?_
    refine wpG_nil <| qn rfl (new_rs _) fun g5 HG5 he505 => ?_
    change lexH _ _ _ _ _ _ [(g5, oc rule0A 138), (g3, oc (rulesA) 139), (w.heap.size, oc (trA b d) 83)]
    refine (sh (cs := ruleA 4) rfl HG5 (infoRS _ rfl) rfl (ruleA_one _) ?_)
    refine fun _ => enL fun u508 EX507 => ?_
    cases x4 with
    | false =>
     go_upto_region 5 with (fail)
     refine rgP [0,1,2,3,4] [] EX507 rfl ?_; intro hw509 hone
     refine qv (v := .pointer (some ⟨g5, 0, none⟩)) rfl (fun u hu => fieldRS_op (k := 0) (by decide) (ad := ⟨g5, 0, none⟩) u rfl) ⟨_, hw509⟩ ?_
     refine qv rfl (fun u hu => load_any_op u (box_rsF (i := 4) hu mH) rfl) ⟨_, hw509⟩ ?_
     refine qv rfl (fun u hu => load_any_op u (box_tr hu (mT (mT mH)) HB.out.len HD.out.len) rfl) ⟨_, hw509⟩ ?_
     (refine wpG_callV (f := 107) (args := #[.agg (trA b d)]) (caps := #[]) (all := #[.agg (trA b d)]) (v := .bool false) rfl rfl rfl rfl rfl func107 rfl rfl (fun u hu => HC4.out u (nl hu)) ?_ hw509; intro K hK; go_big_quiet_op; go_big_quiet_on)
     refine qo rfl ⟨_, hw509⟩ ?_
     clear hone hw509; refine enP fun u511 EX510 => ?_
     go_upto_region 6 with (fail)
     refine rgQ [0,1,2] [] EX510 rfl fun hw => ?_
     refine qv (v := .pointer (some ⟨g5, 1, none⟩)) rfl (fun u hu => fieldRS_op (k := 1) (by decide) (ad := ⟨g5, 0, none⟩) u rfl) hw ?_
     refine qv rfl (fun u hu => load_any_op u (box_rsE (i := 4) hu mH) rfl) hw ?_
     refine qo rfl hw ?_
     refine enP fun u514 EX513 => ?_
     have HBE := hD (EnvX.bel EX513.out)
     go_wp2
     go_ret
     exact ⟨rfl, HBE.out⟩
    | true =>
     go_upto_region 5 with (fail)
     refine rgP [0,1,2,3,4] [] EX507 rfl ?_; intro hw509 hone
     refine qv (v := .pointer (some ⟨g5, 0, none⟩)) rfl (fun u hu => fieldRS_op (k := 0) (by decide) (ad := ⟨g5, 0, none⟩) u rfl) ⟨_, hw509⟩ ?_
     refine qv rfl (fun u hu => load_any_op u (box_rsF (i := 4) hu mH) rfl) ⟨_, hw509⟩ ?_
     refine qv rfl (fun u hu => load_any_op u (box_tr hu (mT (mT mH)) HB.out.len HD.out.len) rfl) ⟨_, hw509⟩ ?_
     (refine wpG_callV (f := 107) (args := #[.agg (trA b d)]) (caps := #[]) (all := #[.agg (trA b d)]) (v := .bool true) rfl rfl rfl rfl rfl func107 rfl rfl (fun u hu => HC4.out u (nl hu)) ?_ hw509; intro K hK; go_big_quiet_op; go_big_quiet_on)
     refine qo rfl ⟨_, hw509⟩ ?_
     clear hone hw509; refine enP fun u511 EX510 => ?_
     go_wp2
     go_roundw
     case rel => exact ⟨5, by omega, by go_num, ⟨(fun _ => by simp), (fun _ => by simp), (fun _ => by simp), (fun _ => by simp), (fun _ => by simp)⟩, EX510.out.sub (fun _ h => mT h)⟩
     case measure => simp [intOf]
  · have C2 : Hid (decide (((5 : Nat) : Int) < 5) = false) := by show _ = _; decide
    obtain rfl : x0 = true := HX.out.1 (by omega)
    obtain rfl : x1 = true := HX.out.2.1 (by omega)
    obtain rfl : x2 = true := HX.out.2.2.1 (by omega)
    obtain rfl : x3 = true := HX.out.2.2.2.1 (by omega)
    obtain rfl : x4 = true := HX.out.2.2.2.2 (by omega)
    go_upto_region 3 with (fail)
    refine rgQ [0] [] EK rfl fun hw => ?_
    refine qv rfl (fun u hu => ltZ_op u C2.out rfl rfl) hw ?_
    refine enP fun u603 EX602 => ?_
    go_upto_region 8 with (fail)
    refine rgQ [0] [] EX602 rfl fun hw => ?_
    refine qo rfl hw ?_
    refine enP fun u606 EX605 => ?_
    have HBE := hD (EnvX.bel EX605.out)
    go_wp2
    go_ret
    exact ⟨rfl, HBE.out⟩
end Go.Proofs.YtpanpohdnbgdpaaGreatDoor
